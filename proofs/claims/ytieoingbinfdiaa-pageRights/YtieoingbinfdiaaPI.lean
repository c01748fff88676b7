/- Package page: the first stage. -/
import Derived.Test.YtieoingbinfdiaaPC1
import Derived.Test.YtieoingbinfdiaaPD
import Derived.Test.YtieoingbinfdiaaPE
namespace Go.Proofs.Ytieoingbinfdiaa
open Go.RowKit
set_option linter.unusedVariables false

def envL (v : EnvV) : List Value := [.int .u64 v.satp, .int .u64 v.root, .bool v.user, .bool v.sum, .bool v.mxr]
section
variable {w : World} {b : Nat} {ty : TypeId} {v : EnvV} {p : Nat} {addr table level wrong leaf : Int}
theorem WK.e7 (h : WK w b ty (envL v) p addr table level wrong leaf) : w.cell? ⟨b, 7, none⟩ = some (.int .u64 v.root) := by rw [cell_of_row w b 7 _ _ _ h]; rfl
theorem WK.e8 (h : WK w b ty (envL v) p addr table level wrong leaf) : w.cell? ⟨b, 8, none⟩ = some (.bool v.user) := by rw [cell_of_row w b 8 _ _ _ h]; rfl
theorem WK.e9 (h : WK w b ty (envL v) p addr table level wrong leaf) : w.cell? ⟨b, 9, none⟩ = some (.bool v.sum) := by rw [cell_of_row w b 9 _ _ _ h]; rfl
theorem WK.e10 (h : WK w b ty (envL v) p addr table level wrong leaf) : w.cell? ⟨b, 10, none⟩ = some (.bool v.mxr) := by rw [cell_of_row w b 10 _ _ _ h]; rfl
end
theorem gst_ok {R : Int → Int × Int} (hR : RdOk R) (root gpa acc : Int) (r0 : 0 ≤ root) (r1 : root < 18446744073709551616) (g0 : 0 ≤ gpa) (g1 : gpa < 18446744073709551616) : (0 ≤ (gst R root gpa acc).1 ∧ (gst R root gpa acc).1 < 18446744073709551616) ∧ ((gst R root gpa acc).2.2 = 0 ∨ (gst R root gpa acc).2.2 = 2 ∨ (gst R root gpa acc).2.2 = 3) := by
  have hd := D_ok hR gpa 2 2 root (by decide) r0 r1
  unfold gst
  split
  · exact ⟨⟨g0, g1⟩, .inl rfl⟩
  · split
    · exact ⟨⟨Int.le_refl 0, show (0 : Int) < 18446744073709551616 by decide⟩, .inr (.inl rfl)⟩
    · split
      · rename_i h
        refine ⟨⟨Int.le_refl 0, show (0 : Int) < 18446744073709551616 by decide⟩, ?_⟩
        rcases hd.flt with q | q | q | q
        · exact absurd q h
        · exact .inr (.inl q)
        · exact .inr (.inl q)
        · exact .inr (.inr q)
      · split
        · refine ⟨?_, .inl rfl⟩
          have n1 := num_b hd.leaf0 hd.leaf1
          have hl := hd.lev
          show 0 ≤ plc _ _ ∧ plc _ _ < _
          unfold plc
          rcases (show (D R gpa 2 2 root).level = 0 ∨ (D R gpa 2 2 root).level = 1 ∨ (D R gpa 2 2 root).level = 2 by omega) with q | q | q
          · rw [q, pw0]; omega
          · rw [q, pw1]; omega
          · rw [q, pw2]; omega
        · exact ⟨⟨Int.le_refl 0, show (0 : Int) < 18446744073709551616 by decide⟩, .inr (.inl rfl)⟩
theorem gst_flt {R : Int → Int × Int} (hR : RdOk R) (root gpa acc : Int) (r0 : 0 ≤ root) (r1 : root < 18446744073709551616) : (gst R root gpa acc).2.2 = 0 ∨ (gst R root gpa acc).2.2 = 2 ∨ (gst R root gpa acc).2.2 = 3 := by
  have hd := D_ok hR gpa 2 2 root (by decide) r0 r1
  unfold gst
  split
  · exact .inl rfl
  · split
    · exact .inr (.inl rfl)
    · split
      · rename_i h
        rcases hd.flt with q | q | q | q
        · exact absurd q h
        · exact .inr (.inl q)
        · exact .inr (.inl q)
        · exact .inr (.inr q)
      · split
        · exact .inl rfl
        · exact .inr (.inl rfl)
theorem rdg_ok {R : Int → Int × Int} (hR : RdOk R) (root : Int) (r0 : 0 ≤ root) (r1 : root < 18446744073709551616) : RdOk (rdg R root) := by
  intro a
  unfold rdg
  split
  · exact ⟨⟨Int.le_refl 0, show (0 : Int) < 18446744073709551616 by decide⟩, gst_flt hR root a 2 r0 r1⟩
  · exact hR _
set_option maxRecDepth 100000 in
theorem c_loadGuest (w : World) (b : Nat) (ty : TypeId) (v : EnvV) (p : Nat) (addr table level wrong leaf : Int) (h : WK w b ty (envL v) p addr table level wrong leaf)
    (S : Nat → Prop) (n : Nat) (f : Nat → Int) (hm : Mem w S p 0 n f) (a : Int) (a0 : 0 ≤ a) (a1 : a < 18446744073709551616) (r0 : 0 ≤ v.root) (r1 : v.root < 18446744073709551616) :
    Calls Try.prog 55 #[.pointer (some ⟨b, 0, none⟩), .int .u64 a] w fun e w' => e = .returned (.tuple #[.int .u64 (rdg (rdm n f) v.root a).1, .int .i64 (rdg (rdm n f) v.root a).2]) ∧ Below w.heap.size w w' := by
  have c0 := h.c0
  have c7 := h.e7
  have hRd := rdm_ok n f hm.byt
  obtain ⟨⟨x0, x1⟩, hz⟩ := gst_ok hRd v.root a 2 r0 r1 a0 a1
  obtain ⟨x, y, z, hg⟩ : ∃ x y z, gst (rdm n f) v.root a 2 = (x, y, z) := ⟨_, _, _, rfl⟩
  rw [hg] at x0 x1 hz
  have x0' : 0 ≤ x := x0
  have x1' : x < 18446744073709551616 := x1
  have HW := hid h
  have HM := hid hm
  have HG := hid hg
  have hv : rdg (rdm n f) v.root a = if z ≠ 0 then (0, z) else rdm n f x := by unfold rdg; rw [hg]
  rw [hv]
  clear h hm hg x0 x1 hz hv
  go_enter Try.func55, Try.ntmps55
  by_cases q : z = 0
  · subst q
    rw [if_neg (by decide)]
    go_wp2_with fail
    go_region_law (refine step_call4 rfl 43 (.tmp 14) (.tmp 19) (.tmp 20) (.const (.int .i64 2)) _ rfl (.pointer (some ⟨p, 0, none⟩)) (.int .u64 v.root) (.int .u64 a) (.int .i64 2) (by go_simp) (by go_simp) (by go_simp) rfl (Try.call43 _ _) (c_Guest w.drew S p n f (HM.out.below (Below.refl _ _).drew) v.root a 2 r0 r1 a0 a1 x y 0 HG.out) ?_; rintro e w1 ⟨rfl, hb1⟩; have HB1 : Hid (Below w.heap.size w w1) := (Below.refl _ _).drew.trans hb1; clear hb1; refine ⟨_, rfl, ?_⟩)
    all_goals
      go_wp2_with (go_at_call 61; refine (c_loadW w1 b ty _ p addr table level wrong leaf (HW.out.below HB1.out) S n f (HM.out.below HB1.out) x x0' x1').mono ?_; rintro e w2 ⟨rfl, hb2⟩; have HB2 := hid hb2; clear hb2)
      go_ret2
      exact ⟨rfl, HB1.out.trans (HB2.out.mono HB1.out.size)⟩
  · rw [if_pos q]
    go_wp2_with fail
    go_region_law (refine step_call4 rfl 43 (.tmp 14) (.tmp 19) (.tmp 20) (.const (.int .i64 2)) _ rfl (.pointer (some ⟨p, 0, none⟩)) (.int .u64 v.root) (.int .u64 a) (.int .i64 2) (by go_simp) (by go_simp) (by go_simp) rfl (Try.call43 _ _) (c_Guest w.drew S p n f (HM.out.below (Below.refl _ _).drew) v.root a 2 r0 r1 a0 a1 x y z HG.out) ?_; rintro e w1 ⟨rfl, hb1⟩; have HB1 : Hid (Below w.heap.size w w1) := (Below.refl _ _).drew.trans hb1; clear hb1; refine ⟨_, rfl, ?_⟩)
    all_goals
      go_wp2_with fail
      go_ret2
      exact ⟨rfl, HB1.out⟩
theorem c_belongs (w : World) (b : Nat) (ty : TypeId) (v : EnvV) (p : Nat) (addr table level wrong leaf acc : Int) (h : WK w b ty (envL v) p addr table level wrong leaf) (h0 : 0 ≤ leaf) (h1 : leaf < 18446744073709551616) :
    Calls Try.prog 57 #[.pointer (some ⟨b, 0, none⟩), .int .i64 acc] w fun r w' => r = .returned (.bool (bel leaf v acc)) ∧ ∃ m, w' = w.drewN m := by
  have c5 := h.c5
  have c8 := h.e8
  have c9 := h.e9
  clear h
  obtain ⟨us, hus⟩ : ∃ us, v.user = us := ⟨_, rfl⟩
  obtain ⟨su, hsu⟩ : ∃ su, v.sum = su := ⟨_, rfl⟩
  rw [hus] at c8
  rw [hsu] at c9
  have HU := hid hus
  have HS := hid hsu
  clear hus hsu
  go_enter Try.func57, Try.ntmps57
  cases us
  · cases b16 : hs leaf 16
    · go_wp2_with (first
        | (go_at_call 56; (with_reducible refine (c_has16 leaf h0 h1 _ b16 _).mono ?_); rintro r w2 ⟨rfl, hw2⟩; obtain rfl := hw2.symm))
      go_ret
      exact ⟨ret_bool (by simp [bel, HU.out, b16]), 0, rfl⟩
    · cases su
      · go_wp2_with (first
          | (go_at_call 56; (with_reducible refine (c_has16 leaf h0 h1 _ b16 _).mono ?_); rintro r w2 ⟨rfl, hw2⟩; obtain rfl := hw2.symm))
        go_ret
        exact ⟨ret_bool (by simp [bel, HU.out, HS.out, b16]), 0, rfl⟩
      · go_wp2_with (first
          | (go_at_call 56; (with_reducible refine (c_has16 leaf h0 h1 _ b16 _).mono ?_); rintro r w2 ⟨rfl, hw2⟩; obtain rfl := hw2.symm))
        go_ret
        refine ⟨ret_bool ?_, 0, rfl⟩
        rw [Bool.eq_iff_iff]; simp [bel, HU.out, HS.out, b16]
  · go_wp2_with (first
      | (go_at_call 56; (with_reducible refine (c_has16 leaf h0 h1 _ rfl _).mono ?_); rintro r w2 ⟨rfl, hw2⟩; obtain rfl := hw2.symm))
    go_ret
    exact ⟨ret_bool (by simp [bel, HU.out]), 0, rfl⟩
theorem c_allows1 (w : World) (b : Nat) (ty : TypeId) (v : EnvV) (p : Nat) (addr table level wrong leaf acc : Int) (h : WK w b ty (envL v) p addr table level wrong leaf) (h0 : 0 ≤ leaf) (h1 : leaf < 18446744073709551616) :
    Calls Try.prog 58 #[.pointer (some ⟨b, 0, none⟩), .int .i64 acc] w fun r w' => r = .returned (.bool (alf leaf v acc)) ∧ ∃ m, w' = w.drewN m := by
  have c5 := h.c5
  have c10 := h.e10
  clear h
  obtain ⟨mx, hmx⟩ : ∃ mx, v.mxr = mx := ⟨_, rfl⟩
  rw [hmx] at c10
  have HX := hid hmx
  clear hmx
  go_enter Try.func58, Try.ntmps58
  by_cases a1 : acc = 1
  · subst a1
    go_wp2_with (first
      | (go_at_call 56; (with_reducible refine (c_has8 leaf h0 h1 _ rfl _).mono ?_); rintro r w2 ⟨rfl, hw2⟩; obtain rfl := hw2.symm))
    go_ret
    exact ⟨ret_bool (by simp [alf]), 0, rfl⟩
  · by_cases a2 : acc = 2
    · subst a2
      cases b2 : hs leaf 2
      · cases mx
        · go_wp2_with (first
            | (go_at_call 56; (with_reducible refine (c_has2 leaf h0 h1 _ b2 _).mono ?_); rintro r w2 ⟨rfl, hw2⟩; obtain rfl := hw2.symm))
          go_ret
          exact ⟨ret_bool (by simp [alf, HX.out, b2]), 0, rfl⟩
        · go_wp2_with (first
            | (go_at_call 56; (with_reducible refine (c_has2 leaf h0 h1 _ b2 _).mono ?_); rintro r w2 ⟨rfl, hw2⟩; obtain rfl := hw2.symm)
            | (go_at_call 56; (with_reducible refine (c_has8 leaf h0 h1 _ rfl _).mono ?_); rintro r w2 ⟨rfl, hw2⟩; obtain rfl := hw2.symm))
          go_ret
          exact ⟨ret_bool (by simp [alf, HX.out, b2]), 0, rfl⟩
      · go_wp2_with (first
          | (go_at_call 56; (with_reducible refine (c_has2 leaf h0 h1 _ b2 _).mono ?_); rintro r w2 ⟨rfl, hw2⟩; obtain rfl := hw2.symm))
        go_ret
        exact ⟨ret_bool (by simp [alf, b2]), 0, rfl⟩
    · by_cases a3 : acc = 3
      · subst a3
        go_wp2_with (first
          | (go_at_call 56; (with_reducible refine (c_has132 leaf h0 h1 _ rfl _).mono ?_); rintro r w2 ⟨rfl, hw2⟩; obtain rfl := hw2.symm))
        go_ret
        exact ⟨ret_bool (by simp [alf]), 0, rfl⟩
      · go_wp2_with fail
        go_ret
        exact ⟨ret_bool (by simp [alf, a1, a2, a3]), 0, rfl⟩
theorem c_isExtended (w : World) (va : Int) (v0 : 0 ≤ va) (v1 : va < 18446744073709551616) :
    Calls Try.prog 53 #[.int .u64 va] w fun r w' => r = .returned (.bool (ext va)) ∧ w' = w := by
  go_enter Try.func53, Try.ntmps53
  go_wp2_with fail
  · go_ret
    have h := ‹wrap64 va / 274877906944 = 0›
    unfold wrap64 at h
    exact ⟨ret_bool (by rw [Bool.eq_iff_iff]; simp [ext]; omega), rfl⟩
  · go_ret
    have h := ‹¬ wrap64 va / 274877906944 = 0›
    unfold wrap64 at h
    exact ⟨ret_bool (by rw [Bool.eq_iff_iff]; simp [ext]; unfold wrap64; omega), rfl⟩
theorem c_newFirst (w : World) (p : Nat) (v : EnvV) (va : Int) (s0 : 0 ≤ v.satp) :
    Calls Try.prog 46 #[.pointer (some ⟨p, 0, none⟩), .agg #[.int .u64 v.satp, .int .u64 v.root, .bool v.user, .bool v.sum, .bool v.mxr], .int .u64 va] w fun r w' => r = .returned (.agg #[.pointer (some ⟨p, 0, none⟩), .int .u64 va, .int .u64 (v.satp % 17592186044416), .int .i64 0, .int .i64 1, .int .u64 0, .int .u64 v.satp, .int .u64 v.root, .bool v.user, .bool v.sum, .bool v.mxr]) ∧ Below w.heap.size w w' := by
  go_enter Try.func46, Try.ntmps46
  go_wp2
  go_returns
  exact ⟨rfl, ((Below.refl _ _).alloc (Nat.le_refl _) _).alloc (by simp) _⟩
end Go.Proofs.Ytieoingbinfdiaa
