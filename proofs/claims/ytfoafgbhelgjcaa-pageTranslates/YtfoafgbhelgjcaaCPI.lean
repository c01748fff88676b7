/- Package page: the first stage. -/
import Derived.Test.YtfoafgbhelgjcaaCPC1
import Derived.Test.YtfoafgbhelgjcaaMC3
namespace Go.Proofs.Ytfoafgbhelgjcaa.C
open Go.RowKit
set_option linter.unusedVariables false
set_option maxRecDepth 100000

def envL (v : EnvV) : List Value := [.int .u64 v.satp, .int .u64 v.root, .bool v.user, .bool v.sum, .bool v.mxr]
def tl (v : EnvV) (cm ce : Nat) : List Value := [.int .u64 v.satp, .int .u64 v.root, .bool v.user, .bool v.sum, .bool v.mxr, .func (.func 67) #[] #[.pointer (some ⟨cm, 0, none⟩), .pointer (some ⟨ce, 0, none⟩)]]
/-- what the closure has hold of: the memory and the root -/
structure Cap (w : World) (cm ce p : Nat) (root : Int) : Prop where
  m : w.cell? ⟨cm, 0, none⟩ = some (.pointer (some ⟨p, 0, none⟩))
  e : w.cell? ⟨ce, 1, none⟩ = some (.int .u64 root)
  lm : cm < w.heap.size
  le : ce < w.heap.size
theorem Cap.only {w w' : World} {cm ce p : Nat} {root : Int} (h : Cap w cm ce p root) {T : Nat → Prop} (ho : Only T w w') (h1 : ¬ T cm) (h2 : ¬ T ce) : Cap w' cm ce p root :=
  ⟨(ho.cell 0 h.lm h1).trans h.m, (ho.cell 1 h.le h2).trans h.e, Nat.lt_of_lt_of_le h.lm ho.size, Nat.lt_of_lt_of_le h.le ho.size⟩
theorem Cap.below {w w' : World} {cm ce p : Nat} {root : Int} (h : Cap w cm ce p root) (hb : Below w.heap.size w w') : Cap w' cm ce p root := h.only (T := fun _ => False) (Only.ofBelow hb) (fun q => q) (fun q => q)
theorem c_ask (w : World) (S : Nat → Prop) (p n : Nat) (f : Nat → Int) (hm : Mem w S p 0 n f) (cm ce : Nat) (root : Int) (hc : Cap w cm ce p root) (gpa acc : Int) (s0 : 0 ≤ root) (s1 : root < 18446744073709551616) (a0 : 0 ≤ gpa) (a1 : gpa < 18446744073709551616) (x y z : Int) (hg : gst (rdm n f) root gpa acc = (x, y, z)) :
    Calls Try.prog 67 #[.int .u64 gpa, .int .i64 acc, .pointer (some ⟨cm, 0, none⟩), .pointer (some ⟨ce, 0, none⟩)] w fun r w' => r = .returned (.tuple #[.int .u64 x, .int .i64 z]) ∧ Below w.heap.size w w' := by
  have k0 := hc.m
  have k1 := hc.e
  have HM := hid hm
  have HG := hid hg
  clear hm hg
  go_enter Try.func67, Try.ntmps67
  go_wp2_with (first
    | (go_at_call 37; refine (c_Guest w S p n f HM.out root gpa acc s0 s1 a0 a1 x y z HG.out).mono ?_; rintro e w1 ⟨rfl, hb1⟩; have HB1 := hid hb1; clear hb1))
  go_ret2
  exact ⟨rfl, HB1.out⟩
section
variable {w : World} {b : Nat} {ty : TypeId} {v : EnvV} {p : Nat} {addr table level wrong leaf : Int} {cm ce : Nat}
theorem WK.e7 (h : WK w b ty (tl v cm ce) p addr table level wrong leaf) : w.cell? ⟨b, 7, none⟩ = some (.int .u64 v.root) := by rw [cell_of_row w b 7 _ _ _ h]; rfl
theorem WK.e8 (h : WK w b ty (tl v cm ce) p addr table level wrong leaf) : w.cell? ⟨b, 8, none⟩ = some (.bool v.user) := by rw [cell_of_row w b 8 _ _ _ h]; rfl
theorem WK.e9 (h : WK w b ty (tl v cm ce) p addr table level wrong leaf) : w.cell? ⟨b, 9, none⟩ = some (.bool v.sum) := by rw [cell_of_row w b 9 _ _ _ h]; rfl
theorem WK.e10 (h : WK w b ty (tl v cm ce) p addr table level wrong leaf) : w.cell? ⟨b, 10, none⟩ = some (.bool v.mxr) := by rw [cell_of_row w b 10 _ _ _ h]; rfl
theorem WK.e11 (h : WK w b ty (tl v cm ce) p addr table level wrong leaf) : w.cell? ⟨b, 11, none⟩ = some (.func (.func 67) #[] #[.pointer (some ⟨cm, 0, none⟩), .pointer (some ⟨ce, 0, none⟩)]) := by rw [cell_of_row w b 11 _ _ _ h]; rfl
end
theorem gst_ok {R : Int → Int × Int} (hR : RdOk R) (root gpa acc : Int) (r0 : 0 ≤ root) (r1 : root < 18446744073709551616) (g0 : 0 ≤ gpa) (g1 : gpa < 18446744073709551616) : (0 ≤ (gst R root gpa acc).1 ∧ (gst R root gpa acc).1 < 18446744073709551616) ∧ ((gst R root gpa acc).2.2 = 0 ∨ (gst R root gpa acc).2.2 = 2 ∨ (gst R root gpa acc).2.2 = 3) := by
  have hd := D_ok hR gpa 2 2 root (by decide) r0 r1
  unfold gst
  split
  · exact ⟨⟨g0, g1⟩, .inl rfl⟩
  · split
    · exact ⟨⟨Int.le_refl 0, show (0 : Int) < 18446744073709551616 by decide⟩, .inr (.inl rfl)⟩
    · split
      · rename_i h
        refine ⟨⟨Int.le_refl 0, show (0 : Int) < 18446744073709551616 by decide⟩, ?_⟩
        rcases hd.flt with q | q | q | q
        · exact absurd q h
        · exact .inr (.inl q)
        · exact .inr (.inl q)
        · exact .inr (.inr q)
      · split
        · refine ⟨?_, .inl rfl⟩
          have n1 := num_b hd.leaf0 hd.leaf1
          have hl := hd.lev
          show 0 ≤ plc _ _ ∧ plc _ _ < _
          unfold plc
          rcases (show (D R gpa 2 2 root).level = 0 ∨ (D R gpa 2 2 root).level = 1 ∨ (D R gpa 2 2 root).level = 2 by omega) with q | q | q
          · rw [q, pw0]; omega
          · rw [q, pw1]; omega
          · rw [q, pw2]; omega
        · exact ⟨⟨Int.le_refl 0, show (0 : Int) < 18446744073709551616 by decide⟩, .inr (.inl rfl)⟩
theorem gst_flt {R : Int → Int × Int} (hR : RdOk R) (root gpa acc : Int) (r0 : 0 ≤ root) (r1 : root < 18446744073709551616) : (gst R root gpa acc).2.2 = 0 ∨ (gst R root gpa acc).2.2 = 2 ∨ (gst R root gpa acc).2.2 = 3 := by
  have hd := D_ok hR gpa 2 2 root (by decide) r0 r1
  unfold gst
  split
  · exact .inl rfl
  · split
    · exact .inr (.inl rfl)
    · split
      · rename_i h
        rcases hd.flt with q | q | q | q
        · exact absurd q h
        · exact .inr (.inl q)
        · exact .inr (.inl q)
        · exact .inr (.inr q)
      · split
        · exact .inl rfl
        · exact .inr (.inl rfl)
theorem rdg_ok {R : Int → Int × Int} (hR : RdOk R) (root : Int) (r0 : 0 ≤ root) (r1 : root < 18446744073709551616) : RdOk (rdg R root) := by
  intro a
  unfold rdg
  split
  · exact ⟨⟨Int.le_refl 0, show (0 : Int) < 18446744073709551616 by decide⟩, gst_flt hR root a 2 r0 r1⟩
  · exact hR _
set_option maxRecDepth 100000 in
theorem c_loadGuest (w : World) (b : Nat) (ty : TypeId) (v : EnvV) (p : Nat) (addr table level wrong leaf : Int) (cm ce : Nat) (h : WK w b ty (tl v cm ce) p addr table level wrong leaf)
    (S : Nat → Prop) (n : Nat) (f : Nat → Int) (hm : Mem w S p 0 n f) (hc : Cap w cm ce p v.root) (a : Int) (a0 : 0 ≤ a) (a1 : a < 18446744073709551616) (r0 : 0 ≤ v.root) (r1 : v.root < 18446744073709551616) :
    Calls Try.prog 115 #[.pointer (some ⟨b, 0, none⟩), .int .u64 a] w fun e w' => e = .returned (.tuple #[.int .u64 (rdg (rdm n f) v.root a).1, .int .i64 (rdg (rdm n f) v.root a).2]) ∧ Below w.heap.size w w' := by
  have c11 := h.e11
  have hRd := rdm_ok n f hm.byt
  obtain ⟨⟨x0, x1⟩, hz⟩ := gst_ok hRd v.root a 2 r0 r1 a0 a1
  obtain ⟨x, y, z, hg⟩ : ∃ x y z, gst (rdm n f) v.root a 2 = (x, y, z) := ⟨_, _, _, rfl⟩
  rw [hg] at x0 x1 hz
  have x0' : 0 ≤ x := x0
  have x1' : x < 18446744073709551616 := x1
  have HW := hid h
  have HM := hid hm
  have HG := hid hg
  have HC := hid hc
  have hv : rdg (rdm n f) v.root a = if z ≠ 0 then (0, z) else rdm n f x := by unfold rdg; rw [hg]
  rw [hv]
  clear h hm hg hc x0 x1 hz hv
  go_enter Try.func115, Try.ntmps115
  by_cases q : z = 0
  · subst q
    rw [if_neg (by decide)]
    go_wp2_with (first
      | (go_at_call 67; refine (c_ask w S p n f HM.out cm ce v.root HC.out a 2 r0 r1 a0 a1 x y 0 HG.out).mono ?_; rintro e w1 ⟨rfl, hb1⟩; have HB1 := hid hb1; clear hb1)
      | (go_at_call 101; refine (c_loadW w1 b ty _ p addr table level wrong leaf (HW.out.below HB1.out) S n f (HM.out.below HB1.out) x x0' x1').mono ?_; rintro e w2 ⟨rfl, hb2⟩; have HB2 := hid hb2; clear hb2))
    go_ret2
    exact ⟨rfl, HB1.out.trans (HB2.out.mono HB1.out.size)⟩
  · rw [if_pos q]
    have q' : (z != 0) = true := by simpa using q
    go_wp2_with (first
      | (go_at_call 67; refine (c_ask w S p n f HM.out cm ce v.root HC.out a 2 r0 r1 a0 a1 x y z HG.out).mono ?_; rintro e w1 ⟨rfl, hb1⟩; have HB1 := hid hb1; clear hb1))
    go_ret2
    exact ⟨rfl, HB1.out⟩
theorem c_belongs {cm ce : Nat} (w : World) (b : Nat) (ty : TypeId) (v : EnvV) (p : Nat) (addr table level wrong leaf acc : Int) (h : WK w b ty (tl v cm ce) p addr table level wrong leaf) (h0 : 0 ≤ leaf) (h1 : leaf < 18446744073709551616) :
    Calls Try.prog 116 #[.pointer (some ⟨b, 0, none⟩), .int .i64 acc] w fun r w' => r = .returned (.bool (bel leaf v acc)) ∧ ∃ m, w' = w.drewN m := by
  have c5 := h.c5
  have c8 := h.e8
  have c9 := h.e9
  clear h
  obtain ⟨us, hus⟩ : ∃ us, v.user = us := ⟨_, rfl⟩
  obtain ⟨su, hsu⟩ : ∃ su, v.sum = su := ⟨_, rfl⟩
  rw [hus] at c8
  rw [hsu] at c9
  have HU := hid hus
  have HS := hid hsu
  clear hus hsu
  go_enter Try.func116, Try.ntmps116
  cases us
  · cases b16 : hs leaf 16
    · go_wp2_with (first
        | (go_at_call 105; (with_reducible refine (c_has16 leaf h0 h1 _ b16 _).mono ?_); rintro r w2 ⟨rfl, hw2⟩; obtain rfl := hw2.symm))
      go_ret
      exact ⟨ret_bool (by simp [bel, HU.out, b16]), 0, rfl⟩
    · cases su
      · go_wp2_with (first
          | (go_at_call 105; (with_reducible refine (c_has16 leaf h0 h1 _ b16 _).mono ?_); rintro r w2 ⟨rfl, hw2⟩; obtain rfl := hw2.symm))
        go_ret
        exact ⟨ret_bool (by simp [bel, HU.out, HS.out, b16]), 0, rfl⟩
      · go_wp2_with (first
          | (go_at_call 105; (with_reducible refine (c_has16 leaf h0 h1 _ b16 _).mono ?_); rintro r w2 ⟨rfl, hw2⟩; obtain rfl := hw2.symm))
        go_ret
        refine ⟨ret_bool ?_, 0, rfl⟩
        rw [Bool.eq_iff_iff]; simp [bel, HU.out, HS.out, b16]
  · go_wp2_with (first
      | (go_at_call 105; (with_reducible refine (c_has16 leaf h0 h1 _ rfl _).mono ?_); rintro r w2 ⟨rfl, hw2⟩; obtain rfl := hw2.symm))
    go_ret
    exact ⟨ret_bool (by simp [bel, HU.out]), 0, rfl⟩
theorem c_allows1 {cm ce : Nat} (w : World) (b : Nat) (ty : TypeId) (v : EnvV) (p : Nat) (addr table level wrong leaf acc : Int) (h : WK w b ty (tl v cm ce) p addr table level wrong leaf) (h0 : 0 ≤ leaf) (h1 : leaf < 18446744073709551616) :
    Calls Try.prog 117 #[.pointer (some ⟨b, 0, none⟩), .int .i64 acc] w fun r w' => r = .returned (.bool (alf leaf v acc)) ∧ ∃ m, w' = w.drewN m := by
  have c5 := h.c5
  have c10 := h.e10
  clear h
  obtain ⟨mx, hmx⟩ : ∃ mx, v.mxr = mx := ⟨_, rfl⟩
  rw [hmx] at c10
  have HX := hid hmx
  clear hmx
  go_enter Try.func117, Try.ntmps117
  by_cases a1 : acc = 1
  · subst a1
    go_wp2_with (first
      | (go_at_call 105; (with_reducible refine (c_has8 leaf h0 h1 _ rfl _).mono ?_); rintro r w2 ⟨rfl, hw2⟩; obtain rfl := hw2.symm))
    go_ret
    exact ⟨ret_bool (by simp [alf]), 0, rfl⟩
  · by_cases a2 : acc = 2
    · subst a2
      cases b2 : hs leaf 2
      · cases mx
        · go_wp2_with (first
            | (go_at_call 105; (with_reducible refine (c_has2 leaf h0 h1 _ b2 _).mono ?_); rintro r w2 ⟨rfl, hw2⟩; obtain rfl := hw2.symm))
          go_ret
          exact ⟨ret_bool (by simp [alf, HX.out, b2]), 0, rfl⟩
        · go_wp2_with (first
            | (go_at_call 105; (with_reducible refine (c_has2 leaf h0 h1 _ b2 _).mono ?_); rintro r w2 ⟨rfl, hw2⟩; obtain rfl := hw2.symm)
            | (go_at_call 105; (with_reducible refine (c_has8 leaf h0 h1 _ rfl _).mono ?_); rintro r w2 ⟨rfl, hw2⟩; obtain rfl := hw2.symm))
          go_ret
          exact ⟨ret_bool (by simp [alf, HX.out, b2]), 0, rfl⟩
      · go_wp2_with (first
          | (go_at_call 105; (with_reducible refine (c_has2 leaf h0 h1 _ b2 _).mono ?_); rintro r w2 ⟨rfl, hw2⟩; obtain rfl := hw2.symm))
        go_ret
        exact ⟨ret_bool (by simp [alf, b2]), 0, rfl⟩
    · by_cases a3 : acc = 3
      · subst a3
        go_wp2_with (first
          | (go_at_call 105; (with_reducible refine (c_has132 leaf h0 h1 _ rfl _).mono ?_); rintro r w2 ⟨rfl, hw2⟩; obtain rfl := hw2.symm))
        go_ret
        exact ⟨ret_bool (by simp [alf]), 0, rfl⟩
      · go_wp2_with fail
        go_ret
        exact ⟨ret_bool (by simp [alf, a1, a2, a3]), 0, rfl⟩
theorem c_isExtended (w : World) (va : Int) (v0 : 0 ≤ va) (v1 : va < 18446744073709551616) :
    Calls Try.prog 114 #[.int .u64 va] w fun r w' => r = .returned (.bool (ext va)) ∧ w' = w := by
  go_enter Try.func114, Try.ntmps114
  go_wp2_with fail
  · go_ret
    have h := ‹wrap64 va / 274877906944 = 0›
    unfold wrap64 at h
    exact ⟨ret_bool (by rw [Bool.eq_iff_iff]; simp [ext]; omega), rfl⟩
  · go_ret
    have h := ‹¬ wrap64 va / 274877906944 = 0›
    unfold wrap64 at h
    exact ⟨ret_bool (by rw [Bool.eq_iff_iff]; simp [ext]; unfold wrap64; omega), rfl⟩
theorem rs_func (w : World) (a : Addr) (f : Fn) (x c : Array Value) : (store a (.func f x c)).run Try.prog w = stored Try.prog w a (.func f x c) .plain := run_store Try.prog w a _ .plain rfl
theorem c_newFirst (w : World) (p : Nat) (v : EnvV) (va : Int) (cm ce : Nat) (s0 : 0 ≤ v.satp) :
    Calls Try.prog 106 #[.pointer (some ⟨p, 0, none⟩), .agg #[.int .u64 v.satp, .int .u64 v.root, .bool v.user, .bool v.sum, .bool v.mxr], .int .u64 va, .func (.func 67) #[] #[.pointer (some ⟨cm, 0, none⟩), .pointer (some ⟨ce, 0, none⟩)]] w fun r w' => r = .returned (.agg #[.pointer (some ⟨p, 0, none⟩), .int .u64 va, .int .u64 (v.satp % 17592186044416), .int .i64 0, .int .i64 1, .int .u64 0, .int .u64 v.satp, .int .u64 v.root, .bool v.user, .bool v.sum, .bool v.mxr, .func (.func 67) #[] #[.pointer (some ⟨cm, 0, none⟩), .pointer (some ⟨ce, 0, none⟩)]]) ∧ Below w.heap.size w w' := by
  go_enter Try.func106, Try.ntmps106
  have hrs := rs_func
  go_wp2
  go_returns
  exact ⟨rfl, ((Below.refl _ _).alloc (Nat.le_refl _) _).alloc (by simp) _⟩
end Go.Proofs.Ytfoafgbhelgjcaa.C
