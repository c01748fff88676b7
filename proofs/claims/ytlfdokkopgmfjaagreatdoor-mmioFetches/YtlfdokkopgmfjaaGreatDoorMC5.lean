/- Package page: the first stage. -/
import Derived.Test.YtlfdokkopgmfjaaGreatDoorCPC1
import Derived.Test.YtlfdokkopgmfjaaGreatDoorMC3
import Derived.Test.YtlfdokkopgmfjaaGreatDoorMC4
namespace Go.Proofs.YtlfdokkopgmfjaaGreatDoor.C
open Go.RowKit
set_option linter.unusedVariables false
set_option maxRecDepth 100000
def tl (v : EnvV) (cm ce : Nat) : List Value := [.int .u64 v.satp, .int .u64 v.root, .bool v.user, .bool v.sum, .bool v.mxr, .func (.func 72) #[] #[.pointer (some ⟨cm, 0, none⟩), .pointer (some ⟨ce, 0, none⟩)]]
/-- what the closure has hold of: the memory and the root -/
structure Cap (w : World) (cm ce p : Nat) (root : Int) : Prop where
  m : w.cell? ⟨cm, 0, none⟩ = some (.pointer (some ⟨p, 0, none⟩))
  e : w.cell? ⟨ce, 1, none⟩ = some (.int .u64 root)
  lm : cm < w.heap.size
  le : ce < w.heap.size
theorem Cap.only {w w' : World} {cm ce p : Nat} {root : Int} (h : Cap w cm ce p root) {T : Nat → Prop} (ho : Only T w w') (h1 : ¬ T cm) (h2 : ¬ T ce) : Cap w' cm ce p root :=
  ⟨(ho.cell 0 h.lm h1).trans h.m, (ho.cell 1 h.le h2).trans h.e, Nat.lt_of_lt_of_le h.lm ho.size, Nat.lt_of_lt_of_le h.le ho.size⟩
theorem Cap.below {w w' : World} {cm ce p : Nat} {root : Int} (h : Cap w cm ce p root) (hb : Below w.heap.size w w') : Cap w' cm ce p root := h.only (T := fun _ => False) (Only.ofBelow hb) (fun q => q) (fun q => q)
theorem c_ask (w : World) (S : Nat → Prop) (p n : Nat) {bs : Int} (f : Nat → Int) (hm : Mem w S p bs n f) (cm ce : Nat) (root : Int) (hc : Cap w cm ce p root) (gpa acc : Int) (s0 : 0 ≤ root) (s1 : root < 18446744073709551616) (a0 : 0 ≤ gpa) (a1 : gpa < 18446744073709551616) (x y z : Int) (hg : gst (rdm bs n f) root gpa acc = (x, y, z)) :
    Calls Tryz.prog 72 #[.int .u64 gpa, .int .i64 acc, .pointer (some ⟨cm, 0, none⟩), .pointer (some ⟨ce, 0, none⟩)] w fun r w' => r = .returned (.tuple #[.int .u64 x, .int .i64 z]) ∧ Below w.heap.size w w' := by
  have k0 := hc.m
  have k1 := hc.e
  have HM := hid hm
  have HG := hid hg
  clear hm hg
  go_enter Tryz.func72, Tryz.ntmps72
  go_wp2_with (first
    | (go_at_call 73; refine (c_Guest w S p n f HM.out root gpa acc s0 s1 a0 a1 x y z HG.out).mono ?_; rintro e w1 ⟨rfl, hb1⟩; have HB1 := hid hb1; clear hb1))
  go_ret2
  exact ⟨rfl, HB1.out⟩
section
variable {w : World} {b : Nat} {ty : TypeId} {v : EnvV} {p : Nat} {addr table level wrong leaf : Int} {cm ce : Nat}
theorem WK.e8 (h : WK w b ty (tl v cm ce) p addr table level wrong leaf) : w.cell? ⟨b, 8, none⟩ = some (.bool v.user) := by rw [cell_of_row w b 8 _ _ _ h]; rfl
theorem WK.e9 (h : WK w b ty (tl v cm ce) p addr table level wrong leaf) : w.cell? ⟨b, 9, none⟩ = some (.bool v.sum) := by rw [cell_of_row w b 9 _ _ _ h]; rfl
theorem WK.e10 (h : WK w b ty (tl v cm ce) p addr table level wrong leaf) : w.cell? ⟨b, 10, none⟩ = some (.bool v.mxr) := by rw [cell_of_row w b 10 _ _ _ h]; rfl
theorem WK.e11 (h : WK w b ty (tl v cm ce) p addr table level wrong leaf) : w.cell? ⟨b, 11, none⟩ = some (.func (.func 72) #[] #[.pointer (some ⟨cm, 0, none⟩), .pointer (some ⟨ce, 0, none⟩)]) := by rw [cell_of_row w b 11 _ _ _ h]; rfl
end
theorem gst_ok {R : Int → Int × Int} (hR : RdOk R) (root gpa acc : Int) (r0 : 0 ≤ root) (r1 : root < 18446744073709551616) (g0 : 0 ≤ gpa) (g1 : gpa < 18446744073709551616) : (0 ≤ (gst R root gpa acc).1 ∧ (gst R root gpa acc).1 < 18446744073709551616) ∧ ((gst R root gpa acc).2.2 = 0 ∨ (gst R root gpa acc).2.2 = 2 ∨ (gst R root gpa acc).2.2 = 3) := by
  have hd := D_ok hR gpa 2 2 root (by decide) r0 r1
  unfold gst
  split
  · exact ⟨⟨g0, g1⟩, .inl rfl⟩
  · split
    · exact ⟨⟨Int.le_refl 0, show (0 : Int) < 18446744073709551616 by decide⟩, .inr (.inl rfl)⟩
    · split
      · rename_i h
        refine ⟨⟨Int.le_refl 0, show (0 : Int) < 18446744073709551616 by decide⟩, ?_⟩
        rcases hd.flt with q | q | q | q
        · exact absurd q h
        · exact .inr (.inl q)
        · exact .inr (.inl q)
        · exact .inr (.inr q)
      · split
        · refine ⟨?_, .inl rfl⟩
          have n1 := num_b hd.leaf0 hd.leaf1
          have hl := hd.lev
          show 0 ≤ plc _ _ ∧ plc _ _ < _
          unfold plc
          rcases (show (D R gpa 2 2 root).level = 0 ∨ (D R gpa 2 2 root).level = 1 ∨ (D R gpa 2 2 root).level = 2 by omega) with q | q | q
          · rw [q, pw0]; omega
          · rw [q, pw1]; omega
          · rw [q, pw2]; omega
        · exact ⟨⟨Int.le_refl 0, show (0 : Int) < 18446744073709551616 by decide⟩, .inr (.inl rfl)⟩
theorem gst_flt {R : Int → Int × Int} (hR : RdOk R) (root gpa acc : Int) (r0 : 0 ≤ root) (r1 : root < 18446744073709551616) : (gst R root gpa acc).2.2 = 0 ∨ (gst R root gpa acc).2.2 = 2 ∨ (gst R root gpa acc).2.2 = 3 := by
  have hd := D_ok hR gpa 2 2 root (by decide) r0 r1
  unfold gst
  split
  · exact .inl rfl
  · split
    · exact .inr (.inl rfl)
    · split
      · rename_i h
        rcases hd.flt with q | q | q | q
        · exact absurd q h
        · exact .inr (.inl q)
        · exact .inr (.inl q)
        · exact .inr (.inr q)
      · split
        · exact .inl rfl
        · exact .inr (.inl rfl)
theorem rdg_ok {R : Int → Int × Int} (hR : RdOk R) (root : Int) (r0 : 0 ≤ root) (r1 : root < 18446744073709551616) : RdOk (rdg R root) := by
  intro a
  unfold rdg
  split
  · exact ⟨⟨Int.le_refl 0, show (0 : Int) < 18446744073709551616 by decide⟩, gst_flt hR root a 2 r0 r1⟩
  · exact hR _
theorem c_loadGuest (w : World) (b : Nat) (ty : TypeId) (v : EnvV) (p : Nat) (addr table level wrong leaf : Int) (cm ce : Nat) (h : WK w b ty (tl v cm ce) p addr table level wrong leaf)
    (S : Nat → Prop) (n : Nat) {bs : Int} (f : Nat → Int) (hm : Mem w S p bs n f) (hc : Cap w cm ce p v.root) (a : Int) (a0 : 0 ≤ a) (a1 : a < 18446744073709551616) (r0 : 0 ≤ v.root) (r1 : v.root < 18446744073709551616) :
    Calls Tryz.prog 177 #[.pointer (some ⟨b, 0, none⟩), .int .u64 a] w fun e w' => e = .returned (.tuple #[.int .u64 (rdg (rdm bs n f) v.root a).1, .int .i64 (rdg (rdm bs n f) v.root a).2]) ∧ Below w.heap.size w w' := by
  have c11 := h.e11
  have hRd := rdm_ok (bs := bs) n f hm.byt
  obtain ⟨⟨x0, x1⟩, hz⟩ := gst_ok hRd v.root a 2 r0 r1 a0 a1
  obtain ⟨x, y, z, hg⟩ : ∃ x y z, gst (rdm bs n f) v.root a 2 = (x, y, z) := ⟨_, _, _, rfl⟩
  rw [hg] at x0 x1 hz
  have x0' : 0 ≤ x := x0
  have x1' : x < 18446744073709551616 := x1
  have HW := hid h
  have HM := hid hm
  have HG := hid hg
  have HC := hid hc
  have hv : rdg (rdm bs n f) v.root a = if z ≠ 0 then (0, z) else rdm bs n f x := by unfold rdg; rw [hg]
  rw [hv]
  clear h hm hg hc x0 x1 hz hv
  go_enter Tryz.func177, Tryz.ntmps177
  by_cases q : z = 0
  · subst q
    rw [if_neg (by decide)]
    go_wp2_with (first
      | (go_at_call 72; refine (c_ask w S p n f HM.out cm ce v.root HC.out a 2 r0 r1 a0 a1 x y 0 HG.out).mono ?_; rintro e w1 ⟨rfl, hb1⟩; have HB1 := hid hb1; clear hb1)
      | (go_at_call 183; refine (c_loadW w1 b ty _ p addr table level wrong leaf (HW.out.below HB1.out) S n f (HM.out.below HB1.out) x x0' x1').mono ?_; rintro e w2 ⟨rfl, hb2⟩; have HB2 := hid hb2; clear hb2))
    go_ret2
    exact ⟨rfl, HB1.out.trans (HB2.out.mono HB1.out.size)⟩
  · rw [if_pos q]
    have q' : (z != 0) = true := by simpa using q
    go_wp2_with (first
      | (go_at_call 72; refine (c_ask w S p n f HM.out cm ce v.root HC.out a 2 r0 r1 a0 a1 x y z HG.out).mono ?_; rintro e w1 ⟨rfl, hb1⟩; have HB1 := hid hb1; clear hb1))
    go_ret2
    exact ⟨rfl, HB1.out⟩
theorem c_belongs {cm ce : Nat} (w : World) (b : Nat) (ty : TypeId) (v : EnvV) (p : Nat) (addr table level wrong leaf acc : Int) (h : WK w b ty (tl v cm ce) p addr table level wrong leaf) (h0 : 0 ≤ leaf) (h1 : leaf < 18446744073709551616) :
    Calls Tryz.prog 179 #[.pointer (some ⟨b, 0, none⟩), .int .i64 acc] w fun r w' => r = .returned (.bool (bel leaf v acc)) ∧ ∃ m, w' = w.drewN m := by
  have c5 := h.c5
  have c8 := h.e8
  have c9 := h.e9
  clear h
  obtain ⟨us, hus⟩ : ∃ us, v.user = us := ⟨_, rfl⟩
  obtain ⟨su, hsu⟩ : ∃ su, v.sum = su := ⟨_, rfl⟩
  rw [hus] at c8
  rw [hsu] at c9
  have HU := hid hus
  have HS := hid hsu
  clear hus hsu
  go_enter Tryz.func179, Tryz.ntmps179
  cases us
  · cases b16 : hs leaf 16
    · go_wp2_with (first
        | (go_at_call 178; (with_reducible refine (c_has16 leaf h0 h1 _ b16 _).mono ?_); rintro r w2 ⟨rfl, hw2⟩; obtain rfl := hw2.symm))
      go_ret
      exact ⟨ret_bool (by simp [bel, HU.out, b16]), 0, rfl⟩
    · cases su
      · go_wp2_with (first
          | (go_at_call 178; (with_reducible refine (c_has16 leaf h0 h1 _ b16 _).mono ?_); rintro r w2 ⟨rfl, hw2⟩; obtain rfl := hw2.symm))
        go_ret
        exact ⟨ret_bool (by simp [bel, HU.out, HS.out, b16]), 0, rfl⟩
      · go_wp2_with (first
          | (go_at_call 178; (with_reducible refine (c_has16 leaf h0 h1 _ b16 _).mono ?_); rintro r w2 ⟨rfl, hw2⟩; obtain rfl := hw2.symm))
        go_ret
        refine ⟨ret_bool ?_, 0, rfl⟩
        rw [Bool.eq_iff_iff]; simp [bel, HU.out, HS.out, b16]
  · go_wp2_with (first
      | (go_at_call 178; (with_reducible refine (c_has16 leaf h0 h1 _ rfl _).mono ?_); rintro r w2 ⟨rfl, hw2⟩; obtain rfl := hw2.symm))
    go_ret
    exact ⟨ret_bool (by simp [bel, HU.out]), 0, rfl⟩
theorem c_allows1 {cm ce : Nat} (w : World) (b : Nat) (ty : TypeId) (v : EnvV) (p : Nat) (addr table level wrong leaf acc : Int) (h : WK w b ty (tl v cm ce) p addr table level wrong leaf) (h0 : 0 ≤ leaf) (h1 : leaf < 18446744073709551616) :
    Calls Tryz.prog 180 #[.pointer (some ⟨b, 0, none⟩), .int .i64 acc] w fun r w' => r = .returned (.bool (alf leaf v acc)) ∧ ∃ m, w' = w.drewN m := by
  have c5 := h.c5
  have c10 := h.e10
  clear h
  obtain ⟨mx, hmx⟩ : ∃ mx, v.mxr = mx := ⟨_, rfl⟩
  rw [hmx] at c10
  have HX := hid hmx
  clear hmx
  go_enter Tryz.func180, Tryz.ntmps180
  by_cases a1 : acc = 1
  · subst a1
    go_wp2_with (first
      | (go_at_call 178; (with_reducible refine (c_has8 leaf h0 h1 _ rfl _).mono ?_); rintro r w2 ⟨rfl, hw2⟩; obtain rfl := hw2.symm))
    go_ret
    exact ⟨ret_bool (by simp [alf]), 0, rfl⟩
  · by_cases a2 : acc = 2
    · subst a2
      cases b2 : hs leaf 2
      · cases mx
        · go_wp2_with (first
            | (go_at_call 178; (with_reducible refine (c_has2 leaf h0 h1 _ b2 _).mono ?_); rintro r w2 ⟨rfl, hw2⟩; obtain rfl := hw2.symm))
          go_ret
          exact ⟨ret_bool (by simp [alf, HX.out, b2]), 0, rfl⟩
        · go_wp2_with (first
            | (go_at_call 178; (with_reducible refine (c_has2 leaf h0 h1 _ b2 _).mono ?_); rintro r w2 ⟨rfl, hw2⟩; obtain rfl := hw2.symm)
            | (go_at_call 178; (with_reducible refine (c_has8 leaf h0 h1 _ rfl _).mono ?_); rintro r w2 ⟨rfl, hw2⟩; obtain rfl := hw2.symm))
          go_ret
          exact ⟨ret_bool (by simp [alf, HX.out, b2]), 0, rfl⟩
      · go_wp2_with (first
          | (go_at_call 178; (with_reducible refine (c_has2 leaf h0 h1 _ b2 _).mono ?_); rintro r w2 ⟨rfl, hw2⟩; obtain rfl := hw2.symm))
        go_ret
        exact ⟨ret_bool (by simp [alf, b2]), 0, rfl⟩
    · by_cases a3 : acc = 3
      · subst a3
        go_wp2_with (first
          | (go_at_call 178; (with_reducible refine (c_has132 leaf h0 h1 _ rfl _).mono ?_); rintro r w2 ⟨rfl, hw2⟩; obtain rfl := hw2.symm))
        go_ret
        exact ⟨ret_bool (by simp [alf]), 0, rfl⟩
      · go_wp2_with fail
        go_ret
        exact ⟨ret_bool (by simp [alf, a1, a2, a3]), 0, rfl⟩
theorem c_isExtended (w : World) (va : Int) (v0 : 0 ≤ va) (v1 : va < 18446744073709551616) :
    Calls Tryz.prog 175 #[.int .u64 va] w fun r w' => r = .returned (.bool (ext va)) ∧ w' = w := by
  go_enter Tryz.func175, Tryz.ntmps175
  go_wp2_with fail
  · go_ret
    have h := ‹wrap64 va / 274877906944 = 0›
    unfold wrap64 at h
    exact ⟨ret_bool (by rw [Bool.eq_iff_iff]; simp [ext]; omega), rfl⟩
  · go_ret
    have h := ‹¬ wrap64 va / 274877906944 = 0›
    unfold wrap64 at h
    exact ⟨ret_bool (by rw [Bool.eq_iff_iff]; simp [ext]; unfold wrap64; omega), rfl⟩
theorem rs_func (w : World) (a : Addr) (f : Fn) (x c : Array Value) : (store a (.func f x c)).run Tryz.prog w = stored Tryz.prog w a (.func f x c) .plain := run_store Tryz.prog w a _ .plain rfl
theorem c_newFirst (w : World) (p : Nat) (v : EnvV) (va : Int) (cm ce : Nat) (s0 : 0 ≤ v.satp) :
    Calls Tryz.prog 110 #[.pointer (some ⟨p, 0, none⟩), .agg #[.int .u64 v.satp, .int .u64 v.root, .bool v.user, .bool v.sum, .bool v.mxr], .int .u64 va, .func (.func 72) #[] #[.pointer (some ⟨cm, 0, none⟩), .pointer (some ⟨ce, 0, none⟩)]] w fun r w' => r = .returned (.agg #[.pointer (some ⟨p, 0, none⟩), .int .u64 va, .int .u64 (v.satp % 17592186044416), .int .i64 0, .int .i64 1, .int .u64 0, .int .u64 v.satp, .int .u64 v.root, .bool v.user, .bool v.sum, .bool v.mxr, .func (.func 72) #[] #[.pointer (some ⟨cm, 0, none⟩), .pointer (some ⟨ce, 0, none⟩)]]) ∧ Below w.heap.size w w' := by
  go_enter Tryz.func110, Tryz.ntmps110
  have hrs := rs_func
  go_wp2
  go_returns
  exact ⟨rfl, ((Below.refl _ _).alloc (Nat.le_refl _) _).alloc (by simp) _⟩
end Go.Proofs.YtlfdokkopgmfjaaGreatDoor.C
namespace Go.Proofs.YtlfdokkopgmfjaaGreatDoor.C
open Go.RowKit
set_option linter.unusedVariables false
set_option maxRecDepth 100000
/-- what the first stage's find says -/
def fd1 (r : DR) (v : EnvV) (acc : Int) : Int := if r.fault ≠ 0 then r.fault else if fa r.leaf v acc = true then 0 else 1
set_option maxHeartbeats 1000000 in
theorem c_find1 (w : World) (S : Nat → Prop) (p n : Nat) {bs : Int} (f : Nat → Int) (hm : Mem w S p bs n f) (cm ce : Nat) (b : Nat) (v : EnvV) (hcp : Cap w cm ce p v.root) (hcb : cm ≠ b ∧ ce ≠ b) (addr root acc : Int) (a0 : 0 ≤ addr) (a1 : addr < 18446744073709551616) (hx : ext addr = true) (s0 : 0 ≤ root) (s1 : root < 18446744073709551616) (r0 : 0 ≤ v.root) (r1 : v.root < 18446744073709551616)
    (h : WK w b 165 (tl v cm ce) p addr root 0 1 0) :
    Calls Tryz.prog 111 #[.pointer (some ⟨b, 0, none⟩), .int .i64 acc] w fun r w' => r = .returned (.int .i64 (fd1 (D (rdg (rdm bs n f) v.root) addr 1 2 root) v acc)) ∧
      WK w' b 165 (tl v cm ce) p addr (D (rdg (rdm bs n f) v.root) addr 1 2 root).table (D (rdg (rdm bs n f) v.root) addr 1 2 root).level 1 (D (rdg (rdm bs n f) v.root) addr 1 2 root).leaf ∧ Only (· = b) w w' := by
  have c1 := h.c1
  have HM := hid hm
  have HW := hid h
  have hnS : ¬ S b := hm.typ h (by decide) (by decide) (by decide)
  have hRd := rdg_ok (rdm_ok (bs := bs) n f hm.byt) v.root r0 r1
  have hq := D_ok hRd addr 1 2 root (by decide) s0 s1
  obtain ⟨r, hr⟩ : ∃ r, D (rdg (rdm bs n f) v.root) addr 1 2 root = r := ⟨_, rfl⟩
  have HR := hid hr
  rw [hr]
  rw [hr] at hq
  have HQ := hid hq
  have HXT := hid hx
  have HCP := hid hcp
  clear h hm hr hq hx hcp
  go_enter Tryz.func111, Tryz.ntmps111
  go_wp2_with (first
    | (go_at_call 175; refine (c_isExtended _ addr a0 a1).mono ?_; rintro e w2 ⟨rfl, hw2⟩; obtain rfl := hw2.symm; rw [HXT.out])
    | (go_at_call 176; refine (c_down1 w b 165 (tl v cm ce) p addr root 0 1 a0 (by omega) s0 s1 HW.out (rdg (rdm bs n f) v.root) (fun a => (hRd a).1) (fun w1 t k hw1 ho1 a q0 q1 => c_loadGuest w1 b 165 v p addr t k 1 0 cm ce hw1 S n f (HM.out.only (T := (· = b)) ho1 (fun j hj q => hnS (q ▸ hj))) (HCP.out.only ho1 hcb.1 hcb.2) a q0 q1 r0 r1)).mono ?_; rintro e w1 ⟨rfl, hw1, ho1⟩; rw [HR.out] at hw1; rw [HR.out]; have HW1 := hid hw1; have HO1 := hid ho1; have c4 := hw1.c4; have c5 := hw1.c5; clear hw1 ho1)
    | (go_at_call 178; (with_reducible refine (c_has64 r.leaf HQ.out.leaf0 (by have := HQ.out.leaf1; omega) _ rfl _).mono ?_); rintro e w2 ⟨rfl, hw2⟩; obtain rfl := hw2.symm)
    | (go_at_call 179; refine (c_belongs w1 b _ v p _ _ _ _ _ acc HW1.out HQ.out.leaf0 (by have := HQ.out.leaf1; omega)).mono ?_; rintro e w2 ⟨rfl, m2, hw2⟩; subst hw2)
    | (go_at_call 180; refine (c_allows1 (w1.drewN m2) b _ v p _ _ _ _ _ acc (HW1.out.drewN m2) HQ.out.leaf0 (by have := HQ.out.leaf1; omega)).mono ?_; rintro e w2 ⟨rfl, m3, hw2⟩; subst hw2))
  · go_ret
    have g := ‹(r.fault != 0) = true›
    exact ⟨ret_int (by unfold fd1; rw [if_pos (by simpa using g)]), HW1.out, HO1.out⟩
  · go_ret
    have g : r.fault = 0 := by simpa using ‹(r.fault != 0) = false›
    have g4 : alf r.leaf v acc = false := by simpa using ‹(!alf r.leaf v acc) = true›
    exact ⟨ret_int (by unfold fd1 fa; rw [if_neg (by simpa using g), g4]; simp), HW1.out, HO1.out.drewN _⟩
  · go_ret
    have g : r.fault = 0 := by simpa using ‹(r.fault != 0) = false›
    have g2 := ‹hs r.leaf 64 = true›
    have g3 := ‹bel r.leaf v acc = true›
    have g4 : alf r.leaf v acc = true := by simpa using ‹(!alf r.leaf v acc) = false›
    exact ⟨ret_int (by unfold fd1 fa; rw [if_neg (by simpa using g), g2, g3, g4]; simp), HW1.out, HO1.out.drewN _⟩
  · go_ret
    have g : r.fault = 0 := by simpa using ‹(r.fault != 0) = false›
    have g3 : bel r.leaf v acc = false := by simpa using ‹¬ bel r.leaf v acc = true›
    exact ⟨ret_int (by unfold fd1 fa; rw [if_neg (by simpa using g), g3]; simp), HW1.out, HO1.out.drewN _⟩
  · go_ret
    have g : r.fault = 0 := by simpa using ‹(r.fault != 0) = false›
    have g3 : hs r.leaf 64 = false := by simpa using ‹¬ hs r.leaf 64 = true›
    exact ⟨ret_int (by unfold fd1 fa; rw [if_neg (by simpa using g), g3]; simp), HW1.out, HO1.out⟩
theorem c_find1_no {cm ce : Nat} (w : World) (p b : Nat) (v : EnvV) (addr root acc : Int) (a0 : 0 ≤ addr) (a1 : addr < 18446744073709551616) (hx : ext addr = false) (h : WK w b 165 (tl v cm ce) p addr root 0 1 0) :
    Calls Tryz.prog 111 #[.pointer (some ⟨b, 0, none⟩), .int .i64 acc] w fun r w' => r = .returned (.int .i64 1) ∧ w' = w := by
  have c1 := h.c1
  have c4 := h.c4
  clear h
  have HXT := hid hx
  clear hx
  go_enter Tryz.func111, Tryz.ntmps111
  go_wp2_with (first
    | (go_at_call 175; refine (c_isExtended _ addr a0 a1).mono ?_; rintro e w2 ⟨rfl, hw2⟩; obtain rfl := hw2.symm; rw [HXT.out]))
  go_ret
  exact ⟨rfl, rfl⟩
def plV (x : PlV) : Value := .agg #[.int .u64 x.pa, .int .u64 x.gpa, .int .i64 x.fault, .bool x.walk]
/-- a block of four cells, and what it is behind four stores -/
def B4 (w : World) (b : Nat) (u0 u1 u2 u3 : Value) : Prop := w.heap[b]? = some (.cells #[u0, u1, u2, u3] 86 (0, 0))
section
variable {w : World} {b : Nat} {u0 u1 u2 u3 : Value}
theorem B4.below {w' : World} (h : B4 w b u0 u1 u2 u3) (hb : Below w.heap.size w w') : B4 w' b u0 u1 u2 u3 := (hb.block b (lt_of_block h)).trans h
theorem B4.c (h : B4 w b u0 u1 u2 u3) : w.cell? ⟨b, 0, none⟩ = some u0 ∧ w.cell? ⟨b, 1, none⟩ = some u1 ∧ w.cell? ⟨b, 2, none⟩ = some u2 ∧ w.cell? ⟨b, 3, none⟩ = some u3 :=
  ⟨by rw [cell_of_row w b 0 _ _ _ h]; rfl, by rw [cell_of_row w b 1 _ _ _ h]; rfl, by rw [cell_of_row w b 2 _ _ _ h]; rfl, by rw [cell_of_row w b 3 _ _ _ h]; rfl⟩
theorem B4.z (h : B4 w b u0 u1 u2 u3) : w.frozen? ⟨b, 0, none⟩ = false ∧ w.frozen? ⟨b, 1, none⟩ = false ∧ w.frozen? ⟨b, 2, none⟩ = false ∧ w.frozen? ⟨b, 3, none⟩ = false :=
  ⟨frozen_of_row w b 0 _ _ h, frozen_of_row w b 1 _ _ h, frozen_of_row w b 2 _ _ h, frozen_of_row w b 3 _ _ h⟩
theorem B4.y (h : B4 w b u0 u1 u2 u3) (v0 v1 v2 v3 : Value) : (w.setCell ⟨b, 0, none⟩ v0).cell? ⟨b, 0, none⟩ = some v0 ∧ ((w.setCell ⟨b, 0, none⟩ v0).setCell ⟨b, 1, none⟩ v1).cell? ⟨b, 1, none⟩ = some v1 ∧
    (((w.setCell ⟨b, 0, none⟩ v0).setCell ⟨b, 1, none⟩ v1).setCell ⟨b, 2, none⟩ v2).cell? ⟨b, 2, none⟩ = some v2 ∧ ((((w.setCell ⟨b, 0, none⟩ v0).setCell ⟨b, 1, none⟩ v1).setCell ⟨b, 2, none⟩ v2).setCell ⟨b, 3, none⟩ v3).cell? ⟨b, 3, none⟩ = some v3 := by
  obtain ⟨c0, c1, c2, c3⟩ := h.c
  have e1 : (w.setCell ⟨b, 0, none⟩ v0).cell? ⟨b, 1, none⟩ = some u1 := by rw [World.cell?_setCell_other _ _ _ _ (by intro e; cases e)]; exact c1
  have e2 : ((w.setCell ⟨b, 0, none⟩ v0).setCell ⟨b, 1, none⟩ v1).cell? ⟨b, 2, none⟩ = some u2 := by
    rw [World.cell?_setCell_other _ _ _ _ (by intro e; cases e), World.cell?_setCell_other _ _ _ _ (by intro e; cases e)]; exact c2
  have e3 : (((w.setCell ⟨b, 0, none⟩ v0).setCell ⟨b, 1, none⟩ v1).setCell ⟨b, 2, none⟩ v2).cell? ⟨b, 3, none⟩ = some u3 := by
    rw [World.cell?_setCell_other _ _ _ _ (by intro e; cases e), World.cell?_setCell_other _ _ _ _ (by intro e; cases e), World.cell?_setCell_other _ _ _ _ (by intro e; cases e)]; exact c3
  exact ⟨World.cell?_setCell_same _ _ _ c0, World.cell?_setCell_same _ _ _ e1, World.cell?_setCell_same _ _ _ e2, World.cell?_setCell_same _ _ _ e3⟩
end
theorem below4 {B : Nat} {w w' : World} (h : Below B w w') {b : Nat} (hb : B ≤ b) (v0 v1 v2 v3 : Value) : Below B w ((((w'.setCell ⟨b, 0, none⟩ v0).setCell ⟨b, 1, none⟩ v1).setCell ⟨b, 2, none⟩ v2).setCell ⟨b, 3, none⟩ v3) :=
  (((h.setCell hb _).setCell hb _).setCell hb _).setCell hb _
theorem c_placeOf (w : World) (S : Nat → Prop) (p n : Nat) {bs : Int} (f : Nat → Int) (hm : Mem w S p bs n f) (cm ce : Nat) (root : Int) (hcp : Cap w cm ce p root) (gpa acc : Int) (s0 : 0 ≤ root) (s1 : root < 18446744073709551616) (a0 : 0 ≤ gpa) (a1 : gpa < 18446744073709551616) :
    Calls Tryz.prog 89 #[.int .u64 gpa, .int .i64 acc, .func (.func 72) #[] #[.pointer (some ⟨cm, 0, none⟩), .pointer (some ⟨ce, 0, none⟩)]] w fun r w' => r = .returned (plV (plOf (rdm bs n f) root gpa acc)) ∧ Below w.heap.size w w' := by
  have HM := hid hm
  have HCP := hid hcp
  clear hm hcp
  obtain ⟨x, y, z, hg⟩ : ∃ x y z, gst (rdm bs n f) root gpa acc = (x, y, z) := ⟨_, _, _, rfl⟩
  have hp : plOf (rdm bs n f) root gpa acc = ⟨x, gpa, z, false⟩ := by unfold plOf; rw [hg]
  rw [hp]
  have HG := hid hg
  clear hg hp
  obtain ⟨wa, hwa⟩ : ∃ wa, wa = w.alloc (.cells #[.int .u64 0, .int .u64 0, .int .i64 0, .bool false] 86) := ⟨_, rfl⟩
  have HA : Hid (Below w.heap.size w wa) := by rw [hwa]; exact (Below.refl _ _).alloc (Nat.le_refl _) _
  have HR : Hid (B4 wa w.heap.size (.int .u64 0) (.int .u64 0) (.int .i64 0) (.bool false)) := by rw [hwa]; exact heap_alloc_new w _
  have HWA := hid hwa
  clear hwa
  go_enter Tryz.func89, Tryz.ntmps89
  go_wp2_with (first
    | (go_at_call 72; rw [← HWA.out]; refine (c_ask wa S p n f (HM.out.below HA.out) cm ce root (HCP.out.below HA.out) gpa acc s0 s1 a0 a1 x y z HG.out).mono ?_; rintro e w1 ⟨rfl, hb1⟩; have HB1 := hid hb1; have HR1 := hid (HR.out.below hb1); obtain ⟨k0, k1, k2, k3⟩ := HR1.out.c; obtain ⟨z0, z1, z2, z3⟩ := HR1.out.z; clear hb1))
  obtain ⟨y0, y1, y2, y3⟩ := HR1.out.y (.int .u64 x) (.int .u64 gpa) (.int .i64 z) (.bool false)
  refine bodyPost_ret (by simp [results, Tryz.results89, go_sem, y0, y1, y2, y3]; rfl) rfl ?_
  exact ⟨rfl, below4 (HA.out.trans (HB1.out.mono HA.out.size)) (Nat.le_refl _) _ _ _ _⟩
end Go.Proofs.YtlfdokkopgmfjaaGreatDoor.C
namespace Go.Proofs.YtlfdokkopgmfjaaGreatDoor.C
open Go.RowKit
set_option linter.unusedVariables false
set_option maxRecDepth 100000
theorem D_tab {R : Int → Int × Int} (addr wrong : Int) : ∀ (k : Nat) (t : Int), t < 17592186044416 → (D R addr wrong k t).table < 17592186044416 := by
  intro k
  induction k with
  | zero =>
    intro t ht
    have g1 : t ≤ 4503599627370495 := by omega
    by_cases g2 : (R (atF addr 0 t)).2 = 0
    · cases g3 : wr (R (atF addr 0 t)).1
      · cases g4 : lf (R (atF addr 0 t)).1
        · rw [D_end g1 g2 g3 g4]; exact ht
        · by_cases g5 : num (R (atF addr 0 t)).1 % pw 0 = 0
          · rw [D_leaf g1 g2 g3 g4 g5]; exact ht
          · rw [D_mis g1 g2 g3 g4 g5]; exact ht
      · rw [D_wrong g1 g2 g3]; exact ht
    · rw [D_fault g1 g2]; exact ht
  | succ k ih =>
    intro t ht
    have g1 : t ≤ 4503599627370495 := by omega
    by_cases g2 : (R (atF addr (k + 1) t)).2 = 0
    · cases g3 : wr (R (atF addr (k + 1) t)).1
      · cases g4 : lf (R (atF addr (k + 1) t)).1
        · rw [D_next g1 g2 g3 g4]
          have := wr_lt g3
          exact ih _ (by unfold num; omega)
        · by_cases g5 : num (R (atF addr (k + 1) t)).1 % pw (k + 1) = 0
          · rw [D_leaf g1 g2 g3 g4 g5]; exact ht
          · rw [D_mis g1 g2 g3 g4 g5]; exact ht
      · rw [D_wrong g1 g2 g3]; exact ht
    · rw [D_fault g1 g2]; exact ht
theorem plc_b {r : DR} {wrong : Int} (h : DOk r wrong) (addr : Int) : 0 ≤ plc r addr ∧ plc r addr < 18446744073709551616 := by
  have n1 := num_b h.leaf0 h.leaf1
  have hl := h.lev
  unfold plc
  rcases (show r.level = 0 ∨ r.level = 1 ∨ r.level = 2 by omega) with q | q | q
  · rw [q, pw0]; omega
  · rw [q, pw1]; omega
  · rw [q, pw2]; omega
theorem Below.drewN' {B : Nat} (w : World) (m : Nat) : Below B w (w.drewN m) := ⟨rfl, rfl, rfl, Nat.le_refl _, fun _ _ => rfl⟩
/-- thr by what find says -/
theorem thr_find (R : Int → Int × Int) (v : EnvV) (va acc : Int) (hx : ext va = true) (r : DR) (hr : D (rdg R v.root) va 1 2 (v.satp % 17592186044416) = r) :
    thr R v va acc = if fd1 r v acc = 1 then ⟨0, 0, 1, false⟩ else if fd1 r v acc = 0 then plOf R v.root (plc r va) acc else ⟨0, atF va r.level r.table, fd1 r v acc, true⟩ := by
  unfold thr
  rw [hr, hx, if_neg (by decide)]
  by_cases g : r.fault = 0
  · rw [if_neg (by rw [g]; decide), if_neg (by rw [g]; decide)]
    cases g2 : fa r.leaf v acc
    · have e : fd1 r v acc = 1 := by unfold fd1; rw [if_neg (by rw [g]; decide), g2, if_neg (by decide)]
      rw [e]; rfl
    · have e : fd1 r v acc = 0 := by unfold fd1; rw [if_neg (by rw [g]; decide), g2, if_pos rfl]
      rw [e]; rfl
  · have e : fd1 r v acc = r.fault := by unfold fd1; rw [if_pos g]
    rw [e]
    by_cases g1 : r.fault = 1
    · rw [if_pos g1, if_pos g1]
    · rw [if_neg g1, if_pos g, if_neg g1, if_neg g]
theorem c_placeD (w : World) (b : Nat) (ty : TypeId) (tail : List Value) (p : Nat) (addr wrong : Int) (r : DR) (h : WK w b ty tail p addr r.table r.level wrong r.leaf) (hk : r.level ≤ 2) (h0 : 0 ≤ r.leaf) (h1 : r.leaf < 18014398509481984) (a0 : 0 ≤ addr) (a1 : addr < 18446744073709551616) :
    Calls Tryz.prog 112 #[.pointer (some ⟨b, 0, none⟩)] w fun e w' => e = .returned (.int .u64 (plc r addr)) ∧ ∃ m, w' = w.drewN m :=
  c_place4 w b ty tail p addr r.table wrong r.leaf r.level hk h h0 h1 a0 a1
set_option maxHeartbeats 1000000 in
theorem c_throughBoth (w : World) (S : Nat → Prop) (p n : Nat) {bs : Int} (f : Nat → Int) (hm : Mem w S p bs n f) (cm ce : Nat) (v : EnvV) (hcp : Cap w cm ce p v.root) (va acc : Int) (a0 : 0 ≤ va) (a1 : va < 18446744073709551616) (s0 : 0 ≤ v.satp) (s1 : v.satp < 18446744073709551616) (r0 : 0 ≤ v.root) (r1 : v.root < 18446744073709551616) :
    Calls Tryz.prog 90 #[.pointer (some ⟨p, 0, none⟩), .agg #[.int .u64 v.satp, .int .u64 v.root, .bool v.user, .bool v.sum, .bool v.mxr], .int .u64 va, .int .i64 acc, .func (.func 72) #[] #[.pointer (some ⟨cm, 0, none⟩), .pointer (some ⟨ce, 0, none⟩)]] w fun r w' => r = .returned (plV (thr (rdm bs n f) v va acc)) ∧ Below w.heap.size w w' := by
  have hRd := rdm_ok (bs := bs) n f hm.byt
  have HM := hid hm
  have HCP := hid hcp
  have hlm := hcp.lm
  have hle := hcp.le
  clear hm hcp
  obtain ⟨wa, hwa⟩ : ∃ wa, wa = (w.alloc (.cells #[.int .u64 v.satp, .int .u64 v.root, .bool v.user, .bool v.sum, .bool v.mxr] 47)).alloc (.cells #[.int .u64 0, .int .u64 0, .int .i64 0, .bool false] 86) := ⟨_, rfl⟩
  have HA : Hid (Below w.heap.size w wa) := by rw [hwa]; exact ((Below.refl _ _).alloc (Nat.le_refl _) _).alloc (by simp) _
  have HE : Hid (wa.heap[w.heap.size]? = some (.cells #[.int .u64 v.satp, .int .u64 v.root, .bool v.user, .bool v.sum, .bool v.mxr] 47 (0, 0))) := by
    rw [hwa]; exact (Below.heap_alloc _ _ _ (by simp)).trans (heap_alloc_new w _)
  have HR : Hid (B4 wa (w.heap.size + 1) (.int .u64 0) (.int .u64 0) (.int .i64 0) (.bool false)) := by
    rw [hwa]
    have := heap_alloc_new (w.alloc (.cells #[.int .u64 v.satp, .int .u64 v.root, .bool v.user, .bool v.sum, .bool v.mxr] 47)) (.cells #[.int .u64 0, .int .u64 0, .int .i64 0, .bool false] 86)
    have e1 : (w.alloc (.cells #[.int .u64 v.satp, .int .u64 v.root, .bool v.user, .bool v.sum, .bool v.mxr] 47)).heap.size = w.heap.size + 1 := by simp
    rw [e1] at this
    exact this
  have HWA := hid hwa
  clear hwa
  go_enter Tryz.func90, Tryz.ntmps90
  have hrs := rs_func
  cases hx : ext va
  · have ht : thr (rdm bs n f) v va acc = ⟨0, 0, 1, false⟩ := by unfold thr; rw [hx, if_pos rfl]
    rw [ht]
    clear ht
    go_wp2_with (first
      | (go_at_call 110; rw [← HWA.out]; refine (c_newFirst wa p v va cm ce s0).mono ?_; rintro e w1 ⟨rfl, hb1⟩; have HB1 := hid hb1; have HR1 : Hid (B4 (w1.alloc (.cells (wkL p va (v.satp % 17592186044416) 0 1 0 (tl v cm ce)).toArray 165)) (w.heap.size + 1) (.int .u64 0) (.int .u64 0) (.int .i64 0) (.bool false)) := (HR.out.below hb1).below ((Below.refl _ _).alloc (Nat.le_refl _) _); obtain ⟨k0, k1, k2, k3⟩ := HR1.out.c; obtain ⟨z0, z1, z2, z3⟩ := HR1.out.z; clear hb1)
      | (go_at_call 111; refine (c_find1_no (w1.alloc (.cells (wkL p va (v.satp % 17592186044416) 0 1 0 (tl v cm ce)).toArray 165)) p _ v va (v.satp % 17592186044416) acc a0 a1 hx (heap_alloc_new w1 _)).mono ?_; rintro e w2 ⟨rfl, hw2⟩; obtain rfl := hw2.symm))
    obtain ⟨y0, y1, y2, y3⟩ := HR1.out.y (.int .u64 0) (.int .u64 0) (.int .i64 1) (.bool false)
    refine bodyPost_ret (by simp [results, Tryz.results90, go_sem, y0, y1, y2, y3]; rfl) rfl ?_
    have q := HA.out.trans (HB1.out.mono HA.out.size)
    exact ⟨rfl, below4 (q.alloc q.size _) (Nat.le_succ _) _ _ _ _⟩
  · obtain ⟨r, hr⟩ : ∃ r, D (rdg (rdm bs n f) v.root) va 1 2 (v.satp % 17592186044416) = r := ⟨_, rfl⟩
    have t0 : 0 ≤ v.satp % 17592186044416 := by omega
    have hq := D_ok (rdg_ok hRd v.root r0 r1) va 1 2 (v.satp % 17592186044416) (by decide) t0 (by omega)
    have hT := D_tab (R := rdg (rdm bs n f) v.root) va 1 2 (v.satp % 17592186044416) (by omega)
    obtain ⟨z, hz⟩ : ∃ z, fd1 r v acc = z := ⟨_, rfl⟩
    rw [thr_find (rdm bs n f) v va acc hx r hr, hz]
    rw [hr] at hq hT
    have HRR := hid hr
    have HQ := hid hq
    have HTT := hid hT
    have HZ := hid hz
    have HRB := HR
    clear hr hq hT hz HR
    by_cases c1 : z = 1
    · subst c1
      rw [if_pos rfl]
      go_wp2_with (first
        | (go_at_call 110; rw [← HWA.out]; refine (c_newFirst wa p v va cm ce s0).mono ?_; rintro e w1 ⟨rfl, hb1⟩; have HB1 := hid hb1; have HR1 : Hid (B4 (w1.alloc (.cells (wkL p va (v.satp % 17592186044416) 0 1 0 (tl v cm ce)).toArray 165)) (w.heap.size + 1) (.int .u64 0) (.int .u64 0) (.int .i64 0) (.bool false)) := (HRB.out.below hb1).below ((Below.refl _ _).alloc (Nat.le_refl _) _); have HE1 : Hid ((w1.alloc (.cells (wkL p va (v.satp % 17592186044416) 0 1 0 (tl v cm ce)).toArray 165)).heap[w.heap.size]? = some (.cells #[.int .u64 v.satp, .int .u64 v.root, .bool v.user, .bool v.sum, .bool v.mxr] 47 (0, 0))) := (Below.heap_alloc w1 _ _ (Nat.lt_of_lt_of_le (lt_of_block HE.out) hb1.size)).trans ((hb1.block _ (lt_of_block HE.out)).trans HE.out); clear hb1)
        | (go_at_call 111; refine (c_find1 (w1.alloc (.cells (wkL p va (v.satp % 17592186044416) 0 1 0 (tl v cm ce)).toArray 165)) S p n f (Mem.below (Mem.below (Mem.below HM.out HA.out) HB1.out) ((Below.refl _ _).alloc (Nat.le_refl _) _)) cm ce w1.heap.size v (((HCP.out.below HA.out).below HB1.out).below ((Below.refl _ _).alloc (Nat.le_refl _) _)) ⟨by have := HA.out.size; have := HB1.out.size; omega, by have := HA.out.size; have := HB1.out.size; omega⟩ va (v.satp % 17592186044416) acc a0 a1 hx t0 (by omega) r0 r1 (heap_alloc_new w1 _)).mono ?_; rintro e w2 ⟨rfl, hw2, ho2⟩; rw [HRR.out] at hw2; rw [HRR.out, HZ.out]; have HW2 := hid hw2; have HO2 := hid ho2; have n1 : ¬ (w.heap.size + 1 = w1.heap.size) := (by have := HB1.out.size; have := lt_of_block HRB.out; omega); have n2 : ¬ (w.heap.size = w1.heap.size) := (by have := HB1.out.size; have := lt_of_block HRB.out; omega); have HR2 : Hid (B4 w2 (w.heap.size + 1) (.int .u64 0) (.int .u64 0) (.int .i64 0) (.bool false)) := ho2.old HR1.out n1; have HE2 := hid (ho2.old HE1.out n2); have x1 : w2.cell? ⟨w.heap.size, 1, none⟩ = some (.int .u64 v.root) := (by rw [cell_of_row w2 _ 1 _ _ _ HE2.out]; rfl); obtain ⟨k0, k1, k2, k3⟩ := HR2.out.c; obtain ⟨z0, z1, z2, z3⟩ := HR2.out.z; have HB2 : Hid (Below w.heap.size w w2) := ((HA.out.trans (HB1.out.mono HA.out.size)).alloc (HA.out.trans (HB1.out.mono HA.out.size)).size _).trans (ho2.below _ (by have := (HA.out.trans (HB1.out.mono HA.out.size)).size; simp; omega) (by rintro k rfl; exact (HA.out.trans (HB1.out.mono HA.out.size)).size)); clear hw2 ho2))
      obtain ⟨y0, y1, y2, y3⟩ := HR2.out.y (.int .u64 0) (.int .u64 0) (.int .i64 1) (.bool false)
      refine bodyPost_ret (by simp [results, Tryz.results90, go_sem, y0, y1, y2, y3]; rfl) rfl ?_
      exact ⟨rfl, below4 HB2.out (Nat.le_succ _) _ _ _ _⟩
    · rw [if_neg c1]
      by_cases c0 : z = 0
      · subst c0
        rw [if_pos rfl]
        obtain ⟨P, hP⟩ : ∃ P, plOf (rdm bs n f) v.root (plc r va) acc = P := ⟨_, rfl⟩
        rw [hP]
        have HP := hid hP
        clear hP
        obtain ⟨p0, p1⟩ := plc_b HQ.out va
        go_wp2_with (first
          | (go_at_call 110; rw [← HWA.out]; refine (c_newFirst wa p v va cm ce s0).mono ?_; rintro e w1 ⟨rfl, hb1⟩; have HB1 := hid hb1; have HR1 : Hid (B4 (w1.alloc (.cells (wkL p va (v.satp % 17592186044416) 0 1 0 (tl v cm ce)).toArray 165)) (w.heap.size + 1) (.int .u64 0) (.int .u64 0) (.int .i64 0) (.bool false)) := (HRB.out.below hb1).below ((Below.refl _ _).alloc (Nat.le_refl _) _); have HE1 : Hid ((w1.alloc (.cells (wkL p va (v.satp % 17592186044416) 0 1 0 (tl v cm ce)).toArray 165)).heap[w.heap.size]? = some (.cells #[.int .u64 v.satp, .int .u64 v.root, .bool v.user, .bool v.sum, .bool v.mxr] 47 (0, 0))) := (Below.heap_alloc w1 _ _ (Nat.lt_of_lt_of_le (lt_of_block HE.out) hb1.size)).trans ((hb1.block _ (lt_of_block HE.out)).trans HE.out); clear hb1)
          | (go_at_call 111; refine (c_find1 (w1.alloc (.cells (wkL p va (v.satp % 17592186044416) 0 1 0 (tl v cm ce)).toArray 165)) S p n f (Mem.below (Mem.below (Mem.below HM.out HA.out) HB1.out) ((Below.refl _ _).alloc (Nat.le_refl _) _)) cm ce w1.heap.size v (((HCP.out.below HA.out).below HB1.out).below ((Below.refl _ _).alloc (Nat.le_refl _) _)) ⟨by have := HA.out.size; have := HB1.out.size; omega, by have := HA.out.size; have := HB1.out.size; omega⟩ va (v.satp % 17592186044416) acc a0 a1 hx t0 (by omega) r0 r1 (heap_alloc_new w1 _)).mono ?_; rintro e w2 ⟨rfl, hw2, ho2⟩; rw [HRR.out] at hw2; rw [HRR.out, HZ.out]; have HW2 := hid hw2; have HO2 := hid ho2; have n1 : ¬ (w.heap.size + 1 = w1.heap.size) := (by have := HB1.out.size; have := lt_of_block HRB.out; omega); have n2 : ¬ (w.heap.size = w1.heap.size) := (by have := HB1.out.size; have := lt_of_block HRB.out; omega); have HR2 : Hid (B4 w2 (w.heap.size + 1) (.int .u64 0) (.int .u64 0) (.int .i64 0) (.bool false)) := ho2.old HR1.out n1; have HE2 := hid (ho2.old HE1.out n2); have x1 : w2.cell? ⟨w.heap.size, 1, none⟩ = some (.int .u64 v.root) := (by rw [cell_of_row w2 _ 1 _ _ _ HE2.out]; rfl); obtain ⟨k0, k1, k2, k3⟩ := HR2.out.c; obtain ⟨z0, z1, z2, z3⟩ := HR2.out.z; have HB2 : Hid (Below w.heap.size w w2) := ((HA.out.trans (HB1.out.mono HA.out.size)).alloc (HA.out.trans (HB1.out.mono HA.out.size)).size _).trans (ho2.below _ (by have := (HA.out.trans (HB1.out.mono HA.out.size)).size; simp; omega) (by rintro k rfl; exact (HA.out.trans (HB1.out.mono HA.out.size)).size)); clear hw2 ho2))
        have HCA : Hid (Cap w2 cm ce p v.root) := (((HCP.out.below HA.out).below HB1.out).below ((Below.refl _ _).alloc (Nat.le_refl _) _)).only HO2.out (by have := HA.out.size; have := HB1.out.size; omega) (by have := HA.out.size; have := HB1.out.size; omega)
        have HMA : Hid (Mem w2 S p bs n f) := Mem.only (Mem.below (Mem.below (Mem.below HM.out HA.out) HB1.out) ((Below.refl _ _).alloc (Nat.le_refl _) _)) HO2.out (fun k hk e => by have := Mem.lt HM.out hk; have := HB1.out.size; have := lt_of_block HRB.out; omega)
        go_wp2_with (first
          | (go_at_call 112; refine (c_placeD w2 w1.heap.size 165 (tl v cm ce) p va 1 r HW2.out HQ.out.lev HQ.out.leaf0 HQ.out.leaf1 a0 a1).mono ?_; rintro e w3 ⟨rfl, m3, rfl⟩)
          | (go_at_call 89; refine (c_placeOf (w2.drewN m3) S p n f (HMA.out.below (Below.drewN' w2 m3)) cm ce v.root (HCA.out.below (Below.drewN' w2 m3)) (plc r va) acc r0 r1 p0 p1).mono ?_; rw [HP.out]; rintro e w3 ⟨he, hb3⟩; unfold plV at he; subst he; have HB3 : Hid (Below w.heap.size w w3) := (HB2.out.trans (Below.drewN' w2 m3)).trans (hb3.mono HB2.out.size); have HR3 : Hid (B4 w3 (w.heap.size + 1) (.int .u64 0) (.int .u64 0) (.int .i64 0) (.bool false)) := B4.below (w := w2.drewN m3) HR2.out hb3; obtain ⟨k0, k1, k2, k3⟩ := HR3.out.c; obtain ⟨z0, z1, z2, z3⟩ := HR3.out.z; clear hb3))
        obtain ⟨y0, y1, y2, y3⟩ := HR3.out.y (.int .u64 P.pa) (.int .u64 P.gpa) (.int .i64 P.fault) (.bool P.walk)
        refine bodyPost_ret (by simp [results, Tryz.results90, go_sem, y0, y1, y2, y3]; rfl) rfl ?_
        exact ⟨rfl, below4 HB3.out (Nat.le_succ _) _ _ _ _⟩
      · rw [if_neg c0]
        go_wp2_with (first
          | (go_at_call 110; rw [← HWA.out]; refine (c_newFirst wa p v va cm ce s0).mono ?_; rintro e w1 ⟨rfl, hb1⟩; have HB1 := hid hb1; have HR1 : Hid (B4 (w1.alloc (.cells (wkL p va (v.satp % 17592186044416) 0 1 0 (tl v cm ce)).toArray 165)) (w.heap.size + 1) (.int .u64 0) (.int .u64 0) (.int .i64 0) (.bool false)) := (HRB.out.below hb1).below ((Below.refl _ _).alloc (Nat.le_refl _) _); have HE1 : Hid ((w1.alloc (.cells (wkL p va (v.satp % 17592186044416) 0 1 0 (tl v cm ce)).toArray 165)).heap[w.heap.size]? = some (.cells #[.int .u64 v.satp, .int .u64 v.root, .bool v.user, .bool v.sum, .bool v.mxr] 47 (0, 0))) := (Below.heap_alloc w1 _ _ (Nat.lt_of_lt_of_le (lt_of_block HE.out) hb1.size)).trans ((hb1.block _ (lt_of_block HE.out)).trans HE.out); clear hb1)
          | (go_at_call 111; refine (c_find1 (w1.alloc (.cells (wkL p va (v.satp % 17592186044416) 0 1 0 (tl v cm ce)).toArray 165)) S p n f (Mem.below (Mem.below (Mem.below HM.out HA.out) HB1.out) ((Below.refl _ _).alloc (Nat.le_refl _) _)) cm ce w1.heap.size v (((HCP.out.below HA.out).below HB1.out).below ((Below.refl _ _).alloc (Nat.le_refl _) _)) ⟨by have := HA.out.size; have := HB1.out.size; omega, by have := HA.out.size; have := HB1.out.size; omega⟩ va (v.satp % 17592186044416) acc a0 a1 hx t0 (by omega) r0 r1 (heap_alloc_new w1 _)).mono ?_; rintro e w2 ⟨rfl, hw2, ho2⟩; rw [HRR.out] at hw2; rw [HRR.out, HZ.out]; have HW2 := hid hw2; have HO2 := hid ho2; have n1 : ¬ (w.heap.size + 1 = w1.heap.size) := (by have := HB1.out.size; have := lt_of_block HRB.out; omega); have n2 : ¬ (w.heap.size = w1.heap.size) := (by have := HB1.out.size; have := lt_of_block HRB.out; omega); have HR2 : Hid (B4 w2 (w.heap.size + 1) (.int .u64 0) (.int .u64 0) (.int .i64 0) (.bool false)) := ho2.old HR1.out n1; have HE2 := hid (ho2.old HE1.out n2); have x1 : w2.cell? ⟨w.heap.size, 1, none⟩ = some (.int .u64 v.root) := (by rw [cell_of_row w2 _ 1 _ _ _ HE2.out]; rfl); obtain ⟨k0, k1, k2, k3⟩ := HR2.out.c; obtain ⟨z0, z1, z2, z3⟩ := HR2.out.z; have HB2 : Hid (Below w.heap.size w w2) := ((HA.out.trans (HB1.out.mono HA.out.size)).alloc (HA.out.trans (HB1.out.mono HA.out.size)).size _).trans (ho2.below _ (by have := (HA.out.trans (HB1.out.mono HA.out.size)).size; simp; omega) (by rintro k rfl; exact (HA.out.trans (HB1.out.mono HA.out.size)).size)); clear hw2 ho2)
          | (go_at_call 113; refine (c_at w2 w1.heap.size 165 (tl v cm ce) p va r.table 1 r.leaf r.level HQ.out.lev a0 a1 HQ.out.tab0 (by have := HTT.out; omega) HW2.out).mono ?_; rintro e w3 ⟨rfl, m3, rfl⟩))
        have HR3 : Hid (B4 (w2.drewN m3) (w.heap.size + 1) (.int .u64 0) (.int .u64 0) (.int .i64 0) (.bool false)) := HR2.out
        obtain ⟨y0, y1, y2, y3⟩ := HR3.out.y (.int .u64 0) (.int .u64 (atF va r.level r.table)) (.int .i64 z) (.bool true)
        refine bodyPost_ret (by simp [results, Tryz.results90, go_sem, y0, y1, y2, y3]; rfl) rfl ?_
        exact ⟨rfl, below4 (HB2.out.trans (Below.drewN' w2 m3)) (Nat.le_succ _) _ _ _ _⟩
end Go.Proofs.YtlfdokkopgmfjaaGreatDoor.C
namespace Go.Proofs.YtlfdokkopgmfjaaGreatDoor.C
open Go.RowKit
set_option linter.unusedVariables false
set_option maxRecDepth 100000
set_option maxHeartbeats 1000000 in
theorem c_Both (w : World) (S : Nat → Prop) (p n : Nat) {bs : Int} (f : Nat → Int) (hm : Mem w S p bs n f) (cm ce : Nat) (v : EnvV) (hcp : Cap w cm ce p v.root) (va acc : Int) (a0 : 0 ≤ va) (a1 : va < 18446744073709551616) (s0 : 0 ≤ v.satp) (s1 : v.satp < 18446744073709551616) (r0 : 0 ≤ v.root) (r1 : v.root < 18446744073709551616) (P : PlV) (hP : tr (rdm bs n f) v va acc = P) :
    Calls Tryz.prog 71 #[.pointer (some ⟨p, 0, none⟩), .agg #[.int .u64 v.satp, .int .u64 v.root, .bool v.user, .bool v.sum, .bool v.mxr], .int .u64 va, .int .i64 acc, .func (.func 72) #[] #[.pointer (some ⟨cm, 0, none⟩), .pointer (some ⟨ce, 0, none⟩)]] w fun r w' => r = .returned (.agg #[.int .u64 P.pa, .int .u64 P.gpa, .int .i64 P.fault, .bool P.walk]) ∧ Below w.heap.size w w' := by
  have HM := hid hm
  have HCP := hid hcp
  clear hm hcp
  obtain ⟨wa, hwa⟩ : ∃ wa, wa = (w.alloc (.cells #[.int .u64 v.satp, .int .u64 v.root, .bool v.user, .bool v.sum, .bool v.mxr] 47)).alloc (.cells #[.int .u64 0, .int .u64 0, .int .i64 0, .bool false] 86) := ⟨_, rfl⟩
  have HA : Hid (Below w.heap.size w wa) := by rw [hwa]; exact ((Below.refl _ _).alloc (Nat.le_refl _) _).alloc (by simp) _
  have HR : Hid (B4 wa (w.heap.size + 1) (.int .u64 0) (.int .u64 0) (.int .i64 0) (.bool false)) := by
    rw [hwa]
    have := heap_alloc_new (w.alloc (.cells #[.int .u64 v.satp, .int .u64 v.root, .bool v.user, .bool v.sum, .bool v.mxr] 47)) (.cells #[.int .u64 0, .int .u64 0, .int .i64 0, .bool false] 86)
    have e1 : (w.alloc (.cells #[.int .u64 v.satp, .int .u64 v.root, .bool v.user, .bool v.sum, .bool v.mxr] 47)).heap.size = w.heap.size + 1 := by simp
    rw [e1] at this
    exact this
  have HWA := hid hwa
  clear hwa
  go_enter Tryz.func71, Tryz.ntmps71
  by_cases h0 : v.satp / 1152921504606846976 = 0
  · have hQ : plOf (rdm bs n f) v.root va acc = P := by rw [← hP]; unfold tr; rw [if_pos h0]
    have HP := hid hQ
    clear hP hQ
    go_wp2_with (first
      | (go_at_call 89; rw [← HWA.out]; refine (c_placeOf wa S p n f (HM.out.below HA.out) cm ce v.root (HCP.out.below HA.out) va acc r0 r1 a0 a1).mono ?_; rw [HP.out]; rintro e w1 ⟨he, hb1⟩; unfold plV at he; subst he; have HB1 := hid hb1; have HR1 := hid (HR.out.below hb1); obtain ⟨k0, k1, k2, k3⟩ := HR1.out.c; obtain ⟨z0, z1, z2, z3⟩ := HR1.out.z; clear hb1))
    obtain ⟨y0, y1, y2, y3⟩ := HR1.out.y (.int .u64 P.pa) (.int .u64 P.gpa) (.int .i64 P.fault) (.bool P.walk)
    refine bodyPost_ret (by simp [results, Tryz.results71, go_sem, y0, y1, y2, y3]; rfl) rfl ?_
    exact ⟨rfl, below4 (HA.out.trans (HB1.out.mono HA.out.size)) (Nat.le_succ _) _ _ _ _⟩
  · by_cases h8 : v.satp / 1152921504606846976 = 8
    · have hQ : thr (rdm bs n f) v va acc = P := by rw [← hP]; unfold tr; rw [if_neg h0, if_pos h8]
      have HP := hid hQ
      clear hP hQ
      go_wp2_with (first
        | (go_at_call 90; rw [← HWA.out]; refine (c_throughBoth wa S p n f (HM.out.below HA.out) cm ce v (HCP.out.below HA.out) va acc a0 a1 s0 s1 r0 r1).mono ?_; rw [HP.out]; rintro e w1 ⟨he, hb1⟩; unfold plV at he; subst he; have HB1 := hid hb1; have HR1 := hid (HR.out.below hb1); obtain ⟨k0, k1, k2, k3⟩ := HR1.out.c; obtain ⟨z0, z1, z2, z3⟩ := HR1.out.z; clear hb1))
      obtain ⟨y0, y1, y2, y3⟩ := HR1.out.y (.int .u64 P.pa) (.int .u64 P.gpa) (.int .i64 P.fault) (.bool P.walk)
      refine bodyPost_ret (by simp [results, Tryz.results71, go_sem, y0, y1, y2, y3]; rfl) rfl ?_
      exact ⟨rfl, below4 (HA.out.trans (HB1.out.mono HA.out.size)) (Nat.le_succ _) _ _ _ _⟩
    · have hQ : P = ⟨0, 0, 1, false⟩ := by rw [← hP]; unfold tr; rw [if_neg h0, if_neg h8]
      subst hQ
      clear hP
      have h0' : (v.satp / 1152921504606846976 == 0) = false := by simpa using h0
      have h8' : (v.satp / 1152921504606846976 == 8) = false := by simpa using h8
      go_wp2_with fail
      go_returns
      exact ⟨rfl, ((Below.refl _ _).alloc (Nat.le_refl _) _).alloc (by simp) _⟩
set_option maxHeartbeats 1000000 in
theorem c_Translate (w : World) (S : Nat → Prop) (p n : Nat) {bs : Int} (f : Nat → Int) (hm : Mem w S p bs n f) (v : EnvV) (va acc : Int) (a0 : 0 ≤ va) (a1 : va < 18446744073709551616) (s0 : 0 ≤ v.satp) (s1 : v.satp < 18446744073709551616) (r0 : 0 ≤ v.root) (r1 : v.root < 18446744073709551616) (P : PlV) (hP : tr (rdm bs n f) v va acc = P) :
    Calls Tryz.prog 53 #[.pointer (some ⟨p, 0, none⟩), .agg #[.int .u64 v.satp, .int .u64 v.root, .bool v.user, .bool v.sum, .bool v.mxr], .int .u64 va, .int .i64 acc] w fun r w' => r = .returned (.agg #[.int .u64 P.pa, .int .u64 P.gpa, .int .i64 P.fault, .bool P.walk]) ∧ Below w.heap.size w w' := by
  have HM := hid hm
  have HP := hid hP
  clear hm hP
  obtain ⟨wa, hwa⟩ : ∃ wa, wa = ((w.alloc (.cells #[.pointer (some ⟨p, 0, none⟩)] 30)).alloc (.cells #[.int .u64 v.satp, .int .u64 v.root, .bool v.user, .bool v.sum, .bool v.mxr] 47)).alloc (.cells #[.int .u64 0, .int .u64 0, .int .i64 0, .bool false] 86) := ⟨_, rfl⟩
  have HA : Hid (Below w.heap.size w wa) := by rw [hwa]; exact (((Below.refl _ _).alloc (Nat.le_refl _) _).alloc (by simp) _).alloc (by simp; omega) _
  have HCP : Hid (Cap wa w.heap.size (w.heap.size + 1) p v.root) := by
    rw [hwa]
    have e0 : (((w.alloc (.cells #[.pointer (some ⟨p, 0, none⟩)] 30)).alloc (.cells #[.int .u64 v.satp, .int .u64 v.root, .bool v.user, .bool v.sum, .bool v.mxr] 47)).alloc (.cells #[.int .u64 0, .int .u64 0, .int .i64 0, .bool false] 86)).heap[w.heap.size]? = some (.cells #[.pointer (some ⟨p, 0, none⟩)] 30 (0, 0)) :=
      (Below.heap_alloc _ _ _ (by simp; omega)).trans ((Below.heap_alloc _ _ _ (by simp)).trans (heap_alloc_new w _))
    have s1 : (w.alloc (.cells #[.pointer (some ⟨p, 0, none⟩)] 30)).heap.size = w.heap.size + 1 := by simp
    have e1 : (((w.alloc (.cells #[.pointer (some ⟨p, 0, none⟩)] 30)).alloc (.cells #[.int .u64 v.satp, .int .u64 v.root, .bool v.user, .bool v.sum, .bool v.mxr] 47)).alloc (.cells #[.int .u64 0, .int .u64 0, .int .i64 0, .bool false] 86)).heap[w.heap.size + 1]? = some (.cells #[.int .u64 v.satp, .int .u64 v.root, .bool v.user, .bool v.sum, .bool v.mxr] 47 (0, 0)) := by
      rw [← s1]
      exact (Below.heap_alloc _ _ _ (by simp)).trans (heap_alloc_new _ _)
    exact ⟨by rw [cell_of_row _ _ 0 _ _ _ e0]; rfl, by rw [cell_of_row _ _ 1 _ _ _ e1]; rfl, lt_of_block e0, lt_of_block e1⟩
  have HR : Hid (B4 wa (w.heap.size + 1 + 1) (.int .u64 0) (.int .u64 0) (.int .i64 0) (.bool false)) := by
    rw [hwa]
    have := heap_alloc_new ((w.alloc (.cells #[.pointer (some ⟨p, 0, none⟩)] 30)).alloc (.cells #[.int .u64 v.satp, .int .u64 v.root, .bool v.user, .bool v.sum, .bool v.mxr] 47)) (.cells #[.int .u64 0, .int .u64 0, .int .i64 0, .bool false] 86)
    have e1 : ((w.alloc (.cells #[.pointer (some ⟨p, 0, none⟩)] 30)).alloc (.cells #[.int .u64 v.satp, .int .u64 v.root, .bool v.user, .bool v.sum, .bool v.mxr] 47)).heap.size = w.heap.size + 1 + 1 := by simp
    rw [e1] at this
    exact this
  have HWA := hid hwa
  clear hwa
  go_enter Tryz.func53, Tryz.ntmps53
  go_wp2_with (first
    | (go_at_call 71; rw [← HWA.out]; refine (c_Both wa S p n f (HM.out.below HA.out) w.heap.size (w.heap.size + 1) v HCP.out va acc a0 a1 s0 s1 r0 r1 P HP.out).mono ?_; rintro e w1 ⟨rfl, hb1⟩; have HB1 := hid hb1; have HR1 := hid (HR.out.below hb1); obtain ⟨k0, k1, k2, k3⟩ := HR1.out.c; obtain ⟨z0, z1, z2, z3⟩ := HR1.out.z; clear hb1))
  obtain ⟨y0, y1, y2, y3⟩ := HR1.out.y (.int .u64 P.pa) (.int .u64 P.gpa) (.int .i64 P.fault) (.bool P.walk)
  refine bodyPost_ret (by simp [results, Tryz.results53, go_sem, y0, y1, y2, y3]; rfl) rfl ?_
  exact ⟨rfl, below4 (HA.out.trans (HB1.out.mono HA.out.size)) (by omega) _ _ _ _⟩
end Go.Proofs.YtlfdokkopgmfjaaGreatDoor.C
namespace Go.Proofs.YtlfdokkopgmfjaaGreatDoor.C
open Go.RowKit
set_option linter.unusedVariables false
set_option maxRecDepth 100000
/-- an environment's block -/
def EB (w : World) (b : Nat) (a r : Int) (c d e : Bool) : Prop := w.heap[b]? = some (.cells #[.int .u64 a, .int .u64 r, .bool c, .bool d, .bool e] 47 (0, 0))
section
variable {w : World} {b : Nat} {a r : Int} {c d e : Bool}
theorem EB.below {w' : World} (h : EB w b a r c d e) (hb : Below w.heap.size w w') : EB w' b a r c d e := (hb.block b (lt_of_block h)).trans h
theorem EB.cs (h : EB w b a r c d e) : w.cell? ⟨b, 0, none⟩ = some (.int .u64 a) ∧ w.cell? ⟨b, 1, none⟩ = some (.int .u64 r) ∧ w.cell? ⟨b, 2, none⟩ = some (.bool c) ∧ w.cell? ⟨b, 3, none⟩ = some (.bool d) ∧ w.cell? ⟨b, 4, none⟩ = some (.bool e) :=
  ⟨by rw [cell_of_row w b 0 _ _ _ h]; rfl, by rw [cell_of_row w b 1 _ _ _ h]; rfl, by rw [cell_of_row w b 2 _ _ _ h]; rfl, by rw [cell_of_row w b 3 _ _ _ h]; rfl, by rw [cell_of_row w b 4 _ _ _ h]; rfl⟩
end
end Go.Proofs.YtlfdokkopgmfjaaGreatDoor.C
namespace Go.Proofs.YtlfdokkopgmfjaaGreatDoor.C
open Go.RowKit
set_option linter.unusedVariables false
set_option maxRecDepth 100000
def numR (e : Int) : Int := e / 1024 % 17592186044416
theorem numR_eq {e : Int} (h0 : 0 ≤ e) (h : wr e = false) : numR e = num e := by
  have := wr_lt h
  unfold numR num; omega
theorem and_mask44 (x : Int) (h0 : 0 ≤ x) (h1 : x < 18446744073709551616) : bits .and .u64 x 17592186044415 = x % 17592186044416 := by
  obtain ⟨n, rfl⟩ := Int.eq_ofNat_of_zero_le h0
  have h := Nat.and_two_pow_sub_one_eq_mod n 44
  rw [show (17592186044415 : Int) = ((2 ^ 44 - 1 : Nat) : Int) from rfl, bits_and_u64_nat _ _ (by omega) (by decide), h]
  omega
theorem low2 : ∀ k : Fin 256, hsN k.val 1 = decide (k.val % 2 = 1) ∧ hsN k.val 2 = decide (k.val &&& 2 ≠ 0) ∧ hsN k.val 4 = decide (k.val &&& 4 ≠ 0) ∧ hsN k.val 8 = decide (k.val &&& 8 ≠ 0) ∧ hsN k.val 16 = decide (k.val &&& 16 ≠ 0) ∧ hsN k.val 64 = decide (k.val &&& 64 ≠ 0) ∧ hsN k.val 128 = decide (k.val &&& 128 ≠ 0) ∧ hsN k.val 80 = (hsN k.val 16 && hsN k.val 64) ∧ hsN k.val 132 = (hsN k.val 4 && hsN k.val 128) := of_decide_eq_true (by kernel_rfl)
/-- a bit, as the document asks for it -/
theorem bit_of (e : Int) (h0 : 0 ≤ e) (h1 : e < 18446744073709551616) (m : Nat) (hm : m < 256) (mi : Int) (hmi : mi = m) (hb : hsN (lo e) m = decide (lo e &&& m ≠ 0)) : (hs e m = true → (bits .and .u64 e mi == 0) = false ∧ (bits .and .u64 e mi != 0) = true) ∧ (hs e m = false → (bits .and .u64 e mi == 0) = true ∧ (bits .and .u64 e mi != 0) = false) := by
  subst hmi
  have hz : hs e m = decide (lo e &&& m ≠ 0) := hb
  rw [and_lo e h0 h1 m hm, hz]
  constructor
  · intro h
    have h := of_decide_eq_true h
    constructor
    · simp; omega
    · simp; omega
  · intro h
    have h := of_decide_eq_false h
    constructor
    · simp; omega
    · simp; omega
theorem bit_eq (e : Int) (h0 : 0 ≤ e) (h1 : e < 18446744073709551616) : (bits .and .u64 e 2 != 0) = hs e 2 ∧ (bits .and .u64 e 4 != 0) = hs e 4 ∧ (bits .and .u64 e 8 != 0) = hs e 8 ∧ (bits .and .u64 e 16 != 0) = hs e 16 ∧ (bits .and .u64 e 64 != 0) = hs e 64 ∧ (bits .and .u64 e 128 != 0) = hs e 128 ∧ (bits .and .u64 e 10 != 0) = lf e := by
  obtain ⟨l1, l2, l4, l8, l16, l64, l128, _, _⟩ := low2 ⟨lo e, lo_lt e⟩
  have one : ∀ (m : Nat) (mi : Int), m < 256 → mi = m → hsN (lo e) m = decide (lo e &&& m ≠ 0) → (bits .and .u64 e mi != 0) = hs e m := fun m mi hm hmi hb => by
    have q := bit_of e h0 h1 m hm mi hmi hb
    cases h : hs e m
    · exact (q.2 h).2
    · exact (q.1 h).2
  refine ⟨one 2 2 (by decide) rfl l2, one 4 4 (by decide) rfl l4, one 8 8 (by decide) rfl l8, one 16 16 (by decide) rfl l16, one 64 64 (by decide) rfl l64, one 128 128 (by decide) rfl l128, ?_⟩
  rw [show (10 : Int) = ((10 : Nat) : Int) from rfl, and_lo e h0 h1 10 (by decide)]
  unfold lf
  rw [Bool.eq_iff_iff]; simp
theorem odd_eq (e : Int) (h0 : 0 ≤ e) : hs e 1 = decide (e % 2 = 1) := by
  have l1 := (low2 ⟨lo e, lo_lt e⟩).1
  have : hs e 1 = decide (lo e % 2 = 1) := l1
  rw [this]
  unfold lo
  rw [Bool.eq_iff_iff]; simp; omega
theorem bit0_eq (e : Int) (h0 : 0 ≤ e) (h1 : e < 18446744073709551616) : (bits .and .u64 e 2 == 0) = !hs e 2 ∧ (bits .and .u64 e 16 == 0) = !hs e 16 ∧ (bits .and .u64 e 64 == 0) = !hs e 64 ∧ (bits .and .u64 e 10 == 0) = !lf e := by
  obtain ⟨b2, b4, b8, b16, b64, b128, bl⟩ := bit_eq e h0 h1
  have f : ∀ x : Int, (x == 0) = !(x != 0) := fun x => by simp [bne]
  exact ⟨by rw [f, b2], by rw [f, b16], by rw [f, b64], by rw [f, bl]⟩
theorem q_wrong (e : Int) (h0 : 0 ≤ e) (h1 : e < 18446744073709551616) (w : World) :
    Calls Tryz.prog 78 #[.int .u64 e] w fun r w' => r = .returned (.bool (wr e)) ∧ w' = w := by
  have b4 := (bit_eq e h0 h1).2.1
  have b2 := (bit0_eq e h0 h1).1
  have ho := odd_eq e h0
  have HO := hid ho
  clear ho
  obtain ⟨c4, h4⟩ : ∃ c, hs e 4 = c := ⟨_, rfl⟩
  obtain ⟨c2, h2⟩ : ∃ c, hs e 2 = c := ⟨_, rfl⟩
  rw [h4] at b4
  rw [h2] at b2
  have HW : Hid (wr e = (!decide (e % 2 = 1) || (c4 && !c2) || decide (18014398509481984 ≤ e))) := by show _ = _; unfold wr; rw [HO.out, h4, h2]
  clear h4 h2
  go_enter Tryz.func78, Tryz.ntmps78
  cases c4
  · cases c2 <;>
    · go_wp2_with fail
      · go_ret
        have h := ‹e % 2 = 0›
        exact ⟨ret_bool (by rw [HW.out, Bool.eq_iff_iff]; simp <;> omega), rfl⟩
      · go_ret
        have h := ‹¬ e % 2 = 0›
        exact ⟨ret_bool (by rw [HW.out, Bool.eq_iff_iff]; simp <;> omega), rfl⟩
  · cases c2 <;>
    · go_wp2_with fail
      · go_ret
        have h := ‹e % 2 = 0›
        exact ⟨ret_bool (by rw [HW.out, Bool.eq_iff_iff]; simp <;> omega), rfl⟩
      · go_ret
        have h := ‹¬ e % 2 = 0›
        exact ⟨ret_bool (by rw [HW.out, Bool.eq_iff_iff]; simp <;> omega), rfl⟩
theorem q_number (e : Int) (h0 : 0 ≤ e) (h1 : e < 18446744073709551616) (w : World) :
    Calls Tryz.prog 79 #[.int .u64 e] w fun r w' => r = .returned (.int .u64 (numR e)) ∧ w' = w := by
  have hm := and_mask44 (e / 1024) (by omega) (by omega)
  go_enter Tryz.func79, Tryz.ntmps79
  go_wp2
  go_ret
  exact ⟨rfl, rfl⟩
theorem q_misplaced (e : Int) (h0 : 0 ≤ e) (h1 : e < 18446744073709551616) (k : Nat) (hk : k ≤ 2) (w : World) :
    Calls Tryz.prog 80 #[.int .u64 e, .int .i64 k] w fun r w' => r = .returned (.bool (decide (numR e % pw k ≠ 0))) ∧ w' = w := by
  have hn : 0 ≤ numR e := by unfold numR; omega
  have hn2 : numR e < 17592186044416 := by unfold numR; omega
  go_enter Tryz.func80, Tryz.ntmps80
  rcases (show k = 0 ∨ k = 1 ∨ k = 2 by omega) with rfl | rfl | rfl
  · go_wp2_with (go_at_call 79; refine (q_number e h0 h1 _).mono ?_; rintro r w2 ⟨rfl, hw2⟩; obtain rfl := hw2.symm)
    go_ret
    exact ⟨ret_bool (by rw [pw0, Bool.eq_iff_iff]; simp), rfl⟩
  · go_wp2_with (go_at_call 79; refine (q_number e h0 h1 _).mono ?_; rintro r w2 ⟨rfl, hw2⟩; obtain rfl := hw2.symm)
    go_ret
    exact ⟨ret_bool (by rw [pw1, Bool.eq_iff_iff]; simp), rfl⟩
  · go_wp2_with (go_at_call 79; refine (q_number e h0 h1 _).mono ?_; rintro r w2 ⟨rfl, hw2⟩; obtain rfl := hw2.symm)
    go_ret
    exact ⟨ret_bool (by rw [pw2, Bool.eq_iff_iff]; simp), rfl⟩
theorem q_lets (e acc : Int) (h0 : 0 ≤ e) (h1 : e < 18446744073709551616) (w : World) :
    Calls Tryz.prog 83 #[.int .u64 e, .int .i64 acc] w fun r w' => r = .returned (.bool (al e acc)) ∧ w' = w := by
  obtain ⟨b2, b4, b8, _, _, b128, _⟩ := bit_eq e h0 h1
  obtain ⟨_, b16, b64, _⟩ := bit0_eq e h0 h1
  have l80 := (low2 ⟨lo e, lo_lt e⟩).2.2.2.2.2.2.2.1
  have l132 := (low2 ⟨lo e, lo_lt e⟩).2.2.2.2.2.2.2.2
  have HL : Hid (hs e 80 = (hs e 16 && hs e 64) ∧ hs e 132 = (hs e 4 && hs e 128)) := ⟨l80, l132⟩
  clear l80 l132
  go_enter Tryz.func83, Tryz.ntmps83
  cases c16 : hs e 16
  · rw [c16] at b16
    go_wp2_with fail
    go_ret
    exact ⟨ret_bool (by simp [al, HL.out.1, c16]), rfl⟩
  · rw [c16] at b16
    cases c64 : hs e 64
    · rw [c64] at b64
      go_wp2_with fail
      go_ret
      exact ⟨ret_bool (by simp [al, HL.out.1, c64]), rfl⟩
    · rw [c64] at b64
      by_cases a1 : acc = 1
      · subst a1
        go_wp2_with fail
        go_ret
        exact ⟨ret_bool (by simp [al, HL.out.1, c16, c64]), rfl⟩
      · by_cases a2 : acc = 2
        · subst a2
          go_wp2_with fail
          go_ret
          exact ⟨ret_bool (by simp [al, HL.out.1, c16, c64]), rfl⟩
        · by_cases a3 : acc = 3
          · subst a3
            cases c4 : hs e 4
            · rw [c4] at b4
              go_wp2_with fail
              go_ret
              exact ⟨ret_bool (by simp [al, HL.out.2, c4]), rfl⟩
            · rw [c4] at b4
              go_wp2_with fail
              go_ret
              exact ⟨ret_bool (by simp [al, HL.out.1, HL.out.2, c16, c64, c4]), rfl⟩
          · go_wp2_with fail
            go_ret
            exact ⟨ret_bool (by simp [al, a1, a2, a3]), rfl⟩
theorem q_put4 (e addr : Int) (h0 : 0 ≤ e) (h1 : e < 18446744073709551616) (a0 : 0 ≤ addr) (a1 : addr < 18446744073709551616) (k : Nat) (hk : k ≤ 2) (w : World) :
    Calls Tryz.prog 82 #[.agg #[.int .u64 e, .int .i64 k], .int .u64 addr] w fun r w' => r = .returned (.int .u64 (numR e * 4096 + addr % (4096 * pw k))) ∧ Below w.heap.size w w' := by
  have hn : 0 ≤ numR e := by unfold numR; omega
  have hn2 : numR e < 17592186044416 := by unfold numR; omega
  go_enter Tryz.func82, Tryz.ntmps82
  rcases (show k = 0 ∨ k = 1 ∨ k = 2 by omega) with rfl | rfl | rfl
  · go_wp2_with fail
    go_quiet (first
      | (go_at_call 79; exact Calls.quiet_of_same (q_number e h0 h1 _)))
    go_wp2
    go_ret
    exact ⟨ret_int (by rw [pw0]; omega), ((Below.refl _ _).alloc (Nat.le_refl _) _).trans ⟨rfl, rfl, rfl, Nat.le_refl _, fun _ _ => rfl⟩⟩
  · go_wp2_with fail
    go_quiet (first
      | (go_at_call 79; exact Calls.quiet_of_same (q_number e h0 h1 _)))
    go_wp2
    go_ret
    exact ⟨ret_int (by rw [pw1]; omega), ((Below.refl _ _).alloc (Nat.le_refl _) _).trans ⟨rfl, rfl, rfl, Nat.le_refl _, fun _ _ => rfl⟩⟩
  · go_wp2_with fail
    go_quiet (first
      | (go_at_call 79; exact Calls.quiet_of_same (q_number e h0 h1 _)))
    go_wp2
    go_ret
    exact ⟨ret_int (by rw [pw2]; omega), ((Below.refl _ _).alloc (Nat.le_refl _) _).trans ⟨rfl, rfl, rfl, Nat.le_refl _, fun _ _ => rfl⟩⟩
end Go.Proofs.YtlfdokkopgmfjaaGreatDoor.C
