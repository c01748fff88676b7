/- Package page: both stages. -/
import Derived.Test.YtfoafgbhelgjcaaCPI
namespace Go.Proofs.Ytfoafgbhelgjcaa.C
open Go.RowKit
set_option linter.unusedVariables false
set_option maxRecDepth 100000

/-- what the first stage's find says -/
def fd1 (r : DR) (v : EnvV) (acc : Int) : Int := if r.fault ≠ 0 then r.fault else if fa r.leaf v acc = true then 0 else 1
set_option maxHeartbeats 1000000 in
set_option maxRecDepth 100000 in
theorem c_find1 (w : World) (S : Nat → Prop) (p n : Nat) (f : Nat → Int) (hm : Mem w S p 0 n f) (cm ce : Nat) (b : Nat) (v : EnvV) (hcp : Cap w cm ce p v.root) (hcb : cm ≠ b ∧ ce ≠ b) (addr root acc : Int) (a0 : 0 ≤ addr) (a1 : addr < 18446744073709551616) (hx : ext addr = true) (s0 : 0 ≤ root) (s1 : root < 18446744073709551616) (r0 : 0 ≤ v.root) (r1 : v.root < 18446744073709551616)
    (h : WK w b 189 (tl v cm ce) p addr root 0 1 0) :
    Calls Try.prog 107 #[.pointer (some ⟨b, 0, none⟩), .int .i64 acc] w fun r w' => r = .returned (.int .i64 (fd1 (D (rdg (rdm n f) v.root) addr 1 2 root) v acc)) ∧
      WK w' b 189 (tl v cm ce) p addr (D (rdg (rdm n f) v.root) addr 1 2 root).table (D (rdg (rdm n f) v.root) addr 1 2 root).level 1 (D (rdg (rdm n f) v.root) addr 1 2 root).leaf ∧ Only (· = b) w w' := by
  have c1 := h.c1
  have HM := hid hm
  have HW := hid h
  have hnS : ¬ S b := hm.typ h (by decide) (by decide) (by decide)
  have hRd := rdg_ok (rdm_ok n f hm.byt) v.root r0 r1
  have hq := D_ok hRd addr 1 2 root (by decide) s0 s1
  obtain ⟨r, hr⟩ : ∃ r, D (rdg (rdm n f) v.root) addr 1 2 root = r := ⟨_, rfl⟩
  have HR := hid hr
  rw [hr]
  rw [hr] at hq
  have HQ := hid hq
  have HXT := hid hx
  have HCP := hid hcp
  clear h hm hr hq hx hcp
  go_enter Try.func107, Try.ntmps107
  go_wp2_with (first
    | (go_at_call 114; refine (c_isExtended _ addr a0 a1).mono ?_; rintro e w2 ⟨rfl, hw2⟩; obtain rfl := hw2.symm; rw [HXT.out])
    | (go_at_call 100; refine (c_down1 w b 189 (tl v cm ce) p addr root 0 1 a0 (by omega) s0 s1 HW.out (rdg (rdm n f) v.root) (fun a => (hRd a).1) (fun w1 t k hw1 ho1 a q0 q1 => c_loadGuest w1 b 189 v p addr t k 1 0 cm ce hw1 S n f (HM.out.only (T := (· = b)) ho1 (fun j hj q => hnS (q ▸ hj))) (HCP.out.only ho1 hcb.1 hcb.2) a q0 q1 r0 r1)).mono ?_; rintro e w1 ⟨rfl, hw1, ho1⟩; rw [HR.out] at hw1; rw [HR.out]; have HW1 := hid hw1; have HO1 := hid ho1; have c4 := hw1.c4; have c5 := hw1.c5; clear hw1 ho1)
    | (go_at_call 105; (with_reducible refine (c_has64 r.leaf HQ.out.leaf0 (by have := HQ.out.leaf1; omega) _ rfl _).mono ?_); rintro e w2 ⟨rfl, hw2⟩; obtain rfl := hw2.symm)
    | (go_at_call 116; refine (c_belongs w1 b _ v p _ _ _ _ _ acc HW1.out HQ.out.leaf0 (by have := HQ.out.leaf1; omega)).mono ?_; rintro e w2 ⟨rfl, m2, hw2⟩; subst hw2)
    | (go_at_call 117; refine (c_allows1 (w1.drewN m2) b _ v p _ _ _ _ _ acc (HW1.out.drewN m2) HQ.out.leaf0 (by have := HQ.out.leaf1; omega)).mono ?_; rintro e w2 ⟨rfl, m3, hw2⟩; subst hw2))
  · go_ret
    have g := ‹(r.fault != 0) = true›
    exact ⟨ret_int (by unfold fd1; rw [if_pos (by simpa using g)]), HW1.out, HO1.out⟩
  · go_ret
    have g : r.fault = 0 := by simpa using ‹(r.fault != 0) = false›
    have g4 : alf r.leaf v acc = false := by simpa using ‹(!alf r.leaf v acc) = true›
    exact ⟨ret_int (by unfold fd1 fa; rw [if_neg (by simpa using g), g4]; simp), HW1.out, HO1.out.drewN _⟩
  · go_ret
    have g : r.fault = 0 := by simpa using ‹(r.fault != 0) = false›
    have g2 := ‹hs r.leaf 64 = true›
    have g3 := ‹bel r.leaf v acc = true›
    have g4 : alf r.leaf v acc = true := by simpa using ‹(!alf r.leaf v acc) = false›
    exact ⟨ret_int (by unfold fd1 fa; rw [if_neg (by simpa using g), g2, g3, g4]; simp), HW1.out, HO1.out.drewN _⟩
  · go_ret
    have g : r.fault = 0 := by simpa using ‹(r.fault != 0) = false›
    have g3 : bel r.leaf v acc = false := by simpa using ‹¬ bel r.leaf v acc = true›
    exact ⟨ret_int (by unfold fd1 fa; rw [if_neg (by simpa using g), g3]; simp), HW1.out, HO1.out.drewN _⟩
  · go_ret
    have g : r.fault = 0 := by simpa using ‹(r.fault != 0) = false›
    have g3 : hs r.leaf 64 = false := by simpa using ‹¬ hs r.leaf 64 = true›
    exact ⟨ret_int (by unfold fd1 fa; rw [if_neg (by simpa using g), g3]; simp), HW1.out, HO1.out⟩
theorem c_find1_no {cm ce : Nat} (w : World) (p b : Nat) (v : EnvV) (addr root acc : Int) (a0 : 0 ≤ addr) (a1 : addr < 18446744073709551616) (hx : ext addr = false) (h : WK w b 189 (tl v cm ce) p addr root 0 1 0) :
    Calls Try.prog 107 #[.pointer (some ⟨b, 0, none⟩), .int .i64 acc] w fun r w' => r = .returned (.int .i64 1) ∧ w' = w := by
  have c1 := h.c1
  have c4 := h.c4
  clear h
  have HXT := hid hx
  clear hx
  go_enter Try.func107, Try.ntmps107
  go_wp2_with (first
    | (go_at_call 114; refine (c_isExtended _ addr a0 a1).mono ?_; rintro e w2 ⟨rfl, hw2⟩; obtain rfl := hw2.symm; rw [HXT.out]))
  go_ret
  exact ⟨rfl, rfl⟩
def plV (x : PlV) : Value := .agg #[.int .u64 x.pa, .int .u64 x.gpa, .int .i64 x.fault, .bool x.walk]
/-- a block of four cells, and what it is behind four stores -/
def B4 (w : World) (b : Nat) (u0 u1 u2 u3 : Value) : Prop := w.heap[b]? = some (.cells #[u0, u1, u2, u3] 93 (0, 0))
section
variable {w : World} {b : Nat} {u0 u1 u2 u3 : Value}
theorem B4.below {w' : World} (h : B4 w b u0 u1 u2 u3) (hb : Below w.heap.size w w') : B4 w' b u0 u1 u2 u3 := (hb.block b (lt_of_block h)).trans h
theorem B4.c (h : B4 w b u0 u1 u2 u3) : w.cell? ⟨b, 0, none⟩ = some u0 ∧ w.cell? ⟨b, 1, none⟩ = some u1 ∧ w.cell? ⟨b, 2, none⟩ = some u2 ∧ w.cell? ⟨b, 3, none⟩ = some u3 :=
  ⟨by rw [cell_of_row w b 0 _ _ _ h]; rfl, by rw [cell_of_row w b 1 _ _ _ h]; rfl, by rw [cell_of_row w b 2 _ _ _ h]; rfl, by rw [cell_of_row w b 3 _ _ _ h]; rfl⟩
theorem B4.z (h : B4 w b u0 u1 u2 u3) : w.frozen? ⟨b, 0, none⟩ = false ∧ w.frozen? ⟨b, 1, none⟩ = false ∧ w.frozen? ⟨b, 2, none⟩ = false ∧ w.frozen? ⟨b, 3, none⟩ = false :=
  ⟨frozen_of_row w b 0 _ _ h, frozen_of_row w b 1 _ _ h, frozen_of_row w b 2 _ _ h, frozen_of_row w b 3 _ _ h⟩
theorem B4.y (h : B4 w b u0 u1 u2 u3) (v0 v1 v2 v3 : Value) : (w.setCell ⟨b, 0, none⟩ v0).cell? ⟨b, 0, none⟩ = some v0 ∧ ((w.setCell ⟨b, 0, none⟩ v0).setCell ⟨b, 1, none⟩ v1).cell? ⟨b, 1, none⟩ = some v1 ∧
    (((w.setCell ⟨b, 0, none⟩ v0).setCell ⟨b, 1, none⟩ v1).setCell ⟨b, 2, none⟩ v2).cell? ⟨b, 2, none⟩ = some v2 ∧ ((((w.setCell ⟨b, 0, none⟩ v0).setCell ⟨b, 1, none⟩ v1).setCell ⟨b, 2, none⟩ v2).setCell ⟨b, 3, none⟩ v3).cell? ⟨b, 3, none⟩ = some v3 := by
  obtain ⟨c0, c1, c2, c3⟩ := h.c
  have e1 : (w.setCell ⟨b, 0, none⟩ v0).cell? ⟨b, 1, none⟩ = some u1 := by rw [World.cell?_setCell_other _ _ _ _ (by intro e; cases e)]; exact c1
  have e2 : ((w.setCell ⟨b, 0, none⟩ v0).setCell ⟨b, 1, none⟩ v1).cell? ⟨b, 2, none⟩ = some u2 := by
    rw [World.cell?_setCell_other _ _ _ _ (by intro e; cases e), World.cell?_setCell_other _ _ _ _ (by intro e; cases e)]; exact c2
  have e3 : (((w.setCell ⟨b, 0, none⟩ v0).setCell ⟨b, 1, none⟩ v1).setCell ⟨b, 2, none⟩ v2).cell? ⟨b, 3, none⟩ = some u3 := by
    rw [World.cell?_setCell_other _ _ _ _ (by intro e; cases e), World.cell?_setCell_other _ _ _ _ (by intro e; cases e), World.cell?_setCell_other _ _ _ _ (by intro e; cases e)]; exact c3
  exact ⟨World.cell?_setCell_same _ _ _ c0, World.cell?_setCell_same _ _ _ e1, World.cell?_setCell_same _ _ _ e2, World.cell?_setCell_same _ _ _ e3⟩
end
theorem below4 {B : Nat} {w w' : World} (h : Below B w w') {b : Nat} (hb : B ≤ b) (v0 v1 v2 v3 : Value) : Below B w ((((w'.setCell ⟨b, 0, none⟩ v0).setCell ⟨b, 1, none⟩ v1).setCell ⟨b, 2, none⟩ v2).setCell ⟨b, 3, none⟩ v3) :=
  (((h.setCell hb _).setCell hb _).setCell hb _).setCell hb _
theorem c_placeOf (w : World) (S : Nat → Prop) (p n : Nat) (f : Nat → Int) (hm : Mem w S p 0 n f) (cm ce : Nat) (root : Int) (hcp : Cap w cm ce p root) (gpa acc : Int) (s0 : 0 ≤ root) (s1 : root < 18446744073709551616) (a0 : 0 ≤ gpa) (a1 : gpa < 18446744073709551616) :
    Calls Try.prog 90 #[.int .u64 gpa, .int .i64 acc, .func (.func 67) #[] #[.pointer (some ⟨cm, 0, none⟩), .pointer (some ⟨ce, 0, none⟩)]] w fun r w' => r = .returned (plV (plOf (rdm n f) root gpa acc)) ∧ Below w.heap.size w w' := by
  have HM := hid hm
  have HCP := hid hcp
  clear hm hcp
  obtain ⟨x, y, z, hg⟩ : ∃ x y z, gst (rdm n f) root gpa acc = (x, y, z) := ⟨_, _, _, rfl⟩
  have hp : plOf (rdm n f) root gpa acc = ⟨x, gpa, z, false⟩ := by unfold plOf; rw [hg]
  rw [hp]
  have HG := hid hg
  clear hg hp
  obtain ⟨wa, hwa⟩ : ∃ wa, wa = w.alloc (.cells #[.int .u64 0, .int .u64 0, .int .i64 0, .bool false] 93) := ⟨_, rfl⟩
  have HA : Hid (Below w.heap.size w wa) := by rw [hwa]; exact (Below.refl _ _).alloc (Nat.le_refl _) _
  have HR : Hid (B4 wa w.heap.size (.int .u64 0) (.int .u64 0) (.int .i64 0) (.bool false)) := by rw [hwa]; exact heap_alloc_new w _
  have HWA := hid hwa
  clear hwa
  go_enter Try.func90, Try.ntmps90
  go_wp2_with (first
    | (go_at_call 67; rw [← HWA.out]; refine (c_ask wa S p n f (HM.out.below HA.out) cm ce root (HCP.out.below HA.out) gpa acc s0 s1 a0 a1 x y z HG.out).mono ?_; rintro e w1 ⟨rfl, hb1⟩; have HB1 := hid hb1; have HR1 := hid (HR.out.below hb1); obtain ⟨k0, k1, k2, k3⟩ := HR1.out.c; obtain ⟨z0, z1, z2, z3⟩ := HR1.out.z; clear hb1))
  obtain ⟨y0, y1, y2, y3⟩ := HR1.out.y (.int .u64 x) (.int .u64 gpa) (.int .i64 z) (.bool false)
  refine bodyPost_ret (by simp [results, Try.results90, go_sem, y0, y1, y2, y3]; rfl) rfl ?_
  exact ⟨rfl, below4 (HA.out.trans (HB1.out.mono HA.out.size)) (Nat.le_refl _) _ _ _ _⟩
end Go.Proofs.Ytfoafgbhelgjcaa.C
