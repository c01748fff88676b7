/- The document's engine: a step, through any gate. -/
import Derived.Test.YtmdconecigenfaaGreatMH6
namespace Go.Proofs.YtmdconecigenfaaGreat
open Go.RowKit
open C (Only hid Still ret_int ret_bool)
set_option linter.unusedVariables false
set_option maxRecDepth 100000

/-- the message that is sent, or none -/
def mgE (G : Gate) (r : Nat → Int) (s : G.σ) : (Int × Int × Bool) × G.σ := bif r 4 == 0 then ((0, 0, false), s) else (((G.msg s (r 4) (r 5)).1, (G.msg s (r 4) (r 5)).2.1, (G.msg s (r 4) (r 5)).2.2.1), (G.msg s (r 4) (r 5)).2.2.2)
structure RGateC (G : Gate) (RR : World → (Nat → Prop) → G.σ → Prop) (v : YV) : Prop where
  sep : ∀ w F s, RR w F s → ∀ k, F k → ∃ c t f, w.heap[k]? = some (.cells c t f) ∧ t ≠ 69
  only : ∀ w F s, RR w F s → ∀ w' T, Only T w w' → (∀ k, F k → ¬ T k) → RR w' F s
  A : ∀ w F s, RR w F s → ∀ y r c, Ye w y v r c → ∀ a wt, 0 ≤ a → a < 18446744073709551616 → Calls Tryz.prog 58 #[.pointer (some ⟨y, 0, none⟩), .int .u64 a, .bool wt] w fun e w' => ∃ a', e = .returned (.tuple #[.int .u64 a', .bool (G.acc s a wt).2.1]) ∧ ((G.acc s a wt).2.1 = true → a' = (G.acc s a wt).1) ∧ ∃ F', RR w' F' (G.acc s a wt).2.2 ∧ Tx w F w' F'
  Rd : ∀ w F s, RR w F s → ∀ p, G.vld s p → Calls Tryz.prog 60 #[.pointer (some ⟨v.m, 0, none⟩), .int .u64 p, .int .i64 8] w fun e w' => e = .returned (.tuple #[.int .u64 (G.rd s p), .bool true]) ∧ Below w.heap.size w w'
  rb : ∀ w F s, RR w F s → ∀ p, 0 ≤ G.rd s p ∧ G.rd s p < 18446744073709551616
  W : ∀ w F s, RR w F s → ∀ p x, G.vld s p → 0 ≤ x → x < 18446744073709551616 → Calls Tryz.prog 61 #[.pointer (some ⟨v.m, 0, none⟩), .int .u64 p, .int .i64 8, .int .u64 x] w fun e w' => e = .returned (.bool true) ∧ ∃ F', RR w' F' (G.st s p x) ∧ Tx w F w' F'
  M : ∀ w F s, RR w F s → ∀ y r c, Ye w y v r c → RB r → Calls Tryz.prog 59 #[.pointer (some ⟨y, 0, none⟩)] w fun e w' => e = .returned (.tuple #[.agg #[.int .i64 (mgE G r s).1.1, .int .i64 (mgE G r s).1.2.1], .bool (mgE G r s).1.2.2]) ∧ ∃ F', RR w' F' (mgE G r s).2 ∧ Tx w F w' F'
section
variable {G : Gate} {RR : World → (Nat → Prop) → G.σ → Prop} {v : YV}
theorem RGateC.lt (hG : RGateC G RR v) {w : World} {F : Nat → Prop} {s : G.σ} (h : RR w F s) {k : Nat} (hk : F k) : k < w.heap.size := by
  obtain ⟨c, t, f, q, -⟩ := hG.sep w F s h k hk
  exact lt_of_block q
theorem RGateC.below (hG : RGateC G RR v) {w w' : World} {F : Nat → Prop} {s : G.σ} (h : RR w F s) (hb : Below w.heap.size w w') : RR w' F s := hG.only w F s h w' (fun _ => False) (.ofBelow hb) fun _ _ q => q
theorem RGateC.ne (hG : RGateC G RR v) {w : World} {F : Nat → Prop} {s : G.σ} (h : RR w F s) {y : Nat} {r : Nat → Int} {c : Int} (he : Ye w y v r c) : ¬ F y := fun q => by
  obtain ⟨c, t, f, q1, q2⟩ := hG.sep w F s h y q
  rw [he] at q1
  cases q1
  exact q2 rfl
theorem RGateC.ye (hG : RGateC G RR v) {w w' : World} {F F' : Nat → Prop} {s : G.σ} (h : RR w F s) {y : Nat} {r : Nat → Int} {c : Int} (he : Ye w y v r c) (ht : Tx w F w' F') : Ye w' y v r c := he.only ht.1 (hG.ne h he)
theorem RGateC.own (hG : RGateC G RR v) {w w' : World} {F : Nat → Prop} {s : G.σ} (h : RR w F s) {y : Nat} {r : Nat → Int} {c : Int} (he : Ye w y v r c) (ho : Only (· = y) w w') : RR w' F s := hG.only w F s h w' _ ho fun k hk q => hG.ne h he (q ▸ hk)
end
theorem stN_1 (G : Gate) (r : Nat → Int) (s : G.σ) (h3 : (r 3 == 1) = true) (h1 : (G.acc s (w64 (r 0 + r 6)) false).2.1 = false) : stN G r s = ((mgE G (eu r 3 3) (G.acc s (w64 (r 0 + r 6)) false).2.2).1, eu r 3 3, (mgE G (eu r 3 3) (G.acc s (w64 (r 0 + r 6)) false).2.2).2) := by
  have hc : cpN G r s = (3, r, (G.acc s (w64 (r 0 + r 6)) false).2.2) := by unfold cpN; rw [h1]; rfl
  unfold stN msB mgE
  rw [h3, hc, show eu r 3 3 4 = r 4 from rfl, show eu r 3 3 5 = r 5 from rfl]
  cases (r 4 == 0) <;> rfl
theorem stN_2 (G : Gate) (r : Nat → Int) (s : G.σ) (h3 : (r 3 == 1) = true) (h1 : (G.acc s (w64 (r 0 + r 6)) false).2.1 = true) (h2 : (G.acc (G.acc s (w64 (r 0 + r 6)) false).2.2 (w64 (r 1 + r 6)) true).2.1 = false) : stN G r s = ((mgE G (eu r 3 3) (G.acc (G.acc s (w64 (r 0 + r 6)) false).2.2 (w64 (r 1 + r 6)) true).2.2).1, eu r 3 3, (mgE G (eu r 3 3) (G.acc (G.acc s (w64 (r 0 + r 6)) false).2.2 (w64 (r 1 + r 6)) true).2.2).2) := by
  have hc : cpN G r s = (3, r, (G.acc (G.acc s (w64 (r 0 + r 6)) false).2.2 (w64 (r 1 + r 6)) true).2.2) := by unfold cpN; rw [h1, h2]; rfl
  unfold stN msB mgE
  rw [h3, hc, show eu r 3 3 4 = r 4 from rfl, show eu r 3 3 5 = r 5 from rfl]
  cases (r 4 == 0) <;> rfl
theorem stN_3 (G : Gate) (r : Nat → Int) (s : G.σ) (h3 : (r 3 == 1) = true) (h1 : (G.acc s (w64 (r 0 + r 6)) false).2.1 = true) (h2 : (G.acc (G.acc s (w64 (r 0 + r 6)) false).2.2 (w64 (r 1 + r 6)) true).2.1 = true) (h8 : (w64 (r 6 + 8) == r 2) = false) : stN G r s = ((0, 0, false), eu (eu r 6 (w64 (r 6 + 8))) 3 1, G.st (G.acc (G.acc s (w64 (r 0 + r 6)) false).2.2 (w64 (r 1 + r 6)) true).2.2 (G.acc (G.acc s (w64 (r 0 + r 6)) false).2.2 (w64 (r 1 + r 6)) true).1 (G.rd (G.acc (G.acc s (w64 (r 0 + r 6)) false).2.2 (w64 (r 1 + r 6)) true).2.2 (G.acc s (w64 (r 0 + r 6)) false).1)) := by
  unfold stN msB cpN
  rw [h3, h1, h2, h8]
  rfl
theorem stN_4 (G : Gate) (r : Nat → Int) (s : G.σ) (h3 : (r 3 == 1) = true) (h1 : (G.acc s (w64 (r 0 + r 6)) false).2.1 = true) (h2 : (G.acc (G.acc s (w64 (r 0 + r 6)) false).2.2 (w64 (r 1 + r 6)) true).2.1 = true) (h8 : (w64 (r 6 + 8) == r 2) = true) : stN G r s = ((mgE G (eu (eu r 6 (w64 (r 6 + 8))) 3 2) (G.st (G.acc (G.acc s (w64 (r 0 + r 6)) false).2.2 (w64 (r 1 + r 6)) true).2.2 (G.acc (G.acc s (w64 (r 0 + r 6)) false).2.2 (w64 (r 1 + r 6)) true).1 (G.rd (G.acc (G.acc s (w64 (r 0 + r 6)) false).2.2 (w64 (r 1 + r 6)) true).2.2 (G.acc s (w64 (r 0 + r 6)) false).1))).1, eu (eu r 6 (w64 (r 6 + 8))) 3 2, (mgE G (eu (eu r 6 (w64 (r 6 + 8))) 3 2) (G.st (G.acc (G.acc s (w64 (r 0 + r 6)) false).2.2 (w64 (r 1 + r 6)) true).2.2 (G.acc (G.acc s (w64 (r 0 + r 6)) false).2.2 (w64 (r 1 + r 6)) true).1 (G.rd (G.acc (G.acc s (w64 (r 0 + r 6)) false).2.2 (w64 (r 1 + r 6)) true).2.2 (G.acc s (w64 (r 0 + r 6)) false).1))).2) := by
  have hc : cpN G r s = (2, eu r 6 (w64 (r 6 + 8)), G.st (G.acc (G.acc s (w64 (r 0 + r 6)) false).2.2 (w64 (r 1 + r 6)) true).2.2 (G.acc (G.acc s (w64 (r 0 + r 6)) false).2.2 (w64 (r 1 + r 6)) true).1 (G.rd (G.acc (G.acc s (w64 (r 0 + r 6)) false).2.2 (w64 (r 1 + r 6)) true).2.2 (G.acc s (w64 (r 0 + r 6)) false).1)) := by unfold cpN; rw [h1, h2, h8]; rfl
  unfold stN msB mgE
  rw [h3, hc, show eu (eu r 6 (w64 (r 6 + 8))) 3 2 4 = r 4 from rfl, show eu (eu r 6 (w64 (r 6 + 8))) 3 2 5 = r 5 from rfl]
  cases (r 4 == 0) <;> rfl
theorem Ye.cong {w : World} {y : Nat} {v : YV} {r r' : Nat → Int} {c : Int} (h : Ye w y v r c) (hr : ∀ k, k < 6 → r k = r' k) : Ye w y v r' c := by
  have hc : v.cells r c = v.cells r' c := by
    unfold YV.cells
    rw [hr 0 (by decide), hr 1 (by decide), hr 2 (by decide), hr 3 (by decide), hr 4 (by decide), hr 5 (by decide)]
  unfold Ye at h ⊢
  rw [← hc]; exact h
theorem st_cong {r : Nat → Int} {x : Int} (h : r 3 = 1) : ∀ k, k < 6 → r k = eu (eu r 6 x) 3 1 k := fun k hk => by
  unfold eu
  split
  · rename_i q; rw [q]; exact h
  · split
    · omega
    · rfl
section
variable {G : Gate} {ty : TypeId} {rv : Value} {m : Nat} {dev : Int} {fA fM : FuncId} {rc : Value} (hG0 : GateC G ty rv m dev fA fM rc) {RR : World → (Nat → Prop) → G.σ → Prop} {v : YV} (hG : RGateC G RR v) (w : World) (y : Nat) (r : Nat → Int) (c : Int) (h : Ye w y v r c) (hr : RB r) (F : Nat → Prop) (s : G.σ) (hR : RR w F s) (hc : r 3 = 1 → c = r 6) (hi : r 3 = 1 → r 6 % 8 = 0 ∧ r 6 < r 2 ∧ r 2 % 8 = 0 ∧ r 2 ≤ 4096)
include hG0 hG h hr hR hc hi
set_option maxHeartbeats 2000000 in
theorem y_Step : Calls Tryz.prog 32 #[.pointer (some ⟨y, 0, none⟩)] w fun x w' => x = .returned (.tuple #[.agg #[.int .i64 (stN G r s).1.1, .int .i64 (stN G r s).1.2.1], .bool (stN G r s).1.2.2]) ∧ (∃ c', Ye w' y v (stN G r s).2.1 c' ∧ ((stN G r s).2.1 3 = 1 → c' = (stN G r s).2.1 6)) ∧ ∃ F', RR w' F' (stN G r s).2.2 ∧ Txe w y F w' F' := by
  have hel := h.lt
  have hlt : ∀ k, F k → k < w.heap.size := fun k => hG.lt hR
  have HB := hid hr
  have HLT := hid hlt
  have hb0 : Below w.heap.size w (w.alloc (.cells #[.int .i64 0, .int .i64 0] 50)) := (Below.refl _ _).alloc (Nat.le_refl _) _
  have E0 := hid (h.below hb0)
  have R0 := hid (hG.below hR hb0)
  have P0 := hid (heap_alloc_new w (.cells #[.int .i64 0, .int .i64 0] 50))
  have B0 := hid hb0
  have k7 := E0.out.c7
  have k3 := E0.out.c3
  have k10 := E0.out.c10
  have hne : w.heap.size ≠ y := by omega
  clear hb0 hR h hlt
  cases h3 : (r 3 == 1)
  · have e3 : ¬ r 3 = 1 := by simpa using h3
    rw [show stN G r s = ((0, 0, false), r, s) by unfold stN; rw [h3]; rfl]
    go_enter Tryz.func32, Tryz.ntmps32
    go_wp2
    go_returns
    exact ⟨rfl, ⟨c, E0.out, fun q => absurd q e3⟩, F, R0.out, .ofBelow B0.out⟩
  · have e3 : r 3 = 1 := by simpa using h3
    obtain rfl : c = r 6 := hc e3
    obtain ⟨i1, i2, i3, i4⟩ := hi e3
    obtain ⟨j0, j1⟩ := hr 6
    have hw0 : IntKind.u64.wrap (r 0 + r 6) = w64 (r 0 + r 6) := by rw [IntKind.wrap_u64]; rfl
    clear hc hi
    go_enter Tryz.func32, Tryz.ntmps32
    go_wp2_with fail
    refine wp_region_mid_dn 11 (by kernel_rfl) (by kernel_rfl) (by kernel_rfl) (by decide) (by kernel_rfl) ?_
    simp only [List.take, List.drop]
    repeat (go_big_quiet_step (fail))
    refine wpQuiet_nil ?_
    intro _ hwq
    obtain ⟨nq, hwq⟩ := hwq
    subst hwq
    refine wpOp_step rfl (fun K hK => ?_)
    go_simp
    refine (hG.A _ F s (hG.below R0.out (below_dn (Below.refl _ _) nq)) y r (r 6) (E0.out.below (below_dn (Below.refl _ _) nq)) (w64 (r 0 + r 6)) false (w64_b _).1 (w64_b _).2).mono ?_
    rintro e w1 ⟨a1, rfl, ha1, F1, r1, t1⟩
    refine hK _ _ ?_
    clear hK
    have bq : Below (w.alloc (.cells #[.int .i64 0, .int .i64 0] 50)).heap.size (w.alloc (.cells #[.int .i64 0, .int .i64 0] 50)) ((w.alloc (.cells #[.int .i64 0, .int .i64 0] 50)).drewN nq) := below_dn (Below.refl _ _) nq
    have R1 := hid r1
    have E1 := hid (hG.ye (hG.below R0.out bq) (E0.out.below bq) t1)
    have P1 := hid (t1.1.old ((bq.block _ (lt_of_block P0.out)).trans P0.out) fun q => by have := HLT.out _ q; omega)
    have nF1 : Hid (¬ F1 w.heap.size) := hid (fun q => (t1.2 _ q).elim (fun z => by have := HLT.out _ z; omega) fun z => by have := bq.size; simp at z; omega)
    have T1 := hid ((Txe.ofBelow (e := y) (F := F) B0.out).trans ((Txe.ofBelow bq).trans (t1.te y)))
    clear r1 t1 bq k7 k3 k10 R0 E0 P0
    go_simp
    repeat (go_big_quiet_step (fail))
    refine wpQuiet_nil ?_
    intro nr
    obtain ⟨w1', hw1⟩ : ∃ w', w1.drewN nr = w' := ⟨_, rfl⟩
    have bw1 : Below w1.heap.size w1 w1' := hw1 ▸ below_dn (Below.refl _ _) nr
    rw [hw1]
    have R2 := hid (hG.below R1.out bw1)
    have E2 := hid (E1.out.below bw1)
    have P2 := hid ((bw1.block _ (lt_of_block P1.out)).trans P1.out)
    have T2 := hid (T1.out.trans (.ofBelow bw1))
    have k7 := E2.out.c7
    have k3 := E2.out.c3
    have k4 := E2.out.c4
    have k5 := E2.out.c5
    have k10 := E2.out.c10
    have k1 := E2.out.c1
    have kz := E2.out.z
    obtain ⟨y0, y1, yf, yl⟩ := c_row P2.out
    clear hw1 bw1 R1 E1 P1 T1
    cases h1 : (G.acc s (w64 (r 0 + r 6)) false).2.1
    · have HST : Hid (stN G r s = ((mgE G (eu r 3 3) (G.acc s (w64 (r 0 + r 6)) false).2.2).1, eu r 3 3, (mgE G (eu r 3 3) (G.acc s (w64 (r 0 + r 6)) false).2.2).2)) := hid (stN_1 G r s h3 h1)
      have HRB : Hid (RB (eu r 3 3)) := hid (hr.eu 3 3 (by decide) (by decide))
      go_wp2_with (first
        | (go_at_call 59; refine (hG.M _ F1 _ (hG.own R2.out E2.out (only_e _ y 7 _)) y (eu r 3 3) _ (E2.out.s7 _ _ rfl) HRB.out).mono ?_; rintro e wm ⟨rfl, Fm, rm, tm⟩; have RM := hid rm; have EM := hid (hG.ye (hG.own R2.out E2.out (only_e _ y 7 _)) (E2.out.s7 _ _ rfl) tm); have TM := hid (T2.out.trans ((Txe.own _ (only_e _ y 7 _)).trans (tm.te y))); have pm := tm.1.old ((setCell_other_block _ y 7 _ w.heap.size hne).trans P2.out) nF1.out; have yl0 := lt_of_block P2.out; clear y0 y1 yf yl; obtain ⟨y0, y1, yf, yl⟩ := c_row pm; have nFm : Hid (¬ Fm w.heap.size) := hid (fun q => (tm.2 _ q).elim nF1.out fun z => by simp at z; omega); clear rm tm pm yl0))
      refine bodyPost_ret (v := .tuple #[.agg #[.int .i64 (mgE G (eu r 3 3) (G.acc s (w64 (r 0 + r 6)) false).2.2).1.1, .int .i64 (mgE G (eu r 3 3) (G.acc s (w64 (r 0 + r 6)) false).2.2).1.2.1], .bool (mgE G (eu r 3 3) (G.acc s (w64 (r 0 + r 6)) false).2.2).1.2.2]) (by simp [results, Tryz.results32, go_sem, y0, y1]) rfl ⟨by rw [HST.out], ?_⟩
      rw [HST.out]
      exact ⟨⟨_, (EM.out.only ((only_e _ w.heap.size 0 _).trans (only_e _ w.heap.size 1 _)) (fun q => hne q.symm)), fun q => absurd (show (3 : Int) = 1 from q) (by decide)⟩, Fm, hG.only _ _ _ RM.out _ (· = w.heap.size) ((only_e _ _ _ _).trans (only_e _ _ _ _)) (fun k hk q => nFm.out (q ▸ hk)), (TM.out.setN _ _ _ (Nat.le_refl _)).setN _ _ _ (Nat.le_refl _)⟩
    · obtain rfl : a1 = (G.acc s (w64 (r 0 + r 6)) false).1 := ha1 h1
      have hw1 : IntKind.u64.wrap (r 1 + r 6) = w64 (r 1 + r 6) := by rw [IntKind.wrap_u64]; rfl
      clear ha1
      go_wp2_with fail
      refine wp_region_mid_dn 11 (by kernel_rfl) (by kernel_rfl) (by kernel_rfl) (by decide) (by kernel_rfl) ?_
      simp only [List.take, List.drop]
      repeat (go_big_quiet_step (fail))
      refine wpQuiet_nil ?_
      intro _ hwq
      obtain ⟨nq2, hwq⟩ := hwq
      subst hwq
      refine wpOp_step rfl (fun K hK => ?_)
      go_simp
      refine (hG.A _ F1 _ (hG.below R2.out (below_dn (Below.refl _ _) nq2)) y r (r 6) (E2.out.below (below_dn (Below.refl _ _) nq2)) (w64 (r 1 + r 6)) true (w64_b _).1 (w64_b _).2).mono ?_
      rintro e w3 ⟨a2, rfl, ha2, F3, r3, t3⟩
      refine hK _ _ ?_
      clear hK
      have bq2 : Below w1'.heap.size w1' (w1'.drewN nq2) := below_dn (Below.refl _ _) nq2
      have R3 := hid r3
      have E3 := hid (hG.ye (hG.below R2.out bq2) (E2.out.below bq2) t3)
      have P3 := hid (t3.1.old ((bq2.block _ (lt_of_block P2.out)).trans P2.out) nF1.out)
      have nF3 : Hid (¬ F3 w.heap.size) := hid (fun q => (t3.2 _ q).elim nF1.out fun z => by have := lt_of_block P2.out; have := bq2.size; omega)
      have T3 := hid (T2.out.trans ((Txe.ofBelow bq2).trans (t3.te y)))
      clear r3 t3 bq2 k7 k3 k4 k5 k10 k1 kz y0 y1 yf yl R2 E2 P2 T2
      go_simp
      repeat (go_big_quiet_step (fail))
      refine wpQuiet_nil ?_
      intro nr2
      obtain ⟨w3', hw3⟩ : ∃ w', w3.drewN nr2 = w' := ⟨_, rfl⟩
      have bw3 : Below w3.heap.size w3 w3' := hw3 ▸ below_dn (Below.refl _ _) nr2
      rw [hw3]
      have R4 := hid (hG.below R3.out bw3)
      have E4 := hid (E3.out.below bw3)
      have P4 := hid ((bw3.block _ (lt_of_block P3.out)).trans P3.out)
      have T4 := hid (T3.out.trans (.ofBelow bw3))
      have k7 := E4.out.c7
      have k3 := E4.out.c3
      have k4 := E4.out.c4
      have k5 := E4.out.c5
      have k10 := E4.out.c10
      have k1 := E4.out.c1
      have kz := E4.out.z
      obtain ⟨y0, y1, yf, yl⟩ := c_row P4.out
      clear hw3 bw3 R3 E3 P3 T3
      cases h2 : (G.acc (G.acc s (w64 (r 0 + r 6)) false).2.2 (w64 (r 1 + r 6)) true).2.1
      · have HST : Hid (stN G r s = ((mgE G (eu r 3 3) (G.acc (G.acc s (w64 (r 0 + r 6)) false).2.2 (w64 (r 1 + r 6)) true).2.2).1, eu r 3 3, (mgE G (eu r 3 3) (G.acc (G.acc s (w64 (r 0 + r 6)) false).2.2 (w64 (r 1 + r 6)) true).2.2).2)) := hid (stN_2 G r s h3 h1 h2)
        have HRB : Hid (RB (eu r 3 3)) := hid (hr.eu 3 3 (by decide) (by decide))
        go_wp2_with (first
          | (go_at_call 59; refine (hG.M _ F3 _ (hG.own R4.out E4.out (only_e _ y 7 _)) y (eu r 3 3) _ (E4.out.s7 _ _ rfl) HRB.out).mono ?_; rintro e wm ⟨rfl, Fm, rm, tm⟩; have RM := hid rm; have EM := hid (hG.ye (hG.own R4.out E4.out (only_e _ y 7 _)) (E4.out.s7 _ _ rfl) tm); have TM := hid (T4.out.trans ((Txe.own _ (only_e _ y 7 _)).trans (tm.te y))); have pm := tm.1.old ((setCell_other_block _ y 7 _ w.heap.size hne).trans P4.out) nF3.out; have yl0 := lt_of_block P4.out; clear y0 y1 yf yl; obtain ⟨y0, y1, yf, yl⟩ := c_row pm; have nFm : Hid (¬ Fm w.heap.size) := hid (fun q => (tm.2 _ q).elim nF3.out fun z => by simp at z; omega); clear rm tm pm yl0))
        refine bodyPost_ret (v := .tuple #[.agg #[.int .i64 (mgE G (eu r 3 3) (G.acc (G.acc s (w64 (r 0 + r 6)) false).2.2 (w64 (r 1 + r 6)) true).2.2).1.1, .int .i64 (mgE G (eu r 3 3) (G.acc (G.acc s (w64 (r 0 + r 6)) false).2.2 (w64 (r 1 + r 6)) true).2.2).1.2.1], .bool (mgE G (eu r 3 3) (G.acc (G.acc s (w64 (r 0 + r 6)) false).2.2 (w64 (r 1 + r 6)) true).2.2).1.2.2]) (by simp [results, Tryz.results32, go_sem, y0, y1]) rfl ⟨by rw [HST.out], ?_⟩
        rw [HST.out]
        exact ⟨⟨_, (EM.out.only ((only_e _ w.heap.size 0 _).trans (only_e _ w.heap.size 1 _)) (fun q => hne q.symm)), fun q => absurd (show (3 : Int) = 1 from q) (by decide)⟩, Fm, hG.only _ _ _ RM.out _ (· = w.heap.size) ((only_e _ _ _ _).trans (only_e _ _ _ _)) (fun k hk q => nFm.out (q ▸ hk)), (TM.out.setN _ _ _ (Nat.le_refl _)).setN _ _ _ (Nat.le_refl _)⟩
      · obtain rfl : a2 = (G.acc (G.acc s (w64 (r 0 + r 6)) false).2.2 (w64 (r 1 + r 6)) true).1 := ha2 h2
        clear ha2
        have V1 := hid (hG0.kp _ (w64 (r 1 + r 6)) true _ (hG0.ok s _ false h1))
        have V2 := hid (hG0.ok _ _ true h2)
        have hw8 : IntKind.u64.wrap (r 6 + 8) = w64 (r 6 + 8) := by rw [IntKind.wrap_u64]; rfl
        go_wp2_with (first
          | (go_at_call 60; refine (hG.Rd _ F3 _ R4.out _ V1.out).mono ?_; rintro e w5 ⟨rfl, b5⟩; have R5 := hid (hG.below R4.out b5); have E5 := hid (E4.out.below b5); have P5 := hid ((b5.block _ (lt_of_block P4.out)).trans P4.out); have T5 := hid (T4.out.trans (.ofBelow b5)); have k1 := E5.out.c1; clear b5)
          | (go_at_call 61; refine (hG.W _ F3 _ R5.out _ _ V2.out (hG.rb _ _ _ R5.out _).1 (hG.rb _ _ _ R5.out _).2).mono ?_; rintro e w6 ⟨rfl, F6, r6, t6⟩; have R6 := hid r6; have E6 := hid (hG.ye R5.out E5.out t6); have P6 := hid (t6.1.old P5.out nF3.out); have nF6 : Hid (¬ F6 w.heap.size) := hid (fun q => (t6.2 _ q).elim nF3.out fun z => by have := lt_of_block P5.out; omega); have T6 := hid (T5.out.trans (t6.te y)); have k10 := E6.out.c10; have k5 := E6.out.c5; have k7 := E6.out.c7; have kz := E6.out.z; clear r6 t6 y0 y1 yf yl; obtain ⟨y0, y1, yf, yl⟩ := c_row P6.out))
        have h8 : w64 (r 6 + 8) = r 6 + 8 := by unfold w64; omega
        have E7 := hid (E6.out.s10 (w64 (r 6 + 8)))
        have R7 := hid (hG.own R6.out E6.out (only_e _ y 10 (.int .u64 (w64 (r 6 + 8)))))
        have P7 := hid ((setCell_other_block _ y 10 (.int .u64 (w64 (r 6 + 8))) w.heap.size hne).trans P6.out)
        have T7 := hid (T6.out.trans (Txe.own F6 (only_e _ y 10 (.int .u64 (w64 (r 6 + 8))))))
        obtain ⟨w7, hw7⟩ : ∃ w7, w6.setCell ⟨y, 10, none⟩ (.int .u64 (w64 (r 6 + 8))) = w7 := ⟨_, rfl⟩
        rw [hw7] at E7 R7 P7 T7
        rw [hw7]
        have H8 := hid h8
        clear hw7 E6 R6 P6 T6 R5 E5 P5 T5 R4 E4 P4 T4 k10 k5 k7 kz k1 y0 y1 yf yl k3 k4 h8
        have k10 := E7.out.c10
        have k5 := E7.out.c5
        have k7 := E7.out.c7
        have kz := E7.out.z
        obtain ⟨y0, y1, yf, yl⟩ := c_row P7.out
        by_cases hd : r 6 + 8 < r 2
        · have HST : Hid (stN G r s = ((0, 0, false), eu (eu r 6 (w64 (r 6 + 8))) 3 1, (G.st (G.acc (G.acc s (w64 (r 0 + r 6)) false).2.2 (w64 (r 1 + r 6)) true).2.2 (G.acc (G.acc s (w64 (r 0 + r 6)) false).2.2 (w64 (r 1 + r 6)) true).1 (G.rd (G.acc (G.acc s (w64 (r 0 + r 6)) false).2.2 (w64 (r 1 + r 6)) true).2.2 (G.acc s (w64 (r 0 + r 6)) false).1)))) := hid (stN_3 G r s h3 h1 h2 (by rw [H8.out]; simp; omega))
          have hl : w64 (r 6 + 8) < r 2 := by rw [H8.out]; exact hd
          go_quiet (fail)
          go_wp2
          refine bodyPost_ret (v := .tuple #[.agg #[.int .i64 0, .int .i64 0], .bool false]) (by simp [results, Tryz.results32, go_sem, y0, y1]) rfl ⟨by rw [HST.out], ?_⟩
          rw [HST.out]
          refine ⟨⟨w64 (r 6 + 8), Ye.cong ((E7.out.below (below_dn (Below.refl _ _) _)).only ((only_e _ w.heap.size 0 _).trans (only_e _ w.heap.size 1 _)) (fun q => hne q.symm)) (st_cong e3), fun _ => rfl⟩, F6, hG.only _ _ _ (hG.below R7.out (below_dn (Below.refl _ _) _)) _ (· = w.heap.size) ((only_e _ _ _ _).trans (only_e _ _ _ _)) (fun k hk q => nF6.out (q ▸ hk)), ((T7.out.trans (.ofBelow (below_dn (Below.refl _ _) _))).setN _ _ _ (Nat.le_refl _)).setN _ _ _ (Nat.le_refl _)⟩
        · have HST : Hid (stN G r s = ((mgE G (eu (eu r 6 (w64 (r 6 + 8))) 3 2) (G.st (G.acc (G.acc s (w64 (r 0 + r 6)) false).2.2 (w64 (r 1 + r 6)) true).2.2 (G.acc (G.acc s (w64 (r 0 + r 6)) false).2.2 (w64 (r 1 + r 6)) true).1 (G.rd (G.acc (G.acc s (w64 (r 0 + r 6)) false).2.2 (w64 (r 1 + r 6)) true).2.2 (G.acc s (w64 (r 0 + r 6)) false).1))).1, eu (eu r 6 (w64 (r 6 + 8))) 3 2, (mgE G (eu (eu r 6 (w64 (r 6 + 8))) 3 2) (G.st (G.acc (G.acc s (w64 (r 0 + r 6)) false).2.2 (w64 (r 1 + r 6)) true).2.2 (G.acc (G.acc s (w64 (r 0 + r 6)) false).2.2 (w64 (r 1 + r 6)) true).1 (G.rd (G.acc (G.acc s (w64 (r 0 + r 6)) false).2.2 (w64 (r 1 + r 6)) true).2.2 (G.acc s (w64 (r 0 + r 6)) false).1))).2)) := hid (stN_4 G r s h3 h1 h2 (by rw [H8.out]; simp; omega))
          have hl : ¬ w64 (r 6 + 8) < r 2 := by rw [H8.out]; exact hd
          have HRB : Hid (RB (eu (eu r 6 (w64 (r 6 + 8))) 3 2)) := hid ((hr.eu 6 _ (w64_b _).1 (w64_b _).2).eu 3 2 (by decide) (by decide))
          have E7' : Hid (Ye w7 y v (eu r 6 (w64 (r 6 + 8))) (w64 (r 6 + 8))) := hid (Ye.cong E7.out (fun k hk => by show r k = if k = 6 then _ else r k; rw [if_neg (by omega)]))
          go_quiet (fail)
          obtain ⟨w8, hw8⟩ : ∃ w8, w7.drewN nq = w8 := ⟨_, rfl⟩
          have b8 : Below w7.heap.size w7 w8 := hw8 ▸ below_dn (Below.refl _ _) nq
          rw [hw8]
          have R8 := hid (hG.below R7.out b8)
          have E8 := hid (E7'.out.below b8)
          have P8 := hid ((b8.block _ (lt_of_block P7.out)).trans P7.out)
          have T8 := hid (T7.out.trans (.ofBelow b8))
          clear k10 k5 k7 kz y0 y1 yf yl
          have k7 := E8.out.c7
          have kz := E8.out.z
          obtain ⟨y0, y1, yf, yl⟩ := c_row P8.out
          clear hw8 b8 R7 E7 E7' P7 T7
          go_wp2_with (first
            | (go_at_call 59; refine (hG.M _ F6 _ (hG.own R8.out E8.out (only_e _ y 7 _)) y (eu (eu r 6 (w64 (r 6 + 8))) 3 2) _ (E8.out.s7 _ _ rfl) HRB.out).mono ?_; rintro e wm ⟨rfl, Fm, rm, tm⟩; have RM := hid rm; have EM := hid (hG.ye (hG.own R8.out E8.out (only_e _ y 7 _)) (E8.out.s7 _ _ rfl) tm); have TM := hid (T8.out.trans ((Txe.own _ (only_e _ y 7 _)).trans (tm.te y))); have pm := tm.1.old ((setCell_other_block _ y 7 _ w.heap.size hne).trans P8.out) nF6.out; have yl0 := lt_of_block P8.out; clear y0 y1 yf yl; obtain ⟨y0, y1, yf, yl⟩ := c_row pm; have nFm : Hid (¬ Fm w.heap.size) := hid (fun q => (tm.2 _ q).elim nF6.out fun z => by simp at z; omega); clear rm tm pm yl0))
          refine bodyPost_ret (v := .tuple #[.agg #[.int .i64 (mgE G (eu (eu r 6 (w64 (r 6 + 8))) 3 2) (G.st (G.acc (G.acc s (w64 (r 0 + r 6)) false).2.2 (w64 (r 1 + r 6)) true).2.2 (G.acc (G.acc s (w64 (r 0 + r 6)) false).2.2 (w64 (r 1 + r 6)) true).1 (G.rd (G.acc (G.acc s (w64 (r 0 + r 6)) false).2.2 (w64 (r 1 + r 6)) true).2.2 (G.acc s (w64 (r 0 + r 6)) false).1))).1.1, .int .i64 (mgE G (eu (eu r 6 (w64 (r 6 + 8))) 3 2) (G.st (G.acc (G.acc s (w64 (r 0 + r 6)) false).2.2 (w64 (r 1 + r 6)) true).2.2 (G.acc (G.acc s (w64 (r 0 + r 6)) false).2.2 (w64 (r 1 + r 6)) true).1 (G.rd (G.acc (G.acc s (w64 (r 0 + r 6)) false).2.2 (w64 (r 1 + r 6)) true).2.2 (G.acc s (w64 (r 0 + r 6)) false).1))).1.2.1], .bool (mgE G (eu (eu r 6 (w64 (r 6 + 8))) 3 2) (G.st (G.acc (G.acc s (w64 (r 0 + r 6)) false).2.2 (w64 (r 1 + r 6)) true).2.2 (G.acc (G.acc s (w64 (r 0 + r 6)) false).2.2 (w64 (r 1 + r 6)) true).1 (G.rd (G.acc (G.acc s (w64 (r 0 + r 6)) false).2.2 (w64 (r 1 + r 6)) true).2.2 (G.acc s (w64 (r 0 + r 6)) false).1))).1.2.2]) (by simp [results, Tryz.results32, go_sem, y0, y1]) rfl ⟨by rw [HST.out], ?_⟩
          rw [HST.out]
          exact ⟨⟨_, (EM.out.only ((only_e _ w.heap.size 0 _).trans (only_e _ w.heap.size 1 _)) (fun q => hne q.symm)), fun q => absurd (show (2 : Int) = 1 from q) (by decide)⟩, Fm, hG.only _ _ _ RM.out _ (· = w.heap.size) ((only_e _ _ _ _).trans (only_e _ _ _ _)) (fun k hk q => nFm.out (q ▸ hk)), (TM.out.setN _ _ _ (Nat.le_refl _)).setN _ _ _ (Nat.le_refl _)⟩
end
end Go.Proofs.YtmdconecigenfaaGreat
