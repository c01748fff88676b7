/- What the reference reads a word as, by opcode. New blocks alone. -/
import Derived.Test.YtlfdokkopgmfjaaGreatDoorMB1
import Derived.Great.BuildSlice
namespace Go.Proofs.YtlfdokkopgmfjaaGreatDoor.B
open Go.RowKit
set_option linter.unusedVariables false
set_option maxRecDepth 100000
theorem tab_cell (W : World) (b : Nat) (hb : W.heap.size = b) (cs : Array Value) (t : TypeId) (L : List Int) (n : Nat) (hL : cs = (L.map (Value.int .i64)).toArray) (hn : L.length = n) : ∀ k, k < n → (W.alloc (.cells cs t)).cell? ⟨b, k, none⟩ = some (.int .i64 (L.getD k 0)) := by
  intro k hk
  subst hb hL hn
  rw [World.cell?_alloc_at _ _ _ _ rfl]
  simp [hk]
theorem r_pickT (b n : Nat) (L : List Int) (hn : L.length = n) (i : Int) (w : World) (hc : ∀ k : Nat, k < n → w.cell? ⟨b, k, none⟩ = some (.int .i64 (L.getD k 0))) (i0 : -9223372036854775808 ≤ i) (i1 : i < 9223372036854775808) (hn' : n < 100) (v : Int) (hv : pk L i = v) :
    Calls Tryz.prog 63 #[.slice (some ⟨b, 0, none⟩) n n, .int .i64 i] w fun e w' => e = .returned (.int .i64 v) ∧ w' = w := by
  subst hv; exact r_pick b n L hn i w hc i0 i1 hn'
theorem eight8 {n : Int} (h : 0 ≤ n ∧ n < 8) : n = 0 ∨ n = 1 ∨ n = 2 ∨ n = 3 ∨ n = 4 ∨ n = 5 ∨ n = 6 ∨ n = 7 := by omega
theorem pk_cond (a : Int) : pk [1, 2, 0, 0, 3, 4, 5, 6] (fF3 a) = tCond (fF3 a) := by
  rcases eight8 (fF3_b a) with h | h | h | h | h | h | h | h <;> rw [h] <;> rfl
theorem pk_load (a : Int) : pk [1, 2, 4, 8, 1, 2, 4] (fF3 a) = tLoad (fF3 a) := by
  rcases eight8 (fF3_b a) with h | h | h | h | h | h | h | h <;> rw [h] <;> rfl
theorem pk_store (a : Int) : pk [1, 2, 4, 8] (fF3 a) = tStore (fF3 a) := by
  rcases eight8 (fF3_b a) with h | h | h | h | h | h | h | h <;> rw [h] <;> rfl
theorem pk_bas (a : Int) : pk [1, 3, 4, 5, 6, 7, 9, 10] (fF3 a) = tBas (fF3 a) := by
  rcases eight8 (fF3_b a) with h | h | h | h | h | h | h | h <;> rw [h] <;> rfl
theorem pk_alt (a : Int) : pk [2, 0, 0, 0, 0, 8, 0, 0] (fF3 a) = tAlt (fF3 a) := by
  rcases eight8 (fF3_b a) with h | h | h | h | h | h | h | h <;> rw [h] <;> rfl
theorem pk_pro (a : Int) : pk [11, 12, 13, 14, 15, 16, 17, 18] (fF3 a) = tPro (fF3 a) := by
  rcases eight8 (fF3_b a) with h | h | h | h | h | h | h | h <;> rw [h] <;> rfl
theorem pk_basW (a : Int) : pk [19, 21, 0, 0, 0, 22, 0, 0] (fF3 a) = tBasW (fF3 a) := by
  rcases eight8 (fF3_b a) with h | h | h | h | h | h | h | h <;> rw [h] <;> rfl
theorem pk_altW (a : Int) : pk [20, 0, 0, 0, 0, 23, 0, 0] (fF3 a) = tAltW (fF3 a) := by
  rcases eight8 (fF3_b a) with h | h | h | h | h | h | h | h <;> rw [h] <;> rfl
theorem pk_proW (a : Int) : pk [24, 0, 0, 0, 25, 26, 27, 28] (fF3 a) = tProW (fF3 a) := by
  rcases eight8 (fF3_b a) with h | h | h | h | h | h | h | h <;> rw [h] <;> rfl
theorem pk_imm (a : Int) (n1 : fF3 a ≠ 1) (n5 : fF3 a ≠ 5) : pk [1, 0, 4, 5, 6, 0, 9, 10] (fF3 a) = tBas (fF3 a) := by
  rcases eight8 (fF3_b a) with h | h | h | h | h | h | h | h <;> first | exact absurd h n1 | exact absurd h n5 | (rw [h]; rfl)
theorem tBas_nz (a : Int) : tBas (fF3 a) ≠ 0 := by
  rcases eight8 (fF3_b a) with h | h | h | h | h | h | h | h <;> rw [h] <;> decide
theorem tPro_nz (a : Int) : tPro (fF3 a) ≠ 0 := by
  rcases eight8 (fF3_b a) with h | h | h | h | h | h | h | h <;> rw [h] <;> decide
theorem below2 {w : World} (o o' : Obj) : Below w.heap.size w ((w.alloc o).alloc o') := (below1 o).alloc (by simp) _
theorem below3 {w : World} (o o' o'' : Obj) : Below w.heap.size w (((w.alloc o).alloc o').alloc o'') := (below2 o o').alloc (by simp; omega) _
theorem lt4_t {a : Int} (h : fF3 a < 4) : lt4 (fF3 a) = true := by unfold lt4; exact decide_eq_true h
theorem lt4_f {a : Int} (h : ¬ fF3 a < 4) : lt4 (fF3 a) = false := by unfold lt4; exact decide_eq_false h
theorem d_55 (a : Int) (h0 : 0 ≤ a) (h1 : a < 4294967296) (w : World) (ho : fOp a = 55) :
    Calls Tryz.prog 86 #[.int .u32 a] w fun e w' => e = .returned (.tuple #[I.v ⟨1, 0, fRd a, 0, 0, iU a, 0, false⟩, .bool true]) ∧ Below w.heap.size w w' := by
  have f3b := fF3_b a
  go_enter Tryz.func86, Tryz.ntmps86
  go_wp2_with (first | (go_at_call 61; (with_reducible first | refine (g_f3 a h0 h1 _).mono ?_ | refine (g_f7 a h0 h1 _).mono ?_ | refine (g_rd a h0 h1 _).mono ?_ | refine (g_rs1 a h0 h1 _).mono ?_ | refine (g_rs2 a h0 h1 _).mono ?_ | refine (g_op a h0 h1 _).mono ?_ | refine (g_f6 a h0 h1 _).mono ?_ | refine (g_sh a h0 h1 _).mono ?_); rintro e w1 ⟨rfl, rfl⟩) | (go_at_call 101; refine (r_U a h0 h1 _).mono ?_; rintro e w1 ⟨rfl, rfl⟩))
  exact bodyPost_ret (v := .tuple #[I.v ⟨1, 0, fRd a, 0, 0, iU a, 0, false⟩, .bool true]) (by simp [results, Tryz.results86, go_sem]) rfl ⟨rfl, by first | exact below2 _ _ | exact below3 _ _ _⟩
theorem d_23 (a : Int) (h0 : 0 ≤ a) (h1 : a < 4294967296) (w : World) (ho : fOp a = 23) :
    Calls Tryz.prog 86 #[.int .u32 a] w fun e w' => e = .returned (.tuple #[I.v ⟨2, 0, fRd a, 0, 0, iU a, 0, false⟩, .bool true]) ∧ Below w.heap.size w w' := by
  have f3b := fF3_b a
  go_enter Tryz.func86, Tryz.ntmps86
  go_wp2_with (first | (go_at_call 61; (with_reducible first | refine (g_f3 a h0 h1 _).mono ?_ | refine (g_f7 a h0 h1 _).mono ?_ | refine (g_rd a h0 h1 _).mono ?_ | refine (g_rs1 a h0 h1 _).mono ?_ | refine (g_rs2 a h0 h1 _).mono ?_ | refine (g_op a h0 h1 _).mono ?_ | refine (g_f6 a h0 h1 _).mono ?_ | refine (g_sh a h0 h1 _).mono ?_); rintro e w1 ⟨rfl, rfl⟩) | (go_at_call 101; refine (r_U a h0 h1 _).mono ?_; rintro e w1 ⟨rfl, rfl⟩))
  exact bodyPost_ret (v := .tuple #[I.v ⟨2, 0, fRd a, 0, 0, iU a, 0, false⟩, .bool true]) (by simp [results, Tryz.results86, go_sem]) rfl ⟨rfl, by first | exact below2 _ _ | exact below3 _ _ _⟩
theorem d_111 (a : Int) (h0 : 0 ≤ a) (h1 : a < 4294967296) (w : World) (ho : fOp a = 111) :
    Calls Tryz.prog 86 #[.int .u32 a] w fun e w' => e = .returned (.tuple #[I.v ⟨3, 0, fRd a, 0, 0, iJ a, 0, false⟩, .bool true]) ∧ Below w.heap.size w w' := by
  have f3b := fF3_b a
  go_enter Tryz.func86, Tryz.ntmps86
  go_wp2_with (first | (go_at_call 61; (with_reducible first | refine (g_f3 a h0 h1 _).mono ?_ | refine (g_f7 a h0 h1 _).mono ?_ | refine (g_rd a h0 h1 _).mono ?_ | refine (g_rs1 a h0 h1 _).mono ?_ | refine (g_rs2 a h0 h1 _).mono ?_ | refine (g_op a h0 h1 _).mono ?_ | refine (g_f6 a h0 h1 _).mono ?_ | refine (g_sh a h0 h1 _).mono ?_); rintro e w1 ⟨rfl, rfl⟩) | (go_at_call 102; refine (r_J a h0 h1 _).mono ?_; rintro e w1 ⟨rfl, rfl⟩))
  exact bodyPost_ret (v := .tuple #[I.v ⟨3, 0, fRd a, 0, 0, iJ a, 0, false⟩, .bool true]) (by simp [results, Tryz.results86, go_sem]) rfl ⟨rfl, by first | exact below2 _ _ | exact below3 _ _ _⟩
theorem d_103 (a : Int) (h0 : 0 ≤ a) (h1 : a < 4294967296) (w : World) (ho : fOp a = 103) (hf : fF3 a = 0) :
    Calls Tryz.prog 86 #[.int .u32 a] w fun e w' => e = .returned (.tuple #[I.v ⟨4, 0, fRd a, fRs1 a, 0, iI a, 0, false⟩, .bool true]) ∧ Below w.heap.size w w' := by
  have f3b := fF3_b a
  go_enter Tryz.func86, Tryz.ntmps86
  go_wp2_with (first | (go_at_call 61; (with_reducible first | refine (g_f3 a h0 h1 _).mono ?_ | refine (g_f7 a h0 h1 _).mono ?_ | refine (g_rd a h0 h1 _).mono ?_ | refine (g_rs1 a h0 h1 _).mono ?_ | refine (g_rs2 a h0 h1 _).mono ?_ | refine (g_op a h0 h1 _).mono ?_ | refine (g_f6 a h0 h1 _).mono ?_ | refine (g_sh a h0 h1 _).mono ?_); rintro e w1 ⟨rfl, rfl⟩) | (go_at_call 103; refine (r_I a h0 h1 _).mono ?_; rintro e w1 ⟨rfl, rfl⟩))
  exact bodyPost_ret (v := .tuple #[I.v ⟨4, 0, fRd a, fRs1 a, 0, iI a, 0, false⟩, .bool true]) (by simp [results, Tryz.results86, go_sem]) rfl ⟨rfl, by first | exact below2 _ _ | exact below3 _ _ _⟩
theorem d_103n (a : Int) (h0 : 0 ≤ a) (h1 : a < 4294967296) (w : World) (ho : fOp a = 103) (hf : fF3 a ≠ 0) :
    Calls Tryz.prog 86 #[.int .u32 a] w fun e w' => e = .returned (.tuple #[I.v ⟨0, 0, 0, 0, 0, 0, 0, false⟩, .bool false]) ∧ Below w.heap.size w w' := by
  have f3b := fF3_b a
  go_enter Tryz.func86, Tryz.ntmps86
  go_wp2_with (first | (go_at_call 61; (with_reducible first | refine (g_f3 a h0 h1 _).mono ?_ | refine (g_f7 a h0 h1 _).mono ?_ | refine (g_rd a h0 h1 _).mono ?_ | refine (g_rs1 a h0 h1 _).mono ?_ | refine (g_rs2 a h0 h1 _).mono ?_ | refine (g_op a h0 h1 _).mono ?_ | refine (g_f6 a h0 h1 _).mono ?_ | refine (g_sh a h0 h1 _).mono ?_); rintro e w1 ⟨rfl, rfl⟩))
  exact bodyPost_ret (v := .tuple #[I.v ⟨0, 0, 0, 0, 0, 0, 0, false⟩, .bool false]) (by simp [results, Tryz.results86, go_sem]) rfl ⟨rfl, by first | exact below2 _ _ | exact below3 _ _ _⟩
theorem d_99 (a : Int) (h0 : 0 ≤ a) (h1 : a < 4294967296) (w : World) (ho : fOp a = 99) (hn : tCond (fF3 a) ≠ 0) :
    Calls Tryz.prog 86 #[.int .u32 a] w fun e w' => e = .returned (.tuple #[I.v ⟨5, tCond (fF3 a), 0, fRs1 a, fRs2 a, iB a, 0, false⟩, .bool true]) ∧ Below w.heap.size w w' := by
  have f3b := fF3_b a
  go_enter Tryz.func86, Tryz.ntmps86
  go_wp2_with (first | (go_at_call 61; (with_reducible first | refine (g_f3 a h0 h1 _).mono ?_ | refine (g_f7 a h0 h1 _).mono ?_ | refine (g_rd a h0 h1 _).mono ?_ | refine (g_rs1 a h0 h1 _).mono ?_ | refine (g_rs2 a h0 h1 _).mono ?_ | refine (g_op a h0 h1 _).mono ?_ | refine (g_f6 a h0 h1 _).mono ?_ | refine (g_sh a h0 h1 _).mono ?_); rintro e w1 ⟨rfl, rfl⟩) | (go_at_call 104; refine (r_B a h0 h1 _).mono ?_; rintro e w1 ⟨rfl, rfl⟩) | (refine wpList_buildFlat rfl 117 3 _ _ rfl .i64 [1, 2, 0, 0, 3, 4, 5, 6] (by kernel_rfl) (by kernel_rfl) (by kernel_rfl) rfl (by decide) (by decide) rfl ?_) | (go_at_call 63; refine (r_pickT _ 8 [1, 2, 0, 0, 3, 4, 5, 6] rfl _ _ (tab_cell _ _ (by simp) _ _ _ _ rfl rfl) (by first | omega | decide) (by first | omega | decide) (by decide) (tCond (fF3 a)) (pk_cond a)).mono ?_; rintro e w1 ⟨rfl, rfl⟩))
  exact bodyPost_ret (v := .tuple #[I.v ⟨5, tCond (fF3 a), 0, fRs1 a, fRs2 a, iB a, 0, false⟩, .bool true]) (by simp [results, Tryz.results86, go_sem]) rfl ⟨rfl, by first | exact below2 _ _ | exact below3 _ _ _⟩
theorem d_99n (a : Int) (h0 : 0 ≤ a) (h1 : a < 4294967296) (w : World) (ho : fOp a = 99) (hn : tCond (fF3 a) = 0) :
    Calls Tryz.prog 86 #[.int .u32 a] w fun e w' => e = .returned (.tuple #[I.v ⟨0, 0, 0, 0, 0, 0, 0, false⟩, .bool false]) ∧ Below w.heap.size w w' := by
  have f3b := fF3_b a
  go_enter Tryz.func86, Tryz.ntmps86
  go_wp2_with (first | (go_at_call 61; (with_reducible first | refine (g_f3 a h0 h1 _).mono ?_ | refine (g_f7 a h0 h1 _).mono ?_ | refine (g_rd a h0 h1 _).mono ?_ | refine (g_rs1 a h0 h1 _).mono ?_ | refine (g_rs2 a h0 h1 _).mono ?_ | refine (g_op a h0 h1 _).mono ?_ | refine (g_f6 a h0 h1 _).mono ?_ | refine (g_sh a h0 h1 _).mono ?_); rintro e w1 ⟨rfl, rfl⟩) | (refine wpList_buildFlat rfl 117 3 _ _ rfl .i64 [1, 2, 0, 0, 3, 4, 5, 6] (by kernel_rfl) (by kernel_rfl) (by kernel_rfl) rfl (by decide) (by decide) rfl ?_) | (go_at_call 63; refine (r_pickT _ 8 [1, 2, 0, 0, 3, 4, 5, 6] rfl _ _ (tab_cell _ _ (by simp) _ _ _ _ rfl rfl) (by first | omega | decide) (by first | omega | decide) (by decide) (tCond (fF3 a)) (pk_cond a)).mono ?_; rintro e w1 ⟨rfl, rfl⟩))
  exact bodyPost_ret (v := .tuple #[I.v ⟨0, 0, 0, 0, 0, 0, 0, false⟩, .bool false]) (by simp [results, Tryz.results86, go_sem]) rfl ⟨rfl, by first | exact below2 _ _ | exact below3 _ _ _⟩
theorem d_3s (a : Int) (h0 : 0 ≤ a) (h1 : a < 4294967296) (w : World) (ho : fOp a = 3) (hn : tLoad (fF3 a) ≠ 0) (hs : fF3 a < 4) :
    Calls Tryz.prog 86 #[.int .u32 a] w fun e w' => e = .returned (.tuple #[I.v ⟨6, 0, fRd a, fRs1 a, 0, iI a, tLoad (fF3 a), true⟩, .bool true]) ∧ Below w.heap.size w w' := by
  have f3b := fF3_b a
  go_enter Tryz.func86, Tryz.ntmps86
  go_wp2_with (first | (go_at_call 61; (with_reducible first | refine (g_f3 a h0 h1 _).mono ?_ | refine (g_f7 a h0 h1 _).mono ?_ | refine (g_rd a h0 h1 _).mono ?_ | refine (g_rs1 a h0 h1 _).mono ?_ | refine (g_rs2 a h0 h1 _).mono ?_ | refine (g_op a h0 h1 _).mono ?_ | refine (g_f6 a h0 h1 _).mono ?_ | refine (g_sh a h0 h1 _).mono ?_); rintro e w1 ⟨rfl, rfl⟩) | (go_at_call 103; refine (r_I a h0 h1 _).mono ?_; rintro e w1 ⟨rfl, rfl⟩) | (refine wpList_buildFlat rfl 117 3 _ _ rfl .i64 [1, 2, 4, 8, 1, 2, 4] (by kernel_rfl) (by kernel_rfl) (by kernel_rfl) rfl (by decide) (by decide) rfl ?_) | (go_at_call 63; refine (r_pickT _ 7 [1, 2, 4, 8, 1, 2, 4] rfl _ _ (tab_cell _ _ (by simp) _ _ _ _ rfl rfl) (by first | omega | decide) (by first | omega | decide) (by decide) (tLoad (fF3 a)) (pk_load a)).mono ?_; rintro e w1 ⟨rfl, rfl⟩))
  exact bodyPost_ret (v := .tuple #[I.v ⟨6, 0, fRd a, fRs1 a, 0, iI a, tLoad (fF3 a), true⟩, .bool true]) (by simp [results, Tryz.results86, go_sem]) rfl ⟨rfl, by first | exact below2 _ _ | exact below3 _ _ _⟩
theorem d_3u (a : Int) (h0 : 0 ≤ a) (h1 : a < 4294967296) (w : World) (ho : fOp a = 3) (hn : tLoad (fF3 a) ≠ 0) (hs : ¬ fF3 a < 4) :
    Calls Tryz.prog 86 #[.int .u32 a] w fun e w' => e = .returned (.tuple #[I.v ⟨6, 0, fRd a, fRs1 a, 0, iI a, tLoad (fF3 a), false⟩, .bool true]) ∧ Below w.heap.size w w' := by
  have f3b := fF3_b a
  go_enter Tryz.func86, Tryz.ntmps86
  go_wp2_with (first | (go_at_call 61; (with_reducible first | refine (g_f3 a h0 h1 _).mono ?_ | refine (g_f7 a h0 h1 _).mono ?_ | refine (g_rd a h0 h1 _).mono ?_ | refine (g_rs1 a h0 h1 _).mono ?_ | refine (g_rs2 a h0 h1 _).mono ?_ | refine (g_op a h0 h1 _).mono ?_ | refine (g_f6 a h0 h1 _).mono ?_ | refine (g_sh a h0 h1 _).mono ?_); rintro e w1 ⟨rfl, rfl⟩) | (go_at_call 103; refine (r_I a h0 h1 _).mono ?_; rintro e w1 ⟨rfl, rfl⟩) | (refine wpList_buildFlat rfl 117 3 _ _ rfl .i64 [1, 2, 4, 8, 1, 2, 4] (by kernel_rfl) (by kernel_rfl) (by kernel_rfl) rfl (by decide) (by decide) rfl ?_) | (go_at_call 63; refine (r_pickT _ 7 [1, 2, 4, 8, 1, 2, 4] rfl _ _ (tab_cell _ _ (by simp) _ _ _ _ rfl rfl) (by first | omega | decide) (by first | omega | decide) (by decide) (tLoad (fF3 a)) (pk_load a)).mono ?_; rintro e w1 ⟨rfl, rfl⟩))
  exact bodyPost_ret (v := .tuple #[I.v ⟨6, 0, fRd a, fRs1 a, 0, iI a, tLoad (fF3 a), false⟩, .bool true]) (by simp [results, Tryz.results86, go_sem]; omega) rfl ⟨rfl, by first | exact below2 _ _ | exact below3 _ _ _⟩
theorem d_3n (a : Int) (h0 : 0 ≤ a) (h1 : a < 4294967296) (w : World) (ho : fOp a = 3) (hn : tLoad (fF3 a) = 0) :
    Calls Tryz.prog 86 #[.int .u32 a] w fun e w' => e = .returned (.tuple #[I.v ⟨0, 0, 0, 0, 0, 0, 0, false⟩, .bool false]) ∧ Below w.heap.size w w' := by
  have f3b := fF3_b a
  go_enter Tryz.func86, Tryz.ntmps86
  go_wp2_with (first | (go_at_call 61; (with_reducible first | refine (g_f3 a h0 h1 _).mono ?_ | refine (g_f7 a h0 h1 _).mono ?_ | refine (g_rd a h0 h1 _).mono ?_ | refine (g_rs1 a h0 h1 _).mono ?_ | refine (g_rs2 a h0 h1 _).mono ?_ | refine (g_op a h0 h1 _).mono ?_ | refine (g_f6 a h0 h1 _).mono ?_ | refine (g_sh a h0 h1 _).mono ?_); rintro e w1 ⟨rfl, rfl⟩) | (refine wpList_buildFlat rfl 117 3 _ _ rfl .i64 [1, 2, 4, 8, 1, 2, 4] (by kernel_rfl) (by kernel_rfl) (by kernel_rfl) rfl (by decide) (by decide) rfl ?_) | (go_at_call 63; refine (r_pickT _ 7 [1, 2, 4, 8, 1, 2, 4] rfl _ _ (tab_cell _ _ (by simp) _ _ _ _ rfl rfl) (by first | omega | decide) (by first | omega | decide) (by decide) (tLoad (fF3 a)) (pk_load a)).mono ?_; rintro e w1 ⟨rfl, rfl⟩))
  exact bodyPost_ret (v := .tuple #[I.v ⟨0, 0, 0, 0, 0, 0, 0, false⟩, .bool false]) (by simp [results, Tryz.results86, go_sem]) rfl ⟨rfl, by first | exact below2 _ _ | exact below3 _ _ _⟩
theorem d_35 (a : Int) (h0 : 0 ≤ a) (h1 : a < 4294967296) (w : World) (ho : fOp a = 35) (hn : tStore (fF3 a) ≠ 0) :
    Calls Tryz.prog 86 #[.int .u32 a] w fun e w' => e = .returned (.tuple #[I.v ⟨7, 0, 0, fRs1 a, fRs2 a, iS a, tStore (fF3 a), false⟩, .bool true]) ∧ Below w.heap.size w w' := by
  have f3b := fF3_b a
  go_enter Tryz.func86, Tryz.ntmps86
  go_wp2_with (first | (go_at_call 61; (with_reducible first | refine (g_f3 a h0 h1 _).mono ?_ | refine (g_f7 a h0 h1 _).mono ?_ | refine (g_rd a h0 h1 _).mono ?_ | refine (g_rs1 a h0 h1 _).mono ?_ | refine (g_rs2 a h0 h1 _).mono ?_ | refine (g_op a h0 h1 _).mono ?_ | refine (g_f6 a h0 h1 _).mono ?_ | refine (g_sh a h0 h1 _).mono ?_); rintro e w1 ⟨rfl, rfl⟩) | (go_at_call 105; refine (r_S a h0 h1 _).mono ?_; rintro e w1 ⟨rfl, rfl⟩) | (refine wpList_buildFlat rfl 117 3 _ _ rfl .i64 [1, 2, 4, 8] (by kernel_rfl) (by kernel_rfl) (by kernel_rfl) rfl (by decide) (by decide) rfl ?_) | (go_at_call 63; refine (r_pickT _ 4 [1, 2, 4, 8] rfl _ _ (tab_cell _ _ (by simp) _ _ _ _ rfl rfl) (by first | omega | decide) (by first | omega | decide) (by decide) (tStore (fF3 a)) (pk_store a)).mono ?_; rintro e w1 ⟨rfl, rfl⟩))
  exact bodyPost_ret (v := .tuple #[I.v ⟨7, 0, 0, fRs1 a, fRs2 a, iS a, tStore (fF3 a), false⟩, .bool true]) (by simp [results, Tryz.results86, go_sem]) rfl ⟨rfl, by first | exact below2 _ _ | exact below3 _ _ _⟩
theorem d_35n (a : Int) (h0 : 0 ≤ a) (h1 : a < 4294967296) (w : World) (ho : fOp a = 35) (hn : tStore (fF3 a) = 0) :
    Calls Tryz.prog 86 #[.int .u32 a] w fun e w' => e = .returned (.tuple #[I.v ⟨0, 0, 0, 0, 0, 0, 0, false⟩, .bool false]) ∧ Below w.heap.size w w' := by
  have f3b := fF3_b a
  go_enter Tryz.func86, Tryz.ntmps86
  go_wp2_with (first | (go_at_call 61; (with_reducible first | refine (g_f3 a h0 h1 _).mono ?_ | refine (g_f7 a h0 h1 _).mono ?_ | refine (g_rd a h0 h1 _).mono ?_ | refine (g_rs1 a h0 h1 _).mono ?_ | refine (g_rs2 a h0 h1 _).mono ?_ | refine (g_op a h0 h1 _).mono ?_ | refine (g_f6 a h0 h1 _).mono ?_ | refine (g_sh a h0 h1 _).mono ?_); rintro e w1 ⟨rfl, rfl⟩) | (refine wpList_buildFlat rfl 117 3 _ _ rfl .i64 [1, 2, 4, 8] (by kernel_rfl) (by kernel_rfl) (by kernel_rfl) rfl (by decide) (by decide) rfl ?_) | (go_at_call 63; refine (r_pickT _ 4 [1, 2, 4, 8] rfl _ _ (tab_cell _ _ (by simp) _ _ _ _ rfl rfl) (by first | omega | decide) (by first | omega | decide) (by decide) (tStore (fF3 a)) (pk_store a)).mono ?_; rintro e w1 ⟨rfl, rfl⟩))
  exact bodyPost_ret (v := .tuple #[I.v ⟨0, 0, 0, 0, 0, 0, 0, false⟩, .bool false]) (by simp [results, Tryz.results86, go_sem]) rfl ⟨rfl, by first | exact below2 _ _ | exact below3 _ _ _⟩
theorem d_19 (a : Int) (h0 : 0 ≤ a) (h1 : a < 4294967296) (w : World) (ho : fOp a = 19) (n1 : fF3 a ≠ 1) (n5 : fF3 a ≠ 5) :
    Calls Tryz.prog 86 #[.int .u32 a] w fun e w' => e = .returned (.tuple #[I.v ⟨9, tBas (fF3 a), fRd a, fRs1 a, 0, iI a, 0, false⟩, .bool true]) ∧ Below w.heap.size w w' := by
  have f3b := fF3_b a
  have nz := tBas_nz a
  go_enter Tryz.func86, Tryz.ntmps86
  go_wp2_with (first | (go_at_call 61; (with_reducible first | refine (g_f3 a h0 h1 _).mono ?_ | refine (g_f7 a h0 h1 _).mono ?_ | refine (g_rd a h0 h1 _).mono ?_ | refine (g_rs1 a h0 h1 _).mono ?_ | refine (g_rs2 a h0 h1 _).mono ?_ | refine (g_op a h0 h1 _).mono ?_ | refine (g_f6 a h0 h1 _).mono ?_ | refine (g_sh a h0 h1 _).mono ?_); rintro e w1 ⟨rfl, rfl⟩) | (go_at_call 103; refine (r_I a h0 h1 _).mono ?_; rintro e w1 ⟨rfl, rfl⟩) | (refine wpList_buildFlat rfl 117 3 _ _ rfl .i64 [1, 0, 4, 5, 6, 0, 9, 10] (by kernel_rfl) (by kernel_rfl) (by kernel_rfl) rfl (by decide) (by decide) rfl ?_) | (go_at_call 63; refine (r_pickT _ 8 [1, 0, 4, 5, 6, 0, 9, 10] rfl _ _ (tab_cell _ _ (by simp) _ _ _ _ rfl rfl) (by first | omega | decide) (by first | omega | decide) (by decide) (tBas (fF3 a)) (pk_imm a n1 n5)).mono ?_; rintro e w1 ⟨rfl, rfl⟩))
  exact bodyPost_ret (v := .tuple #[I.v ⟨9, tBas (fF3 a), fRd a, fRs1 a, 0, iI a, 0, false⟩, .bool true]) (by simp [results, Tryz.results86, go_sem]) rfl ⟨rfl, by first | exact below2 _ _ | exact below3 _ _ _⟩
theorem d_19_1 (a : Int) (h0 : 0 ≤ a) (h1 : a < 4294967296) (w : World) (ho : fOp a = 19) (hf : fF3 a = 1) (ht : fF6 a = 0) :
    Calls Tryz.prog 86 #[.int .u32 a] w fun e w' => e = .returned (.tuple #[I.v ⟨9, 3, fRd a, fRs1 a, 0, fSh a, 0, false⟩, .bool true]) ∧ Below w.heap.size w w' := by
  have f3b := fF3_b a
  go_enter Tryz.func86, Tryz.ntmps86
  go_wp2_with (first | (go_at_call 61; (with_reducible first | refine (g_f3 a h0 h1 _).mono ?_ | refine (g_f7 a h0 h1 _).mono ?_ | refine (g_rd a h0 h1 _).mono ?_ | refine (g_rs1 a h0 h1 _).mono ?_ | refine (g_rs2 a h0 h1 _).mono ?_ | refine (g_op a h0 h1 _).mono ?_ | refine (g_f6 a h0 h1 _).mono ?_ | refine (g_sh a h0 h1 _).mono ?_); rintro e w1 ⟨rfl, rfl⟩) | (go_at_call 103; refine (r_I a h0 h1 _).mono ?_; rintro e w1 ⟨rfl, rfl⟩) | (refine wpList_buildFlat rfl 117 3 _ _ rfl .i64 [1, 0, 4, 5, 6, 0, 9, 10] (by kernel_rfl) (by kernel_rfl) (by kernel_rfl) rfl (by decide) (by decide) rfl ?_) | (go_at_call 63; refine (r_pickT _ 8 [1, 0, 4, 5, 6, 0, 9, 10] rfl _ _ (tab_cell _ _ (by simp) _ _ _ _ rfl rfl) (by first | omega | decide) (by first | omega | decide) (by decide) 0 rfl).mono ?_; rintro e w1 ⟨rfl, rfl⟩))
  exact bodyPost_ret (v := .tuple #[I.v ⟨9, 3, fRd a, fRs1 a, 0, fSh a, 0, false⟩, .bool true]) (by simp [results, Tryz.results86, go_sem]) rfl ⟨rfl, by first | exact below2 _ _ | exact below3 _ _ _⟩
theorem d_19_5 (a : Int) (h0 : 0 ≤ a) (h1 : a < 4294967296) (w : World) (ho : fOp a = 19) (hf : fF3 a = 5) (ht : fF6 a = 0) :
    Calls Tryz.prog 86 #[.int .u32 a] w fun e w' => e = .returned (.tuple #[I.v ⟨9, 7, fRd a, fRs1 a, 0, fSh a, 0, false⟩, .bool true]) ∧ Below w.heap.size w w' := by
  have f3b := fF3_b a
  go_enter Tryz.func86, Tryz.ntmps86
  go_wp2_with (first | (go_at_call 61; (with_reducible first | refine (g_f3 a h0 h1 _).mono ?_ | refine (g_f7 a h0 h1 _).mono ?_ | refine (g_rd a h0 h1 _).mono ?_ | refine (g_rs1 a h0 h1 _).mono ?_ | refine (g_rs2 a h0 h1 _).mono ?_ | refine (g_op a h0 h1 _).mono ?_ | refine (g_f6 a h0 h1 _).mono ?_ | refine (g_sh a h0 h1 _).mono ?_); rintro e w1 ⟨rfl, rfl⟩) | (go_at_call 103; refine (r_I a h0 h1 _).mono ?_; rintro e w1 ⟨rfl, rfl⟩) | (refine wpList_buildFlat rfl 117 3 _ _ rfl .i64 [1, 0, 4, 5, 6, 0, 9, 10] (by kernel_rfl) (by kernel_rfl) (by kernel_rfl) rfl (by decide) (by decide) rfl ?_) | (go_at_call 63; refine (r_pickT _ 8 [1, 0, 4, 5, 6, 0, 9, 10] rfl _ _ (tab_cell _ _ (by simp) _ _ _ _ rfl rfl) (by first | omega | decide) (by first | omega | decide) (by decide) 0 rfl).mono ?_; rintro e w1 ⟨rfl, rfl⟩))
  exact bodyPost_ret (v := .tuple #[I.v ⟨9, 7, fRd a, fRs1 a, 0, fSh a, 0, false⟩, .bool true]) (by simp [results, Tryz.results86, go_sem]) rfl ⟨rfl, by first | exact below2 _ _ | exact below3 _ _ _⟩
theorem d_19_5a (a : Int) (h0 : 0 ≤ a) (h1 : a < 4294967296) (w : World) (ho : fOp a = 19) (hf : fF3 a = 5) (ht : fF6 a = 16) :
    Calls Tryz.prog 86 #[.int .u32 a] w fun e w' => e = .returned (.tuple #[I.v ⟨9, 8, fRd a, fRs1 a, 0, fSh a, 0, false⟩, .bool true]) ∧ Below w.heap.size w w' := by
  have f3b := fF3_b a
  go_enter Tryz.func86, Tryz.ntmps86
  go_wp2_with (first | (go_at_call 61; (with_reducible first | refine (g_f3 a h0 h1 _).mono ?_ | refine (g_f7 a h0 h1 _).mono ?_ | refine (g_rd a h0 h1 _).mono ?_ | refine (g_rs1 a h0 h1 _).mono ?_ | refine (g_rs2 a h0 h1 _).mono ?_ | refine (g_op a h0 h1 _).mono ?_ | refine (g_f6 a h0 h1 _).mono ?_ | refine (g_sh a h0 h1 _).mono ?_); rintro e w1 ⟨rfl, rfl⟩) | (go_at_call 103; refine (r_I a h0 h1 _).mono ?_; rintro e w1 ⟨rfl, rfl⟩) | (refine wpList_buildFlat rfl 117 3 _ _ rfl .i64 [1, 0, 4, 5, 6, 0, 9, 10] (by kernel_rfl) (by kernel_rfl) (by kernel_rfl) rfl (by decide) (by decide) rfl ?_) | (go_at_call 63; refine (r_pickT _ 8 [1, 0, 4, 5, 6, 0, 9, 10] rfl _ _ (tab_cell _ _ (by simp) _ _ _ _ rfl rfl) (by first | omega | decide) (by first | omega | decide) (by decide) 0 rfl).mono ?_; rintro e w1 ⟨rfl, rfl⟩))
  exact bodyPost_ret (v := .tuple #[I.v ⟨9, 8, fRd a, fRs1 a, 0, fSh a, 0, false⟩, .bool true]) (by simp [results, Tryz.results86, go_sem]) rfl ⟨rfl, by first | exact below2 _ _ | exact below3 _ _ _⟩
theorem d_19_1n (a : Int) (h0 : 0 ≤ a) (h1 : a < 4294967296) (w : World) (ho : fOp a = 19) (hf : fF3 a = 1) (ht : fF6 a ≠ 0) :
    Calls Tryz.prog 86 #[.int .u32 a] w fun e w' => e = .returned (.tuple #[I.v ⟨0, 0, 0, 0, 0, 0, 0, false⟩, .bool false]) ∧ Below w.heap.size w w' := by
  have f3b := fF3_b a
  go_enter Tryz.func86, Tryz.ntmps86
  go_wp2_with (first | (go_at_call 61; (with_reducible first | refine (g_f3 a h0 h1 _).mono ?_ | refine (g_f7 a h0 h1 _).mono ?_ | refine (g_rd a h0 h1 _).mono ?_ | refine (g_rs1 a h0 h1 _).mono ?_ | refine (g_rs2 a h0 h1 _).mono ?_ | refine (g_op a h0 h1 _).mono ?_ | refine (g_f6 a h0 h1 _).mono ?_ | refine (g_sh a h0 h1 _).mono ?_); rintro e w1 ⟨rfl, rfl⟩) | (go_at_call 103; refine (r_I a h0 h1 _).mono ?_; rintro e w1 ⟨rfl, rfl⟩) | (refine wpList_buildFlat rfl 117 3 _ _ rfl .i64 [1, 0, 4, 5, 6, 0, 9, 10] (by kernel_rfl) (by kernel_rfl) (by kernel_rfl) rfl (by decide) (by decide) rfl ?_) | (go_at_call 63; refine (r_pickT _ 8 [1, 0, 4, 5, 6, 0, 9, 10] rfl _ _ (tab_cell _ _ (by simp) _ _ _ _ rfl rfl) (by first | omega | decide) (by first | omega | decide) (by decide) 0 rfl).mono ?_; rintro e w1 ⟨rfl, rfl⟩))
  exact bodyPost_ret (v := .tuple #[I.v ⟨0, 0, 0, 0, 0, 0, 0, false⟩, .bool false]) (by simp [results, Tryz.results86, go_sem]) rfl ⟨rfl, by first | exact below2 _ _ | exact below3 _ _ _⟩
theorem d_19_5n (a : Int) (h0 : 0 ≤ a) (h1 : a < 4294967296) (w : World) (ho : fOp a = 19) (hf : fF3 a = 5) (ht : fF6 a ≠ 0) (ht2 : fF6 a ≠ 16) :
    Calls Tryz.prog 86 #[.int .u32 a] w fun e w' => e = .returned (.tuple #[I.v ⟨0, 0, 0, 0, 0, 0, 0, false⟩, .bool false]) ∧ Below w.heap.size w w' := by
  have f3b := fF3_b a
  go_enter Tryz.func86, Tryz.ntmps86
  go_wp2_with (first | (go_at_call 61; (with_reducible first | refine (g_f3 a h0 h1 _).mono ?_ | refine (g_f7 a h0 h1 _).mono ?_ | refine (g_rd a h0 h1 _).mono ?_ | refine (g_rs1 a h0 h1 _).mono ?_ | refine (g_rs2 a h0 h1 _).mono ?_ | refine (g_op a h0 h1 _).mono ?_ | refine (g_f6 a h0 h1 _).mono ?_ | refine (g_sh a h0 h1 _).mono ?_); rintro e w1 ⟨rfl, rfl⟩) | (go_at_call 103; refine (r_I a h0 h1 _).mono ?_; rintro e w1 ⟨rfl, rfl⟩) | (refine wpList_buildFlat rfl 117 3 _ _ rfl .i64 [1, 0, 4, 5, 6, 0, 9, 10] (by kernel_rfl) (by kernel_rfl) (by kernel_rfl) rfl (by decide) (by decide) rfl ?_) | (go_at_call 63; refine (r_pickT _ 8 [1, 0, 4, 5, 6, 0, 9, 10] rfl _ _ (tab_cell _ _ (by simp) _ _ _ _ rfl rfl) (by first | omega | decide) (by first | omega | decide) (by decide) 0 rfl).mono ?_; rintro e w1 ⟨rfl, rfl⟩))
  exact bodyPost_ret (v := .tuple #[I.v ⟨0, 0, 0, 0, 0, 0, 0, false⟩, .bool false]) (by simp [results, Tryz.results86, go_sem]) rfl ⟨rfl, by first | exact below2 _ _ | exact below3 _ _ _⟩
theorem d_27 (a : Int) (h0 : 0 ≤ a) (h1 : a < 4294967296) (w : World) (ho : fOp a = 27) (hf : fF3 a = 0) :
    Calls Tryz.prog 86 #[.int .u32 a] w fun e w' => e = .returned (.tuple #[I.v ⟨9, 19, fRd a, fRs1 a, 0, iI a, 0, false⟩, .bool true]) ∧ Below w.heap.size w w' := by
  have f3b := fF3_b a
  go_enter Tryz.func86, Tryz.ntmps86
  go_wp2_with (first | (go_at_call 61; (with_reducible first | refine (g_f3 a h0 h1 _).mono ?_ | refine (g_f7 a h0 h1 _).mono ?_ | refine (g_rd a h0 h1 _).mono ?_ | refine (g_rs1 a h0 h1 _).mono ?_ | refine (g_rs2 a h0 h1 _).mono ?_ | refine (g_op a h0 h1 _).mono ?_ | refine (g_f6 a h0 h1 _).mono ?_ | refine (g_sh a h0 h1 _).mono ?_); rintro e w1 ⟨rfl, rfl⟩) | (go_at_call 103; refine (r_I a h0 h1 _).mono ?_; rintro e w1 ⟨rfl, rfl⟩))
  exact bodyPost_ret (v := .tuple #[I.v ⟨9, 19, fRd a, fRs1 a, 0, iI a, 0, false⟩, .bool true]) (by simp [results, Tryz.results86, go_sem]) rfl ⟨rfl, by first | exact below2 _ _ | exact below3 _ _ _⟩
theorem d_27_1 (a : Int) (h0 : 0 ≤ a) (h1 : a < 4294967296) (w : World) (ho : fOp a = 27) (hf : fF3 a = 1) (ht : fF7 a = 0) :
    Calls Tryz.prog 86 #[.int .u32 a] w fun e w' => e = .returned (.tuple #[I.v ⟨9, 21, fRd a, fRs1 a, 0, fRs2 a, 0, false⟩, .bool true]) ∧ Below w.heap.size w w' := by
  have f3b := fF3_b a
  go_enter Tryz.func86, Tryz.ntmps86
  go_wp2_with (first | (go_at_call 61; (with_reducible first | refine (g_f3 a h0 h1 _).mono ?_ | refine (g_f7 a h0 h1 _).mono ?_ | refine (g_rd a h0 h1 _).mono ?_ | refine (g_rs1 a h0 h1 _).mono ?_ | refine (g_rs2 a h0 h1 _).mono ?_ | refine (g_op a h0 h1 _).mono ?_ | refine (g_f6 a h0 h1 _).mono ?_ | refine (g_sh a h0 h1 _).mono ?_); rintro e w1 ⟨rfl, rfl⟩))
  exact bodyPost_ret (v := .tuple #[I.v ⟨9, 21, fRd a, fRs1 a, 0, fRs2 a, 0, false⟩, .bool true]) (by simp [results, Tryz.results86, go_sem]) rfl ⟨rfl, by first | exact below2 _ _ | exact below3 _ _ _⟩
theorem d_27_5 (a : Int) (h0 : 0 ≤ a) (h1 : a < 4294967296) (w : World) (ho : fOp a = 27) (hf : fF3 a = 5) (ht : fF7 a = 0) :
    Calls Tryz.prog 86 #[.int .u32 a] w fun e w' => e = .returned (.tuple #[I.v ⟨9, 22, fRd a, fRs1 a, 0, fRs2 a, 0, false⟩, .bool true]) ∧ Below w.heap.size w w' := by
  have f3b := fF3_b a
  go_enter Tryz.func86, Tryz.ntmps86
  go_wp2_with (first | (go_at_call 61; (with_reducible first | refine (g_f3 a h0 h1 _).mono ?_ | refine (g_f7 a h0 h1 _).mono ?_ | refine (g_rd a h0 h1 _).mono ?_ | refine (g_rs1 a h0 h1 _).mono ?_ | refine (g_rs2 a h0 h1 _).mono ?_ | refine (g_op a h0 h1 _).mono ?_ | refine (g_f6 a h0 h1 _).mono ?_ | refine (g_sh a h0 h1 _).mono ?_); rintro e w1 ⟨rfl, rfl⟩))
  exact bodyPost_ret (v := .tuple #[I.v ⟨9, 22, fRd a, fRs1 a, 0, fRs2 a, 0, false⟩, .bool true]) (by simp [results, Tryz.results86, go_sem]) rfl ⟨rfl, by first | exact below2 _ _ | exact below3 _ _ _⟩
theorem d_27_5a (a : Int) (h0 : 0 ≤ a) (h1 : a < 4294967296) (w : World) (ho : fOp a = 27) (hf : fF3 a = 5) (ht : fF7 a = 32) :
    Calls Tryz.prog 86 #[.int .u32 a] w fun e w' => e = .returned (.tuple #[I.v ⟨9, 23, fRd a, fRs1 a, 0, fRs2 a, 0, false⟩, .bool true]) ∧ Below w.heap.size w w' := by
  have f3b := fF3_b a
  go_enter Tryz.func86, Tryz.ntmps86
  go_wp2_with (first | (go_at_call 61; (with_reducible first | refine (g_f3 a h0 h1 _).mono ?_ | refine (g_f7 a h0 h1 _).mono ?_ | refine (g_rd a h0 h1 _).mono ?_ | refine (g_rs1 a h0 h1 _).mono ?_ | refine (g_rs2 a h0 h1 _).mono ?_ | refine (g_op a h0 h1 _).mono ?_ | refine (g_f6 a h0 h1 _).mono ?_ | refine (g_sh a h0 h1 _).mono ?_); rintro e w1 ⟨rfl, rfl⟩))
  exact bodyPost_ret (v := .tuple #[I.v ⟨9, 23, fRd a, fRs1 a, 0, fRs2 a, 0, false⟩, .bool true]) (by simp [results, Tryz.results86, go_sem]) rfl ⟨rfl, by first | exact below2 _ _ | exact below3 _ _ _⟩
theorem d_27_1n (a : Int) (h0 : 0 ≤ a) (h1 : a < 4294967296) (w : World) (ho : fOp a = 27) (hf : fF3 a = 1) (ht : fF7 a ≠ 0) :
    Calls Tryz.prog 86 #[.int .u32 a] w fun e w' => e = .returned (.tuple #[I.v ⟨0, 0, 0, 0, 0, 0, 0, false⟩, .bool false]) ∧ Below w.heap.size w w' := by
  have f3b := fF3_b a
  go_enter Tryz.func86, Tryz.ntmps86
  go_wp2_with (first | (go_at_call 61; (with_reducible first | refine (g_f3 a h0 h1 _).mono ?_ | refine (g_f7 a h0 h1 _).mono ?_ | refine (g_rd a h0 h1 _).mono ?_ | refine (g_rs1 a h0 h1 _).mono ?_ | refine (g_rs2 a h0 h1 _).mono ?_ | refine (g_op a h0 h1 _).mono ?_ | refine (g_f6 a h0 h1 _).mono ?_ | refine (g_sh a h0 h1 _).mono ?_); rintro e w1 ⟨rfl, rfl⟩))
  exact bodyPost_ret (v := .tuple #[I.v ⟨0, 0, 0, 0, 0, 0, 0, false⟩, .bool false]) (by simp [results, Tryz.results86, go_sem]) rfl ⟨rfl, by first | exact below2 _ _ | exact below3 _ _ _⟩
theorem d_27_5n (a : Int) (h0 : 0 ≤ a) (h1 : a < 4294967296) (w : World) (ho : fOp a = 27) (hf : fF3 a = 5) (ht : fF7 a ≠ 0) (ht2 : fF7 a ≠ 32) :
    Calls Tryz.prog 86 #[.int .u32 a] w fun e w' => e = .returned (.tuple #[I.v ⟨0, 0, 0, 0, 0, 0, 0, false⟩, .bool false]) ∧ Below w.heap.size w w' := by
  have f3b := fF3_b a
  go_enter Tryz.func86, Tryz.ntmps86
  go_wp2_with (first | (go_at_call 61; (with_reducible first | refine (g_f3 a h0 h1 _).mono ?_ | refine (g_f7 a h0 h1 _).mono ?_ | refine (g_rd a h0 h1 _).mono ?_ | refine (g_rs1 a h0 h1 _).mono ?_ | refine (g_rs2 a h0 h1 _).mono ?_ | refine (g_op a h0 h1 _).mono ?_ | refine (g_f6 a h0 h1 _).mono ?_ | refine (g_sh a h0 h1 _).mono ?_); rintro e w1 ⟨rfl, rfl⟩))
  exact bodyPost_ret (v := .tuple #[I.v ⟨0, 0, 0, 0, 0, 0, 0, false⟩, .bool false]) (by simp [results, Tryz.results86, go_sem]) rfl ⟨rfl, by first | exact below2 _ _ | exact below3 _ _ _⟩
theorem d_27n (a : Int) (h0 : 0 ≤ a) (h1 : a < 4294967296) (w : World) (ho : fOp a = 27) (n0 : fF3 a ≠ 0) (n1 : fF3 a ≠ 1) (n5 : fF3 a ≠ 5) :
    Calls Tryz.prog 86 #[.int .u32 a] w fun e w' => e = .returned (.tuple #[I.v ⟨0, 0, 0, 0, 0, 0, 0, false⟩, .bool false]) ∧ Below w.heap.size w w' := by
  have f3b := fF3_b a
  go_enter Tryz.func86, Tryz.ntmps86
  go_wp2_with (first | (go_at_call 61; (with_reducible first | refine (g_f3 a h0 h1 _).mono ?_ | refine (g_f7 a h0 h1 _).mono ?_ | refine (g_rd a h0 h1 _).mono ?_ | refine (g_rs1 a h0 h1 _).mono ?_ | refine (g_rs2 a h0 h1 _).mono ?_ | refine (g_op a h0 h1 _).mono ?_ | refine (g_f6 a h0 h1 _).mono ?_ | refine (g_sh a h0 h1 _).mono ?_); rintro e w1 ⟨rfl, rfl⟩))
  exact bodyPost_ret (v := .tuple #[I.v ⟨0, 0, 0, 0, 0, 0, 0, false⟩, .bool false]) (by simp [results, Tryz.results86, go_sem]) rfl ⟨rfl, by first | exact below2 _ _ | exact below3 _ _ _⟩
theorem d_51_0 (a : Int) (h0 : 0 ≤ a) (h1 : a < 4294967296) (w : World) (ho : fOp a = 51) (ht : fF7 a = 0) (hn : tBas (fF3 a) ≠ 0) :
    Calls Tryz.prog 86 #[.int .u32 a] w fun e w' => e = .returned (.tuple #[I.v ⟨8, tBas (fF3 a), fRd a, fRs1 a, fRs2 a, 0, 0, false⟩, .bool true]) ∧ Below w.heap.size w w' := by
  have f3b := fF3_b a
  go_enter Tryz.func86, Tryz.ntmps86
  go_wp2_with (first | (go_at_call 61; (with_reducible first | refine (g_f3 a h0 h1 _).mono ?_ | refine (g_f7 a h0 h1 _).mono ?_ | refine (g_rd a h0 h1 _).mono ?_ | refine (g_rs1 a h0 h1 _).mono ?_ | refine (g_rs2 a h0 h1 _).mono ?_ | refine (g_op a h0 h1 _).mono ?_ | refine (g_f6 a h0 h1 _).mono ?_ | refine (g_sh a h0 h1 _).mono ?_); rintro e w1 ⟨rfl, rfl⟩) | (refine wpList_buildFlat rfl 117 3 _ _ rfl .i64 [1, 3, 4, 5, 6, 7, 9, 10] (by kernel_rfl) (by kernel_rfl) (by kernel_rfl) rfl (by decide) (by decide) rfl ?_) | (go_at_call 63; refine (r_pickT _ 8 [1, 3, 4, 5, 6, 7, 9, 10] rfl _ _ (tab_cell _ _ (by simp) _ _ _ _ rfl rfl) (by first | omega | decide) (by first | omega | decide) (by decide) (tBas (fF3 a)) (pk_bas a)).mono ?_; rintro e w1 ⟨rfl, rfl⟩))
  exact bodyPost_ret (v := .tuple #[I.v ⟨8, tBas (fF3 a), fRd a, fRs1 a, fRs2 a, 0, 0, false⟩, .bool true]) (by simp [results, Tryz.results86, go_sem]) rfl ⟨rfl, by first | exact below2 _ _ | exact below3 _ _ _⟩
theorem d_51_32 (a : Int) (h0 : 0 ≤ a) (h1 : a < 4294967296) (w : World) (ho : fOp a = 51) (ht : fF7 a = 32) (hn : tAlt (fF3 a) ≠ 0) :
    Calls Tryz.prog 86 #[.int .u32 a] w fun e w' => e = .returned (.tuple #[I.v ⟨8, tAlt (fF3 a), fRd a, fRs1 a, fRs2 a, 0, 0, false⟩, .bool true]) ∧ Below w.heap.size w w' := by
  have f3b := fF3_b a
  go_enter Tryz.func86, Tryz.ntmps86
  go_wp2_with (first | (go_at_call 61; (with_reducible first | refine (g_f3 a h0 h1 _).mono ?_ | refine (g_f7 a h0 h1 _).mono ?_ | refine (g_rd a h0 h1 _).mono ?_ | refine (g_rs1 a h0 h1 _).mono ?_ | refine (g_rs2 a h0 h1 _).mono ?_ | refine (g_op a h0 h1 _).mono ?_ | refine (g_f6 a h0 h1 _).mono ?_ | refine (g_sh a h0 h1 _).mono ?_); rintro e w1 ⟨rfl, rfl⟩) | (refine wpList_buildFlat rfl 117 3 _ _ rfl .i64 [2, 0, 0, 0, 0, 8, 0, 0] (by kernel_rfl) (by kernel_rfl) (by kernel_rfl) rfl (by decide) (by decide) rfl ?_) | (go_at_call 63; refine (r_pickT _ 8 [2, 0, 0, 0, 0, 8, 0, 0] rfl _ _ (tab_cell _ _ (by simp) _ _ _ _ rfl rfl) (by first | omega | decide) (by first | omega | decide) (by decide) (tAlt (fF3 a)) (pk_alt a)).mono ?_; rintro e w1 ⟨rfl, rfl⟩))
  exact bodyPost_ret (v := .tuple #[I.v ⟨8, tAlt (fF3 a), fRd a, fRs1 a, fRs2 a, 0, 0, false⟩, .bool true]) (by simp [results, Tryz.results86, go_sem]) rfl ⟨rfl, by first | exact below2 _ _ | exact below3 _ _ _⟩
theorem d_51_32n (a : Int) (h0 : 0 ≤ a) (h1 : a < 4294967296) (w : World) (ho : fOp a = 51) (ht : fF7 a = 32) (hn : tAlt (fF3 a) = 0) :
    Calls Tryz.prog 86 #[.int .u32 a] w fun e w' => e = .returned (.tuple #[I.v ⟨0, 0, 0, 0, 0, 0, 0, false⟩, .bool false]) ∧ Below w.heap.size w w' := by
  have f3b := fF3_b a
  go_enter Tryz.func86, Tryz.ntmps86
  go_wp2_with (first | (go_at_call 61; (with_reducible first | refine (g_f3 a h0 h1 _).mono ?_ | refine (g_f7 a h0 h1 _).mono ?_ | refine (g_rd a h0 h1 _).mono ?_ | refine (g_rs1 a h0 h1 _).mono ?_ | refine (g_rs2 a h0 h1 _).mono ?_ | refine (g_op a h0 h1 _).mono ?_ | refine (g_f6 a h0 h1 _).mono ?_ | refine (g_sh a h0 h1 _).mono ?_); rintro e w1 ⟨rfl, rfl⟩) | (refine wpList_buildFlat rfl 117 3 _ _ rfl .i64 [2, 0, 0, 0, 0, 8, 0, 0] (by kernel_rfl) (by kernel_rfl) (by kernel_rfl) rfl (by decide) (by decide) rfl ?_) | (go_at_call 63; refine (r_pickT _ 8 [2, 0, 0, 0, 0, 8, 0, 0] rfl _ _ (tab_cell _ _ (by simp) _ _ _ _ rfl rfl) (by first | omega | decide) (by first | omega | decide) (by decide) (tAlt (fF3 a)) (pk_alt a)).mono ?_; rintro e w1 ⟨rfl, rfl⟩))
  exact bodyPost_ret (v := .tuple #[I.v ⟨0, 0, 0, 0, 0, 0, 0, false⟩, .bool false]) (by simp [results, Tryz.results86, go_sem]) rfl ⟨rfl, by first | exact below2 _ _ | exact below3 _ _ _⟩
theorem d_51_1 (a : Int) (h0 : 0 ≤ a) (h1 : a < 4294967296) (w : World) (ho : fOp a = 51) (ht : fF7 a = 1) (hn : tPro (fF3 a) ≠ 0) :
    Calls Tryz.prog 86 #[.int .u32 a] w fun e w' => e = .returned (.tuple #[I.v ⟨8, tPro (fF3 a), fRd a, fRs1 a, fRs2 a, 0, 0, false⟩, .bool true]) ∧ Below w.heap.size w w' := by
  have f3b := fF3_b a
  go_enter Tryz.func86, Tryz.ntmps86
  go_wp2_with (first | (go_at_call 61; (with_reducible first | refine (g_f3 a h0 h1 _).mono ?_ | refine (g_f7 a h0 h1 _).mono ?_ | refine (g_rd a h0 h1 _).mono ?_ | refine (g_rs1 a h0 h1 _).mono ?_ | refine (g_rs2 a h0 h1 _).mono ?_ | refine (g_op a h0 h1 _).mono ?_ | refine (g_f6 a h0 h1 _).mono ?_ | refine (g_sh a h0 h1 _).mono ?_); rintro e w1 ⟨rfl, rfl⟩) | (refine wpList_buildFlat rfl 117 3 _ _ rfl .i64 [11, 12, 13, 14, 15, 16, 17, 18] (by kernel_rfl) (by kernel_rfl) (by kernel_rfl) rfl (by decide) (by decide) rfl ?_) | (go_at_call 63; refine (r_pickT _ 8 [11, 12, 13, 14, 15, 16, 17, 18] rfl _ _ (tab_cell _ _ (by simp) _ _ _ _ rfl rfl) (by first | omega | decide) (by first | omega | decide) (by decide) (tPro (fF3 a)) (pk_pro a)).mono ?_; rintro e w1 ⟨rfl, rfl⟩))
  exact bodyPost_ret (v := .tuple #[I.v ⟨8, tPro (fF3 a), fRd a, fRs1 a, fRs2 a, 0, 0, false⟩, .bool true]) (by simp [results, Tryz.results86, go_sem]) rfl ⟨rfl, by first | exact below2 _ _ | exact below3 _ _ _⟩
theorem d_51n (a : Int) (h0 : 0 ≤ a) (h1 : a < 4294967296) (w : World) (ho : fOp a = 51) (ht : fF7 a ≠ 0) (ht1 : fF7 a ≠ 32) (ht2 : fF7 a ≠ 1) :
    Calls Tryz.prog 86 #[.int .u32 a] w fun e w' => e = .returned (.tuple #[I.v ⟨0, 0, 0, 0, 0, 0, 0, false⟩, .bool false]) ∧ Below w.heap.size w w' := by
  have f3b := fF3_b a
  go_enter Tryz.func86, Tryz.ntmps86
  go_wp2_with (first | (go_at_call 61; (with_reducible first | refine (g_f3 a h0 h1 _).mono ?_ | refine (g_f7 a h0 h1 _).mono ?_ | refine (g_rd a h0 h1 _).mono ?_ | refine (g_rs1 a h0 h1 _).mono ?_ | refine (g_rs2 a h0 h1 _).mono ?_ | refine (g_op a h0 h1 _).mono ?_ | refine (g_f6 a h0 h1 _).mono ?_ | refine (g_sh a h0 h1 _).mono ?_); rintro e w1 ⟨rfl, rfl⟩))
  exact bodyPost_ret (v := .tuple #[I.v ⟨0, 0, 0, 0, 0, 0, 0, false⟩, .bool false]) (by simp [results, Tryz.results86, go_sem]) rfl ⟨rfl, by first | exact below2 _ _ | exact below3 _ _ _⟩
theorem d_59_0 (a : Int) (h0 : 0 ≤ a) (h1 : a < 4294967296) (w : World) (ho : fOp a = 59) (ht : fF7 a = 0) (hn : tBasW (fF3 a) ≠ 0) :
    Calls Tryz.prog 86 #[.int .u32 a] w fun e w' => e = .returned (.tuple #[I.v ⟨8, tBasW (fF3 a), fRd a, fRs1 a, fRs2 a, 0, 0, false⟩, .bool true]) ∧ Below w.heap.size w w' := by
  have f3b := fF3_b a
  go_enter Tryz.func86, Tryz.ntmps86
  go_wp2_with (first | (go_at_call 61; (with_reducible first | refine (g_f3 a h0 h1 _).mono ?_ | refine (g_f7 a h0 h1 _).mono ?_ | refine (g_rd a h0 h1 _).mono ?_ | refine (g_rs1 a h0 h1 _).mono ?_ | refine (g_rs2 a h0 h1 _).mono ?_ | refine (g_op a h0 h1 _).mono ?_ | refine (g_f6 a h0 h1 _).mono ?_ | refine (g_sh a h0 h1 _).mono ?_); rintro e w1 ⟨rfl, rfl⟩) | (refine wpList_buildFlat rfl 117 3 _ _ rfl .i64 [19, 21, 0, 0, 0, 22, 0, 0] (by kernel_rfl) (by kernel_rfl) (by kernel_rfl) rfl (by decide) (by decide) rfl ?_) | (go_at_call 63; refine (r_pickT _ 8 [19, 21, 0, 0, 0, 22, 0, 0] rfl _ _ (tab_cell _ _ (by simp) _ _ _ _ rfl rfl) (by first | omega | decide) (by first | omega | decide) (by decide) (tBasW (fF3 a)) (pk_basW a)).mono ?_; rintro e w1 ⟨rfl, rfl⟩))
  exact bodyPost_ret (v := .tuple #[I.v ⟨8, tBasW (fF3 a), fRd a, fRs1 a, fRs2 a, 0, 0, false⟩, .bool true]) (by simp [results, Tryz.results86, go_sem]) rfl ⟨rfl, by first | exact below2 _ _ | exact below3 _ _ _⟩
theorem d_59_0n (a : Int) (h0 : 0 ≤ a) (h1 : a < 4294967296) (w : World) (ho : fOp a = 59) (ht : fF7 a = 0) (hn : tBasW (fF3 a) = 0) :
    Calls Tryz.prog 86 #[.int .u32 a] w fun e w' => e = .returned (.tuple #[I.v ⟨0, 0, 0, 0, 0, 0, 0, false⟩, .bool false]) ∧ Below w.heap.size w w' := by
  have f3b := fF3_b a
  go_enter Tryz.func86, Tryz.ntmps86
  go_wp2_with (first | (go_at_call 61; (with_reducible first | refine (g_f3 a h0 h1 _).mono ?_ | refine (g_f7 a h0 h1 _).mono ?_ | refine (g_rd a h0 h1 _).mono ?_ | refine (g_rs1 a h0 h1 _).mono ?_ | refine (g_rs2 a h0 h1 _).mono ?_ | refine (g_op a h0 h1 _).mono ?_ | refine (g_f6 a h0 h1 _).mono ?_ | refine (g_sh a h0 h1 _).mono ?_); rintro e w1 ⟨rfl, rfl⟩) | (refine wpList_buildFlat rfl 117 3 _ _ rfl .i64 [19, 21, 0, 0, 0, 22, 0, 0] (by kernel_rfl) (by kernel_rfl) (by kernel_rfl) rfl (by decide) (by decide) rfl ?_) | (go_at_call 63; refine (r_pickT _ 8 [19, 21, 0, 0, 0, 22, 0, 0] rfl _ _ (tab_cell _ _ (by simp) _ _ _ _ rfl rfl) (by first | omega | decide) (by first | omega | decide) (by decide) (tBasW (fF3 a)) (pk_basW a)).mono ?_; rintro e w1 ⟨rfl, rfl⟩))
  exact bodyPost_ret (v := .tuple #[I.v ⟨0, 0, 0, 0, 0, 0, 0, false⟩, .bool false]) (by simp [results, Tryz.results86, go_sem]) rfl ⟨rfl, by first | exact below2 _ _ | exact below3 _ _ _⟩
theorem d_59_32 (a : Int) (h0 : 0 ≤ a) (h1 : a < 4294967296) (w : World) (ho : fOp a = 59) (ht : fF7 a = 32) (hn : tAltW (fF3 a) ≠ 0) :
    Calls Tryz.prog 86 #[.int .u32 a] w fun e w' => e = .returned (.tuple #[I.v ⟨8, tAltW (fF3 a), fRd a, fRs1 a, fRs2 a, 0, 0, false⟩, .bool true]) ∧ Below w.heap.size w w' := by
  have f3b := fF3_b a
  go_enter Tryz.func86, Tryz.ntmps86
  go_wp2_with (first | (go_at_call 61; (with_reducible first | refine (g_f3 a h0 h1 _).mono ?_ | refine (g_f7 a h0 h1 _).mono ?_ | refine (g_rd a h0 h1 _).mono ?_ | refine (g_rs1 a h0 h1 _).mono ?_ | refine (g_rs2 a h0 h1 _).mono ?_ | refine (g_op a h0 h1 _).mono ?_ | refine (g_f6 a h0 h1 _).mono ?_ | refine (g_sh a h0 h1 _).mono ?_); rintro e w1 ⟨rfl, rfl⟩) | (refine wpList_buildFlat rfl 117 3 _ _ rfl .i64 [20, 0, 0, 0, 0, 23, 0, 0] (by kernel_rfl) (by kernel_rfl) (by kernel_rfl) rfl (by decide) (by decide) rfl ?_) | (go_at_call 63; refine (r_pickT _ 8 [20, 0, 0, 0, 0, 23, 0, 0] rfl _ _ (tab_cell _ _ (by simp) _ _ _ _ rfl rfl) (by first | omega | decide) (by first | omega | decide) (by decide) (tAltW (fF3 a)) (pk_altW a)).mono ?_; rintro e w1 ⟨rfl, rfl⟩))
  exact bodyPost_ret (v := .tuple #[I.v ⟨8, tAltW (fF3 a), fRd a, fRs1 a, fRs2 a, 0, 0, false⟩, .bool true]) (by simp [results, Tryz.results86, go_sem]) rfl ⟨rfl, by first | exact below2 _ _ | exact below3 _ _ _⟩
theorem d_59_32n (a : Int) (h0 : 0 ≤ a) (h1 : a < 4294967296) (w : World) (ho : fOp a = 59) (ht : fF7 a = 32) (hn : tAltW (fF3 a) = 0) :
    Calls Tryz.prog 86 #[.int .u32 a] w fun e w' => e = .returned (.tuple #[I.v ⟨0, 0, 0, 0, 0, 0, 0, false⟩, .bool false]) ∧ Below w.heap.size w w' := by
  have f3b := fF3_b a
  go_enter Tryz.func86, Tryz.ntmps86
  go_wp2_with (first | (go_at_call 61; (with_reducible first | refine (g_f3 a h0 h1 _).mono ?_ | refine (g_f7 a h0 h1 _).mono ?_ | refine (g_rd a h0 h1 _).mono ?_ | refine (g_rs1 a h0 h1 _).mono ?_ | refine (g_rs2 a h0 h1 _).mono ?_ | refine (g_op a h0 h1 _).mono ?_ | refine (g_f6 a h0 h1 _).mono ?_ | refine (g_sh a h0 h1 _).mono ?_); rintro e w1 ⟨rfl, rfl⟩) | (refine wpList_buildFlat rfl 117 3 _ _ rfl .i64 [20, 0, 0, 0, 0, 23, 0, 0] (by kernel_rfl) (by kernel_rfl) (by kernel_rfl) rfl (by decide) (by decide) rfl ?_) | (go_at_call 63; refine (r_pickT _ 8 [20, 0, 0, 0, 0, 23, 0, 0] rfl _ _ (tab_cell _ _ (by simp) _ _ _ _ rfl rfl) (by first | omega | decide) (by first | omega | decide) (by decide) (tAltW (fF3 a)) (pk_altW a)).mono ?_; rintro e w1 ⟨rfl, rfl⟩))
  exact bodyPost_ret (v := .tuple #[I.v ⟨0, 0, 0, 0, 0, 0, 0, false⟩, .bool false]) (by simp [results, Tryz.results86, go_sem]) rfl ⟨rfl, by first | exact below2 _ _ | exact below3 _ _ _⟩
theorem d_59_1 (a : Int) (h0 : 0 ≤ a) (h1 : a < 4294967296) (w : World) (ho : fOp a = 59) (ht : fF7 a = 1) (hn : tProW (fF3 a) ≠ 0) :
    Calls Tryz.prog 86 #[.int .u32 a] w fun e w' => e = .returned (.tuple #[I.v ⟨8, tProW (fF3 a), fRd a, fRs1 a, fRs2 a, 0, 0, false⟩, .bool true]) ∧ Below w.heap.size w w' := by
  have f3b := fF3_b a
  go_enter Tryz.func86, Tryz.ntmps86
  go_wp2_with (first | (go_at_call 61; (with_reducible first | refine (g_f3 a h0 h1 _).mono ?_ | refine (g_f7 a h0 h1 _).mono ?_ | refine (g_rd a h0 h1 _).mono ?_ | refine (g_rs1 a h0 h1 _).mono ?_ | refine (g_rs2 a h0 h1 _).mono ?_ | refine (g_op a h0 h1 _).mono ?_ | refine (g_f6 a h0 h1 _).mono ?_ | refine (g_sh a h0 h1 _).mono ?_); rintro e w1 ⟨rfl, rfl⟩) | (refine wpList_buildFlat rfl 117 3 _ _ rfl .i64 [24, 0, 0, 0, 25, 26, 27, 28] (by kernel_rfl) (by kernel_rfl) (by kernel_rfl) rfl (by decide) (by decide) rfl ?_) | (go_at_call 63; refine (r_pickT _ 8 [24, 0, 0, 0, 25, 26, 27, 28] rfl _ _ (tab_cell _ _ (by simp) _ _ _ _ rfl rfl) (by first | omega | decide) (by first | omega | decide) (by decide) (tProW (fF3 a)) (pk_proW a)).mono ?_; rintro e w1 ⟨rfl, rfl⟩))
  exact bodyPost_ret (v := .tuple #[I.v ⟨8, tProW (fF3 a), fRd a, fRs1 a, fRs2 a, 0, 0, false⟩, .bool true]) (by simp [results, Tryz.results86, go_sem]) rfl ⟨rfl, by first | exact below2 _ _ | exact below3 _ _ _⟩
theorem d_59_1n (a : Int) (h0 : 0 ≤ a) (h1 : a < 4294967296) (w : World) (ho : fOp a = 59) (ht : fF7 a = 1) (hn : tProW (fF3 a) = 0) :
    Calls Tryz.prog 86 #[.int .u32 a] w fun e w' => e = .returned (.tuple #[I.v ⟨0, 0, 0, 0, 0, 0, 0, false⟩, .bool false]) ∧ Below w.heap.size w w' := by
  have f3b := fF3_b a
  go_enter Tryz.func86, Tryz.ntmps86
  go_wp2_with (first | (go_at_call 61; (with_reducible first | refine (g_f3 a h0 h1 _).mono ?_ | refine (g_f7 a h0 h1 _).mono ?_ | refine (g_rd a h0 h1 _).mono ?_ | refine (g_rs1 a h0 h1 _).mono ?_ | refine (g_rs2 a h0 h1 _).mono ?_ | refine (g_op a h0 h1 _).mono ?_ | refine (g_f6 a h0 h1 _).mono ?_ | refine (g_sh a h0 h1 _).mono ?_); rintro e w1 ⟨rfl, rfl⟩) | (refine wpList_buildFlat rfl 117 3 _ _ rfl .i64 [24, 0, 0, 0, 25, 26, 27, 28] (by kernel_rfl) (by kernel_rfl) (by kernel_rfl) rfl (by decide) (by decide) rfl ?_) | (go_at_call 63; refine (r_pickT _ 8 [24, 0, 0, 0, 25, 26, 27, 28] rfl _ _ (tab_cell _ _ (by simp) _ _ _ _ rfl rfl) (by first | omega | decide) (by first | omega | decide) (by decide) (tProW (fF3 a)) (pk_proW a)).mono ?_; rintro e w1 ⟨rfl, rfl⟩))
  exact bodyPost_ret (v := .tuple #[I.v ⟨0, 0, 0, 0, 0, 0, 0, false⟩, .bool false]) (by simp [results, Tryz.results86, go_sem]) rfl ⟨rfl, by first | exact below2 _ _ | exact below3 _ _ _⟩
theorem d_59n (a : Int) (h0 : 0 ≤ a) (h1 : a < 4294967296) (w : World) (ho : fOp a = 59) (ht : fF7 a ≠ 0) (ht1 : fF7 a ≠ 32) (ht2 : fF7 a ≠ 1) :
    Calls Tryz.prog 86 #[.int .u32 a] w fun e w' => e = .returned (.tuple #[I.v ⟨0, 0, 0, 0, 0, 0, 0, false⟩, .bool false]) ∧ Below w.heap.size w w' := by
  have f3b := fF3_b a
  go_enter Tryz.func86, Tryz.ntmps86
  go_wp2_with (first | (go_at_call 61; (with_reducible first | refine (g_f3 a h0 h1 _).mono ?_ | refine (g_f7 a h0 h1 _).mono ?_ | refine (g_rd a h0 h1 _).mono ?_ | refine (g_rs1 a h0 h1 _).mono ?_ | refine (g_rs2 a h0 h1 _).mono ?_ | refine (g_op a h0 h1 _).mono ?_ | refine (g_f6 a h0 h1 _).mono ?_ | refine (g_sh a h0 h1 _).mono ?_); rintro e w1 ⟨rfl, rfl⟩))
  exact bodyPost_ret (v := .tuple #[I.v ⟨0, 0, 0, 0, 0, 0, 0, false⟩, .bool false]) (by simp [results, Tryz.results86, go_sem]) rfl ⟨rfl, by first | exact below2 _ _ | exact below3 _ _ _⟩
theorem d_15 (a : Int) (h0 : 0 ≤ a) (h1 : a < 4294967296) (w : World) (ho : fOp a = 15) (hf : fF3 a < 2) :
    Calls Tryz.prog 86 #[.int .u32 a] w fun e w' => e = .returned (.tuple #[I.v ⟨10, 0, 0, 0, 0, 0, 0, false⟩, .bool true]) ∧ Below w.heap.size w w' := by
  have f3b := fF3_b a
  go_enter Tryz.func86, Tryz.ntmps86
  go_wp2_with (first | (go_at_call 61; (with_reducible first | refine (g_f3 a h0 h1 _).mono ?_ | refine (g_f7 a h0 h1 _).mono ?_ | refine (g_rd a h0 h1 _).mono ?_ | refine (g_rs1 a h0 h1 _).mono ?_ | refine (g_rs2 a h0 h1 _).mono ?_ | refine (g_op a h0 h1 _).mono ?_ | refine (g_f6 a h0 h1 _).mono ?_ | refine (g_sh a h0 h1 _).mono ?_); rintro e w1 ⟨rfl, rfl⟩))
  exact bodyPost_ret (v := .tuple #[I.v ⟨10, 0, 0, 0, 0, 0, 0, false⟩, .bool true]) (by simp [results, Tryz.results86, go_sem]) rfl ⟨rfl, by first | exact below2 _ _ | exact below3 _ _ _⟩
theorem d_15n (a : Int) (h0 : 0 ≤ a) (h1 : a < 4294967296) (w : World) (ho : fOp a = 15) (hf : ¬ fF3 a < 2) :
    Calls Tryz.prog 86 #[.int .u32 a] w fun e w' => e = .returned (.tuple #[I.v ⟨0, 0, 0, 0, 0, 0, 0, false⟩, .bool false]) ∧ Below w.heap.size w w' := by
  have f3b := fF3_b a
  go_enter Tryz.func86, Tryz.ntmps86
  go_wp2_with (first | (go_at_call 61; (with_reducible first | refine (g_f3 a h0 h1 _).mono ?_ | refine (g_f7 a h0 h1 _).mono ?_ | refine (g_rd a h0 h1 _).mono ?_ | refine (g_rs1 a h0 h1 _).mono ?_ | refine (g_rs2 a h0 h1 _).mono ?_ | refine (g_op a h0 h1 _).mono ?_ | refine (g_f6 a h0 h1 _).mono ?_ | refine (g_sh a h0 h1 _).mono ?_); rintro e w1 ⟨rfl, rfl⟩))
  exact bodyPost_ret (v := .tuple #[I.v ⟨0, 0, 0, 0, 0, 0, 0, false⟩, .bool false]) (by simp [results, Tryz.results86, go_sem]) rfl ⟨rfl, by first | exact below2 _ _ | exact below3 _ _ _⟩
theorem d_e (a : Int) (h0 : 0 ≤ a) (h1 : a < 4294967296) (w : World) (h55 : fOp a ≠ 55) (h23 : fOp a ≠ 23) (h19 : fOp a ≠ 19) (h27 : fOp a ≠ 27) (h51 : fOp a ≠ 51) (h59 : fOp a ≠ 59) (h115 : fOp a ≠ 115) (h111 : fOp a ≠ 111) (h103 : fOp a ≠ 103) (h99 : fOp a ≠ 99) (h3 : fOp a ≠ 3) (h35 : fOp a ≠ 35) (h15 : fOp a ≠ 15) (h47 : fOp a ≠ 47) :
    Calls Tryz.prog 86 #[.int .u32 a] w fun e w' => e = .returned (.tuple #[I.v ⟨0, 0, 0, 0, 0, 0, 0, false⟩, .bool false]) ∧ Below w.heap.size w w' := by
  have f3b := fF3_b a
  go_enter Tryz.func86, Tryz.ntmps86
  go_wp2_with (first | (go_at_call 61; (with_reducible first | refine (g_f3 a h0 h1 _).mono ?_ | refine (g_f7 a h0 h1 _).mono ?_ | refine (g_rd a h0 h1 _).mono ?_ | refine (g_rs1 a h0 h1 _).mono ?_ | refine (g_rs2 a h0 h1 _).mono ?_ | refine (g_op a h0 h1 _).mono ?_ | refine (g_f6 a h0 h1 _).mono ?_ | refine (g_sh a h0 h1 _).mono ?_); rintro e w1 ⟨rfl, rfl⟩))
  exact bodyPost_ret (v := .tuple #[I.v ⟨0, 0, 0, 0, 0, 0, 0, false⟩, .bool false]) (by simp [results, Tryz.results86, go_sem]) rfl ⟨rfl, by first | exact below2 _ _ | exact below3 _ _ _⟩
end Go.Proofs.YtlfdokkopgmfjaaGreatDoor.B
