/- What Encode answers, for every instruction: bases, the draft, the whole. New blocks alone. -/
import Derived.Test.YtioodijiejipiaaGreatDoorID
import Derived.Deep.LoopGhost
namespace Go.Proofs.YtioodijiejipiaaGreatDoor
open Go.RowKit
set_option linter.unusedVariables false

theorem ix_ato (w : World) : ∀ n : Nat, n < 32 → (Instr.index 73 (.agg #[.int .i64 (tAto 0), .int .i64 (tAto 1), .int .i64 (tAto 2), .int .i64 (tAto 3), .int .i64 (tAto 4), .int .i64 (tAto 5), .int .i64 (tAto 6), .int .i64 (tAto 7), .int .i64 (tAto 8), .int .i64 (tAto 9), .int .i64 (tAto 10), .int .i64 (tAto 11), .int .i64 (tAto 12), .int .i64 (tAto 13), .int .i64 (tAto 14), .int .i64 (tAto 15), .int .i64 (tAto 16), .int .i64 (tAto 17), .int .i64 (tAto 18), .int .i64 (tAto 19), .int .i64 (tAto 20), .int .i64 (tAto 21), .int .i64 (tAto 22), .int .i64 (tAto 23), .int .i64 (tAto 24), .int .i64 (tAto 25), .int .i64 (tAto 26), .int .i64 (tAto 27), .int .i64 (tAto 28), .int .i64 (tAto 29), .int .i64 (tAto 30), .int .i64 (tAto 31)]) (.int .i64 (n : Int))).run Tryz.prog w = .ok (.int .i64 (tAto (n : Int))) w
  | 0, _ => by kernel_rfl
  | 1, _ => by kernel_rfl
  | 2, _ => by kernel_rfl
  | 3, _ => by kernel_rfl
  | 4, _ => by kernel_rfl
  | 5, _ => by kernel_rfl
  | 6, _ => by kernel_rfl
  | 7, _ => by kernel_rfl
  | 8, _ => by kernel_rfl
  | 9, _ => by kernel_rfl
  | 10, _ => by kernel_rfl
  | 11, _ => by kernel_rfl
  | 12, _ => by kernel_rfl
  | 13, _ => by kernel_rfl
  | 14, _ => by kernel_rfl
  | 15, _ => by kernel_rfl
  | 16, _ => by kernel_rfl
  | 17, _ => by kernel_rfl
  | 18, _ => by kernel_rfl
  | 19, _ => by kernel_rfl
  | 20, _ => by kernel_rfl
  | 21, _ => by kernel_rfl
  | 22, _ => by kernel_rfl
  | 23, _ => by kernel_rfl
  | 24, _ => by kernel_rfl
  | 25, _ => by kernel_rfl
  | 26, _ => by kernel_rfl
  | 27, _ => by kernel_rfl
  | 28, _ => by kernel_rfl
  | 29, _ => by kernel_rfl
  | 30, _ => by kernel_rfl
  | 31, _ => by kernel_rfl
  | n + 32, h => absurd h (by omega)
theorem cato (w : World) (hG : G w) (k : Nat) (hk : k < 32) : w.cell? ⟨4, k, none⟩ = some (.int .i64 (tAto (k : Int))) := by
  have := hG.ato.2 (k : Int) (by omega) (by omega)
  simpa using this
theorem load_ato (w : World) (hG : G w) : (loadVar 73 ⟨4, 0, none⟩).run Tryz.prog w = .ok (.agg #[.int .i64 (tAto 0), .int .i64 (tAto 1), .int .i64 (tAto 2), .int .i64 (tAto 3), .int .i64 (tAto 4), .int .i64 (tAto 5), .int .i64 (tAto 6), .int .i64 (tAto 7), .int .i64 (tAto 8), .int .i64 (tAto 9), .int .i64 (tAto 10), .int .i64 (tAto 11), .int .i64 (tAto 12), .int .i64 (tAto 13), .int .i64 (tAto 14), .int .i64 (tAto 15), .int .i64 (tAto 16), .int .i64 (tAto 17), .int .i64 (tAto 18), .int .i64 (tAto 19), .int .i64 (tAto 20), .int .i64 (tAto 21), .int .i64 (tAto 22), .int .i64 (tAto 23), .int .i64 (tAto 24), .int .i64 (tAto 25), .int .i64 (tAto 26), .int .i64 (tAto 27), .int .i64 (tAto 28), .int .i64 (tAto 29), .int .i64 (tAto 30), .int .i64 (tAto 31)]) w := by
  have hl := run_loadCells (P := Tryz.prog) w ⟨4, 0, none⟩ 32 (fun j => .int .i64 (tAto (j : Int))) (fun j hj => by
    have hadd : (⟨4, 0, none⟩ : Addr).add j = ⟨4, j, none⟩ := by unfold Addr.add; split <;> simp_all
    rw [hadd]; exact cato w hG j hj)
  have hi : (isAgg 73).run Tryz.prog w = .ok true w := by kernel_rfl
  have hs : (sizeOf 73).run Tryz.prog w = .ok 32 w := by kernel_rfl
  simp only [loadVar, Sem.run_bind, hi, Result.andThen_ok, if_true, hs, hl]
  rfl
theorem loadAt_ato (w : World) (hG : G w) : (Instr.loadAt 73 (.pointer (some ⟨4, 0, none⟩))).run Tryz.prog w = .ok (.agg #[.int .i64 (tAto 0), .int .i64 (tAto 1), .int .i64 (tAto 2), .int .i64 (tAto 3), .int .i64 (tAto 4), .int .i64 (tAto 5), .int .i64 (tAto 6), .int .i64 (tAto 7), .int .i64 (tAto 8), .int .i64 (tAto 9), .int .i64 (tAto 10), .int .i64 (tAto 11), .int .i64 (tAto 12), .int .i64 (tAto 13), .int .i64 (tAto 14), .int .i64 (tAto 15), .int .i64 (tAto 16), .int .i64 (tAto 17), .int .i64 (tAto 18), .int .i64 (tAto 19), .int .i64 (tAto 20), .int .i64 (tAto 21), .int .i64 (tAto 22), .int .i64 (tAto 23), .int .i64 (tAto 24), .int .i64 (tAto 25), .int .i64 (tAto 26), .int .i64 (tAto 27), .int .i64 (tAto 28), .int .i64 (tAto 29), .int .i64 (tAto 30), .int .i64 (tAto 31)]) w := by
  have e : Instr.loadAt 73 (.pointer (some ⟨4, 0, none⟩)) = loadVar 73 ⟨4, 0, none⟩ := rfl
  rw [e]; exact load_ato w hG
theorem wp_ldato {ops : Array Oper} {rest : List Oper} {d : Option Nat} {ty : TypeId} {pos : String} {after : Array Edge} {Q : Exit → Act → World → Prop} {a : Act} {w : World} (hG : G w)
    (hK : wpList Tryz.prog ops Q rest (a.put d (.agg #[.int .i64 (tAto 0), .int .i64 (tAto 1), .int .i64 (tAto 2), .int .i64 (tAto 3), .int .i64 (tAto 4), .int .i64 (tAto 5), .int .i64 (tAto 6), .int .i64 (tAto 7), .int .i64 (tAto 8), .int .i64 (tAto 9), .int .i64 (tAto 10), .int .i64 (tAto 11), .int .i64 (tAto 12), .int .i64 (tAto 13), .int .i64 (tAto 14), .int .i64 (tAto 15), .int .i64 (tAto 16), .int .i64 (tAto 17), .int .i64 (tAto 18), .int .i64 (tAto 19), .int .i64 (tAto 20), .int .i64 (tAto 21), .int .i64 (tAto 22), .int .i64 (tAto 23), .int .i64 (tAto 24), .int .i64 (tAto 25), .int .i64 (tAto 26), .int .i64 (tAto 27), .int .i64 (tAto 28), .int .i64 (tAto 29), .int .i64 (tAto 30), .int .i64 (tAto 31)])) w) :
    wpList Tryz.prog ops Q ({ dst := d, op := Op.load 73 (Operand.global 4), type := ty, pos := pos, after := after, guard := none } :: rest) a w := by
  refine wpList_plain rfl fun K' hK' => ?_
  have hr := loadAt_ato w hG
  have he : a.eval (Operand.global 4) = .pointer (some ⟨4, 0, none⟩) := rfl
  unfold Oper.wp
  simp [execOp, he, hr, Result.andThen]
  exact hK' _ _ hK
set_option maxHeartbeats 2000000 in
set_option maxRecDepth 100000 in
theorem m_amo (fn : Int) (w : World) (hG : G w) :
    Calls Tryz.prog 56 #[.int .i64 fn] w fun e w' => e = .returned (.int .u32 (amoF fn)) ∧ w' = w := by
  go_enter Tryz.func56, Tryz.ntmps56
  go_wp2_with (refine wp_ldato hG ?_)
  have hix := ix_ato w
  go_loop [6] (fun t => ∃ k : Nat, k ≤ 32 ∧ t = .int .i64 k ∧ amoF fn = amoL fn k (32 - k)) (fun t => 32 - (intOf t).toNat)
  case atStart => exact ⟨0, by omega, rfl, rfl⟩
  case round =>
    obtain ⟨k, hk, rfl, hN⟩ := hrel
    by_cases hlt : k < 32
    · have hx := hix k hlt
      clear hix
      obtain ⟨m, hm⟩ : ∃ m, 32 - k = m + 1 := ⟨31 - k, by omega⟩
      have HN : Hid (amoF fn = if tAto k = fn then (k : Int) * 134217728 else amoL fn (k + 1) m) := by rw [hN, hm]; rfl
      have hm2 : m = 32 - (k + 1) := by omega
      clear hN
      by_cases h : tAto k = fn
      · go_wp2
        go_ret
        exact ⟨ret_int (by rw [HN.out, if_pos h]), rfl⟩
      · go_wp2
        go_round
        case rel => exact ⟨k + 1, by omega, by go_num, by rw [HN.out, if_neg h, hm2]⟩
        case measure => simp [intOf]; omega
    · have hk2 : k = 32 := by omega
      subst hk2
      have h0 : Hid (amoF fn = 0) := hN
      clear hN hix
      go_wp2
      go_ret
      exact ⟨ret_int h0.out.symm, rfl⟩
end Go.Proofs.YtioodijiejipiaaGreatDoor
