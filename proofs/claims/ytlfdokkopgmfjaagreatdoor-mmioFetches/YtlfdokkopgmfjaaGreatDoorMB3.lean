/- What Encode answers, for every instruction: bases, the draft, the whole. New blocks alone. -/
import Derived.Test.YtlfdokkopgmfjaaGreatDoorBID
import Derived.Deep.LoopGhost
import Derived.Test.YtlfdokkopgmfjaaGreatDoorMB2
import Derived.Deep.QuietTactic
import Derived.BigQuiet
namespace Go.Proofs.YtlfdokkopgmfjaaGreatDoor.B
open Go.RowKit
set_option linter.unusedVariables false
set_option maxRecDepth 100000
theorem ix_ato (w : World) : ∀ n : Nat, n < 32 → (Instr.index 188 (.agg #[.int .i64 (tAto 0), .int .i64 (tAto 1), .int .i64 (tAto 2), .int .i64 (tAto 3), .int .i64 (tAto 4), .int .i64 (tAto 5), .int .i64 (tAto 6), .int .i64 (tAto 7), .int .i64 (tAto 8), .int .i64 (tAto 9), .int .i64 (tAto 10), .int .i64 (tAto 11), .int .i64 (tAto 12), .int .i64 (tAto 13), .int .i64 (tAto 14), .int .i64 (tAto 15), .int .i64 (tAto 16), .int .i64 (tAto 17), .int .i64 (tAto 18), .int .i64 (tAto 19), .int .i64 (tAto 20), .int .i64 (tAto 21), .int .i64 (tAto 22), .int .i64 (tAto 23), .int .i64 (tAto 24), .int .i64 (tAto 25), .int .i64 (tAto 26), .int .i64 (tAto 27), .int .i64 (tAto 28), .int .i64 (tAto 29), .int .i64 (tAto 30), .int .i64 (tAto 31)]) (.int .i64 (n : Int))).run Tryz.prog w = .ok (.int .i64 (tAto (n : Int))) w
  | 0, _ => by kernel_rfl
  | 1, _ => by kernel_rfl
  | 2, _ => by kernel_rfl
  | 3, _ => by kernel_rfl
  | 4, _ => by kernel_rfl
  | 5, _ => by kernel_rfl
  | 6, _ => by kernel_rfl
  | 7, _ => by kernel_rfl
  | 8, _ => by kernel_rfl
  | 9, _ => by kernel_rfl
  | 10, _ => by kernel_rfl
  | 11, _ => by kernel_rfl
  | 12, _ => by kernel_rfl
  | 13, _ => by kernel_rfl
  | 14, _ => by kernel_rfl
  | 15, _ => by kernel_rfl
  | 16, _ => by kernel_rfl
  | 17, _ => by kernel_rfl
  | 18, _ => by kernel_rfl
  | 19, _ => by kernel_rfl
  | 20, _ => by kernel_rfl
  | 21, _ => by kernel_rfl
  | 22, _ => by kernel_rfl
  | 23, _ => by kernel_rfl
  | 24, _ => by kernel_rfl
  | 25, _ => by kernel_rfl
  | 26, _ => by kernel_rfl
  | 27, _ => by kernel_rfl
  | 28, _ => by kernel_rfl
  | 29, _ => by kernel_rfl
  | 30, _ => by kernel_rfl
  | 31, _ => by kernel_rfl
  | n + 32, h => absurd h (by omega)
theorem cato (w : World) (hG : G w) (k : Nat) (hk : k < 32) : w.cell? ⟨4, k, none⟩ = some (.int .i64 (tAto (k : Int))) := by
  have := hG.ato.2 (k : Int) (by omega) (by omega)
  simpa using this
theorem load_ato (w : World) (hG : G w) : (loadVar 188 ⟨4, 0, none⟩).run Tryz.prog w = .ok (.agg #[.int .i64 (tAto 0), .int .i64 (tAto 1), .int .i64 (tAto 2), .int .i64 (tAto 3), .int .i64 (tAto 4), .int .i64 (tAto 5), .int .i64 (tAto 6), .int .i64 (tAto 7), .int .i64 (tAto 8), .int .i64 (tAto 9), .int .i64 (tAto 10), .int .i64 (tAto 11), .int .i64 (tAto 12), .int .i64 (tAto 13), .int .i64 (tAto 14), .int .i64 (tAto 15), .int .i64 (tAto 16), .int .i64 (tAto 17), .int .i64 (tAto 18), .int .i64 (tAto 19), .int .i64 (tAto 20), .int .i64 (tAto 21), .int .i64 (tAto 22), .int .i64 (tAto 23), .int .i64 (tAto 24), .int .i64 (tAto 25), .int .i64 (tAto 26), .int .i64 (tAto 27), .int .i64 (tAto 28), .int .i64 (tAto 29), .int .i64 (tAto 30), .int .i64 (tAto 31)]) w := by
  have hl := run_loadCells (P := Tryz.prog) w ⟨4, 0, none⟩ 32 (fun j => .int .i64 (tAto (j : Int))) (fun j hj => by
    have hadd : (⟨4, 0, none⟩ : Addr).add j = ⟨4, j, none⟩ := by unfold Addr.add; split <;> simp_all
    rw [hadd]; exact cato w hG j hj)
  have hi : (isAgg 188).run Tryz.prog w = .ok true w := by kernel_rfl
  have hs : (sizeOf 188).run Tryz.prog w = .ok 32 w := by kernel_rfl
  simp only [loadVar, Sem.run_bind, hi, Result.andThen_ok, if_true, hs, hl]
  rfl
theorem loadAt_ato (w : World) (hG : G w) : (Instr.loadAt 188 (.pointer (some ⟨4, 0, none⟩))).run Tryz.prog w = .ok (.agg #[.int .i64 (tAto 0), .int .i64 (tAto 1), .int .i64 (tAto 2), .int .i64 (tAto 3), .int .i64 (tAto 4), .int .i64 (tAto 5), .int .i64 (tAto 6), .int .i64 (tAto 7), .int .i64 (tAto 8), .int .i64 (tAto 9), .int .i64 (tAto 10), .int .i64 (tAto 11), .int .i64 (tAto 12), .int .i64 (tAto 13), .int .i64 (tAto 14), .int .i64 (tAto 15), .int .i64 (tAto 16), .int .i64 (tAto 17), .int .i64 (tAto 18), .int .i64 (tAto 19), .int .i64 (tAto 20), .int .i64 (tAto 21), .int .i64 (tAto 22), .int .i64 (tAto 23), .int .i64 (tAto 24), .int .i64 (tAto 25), .int .i64 (tAto 26), .int .i64 (tAto 27), .int .i64 (tAto 28), .int .i64 (tAto 29), .int .i64 (tAto 30), .int .i64 (tAto 31)]) w := by
  have e : Instr.loadAt 188 (.pointer (some ⟨4, 0, none⟩)) = loadVar 188 ⟨4, 0, none⟩ := rfl
  rw [e]; exact load_ato w hG
theorem wp_ldato {ops : Array Oper} {rest : List Oper} {d : Option Nat} {ty : TypeId} {pos : String} {after : Array Edge} {Q : Exit → Act → World → Prop} {a : Act} {w : World} (hG : G w)
    (hK : wpList Tryz.prog ops Q rest (a.put d (.agg #[.int .i64 (tAto 0), .int .i64 (tAto 1), .int .i64 (tAto 2), .int .i64 (tAto 3), .int .i64 (tAto 4), .int .i64 (tAto 5), .int .i64 (tAto 6), .int .i64 (tAto 7), .int .i64 (tAto 8), .int .i64 (tAto 9), .int .i64 (tAto 10), .int .i64 (tAto 11), .int .i64 (tAto 12), .int .i64 (tAto 13), .int .i64 (tAto 14), .int .i64 (tAto 15), .int .i64 (tAto 16), .int .i64 (tAto 17), .int .i64 (tAto 18), .int .i64 (tAto 19), .int .i64 (tAto 20), .int .i64 (tAto 21), .int .i64 (tAto 22), .int .i64 (tAto 23), .int .i64 (tAto 24), .int .i64 (tAto 25), .int .i64 (tAto 26), .int .i64 (tAto 27), .int .i64 (tAto 28), .int .i64 (tAto 29), .int .i64 (tAto 30), .int .i64 (tAto 31)])) w) :
    wpList Tryz.prog ops Q ({ dst := d, op := Op.load 188 (Operand.global 4), type := ty, pos := pos, after := after, guard := none } :: rest) a w := by
  refine wpList_plain rfl fun K' hK' => ?_
  have hr := loadAt_ato w hG
  have he : a.eval (Operand.global 4) = .pointer (some ⟨4, 0, none⟩) := rfl
  unfold Oper.wp
  simp [execOp, he, hr, Result.andThen]
  exact hK' _ _ hK
set_option maxHeartbeats 2000000 in
theorem m_amo (fn : Int) (w : World) (hG : G w) :
    Calls Tryz.prog 149 #[.int .i64 fn] w fun e w' => e = .returned (.int .u32 (amoF fn)) ∧ w' = w := by
  go_enter Tryz.func149, Tryz.ntmps149
  go_wp2_with (refine wp_ldato hG ?_)
  have hix := ix_ato w
  go_loop [6] (fun t => ∃ k : Nat, k ≤ 32 ∧ t = .int .i64 k ∧ amoF fn = amoL fn k (32 - k)) (fun t => 32 - (intOf t).toNat)
  case atStart => exact ⟨0, by omega, rfl, rfl⟩
  case round =>
    obtain ⟨k, hk, rfl, hN⟩ := hrel
    by_cases hlt : k < 32
    · have hx := hix k hlt
      clear hix
      obtain ⟨m, hm⟩ : ∃ m, 32 - k = m + 1 := ⟨31 - k, by omega⟩
      have HN : Hid (amoF fn = if tAto k = fn then (k : Int) * 134217728 else amoL fn (k + 1) m) := by rw [hN, hm]; rfl
      have hm2 : m = 32 - (k + 1) := by omega
      clear hN
      by_cases h : tAto k = fn
      · go_wp2
        go_ret
        exact ⟨ret_int (by rw [HN.out, if_pos h]), rfl⟩
      · go_wp2
        go_round
        case rel => exact ⟨k + 1, by omega, by go_num, by rw [HN.out, if_neg h, hm2]⟩
        case measure => simp [intOf]; omega
    · have hk2 : k = 32 := by omega
      subst hk2
      have h0 : Hid (amoF fn = 0) := hN
      clear hN hix
      go_wp2
      go_ret
      exact ⟨ret_int h0.out.symm, rfl⟩
end Go.Proofs.YtlfdokkopgmfjaaGreatDoor.B
namespace Go.Proofs.YtlfdokkopgmfjaaGreatDoor.B
open Go.RowKit
set_option linter.unusedVariables false
set_option maxRecDepth 100000
theorem aluBase_rest (i : I) : aluF i = orE (namedF nAlu 51 i) (orE (namedF nAluW 59 i) (orE (namedF nAlu 1073741875 i) (orE (namedF nAluW 1073741883 i) (orE (namedF nAlu 33554483 i) (orE (namedF nAluW 33554491 i) (0)))))) := rfl
set_option maxHeartbeats 2000000 in
theorem m_aluBase (i : I) (w : World) (hG : G w) :
    Calls Tryz.prog 146 #[i.v] w fun e w' => e = .returned (.int .u32 (aluF i)) ∧ Below w.heap.size w w' := by
  have q51 : bits .or .u32 51 0 = 51 := by decide
  have q59 : bits .or .u32 59 0 = 59 := by decide
  have q1073741875 : bits .or .u32 51 1073741824 = 1073741875 := by decide
  have q1073741883 : bits .or .u32 59 1073741824 = 1073741883 := by decide
  have q33554483 : bits .or .u32 51 33554432 = 33554483 := by decide
  have q33554491 : bits .or .u32 59 33554432 = 33554491 := by decide
  have ix0 : ∀ w, (Instr.index 186 (.agg #[.int .u32 0, .int .u32 32, .int .u32 1]) (.int .i64 0)).run Tryz.prog w = .ok (.int .u32 0) w := fun w => by kernel_rfl
  have ix1 : ∀ w, (Instr.index 186 (.agg #[.int .u32 0, .int .u32 32, .int .u32 1]) (.int .i64 1)).run Tryz.prog w = .ok (.int .u32 32) w := fun w => by kernel_rfl
  have ix2 : ∀ w, (Instr.index 186 (.agg #[.int .u32 0, .int .u32 32, .int .u32 1]) (.int .i64 2)).run Tryz.prog w = .ok (.int .u32 1) w := fun w => by kernel_rfl
  rw [aluBase_rest]
  go_enter Tryz.func146, Tryz.ntmps146
  go_wp2
  go_loopw [8] (fun t wr => ∃ k : Nat, k ≤ 3 ∧ t = .int .i64 k ∧ Below (w.heap.size + 1) (w.alloc (Obj.cells #[Value.int IntKind.i64 i.kind, Value.int IntKind.i64 i.fn, Value.int IntKind.i64 i.rd, Value.int IntKind.i64 i.rs1, Value.int IntKind.i64 i.rs2, Value.int IntKind.i64 i.imm, Value.int IntKind.i64 i.size, Value.bool i.sg] 92)) wr ∧ orE (namedF nAlu 51 i) (orE (namedF nAluW 59 i) (orE (namedF nAlu 1073741875 i) (orE (namedF nAluW 1073741883 i) (orE (namedF nAlu 33554483 i) (orE (namedF nAluW 33554491 i) (0)))))) = [orE (namedF nAlu 51 i) (orE (namedF nAluW 59 i) (orE (namedF nAlu 1073741875 i) (orE (namedF nAluW 1073741883 i) (orE (namedF nAlu 33554483 i) (orE (namedF nAluW 33554491 i) (0)))))), orE (namedF nAlu 1073741875 i) (orE (namedF nAluW 1073741883 i) (orE (namedF nAlu 33554483 i) (orE (namedF nAluW 33554491 i) (0)))), orE (namedF nAlu 33554483 i) (orE (namedF nAluW 33554491 i) (0)), 0].getD k 0) (fun t _ => 3 - (intOf t).toNat)
  case atStart => exact ⟨0, by omega, rfl, Below.refl _ _, rfl⟩
  case round =>
    obtain ⟨k, hk, rfl, hB, hN⟩ := hrel
    have hz0 : w.heap.size < wr.heap.size := by have := hB.size; simp at this; omega
    have hGr : G wr := (hG.alloc _).below (hB.mono (by simp))
    have hcw : ∀ o, wr.cell? ⟨w.heap.size, o, none⟩ = #[Value.int IntKind.i64 i.kind, Value.int IntKind.i64 i.fn, Value.int IntKind.i64 i.rd, Value.int IntKind.i64 i.rs1, Value.int IntKind.i64 i.rs2, Value.int IntKind.i64 i.imm, Value.int IntKind.i64 i.size, Value.bool i.sg][o]? := fun o => by
      rw [hB.cell (p := ⟨w.heap.size, o, none⟩) (by simp), World.cell?_alloc_at _ _ _ _ rfl]
    have hBW : Below w.heap.size w wr := (below1 _).trans (hB.mono (by omega))
    match k, hk, hN with
    | 0, hk, hN =>
      have HN : Hid (orE (namedF nAlu 51 i) (orE (namedF nAluW 59 i) (orE (namedF nAlu 1073741875 i) (orE (namedF nAluW 1073741883 i) (orE (namedF nAlu 33554483 i) (orE (namedF nAluW 33554491 i) (0)))))) = orE (namedF nAlu 51 i) (orE (namedF nAluW 59 i) (orE (namedF nAlu 1073741875 i) (orE (namedF nAluW 1073741883 i) (orE (namedF nAlu 33554483 i) (orE (namedF nAluW 33554491 i) (0))))))) := hN
      clear hN
      by_cases h1 : namedF nAlu 51 i = 0
      · by_cases h2 : namedF nAluW 59 i = 0
        · go_wp2_with (first | (go_at_call 142; with_reducible refine (m_named 162 nAlu _ i _ hGr Tryz.call162 (fun a x y => n_alu a x y)).mono ?_; rintro e w1 ⟨rfl, hb⟩; obtain ⟨hc1, hf1⟩ := bcell hb; have hz1 := Nat.lt_of_lt_of_le hz0 hb.size) | (go_at_call 142; with_reducible refine (m_named 164 nAluW _ i _ (hGr.below hb) Tryz.call164 (fun a x y => n_aluW a x y)).mono ?_; rintro e w2 ⟨rfl, hb2⟩; obtain ⟨hc2, hf2⟩ := bcell hb2))
          go_roundw
          case rel => exact ⟨1, by omega, rfl, hB.trans ((belowT hb hb2).mono (by omega)), by first | (rw [HN.out, orE, if_pos h1, orE, if_pos h2]; done) | (rw [HN.out, orE, if_pos h1, orE, if_pos h2]; rfl) | (rw [orE, if_pos h1, orE, if_pos h2]; done) | (rw [orE, if_pos h1, orE, if_pos h2]; rfl)⟩
          case measure => simp [intOf]
        · go_wp2_with (first | (go_at_call 142; with_reducible refine (m_named 162 nAlu _ i _ hGr Tryz.call162 (fun a x y => n_alu a x y)).mono ?_; rintro e w1 ⟨rfl, hb⟩; obtain ⟨hc1, hf1⟩ := bcell hb; have hz1 := Nat.lt_of_lt_of_le hz0 hb.size) | (go_at_call 142; with_reducible refine (m_named 164 nAluW _ i _ (hGr.below hb) Tryz.call164 (fun a x y => n_aluW a x y)).mono ?_; rintro e w2 ⟨rfl, hb2⟩; obtain ⟨hc2, hf2⟩ := bcell hb2))
          go_ret
          exact ⟨ret_int (by first | (rw [HN.out, orE, if_pos h1, orE, if_neg h2]; done) | (rw [HN.out, orE, if_pos h1, orE, if_neg h2]; rfl) | (rw [orE, if_pos h1, orE, if_neg h2]; done) | (rw [orE, if_pos h1, orE, if_neg h2]; rfl)), belowT hBW (belowT hb hb2)⟩
      · go_wp2_with (first | (go_at_call 142; with_reducible refine (m_named 162 nAlu _ i _ hGr Tryz.call162 (fun a x y => n_alu a x y)).mono ?_; rintro e w1 ⟨rfl, hb⟩; obtain ⟨hc1, hf1⟩ := bcell hb; have hz1 := Nat.lt_of_lt_of_le hz0 hb.size) | (go_at_call 142; with_reducible refine (m_named 164 nAluW _ i _ (hGr.below hb) Tryz.call164 (fun a x y => n_aluW a x y)).mono ?_; rintro e w2 ⟨rfl, hb2⟩; obtain ⟨hc2, hf2⟩ := bcell hb2))
        go_ret
        exact ⟨ret_int (by first | (rw [HN.out, orE, if_neg h1]; done) | (rw [HN.out, orE, if_neg h1]; rfl) | (rw [orE, if_neg h1]; done) | (rw [orE, if_neg h1]; rfl)), belowT hBW hb⟩
    | 1, hk, hN =>
      have HN : Hid (orE (namedF nAlu 51 i) (orE (namedF nAluW 59 i) (orE (namedF nAlu 1073741875 i) (orE (namedF nAluW 1073741883 i) (orE (namedF nAlu 33554483 i) (orE (namedF nAluW 33554491 i) (0)))))) = orE (namedF nAlu 1073741875 i) (orE (namedF nAluW 1073741883 i) (orE (namedF nAlu 33554483 i) (orE (namedF nAluW 33554491 i) (0))))) := hN
      clear hN
      by_cases h1 : namedF nAlu 1073741875 i = 0
      · by_cases h2 : namedF nAluW 1073741883 i = 0
        · go_wp2_with (first | (go_at_call 142; with_reducible refine (m_named 162 nAlu _ i _ hGr Tryz.call162 (fun a x y => n_alu a x y)).mono ?_; rintro e w1 ⟨rfl, hb⟩; obtain ⟨hc1, hf1⟩ := bcell hb; have hz1 := Nat.lt_of_lt_of_le hz0 hb.size) | (go_at_call 142; with_reducible refine (m_named 164 nAluW _ i _ (hGr.below hb) Tryz.call164 (fun a x y => n_aluW a x y)).mono ?_; rintro e w2 ⟨rfl, hb2⟩; obtain ⟨hc2, hf2⟩ := bcell hb2))
          go_roundw
          case rel => exact ⟨2, by omega, rfl, hB.trans ((belowT hb hb2).mono (by omega)), by first | (rw [HN.out, orE, if_pos h1, orE, if_pos h2]; done) | (rw [HN.out, orE, if_pos h1, orE, if_pos h2]; rfl) | (rw [orE, if_pos h1, orE, if_pos h2]; done) | (rw [orE, if_pos h1, orE, if_pos h2]; rfl)⟩
          case measure => simp [intOf]
        · go_wp2_with (first | (go_at_call 142; with_reducible refine (m_named 162 nAlu _ i _ hGr Tryz.call162 (fun a x y => n_alu a x y)).mono ?_; rintro e w1 ⟨rfl, hb⟩; obtain ⟨hc1, hf1⟩ := bcell hb; have hz1 := Nat.lt_of_lt_of_le hz0 hb.size) | (go_at_call 142; with_reducible refine (m_named 164 nAluW _ i _ (hGr.below hb) Tryz.call164 (fun a x y => n_aluW a x y)).mono ?_; rintro e w2 ⟨rfl, hb2⟩; obtain ⟨hc2, hf2⟩ := bcell hb2))
          go_ret
          exact ⟨ret_int (by first | (rw [HN.out, orE, if_pos h1, orE, if_neg h2]; done) | (rw [HN.out, orE, if_pos h1, orE, if_neg h2]; rfl) | (rw [orE, if_pos h1, orE, if_neg h2]; done) | (rw [orE, if_pos h1, orE, if_neg h2]; rfl)), belowT hBW (belowT hb hb2)⟩
      · go_wp2_with (first | (go_at_call 142; with_reducible refine (m_named 162 nAlu _ i _ hGr Tryz.call162 (fun a x y => n_alu a x y)).mono ?_; rintro e w1 ⟨rfl, hb⟩; obtain ⟨hc1, hf1⟩ := bcell hb; have hz1 := Nat.lt_of_lt_of_le hz0 hb.size) | (go_at_call 142; with_reducible refine (m_named 164 nAluW _ i _ (hGr.below hb) Tryz.call164 (fun a x y => n_aluW a x y)).mono ?_; rintro e w2 ⟨rfl, hb2⟩; obtain ⟨hc2, hf2⟩ := bcell hb2))
        go_ret
        exact ⟨ret_int (by first | (rw [HN.out, orE, if_neg h1]; done) | (rw [HN.out, orE, if_neg h1]; rfl) | (rw [orE, if_neg h1]; done) | (rw [orE, if_neg h1]; rfl)), belowT hBW hb⟩
    | 2, hk, hN =>
      have HN : Hid (orE (namedF nAlu 51 i) (orE (namedF nAluW 59 i) (orE (namedF nAlu 1073741875 i) (orE (namedF nAluW 1073741883 i) (orE (namedF nAlu 33554483 i) (orE (namedF nAluW 33554491 i) (0)))))) = orE (namedF nAlu 33554483 i) (orE (namedF nAluW 33554491 i) (0))) := hN
      clear hN
      by_cases h1 : namedF nAlu 33554483 i = 0
      · by_cases h2 : namedF nAluW 33554491 i = 0
        · go_wp2_with (first | (go_at_call 142; with_reducible refine (m_named 162 nAlu _ i _ hGr Tryz.call162 (fun a x y => n_alu a x y)).mono ?_; rintro e w1 ⟨rfl, hb⟩; obtain ⟨hc1, hf1⟩ := bcell hb; have hz1 := Nat.lt_of_lt_of_le hz0 hb.size) | (go_at_call 142; with_reducible refine (m_named 164 nAluW _ i _ (hGr.below hb) Tryz.call164 (fun a x y => n_aluW a x y)).mono ?_; rintro e w2 ⟨rfl, hb2⟩; obtain ⟨hc2, hf2⟩ := bcell hb2))
          go_roundw
          case rel => exact ⟨3, by omega, rfl, hB.trans ((belowT hb hb2).mono (by omega)), by first | (rw [HN.out, orE, if_pos h1, orE, if_pos h2]; done) | (rw [HN.out, orE, if_pos h1, orE, if_pos h2]; rfl) | (rw [orE, if_pos h1, orE, if_pos h2]; done) | (rw [orE, if_pos h1, orE, if_pos h2]; rfl)⟩
          case measure => simp [intOf]
        · go_wp2_with (first | (go_at_call 142; with_reducible refine (m_named 162 nAlu _ i _ hGr Tryz.call162 (fun a x y => n_alu a x y)).mono ?_; rintro e w1 ⟨rfl, hb⟩; obtain ⟨hc1, hf1⟩ := bcell hb; have hz1 := Nat.lt_of_lt_of_le hz0 hb.size) | (go_at_call 142; with_reducible refine (m_named 164 nAluW _ i _ (hGr.below hb) Tryz.call164 (fun a x y => n_aluW a x y)).mono ?_; rintro e w2 ⟨rfl, hb2⟩; obtain ⟨hc2, hf2⟩ := bcell hb2))
          go_ret
          exact ⟨ret_int (by first | (rw [HN.out, orE, if_pos h1, orE, if_neg h2]; done) | (rw [HN.out, orE, if_pos h1, orE, if_neg h2]; rfl) | (rw [orE, if_pos h1, orE, if_neg h2]; done) | (rw [orE, if_pos h1, orE, if_neg h2]; rfl)), belowT hBW (belowT hb hb2)⟩
      · go_wp2_with (first | (go_at_call 142; with_reducible refine (m_named 162 nAlu _ i _ hGr Tryz.call162 (fun a x y => n_alu a x y)).mono ?_; rintro e w1 ⟨rfl, hb⟩; obtain ⟨hc1, hf1⟩ := bcell hb; have hz1 := Nat.lt_of_lt_of_le hz0 hb.size) | (go_at_call 142; with_reducible refine (m_named 164 nAluW _ i _ (hGr.below hb) Tryz.call164 (fun a x y => n_aluW a x y)).mono ?_; rintro e w2 ⟨rfl, hb2⟩; obtain ⟨hc2, hf2⟩ := bcell hb2))
        go_ret
        exact ⟨ret_int (by first | (rw [HN.out, orE, if_neg h1]; done) | (rw [HN.out, orE, if_neg h1]; rfl) | (rw [orE, if_neg h1]; done) | (rw [orE, if_neg h1]; rfl)), belowT hBW hb⟩
    | 3, hk, hN =>
      have HN : Hid (orE (namedF nAlu 51 i) (orE (namedF nAluW 59 i) (orE (namedF nAlu 1073741875 i) (orE (namedF nAluW 1073741883 i) (orE (namedF nAlu 33554483 i) (orE (namedF nAluW 33554491 i) (0)))))) = 0) := hN
      clear hN
      go_wp2
      go_ret
      exact ⟨ret_int (by rw [HN.out]), hBW⟩
    | n + 4, hk, hN => exact absurd hk (by omega)
theorem aluImmBase_rest (i : I) : aluImmF i = orE (namedF nImm 19 i) (orE (namedF nImmW 27 i) (orE (namedF nImm 1073741843 i) (orE (namedF nImmW 1073741851 i) (0)))) := rfl
set_option maxHeartbeats 2000000 in
theorem m_aluImmBase (i : I) (w : World) (hG : G w) :
    Calls Tryz.prog 147 #[i.v] w fun e w' => e = .returned (.int .u32 (aluImmF i)) ∧ Below w.heap.size w w' := by
  have q19 : bits .or .u32 19 0 = 19 := by decide
  have q27 : bits .or .u32 27 0 = 27 := by decide
  have q1073741843 : bits .or .u32 19 1073741824 = 1073741843 := by decide
  have q1073741851 : bits .or .u32 27 1073741824 = 1073741851 := by decide
  have ix0 : ∀ w, (Instr.index 187 (.agg #[.int .u32 0, .int .u32 32]) (.int .i64 0)).run Tryz.prog w = .ok (.int .u32 0) w := fun w => by kernel_rfl
  have ix1 : ∀ w, (Instr.index 187 (.agg #[.int .u32 0, .int .u32 32]) (.int .i64 1)).run Tryz.prog w = .ok (.int .u32 32) w := fun w => by kernel_rfl
  rw [aluImmBase_rest]
  go_enter Tryz.func147, Tryz.ntmps147
  go_wp2
  go_loopw [8] (fun t wr => ∃ k : Nat, k ≤ 2 ∧ t = .int .i64 k ∧ Below (w.heap.size + 1) (w.alloc (Obj.cells #[Value.int IntKind.i64 i.kind, Value.int IntKind.i64 i.fn, Value.int IntKind.i64 i.rd, Value.int IntKind.i64 i.rs1, Value.int IntKind.i64 i.rs2, Value.int IntKind.i64 i.imm, Value.int IntKind.i64 i.size, Value.bool i.sg] 92)) wr ∧ orE (namedF nImm 19 i) (orE (namedF nImmW 27 i) (orE (namedF nImm 1073741843 i) (orE (namedF nImmW 1073741851 i) (0)))) = [orE (namedF nImm 19 i) (orE (namedF nImmW 27 i) (orE (namedF nImm 1073741843 i) (orE (namedF nImmW 1073741851 i) (0)))), orE (namedF nImm 1073741843 i) (orE (namedF nImmW 1073741851 i) (0)), 0].getD k 0) (fun t _ => 2 - (intOf t).toNat)
  case atStart => exact ⟨0, by omega, rfl, Below.refl _ _, rfl⟩
  case round =>
    obtain ⟨k, hk, rfl, hB, hN⟩ := hrel
    have hz0 : w.heap.size < wr.heap.size := by have := hB.size; simp at this; omega
    have hGr : G wr := (hG.alloc _).below (hB.mono (by simp))
    have hcw : ∀ o, wr.cell? ⟨w.heap.size, o, none⟩ = #[Value.int IntKind.i64 i.kind, Value.int IntKind.i64 i.fn, Value.int IntKind.i64 i.rd, Value.int IntKind.i64 i.rs1, Value.int IntKind.i64 i.rs2, Value.int IntKind.i64 i.imm, Value.int IntKind.i64 i.size, Value.bool i.sg][o]? := fun o => by
      rw [hB.cell (p := ⟨w.heap.size, o, none⟩) (by simp), World.cell?_alloc_at _ _ _ _ rfl]
    have hBW : Below w.heap.size w wr := (below1 _).trans (hB.mono (by omega))
    match k, hk, hN with
    | 0, hk, hN =>
      have HN : Hid (orE (namedF nImm 19 i) (orE (namedF nImmW 27 i) (orE (namedF nImm 1073741843 i) (orE (namedF nImmW 1073741851 i) (0)))) = orE (namedF nImm 19 i) (orE (namedF nImmW 27 i) (orE (namedF nImm 1073741843 i) (orE (namedF nImmW 1073741851 i) (0))))) := hN
      clear hN
      by_cases h1 : namedF nImm 19 i = 0
      · by_cases h2 : namedF nImmW 27 i = 0
        · go_wp2_with (first | (go_at_call 142; with_reducible refine (m_named 157 nImm _ i _ hGr Tryz.call157 (fun a x y => n_aluImm a x y)).mono ?_; rintro e w1 ⟨rfl, hb⟩; obtain ⟨hc1, hf1⟩ := bcell hb; have hz1 := Nat.lt_of_lt_of_le hz0 hb.size) | (go_at_call 142; with_reducible refine (m_named 160 nImmW _ i _ (hGr.below hb) Tryz.call160 (fun a x y => n_aluImmW a x y)).mono ?_; rintro e w2 ⟨rfl, hb2⟩; obtain ⟨hc2, hf2⟩ := bcell hb2))
          go_roundw
          case rel => exact ⟨1, by omega, rfl, hB.trans ((belowT hb hb2).mono (by omega)), by first | (rw [HN.out, orE, if_pos h1, orE, if_pos h2]; done) | (rw [HN.out, orE, if_pos h1, orE, if_pos h2]; rfl) | (rw [orE, if_pos h1, orE, if_pos h2]; done) | (rw [orE, if_pos h1, orE, if_pos h2]; rfl)⟩
          case measure => simp [intOf]
        · go_wp2_with (first | (go_at_call 142; with_reducible refine (m_named 157 nImm _ i _ hGr Tryz.call157 (fun a x y => n_aluImm a x y)).mono ?_; rintro e w1 ⟨rfl, hb⟩; obtain ⟨hc1, hf1⟩ := bcell hb; have hz1 := Nat.lt_of_lt_of_le hz0 hb.size) | (go_at_call 142; with_reducible refine (m_named 160 nImmW _ i _ (hGr.below hb) Tryz.call160 (fun a x y => n_aluImmW a x y)).mono ?_; rintro e w2 ⟨rfl, hb2⟩; obtain ⟨hc2, hf2⟩ := bcell hb2))
          go_ret
          exact ⟨ret_int (by first | (rw [HN.out, orE, if_pos h1, orE, if_neg h2]; done) | (rw [HN.out, orE, if_pos h1, orE, if_neg h2]; rfl) | (rw [orE, if_pos h1, orE, if_neg h2]; done) | (rw [orE, if_pos h1, orE, if_neg h2]; rfl)), belowT hBW (belowT hb hb2)⟩
      · go_wp2_with (first | (go_at_call 142; with_reducible refine (m_named 157 nImm _ i _ hGr Tryz.call157 (fun a x y => n_aluImm a x y)).mono ?_; rintro e w1 ⟨rfl, hb⟩; obtain ⟨hc1, hf1⟩ := bcell hb; have hz1 := Nat.lt_of_lt_of_le hz0 hb.size) | (go_at_call 142; with_reducible refine (m_named 160 nImmW _ i _ (hGr.below hb) Tryz.call160 (fun a x y => n_aluImmW a x y)).mono ?_; rintro e w2 ⟨rfl, hb2⟩; obtain ⟨hc2, hf2⟩ := bcell hb2))
        go_ret
        exact ⟨ret_int (by first | (rw [HN.out, orE, if_neg h1]; done) | (rw [HN.out, orE, if_neg h1]; rfl) | (rw [orE, if_neg h1]; done) | (rw [orE, if_neg h1]; rfl)), belowT hBW hb⟩
    | 1, hk, hN =>
      have HN : Hid (orE (namedF nImm 19 i) (orE (namedF nImmW 27 i) (orE (namedF nImm 1073741843 i) (orE (namedF nImmW 1073741851 i) (0)))) = orE (namedF nImm 1073741843 i) (orE (namedF nImmW 1073741851 i) (0))) := hN
      clear hN
      by_cases h1 : namedF nImm 1073741843 i = 0
      · by_cases h2 : namedF nImmW 1073741851 i = 0
        · go_wp2_with (first | (go_at_call 142; with_reducible refine (m_named 157 nImm _ i _ hGr Tryz.call157 (fun a x y => n_aluImm a x y)).mono ?_; rintro e w1 ⟨rfl, hb⟩; obtain ⟨hc1, hf1⟩ := bcell hb; have hz1 := Nat.lt_of_lt_of_le hz0 hb.size) | (go_at_call 142; with_reducible refine (m_named 160 nImmW _ i _ (hGr.below hb) Tryz.call160 (fun a x y => n_aluImmW a x y)).mono ?_; rintro e w2 ⟨rfl, hb2⟩; obtain ⟨hc2, hf2⟩ := bcell hb2))
          go_roundw
          case rel => exact ⟨2, by omega, rfl, hB.trans ((belowT hb hb2).mono (by omega)), by first | (rw [HN.out, orE, if_pos h1, orE, if_pos h2]; done) | (rw [HN.out, orE, if_pos h1, orE, if_pos h2]; rfl) | (rw [orE, if_pos h1, orE, if_pos h2]; done) | (rw [orE, if_pos h1, orE, if_pos h2]; rfl)⟩
          case measure => simp [intOf]
        · go_wp2_with (first | (go_at_call 142; with_reducible refine (m_named 157 nImm _ i _ hGr Tryz.call157 (fun a x y => n_aluImm a x y)).mono ?_; rintro e w1 ⟨rfl, hb⟩; obtain ⟨hc1, hf1⟩ := bcell hb; have hz1 := Nat.lt_of_lt_of_le hz0 hb.size) | (go_at_call 142; with_reducible refine (m_named 160 nImmW _ i _ (hGr.below hb) Tryz.call160 (fun a x y => n_aluImmW a x y)).mono ?_; rintro e w2 ⟨rfl, hb2⟩; obtain ⟨hc2, hf2⟩ := bcell hb2))
          go_ret
          exact ⟨ret_int (by first | (rw [HN.out, orE, if_pos h1, orE, if_neg h2]; done) | (rw [HN.out, orE, if_pos h1, orE, if_neg h2]; rfl) | (rw [orE, if_pos h1, orE, if_neg h2]; done) | (rw [orE, if_pos h1, orE, if_neg h2]; rfl)), belowT hBW (belowT hb hb2)⟩
      · go_wp2_with (first | (go_at_call 142; with_reducible refine (m_named 157 nImm _ i _ hGr Tryz.call157 (fun a x y => n_aluImm a x y)).mono ?_; rintro e w1 ⟨rfl, hb⟩; obtain ⟨hc1, hf1⟩ := bcell hb; have hz1 := Nat.lt_of_lt_of_le hz0 hb.size) | (go_at_call 142; with_reducible refine (m_named 160 nImmW _ i _ (hGr.below hb) Tryz.call160 (fun a x y => n_aluImmW a x y)).mono ?_; rintro e w2 ⟨rfl, hb2⟩; obtain ⟨hc2, hf2⟩ := bcell hb2))
        go_ret
        exact ⟨ret_int (by first | (rw [HN.out, orE, if_neg h1]; done) | (rw [HN.out, orE, if_neg h1]; rfl) | (rw [orE, if_neg h1]; done) | (rw [orE, if_neg h1]; rfl)), belowT hBW hb⟩
    | 2, hk, hN =>
      have HN : Hid (orE (namedF nImm 19 i) (orE (namedF nImmW 27 i) (orE (namedF nImm 1073741843 i) (orE (namedF nImmW 1073741851 i) (0)))) = 0) := hN
      clear hN
      go_wp2
      go_ret
      exact ⟨ret_int (by rw [HN.out]), hBW⟩
    | n + 3, hk, hN => exact absurd hk (by omega)
end Go.Proofs.YtlfdokkopgmfjaaGreatDoor.B
namespace Go.Proofs.YtlfdokkopgmfjaaGreatDoor.B
open Go.RowKit
set_option linter.unusedVariables false
set_option maxRecDepth 100000
theorem systemBase_10 (fn rd r1 r2 im sz : Int) (sg : Bool) (w : World) (hG : G w) : Calls Tryz.prog 150 #[I.v ⟨10, fn, rd, r1, r2, im, sz, sg⟩] w fun e w' => e = .returned (.int .u32 15) ∧ Below w.heap.size w w' := by
  go_enter Tryz.func150, Tryz.ntmps150
  go_wp2
  go_ret
  exact ⟨rfl, below1 _⟩
theorem systemBase_11 (fn rd r1 r2 im sz : Int) (sg : Bool) (w : World) (hG : G w) : Calls Tryz.prog 150 #[I.v ⟨11, fn, rd, r1, r2, im, sz, sg⟩] w fun e w' => e = .returned (.int .u32 115) ∧ Below w.heap.size w w' := by
  go_enter Tryz.func150, Tryz.ntmps150
  go_wp2
  go_ret
  exact ⟨rfl, below1 _⟩
theorem systemBase_12 (fn rd r1 r2 im sz : Int) (sg : Bool) (w : World) (hG : G w) : Calls Tryz.prog 150 #[I.v ⟨12, fn, rd, r1, r2, im, sz, sg⟩] w fun e w' => e = .returned (.int .u32 1048691) ∧ Below w.heap.size w w' := by
  go_enter Tryz.func150, Tryz.ntmps150
  go_wp2
  go_ret
  exact ⟨rfl, below1 _⟩
theorem systemBase_18 (fn rd r1 r2 im sz : Int) (sg : Bool) (w : World) (hG : G w) : Calls Tryz.prog 150 #[I.v ⟨18, fn, rd, r1, r2, im, sz, sg⟩] w fun e w' => e = .returned (.int .u32 270532723) ∧ Below w.heap.size w w' := by
  go_enter Tryz.func150, Tryz.ntmps150
  go_wp2
  go_ret
  exact ⟨rfl, below1 _⟩
theorem systemBase_19 (fn rd r1 r2 im sz : Int) (sg : Bool) (w : World) (hG : G w) : Calls Tryz.prog 150 #[I.v ⟨19, fn, rd, r1, r2, im, sz, sg⟩] w fun e w' => e = .returned (.int .u32 273678451) ∧ Below w.heap.size w w' := by
  go_enter Tryz.func150, Tryz.ntmps150
  go_wp2
  go_ret
  exact ⟨rfl, below1 _⟩
theorem systemBase_20 (fn rd r1 r2 im sz : Int) (sg : Bool) (w : World) (hG : G w) : Calls Tryz.prog 150 #[I.v ⟨20, fn, rd, r1, r2, im, sz, sg⟩] w fun e w' => e = .returned (.int .u32 301990003) ∧ Below w.heap.size w w' := by
  go_enter Tryz.func150, Tryz.ntmps150
  go_wp2
  go_ret
  exact ⟨rfl, below1 _⟩
theorem systemBase_13 (fn rd r1 r2 im sz : Int) (sg : Bool) (w : World) (hG : G w) : Calls Tryz.prog 150 #[I.v ⟨13, fn, rd, r1, r2, im, sz, sg⟩] w fun e w' => e = .returned (.int .u32 (namedF nSys 115 ⟨13, fn, rd, r1, r2, im, sz, sg⟩)) ∧ Below w.heap.size w w' := by
  go_enter Tryz.func150, Tryz.ntmps150
  go_wp2_with (go_at_call 142; with_reducible refine (m_named 165 nSys _ ⟨13, fn, rd, r1, r2, im, sz, sg⟩ _ (hG.alloc _) Tryz.call165 (fun a x y => n_system a x y)).mono ?_; rintro e w1 ⟨rfl, hb⟩)
  go_ret
  exact ⟨rfl, belowA hb⟩
theorem systemBase_14 (fn rd r1 r2 im sz : Int) (sg : Bool) (w : World) (hG : G w) : Calls Tryz.prog 150 #[I.v ⟨14, fn, rd, r1, r2, im, sz, sg⟩] w fun e w' => e = .returned (.int .u32 (namedF nSys 115 ⟨14, fn, rd, r1, r2, im, sz, sg⟩)) ∧ Below w.heap.size w w' := by
  go_enter Tryz.func150, Tryz.ntmps150
  go_wp2_with (go_at_call 142; with_reducible refine (m_named 165 nSys _ ⟨14, fn, rd, r1, r2, im, sz, sg⟩ _ (hG.alloc _) Tryz.call165 (fun a x y => n_system a x y)).mono ?_; rintro e w1 ⟨rfl, hb⟩)
  go_ret
  exact ⟨rfl, belowA hb⟩
theorem systemBase_else (k : Int) (fn rd r1 r2 im sz : Int) (sg : Bool) (w : World) (hG : G w) (h10 : k ≠ 10) (h11 : k ≠ 11) (h12 : k ≠ 12) (h18 : k ≠ 18) (h19 : k ≠ 19) (h20 : k ≠ 20) (h13 : k ≠ 13) (h14 : k ≠ 14) : Calls Tryz.prog 150 #[I.v ⟨k, fn, rd, r1, r2, im, sz, sg⟩] w fun e w' => e = .returned (.int .u32 0) ∧ Below w.heap.size w w' := by
  go_enter Tryz.func150, Tryz.ntmps150
  go_wp2
  go_ret
  exact ⟨rfl, below1 _⟩
theorem m_systemBase (i : I) (w : World) (hG : G w) : Calls Tryz.prog 150 #[i.v] w fun e w' => e = .returned (.int .u32 (sysF i)) ∧ Below w.heap.size w w' := by
  obtain ⟨k, fn, rd, r1, r2, im, sz, sg⟩ := i
  unfold sysF
  by_cases h10 : k = 10
  · subst h10; exact systemBase_10 fn rd r1 r2 im sz sg w hG
  simp only [if_neg h10]
  by_cases h11 : k = 11
  · subst h11; exact systemBase_11 fn rd r1 r2 im sz sg w hG
  simp only [if_neg h11]
  by_cases h12 : k = 12
  · subst h12; exact systemBase_12 fn rd r1 r2 im sz sg w hG
  simp only [if_neg h12]
  by_cases h18 : k = 18
  · subst h18; exact systemBase_18 fn rd r1 r2 im sz sg w hG
  simp only [if_neg h18]
  by_cases h19 : k = 19
  · subst h19; exact systemBase_19 fn rd r1 r2 im sz sg w hG
  simp only [if_neg h19]
  by_cases h20 : k = 20
  · subst h20; exact systemBase_20 fn rd r1 r2 im sz sg w hG
  simp only [if_neg h20]
  by_cases h13 : k = 13
  · subst h13; exact systemBase_13 fn rd r1 r2 im sz sg w hG
  by_cases h14 : k = 14
  · subst h14; exact systemBase_14 fn rd r1 r2 im sz sg w hG
  simp only [h13, h14, or_self, if_false]
  exact systemBase_else k fn rd r1 r2 im sz sg w hG h10 h11 h12 h18 h19 h20 h13 h14
theorem base_1 (fn rd r1 r2 im sz : Int) (sg : Bool) (w : World) (hG : G w) : Calls Tryz.prog 96 #[I.v ⟨1, fn, rd, r1, r2, im, sz, sg⟩] w fun e w' => e = .returned (.int .u32 55) ∧ Below w.heap.size w w' := by
  go_enter Tryz.func96, Tryz.ntmps96
  go_wp2
  go_ret
  exact ⟨rfl, below1 _⟩
theorem base_2 (fn rd r1 r2 im sz : Int) (sg : Bool) (w : World) (hG : G w) : Calls Tryz.prog 96 #[I.v ⟨2, fn, rd, r1, r2, im, sz, sg⟩] w fun e w' => e = .returned (.int .u32 23) ∧ Below w.heap.size w w' := by
  go_enter Tryz.func96, Tryz.ntmps96
  go_wp2
  go_ret
  exact ⟨rfl, below1 _⟩
theorem base_3 (fn rd r1 r2 im sz : Int) (sg : Bool) (w : World) (hG : G w) : Calls Tryz.prog 96 #[I.v ⟨3, fn, rd, r1, r2, im, sz, sg⟩] w fun e w' => e = .returned (.int .u32 111) ∧ Below w.heap.size w w' := by
  go_enter Tryz.func96, Tryz.ntmps96
  go_wp2
  go_ret
  exact ⟨rfl, below1 _⟩
theorem base_4 (fn rd r1 r2 im sz : Int) (sg : Bool) (w : World) (hG : G w) : Calls Tryz.prog 96 #[I.v ⟨4, fn, rd, r1, r2, im, sz, sg⟩] w fun e w' => e = .returned (.int .u32 103) ∧ Below w.heap.size w w' := by
  go_enter Tryz.func96, Tryz.ntmps96
  go_wp2
  go_ret
  exact ⟨rfl, below1 _⟩
theorem base_5 (fn rd r1 r2 im sz : Int) (sg : Bool) (w : World) (hG : G w) : Calls Tryz.prog 96 #[I.v ⟨5, fn, rd, r1, r2, im, sz, sg⟩] w fun e w' => e = .returned (.int .u32 (namedF nBranch 99 ⟨5, fn, rd, r1, r2, im, sz, sg⟩)) ∧ Below w.heap.size w w' := by
  go_enter Tryz.func96, Tryz.ntmps96
  go_wp2_with (go_at_call 142; with_reducible refine (m_named 143 nBranch _ ⟨5, fn, rd, r1, r2, im, sz, sg⟩ _ (hG.alloc _) Tryz.call143 (fun a x y => n_branch a x y)).mono ?_; rintro e w1 ⟨rfl, hb⟩)
  go_ret
  exact ⟨rfl, belowA hb⟩
theorem base_6 (fn rd r1 r2 im sz : Int) (sg : Bool) (w : World) (hG : G w) : Calls Tryz.prog 96 #[I.v ⟨6, fn, rd, r1, r2, im, sz, sg⟩] w fun e w' => e = .returned (.int .u32 (namedF nLoad 3 ⟨6, fn, rd, r1, r2, im, sz, sg⟩)) ∧ Below w.heap.size w w' := by
  go_enter Tryz.func96, Tryz.ntmps96
  go_wp2_with (go_at_call 142; with_reducible refine (m_named 144 nLoad _ ⟨6, fn, rd, r1, r2, im, sz, sg⟩ _ (hG.alloc _) Tryz.call144 (fun a x y => n_load a x y)).mono ?_; rintro e w1 ⟨rfl, hb⟩)
  go_ret
  exact ⟨rfl, belowA hb⟩
theorem base_7 (fn rd r1 r2 im sz : Int) (sg : Bool) (w : World) (hG : G w) : Calls Tryz.prog 96 #[I.v ⟨7, fn, rd, r1, r2, im, sz, sg⟩] w fun e w' => e = .returned (.int .u32 (namedF nStore 35 ⟨7, fn, rd, r1, r2, im, sz, sg⟩)) ∧ Below w.heap.size w w' := by
  go_enter Tryz.func96, Tryz.ntmps96
  go_wp2_with (go_at_call 142; with_reducible refine (m_named 145 nStore _ ⟨7, fn, rd, r1, r2, im, sz, sg⟩ _ (hG.alloc _) Tryz.call145 (fun a x y => n_store a x y)).mono ?_; rintro e w1 ⟨rfl, hb⟩)
  go_ret
  exact ⟨rfl, belowA hb⟩
theorem base_8 (fn rd r1 r2 im sz : Int) (sg : Bool) (w : World) (hG : G w) : Calls Tryz.prog 96 #[I.v ⟨8, fn, rd, r1, r2, im, sz, sg⟩] w fun e w' => e = .returned (.int .u32 (aluF ⟨8, fn, rd, r1, r2, im, sz, sg⟩)) ∧ Below w.heap.size w w' := by
  go_enter Tryz.func96, Tryz.ntmps96
  go_wp2_with (go_at_call 146; with_reducible refine (m_aluBase ⟨8, fn, rd, r1, r2, im, sz, sg⟩ _ (hG.alloc _)).mono ?_; rintro e w1 ⟨rfl, hb⟩)
  go_ret
  exact ⟨rfl, belowA hb⟩
theorem base_9 (fn rd r1 r2 im sz : Int) (sg : Bool) (w : World) (hG : G w) : Calls Tryz.prog 96 #[I.v ⟨9, fn, rd, r1, r2, im, sz, sg⟩] w fun e w' => e = .returned (.int .u32 (aluImmF ⟨9, fn, rd, r1, r2, im, sz, sg⟩)) ∧ Below w.heap.size w w' := by
  go_enter Tryz.func96, Tryz.ntmps96
  go_wp2_with (go_at_call 147; with_reducible refine (m_aluImmBase ⟨9, fn, rd, r1, r2, im, sz, sg⟩ _ (hG.alloc _)).mono ?_; rintro e w1 ⟨rfl, hb⟩)
  go_ret
  exact ⟨rfl, belowA hb⟩
theorem base_15 (fn rd r1 r2 im sz : Int) (sg : Bool) (w : World) (hG : G w) : Calls Tryz.prog 96 #[I.v ⟨15, fn, rd, r1, r2, im, sz, sg⟩] w fun e w' => e = .returned (.int .u32 (namedF nAto 268435503 ⟨15, fn, rd, r1, r2, im, sz, sg⟩)) ∧ Below w.heap.size w w' := by
  go_enter Tryz.func96, Tryz.ntmps96
  go_wp2_with (go_at_call 142; with_reducible refine (m_named 148 nAto _ ⟨15, fn, rd, r1, r2, im, sz, sg⟩ _ (hG.alloc _) Tryz.call148 (fun a x y => n_atomic a x y)).mono ?_; rintro e w1 ⟨rfl, hb⟩)
  go_ret
  exact ⟨rfl, belowA hb⟩
theorem base_16 (fn rd r1 r2 im sz : Int) (sg : Bool) (w : World) (hG : G w) : Calls Tryz.prog 96 #[I.v ⟨16, fn, rd, r1, r2, im, sz, sg⟩] w fun e w' => e = .returned (.int .u32 (namedF nAto 402653231 ⟨16, fn, rd, r1, r2, im, sz, sg⟩)) ∧ Below w.heap.size w w' := by
  go_enter Tryz.func96, Tryz.ntmps96
  go_wp2_with (go_at_call 142; with_reducible refine (m_named 148 nAto _ ⟨16, fn, rd, r1, r2, im, sz, sg⟩ _ (hG.alloc _) Tryz.call148 (fun a x y => n_atomic a x y)).mono ?_; rintro e w1 ⟨rfl, hb⟩)
  go_ret
  exact ⟨rfl, belowA hb⟩
set_option maxHeartbeats 1000000 in
theorem base_17 (fn rd r1 r2 im sz : Int) (sg : Bool) (w : World) (hG : G w) : Calls Tryz.prog 96 #[I.v ⟨17, fn, rd, r1, r2, im, sz, sg⟩] w fun e w' => e = .returned (.int .u32 (namedF nAto (bits .or .u32 47 (amoF fn)) ⟨17, fn, rd, r1, r2, im, sz, sg⟩)) ∧ Below w.heap.size w w' := by
  have hGd : ∀ o, G (w.alloc o).drew := fun o => (hG.alloc o).below (Below.refl _ _).drew
  go_enter Tryz.func96, Tryz.ntmps96
  go_wp2
  go_region_with (first | (go_at_call 149; with_reducible refine (m_amo _ _ (hGd _)).mono ?_; rintro e w' ⟨rfl, rfl⟩) | (go_at_call 142; with_reducible refine (m_named 148 nAto _ ⟨17, fn, rd, r1, r2, im, sz, sg⟩ _ (hGd _) Tryz.call148 (fun a x y => n_atomic a x y)).mono ?_; rintro e w1 ⟨rfl, hb⟩))
  all_goals
    go_wp2
    go_ret
    exact ⟨rfl, belowT ((below1 _).drew) hb⟩
theorem base_else (k : Int) (fn rd r1 r2 im sz : Int) (sg : Bool) (w : World) (hG : G w) (h1 : k ≠ 1) (h2 : k ≠ 2) (h3 : k ≠ 3) (h4 : k ≠ 4) (h5 : k ≠ 5) (h6 : k ≠ 6) (h7 : k ≠ 7) (h8 : k ≠ 8) (h9 : k ≠ 9) (h15 : k ≠ 15) (h16 : k ≠ 16) (h17 : k ≠ 17) : Calls Tryz.prog 96 #[I.v ⟨k, fn, rd, r1, r2, im, sz, sg⟩] w fun e w' => e = .returned (.int .u32 (sysF ⟨k, fn, rd, r1, r2, im, sz, sg⟩)) ∧ Below w.heap.size w w' := by
  go_enter Tryz.func96, Tryz.ntmps96
  go_wp2_with (go_at_call 150; with_reducible refine (m_systemBase ⟨k, fn, rd, r1, r2, im, sz, sg⟩ _ (hG.alloc _)).mono ?_; rintro e w1 ⟨rfl, hb⟩)
  go_ret
  exact ⟨rfl, belowA hb⟩
theorem m_base (i : I) (w : World) (hG : G w) : Calls Tryz.prog 96 #[i.v] w fun e w' => e = .returned (.int .u32 (baseF i)) ∧ Below w.heap.size w w' := by
  obtain ⟨k, fn, rd, r1, r2, im, sz, sg⟩ := i
  unfold baseF
  by_cases h1 : k = 1
  · subst h1; exact base_1 fn rd r1 r2 im sz sg w hG
  simp only [if_neg h1]
  by_cases h2 : k = 2
  · subst h2; exact base_2 fn rd r1 r2 im sz sg w hG
  simp only [if_neg h2]
  by_cases h3 : k = 3
  · subst h3; exact base_3 fn rd r1 r2 im sz sg w hG
  simp only [if_neg h3]
  by_cases h4 : k = 4
  · subst h4; exact base_4 fn rd r1 r2 im sz sg w hG
  simp only [if_neg h4]
  by_cases h5 : k = 5
  · subst h5; exact base_5 fn rd r1 r2 im sz sg w hG
  simp only [if_neg h5]
  by_cases h6 : k = 6
  · subst h6; exact base_6 fn rd r1 r2 im sz sg w hG
  simp only [if_neg h6]
  by_cases h7 : k = 7
  · subst h7; exact base_7 fn rd r1 r2 im sz sg w hG
  simp only [if_neg h7]
  by_cases h8 : k = 8
  · subst h8; exact base_8 fn rd r1 r2 im sz sg w hG
  simp only [if_neg h8]
  by_cases h9 : k = 9
  · subst h9; exact base_9 fn rd r1 r2 im sz sg w hG
  simp only [if_neg h9]
  by_cases h15 : k = 15
  · subst h15; exact base_15 fn rd r1 r2 im sz sg w hG
  simp only [if_neg h15]
  by_cases h16 : k = 16
  · subst h16; exact base_16 fn rd r1 r2 im sz sg w hG
  simp only [if_neg h16]
  by_cases h17 : k = 17
  · subst h17; exact base_17 fn rd r1 r2 im sz sg w hG
  simp only [if_neg h17]
  exact base_else k fn rd r1 r2 im sz sg w hG h1 h2 h3 h4 h5 h6 h7 h8 h9 h15 h16 h17
end Go.Proofs.YtlfdokkopgmfjaaGreatDoor.B
namespace Go.Proofs.YtlfdokkopgmfjaaGreatDoor.B
open Go.RowKit
set_option linter.unusedVariables false
set_option maxRecDepth 100000
def svd : Bool → Value → Value → Value
  | true, v, _ => v
  | false, _, u => u
theorem reg_b (n : Int) : 0 ≤ reg n ∧ reg n < 32 := by unfold reg; omega
set_option maxHeartbeats 2000000 in
theorem m_draft (i : I) (w : World) (hG : G w) :
    Calls Tryz.prog 77 #[i.v] w fun e w' => e = .returned (.int .u32 (draftF i)) ∧ Below w.heap.size w w' := by
  have s1 : reg i.rd * 128 % 4294967296 = reg i.rd * 128 := by have := reg_b i.rd; omega
  have s2 : reg i.rs1 * 32768 % 4294967296 = reg i.rs1 * 32768 := by have := reg_b i.rs1; omega
  have s3 : reg i.rs2 * 1048576 % 4294967296 = reg i.rs2 * 1048576 := by have := reg_b i.rs2; omega
  have s1' : IntKind.u32.wrap (reg i.rd * 128) = reg i.rd * 128 := by rw [IntKind.wrap_u32']; exact s1
  have s2' : IntKind.u32.wrap (reg i.rs1 * 32768) = reg i.rs1 * 32768 := by rw [IntKind.wrap_u32']; exact s2
  have s3' : IntKind.u32.wrap (reg i.rs2 * 1048576) = reg i.rs2 * 1048576 := by rw [IntKind.wrap_u32']; exact s3
  have hdr : bits .or .u32 (bits .or .u32 (bits .or .u32 (bits .or .u32 (baseF i) (reg i.rd * 128)) (reg i.rs1 * 32768)) (reg i.rs2 * 1048576)) (imm i.kind i.imm) = draftF i := rfl
  go_enter Tryz.func77, Tryz.ntmps77
  go_wp2
  refine wp_region_any (by kernel_rfl) ?_
  refine wpAny_inv (fun listed fr wr => ∃ b0 b1 b2 b3 b4 b5 b6 b7 b8 b9 b10 b11 b12 b13 b14 b15 b16 b17 b18 b19 b20 b21 b22 b23 : Bool, listed = #[b0, b1, b2, b3, b4, b5, b6, b7, b8, b9, b10, b11, b12, b13, b14, b15, b16, b17, b18, b19, b20, b21, b22, b23] ∧ fr = ⟨List.toArray (i.v :: Value.pointer (some ⟨w.heap.size, 0, none⟩) :: svd b23 (Value.int IntKind.u32 (draftF i)) (Value.int IntKind.u32 0) :: sv b0 (i.v) :: sv b1 (Value.int IntKind.u32 (baseF i)) :: sv b2 (Value.pointer (some ⟨w.heap.size, 2, none⟩)) :: sv b3 (Value.int IntKind.i64 (i.rd)) :: sv b4 (Value.int IntKind.u32 (reg i.rd)) :: sv b5 (Value.int IntKind.u32 (reg i.rd * 128)) :: sv b6 (Value.int IntKind.u32 (bits .or .u32 (baseF i) (reg i.rd * 128))) :: sv b7 (Value.pointer (some ⟨w.heap.size, 3, none⟩)) :: sv b8 (Value.int IntKind.i64 (i.rs1)) :: sv b9 (Value.int IntKind.u32 (reg i.rs1)) :: sv b10 (Value.int IntKind.u32 (reg i.rs1 * 32768)) :: sv b11 (Value.int IntKind.u32 (bits .or .u32 (bits .or .u32 (baseF i) (reg i.rd * 128)) (reg i.rs1 * 32768))) :: sv b12 (Value.pointer (some ⟨w.heap.size, 4, none⟩)) :: sv b13 (Value.int IntKind.i64 (i.rs2)) :: sv b14 (Value.int IntKind.u32 (reg i.rs2)) :: sv b15 (Value.int IntKind.u32 (reg i.rs2 * 1048576)) :: sv b16 (Value.int IntKind.u32 (bits .or .u32 (bits .or .u32 (bits .or .u32 (baseF i) (reg i.rd * 128)) (reg i.rs1 * 32768)) (reg i.rs2 * 1048576))) :: sv b17 (Value.pointer (some ⟨w.heap.size, 0, none⟩)) :: sv b18 (Value.int IntKind.i64 (i.kind)) :: sv b19 (Value.pointer (some ⟨w.heap.size, 5, none⟩)) :: sv b20 (Value.int IntKind.i64 (i.imm)) :: sv b21 (Value.int IntKind.u32 (imm i.kind i.imm)) :: sv b22 (Value.int IntKind.u32 (draftF i)) :: []), []⟩ ∧ Below (w.heap.size + 1) ((w.alloc (Obj.cells #[Value.int IntKind.i64 i.kind, Value.int IntKind.i64 i.fn, Value.int IntKind.i64 i.rd, Value.int IntKind.i64 i.rs1, Value.int IntKind.i64 i.rs2, Value.int IntKind.i64 i.imm, Value.int IntKind.i64 i.size, Value.bool i.sg] 92)).drew) wr) ?step ?fin _ _ _ _ (by simp) ?start
  case start => exact ⟨false, false, false, false, false, false, false, false, false, false, false, false, false, false, false, false, false, false, false, false, false, false, false, false, rfl, rfl, Below.refl _ _⟩
  case fin =>
    rintro listed fr wr ⟨b0, b1, b2, b3, b4, b5, b6, b7, b8, b9, b10, b11, b12, b13, b14, b15, b16, b17, b18, b19, b20, b21, b22, b23, rfl, rfl, hB⟩ hr
    obtain rfl : b0 = true := by
      cases b0 with
      | true => rfl
      | false => exact (ready_no hr (j := 0) rfl rfl (by kernel_rfl)).elim
    obtain rfl : b1 = true := by
      cases b1 with
      | true => rfl
      | false => exact (ready_no hr (j := 1) rfl rfl (by kernel_rfl)).elim
    obtain rfl : b2 = true := by
      cases b2 with
      | true => rfl
      | false => exact (ready_no hr (j := 2) rfl rfl (by kernel_rfl)).elim
    obtain rfl : b3 = true := by
      cases b3 with
      | true => rfl
      | false => exact (ready_no hr (j := 3) rfl rfl (by kernel_rfl)).elim
    obtain rfl : b4 = true := by
      cases b4 with
      | true => rfl
      | false => exact (ready_no hr (j := 4) rfl rfl (by kernel_rfl)).elim
    obtain rfl : b5 = true := by
      cases b5 with
      | true => rfl
      | false => exact (ready_no hr (j := 5) rfl rfl (by kernel_rfl)).elim
    obtain rfl : b6 = true := by
      cases b6 with
      | true => rfl
      | false => exact (ready_no hr (j := 6) rfl rfl (by kernel_rfl)).elim
    obtain rfl : b7 = true := by
      cases b7 with
      | true => rfl
      | false => exact (ready_no hr (j := 7) rfl rfl (by kernel_rfl)).elim
    obtain rfl : b8 = true := by
      cases b8 with
      | true => rfl
      | false => exact (ready_no hr (j := 8) rfl rfl (by kernel_rfl)).elim
    obtain rfl : b9 = true := by
      cases b9 with
      | true => rfl
      | false => exact (ready_no hr (j := 9) rfl rfl (by kernel_rfl)).elim
    obtain rfl : b10 = true := by
      cases b10 with
      | true => rfl
      | false => exact (ready_no hr (j := 10) rfl rfl (by kernel_rfl)).elim
    obtain rfl : b11 = true := by
      cases b11 with
      | true => rfl
      | false => exact (ready_no hr (j := 11) rfl rfl (by kernel_rfl)).elim
    obtain rfl : b12 = true := by
      cases b12 with
      | true => rfl
      | false => exact (ready_no hr (j := 12) rfl rfl (by kernel_rfl)).elim
    obtain rfl : b13 = true := by
      cases b13 with
      | true => rfl
      | false => exact (ready_no hr (j := 13) rfl rfl (by kernel_rfl)).elim
    obtain rfl : b14 = true := by
      cases b14 with
      | true => rfl
      | false => exact (ready_no hr (j := 14) rfl rfl (by kernel_rfl)).elim
    obtain rfl : b15 = true := by
      cases b15 with
      | true => rfl
      | false => exact (ready_no hr (j := 15) rfl rfl (by kernel_rfl)).elim
    obtain rfl : b16 = true := by
      cases b16 with
      | true => rfl
      | false => exact (ready_no hr (j := 16) rfl rfl (by kernel_rfl)).elim
    obtain rfl : b17 = true := by
      cases b17 with
      | true => rfl
      | false => exact (ready_no hr (j := 17) rfl rfl (by kernel_rfl)).elim
    obtain rfl : b18 = true := by
      cases b18 with
      | true => rfl
      | false => exact (ready_no hr (j := 18) rfl rfl (by kernel_rfl)).elim
    obtain rfl : b19 = true := by
      cases b19 with
      | true => rfl
      | false => exact (ready_no hr (j := 19) rfl rfl (by kernel_rfl)).elim
    obtain rfl : b20 = true := by
      cases b20 with
      | true => rfl
      | false => exact (ready_no hr (j := 20) rfl rfl (by kernel_rfl)).elim
    obtain rfl : b21 = true := by
      cases b21 with
      | true => rfl
      | false => exact (ready_no hr (j := 21) rfl rfl (by kernel_rfl)).elim
    obtain rfl : b22 = true := by
      cases b22 with
      | true => rfl
      | false => exact (ready_no hr (j := 22) rfl rfl (by kernel_rfl)).elim
    obtain rfl : b23 = true := by
      cases b23 with
      | true => rfl
      | false => exact (ready_no hr (j := 23) rfl rfl (by kernel_rfl)).elim
    simp only [sv, svd]
    go_wp2
    go_ret
    exact ⟨rfl, ((below1 _).drew).trans (hB.mono (by omega))⟩
  case step =>
    rintro listed fr wr ⟨b0, b1, b2, b3, b4, b5, b6, b7, b8, b9, b10, b11, b12, b13, b14, b15, b16, b17, b18, b19, b20, b21, b22, b23, rfl, rfl, hB⟩ j hj
    obtain ⟨hl, o, ho, he⟩ := mem_ready.1 hj
    clear hj
    have hc : ∀ o, wr.cell? ⟨w.heap.size, o, none⟩ = #[Value.int IntKind.i64 i.kind, Value.int IntKind.i64 i.fn, Value.int IntKind.i64 i.rd, Value.int IntKind.i64 i.rs1, Value.int IntKind.i64 i.rs2, Value.int IntKind.i64 i.imm, Value.int IntKind.i64 i.size, Value.bool i.sg][o]? := fun o => by
      rw [hB.cell (p := ⟨w.heap.size, o, none⟩) (by simp)]
      exact World.cell?_alloc_at _ _ _ _ rfl
    have hGr : G wr := (hG.below (below1 _).drew).below (hB.mono (by show (w.heap.push _).size ≤ _; simp))
    have hsv : ∀ v, sv true v = v := fun _ => rfl
    match j, ho, hl, he with
    | 0, ho, hl, he =>
      obtain rfl := Option.some.inj ho
      simp [Region.binds] at hl he
      clear ho
      refine wpOp_step rfl (fun K hK => ?_)
      go_simp
      refine hK _ _ ⟨true, b1, b2, b3, b4, b5, b6, b7, b8, b9, b10, b11, b12, b13, b14, b15, b16, b17, b18, b19, b20, b21, b22, b23, rfl, ?_, hB⟩
      simp [sv, svd]
    | 1, ho, hl, he =>
      obtain rfl := Option.some.inj ho
      simp [Region.binds] at hl he
      clear ho
      refine wpOp_step rfl (fun K hK => ?_)
      go_simp
      refine (m_base i _ hGr).mono ?_
      rintro e w' ⟨rfl, hb⟩
      refine hK _ _ ⟨b0, true, b2, b3, b4, b5, b6, b7, b8, b9, b10, b11, b12, b13, b14, b15, b16, b17, b18, b19, b20, b21, b22, b23, rfl, ?_, hB.trans (hb.mono (by have := hB.size; simp [World.drew] at this; omega))⟩
      simp [sv, svd, he]
    | 2, ho, hl, he =>
      obtain rfl := Option.some.inj ho
      simp [Region.binds] at hl he
      clear ho
      refine wpOp_step rfl (fun K hK => ?_)
      go_simp
      refine hK _ _ ⟨b0, b1, true, b3, b4, b5, b6, b7, b8, b9, b10, b11, b12, b13, b14, b15, b16, b17, b18, b19, b20, b21, b22, b23, rfl, ?_, hB⟩
      simp [sv, svd]
    | 3, ho, hl, he =>
      obtain rfl := Option.some.inj ho
      simp [Region.binds] at hl he
      clear ho
      refine wpOp_step rfl (fun K hK => ?_)
      go_simp
      refine hK _ _ ⟨b0, b1, b2, true, b4, b5, b6, b7, b8, b9, b10, b11, b12, b13, b14, b15, b16, b17, b18, b19, b20, b21, b22, b23, rfl, ?_, hB⟩
      simp [sv, svd, he]
    | 4, ho, hl, he =>
      obtain rfl := Option.some.inj ho
      simp [Region.binds] at hl he
      clear ho
      refine wpOp_step rfl (fun K hK => ?_)
      go_simp
      refine (m_register _ _).mono ?_
      rintro e w' ⟨rfl, rfl⟩
      refine hK _ _ ⟨b0, b1, b2, b3, true, b5, b6, b7, b8, b9, b10, b11, b12, b13, b14, b15, b16, b17, b18, b19, b20, b21, b22, b23, rfl, ?_, hB⟩
      simp [sv, svd, he]
    | 5, ho, hl, he =>
      obtain rfl := Option.some.inj ho
      simp [Region.binds] at hl he
      clear ho
      refine wpOp_step rfl (fun K hK => ?_)
      go_simp
      refine hK _ _ ⟨b0, b1, b2, b3, b4, true, b6, b7, b8, b9, b10, b11, b12, b13, b14, b15, b16, b17, b18, b19, b20, b21, b22, b23, rfl, ?_, hB⟩
      simp [sv, svd, he]
    | 6, ho, hl, he =>
      obtain rfl := Option.some.inj ho
      simp [Region.binds] at hl he
      clear ho
      refine wpOp_step rfl (fun K hK => ?_)
      go_simp
      refine hK _ _ ⟨b0, b1, b2, b3, b4, b5, true, b7, b8, b9, b10, b11, b12, b13, b14, b15, b16, b17, b18, b19, b20, b21, b22, b23, rfl, ?_, hB⟩
      simp [sv, svd, he]
    | 7, ho, hl, he =>
      obtain rfl := Option.some.inj ho
      simp [Region.binds] at hl he
      clear ho
      refine wpOp_step rfl (fun K hK => ?_)
      go_simp
      refine hK _ _ ⟨b0, b1, b2, b3, b4, b5, b6, true, b8, b9, b10, b11, b12, b13, b14, b15, b16, b17, b18, b19, b20, b21, b22, b23, rfl, ?_, hB⟩
      simp [sv, svd]
    | 8, ho, hl, he =>
      obtain rfl := Option.some.inj ho
      simp [Region.binds] at hl he
      clear ho
      refine wpOp_step rfl (fun K hK => ?_)
      go_simp
      refine hK _ _ ⟨b0, b1, b2, b3, b4, b5, b6, b7, true, b9, b10, b11, b12, b13, b14, b15, b16, b17, b18, b19, b20, b21, b22, b23, rfl, ?_, hB⟩
      simp [sv, svd, he]
    | 9, ho, hl, he =>
      obtain rfl := Option.some.inj ho
      simp [Region.binds] at hl he
      clear ho
      refine wpOp_step rfl (fun K hK => ?_)
      go_simp
      refine (m_register _ _).mono ?_
      rintro e w' ⟨rfl, rfl⟩
      refine hK _ _ ⟨b0, b1, b2, b3, b4, b5, b6, b7, b8, true, b10, b11, b12, b13, b14, b15, b16, b17, b18, b19, b20, b21, b22, b23, rfl, ?_, hB⟩
      simp [sv, svd, he]
    | 10, ho, hl, he =>
      obtain rfl := Option.some.inj ho
      simp [Region.binds] at hl he
      clear ho
      refine wpOp_step rfl (fun K hK => ?_)
      go_simp
      refine hK _ _ ⟨b0, b1, b2, b3, b4, b5, b6, b7, b8, b9, true, b11, b12, b13, b14, b15, b16, b17, b18, b19, b20, b21, b22, b23, rfl, ?_, hB⟩
      simp [sv, svd, he]
    | 11, ho, hl, he =>
      obtain rfl := Option.some.inj ho
      simp [Region.binds] at hl he
      clear ho
      refine wpOp_step rfl (fun K hK => ?_)
      go_simp
      refine hK _ _ ⟨b0, b1, b2, b3, b4, b5, b6, b7, b8, b9, b10, true, b12, b13, b14, b15, b16, b17, b18, b19, b20, b21, b22, b23, rfl, ?_, hB⟩
      simp [sv, svd, he]
    | 12, ho, hl, he =>
      obtain rfl := Option.some.inj ho
      simp [Region.binds] at hl he
      clear ho
      refine wpOp_step rfl (fun K hK => ?_)
      go_simp
      refine hK _ _ ⟨b0, b1, b2, b3, b4, b5, b6, b7, b8, b9, b10, b11, true, b13, b14, b15, b16, b17, b18, b19, b20, b21, b22, b23, rfl, ?_, hB⟩
      simp [sv, svd]
    | 13, ho, hl, he =>
      obtain rfl := Option.some.inj ho
      simp [Region.binds] at hl he
      clear ho
      refine wpOp_step rfl (fun K hK => ?_)
      go_simp
      refine hK _ _ ⟨b0, b1, b2, b3, b4, b5, b6, b7, b8, b9, b10, b11, b12, true, b14, b15, b16, b17, b18, b19, b20, b21, b22, b23, rfl, ?_, hB⟩
      simp [sv, svd, he]
    | 14, ho, hl, he =>
      obtain rfl := Option.some.inj ho
      simp [Region.binds] at hl he
      clear ho
      refine wpOp_step rfl (fun K hK => ?_)
      go_simp
      refine (m_register _ _).mono ?_
      rintro e w' ⟨rfl, rfl⟩
      refine hK _ _ ⟨b0, b1, b2, b3, b4, b5, b6, b7, b8, b9, b10, b11, b12, b13, true, b15, b16, b17, b18, b19, b20, b21, b22, b23, rfl, ?_, hB⟩
      simp [sv, svd, he]
    | 15, ho, hl, he =>
      obtain rfl := Option.some.inj ho
      simp [Region.binds] at hl he
      clear ho
      refine wpOp_step rfl (fun K hK => ?_)
      go_simp
      refine hK _ _ ⟨b0, b1, b2, b3, b4, b5, b6, b7, b8, b9, b10, b11, b12, b13, b14, true, b16, b17, b18, b19, b20, b21, b22, b23, rfl, ?_, hB⟩
      simp [sv, svd, he]
    | 16, ho, hl, he =>
      obtain rfl := Option.some.inj ho
      simp [Region.binds] at hl he
      clear ho
      refine wpOp_step rfl (fun K hK => ?_)
      go_simp
      refine hK _ _ ⟨b0, b1, b2, b3, b4, b5, b6, b7, b8, b9, b10, b11, b12, b13, b14, b15, true, b17, b18, b19, b20, b21, b22, b23, rfl, ?_, hB⟩
      simp [sv, svd, he]
    | 17, ho, hl, he =>
      obtain rfl := Option.some.inj ho
      simp [Region.binds] at hl he
      clear ho
      refine wpOp_step rfl (fun K hK => ?_)
      go_simp
      refine hK _ _ ⟨b0, b1, b2, b3, b4, b5, b6, b7, b8, b9, b10, b11, b12, b13, b14, b15, b16, true, b18, b19, b20, b21, b22, b23, rfl, ?_, hB⟩
      simp [sv, svd]
    | 18, ho, hl, he =>
      obtain rfl := Option.some.inj ho
      simp [Region.binds] at hl he
      clear ho
      refine wpOp_step rfl (fun K hK => ?_)
      go_simp
      refine hK _ _ ⟨b0, b1, b2, b3, b4, b5, b6, b7, b8, b9, b10, b11, b12, b13, b14, b15, b16, b17, true, b19, b20, b21, b22, b23, rfl, ?_, hB⟩
      simp [sv, svd, he]
    | 19, ho, hl, he =>
      obtain rfl := Option.some.inj ho
      simp [Region.binds] at hl he
      clear ho
      refine wpOp_step rfl (fun K hK => ?_)
      go_simp
      refine hK _ _ ⟨b0, b1, b2, b3, b4, b5, b6, b7, b8, b9, b10, b11, b12, b13, b14, b15, b16, b17, b18, true, b20, b21, b22, b23, rfl, ?_, hB⟩
      simp [sv, svd]
    | 20, ho, hl, he =>
      obtain rfl := Option.some.inj ho
      simp [Region.binds] at hl he
      clear ho
      refine wpOp_step rfl (fun K hK => ?_)
      go_simp
      refine hK _ _ ⟨b0, b1, b2, b3, b4, b5, b6, b7, b8, b9, b10, b11, b12, b13, b14, b15, b16, b17, b18, b19, true, b21, b22, b23, rfl, ?_, hB⟩
      simp [sv, svd, he]
    | 21, ho, hl, he =>
      obtain rfl := Option.some.inj ho
      simp [Region.binds] at hl he
      clear ho
      refine wpOp_step rfl (fun K hK => ?_)
      go_simp
      refine (m_immediate _ _ _).mono ?_
      rintro e w' ⟨rfl, rfl⟩
      refine hK _ _ ⟨b0, b1, b2, b3, b4, b5, b6, b7, b8, b9, b10, b11, b12, b13, b14, b15, b16, b17, b18, b19, b20, true, b22, b23, rfl, ?_, hB⟩
      simp [sv, svd, he]
    | 22, ho, hl, he =>
      obtain rfl := Option.some.inj ho
      simp [Region.binds] at hl he
      clear ho
      refine wpOp_step rfl (fun K hK => ?_)
      go_simp
      refine hK _ _ ⟨b0, b1, b2, b3, b4, b5, b6, b7, b8, b9, b10, b11, b12, b13, b14, b15, b16, b17, b18, b19, b20, b21, true, b23, rfl, ?_, hB⟩
      simp [sv, svd, he]
    | 23, ho, hl, he =>
      obtain rfl := Option.some.inj ho
      simp [Region.binds] at hl he
      clear ho
      refine wpOp_step rfl (fun K hK => ?_)
      go_simp
      refine hK _ _ ⟨b0, b1, b2, b3, b4, b5, b6, b7, b8, b9, b10, b11, b12, b13, b14, b15, b16, b17, b18, b19, b20, b21, b22, true, rfl, ?_, hB⟩
      simp [sv, svd, he]
    | n + 24, ho, hl, he => simp at ho
end Go.Proofs.YtlfdokkopgmfjaaGreatDoor.B
namespace Go.Proofs.YtlfdokkopgmfjaaGreatDoor.B
open Go.RowKit
set_option linter.unusedVariables false
set_option maxRecDepth 100000
theorem s_load (z d r n : Int) (w : World) : Calls Tryz.prog 122 #[.int .i64 z, .int .i64 d, .int .i64 r, .int .i64 n] w fun e w' => e = .returned (I.v ⟨6, 0, d, r, 0, n, z, true⟩) ∧ Below w.heap.size w w' := by
  go_enter Tryz.func122, Tryz.ntmps122
  go_wp2
  exact bodyPost_ret (v := I.v ⟨6, 0, d, r, 0, n, z, true⟩) (by simp [results, Tryz.results122, go_sem]) rfl ⟨rfl, below1 _⟩
end Go.Proofs.YtlfdokkopgmfjaaGreatDoor.B
namespace Go.Proofs.YtlfdokkopgmfjaaGreatDoor.B
open Go.RowKit
set_option linter.unusedVariables false
set_option maxRecDepth 100000
def sx (w n : Int) : Int := if n < w then n else n - 2 * w
def cQ (c : Int) : Int := c % 4
def cF3 (c : Int) : Int := c / 8192 % 8
def cRd (c : Int) : Int := c / 128 % 32
def cR2 (c : Int) : Int := c / 4 % 32
def cS1 (c : Int) : Int := 8 + c / 128 % 8
def cS2 (c : Int) : Int := 8 + c / 4 % 8
def cAm (c : Int) : Int := c / 4096 % 2 * 32 + c / 4 % 32
def cStack (c : Int) : Int := c / 128 % 16 * 64 + c / 2048 % 4 * 16 + c / 32 % 2 * 8 + c / 64 % 2 * 4
def cWord (c : Int) : Int := c / 32 % 2 * 64 + c / 1024 % 8 * 8 + c / 64 % 2 * 4
def cDouble (c : Int) : Int := c / 32 % 4 * 64 + c / 1024 % 8 * 8
def cMove0 (c : Int) : Int := c / 4096 % 2 * 512 + c / 8 % 4 * 128 + c / 32 % 2 * 64 + c / 4 % 2 * 32 + c / 64 % 2 * 16
def cMove (c : Int) : Int := sx 512 (cMove0 c)
def cBranch0 (c : Int) : Int := c / 4096 % 2 * 256 + c / 32 % 4 * 64 + c / 4 % 2 * 32 + c / 1024 % 4 * 8 + c / 8 % 4 * 2
def cBranch (c : Int) : Int := sx 256 (cBranch0 c)
def cPopW (c : Int) : Int := c / 4 % 4 * 64 + c / 4096 % 2 * 32 + c / 16 % 8 * 4
def cPopD (c : Int) : Int := c / 4 % 8 * 64 + c / 4096 % 2 * 32 + c / 32 % 4 * 8
def cPushW (c : Int) : Int := c / 128 % 4 * 64 + c / 512 % 16 * 4
def cPushD (c : Int) : Int := c / 128 % 8 * 64 + c / 1024 % 8 * 8
def cJump0 (c : Int) : Int := c / 4096 % 2 * 2048 + c / 256 % 2 * 1024 + c / 512 % 4 * 256 + c / 64 % 2 * 128 + c / 128 % 2 * 64 + c / 4 % 2 * 32 + c / 2048 % 2 * 16 + c / 8 % 8 * 2
def cJump (c : Int) : Int := sx 2048 (cJump0 c)
def cSmall (c : Int) : Int := sx 32 (cAm c)
theorem h_quadrant (c : Int) (h0 : 0 ≤ c) (h1 : c ≤ 65535) (w : World) :
    Calls Tryz.prog 55 #[.int .u16 c] w fun e w' => e = .returned (.int .i64 (cQ c)) ∧ w' = w := by
  go_enter Tryz.func55, Tryz.ntmps55
  go_wp2
  go_ret
  exact ⟨ret_int (by unfold cQ; omega), rfl⟩
theorem h_f3 (c : Int) (h0 : 0 ≤ c) (h1 : c ≤ 65535) (w : World) :
    Calls Tryz.prog 117 #[.int .u16 c] w fun e w' => e = .returned (.int .i64 (cF3 c)) ∧ w' = w := by
  go_enter Tryz.func117, Tryz.ntmps117
  go_wp2
  go_ret
  exact ⟨ret_int (by unfold cF3; omega), rfl⟩
theorem h_rd (c : Int) (h0 : 0 ≤ c) (h1 : c ≤ 65535) (w : World) :
    Calls Tryz.prog 127 #[.int .u16 c] w fun e w' => e = .returned (.int .i64 (cRd c)) ∧ w' = w := by
  go_enter Tryz.func127, Tryz.ntmps127
  go_wp2
  go_ret
  exact ⟨ret_int (by unfold cRd; omega), rfl⟩
theorem h_rs2 (c : Int) (h0 : 0 ≤ c) (h1 : c ≤ 65535) (w : World) :
    Calls Tryz.prog 139 #[.int .u16 c] w fun e w' => e = .returned (.int .i64 (cR2 c)) ∧ w' = w := by
  go_enter Tryz.func139, Tryz.ntmps139
  go_wp2
  go_ret
  exact ⟨ret_int (by unfold cR2; omega), rfl⟩
theorem h_shortRs1 (c : Int) (h0 : 0 ≤ c) (h1 : c ≤ 65535) (w : World) :
    Calls Tryz.prog 123 #[.int .u16 c] w fun e w' => e = .returned (.int .i64 (cS1 c)) ∧ w' = w := by
  go_enter Tryz.func123, Tryz.ntmps123
  go_wp2
  go_ret
  exact ⟨ret_int (by unfold cS1; omega), rfl⟩
theorem h_shortRs2 (c : Int) (h0 : 0 ≤ c) (h1 : c ≤ 65535) (w : World) :
    Calls Tryz.prog 120 #[.int .u16 c] w fun e w' => e = .returned (.int .i64 (cS2 c)) ∧ w' = w := by
  go_enter Tryz.func120, Tryz.ntmps120
  go_wp2
  go_ret
  exact ⟨ret_int (by unfold cS2; omega), rfl⟩
theorem oc_amount (c : Int) (h0 : 0 ≤ c) (h1 : c ≤ 65535) : bits .or .i64 (c * 524288 % 4294967296 / 2147483648 * 32) (c * 33554432 % 4294967296 / 134217728) = cAm c := by
  rw [or64_5 ((c * 524288 % 4294967296 / 2147483648 * 32)) (c * 33554432 % 4294967296 / 134217728) (by omega) (by omega) (by omega) (by omega) (by omega)]
  unfold cAm
  omega
theorem oc_immStack (c : Int) (h0 : 0 ≤ c) (h1 : c ≤ 65535) : bits .or .i64 (bits .or .i64 (bits .or .i64 (c * 2097152 % 4294967296 / 268435456 * 64) (c * 524288 % 4294967296 / 1073741824 * 16)) (c * 67108864 % 4294967296 / 2147483648 * 8)) (c * 33554432 % 4294967296 / 2147483648 * 4) = cStack c := by
  rw [or64_6 ((c * 2097152 % 4294967296 / 268435456 * 64)) (c * 524288 % 4294967296 / 1073741824 * 16) (by omega) (by omega) (by omega) (by omega) (by omega), or64_4 ((c * 2097152 % 4294967296 / 268435456 * 64) + c * 524288 % 4294967296 / 1073741824 * 16) (c * 67108864 % 4294967296 / 2147483648 * 8) (by omega) (by omega) (by omega) (by omega) (by omega), or64_3 ((c * 2097152 % 4294967296 / 268435456 * 64) + c * 524288 % 4294967296 / 1073741824 * 16 + c * 67108864 % 4294967296 / 2147483648 * 8) (c * 33554432 % 4294967296 / 2147483648 * 4) (by omega) (by omega) (by omega) (by omega) (by omega)]
  unfold cStack
  omega
theorem oc_immWord (c : Int) (h0 : 0 ≤ c) (h1 : c ≤ 65535) : bits .or .i64 (bits .or .i64 (c * 67108864 % 4294967296 / 2147483648 * 64) (c * 524288 % 4294967296 / 536870912 * 8)) (c * 33554432 % 4294967296 / 2147483648 * 4) = cWord c := by
  rw [or64_6 ((c * 67108864 % 4294967296 / 2147483648 * 64)) (c * 524288 % 4294967296 / 536870912 * 8) (by omega) (by omega) (by omega) (by omega) (by omega), or64_3 ((c * 67108864 % 4294967296 / 2147483648 * 64) + c * 524288 % 4294967296 / 536870912 * 8) (c * 33554432 % 4294967296 / 2147483648 * 4) (by omega) (by omega) (by omega) (by omega) (by omega)]
  unfold cWord
  omega
theorem oc_immDouble (c : Int) (h0 : 0 ≤ c) (h1 : c ≤ 65535) : bits .or .i64 (c * 33554432 % 4294967296 / 1073741824 * 64) (c * 524288 % 4294967296 / 536870912 * 8) = cDouble c := by
  rw [or64_6 ((c * 33554432 % 4294967296 / 1073741824 * 64)) (c * 524288 % 4294967296 / 536870912 * 8) (by omega) (by omega) (by omega) (by omega) (by omega)]
  unfold cDouble
  omega
theorem oc_immMove (c : Int) (h0 : 0 ≤ c) (h1 : c ≤ 65535) : bits .or .i64 (bits .or .i64 (bits .or .i64 (bits .or .i64 (c * 524288 % 4294967296 / 2147483648 * 512) (c * 134217728 % 4294967296 / 1073741824 * 128)) (c * 67108864 % 4294967296 / 2147483648 * 64)) (c * 536870912 % 4294967296 / 2147483648 * 32)) (c * 33554432 % 4294967296 / 2147483648 * 16) = cMove0 c := by
  rw [or64_9 ((c * 524288 % 4294967296 / 2147483648 * 512)) (c * 134217728 % 4294967296 / 1073741824 * 128) (by omega) (by omega) (by omega) (by omega) (by omega), or64_7 ((c * 524288 % 4294967296 / 2147483648 * 512) + c * 134217728 % 4294967296 / 1073741824 * 128) (c * 67108864 % 4294967296 / 2147483648 * 64) (by omega) (by omega) (by omega) (by omega) (by omega), or64_6 ((c * 524288 % 4294967296 / 2147483648 * 512) + c * 134217728 % 4294967296 / 1073741824 * 128 + c * 67108864 % 4294967296 / 2147483648 * 64) (c * 536870912 % 4294967296 / 2147483648 * 32) (by omega) (by omega) (by omega) (by omega) (by omega), or64_5 ((c * 524288 % 4294967296 / 2147483648 * 512) + c * 134217728 % 4294967296 / 1073741824 * 128 + c * 67108864 % 4294967296 / 2147483648 * 64 + c * 536870912 % 4294967296 / 2147483648 * 32) (c * 33554432 % 4294967296 / 2147483648 * 16) (by omega) (by omega) (by omega) (by omega) (by omega)]
  unfold cMove0
  omega
theorem oc_immBranch (c : Int) (h0 : 0 ≤ c) (h1 : c ≤ 65535) : bits .or .i64 (bits .or .i64 (bits .or .i64 (bits .or .i64 (c * 524288 % 4294967296 / 2147483648 * 256) (c * 33554432 % 4294967296 / 1073741824 * 64)) (c * 536870912 % 4294967296 / 2147483648 * 32)) (c * 1048576 % 4294967296 / 1073741824 * 8)) (c * 134217728 % 4294967296 / 1073741824 * 2) = cBranch0 c := by
  rw [or64_8 ((c * 524288 % 4294967296 / 2147483648 * 256)) (c * 33554432 % 4294967296 / 1073741824 * 64) (by omega) (by omega) (by omega) (by omega) (by omega), or64_6 ((c * 524288 % 4294967296 / 2147483648 * 256) + c * 33554432 % 4294967296 / 1073741824 * 64) (c * 536870912 % 4294967296 / 2147483648 * 32) (by omega) (by omega) (by omega) (by omega) (by omega), or64_5 ((c * 524288 % 4294967296 / 2147483648 * 256) + c * 33554432 % 4294967296 / 1073741824 * 64 + c * 536870912 % 4294967296 / 2147483648 * 32) (c * 1048576 % 4294967296 / 1073741824 * 8) (by omega) (by omega) (by omega) (by omega) (by omega), or64_3 ((c * 524288 % 4294967296 / 2147483648 * 256) + c * 33554432 % 4294967296 / 1073741824 * 64 + c * 536870912 % 4294967296 / 2147483648 * 32 + c * 1048576 % 4294967296 / 1073741824 * 8) (c * 134217728 % 4294967296 / 1073741824 * 2) (by omega) (by omega) (by omega) (by omega) (by omega)]
  unfold cBranch0
  omega
theorem oc_immPopWord (c : Int) (h0 : 0 ≤ c) (h1 : c ≤ 65535) : bits .or .i64 (bits .or .i64 (c * 268435456 % 4294967296 / 1073741824 * 64) (c * 524288 % 4294967296 / 2147483648 * 32)) (c * 33554432 % 4294967296 / 536870912 * 4) = cPopW c := by
  rw [or64_6 ((c * 268435456 % 4294967296 / 1073741824 * 64)) (c * 524288 % 4294967296 / 2147483648 * 32) (by omega) (by omega) (by omega) (by omega) (by omega), or64_5 ((c * 268435456 % 4294967296 / 1073741824 * 64) + c * 524288 % 4294967296 / 2147483648 * 32) (c * 33554432 % 4294967296 / 536870912 * 4) (by omega) (by omega) (by omega) (by omega) (by omega)]
  unfold cPopW
  omega
theorem oc_immPopDouble (c : Int) (h0 : 0 ≤ c) (h1 : c ≤ 65535) : bits .or .i64 (bits .or .i64 (c * 134217728 % 4294967296 / 536870912 * 64) (c * 524288 % 4294967296 / 2147483648 * 32)) (c * 33554432 % 4294967296 / 1073741824 * 8) = cPopD c := by
  rw [or64_6 ((c * 134217728 % 4294967296 / 536870912 * 64)) (c * 524288 % 4294967296 / 2147483648 * 32) (by omega) (by omega) (by omega) (by omega) (by omega), or64_5 ((c * 134217728 % 4294967296 / 536870912 * 64) + c * 524288 % 4294967296 / 2147483648 * 32) (c * 33554432 % 4294967296 / 1073741824 * 8) (by omega) (by omega) (by omega) (by omega) (by omega)]
  unfold cPopD
  omega
theorem oc_immPushWord (c : Int) (h0 : 0 ≤ c) (h1 : c ≤ 65535) : bits .or .i64 (c * 8388608 % 4294967296 / 1073741824 * 64) (c * 524288 % 4294967296 / 268435456 * 4) = cPushW c := by
  rw [or64_6 ((c * 8388608 % 4294967296 / 1073741824 * 64)) (c * 524288 % 4294967296 / 268435456 * 4) (by omega) (by omega) (by omega) (by omega) (by omega)]
  unfold cPushW
  omega
theorem oc_immPushDouble (c : Int) (h0 : 0 ≤ c) (h1 : c ≤ 65535) : bits .or .i64 (c * 4194304 % 4294967296 / 536870912 * 64) (c * 524288 % 4294967296 / 536870912 * 8) = cPushD c := by
  rw [or64_6 ((c * 4194304 % 4294967296 / 536870912 * 64)) (c * 524288 % 4294967296 / 536870912 * 8) (by omega) (by omega) (by omega) (by omega) (by omega)]
  unfold cPushD
  omega
def cJ1 (c : Int) : Int := c / 4096 % 2 * 2048 + c / 256 % 2 * 1024 + c / 512 % 4 * 256 + c / 64 % 2 * 128
def cJ2 (c : Int) : Int := c / 128 % 2 * 64 + c / 4 % 2 * 32 + c / 2048 % 2 * 16 + c / 8 % 8 * 2
theorem oc_j1 (c : Int) (h0 : 0 ≤ c) (h1 : c ≤ 65535) : bits .or .i64 (bits .or .i64 (bits .or .i64 (c * 524288 % 4294967296 / 2147483648 * 2048) (c * 8388608 % 4294967296 / 2147483648 * 1024)) (c * 2097152 % 4294967296 / 1073741824 * 256)) (c * 33554432 % 4294967296 / 2147483648 * 128) = cJ1 c := by
  rw [or64_11 ((c * 524288 % 4294967296 / 2147483648 * 2048)) (c * 8388608 % 4294967296 / 2147483648 * 1024) (by omega) (by omega) (by omega) (by omega) (by omega), or64_10 ((c * 524288 % 4294967296 / 2147483648 * 2048) + c * 8388608 % 4294967296 / 2147483648 * 1024) (c * 2097152 % 4294967296 / 1073741824 * 256) (by omega) (by omega) (by omega) (by omega) (by omega), or64_8 ((c * 524288 % 4294967296 / 2147483648 * 2048) + c * 8388608 % 4294967296 / 2147483648 * 1024 + c * 2097152 % 4294967296 / 1073741824 * 256) (c * 33554432 % 4294967296 / 2147483648 * 128) (by omega) (by omega) (by omega) (by omega) (by omega)]
  unfold cJ1
  omega
theorem oc_j2 (c : Int) (h0 : 0 ≤ c) (h1 : c ≤ 65535) : bits .or .i64 (bits .or .i64 (bits .or .i64 (c * 16777216 % 4294967296 / 2147483648 * 64) (c * 536870912 % 4294967296 / 2147483648 * 32)) (c * 1048576 % 4294967296 / 2147483648 * 16)) (c * 67108864 % 4294967296 / 536870912 * 2) = cJ2 c := by
  rw [or64_6 ((c * 16777216 % 4294967296 / 2147483648 * 64)) (c * 536870912 % 4294967296 / 2147483648 * 32) (by omega) (by omega) (by omega) (by omega) (by omega), or64_5 ((c * 16777216 % 4294967296 / 2147483648 * 64) + c * 536870912 % 4294967296 / 2147483648 * 32) (c * 1048576 % 4294967296 / 2147483648 * 16) (by omega) (by omega) (by omega) (by omega) (by omega), or64_4 ((c * 16777216 % 4294967296 / 2147483648 * 64) + c * 536870912 % 4294967296 / 2147483648 * 32 + c * 1048576 % 4294967296 / 2147483648 * 16) (c * 67108864 % 4294967296 / 536870912 * 2) (by omega) (by omega) (by omega) (by omega) (by omega)]
  unfold cJ2
  omega
theorem oc_j3 (c : Int) (h0 : 0 ≤ c) (h1 : c ≤ 65535) : bits .or .i64 (cJ1 c) (cJ2 c) = cJump0 c := by
  rw [or64_7 (cJ1 c) (cJ2 c) (by unfold cJ1; omega) (by unfold cJ2; omega) (by unfold cJ2; omega) (by unfold cJ1; omega) (by unfold cJ1; omega)]
  unfold cJ1 cJ2 cJump0; omega
theorem hs_6 (n : Int) (h0 : 0 ≤ n) (h1 : n < 64) (w : World) :
    Calls Tryz.prog 185 #[.int .i64 n, .int .i64 6] w fun e w' => e = .returned (.int .i64 (sx 32 n)) ∧ w' = w := by
  go_enter Tryz.func185, Tryz.ntmps185
  go_wp2
  go_ret
  refine ⟨ret_int ?_, rfl⟩
  unfold sx
  simp only [wrap64]
  split <;> omega
theorem hs_9 (n : Int) (h0 : 0 ≤ n) (h1 : n < 512) (w : World) :
    Calls Tryz.prog 185 #[.int .i64 n, .int .i64 9] w fun e w' => e = .returned (.int .i64 (sx 256 n)) ∧ w' = w := by
  go_enter Tryz.func185, Tryz.ntmps185
  go_wp2
  go_ret
  refine ⟨ret_int ?_, rfl⟩
  unfold sx
  simp only [wrap64]
  split <;> omega
theorem hs_10 (n : Int) (h0 : 0 ≤ n) (h1 : n < 1024) (w : World) :
    Calls Tryz.prog 185 #[.int .i64 n, .int .i64 10] w fun e w' => e = .returned (.int .i64 (sx 512 n)) ∧ w' = w := by
  go_enter Tryz.func185, Tryz.ntmps185
  go_wp2
  go_ret
  refine ⟨ret_int ?_, rfl⟩
  unfold sx
  simp only [wrap64]
  split <;> omega
theorem hs_12 (n : Int) (h0 : 0 ≤ n) (h1 : n < 4096) (w : World) :
    Calls Tryz.prog 185 #[.int .i64 n, .int .i64 12] w fun e w' => e = .returned (.int .i64 (sx 2048 n)) ∧ w' = w := by
  go_enter Tryz.func185, Tryz.ntmps185
  go_wp2
  go_ret
  refine ⟨ret_int ?_, rfl⟩
  unfold sx
  simp only [wrap64]
  split <;> omega
theorem h_amount (c : Int) (h0 : 0 ≤ c) (h1 : c ≤ 65535) (w : World) :
    Calls Tryz.prog 135 #[.int .u16 c] w fun e w' => e = .returned (.int .i64 (cAm c)) ∧ w' = w := by
  have q := oc_amount c h0 h1
  go_enter Tryz.func135, Tryz.ntmps135
  go_wp2
  go_ret
  exact ⟨rfl, rfl⟩
theorem h_immStack (c : Int) (h0 : 0 ≤ c) (h1 : c ≤ 65535) (w : World) :
    Calls Tryz.prog 121 #[.int .u16 c] w fun e w' => e = .returned (.int .i64 (cStack c)) ∧ w' = w := by
  have q := oc_immStack c h0 h1
  go_enter Tryz.func121, Tryz.ntmps121
  go_wp2
  go_ret
  exact ⟨rfl, rfl⟩
theorem h_immWord (c : Int) (h0 : 0 ≤ c) (h1 : c ≤ 65535) (w : World) :
    Calls Tryz.prog 124 #[.int .u16 c] w fun e w' => e = .returned (.int .i64 (cWord c)) ∧ w' = w := by
  have q := oc_immWord c h0 h1
  go_enter Tryz.func124, Tryz.ntmps124
  go_wp2
  go_ret
  exact ⟨rfl, rfl⟩
theorem h_immDouble (c : Int) (h0 : 0 ≤ c) (h1 : c ≤ 65535) (w : World) :
    Calls Tryz.prog 125 #[.int .u16 c] w fun e w' => e = .returned (.int .i64 (cDouble c)) ∧ w' = w := by
  have q := oc_immDouble c h0 h1
  go_enter Tryz.func125, Tryz.ntmps125
  go_wp2
  go_ret
  exact ⟨rfl, rfl⟩
theorem h_immMove (c : Int) (h0 : 0 ≤ c) (h1 : c ≤ 65535) (w : World) :
    Calls Tryz.prog 186 #[.int .u16 c] w fun e w' => e = .returned (.int .i64 (cMove c)) ∧ w' = w := by
  have q := oc_immMove c h0 h1
  have b0 : 0 ≤ cMove0 c := by unfold cMove0; omega
  have b1 : cMove0 c < 1024 := by unfold cMove0; omega
  go_enter Tryz.func186, Tryz.ntmps186
  go_wp2_with (first | (go_at_call 185; refine (hs_10 _ b0 b1 _).mono ?_; rintro e w' ⟨rfl, rfl⟩) | (go_at_call 75; go_in) | (go_at_call 92; go_in))
  go_ret
  exact ⟨rfl, rfl⟩
theorem h_immBranch (c : Int) (h0 : 0 ≤ c) (h1 : c ≤ 65535) (w : World) :
    Calls Tryz.prog 134 #[.int .u16 c] w fun e w' => e = .returned (.int .i64 (cBranch c)) ∧ w' = w := by
  have q := oc_immBranch c h0 h1
  have b0 : 0 ≤ cBranch0 c := by unfold cBranch0; omega
  have b1 : cBranch0 c < 512 := by unfold cBranch0; omega
  go_enter Tryz.func134, Tryz.ntmps134
  go_wp2_with (first | (go_at_call 185; refine (hs_9 _ b0 b1 _).mono ?_; rintro e w' ⟨rfl, rfl⟩) | (go_at_call 75; go_in) | (go_at_call 92; go_in))
  go_ret
  exact ⟨rfl, rfl⟩
theorem h_immPopWord (c : Int) (h0 : 0 ≤ c) (h1 : c ≤ 65535) (w : World) :
    Calls Tryz.prog 136 #[.int .u16 c] w fun e w' => e = .returned (.int .i64 (cPopW c)) ∧ w' = w := by
  have q := oc_immPopWord c h0 h1
  go_enter Tryz.func136, Tryz.ntmps136
  go_wp2
  go_ret
  exact ⟨rfl, rfl⟩
theorem h_immPopDouble (c : Int) (h0 : 0 ≤ c) (h1 : c ≤ 65535) (w : World) :
    Calls Tryz.prog 137 #[.int .u16 c] w fun e w' => e = .returned (.int .i64 (cPopD c)) ∧ w' = w := by
  have q := oc_immPopDouble c h0 h1
  go_enter Tryz.func137, Tryz.ntmps137
  go_wp2
  go_ret
  exact ⟨rfl, rfl⟩
theorem h_immPushWord (c : Int) (h0 : 0 ≤ c) (h1 : c ≤ 65535) (w : World) :
    Calls Tryz.prog 140 #[.int .u16 c] w fun e w' => e = .returned (.int .i64 (cPushW c)) ∧ w' = w := by
  have q := oc_immPushWord c h0 h1
  go_enter Tryz.func140, Tryz.ntmps140
  go_wp2
  go_ret
  exact ⟨rfl, rfl⟩
theorem h_immPushDouble (c : Int) (h0 : 0 ≤ c) (h1 : c ≤ 65535) (w : World) :
    Calls Tryz.prog 141 #[.int .u16 c] w fun e w' => e = .returned (.int .i64 (cPushD c)) ∧ w' = w := by
  have q := oc_immPushDouble c h0 h1
  go_enter Tryz.func141, Tryz.ntmps141
  go_wp2
  go_ret
  exact ⟨rfl, rfl⟩
theorem h_immJump (c : Int) (h0 : 0 ≤ c) (h1 : c ≤ 65535) (w : World) :
    Calls Tryz.prog 132 #[.int .u16 c] w fun e w' => e = .returned (.int .i64 (cJump c)) ∧ w' = w := by
  have q1 := oc_j1 c h0 h1
  have q2 := oc_j2 c h0 h1
  have q3 := oc_j3 c h0 h1
  have b0 : 0 ≤ cJump0 c := by unfold cJump0; omega
  have b1 : cJump0 c < 4096 := by unfold cJump0; omega
  go_enter Tryz.func132, Tryz.ntmps132
  go_wp2_with (first | (go_at_call 185; refine (hs_12 _ b0 b1 _).mono ?_; rintro e w' ⟨rfl, rfl⟩) | (go_at_call 75; go_in) | (go_at_call 92; go_in))
  go_ret
  exact ⟨rfl, rfl⟩
theorem h_small (c : Int) (h0 : 0 ≤ c) (h1 : c ≤ 65535) (w : World) :
    Calls Tryz.prog 128 #[.int .u16 c] w fun e w' => e = .returned (.int .i64 (cSmall c)) ∧ w' = w := by
  have b0 : 0 ≤ cAm c := by unfold cAm; omega
  have b1 : cAm c < 64 := by unfold cAm; omega
  go_enter Tryz.func128, Tryz.ntmps128
  go_wp2_with (first | (go_at_call 185; refine (hs_6 _ b0 b1 _).mono ?_; rintro e w' ⟨rfl, rfl⟩) | (go_at_call 135; refine (h_amount c h0 h1 _).mono ?_; rintro e w' ⟨rfl, rfl⟩))
  go_ret
  exact ⟨rfl, rfl⟩
end Go.Proofs.YtlfdokkopgmfjaaGreatDoor.B
namespace Go.Proofs.YtlfdokkopgmfjaaGreatDoor.B
open Go.RowKit
set_option linter.unusedVariables false
set_option maxRecDepth 100000
theorem s_addi (d r n : Int) (w : World) : Calls Tryz.prog 119 #[.int .i64 d, .int .i64 r, .int .i64 n] w fun e w' => e = .returned (I.v ⟨9, 1, d, r, 0, n, 0, false⟩) ∧ Below w.heap.size w w' := by
  go_enter Tryz.func119, Tryz.ntmps119
  go_wp2
  exact bodyPost_ret (v := I.v ⟨9, 1, d, r, 0, n, 0, false⟩) (by simp [results, Tryz.results119, go_sem]) rfl ⟨rfl, below1 _⟩
theorem s_aluImm (f d n : Int) (w : World) : Calls Tryz.prog 129 #[.int .i64 f, .int .i64 d, .int .i64 n] w fun e w' => e = .returned (I.v ⟨9, f, d, d, 0, n, 0, false⟩) ∧ Below w.heap.size w w' := by
  go_enter Tryz.func129, Tryz.ntmps129
  go_wp2
  exact bodyPost_ret (v := I.v ⟨9, f, d, d, 0, n, 0, false⟩) (by simp [results, Tryz.results129, go_sem]) rfl ⟨rfl, below1 _⟩
theorem s_alu (f d r s : Int) (w : World) : Calls Tryz.prog 188 #[.int .i64 f, .int .i64 d, .int .i64 r, .int .i64 s] w fun e w' => e = .returned (I.v ⟨8, f, d, r, s, 0, 0, false⟩) ∧ Below w.heap.size w w' := by
  go_enter Tryz.func188, Tryz.ntmps188
  go_wp2
  exact bodyPost_ret (v := I.v ⟨8, f, d, r, s, 0, 0, false⟩) (by simp [results, Tryz.results188, go_sem]) rfl ⟨rfl, below1 _⟩
theorem s_store (z s r n : Int) (w : World) : Calls Tryz.prog 126 #[.int .i64 z, .int .i64 s, .int .i64 r, .int .i64 n] w fun e w' => e = .returned (I.v ⟨7, 0, 0, r, s, n, z, false⟩) ∧ Below w.heap.size w w' := by
  go_enter Tryz.func126, Tryz.ntmps126
  go_wp2
  exact bodyPost_ret (v := I.v ⟨7, 0, 0, r, s, n, z, false⟩) (by simp [results, Tryz.results126, go_sem]) rfl ⟨rfl, below1 _⟩
theorem s_branch (f r n : Int) (w : World) : Calls Tryz.prog 133 #[.int .i64 f, .int .i64 r, .int .i64 n] w fun e w' => e = .returned (I.v ⟨5, f, 0, r, 0, n, 0, false⟩) ∧ Below w.heap.size w w' := by
  go_enter Tryz.func133, Tryz.ntmps133
  go_wp2
  exact bodyPost_ret (v := I.v ⟨5, f, 0, r, 0, n, 0, false⟩) (by simp [results, Tryz.results133, go_sem]) rfl ⟨rfl, below1 _⟩
theorem s_jalr (d r : Int) (w : World) : Calls Tryz.prog 189 #[.int .i64 d, .int .i64 r] w fun e w' => e = .returned (I.v ⟨4, 0, d, r, 0, 0, 0, false⟩) ∧ Below w.heap.size w w' := by
  go_enter Tryz.func189, Tryz.ntmps189
  go_wp2
  exact bodyPost_ret (v := I.v ⟨4, 0, d, r, 0, 0, 0, false⟩) (by simp [results, Tryz.results189, go_sem]) rfl ⟨rfl, below1 _⟩
theorem x0_0 (c : Int) (h0 : 0 ≤ c) (h1 : c ≤ 65535) (w : World) (hs : cF3 c = 0) :
    Calls Tryz.prog 93 #[.int .u16 c] w fun e w' => e = .returned (.tuple #[(onl ⟨9, 1, cS2 c, 2, 0, cStack c, 0, false⟩ (cStack c)).1.v, .bool (onl ⟨9, 1, cS2 c, 2, 0, cStack c, 0, false⟩ (cStack c)).2]) ∧ Below w.heap.size w w' := by
  go_enter Tryz.func93, Tryz.ntmps93
  go_wp2_with (first | (go_at_call 117; refine (h_f3 c h0 h1 _).mono ?_; rintro e w' ⟨rfl, rfl⟩) | (go_at_call 120; refine (h_shortRs2 c h0 h1 _).mono ?_; rintro e w' ⟨rfl, rfl⟩) | (go_at_call 121; refine (h_immStack c h0 h1 _).mono ?_; rintro e w' ⟨rfl, rfl⟩) | (go_at_call 119; refine (s_addi _ _ _ _).mono ?_; rintro e w1 ⟨rfl, hb⟩; obtain ⟨hc1, hf1⟩ := bcell hb) | (go_at_call 118; refine (m_only _ _ _ _ _ _ _ _ _ _).mono ?_; rintro e w2 ⟨rfl, hb2⟩; obtain ⟨hc2, hf2⟩ := bcell (belowT hb hb2)) | (go_at_call 75; go_in) | (go_at_call 92; go_in))
  exact bodyPost_ret (v := .tuple #[(onl ⟨9, 1, cS2 c, 2, 0, cStack c, 0, false⟩ (cStack c)).1.v, .bool (onl ⟨9, 1, cS2 c, 2, 0, cStack c, 0, false⟩ (cStack c)).2]) (by simp [results, Tryz.results93, go_sem, hc2]) rfl ⟨rfl, below8 (belowA (belowT hb hb2)) (Nat.le_refl _) _ _ _ _ _ _ _ _⟩
theorem x0_2 (c : Int) (h0 : 0 ≤ c) (h1 : c ≤ 65535) (w : World) (hs : cF3 c = 2) :
    Calls Tryz.prog 93 #[.int .u16 c] w fun e w' => e = .returned (.tuple #[I.v ⟨6, 0, cS2 c, cS1 c, 0, cWord c, 4, true⟩, .bool true]) ∧ Below w.heap.size w w' := by
  go_enter Tryz.func93, Tryz.ntmps93
  go_wp2_with (first | (go_at_call 117; refine (h_f3 c h0 h1 _).mono ?_; rintro e w' ⟨rfl, rfl⟩) | (go_at_call 123; refine (h_shortRs1 c h0 h1 _).mono ?_; rintro e w' ⟨rfl, rfl⟩) | (go_at_call 120; refine (h_shortRs2 c h0 h1 _).mono ?_; rintro e w' ⟨rfl, rfl⟩) | (go_at_call 124; refine (h_immWord c h0 h1 _).mono ?_; rintro e w' ⟨rfl, rfl⟩) | (go_at_call 122; refine (s_load _ _ _ _ _).mono ?_; rintro e w1 ⟨rfl, hb⟩; obtain ⟨hc1, hf1⟩ := bcell hb) | (go_at_call 75; go_in) | (go_at_call 92; go_in))
  exact bodyPost_ret (v := .tuple #[I.v ⟨6, 0, cS2 c, cS1 c, 0, cWord c, 4, true⟩, .bool true]) (by simp [results, Tryz.results93, go_sem, hc1]) rfl ⟨rfl, below8 (belowA hb) (Nat.le_refl _) _ _ _ _ _ _ _ _⟩
theorem x0_3 (c : Int) (h0 : 0 ≤ c) (h1 : c ≤ 65535) (w : World) (hs : cF3 c = 3) :
    Calls Tryz.prog 93 #[.int .u16 c] w fun e w' => e = .returned (.tuple #[I.v ⟨6, 0, cS2 c, cS1 c, 0, cDouble c, 8, true⟩, .bool true]) ∧ Below w.heap.size w w' := by
  go_enter Tryz.func93, Tryz.ntmps93
  go_wp2_with (first | (go_at_call 117; refine (h_f3 c h0 h1 _).mono ?_; rintro e w' ⟨rfl, rfl⟩) | (go_at_call 123; refine (h_shortRs1 c h0 h1 _).mono ?_; rintro e w' ⟨rfl, rfl⟩) | (go_at_call 120; refine (h_shortRs2 c h0 h1 _).mono ?_; rintro e w' ⟨rfl, rfl⟩) | (go_at_call 125; refine (h_immDouble c h0 h1 _).mono ?_; rintro e w' ⟨rfl, rfl⟩) | (go_at_call 122; refine (s_load _ _ _ _ _).mono ?_; rintro e w1 ⟨rfl, hb⟩; obtain ⟨hc1, hf1⟩ := bcell hb) | (go_at_call 75; go_in) | (go_at_call 92; go_in))
  exact bodyPost_ret (v := .tuple #[I.v ⟨6, 0, cS2 c, cS1 c, 0, cDouble c, 8, true⟩, .bool true]) (by simp [results, Tryz.results93, go_sem, hc1]) rfl ⟨rfl, below8 (belowA hb) (Nat.le_refl _) _ _ _ _ _ _ _ _⟩
theorem x0_6 (c : Int) (h0 : 0 ≤ c) (h1 : c ≤ 65535) (w : World) (hs : cF3 c = 6) :
    Calls Tryz.prog 93 #[.int .u16 c] w fun e w' => e = .returned (.tuple #[I.v ⟨7, 0, 0, cS1 c, cS2 c, cWord c, 4, false⟩, .bool true]) ∧ Below w.heap.size w w' := by
  go_enter Tryz.func93, Tryz.ntmps93
  go_wp2_with (first | (go_at_call 117; refine (h_f3 c h0 h1 _).mono ?_; rintro e w' ⟨rfl, rfl⟩) | (go_at_call 123; refine (h_shortRs1 c h0 h1 _).mono ?_; rintro e w' ⟨rfl, rfl⟩) | (go_at_call 120; refine (h_shortRs2 c h0 h1 _).mono ?_; rintro e w' ⟨rfl, rfl⟩) | (go_at_call 124; refine (h_immWord c h0 h1 _).mono ?_; rintro e w' ⟨rfl, rfl⟩) | (go_at_call 126; refine (s_store _ _ _ _ _).mono ?_; rintro e w1 ⟨rfl, hb⟩; obtain ⟨hc1, hf1⟩ := bcell hb) | (go_at_call 75; go_in) | (go_at_call 92; go_in))
  exact bodyPost_ret (v := .tuple #[I.v ⟨7, 0, 0, cS1 c, cS2 c, cWord c, 4, false⟩, .bool true]) (by simp [results, Tryz.results93, go_sem, hc1]) rfl ⟨rfl, below8 (belowA hb) (Nat.le_refl _) _ _ _ _ _ _ _ _⟩
theorem x0_7 (c : Int) (h0 : 0 ≤ c) (h1 : c ≤ 65535) (w : World) (hs : cF3 c = 7) :
    Calls Tryz.prog 93 #[.int .u16 c] w fun e w' => e = .returned (.tuple #[I.v ⟨7, 0, 0, cS1 c, cS2 c, cDouble c, 8, false⟩, .bool true]) ∧ Below w.heap.size w w' := by
  go_enter Tryz.func93, Tryz.ntmps93
  go_wp2_with (first | (go_at_call 117; refine (h_f3 c h0 h1 _).mono ?_; rintro e w' ⟨rfl, rfl⟩) | (go_at_call 123; refine (h_shortRs1 c h0 h1 _).mono ?_; rintro e w' ⟨rfl, rfl⟩) | (go_at_call 120; refine (h_shortRs2 c h0 h1 _).mono ?_; rintro e w' ⟨rfl, rfl⟩) | (go_at_call 125; refine (h_immDouble c h0 h1 _).mono ?_; rintro e w' ⟨rfl, rfl⟩) | (go_at_call 126; refine (s_store _ _ _ _ _).mono ?_; rintro e w1 ⟨rfl, hb⟩; obtain ⟨hc1, hf1⟩ := bcell hb) | (go_at_call 75; go_in) | (go_at_call 92; go_in))
  exact bodyPost_ret (v := .tuple #[I.v ⟨7, 0, 0, cS1 c, cS2 c, cDouble c, 8, false⟩, .bool true]) (by simp [results, Tryz.results93, go_sem, hc1]) rfl ⟨rfl, below8 (belowA hb) (Nat.le_refl _) _ _ _ _ _ _ _ _⟩
theorem x0_e (c : Int) (h0 : 0 ≤ c) (h1 : c ≤ 65535) (w : World) (q0 : cF3 c ≠ 0) (q2 : cF3 c ≠ 2) (q3 : cF3 c ≠ 3) (q6 : cF3 c ≠ 6) (q7 : cF3 c ≠ 7) :
    Calls Tryz.prog 93 #[.int .u16 c] w fun e w' => e = .returned (.tuple #[I.v ⟨0, 0, 0, 0, 0, 0, 0, false⟩, .bool false]) ∧ Below w.heap.size w w' := by
  go_enter Tryz.func93, Tryz.ntmps93
  go_wp2_with (first | (go_at_call 117; refine (h_f3 c h0 h1 _).mono ?_; rintro e w' ⟨rfl, rfl⟩) | (go_at_call 75; go_in) | (go_at_call 92; go_in))
  exact bodyPost_ret (v := .tuple #[I.v ⟨0, 0, 0, 0, 0, 0, 0, false⟩, .bool false]) (by simp [results, Tryz.results93, go_sem]) rfl ⟨rfl, below1 _⟩
theorem xu_2 (c : Int) (h0 : 0 ≤ c) (h1 : c ≤ 65535) (w : World) (hs : cRd c = 2) :
    Calls Tryz.prog 130 #[.int .u16 c] w fun e w' => e = .returned (.tuple #[(onl ⟨9, 1, 2, 2, 0, cMove c, 0, false⟩ (cMove c)).1.v, .bool (onl ⟨9, 1, 2, 2, 0, cMove c, 0, false⟩ (cMove c)).2]) ∧ Below w.heap.size w w' := by
  go_enter Tryz.func130, Tryz.ntmps130
  go_wp2_with (first | (go_at_call 127; refine (h_rd c h0 h1 _).mono ?_; rintro e w' ⟨rfl, rfl⟩) | (go_at_call 186; refine (h_immMove c h0 h1 _).mono ?_; rintro e w' ⟨rfl, rfl⟩) | (go_at_call 119; refine (s_addi _ _ _ _).mono ?_; rintro e w1 ⟨rfl, hb⟩; obtain ⟨hc1, hf1⟩ := bcell hb) | (go_at_call 118; refine (m_only _ _ _ _ _ _ _ _ _ _).mono ?_; rintro e w2 ⟨rfl, hb2⟩; obtain ⟨hc2, hf2⟩ := bcell (belowT hb hb2)) | (go_at_call 75; go_in) | (go_at_call 92; go_in))
  exact bodyPost_ret (v := .tuple #[(onl ⟨9, 1, 2, 2, 0, cMove c, 0, false⟩ (cMove c)).1.v, .bool (onl ⟨9, 1, 2, 2, 0, cMove c, 0, false⟩ (cMove c)).2]) (by simp [results, Tryz.results130, go_sem, hc2]) rfl ⟨rfl, below8 (belowA (belowT hb hb2)) (Nat.le_refl _) _ _ _ _ _ _ _ _⟩
theorem xu_e (c : Int) (h0 : 0 ≤ c) (h1 : c ≤ 65535) (w : World) (hs : cRd c ≠ 2) :
    Calls Tryz.prog 130 #[.int .u16 c] w fun e w' => e = .returned (.tuple #[(onl ⟨1, 0, cRd c, 0, 0, cSmall c * 4096, 0, false⟩ (cSmall c * 4096)).1.v, .bool (onl ⟨1, 0, cRd c, 0, 0, cSmall c * 4096, 0, false⟩ (cSmall c * 4096)).2]) ∧ Below w.heap.size w w' := by
  have b : -32 ≤ cSmall c ∧ cSmall c < 32 := by unfold cSmall sx cAm; split <;> omega
  obtain ⟨b0, b1⟩ := b
  go_enter Tryz.func130, Tryz.ntmps130
  go_wp2_with (first | (go_at_call 127; refine (h_rd c h0 h1 _).mono ?_; rintro e w' ⟨rfl, rfl⟩) | (go_at_call 128; refine (h_small c h0 h1 _).mono ?_; rintro e w' ⟨rfl, rfl⟩) | (go_at_call 118; refine (m_only _ _ _ _ _ _ _ _ _ _).mono ?_; rintro e w2 ⟨rfl, hb⟩; obtain ⟨hc1, hf1⟩ := bcell hb) | (go_at_call 75; go_in) | (go_at_call 92; go_in))
  exact bodyPost_ret (v := .tuple #[(onl ⟨1, 0, cRd c, 0, 0, cSmall c * 4096, 0, false⟩ (cSmall c * 4096)).1.v, .bool (onl ⟨1, 0, cRd c, 0, 0, cSmall c * 4096, 0, false⟩ (cSmall c * 4096)).2]) (by simp [results, Tryz.results130, go_sem, hc1]) rfl ⟨rfl, below8 (belowA hb) (Nat.le_refl _) _ _ _ _ _ _ _ _⟩
def cO (c : Int) : Int := c / 4096 % 2 * 4 + c / 32 % 4
def cOp (c : Int) : Int := [2, 6, 9, 10, 20, 19, 0, 0].getD (cO c).toNat 0
theorem oc_O (c : Int) (h0 : 0 ≤ c) (h1 : c ≤ 65535) : bits .or .i64 (c * 524288 % 4294967296 / 2147483648 * 4) (c * 33554432 % 4294967296 / 1073741824) = cO c := by
  rw [or64_2 (c * 524288 % 4294967296 / 2147483648 * 4) (c * 33554432 % 4294967296 / 1073741824) (by omega) (by omega) (by omega) (by omega) (by omega)]
  unfold cO; omega
theorem h_operation (c : Int) (h0 : 0 ≤ c) (h1 : c ≤ 65535) (w : World) :
    Calls Tryz.prog 187 #[.int .u16 c] w fun e w' => e = .returned (.int .i64 (cOp c)) ∧ w' = w := by
  have q := oc_O c h0 h1
  have b : cO c = 0 ∨ cO c = 1 ∨ cO c = 2 ∨ cO c = 3 ∨ cO c = 4 ∨ cO c = 5 ∨ cO c = 6 ∨ cO c = 7 := by unfold cO; omega
  unfold cOp
  rcases b with z | z | z | z | z | z | z | z
  all_goals
    rw [z]
    go_enter Tryz.func187, Tryz.ntmps187
    go_wp2
    go_ret
    exact ⟨rfl, rfl⟩
def cT (c : Int) : Int := c / 1024 % 4
theorem xc_0 (c : Int) (h0 : 0 ≤ c) (h1 : c ≤ 65535) (w : World) (hs : cT c = 0) :
    Calls Tryz.prog 131 #[.int .u16 c] w fun e w' => e = .returned (.tuple #[I.v ⟨9, 7, cS1 c, cS1 c, 0, cAm c, 0, false⟩, .bool true]) ∧ Below w.heap.size w w' := by
  have qt : c * 1048576 % 4294967296 / 1073741824 = cT c := by unfold cT; omega
  go_enter Tryz.func131, Tryz.ntmps131
  go_wp2_with (first | (go_at_call 123; refine (h_shortRs1 c h0 h1 _).mono ?_; rintro e w' ⟨rfl, rfl⟩) | (go_at_call 135; refine (h_amount c h0 h1 _).mono ?_; rintro e w' ⟨rfl, rfl⟩) | (go_at_call 128; refine (h_small c h0 h1 _).mono ?_; rintro e w' ⟨rfl, rfl⟩) | (go_at_call 129; refine (s_aluImm _ _ _ _).mono ?_; rintro e w1 ⟨rfl, hb⟩; obtain ⟨hc1, hf1⟩ := bcell hb) | (go_at_call 75; go_in) | (go_at_call 92; go_in))
  exact bodyPost_ret (v := .tuple #[I.v ⟨9, 7, cS1 c, cS1 c, 0, cAm c, 0, false⟩, .bool true]) (by simp [results, Tryz.results131, go_sem, hc1]) rfl ⟨rfl, below8 (belowA hb) (Nat.le_refl _) _ _ _ _ _ _ _ _⟩
theorem xc_1 (c : Int) (h0 : 0 ≤ c) (h1 : c ≤ 65535) (w : World) (hs : cT c = 1) :
    Calls Tryz.prog 131 #[.int .u16 c] w fun e w' => e = .returned (.tuple #[I.v ⟨9, 8, cS1 c, cS1 c, 0, cAm c, 0, false⟩, .bool true]) ∧ Below w.heap.size w w' := by
  have qt : c * 1048576 % 4294967296 / 1073741824 = cT c := by unfold cT; omega
  go_enter Tryz.func131, Tryz.ntmps131
  go_wp2_with (first | (go_at_call 123; refine (h_shortRs1 c h0 h1 _).mono ?_; rintro e w' ⟨rfl, rfl⟩) | (go_at_call 135; refine (h_amount c h0 h1 _).mono ?_; rintro e w' ⟨rfl, rfl⟩) | (go_at_call 128; refine (h_small c h0 h1 _).mono ?_; rintro e w' ⟨rfl, rfl⟩) | (go_at_call 129; refine (s_aluImm _ _ _ _).mono ?_; rintro e w1 ⟨rfl, hb⟩; obtain ⟨hc1, hf1⟩ := bcell hb) | (go_at_call 75; go_in) | (go_at_call 92; go_in))
  exact bodyPost_ret (v := .tuple #[I.v ⟨9, 8, cS1 c, cS1 c, 0, cAm c, 0, false⟩, .bool true]) (by simp [results, Tryz.results131, go_sem, hc1]) rfl ⟨rfl, below8 (belowA hb) (Nat.le_refl _) _ _ _ _ _ _ _ _⟩
theorem xc_2 (c : Int) (h0 : 0 ≤ c) (h1 : c ≤ 65535) (w : World) (hs : cT c = 2) :
    Calls Tryz.prog 131 #[.int .u16 c] w fun e w' => e = .returned (.tuple #[I.v ⟨9, 10, cS1 c, cS1 c, 0, cSmall c, 0, false⟩, .bool true]) ∧ Below w.heap.size w w' := by
  have qt : c * 1048576 % 4294967296 / 1073741824 = cT c := by unfold cT; omega
  go_enter Tryz.func131, Tryz.ntmps131
  go_wp2_with (first | (go_at_call 123; refine (h_shortRs1 c h0 h1 _).mono ?_; rintro e w' ⟨rfl, rfl⟩) | (go_at_call 135; refine (h_amount c h0 h1 _).mono ?_; rintro e w' ⟨rfl, rfl⟩) | (go_at_call 128; refine (h_small c h0 h1 _).mono ?_; rintro e w' ⟨rfl, rfl⟩) | (go_at_call 129; refine (s_aluImm _ _ _ _).mono ?_; rintro e w1 ⟨rfl, hb⟩; obtain ⟨hc1, hf1⟩ := bcell hb) | (go_at_call 75; go_in) | (go_at_call 92; go_in))
  exact bodyPost_ret (v := .tuple #[I.v ⟨9, 10, cS1 c, cS1 c, 0, cSmall c, 0, false⟩, .bool true]) (by simp [results, Tryz.results131, go_sem, hc1]) rfl ⟨rfl, below8 (belowA hb) (Nat.le_refl _) _ _ _ _ _ _ _ _⟩
theorem xc_e (c : Int) (h0 : 0 ≤ c) (h1 : c ≤ 65535) (w : World) (q0 : cT c ≠ 0) (q1 : cT c ≠ 1) (q2 : cT c ≠ 2) :
    Calls Tryz.prog 131 #[.int .u16 c] w fun e w' => e = .returned (.tuple #[(onl ⟨8, cOp c, cS1 c, cS1 c, cS2 c, 0, 0, false⟩ (cOp c)).1.v, .bool (onl ⟨8, cOp c, cS1 c, cS1 c, cS2 c, 0, 0, false⟩ (cOp c)).2]) ∧ Below w.heap.size w w' := by
  have qt : c * 1048576 % 4294967296 / 1073741824 = cT c := by unfold cT; omega
  go_enter Tryz.func131, Tryz.ntmps131
  go_wp2_with (first | (go_at_call 187; refine (h_operation c h0 h1 _).mono ?_; rintro e w' ⟨rfl, rfl⟩) | (go_at_call 123; refine (h_shortRs1 c h0 h1 _).mono ?_; rintro e w' ⟨rfl, rfl⟩) | (go_at_call 120; refine (h_shortRs2 c h0 h1 _).mono ?_; rintro e w' ⟨rfl, rfl⟩) | (go_at_call 188; refine (s_alu _ _ _ _ _).mono ?_; rintro e w1 ⟨rfl, hb⟩; obtain ⟨hc1, hf1⟩ := bcell hb) | (go_at_call 118; refine (m_only _ _ _ _ _ _ _ _ _ _).mono ?_; rintro e w2 ⟨rfl, hb2⟩; obtain ⟨hc2, hf2⟩ := bcell (belowT hb hb2)) | (go_at_call 75; go_in) | (go_at_call 92; go_in))
  exact bodyPost_ret (v := .tuple #[(onl ⟨8, cOp c, cS1 c, cS1 c, cS2 c, 0, 0, false⟩ (cOp c)).1.v, .bool (onl ⟨8, cOp c, cS1 c, cS1 c, cS2 c, 0, 0, false⟩ (cOp c)).2]) (by simp [results, Tryz.results131, go_sem, hc2]) rfl ⟨rfl, below8 (belowA (belowT hb hb2)) (Nat.le_refl _) _ _ _ _ _ _ _ _⟩
def XU (c : Int) : I × Bool := if cRd c = 2 then (onl ⟨9, 1, 2, 2, 0, cMove c, 0, false⟩ (cMove c)) else (onl ⟨1, 0, cRd c, 0, 0, cSmall c * 4096, 0, false⟩ (cSmall c * 4096))
def XC (c : Int) : I × Bool := if cT c = 0 then (⟨9, 7, cS1 c, cS1 c, 0, cAm c, 0, false⟩, true) else if cT c = 1 then (⟨9, 8, cS1 c, cS1 c, 0, cAm c, 0, false⟩, true) else if cT c = 2 then (⟨9, 10, cS1 c, cS1 c, 0, cSmall c, 0, false⟩, true) else (onl ⟨8, cOp c, cS1 c, cS1 c, cS2 c, 0, 0, false⟩ (cOp c))
theorem h_upper (c : Int) (h0 : 0 ≤ c) (h1 : c ≤ 65535) (w : World) :
    Calls Tryz.prog 130 #[.int .u16 c] w fun e w' => e = .returned (.tuple #[(XU c).1.v, .bool (XU c).2]) ∧ Below w.heap.size w w' := by
  unfold XU
  by_cases q : cRd c = 2
  · rw [if_pos q]; exact xu_2 c h0 h1 w q
  rw [if_neg q]
  exact xu_e c h0 h1 w q
theorem h_calculate (c : Int) (h0 : 0 ≤ c) (h1 : c ≤ 65535) (w : World) :
    Calls Tryz.prog 131 #[.int .u16 c] w fun e w' => e = .returned (.tuple #[(XC c).1.v, .bool (XC c).2]) ∧ Below w.heap.size w w' := by
  unfold XC
  by_cases q0 : cT c = 0
  · rw [if_pos q0]; exact xc_0 c h0 h1 w q0
  rw [if_neg q0]
  by_cases q1 : cT c = 1
  · rw [if_pos q1]; exact xc_1 c h0 h1 w q1
  rw [if_neg q1]
  by_cases q2 : cT c = 2
  · rw [if_pos q2]; exact xc_2 c h0 h1 w q2
  rw [if_neg q2]
  exact xc_e c h0 h1 w q0 q1 q2
def X0 (c : Int) : I × Bool := if cF3 c = 0 then (onl ⟨9, 1, cS2 c, 2, 0, cStack c, 0, false⟩ (cStack c)) else if cF3 c = 2 then (⟨6, 0, cS2 c, cS1 c, 0, cWord c, 4, true⟩, true) else if cF3 c = 3 then (⟨6, 0, cS2 c, cS1 c, 0, cDouble c, 8, true⟩, true) else if cF3 c = 6 then (⟨7, 0, 0, cS1 c, cS2 c, cWord c, 4, false⟩, true) else if cF3 c = 7 then (⟨7, 0, 0, cS1 c, cS2 c, cDouble c, 8, false⟩, true) else no
theorem h_first (c : Int) (h0 : 0 ≤ c) (h1 : c ≤ 65535) (w : World) :
    Calls Tryz.prog 93 #[.int .u16 c] w fun e w' => e = .returned (.tuple #[(X0 c).1.v, .bool (X0 c).2]) ∧ Below w.heap.size w w' := by
  unfold X0
  by_cases q0 : cF3 c = 0
  · rw [if_pos q0]; exact x0_0 c h0 h1 w q0
  rw [if_neg q0]
  by_cases q2 : cF3 c = 2
  · rw [if_pos q2]; exact x0_2 c h0 h1 w q2
  rw [if_neg q2]
  by_cases q3 : cF3 c = 3
  · rw [if_pos q3]; exact x0_3 c h0 h1 w q3
  rw [if_neg q3]
  by_cases q6 : cF3 c = 6
  · rw [if_pos q6]; exact x0_6 c h0 h1 w q6
  rw [if_neg q6]
  by_cases q7 : cF3 c = 7
  · rw [if_pos q7]; exact x0_7 c h0 h1 w q7
  rw [if_neg q7]
  exact x0_e c h0 h1 w q0 q2 q3 q6 q7
theorem x1_0 (c : Int) (h0 : 0 ≤ c) (h1 : c ≤ 65535) (w : World) (hs : cF3 c = 0) :
    Calls Tryz.prog 94 #[.int .u16 c] w fun e w' => e = .returned (.tuple #[I.v ⟨9, 1, cRd c, cRd c, 0, cSmall c, 0, false⟩, .bool true]) ∧ Below w.heap.size w w' := by
  go_enter Tryz.func94, Tryz.ntmps94
  go_wp2_with (first | (go_at_call 117; refine (h_f3 c h0 h1 _).mono ?_; rintro e w' ⟨rfl, rfl⟩) | (go_at_call 127; refine (h_rd c h0 h1 _).mono ?_; rintro e w' ⟨rfl, rfl⟩) | (go_at_call 128; refine (h_small c h0 h1 _).mono ?_; rintro e w' ⟨rfl, rfl⟩) | (go_at_call 119; refine (s_addi _ _ _ _).mono ?_; rintro e w1 ⟨rfl, hb⟩; obtain ⟨hc1, hf1⟩ := bcell hb) | (go_at_call 75; go_in) | (go_at_call 92; go_in))
  exact bodyPost_ret (v := .tuple #[I.v ⟨9, 1, cRd c, cRd c, 0, cSmall c, 0, false⟩, .bool true]) (by simp [results, Tryz.results94, go_sem, hc1]) rfl ⟨rfl, below8 (belowA hb) (Nat.le_refl _) _ _ _ _ _ _ _ _⟩
theorem x1_1 (c : Int) (h0 : 0 ≤ c) (h1 : c ≤ 65535) (w : World) (hs : cF3 c = 1) :
    Calls Tryz.prog 94 #[.int .u16 c] w fun e w' => e = .returned (.tuple #[(onl ⟨9, 19, cRd c, cRd c, 0, cSmall c, 0, false⟩ (cRd c)).1.v, .bool (onl ⟨9, 19, cRd c, cRd c, 0, cSmall c, 0, false⟩ (cRd c)).2]) ∧ Below w.heap.size w w' := by
  go_enter Tryz.func94, Tryz.ntmps94
  go_wp2_with (first | (go_at_call 117; refine (h_f3 c h0 h1 _).mono ?_; rintro e w' ⟨rfl, rfl⟩) | (go_at_call 127; refine (h_rd c h0 h1 _).mono ?_; rintro e w' ⟨rfl, rfl⟩) | (go_at_call 128; refine (h_small c h0 h1 _).mono ?_; rintro e w' ⟨rfl, rfl⟩) | (go_at_call 129; refine (s_aluImm _ _ _ _).mono ?_; rintro e w1 ⟨rfl, hb⟩; obtain ⟨hc1, hf1⟩ := bcell hb) | (go_at_call 118; refine (m_only _ _ _ _ _ _ _ _ _ _).mono ?_; rintro e w2 ⟨rfl, hb2⟩; obtain ⟨hc2, hf2⟩ := bcell (belowT hb hb2)) | (go_at_call 75; go_in) | (go_at_call 92; go_in))
  exact bodyPost_ret (v := .tuple #[(onl ⟨9, 19, cRd c, cRd c, 0, cSmall c, 0, false⟩ (cRd c)).1.v, .bool (onl ⟨9, 19, cRd c, cRd c, 0, cSmall c, 0, false⟩ (cRd c)).2]) (by simp [results, Tryz.results94, go_sem, hc2]) rfl ⟨rfl, below8 (belowA (belowT hb hb2)) (Nat.le_refl _) _ _ _ _ _ _ _ _⟩
theorem x1_2 (c : Int) (h0 : 0 ≤ c) (h1 : c ≤ 65535) (w : World) (hs : cF3 c = 2) :
    Calls Tryz.prog 94 #[.int .u16 c] w fun e w' => e = .returned (.tuple #[I.v ⟨9, 1, cRd c, 0, 0, cSmall c, 0, false⟩, .bool true]) ∧ Below w.heap.size w w' := by
  go_enter Tryz.func94, Tryz.ntmps94
  go_wp2_with (first | (go_at_call 117; refine (h_f3 c h0 h1 _).mono ?_; rintro e w' ⟨rfl, rfl⟩) | (go_at_call 127; refine (h_rd c h0 h1 _).mono ?_; rintro e w' ⟨rfl, rfl⟩) | (go_at_call 128; refine (h_small c h0 h1 _).mono ?_; rintro e w' ⟨rfl, rfl⟩) | (go_at_call 119; refine (s_addi _ _ _ _).mono ?_; rintro e w1 ⟨rfl, hb⟩; obtain ⟨hc1, hf1⟩ := bcell hb) | (go_at_call 75; go_in) | (go_at_call 92; go_in))
  exact bodyPost_ret (v := .tuple #[I.v ⟨9, 1, cRd c, 0, 0, cSmall c, 0, false⟩, .bool true]) (by simp [results, Tryz.results94, go_sem, hc1]) rfl ⟨rfl, below8 (belowA hb) (Nat.le_refl _) _ _ _ _ _ _ _ _⟩
theorem x1_3 (c : Int) (h0 : 0 ≤ c) (h1 : c ≤ 65535) (w : World) (hs : cF3 c = 3) :
    Calls Tryz.prog 94 #[.int .u16 c] w fun e w' => e = .returned (.tuple #[(XU c).1.v, .bool (XU c).2]) ∧ Below w.heap.size w w' := by
  go_enter Tryz.func94, Tryz.ntmps94
  go_wp2_with (first | (go_at_call 117; refine (h_f3 c h0 h1 _).mono ?_; rintro e w' ⟨rfl, rfl⟩) | (go_at_call 130; refine (h_upper c h0 h1 _).mono ?_; rintro e w1 ⟨rfl, hb⟩; obtain ⟨hc1, hf1⟩ := bcell hb) | (go_at_call 75; go_in) | (go_at_call 92; go_in))
  exact bodyPost_ret (v := .tuple #[(XU c).1.v, .bool (XU c).2]) (by simp [results, Tryz.results94, go_sem, hc1]) rfl ⟨rfl, below8 (belowA hb) (Nat.le_refl _) _ _ _ _ _ _ _ _⟩
theorem x1_4 (c : Int) (h0 : 0 ≤ c) (h1 : c ≤ 65535) (w : World) (hs : cF3 c = 4) :
    Calls Tryz.prog 94 #[.int .u16 c] w fun e w' => e = .returned (.tuple #[(XC c).1.v, .bool (XC c).2]) ∧ Below w.heap.size w w' := by
  go_enter Tryz.func94, Tryz.ntmps94
  go_wp2_with (first | (go_at_call 117; refine (h_f3 c h0 h1 _).mono ?_; rintro e w' ⟨rfl, rfl⟩) | (go_at_call 131; refine (h_calculate c h0 h1 _).mono ?_; rintro e w1 ⟨rfl, hb⟩; obtain ⟨hc1, hf1⟩ := bcell hb) | (go_at_call 75; go_in) | (go_at_call 92; go_in))
  exact bodyPost_ret (v := .tuple #[(XC c).1.v, .bool (XC c).2]) (by simp [results, Tryz.results94, go_sem, hc1]) rfl ⟨rfl, below8 (belowA hb) (Nat.le_refl _) _ _ _ _ _ _ _ _⟩
theorem x1_5 (c : Int) (h0 : 0 ≤ c) (h1 : c ≤ 65535) (w : World) (hs : cF3 c = 5) :
    Calls Tryz.prog 94 #[.int .u16 c] w fun e w' => e = .returned (.tuple #[I.v ⟨3, 0, 0, 0, 0, cJump c, 0, false⟩, .bool true]) ∧ Below w.heap.size w w' := by
  go_enter Tryz.func94, Tryz.ntmps94
  go_wp2_with (first | (go_at_call 117; refine (h_f3 c h0 h1 _).mono ?_; rintro e w' ⟨rfl, rfl⟩) | (go_at_call 132; refine (h_immJump c h0 h1 _).mono ?_; rintro e w' ⟨rfl, rfl⟩) | (go_at_call 75; go_in) | (go_at_call 92; go_in))
  exact bodyPost_ret (v := .tuple #[I.v ⟨3, 0, 0, 0, 0, cJump c, 0, false⟩, .bool true]) (by simp [results, Tryz.results94, go_sem]) rfl ⟨rfl, below1 _⟩
theorem x1_6 (c : Int) (h0 : 0 ≤ c) (h1 : c ≤ 65535) (w : World) (hs : cF3 c = 6) :
    Calls Tryz.prog 94 #[.int .u16 c] w fun e w' => e = .returned (.tuple #[I.v ⟨5, 1, 0, cS1 c, 0, cBranch c, 0, false⟩, .bool true]) ∧ Below w.heap.size w w' := by
  go_enter Tryz.func94, Tryz.ntmps94
  go_wp2_with (first | (go_at_call 117; refine (h_f3 c h0 h1 _).mono ?_; rintro e w' ⟨rfl, rfl⟩) | (go_at_call 123; refine (h_shortRs1 c h0 h1 _).mono ?_; rintro e w' ⟨rfl, rfl⟩) | (go_at_call 134; refine (h_immBranch c h0 h1 _).mono ?_; rintro e w' ⟨rfl, rfl⟩) | (go_at_call 133; refine (s_branch _ _ _ _).mono ?_; rintro e w1 ⟨rfl, hb⟩; obtain ⟨hc1, hf1⟩ := bcell hb) | (go_at_call 75; go_in) | (go_at_call 92; go_in))
  exact bodyPost_ret (v := .tuple #[I.v ⟨5, 1, 0, cS1 c, 0, cBranch c, 0, false⟩, .bool true]) (by simp [results, Tryz.results94, go_sem, hc1]) rfl ⟨rfl, below8 (belowA hb) (Nat.le_refl _) _ _ _ _ _ _ _ _⟩
theorem x1_e (c : Int) (h0 : 0 ≤ c) (h1 : c ≤ 65535) (w : World) (q0 : cF3 c ≠ 0) (q1 : cF3 c ≠ 1) (q2 : cF3 c ≠ 2) (q3 : cF3 c ≠ 3) (q4 : cF3 c ≠ 4) (q5 : cF3 c ≠ 5) (q6 : cF3 c ≠ 6) :
    Calls Tryz.prog 94 #[.int .u16 c] w fun e w' => e = .returned (.tuple #[I.v ⟨5, 2, 0, cS1 c, 0, cBranch c, 0, false⟩, .bool true]) ∧ Below w.heap.size w w' := by
  go_enter Tryz.func94, Tryz.ntmps94
  go_wp2_with (first | (go_at_call 117; refine (h_f3 c h0 h1 _).mono ?_; rintro e w' ⟨rfl, rfl⟩) | (go_at_call 123; refine (h_shortRs1 c h0 h1 _).mono ?_; rintro e w' ⟨rfl, rfl⟩) | (go_at_call 134; refine (h_immBranch c h0 h1 _).mono ?_; rintro e w' ⟨rfl, rfl⟩) | (go_at_call 133; refine (s_branch _ _ _ _).mono ?_; rintro e w1 ⟨rfl, hb⟩; obtain ⟨hc1, hf1⟩ := bcell hb) | (go_at_call 75; go_in) | (go_at_call 92; go_in))
  exact bodyPost_ret (v := .tuple #[I.v ⟨5, 2, 0, cS1 c, 0, cBranch c, 0, false⟩, .bool true]) (by simp [results, Tryz.results94, go_sem, hc1]) rfl ⟨rfl, below8 (belowA hb) (Nat.le_refl _) _ _ _ _ _ _ _ _⟩
def X1 (c : Int) : I × Bool := if cF3 c = 0 then (⟨9, 1, cRd c, cRd c, 0, cSmall c, 0, false⟩, true) else if cF3 c = 1 then (onl ⟨9, 19, cRd c, cRd c, 0, cSmall c, 0, false⟩ (cRd c)) else if cF3 c = 2 then (⟨9, 1, cRd c, 0, 0, cSmall c, 0, false⟩, true) else if cF3 c = 3 then XU c else if cF3 c = 4 then XC c else if cF3 c = 5 then (⟨3, 0, 0, 0, 0, cJump c, 0, false⟩, true) else if cF3 c = 6 then (⟨5, 1, 0, cS1 c, 0, cBranch c, 0, false⟩, true) else (⟨5, 2, 0, cS1 c, 0, cBranch c, 0, false⟩, true)
theorem h_second (c : Int) (h0 : 0 ≤ c) (h1 : c ≤ 65535) (w : World) :
    Calls Tryz.prog 94 #[.int .u16 c] w fun e w' => e = .returned (.tuple #[(X1 c).1.v, .bool (X1 c).2]) ∧ Below w.heap.size w w' := by
  unfold X1
  by_cases q0 : cF3 c = 0
  · rw [if_pos q0]; exact x1_0 c h0 h1 w q0
  rw [if_neg q0]
  by_cases q1 : cF3 c = 1
  · rw [if_pos q1]; exact x1_1 c h0 h1 w q1
  rw [if_neg q1]
  by_cases q2 : cF3 c = 2
  · rw [if_pos q2]; exact x1_2 c h0 h1 w q2
  rw [if_neg q2]
  by_cases q3 : cF3 c = 3
  · rw [if_pos q3]; exact x1_3 c h0 h1 w q3
  rw [if_neg q3]
  by_cases q4 : cF3 c = 4
  · rw [if_pos q4]; exact x1_4 c h0 h1 w q4
  rw [if_neg q4]
  by_cases q5 : cF3 c = 5
  · rw [if_pos q5]; exact x1_5 c h0 h1 w q5
  rw [if_neg q5]
  by_cases q6 : cF3 c = 6
  · rw [if_pos q6]; exact x1_6 c h0 h1 w q6
  rw [if_neg q6]
  exact x1_e c h0 h1 w q0 q1 q2 q3 q4 q5 q6
def cU (c : Int) : Int := c / 4096 % 2
theorem xm_0 (c : Int) (h0 : 0 ≤ c) (h1 : c ≤ 65535) (w : World) (hu : cU c = 1) (hd : cRd c = 0) (h2 : cR2 c = 0) :
    Calls Tryz.prog 138 #[.int .u16 c] w fun e w' => e = .returned (.tuple #[I.v ⟨12, 0, 0, 0, 0, 0, 0, false⟩, .bool true]) ∧ Below w.heap.size w w' := by
  have qu : c * 524288 % 4294967296 / 2147483648 = cU c := by unfold cU; omega
  go_enter Tryz.func138, Tryz.ntmps138
  go_wp2_with (first | (go_at_call 127; refine (h_rd c h0 h1 _).mono ?_; rintro e w' ⟨rfl, rfl⟩) | (go_at_call 139; refine (h_rs2 c h0 h1 _).mono ?_; rintro e w' ⟨rfl, rfl⟩) | (go_at_call 75; go_in) | (go_at_call 92; go_in))
  exact bodyPost_ret (v := .tuple #[I.v ⟨12, 0, 0, 0, 0, 0, 0, false⟩, .bool true]) (by simp [results, Tryz.results138, go_sem]) rfl ⟨rfl, below1 _⟩
theorem xm_1 (c : Int) (h0 : 0 ≤ c) (h1 : c ≤ 65535) (w : World) (hu : cU c = 1) (hd : cRd c ≠ 0) (h2 : cR2 c = 0) :
    Calls Tryz.prog 138 #[.int .u16 c] w fun e w' => e = .returned (.tuple #[I.v ⟨4, 0, 1, cRd c, 0, 0, 0, false⟩, .bool true]) ∧ Below w.heap.size w w' := by
  have qu : c * 524288 % 4294967296 / 2147483648 = cU c := by unfold cU; omega
  go_enter Tryz.func138, Tryz.ntmps138
  go_wp2_with (first | (go_at_call 127; refine (h_rd c h0 h1 _).mono ?_; rintro e w' ⟨rfl, rfl⟩) | (go_at_call 139; refine (h_rs2 c h0 h1 _).mono ?_; rintro e w' ⟨rfl, rfl⟩) | (go_at_call 189; refine (s_jalr _ _ _).mono ?_; rintro e w1 ⟨rfl, hb⟩; obtain ⟨hc1, hf1⟩ := bcell hb) | (go_at_call 75; go_in) | (go_at_call 92; go_in))
  exact bodyPost_ret (v := .tuple #[I.v ⟨4, 0, 1, cRd c, 0, 0, 0, false⟩, .bool true]) (by simp [results, Tryz.results138, go_sem, hc1]) rfl ⟨rfl, below8 (belowA hb) (Nat.le_refl _) _ _ _ _ _ _ _ _⟩
theorem xm_2 (c : Int) (h0 : 0 ≤ c) (h1 : c ≤ 65535) (w : World) (hu : cU c = 1) (hd : cRd c ≠ 0) (h2 : cR2 c ≠ 0) :
    Calls Tryz.prog 138 #[.int .u16 c] w fun e w' => e = .returned (.tuple #[I.v ⟨8, 1, cRd c, cRd c, cR2 c, 0, 0, false⟩, .bool true]) ∧ Below w.heap.size w w' := by
  have qu : c * 524288 % 4294967296 / 2147483648 = cU c := by unfold cU; omega
  go_enter Tryz.func138, Tryz.ntmps138
  go_wp2_with (first | (go_at_call 127; refine (h_rd c h0 h1 _).mono ?_; rintro e w' ⟨rfl, rfl⟩) | (go_at_call 139; refine (h_rs2 c h0 h1 _).mono ?_; rintro e w' ⟨rfl, rfl⟩) | (go_at_call 188; refine (s_alu _ _ _ _ _).mono ?_; rintro e w1 ⟨rfl, hb⟩; obtain ⟨hc1, hf1⟩ := bcell hb) | (go_at_call 75; go_in) | (go_at_call 92; go_in))
  exact bodyPost_ret (v := .tuple #[I.v ⟨8, 1, cRd c, cRd c, cR2 c, 0, 0, false⟩, .bool true]) (by simp [results, Tryz.results138, go_sem, hc1]) rfl ⟨rfl, below8 (belowA hb) (Nat.le_refl _) _ _ _ _ _ _ _ _⟩
theorem xm_2z (c : Int) (h0 : 0 ≤ c) (h1 : c ≤ 65535) (w : World) (hu : cU c = 1) (hd : cRd c = 0) (h2 : cR2 c ≠ 0) :
    Calls Tryz.prog 138 #[.int .u16 c] w fun e w' => e = .returned (.tuple #[I.v ⟨8, 1, 0, 0, cR2 c, 0, 0, false⟩, .bool true]) ∧ Below w.heap.size w w' := by
  have qu : c * 524288 % 4294967296 / 2147483648 = cU c := by unfold cU; omega
  go_enter Tryz.func138, Tryz.ntmps138
  go_wp2_with (first | (go_at_call 127; refine (h_rd c h0 h1 _).mono ?_; rintro e w' ⟨rfl, rfl⟩) | (go_at_call 139; refine (h_rs2 c h0 h1 _).mono ?_; rintro e w' ⟨rfl, rfl⟩) | (go_at_call 188; refine (s_alu _ _ _ _ _).mono ?_; rintro e w1 ⟨rfl, hb⟩; obtain ⟨hc1, hf1⟩ := bcell hb) | (go_at_call 75; go_in) | (go_at_call 92; go_in))
  exact bodyPost_ret (v := .tuple #[I.v ⟨8, 1, 0, 0, cR2 c, 0, 0, false⟩, .bool true]) (by simp [results, Tryz.results138, go_sem, hc1]) rfl ⟨rfl, below8 (belowA hb) (Nat.le_refl _) _ _ _ _ _ _ _ _⟩
theorem xm_3 (c : Int) (h0 : 0 ≤ c) (h1 : c ≤ 65535) (w : World) (hu : cU c = 0) (h2 : cR2 c = 0) :
    Calls Tryz.prog 138 #[.int .u16 c] w fun e w' => e = .returned (.tuple #[(onl ⟨4, 0, 0, cRd c, 0, 0, 0, false⟩ (cRd c)).1.v, .bool (onl ⟨4, 0, 0, cRd c, 0, 0, 0, false⟩ (cRd c)).2]) ∧ Below w.heap.size w w' := by
  have qu : c * 524288 % 4294967296 / 2147483648 = cU c := by unfold cU; omega
  go_enter Tryz.func138, Tryz.ntmps138
  go_wp2_with (first | (go_at_call 127; refine (h_rd c h0 h1 _).mono ?_; rintro e w' ⟨rfl, rfl⟩) | (go_at_call 139; refine (h_rs2 c h0 h1 _).mono ?_; rintro e w' ⟨rfl, rfl⟩) | (go_at_call 189; refine (s_jalr _ _ _).mono ?_; rintro e w1 ⟨rfl, hb⟩; obtain ⟨hc1, hf1⟩ := bcell hb) | (go_at_call 118; refine (m_only _ _ _ _ _ _ _ _ _ _).mono ?_; rintro e w2 ⟨rfl, hb2⟩; obtain ⟨hc2, hf2⟩ := bcell (belowT hb hb2)) | (go_at_call 75; go_in) | (go_at_call 92; go_in))
  exact bodyPost_ret (v := .tuple #[(onl ⟨4, 0, 0, cRd c, 0, 0, 0, false⟩ (cRd c)).1.v, .bool (onl ⟨4, 0, 0, cRd c, 0, 0, 0, false⟩ (cRd c)).2]) (by simp [results, Tryz.results138, go_sem, hc2]) rfl ⟨rfl, below8 (belowA (belowT hb hb2)) (Nat.le_refl _) _ _ _ _ _ _ _ _⟩
theorem xm_4 (c : Int) (h0 : 0 ≤ c) (h1 : c ≤ 65535) (w : World) (hu : cU c = 0) (h2 : cR2 c ≠ 0) :
    Calls Tryz.prog 138 #[.int .u16 c] w fun e w' => e = .returned (.tuple #[I.v ⟨8, 1, cRd c, 0, cR2 c, 0, 0, false⟩, .bool true]) ∧ Below w.heap.size w w' := by
  have qu : c * 524288 % 4294967296 / 2147483648 = cU c := by unfold cU; omega
  go_enter Tryz.func138, Tryz.ntmps138
  go_wp2_with (first | (go_at_call 127; refine (h_rd c h0 h1 _).mono ?_; rintro e w' ⟨rfl, rfl⟩) | (go_at_call 139; refine (h_rs2 c h0 h1 _).mono ?_; rintro e w' ⟨rfl, rfl⟩) | (go_at_call 188; refine (s_alu _ _ _ _ _).mono ?_; rintro e w1 ⟨rfl, hb⟩; obtain ⟨hc1, hf1⟩ := bcell hb) | (go_at_call 75; go_in) | (go_at_call 92; go_in))
  exact bodyPost_ret (v := .tuple #[I.v ⟨8, 1, cRd c, 0, cR2 c, 0, 0, false⟩, .bool true]) (by simp [results, Tryz.results138, go_sem, hc1]) rfl ⟨rfl, below8 (belowA hb) (Nat.le_refl _) _ _ _ _ _ _ _ _⟩
def XM (c : Int) : I × Bool := if cU c = 1 then (if cR2 c = 0 then (if cRd c = 0 then (⟨12, 0, 0, 0, 0, 0, 0, false⟩, true) else (⟨4, 0, 1, cRd c, 0, 0, 0, false⟩, true)) else (⟨8, 1, cRd c, cRd c, cR2 c, 0, 0, false⟩, true)) else if cR2 c = 0 then (onl ⟨4, 0, 0, cRd c, 0, 0, 0, false⟩ (cRd c)) else (⟨8, 1, cRd c, 0, cR2 c, 0, 0, false⟩, true)
theorem h_move (c : Int) (h0 : 0 ≤ c) (h1 : c ≤ 65535) (w : World) :
    Calls Tryz.prog 138 #[.int .u16 c] w fun e w' => e = .returned (.tuple #[(XM c).1.v, .bool (XM c).2]) ∧ Below w.heap.size w w' := by
  unfold XM
  by_cases hu : cU c = 1
  · rw [if_pos hu]
    by_cases h2 : cR2 c = 0
    · rw [if_pos h2]
      by_cases hd : cRd c = 0
      · rw [if_pos hd]; exact xm_0 c h0 h1 w hu hd h2
      · rw [if_neg hd]; exact xm_1 c h0 h1 w hu hd h2
    · rw [if_neg h2]
      by_cases hd : cRd c = 0
      · rw [hd]; exact xm_2z c h0 h1 w hu hd h2
      · exact xm_2 c h0 h1 w hu hd h2
  · rw [if_neg hu]
    have hu0 : cU c = 0 := by unfold cU at *; omega
    by_cases h2 : cR2 c = 0
    · rw [if_pos h2]; exact xm_3 c h0 h1 w hu0 h2
    · rw [if_neg h2]; exact xm_4 c h0 h1 w hu0 h2
theorem x2_0 (c : Int) (h0 : 0 ≤ c) (h1 : c ≤ 65535) (w : World) (hs : cF3 c = 0) :
    Calls Tryz.prog 95 #[.int .u16 c] w fun e w' => e = .returned (.tuple #[I.v ⟨9, 3, cRd c, cRd c, 0, cAm c, 0, false⟩, .bool true]) ∧ Below w.heap.size w w' := by
  go_enter Tryz.func95, Tryz.ntmps95
  go_wp2_with (first | (go_at_call 117; refine (h_f3 c h0 h1 _).mono ?_; rintro e w' ⟨rfl, rfl⟩) | (go_at_call 127; refine (h_rd c h0 h1 _).mono ?_; rintro e w' ⟨rfl, rfl⟩) | (go_at_call 135; refine (h_amount c h0 h1 _).mono ?_; rintro e w' ⟨rfl, rfl⟩) | (go_at_call 129; refine (s_aluImm _ _ _ _).mono ?_; rintro e w1 ⟨rfl, hb⟩; obtain ⟨hc1, hf1⟩ := bcell hb) | (go_at_call 75; go_in) | (go_at_call 92; go_in))
  exact bodyPost_ret (v := .tuple #[I.v ⟨9, 3, cRd c, cRd c, 0, cAm c, 0, false⟩, .bool true]) (by simp [results, Tryz.results95, go_sem, hc1]) rfl ⟨rfl, below8 (belowA hb) (Nat.le_refl _) _ _ _ _ _ _ _ _⟩
theorem x2_2 (c : Int) (h0 : 0 ≤ c) (h1 : c ≤ 65535) (w : World) (hs : cF3 c = 2) :
    Calls Tryz.prog 95 #[.int .u16 c] w fun e w' => e = .returned (.tuple #[(onl ⟨6, 0, cRd c, 2, 0, cPopW c, 4, true⟩ (cRd c)).1.v, .bool (onl ⟨6, 0, cRd c, 2, 0, cPopW c, 4, true⟩ (cRd c)).2]) ∧ Below w.heap.size w w' := by
  go_enter Tryz.func95, Tryz.ntmps95
  go_wp2_with (first | (go_at_call 117; refine (h_f3 c h0 h1 _).mono ?_; rintro e w' ⟨rfl, rfl⟩) | (go_at_call 127; refine (h_rd c h0 h1 _).mono ?_; rintro e w' ⟨rfl, rfl⟩) | (go_at_call 136; refine (h_immPopWord c h0 h1 _).mono ?_; rintro e w' ⟨rfl, rfl⟩) | (go_at_call 122; refine (s_load _ _ _ _ _).mono ?_; rintro e w1 ⟨rfl, hb⟩; obtain ⟨hc1, hf1⟩ := bcell hb) | (go_at_call 118; refine (m_only _ _ _ _ _ _ _ _ _ _).mono ?_; rintro e w2 ⟨rfl, hb2⟩; obtain ⟨hc2, hf2⟩ := bcell (belowT hb hb2)) | (go_at_call 75; go_in) | (go_at_call 92; go_in))
  exact bodyPost_ret (v := .tuple #[(onl ⟨6, 0, cRd c, 2, 0, cPopW c, 4, true⟩ (cRd c)).1.v, .bool (onl ⟨6, 0, cRd c, 2, 0, cPopW c, 4, true⟩ (cRd c)).2]) (by simp [results, Tryz.results95, go_sem, hc2]) rfl ⟨rfl, below8 (belowA (belowT hb hb2)) (Nat.le_refl _) _ _ _ _ _ _ _ _⟩
theorem x2_3 (c : Int) (h0 : 0 ≤ c) (h1 : c ≤ 65535) (w : World) (hs : cF3 c = 3) :
    Calls Tryz.prog 95 #[.int .u16 c] w fun e w' => e = .returned (.tuple #[(onl ⟨6, 0, cRd c, 2, 0, cPopD c, 8, true⟩ (cRd c)).1.v, .bool (onl ⟨6, 0, cRd c, 2, 0, cPopD c, 8, true⟩ (cRd c)).2]) ∧ Below w.heap.size w w' := by
  go_enter Tryz.func95, Tryz.ntmps95
  go_wp2_with (first | (go_at_call 117; refine (h_f3 c h0 h1 _).mono ?_; rintro e w' ⟨rfl, rfl⟩) | (go_at_call 127; refine (h_rd c h0 h1 _).mono ?_; rintro e w' ⟨rfl, rfl⟩) | (go_at_call 137; refine (h_immPopDouble c h0 h1 _).mono ?_; rintro e w' ⟨rfl, rfl⟩) | (go_at_call 122; refine (s_load _ _ _ _ _).mono ?_; rintro e w1 ⟨rfl, hb⟩; obtain ⟨hc1, hf1⟩ := bcell hb) | (go_at_call 118; refine (m_only _ _ _ _ _ _ _ _ _ _).mono ?_; rintro e w2 ⟨rfl, hb2⟩; obtain ⟨hc2, hf2⟩ := bcell (belowT hb hb2)) | (go_at_call 75; go_in) | (go_at_call 92; go_in))
  exact bodyPost_ret (v := .tuple #[(onl ⟨6, 0, cRd c, 2, 0, cPopD c, 8, true⟩ (cRd c)).1.v, .bool (onl ⟨6, 0, cRd c, 2, 0, cPopD c, 8, true⟩ (cRd c)).2]) (by simp [results, Tryz.results95, go_sem, hc2]) rfl ⟨rfl, below8 (belowA (belowT hb hb2)) (Nat.le_refl _) _ _ _ _ _ _ _ _⟩
theorem x2_4 (c : Int) (h0 : 0 ≤ c) (h1 : c ≤ 65535) (w : World) (hs : cF3 c = 4) :
    Calls Tryz.prog 95 #[.int .u16 c] w fun e w' => e = .returned (.tuple #[(XM c).1.v, .bool (XM c).2]) ∧ Below w.heap.size w w' := by
  go_enter Tryz.func95, Tryz.ntmps95
  go_wp2_with (first | (go_at_call 117; refine (h_f3 c h0 h1 _).mono ?_; rintro e w' ⟨rfl, rfl⟩) | (go_at_call 138; refine (h_move c h0 h1 _).mono ?_; rintro e w1 ⟨rfl, hb⟩; obtain ⟨hc1, hf1⟩ := bcell hb) | (go_at_call 75; go_in) | (go_at_call 92; go_in))
  exact bodyPost_ret (v := .tuple #[(XM c).1.v, .bool (XM c).2]) (by simp [results, Tryz.results95, go_sem, hc1]) rfl ⟨rfl, below8 (belowA hb) (Nat.le_refl _) _ _ _ _ _ _ _ _⟩
theorem x2_6 (c : Int) (h0 : 0 ≤ c) (h1 : c ≤ 65535) (w : World) (hs : cF3 c = 6) :
    Calls Tryz.prog 95 #[.int .u16 c] w fun e w' => e = .returned (.tuple #[I.v ⟨7, 0, 0, 2, cR2 c, cPushW c, 4, false⟩, .bool true]) ∧ Below w.heap.size w w' := by
  go_enter Tryz.func95, Tryz.ntmps95
  go_wp2_with (first | (go_at_call 117; refine (h_f3 c h0 h1 _).mono ?_; rintro e w' ⟨rfl, rfl⟩) | (go_at_call 139; refine (h_rs2 c h0 h1 _).mono ?_; rintro e w' ⟨rfl, rfl⟩) | (go_at_call 140; refine (h_immPushWord c h0 h1 _).mono ?_; rintro e w' ⟨rfl, rfl⟩) | (go_at_call 126; refine (s_store _ _ _ _ _).mono ?_; rintro e w1 ⟨rfl, hb⟩; obtain ⟨hc1, hf1⟩ := bcell hb) | (go_at_call 75; go_in) | (go_at_call 92; go_in))
  exact bodyPost_ret (v := .tuple #[I.v ⟨7, 0, 0, 2, cR2 c, cPushW c, 4, false⟩, .bool true]) (by simp [results, Tryz.results95, go_sem, hc1]) rfl ⟨rfl, below8 (belowA hb) (Nat.le_refl _) _ _ _ _ _ _ _ _⟩
theorem x2_7 (c : Int) (h0 : 0 ≤ c) (h1 : c ≤ 65535) (w : World) (hs : cF3 c = 7) :
    Calls Tryz.prog 95 #[.int .u16 c] w fun e w' => e = .returned (.tuple #[I.v ⟨7, 0, 0, 2, cR2 c, cPushD c, 8, false⟩, .bool true]) ∧ Below w.heap.size w w' := by
  go_enter Tryz.func95, Tryz.ntmps95
  go_wp2_with (first | (go_at_call 117; refine (h_f3 c h0 h1 _).mono ?_; rintro e w' ⟨rfl, rfl⟩) | (go_at_call 139; refine (h_rs2 c h0 h1 _).mono ?_; rintro e w' ⟨rfl, rfl⟩) | (go_at_call 141; refine (h_immPushDouble c h0 h1 _).mono ?_; rintro e w' ⟨rfl, rfl⟩) | (go_at_call 126; refine (s_store _ _ _ _ _).mono ?_; rintro e w1 ⟨rfl, hb⟩; obtain ⟨hc1, hf1⟩ := bcell hb) | (go_at_call 75; go_in) | (go_at_call 92; go_in))
  exact bodyPost_ret (v := .tuple #[I.v ⟨7, 0, 0, 2, cR2 c, cPushD c, 8, false⟩, .bool true]) (by simp [results, Tryz.results95, go_sem, hc1]) rfl ⟨rfl, below8 (belowA hb) (Nat.le_refl _) _ _ _ _ _ _ _ _⟩
theorem x2_e (c : Int) (h0 : 0 ≤ c) (h1 : c ≤ 65535) (w : World) (q0 : cF3 c ≠ 0) (q2 : cF3 c ≠ 2) (q3 : cF3 c ≠ 3) (q4 : cF3 c ≠ 4) (q6 : cF3 c ≠ 6) (q7 : cF3 c ≠ 7) :
    Calls Tryz.prog 95 #[.int .u16 c] w fun e w' => e = .returned (.tuple #[I.v ⟨0, 0, 0, 0, 0, 0, 0, false⟩, .bool false]) ∧ Below w.heap.size w w' := by
  go_enter Tryz.func95, Tryz.ntmps95
  go_wp2_with (first | (go_at_call 117; refine (h_f3 c h0 h1 _).mono ?_; rintro e w' ⟨rfl, rfl⟩) | (go_at_call 75; go_in) | (go_at_call 92; go_in))
  exact bodyPost_ret (v := .tuple #[I.v ⟨0, 0, 0, 0, 0, 0, 0, false⟩, .bool false]) (by simp [results, Tryz.results95, go_sem]) rfl ⟨rfl, below1 _⟩
def X2 (c : Int) : I × Bool := if cF3 c = 0 then (⟨9, 3, cRd c, cRd c, 0, cAm c, 0, false⟩, true) else if cF3 c = 2 then (onl ⟨6, 0, cRd c, 2, 0, cPopW c, 4, true⟩ (cRd c)) else if cF3 c = 3 then (onl ⟨6, 0, cRd c, 2, 0, cPopD c, 8, true⟩ (cRd c)) else if cF3 c = 4 then XM c else if cF3 c = 6 then (⟨7, 0, 0, 2, cR2 c, cPushW c, 4, false⟩, true) else if cF3 c = 7 then (⟨7, 0, 0, 2, cR2 c, cPushD c, 8, false⟩, true) else no
theorem h_third (c : Int) (h0 : 0 ≤ c) (h1 : c ≤ 65535) (w : World) :
    Calls Tryz.prog 95 #[.int .u16 c] w fun e w' => e = .returned (.tuple #[(X2 c).1.v, .bool (X2 c).2]) ∧ Below w.heap.size w w' := by
  unfold X2
  by_cases q0 : cF3 c = 0
  · rw [if_pos q0]; exact x2_0 c h0 h1 w q0
  rw [if_neg q0]
  by_cases q2 : cF3 c = 2
  · rw [if_pos q2]; exact x2_2 c h0 h1 w q2
  rw [if_neg q2]
  by_cases q3 : cF3 c = 3
  · rw [if_pos q3]; exact x2_3 c h0 h1 w q3
  rw [if_neg q3]
  by_cases q4 : cF3 c = 4
  · rw [if_pos q4]; exact x2_4 c h0 h1 w q4
  rw [if_neg q4]
  by_cases q6 : cF3 c = 6
  · rw [if_pos q6]; exact x2_6 c h0 h1 w q6
  rw [if_neg q6]
  by_cases q7 : cF3 c = 7
  · rw [if_pos q7]; exact x2_7 c h0 h1 w q7
  rw [if_neg q7]
  exact x2_e c h0 h1 w q0 q2 q3 q4 q6 q7
theorem xr_0 (c : Int) (h0 : 0 ≤ c) (h1 : c ≤ 65535) (w : World) (hs : cQ c = 0) :
    Calls Tryz.prog 76 #[.int .u16 c] w fun e w' => e = .returned (.tuple #[(X0 c).1.v, .bool (X0 c).2]) ∧ Below w.heap.size w w' := by
  go_enter Tryz.func76, Tryz.ntmps76
  go_wp2_with (first | (go_at_call 55; refine (h_quadrant c h0 h1 _).mono ?_; rintro e w' ⟨rfl, rfl⟩) | (go_at_call 93; refine (h_first c h0 h1 _).mono ?_; rintro e w1 ⟨rfl, hb⟩; obtain ⟨hc1, hf1⟩ := bcell hb) | (go_at_call 75; go_in) | (go_at_call 92; go_in))
  exact bodyPost_ret (v := .tuple #[(X0 c).1.v, .bool (X0 c).2]) (by simp [results, Tryz.results76, go_sem, hc1]) rfl ⟨rfl, below8 (belowA hb) (Nat.le_refl _) _ _ _ _ _ _ _ _⟩
theorem xr_1 (c : Int) (h0 : 0 ≤ c) (h1 : c ≤ 65535) (w : World) (hs : cQ c = 1) :
    Calls Tryz.prog 76 #[.int .u16 c] w fun e w' => e = .returned (.tuple #[(X1 c).1.v, .bool (X1 c).2]) ∧ Below w.heap.size w w' := by
  go_enter Tryz.func76, Tryz.ntmps76
  go_wp2_with (first | (go_at_call 55; refine (h_quadrant c h0 h1 _).mono ?_; rintro e w' ⟨rfl, rfl⟩) | (go_at_call 94; refine (h_second c h0 h1 _).mono ?_; rintro e w1 ⟨rfl, hb⟩; obtain ⟨hc1, hf1⟩ := bcell hb) | (go_at_call 75; go_in) | (go_at_call 92; go_in))
  exact bodyPost_ret (v := .tuple #[(X1 c).1.v, .bool (X1 c).2]) (by simp [results, Tryz.results76, go_sem, hc1]) rfl ⟨rfl, below8 (belowA hb) (Nat.le_refl _) _ _ _ _ _ _ _ _⟩
theorem xr_2 (c : Int) (h0 : 0 ≤ c) (h1 : c ≤ 65535) (w : World) (hs : cQ c = 2) :
    Calls Tryz.prog 76 #[.int .u16 c] w fun e w' => e = .returned (.tuple #[(X2 c).1.v, .bool (X2 c).2]) ∧ Below w.heap.size w w' := by
  go_enter Tryz.func76, Tryz.ntmps76
  go_wp2_with (first | (go_at_call 55; refine (h_quadrant c h0 h1 _).mono ?_; rintro e w' ⟨rfl, rfl⟩) | (go_at_call 95; refine (h_third c h0 h1 _).mono ?_; rintro e w1 ⟨rfl, hb⟩; obtain ⟨hc1, hf1⟩ := bcell hb) | (go_at_call 75; go_in) | (go_at_call 92; go_in))
  exact bodyPost_ret (v := .tuple #[(X2 c).1.v, .bool (X2 c).2]) (by simp [results, Tryz.results76, go_sem, hc1]) rfl ⟨rfl, below8 (belowA hb) (Nat.le_refl _) _ _ _ _ _ _ _ _⟩
theorem xr_e (c : Int) (h0 : 0 ≤ c) (h1 : c ≤ 65535) (w : World) (q0 : cQ c ≠ 0) (q1 : cQ c ≠ 1) (q2 : cQ c ≠ 2) :
    Calls Tryz.prog 76 #[.int .u16 c] w fun e w' => e = .returned (.tuple #[I.v ⟨0, 0, 0, 0, 0, 0, 0, false⟩, .bool false]) ∧ Below w.heap.size w w' := by
  go_enter Tryz.func76, Tryz.ntmps76
  go_wp2_with (first | (go_at_call 55; refine (h_quadrant c h0 h1 _).mono ?_; rintro e w' ⟨rfl, rfl⟩) | (go_at_call 75; go_in) | (go_at_call 92; go_in))
  exact bodyPost_ret (v := .tuple #[I.v ⟨0, 0, 0, 0, 0, 0, 0, false⟩, .bool false]) (by simp [results, Tryz.results76, go_sem]) rfl ⟨rfl, below1 _⟩
def X (c : Int) : I × Bool := if cQ c = 0 then X0 c else if cQ c = 1 then X1 c else if cQ c = 2 then X2 c else no
theorem h_read (c : Int) (h0 : 0 ≤ c) (h1 : c ≤ 65535) (w : World) :
    Calls Tryz.prog 76 #[.int .u16 c] w fun e w' => e = .returned (.tuple #[(X c).1.v, .bool (X c).2]) ∧ Below w.heap.size w w' := by
  unfold X
  by_cases q0 : cQ c = 0
  · rw [if_pos q0]; exact xr_0 c h0 h1 w q0
  rw [if_neg q0]
  by_cases q1 : cQ c = 1
  · rw [if_pos q1]; exact xr_1 c h0 h1 w q1
  rw [if_neg q1]
  by_cases q2 : cQ c = 2
  · rw [if_pos q2]; exact xr_2 c h0 h1 w q2
  rw [if_neg q2]
  exact xr_e c h0 h1 w q0 q1 q2
def expF (c : Int) : Int × Bool := if (X c).2 = true then (draftF (X c).1, true) else (0, false)
theorem m_Expand (c : Int) (h0 : 0 ≤ c) (h1 : c ≤ 65535) (w : World) (hG : G w) : Calls Tryz.prog 56 #[.int .u16 c] w fun e w' => e = .returned (.tuple #[.int .u32 (expF c).1, .bool (expF c).2]) ∧ Below w.heap.size w w' := by
  have hr := h_read c h0 h1
  cases hk : (X c).2
  · have e1 : expF c = (0, false) := if_neg (by rw [hk]; simp)
    rw [e1]
    rw [hk] at hr
    go_enter Tryz.func56, Tryz.ntmps56
    go_wp2_with (first | (go_at_call 76; refine (hr _).mono ?_; rintro e w1 ⟨rfl, hb⟩))
    go_ret2
    exact ⟨rfl, hb.alloc hb.size _⟩
  · have e1 : expF c = (draftF (X c).1, true) := if_pos hk
    rw [e1]
    rw [hk] at hr
    go_enter Tryz.func56, Tryz.ntmps56
    go_wp2_with (first | (go_at_call 76; refine (hr _).mono ?_; rintro e w1 ⟨rfl, hb⟩) | (go_at_call 77; refine (m_draft (X c).1 _ ((hG.below hb).alloc _)).mono ?_; rintro e w2 ⟨rfl, hb2⟩))
    go_ret2
    exact ⟨rfl, belowT hb (belowA hb2)⟩
def szF (c : Int) : Int := if cQ c = 3 then 4 else 2
theorem m_Size (c : Int) (h0 : 0 ≤ c) (h1 : c ≤ 65535) (w : World) : Calls Tryz.prog 31 #[.int .u16 c] w fun e w' => e = .returned (.int .i64 (szF c)) ∧ w' = w := by
  unfold szF
  by_cases q : cQ c = 3
  · rw [if_pos q]
    go_enter Tryz.func31, Tryz.ntmps31
    go_wp2_with (first | (go_at_call 55; refine (h_quadrant c h0 h1 _).mono ?_; rintro e w' ⟨rfl, rfl⟩))
    go_ret
    exact ⟨rfl, rfl⟩
  · rw [if_neg q]
    go_enter Tryz.func31, Tryz.ntmps31
    go_wp2_with (first | (go_at_call 55; refine (h_quadrant c h0 h1 _).mono ?_; rintro e w' ⟨rfl, rfl⟩))
    go_ret
    exact ⟨rfl, rfl⟩
end Go.Proofs.YtlfdokkopgmfjaaGreatDoor.B
namespace Go.Proofs.YtlfdokkopgmfjaaGreatDoor.B
open Go.RowKit
set_option linter.unusedVariables false
set_option maxRecDepth 100000
/-- a number's low bits at a place -/
def at2 (v m k : Int) : Int := v % m * k
theorem tmod_e (v m : Int) (hm : 0 < m) : (0 ≤ v.tmod m ∧ v.tmod m = v % m) ∨ (v.tmod m < 0 ∧ v.tmod m = v % m - m) := by
  have e := Int.tmod_eq_emod (a := v) (b := m)
  have h1 := Int.emod_nonneg v (show m ≠ 0 by omega)
  have h2 := Int.emod_lt_of_pos v hm
  have h3 : (m.natAbs : Int) = m := by omega
  split at e
  · left; omega
  · right; omega
theorem p_5_7 (v : Int) (v0 : -9223372036854775808 ≤ v) (v1 : v < 9223372036854775808) (w : World) : Calls Tryz.prog 99 #[.int .i64 v, .int .i64 5, .int .i64 7] w fun e w' => e = .returned (.int .u32 (at2 v 32 128)) ∧ w' = w := by
  have ht := tmod_e v 32 (by omega)
  go_enter Tryz.func99, Tryz.ntmps99
  go_wp2
  all_goals
    go_ret
    exact ⟨ret_int (by unfold at2; omega), rfl⟩
theorem p_5_15 (v : Int) (v0 : -9223372036854775808 ≤ v) (v1 : v < 9223372036854775808) (w : World) : Calls Tryz.prog 99 #[.int .i64 v, .int .i64 5, .int .i64 15] w fun e w' => e = .returned (.int .u32 (at2 v 32 32768)) ∧ w' = w := by
  have ht := tmod_e v 32 (by omega)
  go_enter Tryz.func99, Tryz.ntmps99
  go_wp2
  all_goals
    go_ret
    exact ⟨ret_int (by unfold at2; omega), rfl⟩
theorem p_5_20 (v : Int) (v0 : -9223372036854775808 ≤ v) (v1 : v < 9223372036854775808) (w : World) : Calls Tryz.prog 99 #[.int .i64 v, .int .i64 5, .int .i64 20] w fun e w' => e = .returned (.int .u32 (at2 v 32 1048576)) ∧ w' = w := by
  have ht := tmod_e v 32 (by omega)
  go_enter Tryz.func99, Tryz.ntmps99
  go_wp2
  all_goals
    go_ret
    exact ⟨ret_int (by unfold at2; omega), rfl⟩
theorem p_1_31 (v : Int) (v0 : -9223372036854775808 ≤ v) (v1 : v < 9223372036854775808) (w : World) : Calls Tryz.prog 99 #[.int .i64 v, .int .i64 1, .int .i64 31] w fun e w' => e = .returned (.int .u32 (at2 v 2 2147483648)) ∧ w' = w := by
  have ht := tmod_e v 2 (by omega)
  go_enter Tryz.func99, Tryz.ntmps99
  go_wp2
  all_goals
    go_ret
    exact ⟨ret_int (by unfold at2; omega), rfl⟩
theorem p_1_7 (v : Int) (v0 : -9223372036854775808 ≤ v) (v1 : v < 9223372036854775808) (w : World) : Calls Tryz.prog 99 #[.int .i64 v, .int .i64 1, .int .i64 7] w fun e w' => e = .returned (.int .u32 (at2 v 2 128)) ∧ w' = w := by
  have ht := tmod_e v 2 (by omega)
  go_enter Tryz.func99, Tryz.ntmps99
  go_wp2
  all_goals
    go_ret
    exact ⟨ret_int (by unfold at2; omega), rfl⟩
theorem p_6_25 (v : Int) (v0 : -9223372036854775808 ≤ v) (v1 : v < 9223372036854775808) (w : World) : Calls Tryz.prog 99 #[.int .i64 v, .int .i64 6, .int .i64 25] w fun e w' => e = .returned (.int .u32 (at2 v 64 33554432)) ∧ w' = w := by
  have ht := tmod_e v 64 (by omega)
  go_enter Tryz.func99, Tryz.ntmps99
  go_wp2
  all_goals
    go_ret
    exact ⟨ret_int (by unfold at2; omega), rfl⟩
theorem p_4_8 (v : Int) (v0 : -9223372036854775808 ≤ v) (v1 : v < 9223372036854775808) (w : World) : Calls Tryz.prog 99 #[.int .i64 v, .int .i64 4, .int .i64 8] w fun e w' => e = .returned (.int .u32 (at2 v 16 256)) ∧ w' = w := by
  have ht := tmod_e v 16 (by omega)
  go_enter Tryz.func99, Tryz.ntmps99
  go_wp2
  all_goals
    go_ret
    exact ⟨ret_int (by unfold at2; omega), rfl⟩
theorem p_8_12 (v : Int) (v0 : -9223372036854775808 ≤ v) (v1 : v < 9223372036854775808) (w : World) : Calls Tryz.prog 99 #[.int .i64 v, .int .i64 8, .int .i64 12] w fun e w' => e = .returned (.int .u32 (at2 v 256 4096)) ∧ w' = w := by
  have ht := tmod_e v 256 (by omega)
  go_enter Tryz.func99, Tryz.ntmps99
  go_wp2
  all_goals
    go_ret
    exact ⟨ret_int (by unfold at2; omega), rfl⟩
theorem p_1_20 (v : Int) (v0 : -9223372036854775808 ≤ v) (v1 : v < 9223372036854775808) (w : World) : Calls Tryz.prog 99 #[.int .i64 v, .int .i64 1, .int .i64 20] w fun e w' => e = .returned (.int .u32 (at2 v 2 1048576)) ∧ w' = w := by
  have ht := tmod_e v 2 (by omega)
  go_enter Tryz.func99, Tryz.ntmps99
  go_wp2
  all_goals
    go_ret
    exact ⟨ret_int (by unfold at2; omega), rfl⟩
theorem p_10_21 (v : Int) (v0 : -9223372036854775808 ≤ v) (v1 : v < 9223372036854775808) (w : World) : Calls Tryz.prog 99 #[.int .i64 v, .int .i64 10, .int .i64 21] w fun e w' => e = .returned (.int .u32 (at2 v 1024 2097152)) ∧ w' = w := by
  have ht := tmod_e v 1024 (by omega)
  go_enter Tryz.func99, Tryz.ntmps99
  go_wp2
  all_goals
    go_ret
    exact ⟨ret_int (by unfold at2; omega), rfl⟩
theorem p_20_12 (v : Int) (v0 : -9223372036854775808 ≤ v) (v1 : v < 9223372036854775808) (w : World) : Calls Tryz.prog 99 #[.int .i64 v, .int .i64 20, .int .i64 12] w fun e w' => e = .returned (.int .u32 (at2 v 1048576 4096)) ∧ w' = w := by
  have ht := tmod_e v 1048576 (by omega)
  go_enter Tryz.func99, Tryz.ntmps99
  go_wp2
  all_goals
    go_ret
    exact ⟨ret_int (by unfold at2; omega), rfl⟩
theorem p_12_20 (v : Int) (v0 : -9223372036854775808 ≤ v) (v1 : v < 9223372036854775808) (w : World) : Calls Tryz.prog 99 #[.int .i64 v, .int .i64 12, .int .i64 20] w fun e w' => e = .returned (.int .u32 (at2 v 4096 1048576)) ∧ w' = w := by
  have ht := tmod_e v 4096 (by omega)
  go_enter Tryz.func99, Tryz.ntmps99
  go_wp2
  all_goals
    go_ret
    exact ⟨ret_int (by unfold at2; omega), rfl⟩
theorem p_3_12 (v : Int) (v0 : -9223372036854775808 ≤ v) (v1 : v < 9223372036854775808) (w : World) : Calls Tryz.prog 99 #[.int .i64 v, .int .i64 3, .int .i64 12] w fun e w' => e = .returned (.int .u32 (at2 v 8 4096)) ∧ w' = w := by
  have ht := tmod_e v 8 (by omega)
  go_enter Tryz.func99, Tryz.ntmps99
  go_wp2
  all_goals
    go_ret
    exact ⟨ret_int (by unfold at2; omega), rfl⟩
theorem p_7_25 (v : Int) (v0 : -9223372036854775808 ≤ v) (v1 : v < 9223372036854775808) (w : World) : Calls Tryz.prog 99 #[.int .i64 v, .int .i64 7, .int .i64 25] w fun e w' => e = .returned (.int .u32 (at2 v 128 33554432)) ∧ w' = w := by
  have ht := tmod_e v 128 (by omega)
  go_enter Tryz.func99, Tryz.ntmps99
  go_wp2
  all_goals
    go_ret
    exact ⟨ret_int (by unfold at2; omega), rfl⟩
theorem p_2_12 (v : Int) (v0 : -9223372036854775808 ≤ v) (v1 : v < 9223372036854775808) (w : World) : Calls Tryz.prog 99 #[.int .i64 v, .int .i64 2, .int .i64 12] w fun e w' => e = .returned (.int .u32 (at2 v 4 4096)) ∧ w' = w := by
  have ht := tmod_e v 4 (by omega)
  go_enter Tryz.func99, Tryz.ntmps99
  go_wp2
  all_goals
    go_ret
    exact ⟨ret_int (by unfold at2; omega), rfl⟩
theorem p_5_27 (v : Int) (v0 : -9223372036854775808 ≤ v) (v1 : v < 9223372036854775808) (w : World) : Calls Tryz.prog 99 #[.int .i64 v, .int .i64 5, .int .i64 27] w fun e w' => e = .returned (.int .u32 (at2 v 32 134217728)) ∧ w' = w := by
  have ht := tmod_e v 32 (by omega)
  go_enter Tryz.func99, Tryz.ntmps99
  go_wp2
  all_goals
    go_ret
    exact ⟨ret_int (by unfold at2; omega), rfl⟩
def inb (v l h : Int) : Bool := decide (l ≤ v) && decide (v ≤ h)
theorem r_in (v l h : Int) (w : World) : Calls Tryz.prog 84 #[.int .i64 v, .int .i64 l, .int .i64 h] w fun e w' => e = .returned (.bool (inb v l h)) ∧ w' = w := by
  by_cases p : l ≤ v
  · by_cases q : v ≤ h
    · rw [show inb v l h = true by unfold inb; rw [decide_eq_true p, decide_eq_true q]; rfl]
      go_enter Tryz.func84, Tryz.ntmps84
      go_wp2
      go_ret
      exact ⟨rfl, rfl⟩
    · rw [show inb v l h = false by unfold inb; rw [decide_eq_false q]; simp]
      go_enter Tryz.func84, Tryz.ntmps84
      go_wp2
      go_ret
      exact ⟨rfl, rfl⟩
  · rw [show inb v l h = false by unfold inb; rw [decide_eq_false p]; simp]
    go_enter Tryz.func84, Tryz.ntmps84
    go_wp2
    go_ret
    exact ⟨rfl, rfl⟩
end Go.Proofs.YtlfdokkopgmfjaaGreatDoor.B
namespace Go.Proofs.YtlfdokkopgmfjaaGreatDoor.B
open Go.RowKit
set_option linter.unusedVariables false
set_option maxRecDepth 100000
/-- f3 and f7 of an operation, in their places -/
def aluT (n : Int) : Int := [0, 0, 1073741824, 4096, 8192, 12288, 16384, 20480, 1073762304, 24576, 28672, 33554432, 33558528, 33562624, 33566720, 33570816, 33574912, 33579008, 33583104, 0, 1073741824, 4096, 20480, 1073762304, 33554432, 33570816, 33574912, 33579008, 33583104].getD n.toNat 0
theorem al_0 (w : World) : Calls Tryz.prog 100 #[.int .i64 0] w fun e w' => e = .returned (.int .u32 0) ∧ Below w.heap.size w w' := by
  go_enter Tryz.func100, Tryz.ntmps100
  go_wp2_with (first | (refine wpList_buildFlat rfl 117 3 _ _ rfl .i64 [0, 0, 0, 1, 2, 3, 4, 5, 5, 6, 7, 0, 1, 2, 3, 4, 5, 6, 7, 0, 0, 1, 5, 5, 0, 4, 5, 6, 7] (by kernel_rfl) (by kernel_rfl) (by kernel_rfl) rfl (by decide) (by decide) rfl ?_) | (go_at_call 63; refine (r_pickT _ 29 [0, 0, 0, 1, 2, 3, 4, 5, 5, 6, 7, 0, 1, 2, 3, 4, 5, 6, 7, 0, 0, 1, 5, 5, 0, 4, 5, 6, 7] rfl 0 _ (tab_cell _ _ (by simp) _ _ _ _ rfl rfl) (by decide) (by decide) (by decide) 0 rfl).mono ?_; rintro e w1 ⟨rfl, rfl⟩) | (go_at_call 99; go_in) | (go_at_call 84; go_in))
  go_ret
  exact ⟨rfl, below1 _⟩
theorem al_1 (w : World) : Calls Tryz.prog 100 #[.int .i64 1] w fun e w' => e = .returned (.int .u32 0) ∧ Below w.heap.size w w' := by
  go_enter Tryz.func100, Tryz.ntmps100
  go_wp2_with (first | (refine wpList_buildFlat rfl 117 3 _ _ rfl .i64 [0, 0, 0, 1, 2, 3, 4, 5, 5, 6, 7, 0, 1, 2, 3, 4, 5, 6, 7, 0, 0, 1, 5, 5, 0, 4, 5, 6, 7] (by kernel_rfl) (by kernel_rfl) (by kernel_rfl) rfl (by decide) (by decide) rfl ?_) | (go_at_call 63; refine (r_pickT _ 29 [0, 0, 0, 1, 2, 3, 4, 5, 5, 6, 7, 0, 1, 2, 3, 4, 5, 6, 7, 0, 0, 1, 5, 5, 0, 4, 5, 6, 7] rfl 1 _ (tab_cell _ _ (by simp) _ _ _ _ rfl rfl) (by decide) (by decide) (by decide) 0 rfl).mono ?_; rintro e w1 ⟨rfl, rfl⟩) | (go_at_call 99; go_in) | (go_at_call 84; go_in))
  go_ret
  exact ⟨rfl, below1 _⟩
theorem al_2 (w : World) : Calls Tryz.prog 100 #[.int .i64 2] w fun e w' => e = .returned (.int .u32 1073741824) ∧ Below w.heap.size w w' := by
  have q : bits .or .u32 0 1073741824 = 1073741824 := by decide
  go_enter Tryz.func100, Tryz.ntmps100
  go_wp2_with (first | (refine wpList_buildFlat rfl 117 3 _ _ rfl .i64 [0, 0, 0, 1, 2, 3, 4, 5, 5, 6, 7, 0, 1, 2, 3, 4, 5, 6, 7, 0, 0, 1, 5, 5, 0, 4, 5, 6, 7] (by kernel_rfl) (by kernel_rfl) (by kernel_rfl) rfl (by decide) (by decide) rfl ?_) | (go_at_call 63; refine (r_pickT _ 29 [0, 0, 0, 1, 2, 3, 4, 5, 5, 6, 7, 0, 1, 2, 3, 4, 5, 6, 7, 0, 0, 1, 5, 5, 0, 4, 5, 6, 7] rfl 2 _ (tab_cell _ _ (by simp) _ _ _ _ rfl rfl) (by decide) (by decide) (by decide) 0 rfl).mono ?_; rintro e w1 ⟨rfl, rfl⟩) | (go_at_call 99; go_in) | (go_at_call 84; go_in))
  go_ret
  exact ⟨rfl, below1 _⟩
theorem al_3 (w : World) : Calls Tryz.prog 100 #[.int .i64 3] w fun e w' => e = .returned (.int .u32 4096) ∧ Below w.heap.size w w' := by
  go_enter Tryz.func100, Tryz.ntmps100
  go_wp2_with (first | (refine wpList_buildFlat rfl 117 3 _ _ rfl .i64 [0, 0, 0, 1, 2, 3, 4, 5, 5, 6, 7, 0, 1, 2, 3, 4, 5, 6, 7, 0, 0, 1, 5, 5, 0, 4, 5, 6, 7] (by kernel_rfl) (by kernel_rfl) (by kernel_rfl) rfl (by decide) (by decide) rfl ?_) | (go_at_call 63; refine (r_pickT _ 29 [0, 0, 0, 1, 2, 3, 4, 5, 5, 6, 7, 0, 1, 2, 3, 4, 5, 6, 7, 0, 0, 1, 5, 5, 0, 4, 5, 6, 7] rfl 3 _ (tab_cell _ _ (by simp) _ _ _ _ rfl rfl) (by decide) (by decide) (by decide) 1 rfl).mono ?_; rintro e w1 ⟨rfl, rfl⟩) | (go_at_call 99; go_in) | (go_at_call 84; go_in))
  go_ret
  exact ⟨rfl, below1 _⟩
theorem al_4 (w : World) : Calls Tryz.prog 100 #[.int .i64 4] w fun e w' => e = .returned (.int .u32 8192) ∧ Below w.heap.size w w' := by
  go_enter Tryz.func100, Tryz.ntmps100
  go_wp2_with (first | (refine wpList_buildFlat rfl 117 3 _ _ rfl .i64 [0, 0, 0, 1, 2, 3, 4, 5, 5, 6, 7, 0, 1, 2, 3, 4, 5, 6, 7, 0, 0, 1, 5, 5, 0, 4, 5, 6, 7] (by kernel_rfl) (by kernel_rfl) (by kernel_rfl) rfl (by decide) (by decide) rfl ?_) | (go_at_call 63; refine (r_pickT _ 29 [0, 0, 0, 1, 2, 3, 4, 5, 5, 6, 7, 0, 1, 2, 3, 4, 5, 6, 7, 0, 0, 1, 5, 5, 0, 4, 5, 6, 7] rfl 4 _ (tab_cell _ _ (by simp) _ _ _ _ rfl rfl) (by decide) (by decide) (by decide) 2 rfl).mono ?_; rintro e w1 ⟨rfl, rfl⟩) | (go_at_call 99; go_in) | (go_at_call 84; go_in))
  go_ret
  exact ⟨rfl, below1 _⟩
theorem al_5 (w : World) : Calls Tryz.prog 100 #[.int .i64 5] w fun e w' => e = .returned (.int .u32 12288) ∧ Below w.heap.size w w' := by
  go_enter Tryz.func100, Tryz.ntmps100
  go_wp2_with (first | (refine wpList_buildFlat rfl 117 3 _ _ rfl .i64 [0, 0, 0, 1, 2, 3, 4, 5, 5, 6, 7, 0, 1, 2, 3, 4, 5, 6, 7, 0, 0, 1, 5, 5, 0, 4, 5, 6, 7] (by kernel_rfl) (by kernel_rfl) (by kernel_rfl) rfl (by decide) (by decide) rfl ?_) | (go_at_call 63; refine (r_pickT _ 29 [0, 0, 0, 1, 2, 3, 4, 5, 5, 6, 7, 0, 1, 2, 3, 4, 5, 6, 7, 0, 0, 1, 5, 5, 0, 4, 5, 6, 7] rfl 5 _ (tab_cell _ _ (by simp) _ _ _ _ rfl rfl) (by decide) (by decide) (by decide) 3 rfl).mono ?_; rintro e w1 ⟨rfl, rfl⟩) | (go_at_call 99; go_in) | (go_at_call 84; go_in))
  go_ret
  exact ⟨rfl, below1 _⟩
theorem al_6 (w : World) : Calls Tryz.prog 100 #[.int .i64 6] w fun e w' => e = .returned (.int .u32 16384) ∧ Below w.heap.size w w' := by
  go_enter Tryz.func100, Tryz.ntmps100
  go_wp2_with (first | (refine wpList_buildFlat rfl 117 3 _ _ rfl .i64 [0, 0, 0, 1, 2, 3, 4, 5, 5, 6, 7, 0, 1, 2, 3, 4, 5, 6, 7, 0, 0, 1, 5, 5, 0, 4, 5, 6, 7] (by kernel_rfl) (by kernel_rfl) (by kernel_rfl) rfl (by decide) (by decide) rfl ?_) | (go_at_call 63; refine (r_pickT _ 29 [0, 0, 0, 1, 2, 3, 4, 5, 5, 6, 7, 0, 1, 2, 3, 4, 5, 6, 7, 0, 0, 1, 5, 5, 0, 4, 5, 6, 7] rfl 6 _ (tab_cell _ _ (by simp) _ _ _ _ rfl rfl) (by decide) (by decide) (by decide) 4 rfl).mono ?_; rintro e w1 ⟨rfl, rfl⟩) | (go_at_call 99; go_in) | (go_at_call 84; go_in))
  go_ret
  exact ⟨rfl, below1 _⟩
theorem al_7 (w : World) : Calls Tryz.prog 100 #[.int .i64 7] w fun e w' => e = .returned (.int .u32 20480) ∧ Below w.heap.size w w' := by
  go_enter Tryz.func100, Tryz.ntmps100
  go_wp2_with (first | (refine wpList_buildFlat rfl 117 3 _ _ rfl .i64 [0, 0, 0, 1, 2, 3, 4, 5, 5, 6, 7, 0, 1, 2, 3, 4, 5, 6, 7, 0, 0, 1, 5, 5, 0, 4, 5, 6, 7] (by kernel_rfl) (by kernel_rfl) (by kernel_rfl) rfl (by decide) (by decide) rfl ?_) | (go_at_call 63; refine (r_pickT _ 29 [0, 0, 0, 1, 2, 3, 4, 5, 5, 6, 7, 0, 1, 2, 3, 4, 5, 6, 7, 0, 0, 1, 5, 5, 0, 4, 5, 6, 7] rfl 7 _ (tab_cell _ _ (by simp) _ _ _ _ rfl rfl) (by decide) (by decide) (by decide) 5 rfl).mono ?_; rintro e w1 ⟨rfl, rfl⟩) | (go_at_call 99; go_in) | (go_at_call 84; go_in))
  go_ret
  exact ⟨rfl, below1 _⟩
theorem al_8 (w : World) : Calls Tryz.prog 100 #[.int .i64 8] w fun e w' => e = .returned (.int .u32 1073762304) ∧ Below w.heap.size w w' := by
  have q : bits .or .u32 20480 1073741824 = 1073762304 := by decide
  go_enter Tryz.func100, Tryz.ntmps100
  go_wp2_with (first | (refine wpList_buildFlat rfl 117 3 _ _ rfl .i64 [0, 0, 0, 1, 2, 3, 4, 5, 5, 6, 7, 0, 1, 2, 3, 4, 5, 6, 7, 0, 0, 1, 5, 5, 0, 4, 5, 6, 7] (by kernel_rfl) (by kernel_rfl) (by kernel_rfl) rfl (by decide) (by decide) rfl ?_) | (go_at_call 63; refine (r_pickT _ 29 [0, 0, 0, 1, 2, 3, 4, 5, 5, 6, 7, 0, 1, 2, 3, 4, 5, 6, 7, 0, 0, 1, 5, 5, 0, 4, 5, 6, 7] rfl 8 _ (tab_cell _ _ (by simp) _ _ _ _ rfl rfl) (by decide) (by decide) (by decide) 5 rfl).mono ?_; rintro e w1 ⟨rfl, rfl⟩) | (go_at_call 99; go_in) | (go_at_call 84; go_in))
  go_ret
  exact ⟨rfl, below1 _⟩
theorem al_9 (w : World) : Calls Tryz.prog 100 #[.int .i64 9] w fun e w' => e = .returned (.int .u32 24576) ∧ Below w.heap.size w w' := by
  go_enter Tryz.func100, Tryz.ntmps100
  go_wp2_with (first | (refine wpList_buildFlat rfl 117 3 _ _ rfl .i64 [0, 0, 0, 1, 2, 3, 4, 5, 5, 6, 7, 0, 1, 2, 3, 4, 5, 6, 7, 0, 0, 1, 5, 5, 0, 4, 5, 6, 7] (by kernel_rfl) (by kernel_rfl) (by kernel_rfl) rfl (by decide) (by decide) rfl ?_) | (go_at_call 63; refine (r_pickT _ 29 [0, 0, 0, 1, 2, 3, 4, 5, 5, 6, 7, 0, 1, 2, 3, 4, 5, 6, 7, 0, 0, 1, 5, 5, 0, 4, 5, 6, 7] rfl 9 _ (tab_cell _ _ (by simp) _ _ _ _ rfl rfl) (by decide) (by decide) (by decide) 6 rfl).mono ?_; rintro e w1 ⟨rfl, rfl⟩) | (go_at_call 99; go_in) | (go_at_call 84; go_in))
  go_ret
  exact ⟨rfl, below1 _⟩
theorem al_10 (w : World) : Calls Tryz.prog 100 #[.int .i64 10] w fun e w' => e = .returned (.int .u32 28672) ∧ Below w.heap.size w w' := by
  go_enter Tryz.func100, Tryz.ntmps100
  go_wp2_with (first | (refine wpList_buildFlat rfl 117 3 _ _ rfl .i64 [0, 0, 0, 1, 2, 3, 4, 5, 5, 6, 7, 0, 1, 2, 3, 4, 5, 6, 7, 0, 0, 1, 5, 5, 0, 4, 5, 6, 7] (by kernel_rfl) (by kernel_rfl) (by kernel_rfl) rfl (by decide) (by decide) rfl ?_) | (go_at_call 63; refine (r_pickT _ 29 [0, 0, 0, 1, 2, 3, 4, 5, 5, 6, 7, 0, 1, 2, 3, 4, 5, 6, 7, 0, 0, 1, 5, 5, 0, 4, 5, 6, 7] rfl 10 _ (tab_cell _ _ (by simp) _ _ _ _ rfl rfl) (by decide) (by decide) (by decide) 7 rfl).mono ?_; rintro e w1 ⟨rfl, rfl⟩) | (go_at_call 99; go_in) | (go_at_call 84; go_in))
  go_ret
  exact ⟨rfl, below1 _⟩
theorem al_11 (w : World) : Calls Tryz.prog 100 #[.int .i64 11] w fun e w' => e = .returned (.int .u32 33554432) ∧ Below w.heap.size w w' := by
  have q : bits .or .u32 0 33554432 = 33554432 := by decide
  go_enter Tryz.func100, Tryz.ntmps100
  go_wp2_with (first | (refine wpList_buildFlat rfl 117 3 _ _ rfl .i64 [0, 0, 0, 1, 2, 3, 4, 5, 5, 6, 7, 0, 1, 2, 3, 4, 5, 6, 7, 0, 0, 1, 5, 5, 0, 4, 5, 6, 7] (by kernel_rfl) (by kernel_rfl) (by kernel_rfl) rfl (by decide) (by decide) rfl ?_) | (go_at_call 63; refine (r_pickT _ 29 [0, 0, 0, 1, 2, 3, 4, 5, 5, 6, 7, 0, 1, 2, 3, 4, 5, 6, 7, 0, 0, 1, 5, 5, 0, 4, 5, 6, 7] rfl 11 _ (tab_cell _ _ (by simp) _ _ _ _ rfl rfl) (by decide) (by decide) (by decide) 0 rfl).mono ?_; rintro e w1 ⟨rfl, rfl⟩) | (go_at_call 99; go_in) | (go_at_call 84; go_in))
  go_ret
  exact ⟨rfl, below1 _⟩
theorem al_12 (w : World) : Calls Tryz.prog 100 #[.int .i64 12] w fun e w' => e = .returned (.int .u32 33558528) ∧ Below w.heap.size w w' := by
  have q : bits .or .u32 4096 33554432 = 33558528 := by decide
  go_enter Tryz.func100, Tryz.ntmps100
  go_wp2_with (first | (refine wpList_buildFlat rfl 117 3 _ _ rfl .i64 [0, 0, 0, 1, 2, 3, 4, 5, 5, 6, 7, 0, 1, 2, 3, 4, 5, 6, 7, 0, 0, 1, 5, 5, 0, 4, 5, 6, 7] (by kernel_rfl) (by kernel_rfl) (by kernel_rfl) rfl (by decide) (by decide) rfl ?_) | (go_at_call 63; refine (r_pickT _ 29 [0, 0, 0, 1, 2, 3, 4, 5, 5, 6, 7, 0, 1, 2, 3, 4, 5, 6, 7, 0, 0, 1, 5, 5, 0, 4, 5, 6, 7] rfl 12 _ (tab_cell _ _ (by simp) _ _ _ _ rfl rfl) (by decide) (by decide) (by decide) 1 rfl).mono ?_; rintro e w1 ⟨rfl, rfl⟩) | (go_at_call 99; go_in) | (go_at_call 84; go_in))
  go_ret
  exact ⟨rfl, below1 _⟩
theorem al_13 (w : World) : Calls Tryz.prog 100 #[.int .i64 13] w fun e w' => e = .returned (.int .u32 33562624) ∧ Below w.heap.size w w' := by
  have q : bits .or .u32 8192 33554432 = 33562624 := by decide
  go_enter Tryz.func100, Tryz.ntmps100
  go_wp2_with (first | (refine wpList_buildFlat rfl 117 3 _ _ rfl .i64 [0, 0, 0, 1, 2, 3, 4, 5, 5, 6, 7, 0, 1, 2, 3, 4, 5, 6, 7, 0, 0, 1, 5, 5, 0, 4, 5, 6, 7] (by kernel_rfl) (by kernel_rfl) (by kernel_rfl) rfl (by decide) (by decide) rfl ?_) | (go_at_call 63; refine (r_pickT _ 29 [0, 0, 0, 1, 2, 3, 4, 5, 5, 6, 7, 0, 1, 2, 3, 4, 5, 6, 7, 0, 0, 1, 5, 5, 0, 4, 5, 6, 7] rfl 13 _ (tab_cell _ _ (by simp) _ _ _ _ rfl rfl) (by decide) (by decide) (by decide) 2 rfl).mono ?_; rintro e w1 ⟨rfl, rfl⟩) | (go_at_call 99; go_in) | (go_at_call 84; go_in))
  go_ret
  exact ⟨rfl, below1 _⟩
theorem al_14 (w : World) : Calls Tryz.prog 100 #[.int .i64 14] w fun e w' => e = .returned (.int .u32 33566720) ∧ Below w.heap.size w w' := by
  have q : bits .or .u32 12288 33554432 = 33566720 := by decide
  go_enter Tryz.func100, Tryz.ntmps100
  go_wp2_with (first | (refine wpList_buildFlat rfl 117 3 _ _ rfl .i64 [0, 0, 0, 1, 2, 3, 4, 5, 5, 6, 7, 0, 1, 2, 3, 4, 5, 6, 7, 0, 0, 1, 5, 5, 0, 4, 5, 6, 7] (by kernel_rfl) (by kernel_rfl) (by kernel_rfl) rfl (by decide) (by decide) rfl ?_) | (go_at_call 63; refine (r_pickT _ 29 [0, 0, 0, 1, 2, 3, 4, 5, 5, 6, 7, 0, 1, 2, 3, 4, 5, 6, 7, 0, 0, 1, 5, 5, 0, 4, 5, 6, 7] rfl 14 _ (tab_cell _ _ (by simp) _ _ _ _ rfl rfl) (by decide) (by decide) (by decide) 3 rfl).mono ?_; rintro e w1 ⟨rfl, rfl⟩) | (go_at_call 99; go_in) | (go_at_call 84; go_in))
  go_ret
  exact ⟨rfl, below1 _⟩
theorem al_15 (w : World) : Calls Tryz.prog 100 #[.int .i64 15] w fun e w' => e = .returned (.int .u32 33570816) ∧ Below w.heap.size w w' := by
  have q : bits .or .u32 16384 33554432 = 33570816 := by decide
  go_enter Tryz.func100, Tryz.ntmps100
  go_wp2_with (first | (refine wpList_buildFlat rfl 117 3 _ _ rfl .i64 [0, 0, 0, 1, 2, 3, 4, 5, 5, 6, 7, 0, 1, 2, 3, 4, 5, 6, 7, 0, 0, 1, 5, 5, 0, 4, 5, 6, 7] (by kernel_rfl) (by kernel_rfl) (by kernel_rfl) rfl (by decide) (by decide) rfl ?_) | (go_at_call 63; refine (r_pickT _ 29 [0, 0, 0, 1, 2, 3, 4, 5, 5, 6, 7, 0, 1, 2, 3, 4, 5, 6, 7, 0, 0, 1, 5, 5, 0, 4, 5, 6, 7] rfl 15 _ (tab_cell _ _ (by simp) _ _ _ _ rfl rfl) (by decide) (by decide) (by decide) 4 rfl).mono ?_; rintro e w1 ⟨rfl, rfl⟩) | (go_at_call 99; go_in) | (go_at_call 84; go_in))
  go_ret
  exact ⟨rfl, below1 _⟩
theorem al_16 (w : World) : Calls Tryz.prog 100 #[.int .i64 16] w fun e w' => e = .returned (.int .u32 33574912) ∧ Below w.heap.size w w' := by
  have q : bits .or .u32 20480 33554432 = 33574912 := by decide
  go_enter Tryz.func100, Tryz.ntmps100
  go_wp2_with (first | (refine wpList_buildFlat rfl 117 3 _ _ rfl .i64 [0, 0, 0, 1, 2, 3, 4, 5, 5, 6, 7, 0, 1, 2, 3, 4, 5, 6, 7, 0, 0, 1, 5, 5, 0, 4, 5, 6, 7] (by kernel_rfl) (by kernel_rfl) (by kernel_rfl) rfl (by decide) (by decide) rfl ?_) | (go_at_call 63; refine (r_pickT _ 29 [0, 0, 0, 1, 2, 3, 4, 5, 5, 6, 7, 0, 1, 2, 3, 4, 5, 6, 7, 0, 0, 1, 5, 5, 0, 4, 5, 6, 7] rfl 16 _ (tab_cell _ _ (by simp) _ _ _ _ rfl rfl) (by decide) (by decide) (by decide) 5 rfl).mono ?_; rintro e w1 ⟨rfl, rfl⟩) | (go_at_call 99; go_in) | (go_at_call 84; go_in))
  go_ret
  exact ⟨rfl, below1 _⟩
theorem al_17 (w : World) : Calls Tryz.prog 100 #[.int .i64 17] w fun e w' => e = .returned (.int .u32 33579008) ∧ Below w.heap.size w w' := by
  have q : bits .or .u32 24576 33554432 = 33579008 := by decide
  go_enter Tryz.func100, Tryz.ntmps100
  go_wp2_with (first | (refine wpList_buildFlat rfl 117 3 _ _ rfl .i64 [0, 0, 0, 1, 2, 3, 4, 5, 5, 6, 7, 0, 1, 2, 3, 4, 5, 6, 7, 0, 0, 1, 5, 5, 0, 4, 5, 6, 7] (by kernel_rfl) (by kernel_rfl) (by kernel_rfl) rfl (by decide) (by decide) rfl ?_) | (go_at_call 63; refine (r_pickT _ 29 [0, 0, 0, 1, 2, 3, 4, 5, 5, 6, 7, 0, 1, 2, 3, 4, 5, 6, 7, 0, 0, 1, 5, 5, 0, 4, 5, 6, 7] rfl 17 _ (tab_cell _ _ (by simp) _ _ _ _ rfl rfl) (by decide) (by decide) (by decide) 6 rfl).mono ?_; rintro e w1 ⟨rfl, rfl⟩) | (go_at_call 99; go_in) | (go_at_call 84; go_in))
  go_ret
  exact ⟨rfl, below1 _⟩
theorem al_18 (w : World) : Calls Tryz.prog 100 #[.int .i64 18] w fun e w' => e = .returned (.int .u32 33583104) ∧ Below w.heap.size w w' := by
  have q : bits .or .u32 28672 33554432 = 33583104 := by decide
  go_enter Tryz.func100, Tryz.ntmps100
  go_wp2_with (first | (refine wpList_buildFlat rfl 117 3 _ _ rfl .i64 [0, 0, 0, 1, 2, 3, 4, 5, 5, 6, 7, 0, 1, 2, 3, 4, 5, 6, 7, 0, 0, 1, 5, 5, 0, 4, 5, 6, 7] (by kernel_rfl) (by kernel_rfl) (by kernel_rfl) rfl (by decide) (by decide) rfl ?_) | (go_at_call 63; refine (r_pickT _ 29 [0, 0, 0, 1, 2, 3, 4, 5, 5, 6, 7, 0, 1, 2, 3, 4, 5, 6, 7, 0, 0, 1, 5, 5, 0, 4, 5, 6, 7] rfl 18 _ (tab_cell _ _ (by simp) _ _ _ _ rfl rfl) (by decide) (by decide) (by decide) 7 rfl).mono ?_; rintro e w1 ⟨rfl, rfl⟩) | (go_at_call 99; go_in) | (go_at_call 84; go_in))
  go_ret
  exact ⟨rfl, below1 _⟩
theorem al_19 (w : World) : Calls Tryz.prog 100 #[.int .i64 19] w fun e w' => e = .returned (.int .u32 0) ∧ Below w.heap.size w w' := by
  go_enter Tryz.func100, Tryz.ntmps100
  go_wp2_with (first | (refine wpList_buildFlat rfl 117 3 _ _ rfl .i64 [0, 0, 0, 1, 2, 3, 4, 5, 5, 6, 7, 0, 1, 2, 3, 4, 5, 6, 7, 0, 0, 1, 5, 5, 0, 4, 5, 6, 7] (by kernel_rfl) (by kernel_rfl) (by kernel_rfl) rfl (by decide) (by decide) rfl ?_) | (go_at_call 63; refine (r_pickT _ 29 [0, 0, 0, 1, 2, 3, 4, 5, 5, 6, 7, 0, 1, 2, 3, 4, 5, 6, 7, 0, 0, 1, 5, 5, 0, 4, 5, 6, 7] rfl 19 _ (tab_cell _ _ (by simp) _ _ _ _ rfl rfl) (by decide) (by decide) (by decide) 0 rfl).mono ?_; rintro e w1 ⟨rfl, rfl⟩) | (go_at_call 99; go_in) | (go_at_call 84; go_in))
  go_ret
  exact ⟨rfl, below1 _⟩
theorem al_20 (w : World) : Calls Tryz.prog 100 #[.int .i64 20] w fun e w' => e = .returned (.int .u32 1073741824) ∧ Below w.heap.size w w' := by
  have q : bits .or .u32 0 1073741824 = 1073741824 := by decide
  go_enter Tryz.func100, Tryz.ntmps100
  go_wp2_with (first | (refine wpList_buildFlat rfl 117 3 _ _ rfl .i64 [0, 0, 0, 1, 2, 3, 4, 5, 5, 6, 7, 0, 1, 2, 3, 4, 5, 6, 7, 0, 0, 1, 5, 5, 0, 4, 5, 6, 7] (by kernel_rfl) (by kernel_rfl) (by kernel_rfl) rfl (by decide) (by decide) rfl ?_) | (go_at_call 63; refine (r_pickT _ 29 [0, 0, 0, 1, 2, 3, 4, 5, 5, 6, 7, 0, 1, 2, 3, 4, 5, 6, 7, 0, 0, 1, 5, 5, 0, 4, 5, 6, 7] rfl 20 _ (tab_cell _ _ (by simp) _ _ _ _ rfl rfl) (by decide) (by decide) (by decide) 0 rfl).mono ?_; rintro e w1 ⟨rfl, rfl⟩) | (go_at_call 99; go_in) | (go_at_call 84; go_in))
  go_ret
  exact ⟨rfl, below1 _⟩
theorem al_21 (w : World) : Calls Tryz.prog 100 #[.int .i64 21] w fun e w' => e = .returned (.int .u32 4096) ∧ Below w.heap.size w w' := by
  go_enter Tryz.func100, Tryz.ntmps100
  go_wp2_with (first | (refine wpList_buildFlat rfl 117 3 _ _ rfl .i64 [0, 0, 0, 1, 2, 3, 4, 5, 5, 6, 7, 0, 1, 2, 3, 4, 5, 6, 7, 0, 0, 1, 5, 5, 0, 4, 5, 6, 7] (by kernel_rfl) (by kernel_rfl) (by kernel_rfl) rfl (by decide) (by decide) rfl ?_) | (go_at_call 63; refine (r_pickT _ 29 [0, 0, 0, 1, 2, 3, 4, 5, 5, 6, 7, 0, 1, 2, 3, 4, 5, 6, 7, 0, 0, 1, 5, 5, 0, 4, 5, 6, 7] rfl 21 _ (tab_cell _ _ (by simp) _ _ _ _ rfl rfl) (by decide) (by decide) (by decide) 1 rfl).mono ?_; rintro e w1 ⟨rfl, rfl⟩) | (go_at_call 99; go_in) | (go_at_call 84; go_in))
  go_ret
  exact ⟨rfl, below1 _⟩
theorem al_22 (w : World) : Calls Tryz.prog 100 #[.int .i64 22] w fun e w' => e = .returned (.int .u32 20480) ∧ Below w.heap.size w w' := by
  go_enter Tryz.func100, Tryz.ntmps100
  go_wp2_with (first | (refine wpList_buildFlat rfl 117 3 _ _ rfl .i64 [0, 0, 0, 1, 2, 3, 4, 5, 5, 6, 7, 0, 1, 2, 3, 4, 5, 6, 7, 0, 0, 1, 5, 5, 0, 4, 5, 6, 7] (by kernel_rfl) (by kernel_rfl) (by kernel_rfl) rfl (by decide) (by decide) rfl ?_) | (go_at_call 63; refine (r_pickT _ 29 [0, 0, 0, 1, 2, 3, 4, 5, 5, 6, 7, 0, 1, 2, 3, 4, 5, 6, 7, 0, 0, 1, 5, 5, 0, 4, 5, 6, 7] rfl 22 _ (tab_cell _ _ (by simp) _ _ _ _ rfl rfl) (by decide) (by decide) (by decide) 5 rfl).mono ?_; rintro e w1 ⟨rfl, rfl⟩) | (go_at_call 99; go_in) | (go_at_call 84; go_in))
  go_ret
  exact ⟨rfl, below1 _⟩
theorem al_23 (w : World) : Calls Tryz.prog 100 #[.int .i64 23] w fun e w' => e = .returned (.int .u32 1073762304) ∧ Below w.heap.size w w' := by
  have q : bits .or .u32 20480 1073741824 = 1073762304 := by decide
  go_enter Tryz.func100, Tryz.ntmps100
  go_wp2_with (first | (refine wpList_buildFlat rfl 117 3 _ _ rfl .i64 [0, 0, 0, 1, 2, 3, 4, 5, 5, 6, 7, 0, 1, 2, 3, 4, 5, 6, 7, 0, 0, 1, 5, 5, 0, 4, 5, 6, 7] (by kernel_rfl) (by kernel_rfl) (by kernel_rfl) rfl (by decide) (by decide) rfl ?_) | (go_at_call 63; refine (r_pickT _ 29 [0, 0, 0, 1, 2, 3, 4, 5, 5, 6, 7, 0, 1, 2, 3, 4, 5, 6, 7, 0, 0, 1, 5, 5, 0, 4, 5, 6, 7] rfl 23 _ (tab_cell _ _ (by simp) _ _ _ _ rfl rfl) (by decide) (by decide) (by decide) 5 rfl).mono ?_; rintro e w1 ⟨rfl, rfl⟩) | (go_at_call 99; go_in) | (go_at_call 84; go_in))
  go_ret
  exact ⟨rfl, below1 _⟩
theorem al_24 (w : World) : Calls Tryz.prog 100 #[.int .i64 24] w fun e w' => e = .returned (.int .u32 33554432) ∧ Below w.heap.size w w' := by
  have q : bits .or .u32 0 33554432 = 33554432 := by decide
  go_enter Tryz.func100, Tryz.ntmps100
  go_wp2_with (first | (refine wpList_buildFlat rfl 117 3 _ _ rfl .i64 [0, 0, 0, 1, 2, 3, 4, 5, 5, 6, 7, 0, 1, 2, 3, 4, 5, 6, 7, 0, 0, 1, 5, 5, 0, 4, 5, 6, 7] (by kernel_rfl) (by kernel_rfl) (by kernel_rfl) rfl (by decide) (by decide) rfl ?_) | (go_at_call 63; refine (r_pickT _ 29 [0, 0, 0, 1, 2, 3, 4, 5, 5, 6, 7, 0, 1, 2, 3, 4, 5, 6, 7, 0, 0, 1, 5, 5, 0, 4, 5, 6, 7] rfl 24 _ (tab_cell _ _ (by simp) _ _ _ _ rfl rfl) (by decide) (by decide) (by decide) 0 rfl).mono ?_; rintro e w1 ⟨rfl, rfl⟩) | (go_at_call 99; go_in) | (go_at_call 84; go_in))
  go_ret
  exact ⟨rfl, below1 _⟩
theorem al_25 (w : World) : Calls Tryz.prog 100 #[.int .i64 25] w fun e w' => e = .returned (.int .u32 33570816) ∧ Below w.heap.size w w' := by
  have q : bits .or .u32 16384 33554432 = 33570816 := by decide
  go_enter Tryz.func100, Tryz.ntmps100
  go_wp2_with (first | (refine wpList_buildFlat rfl 117 3 _ _ rfl .i64 [0, 0, 0, 1, 2, 3, 4, 5, 5, 6, 7, 0, 1, 2, 3, 4, 5, 6, 7, 0, 0, 1, 5, 5, 0, 4, 5, 6, 7] (by kernel_rfl) (by kernel_rfl) (by kernel_rfl) rfl (by decide) (by decide) rfl ?_) | (go_at_call 63; refine (r_pickT _ 29 [0, 0, 0, 1, 2, 3, 4, 5, 5, 6, 7, 0, 1, 2, 3, 4, 5, 6, 7, 0, 0, 1, 5, 5, 0, 4, 5, 6, 7] rfl 25 _ (tab_cell _ _ (by simp) _ _ _ _ rfl rfl) (by decide) (by decide) (by decide) 4 rfl).mono ?_; rintro e w1 ⟨rfl, rfl⟩) | (go_at_call 99; go_in) | (go_at_call 84; go_in))
  go_ret
  exact ⟨rfl, below1 _⟩
theorem al_26 (w : World) : Calls Tryz.prog 100 #[.int .i64 26] w fun e w' => e = .returned (.int .u32 33574912) ∧ Below w.heap.size w w' := by
  have q : bits .or .u32 20480 33554432 = 33574912 := by decide
  go_enter Tryz.func100, Tryz.ntmps100
  go_wp2_with (first | (refine wpList_buildFlat rfl 117 3 _ _ rfl .i64 [0, 0, 0, 1, 2, 3, 4, 5, 5, 6, 7, 0, 1, 2, 3, 4, 5, 6, 7, 0, 0, 1, 5, 5, 0, 4, 5, 6, 7] (by kernel_rfl) (by kernel_rfl) (by kernel_rfl) rfl (by decide) (by decide) rfl ?_) | (go_at_call 63; refine (r_pickT _ 29 [0, 0, 0, 1, 2, 3, 4, 5, 5, 6, 7, 0, 1, 2, 3, 4, 5, 6, 7, 0, 0, 1, 5, 5, 0, 4, 5, 6, 7] rfl 26 _ (tab_cell _ _ (by simp) _ _ _ _ rfl rfl) (by decide) (by decide) (by decide) 5 rfl).mono ?_; rintro e w1 ⟨rfl, rfl⟩) | (go_at_call 99; go_in) | (go_at_call 84; go_in))
  go_ret
  exact ⟨rfl, below1 _⟩
theorem al_27 (w : World) : Calls Tryz.prog 100 #[.int .i64 27] w fun e w' => e = .returned (.int .u32 33579008) ∧ Below w.heap.size w w' := by
  have q : bits .or .u32 24576 33554432 = 33579008 := by decide
  go_enter Tryz.func100, Tryz.ntmps100
  go_wp2_with (first | (refine wpList_buildFlat rfl 117 3 _ _ rfl .i64 [0, 0, 0, 1, 2, 3, 4, 5, 5, 6, 7, 0, 1, 2, 3, 4, 5, 6, 7, 0, 0, 1, 5, 5, 0, 4, 5, 6, 7] (by kernel_rfl) (by kernel_rfl) (by kernel_rfl) rfl (by decide) (by decide) rfl ?_) | (go_at_call 63; refine (r_pickT _ 29 [0, 0, 0, 1, 2, 3, 4, 5, 5, 6, 7, 0, 1, 2, 3, 4, 5, 6, 7, 0, 0, 1, 5, 5, 0, 4, 5, 6, 7] rfl 27 _ (tab_cell _ _ (by simp) _ _ _ _ rfl rfl) (by decide) (by decide) (by decide) 6 rfl).mono ?_; rintro e w1 ⟨rfl, rfl⟩) | (go_at_call 99; go_in) | (go_at_call 84; go_in))
  go_ret
  exact ⟨rfl, below1 _⟩
theorem al_28 (w : World) : Calls Tryz.prog 100 #[.int .i64 28] w fun e w' => e = .returned (.int .u32 33583104) ∧ Below w.heap.size w w' := by
  have q : bits .or .u32 28672 33554432 = 33583104 := by decide
  go_enter Tryz.func100, Tryz.ntmps100
  go_wp2_with (first | (refine wpList_buildFlat rfl 117 3 _ _ rfl .i64 [0, 0, 0, 1, 2, 3, 4, 5, 5, 6, 7, 0, 1, 2, 3, 4, 5, 6, 7, 0, 0, 1, 5, 5, 0, 4, 5, 6, 7] (by kernel_rfl) (by kernel_rfl) (by kernel_rfl) rfl (by decide) (by decide) rfl ?_) | (go_at_call 63; refine (r_pickT _ 29 [0, 0, 0, 1, 2, 3, 4, 5, 5, 6, 7, 0, 1, 2, 3, 4, 5, 6, 7, 0, 0, 1, 5, 5, 0, 4, 5, 6, 7] rfl 28 _ (tab_cell _ _ (by simp) _ _ _ _ rfl rfl) (by decide) (by decide) (by decide) 7 rfl).mono ?_; rintro e w1 ⟨rfl, rfl⟩) | (go_at_call 99; go_in) | (go_at_call 84; go_in))
  go_ret
  exact ⟨rfl, below1 _⟩
theorem r_alu (n : Int) (n0 : 0 ≤ n) (n1 : n ≤ 28) (w : World) : Calls Tryz.prog 100 #[.int .i64 n] w fun e w' => e = .returned (.int .u32 (aluT n)) ∧ Below w.heap.size w w' := by
  rcases (by omega : n = 0 ∨ n = 1 ∨ n = 2 ∨ n = 3 ∨ n = 4 ∨ n = 5 ∨ n = 6 ∨ n = 7 ∨ n = 8 ∨ n = 9 ∨ n = 10 ∨ n = 11 ∨ n = 12 ∨ n = 13 ∨ n = 14 ∨ n = 15 ∨ n = 16 ∨ n = 17 ∨ n = 18 ∨ n = 19 ∨ n = 20 ∨ n = 21 ∨ n = 22 ∨ n = 23 ∨ n = 24 ∨ n = 25 ∨ n = 26 ∨ n = 27 ∨ n = 28) with rfl | rfl | rfl | rfl | rfl | rfl | rfl | rfl | rfl | rfl | rfl | rfl | rfl | rfl | rfl | rfl | rfl | rfl | rfl | rfl | rfl | rfl | rfl | rfl | rfl | rfl | rfl | rfl | rfl
  · exact al_0 w
  · exact al_1 w
  · exact al_2 w
  · exact al_3 w
  · exact al_4 w
  · exact al_5 w
  · exact al_6 w
  · exact al_7 w
  · exact al_8 w
  · exact al_9 w
  · exact al_10 w
  · exact al_11 w
  · exact al_12 w
  · exact al_13 w
  · exact al_14 w
  · exact al_15 w
  · exact al_16 w
  · exact al_17 w
  · exact al_18 w
  · exact al_19 w
  · exact al_20 w
  · exact al_21 w
  · exact al_22 w
  · exact al_23 w
  · exact al_24 w
  · exact al_25 w
  · exact al_26 w
  · exact al_27 w
  · exact al_28 w
end Go.Proofs.YtlfdokkopgmfjaaGreatDoor.B
