/- What Encode answers, for every instruction: bases. New blocks alone. -/
import Derived.Test.YtioodijiejipiaaGreatDoorID2
namespace Go.Proofs.YtioodijiejipiaaGreatDoor
open Go.RowKit
set_option linter.unusedVariables false

theorem aluBase_rest (i : I) : aluF i = orE (namedF nAlu 51 i) (orE (namedF nAluW 59 i) (orE (namedF nAlu 1073741875 i) (orE (namedF nAluW 1073741883 i) (orE (namedF nAlu 33554483 i) (orE (namedF nAluW 33554491 i) (0)))))) := rfl
set_option maxHeartbeats 2000000 in
set_option maxRecDepth 100000 in
theorem m_aluBase (i : I) (w : World) (hG : G w) :
    Calls Tryz.prog 53 #[i.v] w fun e w' => e = .returned (.int .u32 (aluF i)) ∧ Below w.heap.size w w' := by
  have q51 : bits .or .u32 51 0 = 51 := by decide
  have q59 : bits .or .u32 59 0 = 59 := by decide
  have q1073741875 : bits .or .u32 51 1073741824 = 1073741875 := by decide
  have q1073741883 : bits .or .u32 59 1073741824 = 1073741883 := by decide
  have q33554483 : bits .or .u32 51 33554432 = 33554483 := by decide
  have q33554491 : bits .or .u32 59 33554432 = 33554491 := by decide
  have ix0 : ∀ w, (Instr.index 71 (.agg #[.int .u32 0, .int .u32 32, .int .u32 1]) (.int .i64 0)).run Tryz.prog w = .ok (.int .u32 0) w := fun w => by kernel_rfl
  have ix1 : ∀ w, (Instr.index 71 (.agg #[.int .u32 0, .int .u32 32, .int .u32 1]) (.int .i64 1)).run Tryz.prog w = .ok (.int .u32 32) w := fun w => by kernel_rfl
  have ix2 : ∀ w, (Instr.index 71 (.agg #[.int .u32 0, .int .u32 32, .int .u32 1]) (.int .i64 2)).run Tryz.prog w = .ok (.int .u32 1) w := fun w => by kernel_rfl
  rw [aluBase_rest]
  go_enter Tryz.func53, Tryz.ntmps53
  go_wp2
  go_loopw [8] (fun t wr => ∃ k : Nat, k ≤ 3 ∧ t = .int .i64 k ∧ Below (w.heap.size + 1) (w.alloc (Obj.cells #[Value.int IntKind.i64 i.kind, Value.int IntKind.i64 i.fn, Value.int IntKind.i64 i.rd, Value.int IntKind.i64 i.rs1, Value.int IntKind.i64 i.rs2, Value.int IntKind.i64 i.imm, Value.int IntKind.i64 i.size, Value.bool i.sg] 24)) wr ∧ orE (namedF nAlu 51 i) (orE (namedF nAluW 59 i) (orE (namedF nAlu 1073741875 i) (orE (namedF nAluW 1073741883 i) (orE (namedF nAlu 33554483 i) (orE (namedF nAluW 33554491 i) (0)))))) = [orE (namedF nAlu 51 i) (orE (namedF nAluW 59 i) (orE (namedF nAlu 1073741875 i) (orE (namedF nAluW 1073741883 i) (orE (namedF nAlu 33554483 i) (orE (namedF nAluW 33554491 i) (0)))))), orE (namedF nAlu 1073741875 i) (orE (namedF nAluW 1073741883 i) (orE (namedF nAlu 33554483 i) (orE (namedF nAluW 33554491 i) (0)))), orE (namedF nAlu 33554483 i) (orE (namedF nAluW 33554491 i) (0)), 0].getD k 0) (fun t _ => 3 - (intOf t).toNat)
  case atStart => exact ⟨0, by omega, rfl, Below.refl _ _, rfl⟩
  case round =>
    obtain ⟨k, hk, rfl, hB, hN⟩ := hrel
    have hz0 : w.heap.size < wr.heap.size := by have := hB.size; simp at this; omega
    have hGr : G wr := (hG.alloc _).below (hB.mono (by simp))
    have hcw : ∀ o, wr.cell? ⟨w.heap.size, o, none⟩ = #[Value.int IntKind.i64 i.kind, Value.int IntKind.i64 i.fn, Value.int IntKind.i64 i.rd, Value.int IntKind.i64 i.rs1, Value.int IntKind.i64 i.rs2, Value.int IntKind.i64 i.imm, Value.int IntKind.i64 i.size, Value.bool i.sg][o]? := fun o => by
      rw [hB.cell (p := ⟨w.heap.size, o, none⟩) (by simp), World.cell?_alloc_at _ _ _ _ rfl]
    have hBW : Below w.heap.size w wr := (below1 _).trans (hB.mono (by omega))
    match k, hk, hN with
    | 0, hk, hN =>
      have HN : Hid (orE (namedF nAlu 51 i) (orE (namedF nAluW 59 i) (orE (namedF nAlu 1073741875 i) (orE (namedF nAluW 1073741883 i) (orE (namedF nAlu 33554483 i) (orE (namedF nAluW 33554491 i) (0)))))) = orE (namedF nAlu 51 i) (orE (namedF nAluW 59 i) (orE (namedF nAlu 1073741875 i) (orE (namedF nAluW 1073741883 i) (orE (namedF nAlu 33554483 i) (orE (namedF nAluW 33554491 i) (0))))))) := hN
      clear hN
      by_cases h1 : namedF nAlu 51 i = 0
      · by_cases h2 : namedF nAluW 59 i = 0
        · go_wp2_with (first | (go_at_call 49; with_reducible refine (m_named 94 nAlu _ i _ hGr Tryz.call94 (fun a x y => n_alu a x y)).mono ?_; rintro e w1 ⟨rfl, hb⟩; obtain ⟨hc1, hf1⟩ := bcell hb; have hz1 := Nat.lt_of_lt_of_le hz0 hb.size) | (go_at_call 49; with_reducible refine (m_named 96 nAluW _ i _ (hGr.below hb) Tryz.call96 (fun a x y => n_aluW a x y)).mono ?_; rintro e w2 ⟨rfl, hb2⟩; obtain ⟨hc2, hf2⟩ := bcell hb2))
          go_roundw
          case rel => exact ⟨1, by omega, rfl, hB.trans ((belowT hb hb2).mono (by omega)), by first | (rw [HN.out, orE, if_pos h1, orE, if_pos h2]; done) | (rw [HN.out, orE, if_pos h1, orE, if_pos h2]; rfl) | (rw [orE, if_pos h1, orE, if_pos h2]; done) | (rw [orE, if_pos h1, orE, if_pos h2]; rfl)⟩
          case measure => simp [intOf]
        · go_wp2_with (first | (go_at_call 49; with_reducible refine (m_named 94 nAlu _ i _ hGr Tryz.call94 (fun a x y => n_alu a x y)).mono ?_; rintro e w1 ⟨rfl, hb⟩; obtain ⟨hc1, hf1⟩ := bcell hb; have hz1 := Nat.lt_of_lt_of_le hz0 hb.size) | (go_at_call 49; with_reducible refine (m_named 96 nAluW _ i _ (hGr.below hb) Tryz.call96 (fun a x y => n_aluW a x y)).mono ?_; rintro e w2 ⟨rfl, hb2⟩; obtain ⟨hc2, hf2⟩ := bcell hb2))
          go_ret
          exact ⟨ret_int (by first | (rw [HN.out, orE, if_pos h1, orE, if_neg h2]; done) | (rw [HN.out, orE, if_pos h1, orE, if_neg h2]; rfl) | (rw [orE, if_pos h1, orE, if_neg h2]; done) | (rw [orE, if_pos h1, orE, if_neg h2]; rfl)), belowT hBW (belowT hb hb2)⟩
      · go_wp2_with (first | (go_at_call 49; with_reducible refine (m_named 94 nAlu _ i _ hGr Tryz.call94 (fun a x y => n_alu a x y)).mono ?_; rintro e w1 ⟨rfl, hb⟩; obtain ⟨hc1, hf1⟩ := bcell hb; have hz1 := Nat.lt_of_lt_of_le hz0 hb.size) | (go_at_call 49; with_reducible refine (m_named 96 nAluW _ i _ (hGr.below hb) Tryz.call96 (fun a x y => n_aluW a x y)).mono ?_; rintro e w2 ⟨rfl, hb2⟩; obtain ⟨hc2, hf2⟩ := bcell hb2))
        go_ret
        exact ⟨ret_int (by first | (rw [HN.out, orE, if_neg h1]; done) | (rw [HN.out, orE, if_neg h1]; rfl) | (rw [orE, if_neg h1]; done) | (rw [orE, if_neg h1]; rfl)), belowT hBW hb⟩
    | 1, hk, hN =>
      have HN : Hid (orE (namedF nAlu 51 i) (orE (namedF nAluW 59 i) (orE (namedF nAlu 1073741875 i) (orE (namedF nAluW 1073741883 i) (orE (namedF nAlu 33554483 i) (orE (namedF nAluW 33554491 i) (0)))))) = orE (namedF nAlu 1073741875 i) (orE (namedF nAluW 1073741883 i) (orE (namedF nAlu 33554483 i) (orE (namedF nAluW 33554491 i) (0))))) := hN
      clear hN
      by_cases h1 : namedF nAlu 1073741875 i = 0
      · by_cases h2 : namedF nAluW 1073741883 i = 0
        · go_wp2_with (first | (go_at_call 49; with_reducible refine (m_named 94 nAlu _ i _ hGr Tryz.call94 (fun a x y => n_alu a x y)).mono ?_; rintro e w1 ⟨rfl, hb⟩; obtain ⟨hc1, hf1⟩ := bcell hb; have hz1 := Nat.lt_of_lt_of_le hz0 hb.size) | (go_at_call 49; with_reducible refine (m_named 96 nAluW _ i _ (hGr.below hb) Tryz.call96 (fun a x y => n_aluW a x y)).mono ?_; rintro e w2 ⟨rfl, hb2⟩; obtain ⟨hc2, hf2⟩ := bcell hb2))
          go_roundw
          case rel => exact ⟨2, by omega, rfl, hB.trans ((belowT hb hb2).mono (by omega)), by first | (rw [HN.out, orE, if_pos h1, orE, if_pos h2]; done) | (rw [HN.out, orE, if_pos h1, orE, if_pos h2]; rfl) | (rw [orE, if_pos h1, orE, if_pos h2]; done) | (rw [orE, if_pos h1, orE, if_pos h2]; rfl)⟩
          case measure => simp [intOf]
        · go_wp2_with (first | (go_at_call 49; with_reducible refine (m_named 94 nAlu _ i _ hGr Tryz.call94 (fun a x y => n_alu a x y)).mono ?_; rintro e w1 ⟨rfl, hb⟩; obtain ⟨hc1, hf1⟩ := bcell hb; have hz1 := Nat.lt_of_lt_of_le hz0 hb.size) | (go_at_call 49; with_reducible refine (m_named 96 nAluW _ i _ (hGr.below hb) Tryz.call96 (fun a x y => n_aluW a x y)).mono ?_; rintro e w2 ⟨rfl, hb2⟩; obtain ⟨hc2, hf2⟩ := bcell hb2))
          go_ret
          exact ⟨ret_int (by first | (rw [HN.out, orE, if_pos h1, orE, if_neg h2]; done) | (rw [HN.out, orE, if_pos h1, orE, if_neg h2]; rfl) | (rw [orE, if_pos h1, orE, if_neg h2]; done) | (rw [orE, if_pos h1, orE, if_neg h2]; rfl)), belowT hBW (belowT hb hb2)⟩
      · go_wp2_with (first | (go_at_call 49; with_reducible refine (m_named 94 nAlu _ i _ hGr Tryz.call94 (fun a x y => n_alu a x y)).mono ?_; rintro e w1 ⟨rfl, hb⟩; obtain ⟨hc1, hf1⟩ := bcell hb; have hz1 := Nat.lt_of_lt_of_le hz0 hb.size) | (go_at_call 49; with_reducible refine (m_named 96 nAluW _ i _ (hGr.below hb) Tryz.call96 (fun a x y => n_aluW a x y)).mono ?_; rintro e w2 ⟨rfl, hb2⟩; obtain ⟨hc2, hf2⟩ := bcell hb2))
        go_ret
        exact ⟨ret_int (by first | (rw [HN.out, orE, if_neg h1]; done) | (rw [HN.out, orE, if_neg h1]; rfl) | (rw [orE, if_neg h1]; done) | (rw [orE, if_neg h1]; rfl)), belowT hBW hb⟩
    | 2, hk, hN =>
      have HN : Hid (orE (namedF nAlu 51 i) (orE (namedF nAluW 59 i) (orE (namedF nAlu 1073741875 i) (orE (namedF nAluW 1073741883 i) (orE (namedF nAlu 33554483 i) (orE (namedF nAluW 33554491 i) (0)))))) = orE (namedF nAlu 33554483 i) (orE (namedF nAluW 33554491 i) (0))) := hN
      clear hN
      by_cases h1 : namedF nAlu 33554483 i = 0
      · by_cases h2 : namedF nAluW 33554491 i = 0
        · go_wp2_with (first | (go_at_call 49; with_reducible refine (m_named 94 nAlu _ i _ hGr Tryz.call94 (fun a x y => n_alu a x y)).mono ?_; rintro e w1 ⟨rfl, hb⟩; obtain ⟨hc1, hf1⟩ := bcell hb; have hz1 := Nat.lt_of_lt_of_le hz0 hb.size) | (go_at_call 49; with_reducible refine (m_named 96 nAluW _ i _ (hGr.below hb) Tryz.call96 (fun a x y => n_aluW a x y)).mono ?_; rintro e w2 ⟨rfl, hb2⟩; obtain ⟨hc2, hf2⟩ := bcell hb2))
          go_roundw
          case rel => exact ⟨3, by omega, rfl, hB.trans ((belowT hb hb2).mono (by omega)), by first | (rw [HN.out, orE, if_pos h1, orE, if_pos h2]; done) | (rw [HN.out, orE, if_pos h1, orE, if_pos h2]; rfl) | (rw [orE, if_pos h1, orE, if_pos h2]; done) | (rw [orE, if_pos h1, orE, if_pos h2]; rfl)⟩
          case measure => simp [intOf]
        · go_wp2_with (first | (go_at_call 49; with_reducible refine (m_named 94 nAlu _ i _ hGr Tryz.call94 (fun a x y => n_alu a x y)).mono ?_; rintro e w1 ⟨rfl, hb⟩; obtain ⟨hc1, hf1⟩ := bcell hb; have hz1 := Nat.lt_of_lt_of_le hz0 hb.size) | (go_at_call 49; with_reducible refine (m_named 96 nAluW _ i _ (hGr.below hb) Tryz.call96 (fun a x y => n_aluW a x y)).mono ?_; rintro e w2 ⟨rfl, hb2⟩; obtain ⟨hc2, hf2⟩ := bcell hb2))
          go_ret
          exact ⟨ret_int (by first | (rw [HN.out, orE, if_pos h1, orE, if_neg h2]; done) | (rw [HN.out, orE, if_pos h1, orE, if_neg h2]; rfl) | (rw [orE, if_pos h1, orE, if_neg h2]; done) | (rw [orE, if_pos h1, orE, if_neg h2]; rfl)), belowT hBW (belowT hb hb2)⟩
      · go_wp2_with (first | (go_at_call 49; with_reducible refine (m_named 94 nAlu _ i _ hGr Tryz.call94 (fun a x y => n_alu a x y)).mono ?_; rintro e w1 ⟨rfl, hb⟩; obtain ⟨hc1, hf1⟩ := bcell hb; have hz1 := Nat.lt_of_lt_of_le hz0 hb.size) | (go_at_call 49; with_reducible refine (m_named 96 nAluW _ i _ (hGr.below hb) Tryz.call96 (fun a x y => n_aluW a x y)).mono ?_; rintro e w2 ⟨rfl, hb2⟩; obtain ⟨hc2, hf2⟩ := bcell hb2))
        go_ret
        exact ⟨ret_int (by first | (rw [HN.out, orE, if_neg h1]; done) | (rw [HN.out, orE, if_neg h1]; rfl) | (rw [orE, if_neg h1]; done) | (rw [orE, if_neg h1]; rfl)), belowT hBW hb⟩
    | 3, hk, hN =>
      have HN : Hid (orE (namedF nAlu 51 i) (orE (namedF nAluW 59 i) (orE (namedF nAlu 1073741875 i) (orE (namedF nAluW 1073741883 i) (orE (namedF nAlu 33554483 i) (orE (namedF nAluW 33554491 i) (0)))))) = 0) := hN
      clear hN
      go_wp2
      go_ret
      exact ⟨ret_int (by rw [HN.out]), hBW⟩
    | n + 4, hk, hN => exact absurd hk (by omega)
theorem aluImmBase_rest (i : I) : aluImmF i = orE (namedF nImm 19 i) (orE (namedF nImmW 27 i) (orE (namedF nImm 1073741843 i) (orE (namedF nImmW 1073741851 i) (0)))) := rfl
set_option maxHeartbeats 2000000 in
set_option maxRecDepth 100000 in
theorem m_aluImmBase (i : I) (w : World) (hG : G w) :
    Calls Tryz.prog 54 #[i.v] w fun e w' => e = .returned (.int .u32 (aluImmF i)) ∧ Below w.heap.size w w' := by
  have q19 : bits .or .u32 19 0 = 19 := by decide
  have q27 : bits .or .u32 27 0 = 27 := by decide
  have q1073741843 : bits .or .u32 19 1073741824 = 1073741843 := by decide
  have q1073741851 : bits .or .u32 27 1073741824 = 1073741851 := by decide
  have ix0 : ∀ w, (Instr.index 72 (.agg #[.int .u32 0, .int .u32 32]) (.int .i64 0)).run Tryz.prog w = .ok (.int .u32 0) w := fun w => by kernel_rfl
  have ix1 : ∀ w, (Instr.index 72 (.agg #[.int .u32 0, .int .u32 32]) (.int .i64 1)).run Tryz.prog w = .ok (.int .u32 32) w := fun w => by kernel_rfl
  rw [aluImmBase_rest]
  go_enter Tryz.func54, Tryz.ntmps54
  go_wp2
  go_loopw [8] (fun t wr => ∃ k : Nat, k ≤ 2 ∧ t = .int .i64 k ∧ Below (w.heap.size + 1) (w.alloc (Obj.cells #[Value.int IntKind.i64 i.kind, Value.int IntKind.i64 i.fn, Value.int IntKind.i64 i.rd, Value.int IntKind.i64 i.rs1, Value.int IntKind.i64 i.rs2, Value.int IntKind.i64 i.imm, Value.int IntKind.i64 i.size, Value.bool i.sg] 24)) wr ∧ orE (namedF nImm 19 i) (orE (namedF nImmW 27 i) (orE (namedF nImm 1073741843 i) (orE (namedF nImmW 1073741851 i) (0)))) = [orE (namedF nImm 19 i) (orE (namedF nImmW 27 i) (orE (namedF nImm 1073741843 i) (orE (namedF nImmW 1073741851 i) (0)))), orE (namedF nImm 1073741843 i) (orE (namedF nImmW 1073741851 i) (0)), 0].getD k 0) (fun t _ => 2 - (intOf t).toNat)
  case atStart => exact ⟨0, by omega, rfl, Below.refl _ _, rfl⟩
  case round =>
    obtain ⟨k, hk, rfl, hB, hN⟩ := hrel
    have hz0 : w.heap.size < wr.heap.size := by have := hB.size; simp at this; omega
    have hGr : G wr := (hG.alloc _).below (hB.mono (by simp))
    have hcw : ∀ o, wr.cell? ⟨w.heap.size, o, none⟩ = #[Value.int IntKind.i64 i.kind, Value.int IntKind.i64 i.fn, Value.int IntKind.i64 i.rd, Value.int IntKind.i64 i.rs1, Value.int IntKind.i64 i.rs2, Value.int IntKind.i64 i.imm, Value.int IntKind.i64 i.size, Value.bool i.sg][o]? := fun o => by
      rw [hB.cell (p := ⟨w.heap.size, o, none⟩) (by simp), World.cell?_alloc_at _ _ _ _ rfl]
    have hBW : Below w.heap.size w wr := (below1 _).trans (hB.mono (by omega))
    match k, hk, hN with
    | 0, hk, hN =>
      have HN : Hid (orE (namedF nImm 19 i) (orE (namedF nImmW 27 i) (orE (namedF nImm 1073741843 i) (orE (namedF nImmW 1073741851 i) (0)))) = orE (namedF nImm 19 i) (orE (namedF nImmW 27 i) (orE (namedF nImm 1073741843 i) (orE (namedF nImmW 1073741851 i) (0))))) := hN
      clear hN
      by_cases h1 : namedF nImm 19 i = 0
      · by_cases h2 : namedF nImmW 27 i = 0
        · go_wp2_with (first | (go_at_call 49; with_reducible refine (m_named 89 nImm _ i _ hGr Tryz.call89 (fun a x y => n_aluImm a x y)).mono ?_; rintro e w1 ⟨rfl, hb⟩; obtain ⟨hc1, hf1⟩ := bcell hb; have hz1 := Nat.lt_of_lt_of_le hz0 hb.size) | (go_at_call 49; with_reducible refine (m_named 92 nImmW _ i _ (hGr.below hb) Tryz.call92 (fun a x y => n_aluImmW a x y)).mono ?_; rintro e w2 ⟨rfl, hb2⟩; obtain ⟨hc2, hf2⟩ := bcell hb2))
          go_roundw
          case rel => exact ⟨1, by omega, rfl, hB.trans ((belowT hb hb2).mono (by omega)), by first | (rw [HN.out, orE, if_pos h1, orE, if_pos h2]; done) | (rw [HN.out, orE, if_pos h1, orE, if_pos h2]; rfl) | (rw [orE, if_pos h1, orE, if_pos h2]; done) | (rw [orE, if_pos h1, orE, if_pos h2]; rfl)⟩
          case measure => simp [intOf]
        · go_wp2_with (first | (go_at_call 49; with_reducible refine (m_named 89 nImm _ i _ hGr Tryz.call89 (fun a x y => n_aluImm a x y)).mono ?_; rintro e w1 ⟨rfl, hb⟩; obtain ⟨hc1, hf1⟩ := bcell hb; have hz1 := Nat.lt_of_lt_of_le hz0 hb.size) | (go_at_call 49; with_reducible refine (m_named 92 nImmW _ i _ (hGr.below hb) Tryz.call92 (fun a x y => n_aluImmW a x y)).mono ?_; rintro e w2 ⟨rfl, hb2⟩; obtain ⟨hc2, hf2⟩ := bcell hb2))
          go_ret
          exact ⟨ret_int (by first | (rw [HN.out, orE, if_pos h1, orE, if_neg h2]; done) | (rw [HN.out, orE, if_pos h1, orE, if_neg h2]; rfl) | (rw [orE, if_pos h1, orE, if_neg h2]; done) | (rw [orE, if_pos h1, orE, if_neg h2]; rfl)), belowT hBW (belowT hb hb2)⟩
      · go_wp2_with (first | (go_at_call 49; with_reducible refine (m_named 89 nImm _ i _ hGr Tryz.call89 (fun a x y => n_aluImm a x y)).mono ?_; rintro e w1 ⟨rfl, hb⟩; obtain ⟨hc1, hf1⟩ := bcell hb; have hz1 := Nat.lt_of_lt_of_le hz0 hb.size) | (go_at_call 49; with_reducible refine (m_named 92 nImmW _ i _ (hGr.below hb) Tryz.call92 (fun a x y => n_aluImmW a x y)).mono ?_; rintro e w2 ⟨rfl, hb2⟩; obtain ⟨hc2, hf2⟩ := bcell hb2))
        go_ret
        exact ⟨ret_int (by first | (rw [HN.out, orE, if_neg h1]; done) | (rw [HN.out, orE, if_neg h1]; rfl) | (rw [orE, if_neg h1]; done) | (rw [orE, if_neg h1]; rfl)), belowT hBW hb⟩
    | 1, hk, hN =>
      have HN : Hid (orE (namedF nImm 19 i) (orE (namedF nImmW 27 i) (orE (namedF nImm 1073741843 i) (orE (namedF nImmW 1073741851 i) (0)))) = orE (namedF nImm 1073741843 i) (orE (namedF nImmW 1073741851 i) (0))) := hN
      clear hN
      by_cases h1 : namedF nImm 1073741843 i = 0
      · by_cases h2 : namedF nImmW 1073741851 i = 0
        · go_wp2_with (first | (go_at_call 49; with_reducible refine (m_named 89 nImm _ i _ hGr Tryz.call89 (fun a x y => n_aluImm a x y)).mono ?_; rintro e w1 ⟨rfl, hb⟩; obtain ⟨hc1, hf1⟩ := bcell hb; have hz1 := Nat.lt_of_lt_of_le hz0 hb.size) | (go_at_call 49; with_reducible refine (m_named 92 nImmW _ i _ (hGr.below hb) Tryz.call92 (fun a x y => n_aluImmW a x y)).mono ?_; rintro e w2 ⟨rfl, hb2⟩; obtain ⟨hc2, hf2⟩ := bcell hb2))
          go_roundw
          case rel => exact ⟨2, by omega, rfl, hB.trans ((belowT hb hb2).mono (by omega)), by first | (rw [HN.out, orE, if_pos h1, orE, if_pos h2]; done) | (rw [HN.out, orE, if_pos h1, orE, if_pos h2]; rfl) | (rw [orE, if_pos h1, orE, if_pos h2]; done) | (rw [orE, if_pos h1, orE, if_pos h2]; rfl)⟩
          case measure => simp [intOf]
        · go_wp2_with (first | (go_at_call 49; with_reducible refine (m_named 89 nImm _ i _ hGr Tryz.call89 (fun a x y => n_aluImm a x y)).mono ?_; rintro e w1 ⟨rfl, hb⟩; obtain ⟨hc1, hf1⟩ := bcell hb; have hz1 := Nat.lt_of_lt_of_le hz0 hb.size) | (go_at_call 49; with_reducible refine (m_named 92 nImmW _ i _ (hGr.below hb) Tryz.call92 (fun a x y => n_aluImmW a x y)).mono ?_; rintro e w2 ⟨rfl, hb2⟩; obtain ⟨hc2, hf2⟩ := bcell hb2))
          go_ret
          exact ⟨ret_int (by first | (rw [HN.out, orE, if_pos h1, orE, if_neg h2]; done) | (rw [HN.out, orE, if_pos h1, orE, if_neg h2]; rfl) | (rw [orE, if_pos h1, orE, if_neg h2]; done) | (rw [orE, if_pos h1, orE, if_neg h2]; rfl)), belowT hBW (belowT hb hb2)⟩
      · go_wp2_with (first | (go_at_call 49; with_reducible refine (m_named 89 nImm _ i _ hGr Tryz.call89 (fun a x y => n_aluImm a x y)).mono ?_; rintro e w1 ⟨rfl, hb⟩; obtain ⟨hc1, hf1⟩ := bcell hb; have hz1 := Nat.lt_of_lt_of_le hz0 hb.size) | (go_at_call 49; with_reducible refine (m_named 92 nImmW _ i _ (hGr.below hb) Tryz.call92 (fun a x y => n_aluImmW a x y)).mono ?_; rintro e w2 ⟨rfl, hb2⟩; obtain ⟨hc2, hf2⟩ := bcell hb2))
        go_ret
        exact ⟨ret_int (by first | (rw [HN.out, orE, if_neg h1]; done) | (rw [HN.out, orE, if_neg h1]; rfl) | (rw [orE, if_neg h1]; done) | (rw [orE, if_neg h1]; rfl)), belowT hBW hb⟩
    | 2, hk, hN =>
      have HN : Hid (orE (namedF nImm 19 i) (orE (namedF nImmW 27 i) (orE (namedF nImm 1073741843 i) (orE (namedF nImmW 1073741851 i) (0)))) = 0) := hN
      clear hN
      go_wp2
      go_ret
      exact ⟨ret_int (by rw [HN.out]), hBW⟩
    | n + 3, hk, hN => exact absurd hk (by omega)
end Go.Proofs.YtioodijiejipiaaGreatDoor
