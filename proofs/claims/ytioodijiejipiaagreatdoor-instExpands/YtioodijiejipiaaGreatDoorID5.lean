/- What Encode answers, for every instruction: the draft of a word, and whether it is one. New blocks alone. -/
import Derived.Test.YtioodijiejipiaaGreatDoorID4
namespace Go.Proofs.YtioodijiejipiaaGreatDoor
open Go.RowKit
set_option linter.unusedVariables false

def svd : Bool → Value → Value → Value
  | true, v, _ => v
  | false, _, u => u
theorem reg_b (n : Int) : 0 ≤ reg n ∧ reg n < 32 := by unfold reg; omega
set_option maxHeartbeats 2000000 in
set_option maxRecDepth 100000 in
theorem m_draft (i : I) (w : World) (hG : G w) :
    Calls Tryz.prog 25 #[i.v] w fun e w' => e = .returned (.int .u32 (draftF i)) ∧ Below w.heap.size w w' := by
  have s1 : reg i.rd * 128 % 4294967296 = reg i.rd * 128 := by have := reg_b i.rd; omega
  have s2 : reg i.rs1 * 32768 % 4294967296 = reg i.rs1 * 32768 := by have := reg_b i.rs1; omega
  have s3 : reg i.rs2 * 1048576 % 4294967296 = reg i.rs2 * 1048576 := by have := reg_b i.rs2; omega
  have s1' : IntKind.u32.wrap (reg i.rd * 128) = reg i.rd * 128 := by rw [IntKind.wrap_u32']; exact s1
  have s2' : IntKind.u32.wrap (reg i.rs1 * 32768) = reg i.rs1 * 32768 := by rw [IntKind.wrap_u32']; exact s2
  have s3' : IntKind.u32.wrap (reg i.rs2 * 1048576) = reg i.rs2 * 1048576 := by rw [IntKind.wrap_u32']; exact s3
  have hdr : bits .or .u32 (bits .or .u32 (bits .or .u32 (bits .or .u32 (baseF i) (reg i.rd * 128)) (reg i.rs1 * 32768)) (reg i.rs2 * 1048576)) (imm i.kind i.imm) = draftF i := rfl
  go_enter Tryz.func25, Tryz.ntmps25
  go_wp2
  refine wp_region_any (by kernel_rfl) ?_
  refine wpAny_inv (fun listed fr wr => ∃ b0 b1 b2 b3 b4 b5 b6 b7 b8 b9 b10 b11 b12 b13 b14 b15 b16 b17 b18 b19 b20 b21 b22 b23 : Bool, listed = #[b0, b1, b2, b3, b4, b5, b6, b7, b8, b9, b10, b11, b12, b13, b14, b15, b16, b17, b18, b19, b20, b21, b22, b23] ∧ fr = ⟨List.toArray (i.v :: Value.pointer (some ⟨w.heap.size, 0, none⟩) :: svd b23 (Value.int IntKind.u32 (draftF i)) (Value.int IntKind.u32 0) :: sv b0 (i.v) :: sv b1 (Value.int IntKind.u32 (baseF i)) :: sv b2 (Value.pointer (some ⟨w.heap.size, 2, none⟩)) :: sv b3 (Value.int IntKind.i64 (i.rd)) :: sv b4 (Value.int IntKind.u32 (reg i.rd)) :: sv b5 (Value.int IntKind.u32 (reg i.rd * 128)) :: sv b6 (Value.int IntKind.u32 (bits .or .u32 (baseF i) (reg i.rd * 128))) :: sv b7 (Value.pointer (some ⟨w.heap.size, 3, none⟩)) :: sv b8 (Value.int IntKind.i64 (i.rs1)) :: sv b9 (Value.int IntKind.u32 (reg i.rs1)) :: sv b10 (Value.int IntKind.u32 (reg i.rs1 * 32768)) :: sv b11 (Value.int IntKind.u32 (bits .or .u32 (bits .or .u32 (baseF i) (reg i.rd * 128)) (reg i.rs1 * 32768))) :: sv b12 (Value.pointer (some ⟨w.heap.size, 4, none⟩)) :: sv b13 (Value.int IntKind.i64 (i.rs2)) :: sv b14 (Value.int IntKind.u32 (reg i.rs2)) :: sv b15 (Value.int IntKind.u32 (reg i.rs2 * 1048576)) :: sv b16 (Value.int IntKind.u32 (bits .or .u32 (bits .or .u32 (bits .or .u32 (baseF i) (reg i.rd * 128)) (reg i.rs1 * 32768)) (reg i.rs2 * 1048576))) :: sv b17 (Value.pointer (some ⟨w.heap.size, 0, none⟩)) :: sv b18 (Value.int IntKind.i64 (i.kind)) :: sv b19 (Value.pointer (some ⟨w.heap.size, 5, none⟩)) :: sv b20 (Value.int IntKind.i64 (i.imm)) :: sv b21 (Value.int IntKind.u32 (imm i.kind i.imm)) :: sv b22 (Value.int IntKind.u32 (draftF i)) :: []), []⟩ ∧ Below (w.heap.size + 1) ((w.alloc (Obj.cells #[Value.int IntKind.i64 i.kind, Value.int IntKind.i64 i.fn, Value.int IntKind.i64 i.rd, Value.int IntKind.i64 i.rs1, Value.int IntKind.i64 i.rs2, Value.int IntKind.i64 i.imm, Value.int IntKind.i64 i.size, Value.bool i.sg] 24)).drew) wr) ?step ?fin _ _ _ _ (by simp) ?start
  case start => exact ⟨false, false, false, false, false, false, false, false, false, false, false, false, false, false, false, false, false, false, false, false, false, false, false, false, rfl, rfl, Below.refl _ _⟩
  case fin =>
    rintro listed fr wr ⟨b0, b1, b2, b3, b4, b5, b6, b7, b8, b9, b10, b11, b12, b13, b14, b15, b16, b17, b18, b19, b20, b21, b22, b23, rfl, rfl, hB⟩ hr
    obtain rfl : b0 = true := by
      cases b0 with
      | true => rfl
      | false => exact (ready_no hr (j := 0) rfl rfl (by kernel_rfl)).elim
    obtain rfl : b1 = true := by
      cases b1 with
      | true => rfl
      | false => exact (ready_no hr (j := 1) rfl rfl (by kernel_rfl)).elim
    obtain rfl : b2 = true := by
      cases b2 with
      | true => rfl
      | false => exact (ready_no hr (j := 2) rfl rfl (by kernel_rfl)).elim
    obtain rfl : b3 = true := by
      cases b3 with
      | true => rfl
      | false => exact (ready_no hr (j := 3) rfl rfl (by kernel_rfl)).elim
    obtain rfl : b4 = true := by
      cases b4 with
      | true => rfl
      | false => exact (ready_no hr (j := 4) rfl rfl (by kernel_rfl)).elim
    obtain rfl : b5 = true := by
      cases b5 with
      | true => rfl
      | false => exact (ready_no hr (j := 5) rfl rfl (by kernel_rfl)).elim
    obtain rfl : b6 = true := by
      cases b6 with
      | true => rfl
      | false => exact (ready_no hr (j := 6) rfl rfl (by kernel_rfl)).elim
    obtain rfl : b7 = true := by
      cases b7 with
      | true => rfl
      | false => exact (ready_no hr (j := 7) rfl rfl (by kernel_rfl)).elim
    obtain rfl : b8 = true := by
      cases b8 with
      | true => rfl
      | false => exact (ready_no hr (j := 8) rfl rfl (by kernel_rfl)).elim
    obtain rfl : b9 = true := by
      cases b9 with
      | true => rfl
      | false => exact (ready_no hr (j := 9) rfl rfl (by kernel_rfl)).elim
    obtain rfl : b10 = true := by
      cases b10 with
      | true => rfl
      | false => exact (ready_no hr (j := 10) rfl rfl (by kernel_rfl)).elim
    obtain rfl : b11 = true := by
      cases b11 with
      | true => rfl
      | false => exact (ready_no hr (j := 11) rfl rfl (by kernel_rfl)).elim
    obtain rfl : b12 = true := by
      cases b12 with
      | true => rfl
      | false => exact (ready_no hr (j := 12) rfl rfl (by kernel_rfl)).elim
    obtain rfl : b13 = true := by
      cases b13 with
      | true => rfl
      | false => exact (ready_no hr (j := 13) rfl rfl (by kernel_rfl)).elim
    obtain rfl : b14 = true := by
      cases b14 with
      | true => rfl
      | false => exact (ready_no hr (j := 14) rfl rfl (by kernel_rfl)).elim
    obtain rfl : b15 = true := by
      cases b15 with
      | true => rfl
      | false => exact (ready_no hr (j := 15) rfl rfl (by kernel_rfl)).elim
    obtain rfl : b16 = true := by
      cases b16 with
      | true => rfl
      | false => exact (ready_no hr (j := 16) rfl rfl (by kernel_rfl)).elim
    obtain rfl : b17 = true := by
      cases b17 with
      | true => rfl
      | false => exact (ready_no hr (j := 17) rfl rfl (by kernel_rfl)).elim
    obtain rfl : b18 = true := by
      cases b18 with
      | true => rfl
      | false => exact (ready_no hr (j := 18) rfl rfl (by kernel_rfl)).elim
    obtain rfl : b19 = true := by
      cases b19 with
      | true => rfl
      | false => exact (ready_no hr (j := 19) rfl rfl (by kernel_rfl)).elim
    obtain rfl : b20 = true := by
      cases b20 with
      | true => rfl
      | false => exact (ready_no hr (j := 20) rfl rfl (by kernel_rfl)).elim
    obtain rfl : b21 = true := by
      cases b21 with
      | true => rfl
      | false => exact (ready_no hr (j := 21) rfl rfl (by kernel_rfl)).elim
    obtain rfl : b22 = true := by
      cases b22 with
      | true => rfl
      | false => exact (ready_no hr (j := 22) rfl rfl (by kernel_rfl)).elim
    obtain rfl : b23 = true := by
      cases b23 with
      | true => rfl
      | false => exact (ready_no hr (j := 23) rfl rfl (by kernel_rfl)).elim
    simp only [sv, svd]
    go_wp2
    go_ret
    exact ⟨rfl, ((below1 _).drew).trans (hB.mono (by omega))⟩
  case step =>
    rintro listed fr wr ⟨b0, b1, b2, b3, b4, b5, b6, b7, b8, b9, b10, b11, b12, b13, b14, b15, b16, b17, b18, b19, b20, b21, b22, b23, rfl, rfl, hB⟩ j hj
    obtain ⟨hl, o, ho, he⟩ := mem_ready.1 hj
    clear hj
    have hc : ∀ o, wr.cell? ⟨w.heap.size, o, none⟩ = #[Value.int IntKind.i64 i.kind, Value.int IntKind.i64 i.fn, Value.int IntKind.i64 i.rd, Value.int IntKind.i64 i.rs1, Value.int IntKind.i64 i.rs2, Value.int IntKind.i64 i.imm, Value.int IntKind.i64 i.size, Value.bool i.sg][o]? := fun o => by
      rw [hB.cell (p := ⟨w.heap.size, o, none⟩) (by simp)]
      exact World.cell?_alloc_at _ _ _ _ rfl
    have hGr : G wr := (hG.below (below1 _).drew).below (hB.mono (by show (w.heap.push _).size ≤ _; simp))
    have hsv : ∀ v, sv true v = v := fun _ => rfl
    match j, ho, hl, he with
    | 0, ho, hl, he =>
      obtain rfl := Option.some.inj ho
      simp [Region.binds] at hl he
      clear ho
      refine wpOp_step rfl (fun K hK => ?_)
      go_simp
      refine hK _ _ ⟨true, b1, b2, b3, b4, b5, b6, b7, b8, b9, b10, b11, b12, b13, b14, b15, b16, b17, b18, b19, b20, b21, b22, b23, rfl, ?_, hB⟩
      simp [sv, svd]
    | 1, ho, hl, he =>
      obtain rfl := Option.some.inj ho
      simp [Region.binds] at hl he
      clear ho
      refine wpOp_step rfl (fun K hK => ?_)
      go_simp
      refine (m_base i _ hGr).mono ?_
      rintro e w' ⟨rfl, hb⟩
      refine hK _ _ ⟨b0, true, b2, b3, b4, b5, b6, b7, b8, b9, b10, b11, b12, b13, b14, b15, b16, b17, b18, b19, b20, b21, b22, b23, rfl, ?_, hB.trans (hb.mono (by have := hB.size; simp [World.drew] at this; omega))⟩
      simp [sv, svd, he]
    | 2, ho, hl, he =>
      obtain rfl := Option.some.inj ho
      simp [Region.binds] at hl he
      clear ho
      refine wpOp_step rfl (fun K hK => ?_)
      go_simp
      refine hK _ _ ⟨b0, b1, true, b3, b4, b5, b6, b7, b8, b9, b10, b11, b12, b13, b14, b15, b16, b17, b18, b19, b20, b21, b22, b23, rfl, ?_, hB⟩
      simp [sv, svd]
    | 3, ho, hl, he =>
      obtain rfl := Option.some.inj ho
      simp [Region.binds] at hl he
      clear ho
      refine wpOp_step rfl (fun K hK => ?_)
      go_simp
      refine hK _ _ ⟨b0, b1, b2, true, b4, b5, b6, b7, b8, b9, b10, b11, b12, b13, b14, b15, b16, b17, b18, b19, b20, b21, b22, b23, rfl, ?_, hB⟩
      simp [sv, svd, he]
    | 4, ho, hl, he =>
      obtain rfl := Option.some.inj ho
      simp [Region.binds] at hl he
      clear ho
      refine wpOp_step rfl (fun K hK => ?_)
      go_simp
      refine (m_register _ _).mono ?_
      rintro e w' ⟨rfl, rfl⟩
      refine hK _ _ ⟨b0, b1, b2, b3, true, b5, b6, b7, b8, b9, b10, b11, b12, b13, b14, b15, b16, b17, b18, b19, b20, b21, b22, b23, rfl, ?_, hB⟩
      simp [sv, svd, he]
    | 5, ho, hl, he =>
      obtain rfl := Option.some.inj ho
      simp [Region.binds] at hl he
      clear ho
      refine wpOp_step rfl (fun K hK => ?_)
      go_simp
      refine hK _ _ ⟨b0, b1, b2, b3, b4, true, b6, b7, b8, b9, b10, b11, b12, b13, b14, b15, b16, b17, b18, b19, b20, b21, b22, b23, rfl, ?_, hB⟩
      simp [sv, svd, he]
    | 6, ho, hl, he =>
      obtain rfl := Option.some.inj ho
      simp [Region.binds] at hl he
      clear ho
      refine wpOp_step rfl (fun K hK => ?_)
      go_simp
      refine hK _ _ ⟨b0, b1, b2, b3, b4, b5, true, b7, b8, b9, b10, b11, b12, b13, b14, b15, b16, b17, b18, b19, b20, b21, b22, b23, rfl, ?_, hB⟩
      simp [sv, svd, he]
    | 7, ho, hl, he =>
      obtain rfl := Option.some.inj ho
      simp [Region.binds] at hl he
      clear ho
      refine wpOp_step rfl (fun K hK => ?_)
      go_simp
      refine hK _ _ ⟨b0, b1, b2, b3, b4, b5, b6, true, b8, b9, b10, b11, b12, b13, b14, b15, b16, b17, b18, b19, b20, b21, b22, b23, rfl, ?_, hB⟩
      simp [sv, svd]
    | 8, ho, hl, he =>
      obtain rfl := Option.some.inj ho
      simp [Region.binds] at hl he
      clear ho
      refine wpOp_step rfl (fun K hK => ?_)
      go_simp
      refine hK _ _ ⟨b0, b1, b2, b3, b4, b5, b6, b7, true, b9, b10, b11, b12, b13, b14, b15, b16, b17, b18, b19, b20, b21, b22, b23, rfl, ?_, hB⟩
      simp [sv, svd, he]
    | 9, ho, hl, he =>
      obtain rfl := Option.some.inj ho
      simp [Region.binds] at hl he
      clear ho
      refine wpOp_step rfl (fun K hK => ?_)
      go_simp
      refine (m_register _ _).mono ?_
      rintro e w' ⟨rfl, rfl⟩
      refine hK _ _ ⟨b0, b1, b2, b3, b4, b5, b6, b7, b8, true, b10, b11, b12, b13, b14, b15, b16, b17, b18, b19, b20, b21, b22, b23, rfl, ?_, hB⟩
      simp [sv, svd, he]
    | 10, ho, hl, he =>
      obtain rfl := Option.some.inj ho
      simp [Region.binds] at hl he
      clear ho
      refine wpOp_step rfl (fun K hK => ?_)
      go_simp
      refine hK _ _ ⟨b0, b1, b2, b3, b4, b5, b6, b7, b8, b9, true, b11, b12, b13, b14, b15, b16, b17, b18, b19, b20, b21, b22, b23, rfl, ?_, hB⟩
      simp [sv, svd, he]
    | 11, ho, hl, he =>
      obtain rfl := Option.some.inj ho
      simp [Region.binds] at hl he
      clear ho
      refine wpOp_step rfl (fun K hK => ?_)
      go_simp
      refine hK _ _ ⟨b0, b1, b2, b3, b4, b5, b6, b7, b8, b9, b10, true, b12, b13, b14, b15, b16, b17, b18, b19, b20, b21, b22, b23, rfl, ?_, hB⟩
      simp [sv, svd, he]
    | 12, ho, hl, he =>
      obtain rfl := Option.some.inj ho
      simp [Region.binds] at hl he
      clear ho
      refine wpOp_step rfl (fun K hK => ?_)
      go_simp
      refine hK _ _ ⟨b0, b1, b2, b3, b4, b5, b6, b7, b8, b9, b10, b11, true, b13, b14, b15, b16, b17, b18, b19, b20, b21, b22, b23, rfl, ?_, hB⟩
      simp [sv, svd]
    | 13, ho, hl, he =>
      obtain rfl := Option.some.inj ho
      simp [Region.binds] at hl he
      clear ho
      refine wpOp_step rfl (fun K hK => ?_)
      go_simp
      refine hK _ _ ⟨b0, b1, b2, b3, b4, b5, b6, b7, b8, b9, b10, b11, b12, true, b14, b15, b16, b17, b18, b19, b20, b21, b22, b23, rfl, ?_, hB⟩
      simp [sv, svd, he]
    | 14, ho, hl, he =>
      obtain rfl := Option.some.inj ho
      simp [Region.binds] at hl he
      clear ho
      refine wpOp_step rfl (fun K hK => ?_)
      go_simp
      refine (m_register _ _).mono ?_
      rintro e w' ⟨rfl, rfl⟩
      refine hK _ _ ⟨b0, b1, b2, b3, b4, b5, b6, b7, b8, b9, b10, b11, b12, b13, true, b15, b16, b17, b18, b19, b20, b21, b22, b23, rfl, ?_, hB⟩
      simp [sv, svd, he]
    | 15, ho, hl, he =>
      obtain rfl := Option.some.inj ho
      simp [Region.binds] at hl he
      clear ho
      refine wpOp_step rfl (fun K hK => ?_)
      go_simp
      refine hK _ _ ⟨b0, b1, b2, b3, b4, b5, b6, b7, b8, b9, b10, b11, b12, b13, b14, true, b16, b17, b18, b19, b20, b21, b22, b23, rfl, ?_, hB⟩
      simp [sv, svd, he]
    | 16, ho, hl, he =>
      obtain rfl := Option.some.inj ho
      simp [Region.binds] at hl he
      clear ho
      refine wpOp_step rfl (fun K hK => ?_)
      go_simp
      refine hK _ _ ⟨b0, b1, b2, b3, b4, b5, b6, b7, b8, b9, b10, b11, b12, b13, b14, b15, true, b17, b18, b19, b20, b21, b22, b23, rfl, ?_, hB⟩
      simp [sv, svd, he]
    | 17, ho, hl, he =>
      obtain rfl := Option.some.inj ho
      simp [Region.binds] at hl he
      clear ho
      refine wpOp_step rfl (fun K hK => ?_)
      go_simp
      refine hK _ _ ⟨b0, b1, b2, b3, b4, b5, b6, b7, b8, b9, b10, b11, b12, b13, b14, b15, b16, true, b18, b19, b20, b21, b22, b23, rfl, ?_, hB⟩
      simp [sv, svd]
    | 18, ho, hl, he =>
      obtain rfl := Option.some.inj ho
      simp [Region.binds] at hl he
      clear ho
      refine wpOp_step rfl (fun K hK => ?_)
      go_simp
      refine hK _ _ ⟨b0, b1, b2, b3, b4, b5, b6, b7, b8, b9, b10, b11, b12, b13, b14, b15, b16, b17, true, b19, b20, b21, b22, b23, rfl, ?_, hB⟩
      simp [sv, svd, he]
    | 19, ho, hl, he =>
      obtain rfl := Option.some.inj ho
      simp [Region.binds] at hl he
      clear ho
      refine wpOp_step rfl (fun K hK => ?_)
      go_simp
      refine hK _ _ ⟨b0, b1, b2, b3, b4, b5, b6, b7, b8, b9, b10, b11, b12, b13, b14, b15, b16, b17, b18, true, b20, b21, b22, b23, rfl, ?_, hB⟩
      simp [sv, svd]
    | 20, ho, hl, he =>
      obtain rfl := Option.some.inj ho
      simp [Region.binds] at hl he
      clear ho
      refine wpOp_step rfl (fun K hK => ?_)
      go_simp
      refine hK _ _ ⟨b0, b1, b2, b3, b4, b5, b6, b7, b8, b9, b10, b11, b12, b13, b14, b15, b16, b17, b18, b19, true, b21, b22, b23, rfl, ?_, hB⟩
      simp [sv, svd, he]
    | 21, ho, hl, he =>
      obtain rfl := Option.some.inj ho
      simp [Region.binds] at hl he
      clear ho
      refine wpOp_step rfl (fun K hK => ?_)
      go_simp
      refine (m_immediate _ _ _).mono ?_
      rintro e w' ⟨rfl, rfl⟩
      refine hK _ _ ⟨b0, b1, b2, b3, b4, b5, b6, b7, b8, b9, b10, b11, b12, b13, b14, b15, b16, b17, b18, b19, b20, true, b22, b23, rfl, ?_, hB⟩
      simp [sv, svd, he]
    | 22, ho, hl, he =>
      obtain rfl := Option.some.inj ho
      simp [Region.binds] at hl he
      clear ho
      refine wpOp_step rfl (fun K hK => ?_)
      go_simp
      refine hK _ _ ⟨b0, b1, b2, b3, b4, b5, b6, b7, b8, b9, b10, b11, b12, b13, b14, b15, b16, b17, b18, b19, b20, b21, true, b23, rfl, ?_, hB⟩
      simp [sv, svd, he]
    | 23, ho, hl, he =>
      obtain rfl := Option.some.inj ho
      simp [Region.binds] at hl he
      clear ho
      refine wpOp_step rfl (fun K hK => ?_)
      go_simp
      refine hK _ _ ⟨b0, b1, b2, b3, b4, b5, b6, b7, b8, b9, b10, b11, b12, b13, b14, b15, b16, b17, b18, b19, b20, b21, b22, true, rfl, ?_, hB⟩
      simp [sv, svd, he]
    | n + 24, ho, hl, he => simp at ho
set_option maxRecDepth 100000 in
theorem m_Encode (i : I) (w : World) (hG : G w) :
    Calls Tryz.prog 9 #[i.v] w fun e w' => e = .returned (.tuple #[.int .u32 (encF i).1, .bool (encF i).2]) ∧ Below w.heap.size w w' := by
  obtain ⟨d0, d1⟩ := draftF_b i
  have heq := run_eq8
  have arith : ∀ {w1 : World} {o : Obj}, Below (w.alloc o).heap.size (w.alloc o) w1 → G w1 := fun hb => (hG.alloc _).below hb
  cases hk : (D (draftF i)).2
  · have e1 : encF i = (0, false) := if_neg (by rw [hk]; simp)
    rw [e1]
    go_enter Tryz.func9, Tryz.ntmps9
    go_wp2_with (first | (go_at_call 25; refine (m_draft i _ (hG.alloc _)).mono ?_; rintro e w1 ⟨rfl, hb⟩; obtain ⟨hc1, hf1⟩ := bcell hb; have hz1 := belowS hb) | (go_at_call 15; refine (m_read _ d0 d1 _ (arith hb)).mono ?_; rintro e w2 ⟨rfl, hb2⟩; obtain ⟨hc2, hf2⟩ := bcell hb2; have hz2 := Nat.lt_of_lt_of_le hz1 hb2.size))
    go_ret2
    exact ⟨rfl, (belowT (belowA hb) hb2).alloc (by omega) _⟩
  · cases hq : eqI (D (draftF i)).1 i
    · have e1 : encF i = (0, false) := if_neg (by rw [hq]; simp)
      have hq' : eqI ⟨(D (draftF i)).1.kind, (D (draftF i)).1.fn, (D (draftF i)).1.rd, (D (draftF i)).1.rs1, (D (draftF i)).1.rs2, (D (draftF i)).1.imm, (D (draftF i)).1.size, (D (draftF i)).1.sg⟩ ⟨i.kind, i.fn, i.rd, i.rs1, i.rs2, i.imm, i.size, i.sg⟩ = false := hq
      rw [e1]
      go_enter Tryz.func9, Tryz.ntmps9
      go_wp2_with (first | (go_at_call 25; refine (m_draft i _ (hG.alloc _)).mono ?_; rintro e w1 ⟨rfl, hb⟩; obtain ⟨hc1, hf1⟩ := bcell hb; have hz1 := belowS hb) | (go_at_call 15; refine (m_read _ d0 d1 _ (arith hb)).mono ?_; rintro e w2 ⟨rfl, hb2⟩; obtain ⟨hc2, hf2⟩ := bcell hb2; have hz2 := Nat.lt_of_lt_of_le hz1 hb2.size))
      go_ret2
      exact ⟨rfl, (belowT (belowA hb) hb2).alloc (by omega) _⟩
    · have e1 : encF i = (draftF i, true) := if_pos ⟨hk, hq⟩
      have hq' : eqI ⟨(D (draftF i)).1.kind, (D (draftF i)).1.fn, (D (draftF i)).1.rd, (D (draftF i)).1.rs1, (D (draftF i)).1.rs2, (D (draftF i)).1.imm, (D (draftF i)).1.size, (D (draftF i)).1.sg⟩ ⟨i.kind, i.fn, i.rd, i.rs1, i.rs2, i.imm, i.size, i.sg⟩ = true := hq
      rw [e1]
      go_enter Tryz.func9, Tryz.ntmps9
      go_wp2_with (first | (go_at_call 25; refine (m_draft i _ (hG.alloc _)).mono ?_; rintro e w1 ⟨rfl, hb⟩; obtain ⟨hc1, hf1⟩ := bcell hb; have hz1 := belowS hb) | (go_at_call 15; refine (m_read _ d0 d1 _ (arith hb)).mono ?_; rintro e w2 ⟨rfl, hb2⟩; obtain ⟨hc2, hf2⟩ := bcell hb2; have hz2 := Nat.lt_of_lt_of_le hz1 hb2.size))
      go_ret2
      exact ⟨rfl, (belowT (belowA hb) hb2).alloc (by omega) _⟩
end Go.Proofs.YtioodijiejipiaaGreatDoor
