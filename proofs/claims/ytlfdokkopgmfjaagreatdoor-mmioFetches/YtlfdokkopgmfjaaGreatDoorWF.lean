/- Plan's parts: where an access goes, what an instruction is. -/
import Derived.Test.YtlfdokkopgmfjaaGreatDoorMH4
import Derived.Test.YtlfdokkopgmfjaaGreatDoorMB2
import Derived.Test.YtlfdokkopgmfjaaGreatDoorBIR
namespace Go.Proofs.YtlfdokkopgmfjaaGreatDoor
open Go.RowKit
set_option linter.unusedVariables false
set_option maxRecDepth 100000
theorem wp_mid_wb {P : Program} {id : Nat} {Q : Exit → Act → World → Prop} {a : Act} {w : World} {L : List Oper} (z : Nat) (hm : P.follows .mixedOrders = true) (hB : Region.lexB .any L.toArray = true) (hc : covB .any L.toArray z = true) (hzs : z < L.length) (hz : Region.ready .any L.toArray (Lk L.length z) = [z])
    (h : wpQuiet P L.toArray (fun w' => ∃ x : WB w, w' = x.w) (fun a' => ∀ w', (∃ x : WB w, w' = x.w) → wpOp P L.toArray Q z (fun a2 w2 => wpQuiet P L.toArray (fun w3 => ∃ n, w3 = w2.drewN n) (fun a3 => ∀ w3, (∃ n, w3 = w2.drewN n) → Q .normal a3 w3) (L.drop (z + 1)) a2) a' w') (L.take z) a) : (Code.region id L.toArray true).wp P Q a w :=
  wp_region_mid (C := fun w' => ∃ x : WB w, w' = x.w) z hm hB hc hzs hz ⟨⟨w.drew, (Below.refl _ _).drew⟩, rfl⟩ h
theorem wpOp_store_sub {P : Program} {ops : Array Oper} {Q : Exit → Act → World → Prop} {K : Act → World → Prop} {z : Nat} {d : Option Nat} {ty tt : TypeId} {x y : Operand} {pos : String} {after : Array Edge} {a : Act} {w : World}
    (ho : ops[z]? = some { dst := d, op := Op.store ty x y, type := tt, pos := pos, after := after, guard := none }) (g off : Nat) (hx : a.eval x = .pointer (some ⟨g, off, none⟩)) (t : TypeId) (cs sub new : Array Value) (hy : a.eval y = .agg sub) (hg : w.heap[g]? = some (.cells cs t (0, 0)))
    (hn : (cs.toList.take off ++ sub.toList ++ cs.toList.drop (off + sub.toList.length)).toArray = new) (hl : off + sub.toList.length ≤ cs.size) (h1 : sub.all (·.oneCell') = true) (hi : (P.info? ty).map (·.size) = some sub.size)
    (h : K (a.put d undef) (w.setRow g new)) : wpOp P ops Q z K a w := by
  unfold wpOp
  rw [ho]
  show if Region.wanted _ _ = true then _ else _
  rw [if_pos (by simp [Region.wanted])]
  left
  unfold Oper.wp execOp
  simp only [hx, hy, Instr.storeAt, Instr.sureAddr, Sem.run_bind, Sem.run_pure, Result.andThen_ok, run_storeVar_sub w g off t ty cs sub new hg hn hl h1 hi]
  exact h
/-- where an access goes -/
def adr (h : HV) (r imm : Int) : Int := IntKind.u64.wrap (h.x r.toNat + IntKind.u64.wrap imm)
theorem k_address (h : HV) (r imm : Int) (r0 : 0 ≤ r) (r1 : r < 32) (w : World) : Calls Tryz.prog 66 #[h.v, .int .i64 r, .int .i64 imm] w fun e w' => e = .returned (.int .u64 (adr h r imm)) ∧ Below w.heap.size w w' := by
  have xr := row_cellH (heap_alloc_new w (.cells h.ca 27)) r.toNat (v := .int .u64 (h.x r.toNat)) (by simp only [HV.ca, List.getElem?_toArray]; exact hv_x h _ (by omega))
  go_enter Tryz.func66, Tryz.ntmps66
  go_wp2
  go_ret
  exact ⟨rfl, (Below.refl _ _).alloc (Nat.le_refl _) _⟩
/-- an instruction as a load or as a store, else nil -/
def kndV (i : B.I) : Value := if i.kind = 6 then .iface 123 i.v else if i.kind = 7 then .iface 125 i.v else Value.nilIface
@[reducible] def iCa (i : B.I) : Array Value := #[.int .i64 i.kind, .int .i64 i.fn, .int .i64 i.rd, .int .i64 i.rs1, .int .i64 i.rs2, .int .i64 i.imm, .int .i64 i.size, .bool i.sg]
theorem u_inst : Tryz.prog.underlying 92 = some (.struct (Tryz.prog.fieldsOf 92)) := by kernel_rfl
theorem s_inst : (Tryz.prog.info? 92).map (·.size) = some 8 := by kernel_rfl
theorem k_kindOf (i : B.I) (w : World) : Calls Tryz.prog 44 #[i.v] w fun e w' => e = .returned (kndV i) ∧ Below w.heap.size w w' := by
  unfold kndV
  by_cases h6 : i.kind = 6
  · rw [if_pos h6]
    go_enter Tryz.func44, Tryz.ntmps44
    go_wp2
    go_ret
    have e : i.v = .agg #[.int .i64 6, .int .i64 i.fn, .int .i64 i.rd, .int .i64 i.rs1, .int .i64 i.rs2, .int .i64 i.imm, .int .i64 i.size, .bool i.sg] := by simp only [B.I.v, h6]
    exact ⟨by rw [e]; rfl, (Below.refl _ _).alloc (Nat.le_refl _) _⟩
  rw [if_neg h6]
  by_cases h7 : i.kind = 7
  · rw [if_pos h7]
    go_enter Tryz.func44, Tryz.ntmps44
    go_wp2
    go_ret
    have e : i.v = .agg #[.int .i64 7, .int .i64 i.fn, .int .i64 i.rd, .int .i64 i.rs1, .int .i64 i.rs2, .int .i64 i.imm, .int .i64 i.size, .bool i.sg] := by simp only [B.I.v, h7]
    exact ⟨by rw [e]; rfl, (Below.refl _ _).alloc (Nat.le_refl _) _⟩
  rw [if_neg h7]
  have b6 : (i.kind == 6) = false := by simpa using h6
  have b7 : (i.kind == 7) = false := by simpa using h7
  go_enter Tryz.func44, Tryz.ntmps44
  go_wp2
  go_ret
  exact ⟨rfl, (Below.refl _ _).alloc (Nat.le_refl _) _⟩
end Go.Proofs.YtlfdokkopgmfjaaGreatDoor
