/- Plan's parts: where an access goes, what an instruction is. -/
import Derived.Test.YtkmknjiepegodaaDoorMH3
import Derived.Test.YtkmknjiepegodaaDoorMB2
import Derived.Test.YtkmknjiepegodaaDoorBIR
namespace Go.Proofs.YtkmknjiepegodaaDoor
open Go.RowKit
set_option linter.unusedVariables false
set_option maxRecDepth 100000

theorem wp_mid_wb {P : Program} {id : Nat} {Q : Exit → Act → World → Prop} {a : Act} {w : World} {L : List Oper} (z : Nat) (hm : P.follows .mixedOrders = true) (hB : Region.lexB .any L.toArray = true) (hc : covB .any L.toArray z = true) (hzs : z < L.length) (hz : Region.ready .any L.toArray (Lk L.length z) = [z])
    (h : wpQuiet P L.toArray (fun w' => ∃ x : WB w, w' = x.w) (fun a' => ∀ w', (∃ x : WB w, w' = x.w) → wpOp P L.toArray Q z (fun a2 w2 => wpQuiet P L.toArray (fun w3 => ∃ n, w3 = w2.drewN n) (fun a3 => ∀ w3, (∃ n, w3 = w2.drewN n) → Q .normal a3 w3) (L.drop (z + 1)) a2) a' w') (L.take z) a) : (Code.region id L.toArray true).wp P Q a w :=
  wp_region_mid (C := fun w' => ∃ x : WB w, w' = x.w) z hm hB hc hzs hz ⟨⟨w.drew, (Below.refl _ _).drew⟩, rfl⟩ h
theorem wpOp_store_sub {P : Program} {ops : Array Oper} {Q : Exit → Act → World → Prop} {K : Act → World → Prop} {z : Nat} {d : Option Nat} {ty tt : TypeId} {x y : Operand} {pos : String} {after : Array Edge} {a : Act} {w : World}
    (ho : ops[z]? = some { dst := d, op := Op.store ty x y, type := tt, pos := pos, after := after, guard := none }) (g off : Nat) (hx : a.eval x = .pointer (some ⟨g, off, none⟩)) (t : TypeId) (cs sub new : Array Value) (hy : a.eval y = .agg sub) (hg : w.heap[g]? = some (.cells cs t (0, 0)))
    (hn : (cs.toList.take off ++ sub.toList ++ cs.toList.drop (off + sub.toList.length)).toArray = new) (hl : off + sub.toList.length ≤ cs.size) (h1 : sub.all (·.oneCell') = true) (hi : (P.info? ty).map (·.size) = some sub.size)
    (h : K (a.put d undef) (w.setRow g new)) : wpOp P ops Q z K a w := by
  unfold wpOp
  rw [ho]
  show if Region.wanted _ _ = true then _ else _
  rw [if_pos (by simp [Region.wanted])]
  left
  unfold Oper.wp execOp
  simp only [hx, hy, Instr.storeAt, Instr.sureAddr, Sem.run_bind, Sem.run_pure, Result.andThen_ok, run_storeVar_sub w g off t ty cs sub new hg hn hl h1 hi]
  exact h
/-- where an access goes -/
def adr (h : HV) (r imm : Int) : Int := IntKind.u64.wrap (h.x r.toNat + IntKind.u64.wrap imm)
theorem k_address (h : HV) (r imm : Int) (r0 : 0 ≤ r) (r1 : r < 32) (w : World) : Calls Tryd.prog 27 #[h.v, .int .i64 r, .int .i64 imm] w fun e w' => e = .returned (.int .u64 (adr h r imm)) ∧ Below w.heap.size w w' := by
  have xr := row_cellH (heap_alloc_new w (.cells h.ca 25)) r.toNat (v := .int .u64 (h.x r.toNat)) (by simp only [HV.ca, List.getElem?_toArray]; exact hv_x h _ (by omega))
  go_enter Tryd.func27, Tryd.ntmps27
  go_wp2
  go_ret
  exact ⟨rfl, (Below.refl _ _).alloc (Nat.le_refl _) _⟩
/-- an instruction as a load or as a store, else nil -/
def kndV (i : B.I) : Value := if i.kind = 6 then .iface 52 i.v else if i.kind = 7 then .iface 54 i.v else Value.nilIface
@[reducible] def iCa (i : B.I) : Array Value := #[.int .i64 i.kind, .int .i64 i.fn, .int .i64 i.rd, .int .i64 i.rs1, .int .i64 i.rs2, .int .i64 i.imm, .int .i64 i.size, .bool i.sg]
theorem u_inst : Tryd.prog.underlying 40 = some (.struct (Tryd.prog.fieldsOf 40)) := by kernel_rfl
theorem s_inst : (Tryd.prog.info? 40).map (·.size) = some 8 := by kernel_rfl
theorem k_kindOf (i : B.I) (w : World) : Calls Tryd.prog 17 #[i.v] w fun e w' => e = .returned (kndV i) ∧ Below w.heap.size w w' := by
  unfold kndV
  by_cases h6 : i.kind = 6
  · rw [if_pos h6]
    go_enter Tryd.func17, Tryd.ntmps17
    go_wp2
    go_ret
    have e : i.v = .agg #[.int .i64 6, .int .i64 i.fn, .int .i64 i.rd, .int .i64 i.rs1, .int .i64 i.rs2, .int .i64 i.imm, .int .i64 i.size, .bool i.sg] := by simp only [B.I.v, h6]
    exact ⟨by rw [e]; rfl, (Below.refl _ _).alloc (Nat.le_refl _) _⟩
  rw [if_neg h6]
  by_cases h7 : i.kind = 7
  · rw [if_pos h7]
    go_enter Tryd.func17, Tryd.ntmps17
    go_wp2
    go_ret
    have e : i.v = .agg #[.int .i64 7, .int .i64 i.fn, .int .i64 i.rd, .int .i64 i.rs1, .int .i64 i.rs2, .int .i64 i.imm, .int .i64 i.size, .bool i.sg] := by simp only [B.I.v, h7]
    exact ⟨by rw [e]; rfl, (Below.refl _ _).alloc (Nat.le_refl _) _⟩
  rw [if_neg h7]
  have b6 : (i.kind == 6) = false := by simpa using h6
  have b7 : (i.kind == 7) = false := by simpa using h7
  go_enter Tryd.func17, Tryd.ntmps17
  go_wp2
  go_ret
  exact ⟨rfl, (Below.refl _ _).alloc (Nat.le_refl _) _⟩
end Go.Proofs.YtkmknjiepegodaaDoor
namespace Go.Proofs.YtkmknjiepegodaaDoor
open Go.RowKit
set_option linter.unusedVariables false
set_option maxRecDepth 100000

theorem as_ll (W : World) (v : Value) : (Instr.typeAssert (.iface 52 v) 20 52 true).run Tryd.prog W = .ok (.tuple #[v, .bool true]) W := by kernel_rfl
theorem as_sl (W : World) (v : Value) : (Instr.typeAssert (.iface 54 v) 20 52 true).run Tryd.prog W = .ok (.tuple #[B.I.zero.v, .bool false]) W := by kernel_rfl
theorem as_nl (W : World) : (Instr.typeAssert .nilIface 20 52 true).run Tryd.prog W = .ok (.tuple #[B.I.zero.v, .bool false]) W := by kernel_rfl
theorem as_ss (W : World) (v : Value) : (Instr.typeAssert (.iface 54 v) 20 54 true).run Tryd.prog W = .ok (.tuple #[v, .bool true]) W := by kernel_rfl
theorem as_ns (W : World) : (Instr.typeAssert .nilIface 20 54 true).run Tryd.prog W = .ok (.tuple #[B.I.zero.v, .bool false]) W := by kernel_rfl
theorem u_load : Tryd.prog.underlying 52 = some (.struct (Tryd.prog.fieldsOf 52)) := by kernel_rfl
theorem s_load : (Tryd.prog.info? 52).map (·.size) = some 8 := by kernel_rfl
theorem u_store : Tryd.prog.underlying 54 = some (.struct (Tryd.prog.fieldsOf 54)) := by kernel_rfl
theorem s_store : (Tryd.prog.info? 54).map (·.size) = some 8 := by kernel_rfl
theorem ret_acc2 {fn : Func} {p u : Tmp} (hf : fn.results = #[.cell p 30, .tmp u]) {tmps : Array Value} {w : World} (g : Nat) (a : AV) (b : Bool) (hp : tmps.getD p undef = .pointer (some ⟨g, 0, none⟩)) (hb : tmps.getD u undef = .bool b) (hg : w.heap[g]? = some (.cells a.ca 30 (0, 0))) : (results fn tmps).run Tryd.prog w = .ok (.tuple #[a.v, .bool b]) w := by
  have hp' : tmps[p]?.getD undef = .pointer (some ⟨g, 0, none⟩) := by simpa using hp
  have hb' : tmps[u]?.getD undef = .bool b := by simpa using hb
  simp [results, hf, hp', hb', asAddr, run_loadVar_row w g 30 30 a.ca (0, 0) (.struct (Tryd.prog.fieldsOf 30)) hg u_acc rfl (by rw [s_acc]; rfl)]
set_option maxHeartbeats 1000000 in
theorem k_plan_load (h : HV) (i : B.I) (r0 : 0 ≤ i.rs1) (r1 : i.rs1 < 32) (long : Int) (w : World) : Calls Tryd.prog 15 #[h.v, .iface 52 i.v, .int .i64 long] w fun e w' => e = .returned (.tuple #[(⟨false, i.sg, i.size, i.rd, long, adr h i.rs1 i.imm, 0⟩ : AV).v, .bool true]) ∧ Below w.heap.size w w' := by
  have HA : Hid (∀ u, Calls Tryd.prog 27 #[h.v, .int .i64 i.rs1, .int .i64 i.imm] u fun e w' => e = .returned (.int .u64 (adr h i.rs1 i.imm)) ∧ Below u.heap.size u w') := fun u => k_address h i.rs1 i.imm r0 r1 u
  have h1 := as_ll
  clear r0 r1
  go_enter Tryd.func15, Tryd.ntmps15
  go_upto_region 4 with (fail)
  obtain ⟨wa, hwa⟩ : ∃ wa, wa = ((w.alloc (.cells h.ca 25)).alloc (.cells (⟨false, false, 0, 0, 0, 0, 0⟩ : AV).ca 30)).alloc (.cells (iCa i) 52) := ⟨_, rfl⟩
  rw [← hwa]
  have HWB : Hid (Below w.heap.size w wa) := by show Below _ _ _; rw [hwa]; exact below3 _ _ _
  have P0 : Hid (wa.heap[w.heap.size]? = some (.cells h.ca 25 (0, 0))) := by show _ = _; rw [hwa]; exact heap3 _ _ _ _
  have P1 : Hid (wa.heap[w.heap.size + 1]? = some (.cells (⟨false, false, 0, 0, 0, 0, 0⟩ : AV).ca 30 (0, 0))) := by show _ = _; rw [hwa]; exact heap3' _ _ _ _
  have P2 : Hid (wa.heap[w.heap.size + 2]? = some (.cells (iCa i) 52 (0, 0))) := by show _ = _; rw [hwa]; exact heap3'' _ _ _ _
  clear hwa
  have H0 : Hid (∀ w', (∃ x : WB wa, w' = x.w) → w'.heap[w.heap.size]? = some (.cells h.ca 25 (0, 0))) := fun w' ⟨x, hx⟩ => by rw [hx]; exact (x.h.block _ (lt_of_row P0.out)).trans P0.out
  have H2 : Hid (∀ w', (∃ x : WB wa, w' = x.w) → w'.heap[w.heap.size + 2]? = some (.cells (iCa i) 52 (0, 0))) := fun w' ⟨x, hx⟩ => by rw [hx]; exact (x.h.block _ (lt_of_row P2.out)).trans P2.out
  refine wp_mid_wb 14 (by kernel_rfl) (by kernel_rfl) (by kernel_rfl) (by decide) (by kernel_rfl) ?_
  simp only [List.take, List.drop]
  repeat
    first
      | ((with_reducible refine wpQuiet_loadH w.heap.size h ?_ H0.out ?_); rfl)
      | ((with_reducible refine wpQuiet_load_one (w.heap.size + 1 + 1) 6 52 (iCa i) (.int .i64 i.size) ?_ ?_ ?_ H2.out ?_ ?_); rfl; exact wd_n; exact fun _ h => lv_int h; rfl)
      | ((with_reducible refine wpQuiet_load_one (w.heap.size + 1 + 1) 7 52 (iCa i) (.bool i.sg) ?_ ?_ ?_ H2.out ?_ ?_); rfl; exact wd_n; exact fun _ h => lv_bool h; rfl)
      | ((with_reducible refine wpQuiet_load_one (w.heap.size + 1 + 1) 2 52 (iCa i) (.int .i64 i.rd) ?_ ?_ ?_ H2.out ?_ ?_); rfl; exact wd_n; exact fun _ h => lv_int h; rfl)
      | ((with_reducible refine wpQuiet_load_one (w.heap.size + 1 + 1) 3 52 (iCa i) (.int .i64 i.rs1) ?_ ?_ ?_ H2.out ?_ ?_); rfl; exact wd_n; exact fun _ h => lv_int h; rfl)
      | ((with_reducible refine wpQuiet_load_one (w.heap.size + 1 + 1) 4 52 (iCa i) (.int .i64 i.rs2) ?_ ?_ ?_ H2.out ?_ ?_); rfl; exact wd_n; exact fun _ h => lv_int h; rfl)
      | ((with_reducible refine wpQuiet_load_one (w.heap.size + 1 + 1) 5 52 (iCa i) (.int .i64 i.imm) ?_ ?_ ?_ H2.out ?_ ?_); rfl; exact wd_n; exact fun _ h => lv_int h; rfl)
      | (refine wpQuiet_step (fun K hK => ?_)
         go_simp
         first
           | (refine hK _ ?_; clear hK K)
           | (refine ⟨_, fun _ => rfl, hK _ ?_⟩; clear hK K)
           | (refine ⟨.int .u64 (adr h i.rs1 i.imm), fun x => ?_, hK _ ?_⟩
              · (go_at_call 27; exact Calls.wb x (HA.out x.w))
              clear hK K))
  refine wpQuiet_nil ?_
  intro _ hx
  obtain ⟨x, rfl⟩ := hx
  have P3 : Hid (x.w.heap[w.heap.size + 1]? = some (.cells (⟨false, false, 0, 0, 0, 0, 0⟩ : AV).ca 30 (0, 0))) := (x.h.block _ (lt_of_row P1.out)).trans P1.out
  have HWX : Hid (Below w.heap.size w x.w) := bT HWB.out x.h
  refine wpOp_store_sub rfl (w.heap.size + 1) 0 rfl 30 (⟨false, false, 0, 0, 0, 0, 0⟩ : AV).ca (⟨false, i.sg, i.size, i.rd, long, adr h i.rs1 i.imm, 0⟩ : AV).ca (⟨false, i.sg, i.size, i.rd, long, adr h i.rs1 i.imm, 0⟩ : AV).ca rfl P3.out rfl (Nat.le_refl 7) (by simp [Value.oneCell']) s_acc ?_
  repeat
    first
      | (refine wpQuiet_step (fun K hK => ?_)
         go_simp
         first
           | (refine hK _ ?_; clear hK K)
           | (refine ⟨_, fun _ => rfl, hK _ ?_⟩; clear hK K))
  refine wpQuiet_nil ?_
  intro _ hx
  obtain ⟨n, rfl⟩ := hx
  have P4 : (x.w.setRow (w.heap.size + 1) (⟨false, i.sg, i.size, i.rd, long, adr h i.rs1 i.imm, 0⟩ : AV).ca).heap[w.heap.size + 1]? = some (.cells (⟨false, i.sg, i.size, i.rd, long, adr h i.rs1 i.imm, 0⟩ : AV).ca 30 (0, 0)) := setRow_heap _ _ _ _ _ _ P3.out
  go_wp2
  exact bodyPost_ret (ret_acc2 Tryd.results15 (w.heap.size + 1) (⟨false, i.sg, i.size, i.rd, long, adr h i.rs1 i.imm, 0⟩ : AV) true rfl rfl P4) rfl ⟨rfl, below_dn (below_setRow HWX.out (by omega) _) n⟩
set_option maxHeartbeats 1000000 in
theorem k_plan_store (h : HV) (ok : HOk h) (i : B.I) (r0 : 0 ≤ i.rs1) (r1 : i.rs1 < 32) (q0 : 0 ≤ i.rs2) (q1 : i.rs2 < 32) (long : Int) (w : World) : Calls Tryd.prog 15 #[h.v, .iface 54 i.v, .int .i64 long] w fun e w' => e = .returned (.tuple #[(⟨true, false, i.size, 0, long, adr h i.rs1 i.imm, A.ext (h.x i.rs2.toNat) i.size false⟩ : AV).v, .bool true]) ∧ Below w.heap.size w w' := by
  have HA : Hid (∀ u, Calls Tryd.prog 27 #[h.v, .int .i64 i.rs1, .int .i64 i.imm] u fun e w' => e = .returned (.int .u64 (adr h i.rs1 i.imm)) ∧ Below u.heap.size u w') := fun u => k_address h i.rs1 i.imm r0 r1 u
  have HX : Hid (∀ u, Calls Tryd.prog 22 #[.int .u64 (h.x i.rs2.toNat), .int .i64 i.size, .bool false] u fun e w' => e = .returned (.int .u64 (A.ext (h.x i.rs2.toNat) i.size false)) ∧ w' = u) := fun u => A.m_Extend _ i.size false (ok.x _).1 (by have := (ok.x i.rs2.toNat).2; omega) u
  have h1 := as_sl
  have h2 := as_ss
  clear r0 r1 ok
  go_enter Tryd.func15, Tryd.ntmps15
  go_upto_region 7 with (fail)
  obtain ⟨wa, hwa⟩ : ∃ wa, wa = ((w.alloc (.cells h.ca 25)).alloc (.cells (⟨false, false, 0, 0, 0, 0, 0⟩ : AV).ca 30)).alloc (.cells (iCa i) 54) := ⟨_, rfl⟩
  rw [← hwa]
  have HWB : Hid (Below w.heap.size w wa) := by show Below _ _ _; rw [hwa]; exact below3 _ _ _
  have P0 : Hid (wa.heap[w.heap.size]? = some (.cells h.ca 25 (0, 0))) := by show _ = _; rw [hwa]; exact heap3 _ _ _ _
  have P1 : Hid (wa.heap[w.heap.size + 1]? = some (.cells (⟨false, false, 0, 0, 0, 0, 0⟩ : AV).ca 30 (0, 0))) := by show _ = _; rw [hwa]; exact heap3' _ _ _ _
  have P2 : Hid (wa.heap[w.heap.size + 2]? = some (.cells (iCa i) 54 (0, 0))) := by show _ = _; rw [hwa]; exact heap3'' _ _ _ _
  clear hwa
  have i2 : wa.cell? ⟨w.heap.size + 2, 4, none⟩ = some (.int .i64 i.rs2) := cell_of_row _ _ 4 _ _ _ P2.out
  have i6 : wa.cell? ⟨w.heap.size + 2, 6, none⟩ = some (.int .i64 i.size) := cell_of_row _ _ 6 _ _ _ P2.out
  have xr := row_cellH P0.out i.rs2.toNat (v := .int .u64 (h.x i.rs2.toNat)) (by simp only [HV.ca, List.getElem?_toArray]; exact hv_x h _ (by omega))
  obtain ⟨v, hv⟩ : ∃ v, v = A.ext (h.x i.rs2.toNat) i.size false := ⟨_, rfl⟩
  have HV := hid hv
  rw [← hv] at HX
  clear hv
  go_quiet (first | (go_at_call 22; with_reducible exact Calls.quiet_of_same (HX.out _)))
  go_upto_region 8 with (fail)
  clear i2 i6 xr h1 h2
  have H0 : Hid (∀ w', (∃ x : WB (wa.drewN nq), w' = x.w) → w'.heap[w.heap.size]? = some (.cells h.ca 25 (0, 0))) := fun w' ⟨x, hx⟩ => by rw [hx]; exact (x.h.block _ (lt_of_row P0.out)).trans P0.out
  have H2 : Hid (∀ w', (∃ x : WB (wa.drewN nq), w' = x.w) → w'.heap[w.heap.size + 2]? = some (.cells (iCa i) 54 (0, 0))) := fun w' ⟨x, hx⟩ => by rw [hx]; exact (x.h.block _ (lt_of_row P2.out)).trans P2.out
  refine wp_mid_wb 11 (by kernel_rfl) (by kernel_rfl) (by kernel_rfl) (by decide) (by kernel_rfl) ?_
  simp only [List.take, List.drop]
  repeat
    first
      | ((with_reducible refine wpQuiet_loadH w.heap.size h ?_ H0.out ?_); rfl)
      | ((with_reducible refine wpQuiet_load_one (w.heap.size + 1 + 1) 6 54 (iCa i) (.int .i64 i.size) ?_ ?_ ?_ H2.out ?_ ?_); rfl; exact wd_n; exact fun _ h => lv_int h; rfl)
      | ((with_reducible refine wpQuiet_load_one (w.heap.size + 1 + 1) 7 54 (iCa i) (.bool i.sg) ?_ ?_ ?_ H2.out ?_ ?_); rfl; exact wd_n; exact fun _ h => lv_bool h; rfl)
      | ((with_reducible refine wpQuiet_load_one (w.heap.size + 1 + 1) 2 54 (iCa i) (.int .i64 i.rd) ?_ ?_ ?_ H2.out ?_ ?_); rfl; exact wd_n; exact fun _ h => lv_int h; rfl)
      | ((with_reducible refine wpQuiet_load_one (w.heap.size + 1 + 1) 3 54 (iCa i) (.int .i64 i.rs1) ?_ ?_ ?_ H2.out ?_ ?_); rfl; exact wd_n; exact fun _ h => lv_int h; rfl)
      | ((with_reducible refine wpQuiet_load_one (w.heap.size + 1 + 1) 4 54 (iCa i) (.int .i64 i.rs2) ?_ ?_ ?_ H2.out ?_ ?_); rfl; exact wd_n; exact fun _ h => lv_int h; rfl)
      | ((with_reducible refine wpQuiet_load_one (w.heap.size + 1 + 1) 5 54 (iCa i) (.int .i64 i.imm) ?_ ?_ ?_ H2.out ?_ ?_); rfl; exact wd_n; exact fun _ h => lv_int h; rfl)
      | (refine wpQuiet_step (fun K hK => ?_)
         go_simp
         first
           | (refine hK _ ?_; clear hK K)
           | (refine ⟨_, fun _ => rfl, hK _ ?_⟩; clear hK K)
           | (refine ⟨.int .u64 (adr h i.rs1 i.imm), fun x => ?_, hK _ ?_⟩
              · (go_at_call 27; exact Calls.wb x (HA.out x.w))
              clear hK K))
  refine wpQuiet_nil ?_
  intro _ hx
  obtain ⟨x, rfl⟩ := hx
  have P3 : Hid (x.w.heap[w.heap.size + 1]? = some (.cells (⟨false, false, 0, 0, 0, 0, 0⟩ : AV).ca 30 (0, 0))) := (x.h.block _ (lt_of_row P1.out)).trans P1.out
  have HWX : Hid (Below w.heap.size w x.w) := bT (below_dn HWB.out nq) x.h
  refine wpOp_store_sub rfl (w.heap.size + 1) 0 rfl 30 (⟨false, false, 0, 0, 0, 0, 0⟩ : AV).ca (⟨true, false, i.size, 0, long, adr h i.rs1 i.imm, v⟩ : AV).ca (⟨true, false, i.size, 0, long, adr h i.rs1 i.imm, v⟩ : AV).ca rfl P3.out rfl (Nat.le_refl 7) (by simp [Value.oneCell']) s_acc ?_
  repeat
    first
      | (refine wpQuiet_step (fun K hK => ?_)
         go_simp
         first
           | (refine hK _ ?_; clear hK K)
           | (refine ⟨_, fun _ => rfl, hK _ ?_⟩; clear hK K))
  refine wpQuiet_nil ?_
  intro _ hx
  obtain ⟨n, rfl⟩ := hx
  have P4 : (x.w.setRow (w.heap.size + 1) (⟨true, false, i.size, 0, long, adr h i.rs1 i.imm, v⟩ : AV).ca).heap[w.heap.size + 1]? = some (.cells (⟨true, false, i.size, 0, long, adr h i.rs1 i.imm, v⟩ : AV).ca 30 (0, 0)) := setRow_heap _ _ _ _ _ _ P3.out
  go_wp2
  exact bodyPost_ret (ret_acc2 Tryd.results15 (w.heap.size + 1) (⟨true, false, i.size, 0, long, adr h i.rs1 i.imm, v⟩ : AV) true rfl rfl P4) rfl ⟨by rw [HV.out], below_dn (below_setRow HWX.out (by omega) _) n⟩
end Go.Proofs.YtkmknjiepegodaaDoor
namespace Go.Proofs.YtkmknjiepegodaaDoor
open Go.RowKit
set_option linter.unusedVariables false
set_option maxRecDepth 100000

theorem withF_no {p : B.I × Bool} {rd r1 r2 im : Int} (h : (B.withF p rd r1 r2 im).2 = false) : (B.withF p rd r1 r2 im).1 = B.I.zero := by
  unfold B.withF at h ⊢
  split at h
  · cases h
  · rw [if_neg (by assumption)]; rfl
theorem ite_no {c : Prop} [Decidable c] {x y : B.I × Bool} {z : B.I} (hx : x.2 = false → x.1 = z) (hy : y.2 = false → y.1 = z) : (if c then x else y).2 = false → (if c then x else y).1 = z := by
  split
  · exact hx
  · exact hy
theorem D_no (a : Int) : (B.D a).2 = false → (B.D a).1 = B.I.zero := by
  unfold B.D
  repeat (refine ite_no withF_no ?_)
  exact fun _ => rfl
/-- registers as an instruction that is read names them -/
theorem D_b (a : Int) (h0 : 0 ≤ a) (h1 : a < 4294967296) (hk : (B.D a).1.kind = 6 ∨ (B.D a).1.kind = 7) : (B.D a).2 = true ∧ (0 ≤ (B.D a).1.rs1 ∧ (B.D a).1.rs1 < 32) ∧ (0 ≤ (B.D a).1.rs2 ∧ (B.D a).1.rs2 < 32) := by
  cases hd : (B.D a).2
  · rw [D_no a hd] at hk
    rcases hk with hk | hk <;> exact absurd hk (by decide)
  · have f := B.D_fok a h0 h1 hd
    have := f.rs1; have := f.rs2
    exact ⟨rfl, by omega, by omega⟩
def plF (o : HV) (i : B.I) (long : Int) : AV × Bool :=
  if i.kind = 6 then (⟨false, i.sg, i.size, i.rd, long, adr o i.rs1 i.imm, 0⟩, true)
  else if i.kind = 7 then (⟨true, false, i.size, 0, long, adr o i.rs1 i.imm, A.ext (o.x i.rs2.toNat) i.size false⟩, true) else (⟨false, false, 0, 0, 0, 0, 0⟩, false)
set_option maxHeartbeats 1000000 in
theorem k_plan_none (h : HV) (long : Int) (w : World) : Calls Tryd.prog 15 #[h.v, .nilIface, .int .i64 long] w fun e w' => e = .returned (.tuple #[(⟨false, false, 0, 0, 0, 0, 0⟩ : AV).v, .bool false]) ∧ Below w.heap.size w w' := by
  have h1 := as_nl
  have h2 := as_ns
  have P1 : ((w.alloc (.cells h.ca 25)).alloc (.cells (⟨false, false, 0, 0, 0, 0, 0⟩ : AV).ca 30)).heap[w.heap.size + 1]? = some (.cells (⟨false, false, 0, 0, 0, 0, 0⟩ : AV).ca 30 (0, 0)) := heap2' _ _ _
  go_enter Tryd.func15, Tryd.ntmps15
  go_wp2_with (first
    | ((with_reducible refine wpL_store_sub (x := .tmp 6) (y := .tmp 51) (w.heap.size + 1) 0 30 (⟨false, false, 0, 0, 0, 0, 0⟩ : AV).ca (⟨false, false, 0, 0, 0, 0, 0⟩ : AV).ca (⟨false, false, 0, 0, 0, 0, 0⟩ : AV).ca ?_ ?_ P1 ?_ ?_ ?_ ?_ ?_); rfl; rfl; rfl; exact (Nat.le_refl 7); (simp [Value.oneCell']); exact s_acc))
  refine bodyPost_ret (ret_acc2 Tryd.results15 (w.heap.size + 1) ⟨false, false, 0, 0, 0, 0, 0⟩ false rfl rfl (setRow_heap _ _ _ _ _ _ P1)) rfl ⟨rfl, below_setRow (below2 _ _) (by omega) _⟩
theorem k_plan (h : HV) (ok : HOk h) (i : B.I) (hb : i.kind = 6 ∨ i.kind = 7 → (0 ≤ i.rs1 ∧ i.rs1 < 32) ∧ (0 ≤ i.rs2 ∧ i.rs2 < 32)) (long : Int) (w : World) : Calls Tryd.prog 15 #[h.v, kndV i, .int .i64 long] w fun e w' => e = .returned (.tuple #[(plF h i long).1.v, .bool (plF h i long).2]) ∧ Below w.heap.size w w' := by
  unfold kndV plF
  by_cases h6 : i.kind = 6
  · rw [if_pos h6, if_pos h6]
    have q := hb (.inl h6)
    exact k_plan_load h i q.1.1 q.1.2 long w
  rw [if_neg h6, if_neg h6]
  by_cases h7 : i.kind = 7
  · rw [if_pos h7, if_pos h7]
    have q := hb (.inr h7)
    exact k_plan_store h ok i q.1.1 q.1.2 q.2.1 q.2.2 long w
  rw [if_neg h7, if_neg h7]
  exact k_plan_none h long w
set_option maxHeartbeats 1000000 in
theorem k_Plan (h : HV) (ok : HOk h) (a : Int) (h0 : 0 ≤ a) (h1 : a < 4294967296) (long : Int) (w : World) (hG : B.G w) : Calls Tryd.prog 5 #[h.v, .int .u32 a, .int .i64 long] w fun e w' => e = .returned (.tuple #[(plF (ordH h) (B.D a).1 long).1.v, .bool (plF (ordH h) (B.D a).1 long).2]) ∧ Below w.heap.size w w' := by
  have HO : Hid (∀ u, Calls Tryd.prog 16 #[h.v] u fun e w' => e = .returned (ordH h).v ∧ Below u.heap.size u w') := fun u => k_inOrder h ok u
  have HD : Hid (Calls Tryd.prog 14 #[.int .u32 a] ((w.alloc (.cells h.ca 25)).alloc (.cells (⟨false, false, 0, 0, 0, 0, 0⟩ : AV).ca 30)) fun e w' => e = .returned (.tuple #[(B.D a).1.v, .bool (B.D a).2]) ∧ Below ((w.alloc (.cells h.ca 25)).alloc (.cells (⟨false, false, 0, 0, 0, 0, 0⟩ : AV).ca 30)).heap.size ((w.alloc (.cells h.ca 25)).alloc (.cells (⟨false, false, 0, 0, 0, 0, 0⟩ : AV).ca 30)) w') := B.m_Decode a h0 h1 _ ((hG.alloc _).alloc _)
  have HP : Hid (∀ u, Calls Tryd.prog 15 #[(ordH h).v, kndV (B.D a).1, .int .i64 long] u fun e w' => e = .returned (.tuple #[(plF (ordH h) (B.D a).1 long).1.v, .bool (plF (ordH h) (B.D a).1 long).2]) ∧ Below u.heap.size u w') := fun u => k_plan (ordH h) (ordOk ok) (B.D a).1 (fun hk => (D_b a h0 h1 hk).2) long u
  have HK : Hid (∀ u, Calls Tryd.prog 17 #[(B.D a).1.v] u fun e w' => e = .returned (kndV (B.D a).1) ∧ Below u.heap.size u w') := fun u => k_kindOf _ u
  clear ok h0 h1 hG
  obtain ⟨r, hr⟩ : ∃ r, r = plF (ordH h) (B.D a).1 long := ⟨_, rfl⟩
  rw [← hr] at HP ⊢
  clear hr
  obtain ⟨i, hi⟩ : ∃ i, i = (B.D a).1 := ⟨_, rfl⟩
  obtain ⟨b, hb⟩ : ∃ b, b = (B.D a).2 := ⟨_, rfl⟩
  rw [← hi] at HP HK
  rw [← hi, ← hb] at HD
  clear hi hb
  obtain ⟨o, ho⟩ : ∃ o, o = ordH h := ⟨_, rfl⟩
  rw [← ho] at HO HP
  clear ho
  go_enter Tryd.func5, Tryd.ntmps5
  go_upto_region 2 with (first
    | (go_at_call 14; refine HD.out.mono ?_; rintro e w1 ⟨rfl, hb⟩; have HB1 := hid hb; clear hb))
  obtain ⟨g, hg⟩ : ∃ g, g = w1.heap.size := ⟨_, rfl⟩
  obtain ⟨wa, hwa⟩ : ∃ wa, wa = w1.alloc (.cells (iCa i) 40) := ⟨_, rfl⟩
  rw [← hg, ← hwa]
  have HWB : Hid (Below w.heap.size w wa) := by show Below _ _ _; rw [hwa]; exact ((below2 _ _).trans (HB1.out.mono (by simp; omega))).alloc (by have := HB1.out.size; simp at this; omega) _
  have P0 : Hid (wa.heap[w.heap.size]? = some (.cells h.ca 25 (0, 0))) := by show _ = _; rw [hwa, heap_alloc_old _ _ (by have := HB1.out.size; simp at this; omega)]; exact (HB1.out.block _ (by simp; omega)).trans (heap2 _ _ _)
  have P1 : Hid (wa.heap[w.heap.size + 1]? = some (.cells (⟨false, false, 0, 0, 0, 0, 0⟩ : AV).ca 30 (0, 0))) := by show _ = _; rw [hwa, heap_alloc_old _ _ (by have := HB1.out.size; simp at this; omega)]; exact (HB1.out.block _ (by simp)).trans (heap2' _ _ _)
  have P2 : Hid (wa.heap[g]? = some (.cells (iCa i) 40 (0, 0))) := by show _ = _; rw [hwa, hg]; exact heap_alloc_new _ _
  clear hwa hg HB1
  have H0 : Hid (∀ w', (∃ x : WB wa, w' = x.w) → w'.heap[w.heap.size]? = some (.cells h.ca 25 (0, 0))) := fun w' ⟨x, hx⟩ => by rw [hx]; exact (x.h.block _ (lt_of_row P0.out)).trans P0.out
  have H2 : Hid (∀ w', (∃ x : WB wa, w' = x.w) → w'.heap[g]? = some (.cells (iCa i) 40 (0, 0))) := fun w' ⟨x, hx⟩ => by rw [hx]; exact (x.h.block _ (lt_of_row P2.out)).trans P2.out
  refine wp_mid_wb 8 (by kernel_rfl) (by kernel_rfl) (by kernel_rfl) (by decide) (by kernel_rfl) ?_
  simp only [List.take, List.drop]
  repeat
    first
      | ((with_reducible refine wpQuiet_loadH w.heap.size h ?_ H0.out ?_); rfl)
      | ((with_reducible refine wpQuiet_load_sub g 0 40 (iCa i) (iCa i) (Tryd.prog.fieldsOf 40) ?_ ?_ H2.out ?_ u_inst ?_ ?_); rfl; exact wd_n; exact sub_self (iCa i); exact s_inst)
      | (refine wpQuiet_step (fun K hK => ?_)
         go_simp
         first
           | (refine hK _ ?_; clear hK K)
           | (refine ⟨_, fun _ => rfl, hK _ ?_⟩; clear hK K)
           | (refine ⟨o.v, fun x => ?_, hK _ ?_⟩
              · (go_at_call 16; exact Calls.wb x (HO.out x.w))
              clear hK K)
           | (refine ⟨kndV i, fun x => ?_, hK _ ?_⟩
              · (go_at_call 17; exact Calls.wb x (HK.out x.w))
              clear hK K)
           | (refine ⟨.tuple #[r.1.v, .bool r.2], fun x => ?_, hK _ ?_⟩
              · (go_at_call 15; exact Calls.wb x (HP.out x.w))
              clear hK K))
  refine wpQuiet_nil ?_
  intro _ hx
  obtain ⟨x, rfl⟩ := hx
  have P3 : Hid (x.w.heap[w.heap.size + 1]? = some (.cells (⟨false, false, 0, 0, 0, 0, 0⟩ : AV).ca 30 (0, 0))) := (x.h.block _ (lt_of_row P1.out)).trans P1.out
  have HWX : Hid (Below w.heap.size w x.w) := bT HWB.out x.h
  refine wpOp_store_sub rfl (w.heap.size + 1) 0 rfl 30 (⟨false, false, 0, 0, 0, 0, 0⟩ : AV).ca r.1.ca r.1.ca rfl P3.out rfl (Nat.le_refl 7) (by simp [Value.oneCell']) s_acc ?_
  repeat
    first
      | (refine wpQuiet_step (fun K hK => ?_)
         go_simp
         first
           | (refine hK _ ?_; clear hK K)
           | (refine ⟨_, fun _ => rfl, hK _ ?_⟩; clear hK K))
  refine wpQuiet_nil ?_
  intro _ hx
  obtain ⟨n, rfl⟩ := hx
  have P4 : (x.w.setRow (w.heap.size + 1) r.1.ca).heap[w.heap.size + 1]? = some (.cells r.1.ca 30 (0, 0)) := setRow_heap _ _ _ _ _ _ P3.out
  go_wp2
  exact bodyPost_ret (ret_acc2 Tryd.results5 (w.heap.size + 1) r.1 r.2 rfl rfl P4) rfl ⟨rfl, below_dn (below_setRow HWX.out (by omega) _) n⟩
end Go.Proofs.YtkmknjiepegodaaDoor
