/- The flags of sstatus. -/
import Derived.Test.YtlfdokkopgmfjaaGreatDoorHB
import Derived.Test.YtlfdokkopgmfjaaGreatDoorMH1
import Derived.Deep.QuietTactic
import Derived.BigQuiet
import Derived.Laws.CopyRow
import Derived.DeepKeys
import Derived.Great.BuildSlice
import Derived.Test.YtlfdokkopgmfjaaGreatDoorHQ
namespace Go.Proofs.YtlfdokkopgmfjaaGreatDoor
open Go.RowKit
set_option linter.unusedVariables false
set_option maxRecDepth 100000
theorem heap1 (w : World) (o : Obj) : (w.alloc o).heap[w.heap.size]? = some o := heap_alloc_new w o
end Go.Proofs.YtlfdokkopgmfjaaGreatDoor
namespace Go.Proofs.YtlfdokkopgmfjaaGreatDoor
open Go.RowKit
set_option linter.unusedVariables false
set_option maxRecDepth 100000
theorem ret_row2 {fn : Func} {p u : Tmp} (hf : fn.results = #[.cell p 27, .tmp u]) {tmps : Array Value} {w : World} (g : Nat) (h : HV) (b : Bool) (hp : tmps.getD p undef = .pointer (some ⟨g, 0, none⟩)) (hb : tmps.getD u undef = .bool b) (hg : w.heap[g]? = some (.cells h.ca 27 (0, 0))) : (results fn tmps).run Tryz.prog w = .ok (.tuple #[h.v, .bool b]) w := by
  have hp' : tmps[p]?.getD undef = .pointer (some ⟨g, 0, none⟩) := by simpa using hp
  have hb' : tmps[u]?.getD undef = .bool b := by simpa using hb
  simp [results, hf, hp', hb', asAddr, run_loadVar_row w g 27 27 h.ca (0, 0) (.struct (Tryz.prog.fieldsOf 27)) hg u_hart rfl (by rw [s_hart]; rfl)]
end Go.Proofs.YtlfdokkopgmfjaaGreatDoor
namespace Go.Proofs.YtlfdokkopgmfjaaGreatDoor
open Go.RowKit
set_option linter.unusedVariables false
set_option maxRecDepth 100000
set_option maxHeartbeats 1000000 in
theorem mw_user (h : HV) (ok : HOk h) (csr v : Int) (r : 0 ≤ v ∧ v < 18446744073709551616) (w : World) (hu : (ordH h).user = true) : Calls Tryz.prog 29 #[h.v, .int .i64 csr, .int .u64 v] w fun e w' => e = .returned (.tuple #[(ordH h).v, .bool false]) ∧ Below w.heap.size w w' := by
  have OK := hid ok
  clear ok
  go_enter Tryz.func29, Tryz.ntmps29
  go_upto_region 2 with (first
    | ((with_reducible refine wpList_new (z := .agg HV.zero.ca) HV.zero.ca ?_ ?_ ?_); rfl; exact z_hart)
    | ((with_reducible refine wpL_loadH (x := .tmp 3) w.heap.size ?_ h ?_ ?_); rfl; exact heap2 _ _ _)
    | (go_at_call 50; refine (m_inOrder h OK.out _).mono ?_; rintro e w1 ⟨rfl, hb⟩; have HB1 := hid hb; clear hb)
    | ((with_reducible refine wpL_storeH (x := .tmp 3) (y := .tmp 9) w.heap.size ?_ (ordH h) ?_ h.ca ?_ rfl ?_); rfl; rfl; exact (HB1.out.block _ (by simp; omega)).trans (heap2 _ _ _)))
  have HP : Hid (w1.heap[w.heap.size]? = some (.cells h.ca 27 (0, 0))) := (HB1.out.block _ (by simp; omega)).trans (heap2 _ _ _)
  have HQ : Hid (w1.heap[w.heap.size + 1]? = some (.cells HV.zero.ca 27 (0, 0))) := (HB1.out.block _ (by simp)).trans (heap2' _ _ _)
  have HB0 : Hid (Below w.heap.size w w1) := (below2 _ _).trans (HB1.out.mono (by simp; omega))
  obtain ⟨o, ho⟩ : ∃ o, o = ordH h := ⟨_, rfl⟩
  rw [← ho]
  have OO : Hid (HOk o) := by show HOk o; rw [ho]; exact ordOk OK.out
  rw [← ho] at hu
  have HO := hid ho
  clear ho
  obtain ⟨wa, hwa⟩ : ∃ wa, wa = w1.setRow w.heap.size o.ca := ⟨_, rfl⟩
  have HR : Hid (wa.heap[w.heap.size]? = some (.cells o.ca 27 (0, 0))) := by show _ = _; rw [hwa]; exact heap_setRow _ _ _ _ _ HP.out
  have HZ : Hid (wa.heap[w.heap.size + 1]? = some (.cells HV.zero.ca 27 (0, 0))) := by show _ = _; rw [hwa, setRow_other _ _ _ _ (by omega)]; exact HQ.out
  have HW : Hid (Below w.heap.size w wa) := by show Below _ _ _; rw [hwa]; exact below_setRow HB0.out (Nat.le_refl _) _
  rw [← hwa]
  clear hwa HP HQ HB0 HB1
  have x33 := row_cellH HR.out 33 (v := .bool o.user) (by simp [HV.ca, HV.cs])
  go_wp2_with (first
    | ((with_reducible refine wpL_loadH (x := .tmp 3) w.heap.size ?_ o ?_ ?_); rfl; exact HR.out)
    | ((with_reducible refine wpL_storeH (x := .tmp 6) (y := .tmp 12) (w.heap.size + 1) ?_ o ?_ HV.zero.ca ?_ rfl ?_); rfl; rfl; exact HZ.out))
  refine bodyPost_ret (ret_row2 Tryz.results29 (w.heap.size + 1) o false rfl rfl (heap_setRow _ _ _ _ _ HZ.out)) rfl ⟨by rw [HO.out], ?_⟩
  exact below_setRow HW.out (by omega) _
set_option maxHeartbeats 1000000 in
theorem mw_no (h : HV) (ok : HOk h) (csr v : Int) (r : 0 ≤ v ∧ v < 18446744073709551616) (w : World) (n1 : csr ≠ 256) (n260 : csr ≠ 260) (n261 : csr ≠ 261) (n320 : csr ≠ 320) (n321 : csr ≠ 321) (n322 : csr ≠ 322) (n323 : csr ≠ 323) (n324 : csr ≠ 324) (n384 : csr ≠ 384) (hu : (ordH h).user = false) : Calls Tryz.prog 29 #[h.v, .int .i64 csr, .int .u64 v] w fun e w' => e = .returned (.tuple #[(ordH h).v, .bool false]) ∧ Below w.heap.size w w' := by
  have OK := hid ok
  clear ok
  go_enter Tryz.func29, Tryz.ntmps29
  go_upto_region 2 with (first
    | ((with_reducible refine wpList_new (z := .agg HV.zero.ca) HV.zero.ca ?_ ?_ ?_); rfl; exact z_hart)
    | ((with_reducible refine wpL_loadH (x := .tmp 3) w.heap.size ?_ h ?_ ?_); rfl; exact heap2 _ _ _)
    | (go_at_call 50; refine (m_inOrder h OK.out _).mono ?_; rintro e w1 ⟨rfl, hb⟩; have HB1 := hid hb; clear hb)
    | ((with_reducible refine wpL_storeH (x := .tmp 3) (y := .tmp 9) w.heap.size ?_ (ordH h) ?_ h.ca ?_ rfl ?_); rfl; rfl; exact (HB1.out.block _ (by simp; omega)).trans (heap2 _ _ _)))
  have HP : Hid (w1.heap[w.heap.size]? = some (.cells h.ca 27 (0, 0))) := (HB1.out.block _ (by simp; omega)).trans (heap2 _ _ _)
  have HQ : Hid (w1.heap[w.heap.size + 1]? = some (.cells HV.zero.ca 27 (0, 0))) := (HB1.out.block _ (by simp)).trans (heap2' _ _ _)
  have HB0 : Hid (Below w.heap.size w w1) := (below2 _ _).trans (HB1.out.mono (by simp; omega))
  obtain ⟨o, ho⟩ : ∃ o, o = ordH h := ⟨_, rfl⟩
  rw [← ho]
  have OO : Hid (HOk o) := by show HOk o; rw [ho]; exact ordOk OK.out
  rw [← ho] at hu
  have HO := hid ho
  clear ho
  obtain ⟨wa, hwa⟩ : ∃ wa, wa = w1.setRow w.heap.size o.ca := ⟨_, rfl⟩
  have HR : Hid (wa.heap[w.heap.size]? = some (.cells o.ca 27 (0, 0))) := by show _ = _; rw [hwa]; exact heap_setRow _ _ _ _ _ HP.out
  have HZ : Hid (wa.heap[w.heap.size + 1]? = some (.cells HV.zero.ca 27 (0, 0))) := by show _ = _; rw [hwa, setRow_other _ _ _ _ (by omega)]; exact HQ.out
  have HW : Hid (Below w.heap.size w wa) := by show Below _ _ _; rw [hwa]; exact below_setRow HB0.out (Nat.le_refl _) _
  rw [← hwa]
  clear hwa HP HQ HB0 HB1
  have x33 := row_cellH HR.out 33 (v := .bool o.user) (by simp [HV.ca, HV.cs])
  go_wp2_with (first
    | ((with_reducible refine wpL_loadH (x := .tmp 3) w.heap.size ?_ o ?_ ?_); rfl; exact HR.out)
    | ((with_reducible refine wpL_storeH (x := .tmp 6) (y := .tmp 14) (w.heap.size + 1) ?_ o ?_ HV.zero.ca ?_ rfl ?_); rfl; rfl; exact HZ.out))
  refine bodyPost_ret (ret_row2 Tryz.results29 (w.heap.size + 1) o false rfl rfl (heap_setRow _ _ _ _ _ HZ.out)) rfl ⟨by rw [HO.out], ?_⟩
  exact below_setRow HW.out (by omega) _
end Go.Proofs.YtlfdokkopgmfjaaGreatDoor
namespace Go.Proofs.YtlfdokkopgmfjaaGreatDoor
open Go.RowKit
set_option linter.unusedVariables false
set_option maxRecDepth 100000
/-- one register turned -/
def upd (x : Nat → Int) (r : Nat) (v : Int) : Nat → Int := fun k => if k = r then v else x k
theorem hv_x (h : HV) : ∀ r, r < 32 → h.cs[r]? = some (.int .u64 (h.x r))
  | 0, _ => rfl
  | 1, _ => rfl
  | 2, _ => rfl
  | 3, _ => rfl
  | 4, _ => rfl
  | 5, _ => rfl
  | 6, _ => rfl
  | 7, _ => rfl
  | 8, _ => rfl
  | 9, _ => rfl
  | 10, _ => rfl
  | 11, _ => rfl
  | 12, _ => rfl
  | 13, _ => rfl
  | 14, _ => rfl
  | 15, _ => rfl
  | 16, _ => rfl
  | 17, _ => rfl
  | 18, _ => rfl
  | 19, _ => rfl
  | 20, _ => rfl
  | 21, _ => rfl
  | 22, _ => rfl
  | 23, _ => rfl
  | 24, _ => rfl
  | 25, _ => rfl
  | 26, _ => rfl
  | 27, _ => rfl
  | 28, _ => rfl
  | 29, _ => rfl
  | 30, _ => rfl
  | 31, _ => rfl
  | n + 32, q => absurd q (by omega)
theorem hv_set (h : HV) (v : Int) : ∀ r, r < 32 → h.cs.set r (.int .u64 v) = ({ h with x := upd h.x r v } : HV).cs
  | 0, _ => rfl
  | 1, _ => rfl
  | 2, _ => rfl
  | 3, _ => rfl
  | 4, _ => rfl
  | 5, _ => rfl
  | 6, _ => rfl
  | 7, _ => rfl
  | 8, _ => rfl
  | 9, _ => rfl
  | 10, _ => rfl
  | 11, _ => rfl
  | 12, _ => rfl
  | 13, _ => rfl
  | 14, _ => rfl
  | 15, _ => rfl
  | 16, _ => rfl
  | 17, _ => rfl
  | 18, _ => rfl
  | 19, _ => rfl
  | 20, _ => rfl
  | 21, _ => rfl
  | 22, _ => rfl
  | 23, _ => rfl
  | 24, _ => rfl
  | 25, _ => rfl
  | 26, _ => rfl
  | 27, _ => rfl
  | 28, _ => rfl
  | 29, _ => rfl
  | 30, _ => rfl
  | 31, _ => rfl
  | n + 32, q => absurd q (by omega)
/-- loads and stores of a part of a block -/
theorem run_loadVar_sub {P : Program} (w : World) (g off : Nat) (t ty : TypeId) (cs sub : Array Value) (fr : Nat × Nat) (d : TypeDesc) (hg : w.heap[g]? = some (.cells cs t fr))
    (hs : ∀ j v, sub.toList[j]? = some v → cs[off + j]? = some v) (hu : P.underlying ty = some d) (hd : (match d with | .struct _ | .array _ _ => true | _ => false) = true) (hi : (P.info? ty).map (·.size) = some sub.size) :
    (loadVar ty ⟨g, off, none⟩).run P w = .ok (.agg sub) w := by
  have hl : (loadCells ⟨g, off, none⟩ sub.toList.length).run P w = .ok sub.toList.toArray w :=
    run_loadCells_list (P := P) w ⟨g, off, none⟩ sub.toList (fun j v hv => by
      have hadd : (⟨g, off, none⟩ : Addr).add j = ⟨g, off + j, none⟩ := by unfold Addr.add; split <;> simp_all
      rw [hadd, cell_of_row w g (off + j) cs t fr hg]
      exact hs j v hv)
  cases hq : P.info? ty with
  | none => simp [hq] at hi
  | some i =>
    have hs : i.size = sub.size := by simpa [hq] using hi
    have hagg : (isAgg ty).run P w = .ok true w := by
      unfold isAgg
      rw [Sem.run_bind, run_underlying hu w]
      cases d <;> simp_all
    simp only [Array.length_toList, Array.toArray_toList] at hl
    simp [loadVar, Sem.run_bind, hagg, sizeOf, typeInfo, hq, hs, hl]
theorem run_storeVar_sub {P : Program} (w : World) (g off : Nat) (t ty : TypeId) (cs sub new : Array Value) (hg : w.heap[g]? = some (.cells cs t (0, 0)))
    (hn : (cs.toList.take off ++ sub.toList ++ cs.toList.drop (off + sub.toList.length)).toArray = new) (hl : off + sub.toList.length ≤ cs.size) (h1 : sub.all (·.oneCell') = true) (hi : (P.info? ty).map (·.size) = some sub.size) :
    (storeVar ty ⟨g, off, none⟩ (.agg sub)).run P w = .ok () (w.setRow g new) := by
  have hst := run_storeCells_at P g off t sub.toList 0 cs w hg (by simpa using hl) (fun v hv => by have := Array.all_eq_true_iff_forall_mem.1 h1 v (by simpa using hv); exact this)
  simp only [Nat.add_zero] at hst
  rw [hn] at hst
  cases hq : P.info? ty with
  | none => simp [hq] at hi
  | some i =>
    have hs : i.size = sub.size := by simpa [hq] using hi
    have hc : (Value.agg sub).cells = sub := rfl
    simp [storeVar, sizeOf, typeInfo, hq, hs, hc, hst]
theorem wpList_load_sub {P : Program} {ops : Array Oper} {rest : List Oper} {o : Oper} {a : Act} {w : World} {Q : Exit → Act → World → Prop} (hgd : o.guard = none) (ty : TypeId) (x : Operand) (ho : o.op = .load ty x)
    (g off : Nat) (hx : a.eval x = .pointer (some ⟨g, off, none⟩)) (t : TypeId) (cs sub : Array Value) (fr : Nat × Nat) (d : TypeDesc) (hg : w.heap[g]? = some (.cells cs t fr))
    (hs : ∀ j v, sub.toList[j]? = some v → cs[off + j]? = some v) (hu : P.underlying ty = some d) (hd : (match d with | .struct _ | .array _ _ => true | _ => false) = true) (hi : (P.info? ty).map (·.size) = some sub.size)
    (h : wpList P ops Q rest (a.put o.dst (.agg sub)) w) : wpList P ops Q (o :: rest) a w :=
  wpList_plain hgd fun _ hK => by
    unfold Oper.wp execOp
    simp only [ho, hx, Instr.loadAt, Instr.sureAddr, Sem.run_bind, Sem.run_pure, Result.andThen_ok, run_loadVar_sub w g off t ty cs sub fr d hg hs hu hd hi]
    exact hK _ _ h
theorem wpList_store_sub {P : Program} {ops : Array Oper} {rest : List Oper} {o : Oper} {a : Act} {w : World} {Q : Exit → Act → World → Prop} (hgd : o.guard = none) (ty : TypeId) (x y : Operand) (ho : o.op = .store ty x y)
    (g off : Nat) (hx : a.eval x = .pointer (some ⟨g, off, none⟩)) (t : TypeId) (cs sub new : Array Value) (hy : a.eval y = .agg sub) (hg : w.heap[g]? = some (.cells cs t (0, 0)))
    (hn : (cs.toList.take off ++ sub.toList ++ cs.toList.drop (off + sub.toList.length)).toArray = new) (hl : off + sub.toList.length ≤ cs.size) (h1 : sub.all (·.oneCell') = true) (hi : (P.info? ty).map (·.size) = some sub.size)
    (h : wpList P ops Q rest (a.put o.dst undef) (w.setRow g new)) : wpList P ops Q (o :: rest) a w :=
  wpList_plain hgd fun _ hK => by
    unfold Oper.wp execOp
    simp only [ho, hx, hy, Instr.storeAt, Instr.sureAddr, Sem.run_bind, Sem.run_pure, Result.andThen_ok, run_storeVar_sub w g off t ty cs sub new hg hn hl h1 hi]
    exact hK _ _ h
theorem wpL_store_sub {P : Program} {ops : Array Oper} {rest : List Oper} {d : Option Nat} {ty tt : TypeId} {x y : Operand} {pos : String} {after : Array Edge} {a : Act} {w : World} {Q : Exit → Act → World → Prop}
    (g off : Nat) (t : TypeId) (cs sub new : Array Value) (hx : a.eval x = .pointer (some ⟨g, off, none⟩)) (hy : a.eval y = .agg sub) (hg : w.heap[g]? = some (.cells cs t (0, 0)))
    (hn : (cs.toList.take off ++ sub.toList ++ cs.toList.drop (off + sub.toList.length)).toArray = new) (hl : off + sub.toList.length ≤ cs.size) (h1 : sub.all (·.oneCell') = true) (hi : (P.info? ty).map (·.size) = some sub.size)
    (h : wpList P ops Q rest (a.put d undef) (w.setRow g new)) : wpList P ops Q ({ dst := d, op := Op.store ty x y, type := tt, pos := pos, after := after, guard := none } :: rest) a w :=
  wpList_store_sub rfl ty x y rfl g off hx t cs sub new hy hg hn hl h1 hi h
theorem wpL_load_sub {P : Program} {ops : Array Oper} {rest : List Oper} {d : Option Nat} {ty tt : TypeId} {x : Operand} {pos : String} {after : Array Edge} {a : Act} {w : World} {Q : Exit → Act → World → Prop}
    (g off : Nat) (t : TypeId) (cs sub : Array Value) (td : TypeDesc) (hx : a.eval x = .pointer (some ⟨g, off, none⟩)) (hg : w.heap[g]? = some (.cells cs t (0, 0)))
    (hs : ∀ j v, sub.toList[j]? = some v → cs[off + j]? = some v) (hu : P.underlying ty = some td) (hd : (match td with | .struct _ | .array _ _ => true | _ => false) = true) (hi : (P.info? ty).map (·.size) = some sub.size)
    (h : wpList P ops Q rest (a.put d (.agg sub)) w) : wpList P ops Q ({ dst := d, op := Op.load ty x, type := tt, pos := pos, after := after, guard := none } :: rest) a w :=
  wpList_load_sub rfl ty x rfl g off hx t cs sub (0, 0) td hg hs hu hd hi h
end Go.Proofs.YtlfdokkopgmfjaaGreatDoor
namespace Go.Proofs.YtlfdokkopgmfjaaGreatDoor
open Go.RowKit
set_option linter.unusedVariables false
set_option maxRecDepth 100000
section
variable {P : Program} (w : World)
end
theorem co_u64 : Tryz.prog.cellsOf 22 = 1 := by kernel_rfl
theorem u_a32 : Tryz.prog.underlying 25 = some (.array 32 22) := by kernel_rfl
end Go.Proofs.YtlfdokkopgmfjaaGreatDoor
namespace Go.Proofs.YtlfdokkopgmfjaaGreatDoor
open Go.RowKit
set_option linter.unusedVariables false
set_option maxRecDepth 100000
end Go.Proofs.YtlfdokkopgmfjaaGreatDoor
namespace Go.Proofs.YtlfdokkopgmfjaaGreatDoor.C
open Go.RowKit
set_option linter.unusedVariables false
end Go.Proofs.YtlfdokkopgmfjaaGreatDoor.C
namespace Go.Proofs.YtlfdokkopgmfjaaGreatDoor
open Go.RowKit
set_option linter.unusedVariables false
/-- a world in which all that was there is as it was -/
structure WB (w0 : World) where
  w : World
  h : Below w0.heap.size w0 w
/-- a callee's contract, met in a world of the class -/
theorem Calls.wb {P : Program} {f : FuncId} {args : Array Value} {w0 : World} {v : Value} (x : WB w0) (h : Calls P f args x.w fun e w' => e = .returned v ∧ Below x.w.heap.size x.w w') : Calls P f args x.w fun e w'' => e = .returned v ∧ ∃ y : WB w0, w'' = y.w :=
  h.mono fun _ w' hh => ⟨hh.1, ⟨w', x.h.trans (hh.2.mono x.h.size)⟩, rfl⟩
theorem wp_region_wb {P : Program} {id : Nat} {Q : Exit → Act → World → Prop} {a : Act} {w : World} {l : List Oper} (hm : P.follows .mixedOrders = true) (hB : Region.lexB .any l.toArray = true)
    (h : wpQuiet P l.toArray (fun w' => ∃ x : WB w, w' = x.w) (fun a' => ∀ w', (∃ x : WB w, w' = x.w) → Q .normal a' w') l a) : (Code.region id l.toArray true).wp P Q a w :=
  wp_region_quiet (C := fun w' => ∃ x : WB w, w' = x.w) hm hB ⟨⟨w.drew, (Below.refl _ _).drew⟩, rfl⟩ (by simpa using h)
end Go.Proofs.YtlfdokkopgmfjaaGreatDoor
