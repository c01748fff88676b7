/- A hart as a value; a hart in order. -/
import Derived.Test.YteafjobmlfkppaaProg
import Derived.Test.YteafjobmlfkppaaHQ
import Derived.WalkKit
import Derived.ProofKit
import Derived.Outline
import Derived.Laws.MathBits
import Derived.Laws.BitsAllLaws
import Derived.Laws.Rows
import Derived.Laws.Tables
import Derived.Test.YteafjobmlfkppaaMC1
import Derived.Laws.CopyRow
import Derived.Deep.MidRow
import Derived.Deep.QuietTactic
import Derived.BigQuiet
import Derived.DeepKeys
import Derived.Laws.StructEq
import Derived.Great.BuildSlice
import Derived.Deep.CutBlock
namespace Go.Proofs.Yteafjobmlfkppaa
open Go.RowKit
set_option linter.unusedVariables false

/-- a hart -/
structure HV where
  x : Nat → Int
  pc : Int
  user : Bool
  on : Bool
  spie : Bool
  spp : Bool
  sum : Bool
  mxr : Bool
  resd : Bool
  stvec : Int
  sscr : Int
  sepc : Int
  scause : Int
  stval : Int
  sie : Int
  sip : Int
  satp : Int
  resv : Int
def HV.cs (h : HV) : List Value := [.int .u64 (h.x 0), .int .u64 (h.x 1), .int .u64 (h.x 2), .int .u64 (h.x 3), .int .u64 (h.x 4), .int .u64 (h.x 5), .int .u64 (h.x 6), .int .u64 (h.x 7), .int .u64 (h.x 8), .int .u64 (h.x 9), .int .u64 (h.x 10), .int .u64 (h.x 11), .int .u64 (h.x 12), .int .u64 (h.x 13), .int .u64 (h.x 14), .int .u64 (h.x 15), .int .u64 (h.x 16), .int .u64 (h.x 17), .int .u64 (h.x 18), .int .u64 (h.x 19), .int .u64 (h.x 20), .int .u64 (h.x 21), .int .u64 (h.x 22), .int .u64 (h.x 23), .int .u64 (h.x 24), .int .u64 (h.x 25), .int .u64 (h.x 26), .int .u64 (h.x 27), .int .u64 (h.x 28), .int .u64 (h.x 29), .int .u64 (h.x 30), .int .u64 (h.x 31), .int .u64 h.pc, .bool h.user, .bool h.on, .bool h.spie, .bool h.spp, .bool h.sum, .bool h.mxr, .bool h.resd, .int .u64 h.stvec, .int .u64 h.sscr, .int .u64 h.sepc, .int .u64 h.scause, .int .u64 h.stval, .int .u64 h.sie, .int .u64 h.sip, .int .u64 h.satp, .int .u64 h.resv]
def HV.ca (h : HV) : Array Value := h.cs.toArray
@[reducible] def HV.v (h : HV) : Value := .agg h.ca
def HV.zero : HV := ⟨fun _ => 0, 0, false, false, false, false, false, false, false, 0, 0, 0, 0, 0, 0, 0, 0, 0⟩
theorem z_hart : (Try.prog.info? 30).map (fun i => i.zero) = some (some (.agg HV.zero.ca)) := by kernel_rfl
theorem s_hart : (Try.prog.info? 30).map (·.size) = some 49 := by kernel_rfl
theorem ca_size (h : HV) : h.ca.size = 49 := rfl
theorem u_hart : Try.prog.underlying 30 = some (.struct (Try.prog.fieldsOf 30)) := by kernel_rfl
theorem ca_one (h : HV) : h.ca.all (·.oneCell') = true := by simp [HV.ca, HV.cs, Value.oneCell']
/-- numbers of 64 bits -/
structure HOk (h : HV) : Prop where
  x : ∀ r, 0 ≤ h.x r ∧ h.x r < 18446744073709551616
  pc : 0 ≤ h.pc ∧ h.pc < 18446744073709551616
  stvec : 0 ≤ h.stvec ∧ h.stvec < 18446744073709551616
  sscr : 0 ≤ h.sscr ∧ h.sscr < 18446744073709551616
  sepc : 0 ≤ h.sepc ∧ h.sepc < 18446744073709551616
  scause : 0 ≤ h.scause ∧ h.scause < 18446744073709551616
  stval : 0 ≤ h.stval ∧ h.stval < 18446744073709551616
  sie : 0 ≤ h.sie ∧ h.sie < 18446744073709551616
  sip : 0 ≤ h.sip ∧ h.sip < 18446744073709551616
  satp : 0 ≤ h.satp ∧ h.satp < 18446744073709551616
  resv : 0 ≤ h.resv ∧ h.resv < 18446744073709551616
def zx (x : Nat → Int) (r : Nat) : Int := if r = 0 then 0 else x r
/-- the bits of interrupts alone -/
def ib (n : Int) : Int := bits .and .u64 n 546
def ordH (h : HV) : HV := { h with x := zx h.x, pc := h.pc / 2 * 2, sepc := h.sepc / 2 * 2, stvec := h.stvec / 4 * 4 + h.stvec % 2, sie := ib h.sie, sip := ib h.sip }
theorem wpList_new {P : Program} {ops : Array Oper} {rest : List Oper} {d : Option Nat} {ty e : TypeId} {pos : String} {after : Array Edge} {Q : Exit → Act → World → Prop} {a : Act} {w : World} {z : Value} (c : Array Value) (hc : z.cells = c)
    (hz : (P.info? e).map (fun i => i.zero) = some (some z)) (h : wpList P ops Q rest (a.put d (.pointer (some ⟨w.heap.size, 0, none⟩))) (w.alloc (.cells c e))) :
    wpList P ops Q ({ dst := d, op := Op.alloc e, type := ty, pos := pos, after := after, guard := none } :: rest) a w := by
  subst hc
  refine wpList_plain rfl fun K' hK' => ?_
  have hr : (Instr.alloc e true (.tuple #[])).run P w = .ok (.pointer (some ⟨w.heap.size, 0, none⟩)) (w.alloc (.cells z.cells e)) := by
    cases hq : P.info? e with
    | none => rw [hq] at hz; cases hz
    | some i =>
      have hi : i.zero = some z := by rw [hq] at hz; simpa using hz
      simp [Instr.alloc, zeroValue, typeInfo, hq, hi, newVar, newRow]
  unfold Oper.wp
  simp [execOp, hr, Result.andThen]
  exact hK' _ _ h
/-- a frame that is not there is made -/
theorem wpL_loadH {ops : Array Oper} {rest : List Oper} {d : Option Nat} {ty : TypeId} {x : Operand} {pos : String} {after : Array Edge} {Q : Exit → Act → World → Prop} {a : Act} {w : World} (g : Nat) (hx : a.eval x = .pointer (some ⟨g, 0, none⟩)) (h : HV)
    (hg : w.heap[g]? = some (.cells h.ca 30 (0, 0))) (hK : wpList Try.prog ops Q rest (a.put d h.v) w) :
    wpList Try.prog ops Q ({ dst := d, op := Op.load 30 x, type := ty, pos := pos, after := after, guard := none } :: rest) a w :=
  wpList_load_row rfl 30 x rfl g hx 30 _ (0, 0) (.struct (Try.prog.fieldsOf 30)) hg u_hart rfl (by rw [s_hart]; rfl) hK
theorem wpL_storeH {ops : Array Oper} {rest : List Oper} {d : Option Nat} {ty : TypeId} {x y : Operand} {pos : String} {after : Array Edge} {Q : Exit → Act → World → Prop} {a : Act} {w : World} (g : Nat) (hx : a.eval x = .pointer (some ⟨g, 0, none⟩)) (h : HV) (hy : a.eval y = h.v) (old : Array Value)
    (hg : w.heap[g]? = some (.cells old 30 (0, 0))) (ho : old.size = 49) (hK : wpList Try.prog ops Q rest (a.put d undef) (w.setRow g h.ca)) :
    wpList Try.prog ops Q ({ dst := d, op := Op.store 30 x y, type := ty, pos := pos, after := after, guard := none } :: rest) a w :=
  wpList_store_row rfl 30 x y rfl g _ hx hy 30 old hg (by rw [s_hart]; rfl) (by rw [ho]; rfl) (ca_one h) hK
theorem heap2 (w : World) (o o' : Obj) : ((w.alloc o).alloc o').heap[w.heap.size]? = some o := by
  show ((w.heap.push o).push o')[w.heap.size]? = some o
  simp [Array.getElem?_push]
theorem heap2' (w : World) (o o' : Obj) : ((w.alloc o).alloc o').heap[w.heap.size + 1]? = some o' := by
  have := heap_alloc_new (w.alloc o) o'
  simpa using this
theorem setRow_other (w : World) (g k : Nat) (cs : Array Value) (h : k ≠ g) : (w.setRow g cs).heap[k]? = w.heap[k]? := by
  unfold World.setRow
  simp [Array.getElem?_modify, Ne.symm h]
theorem below_setRow {B : Nat} {a w : World} (h : Below B a w) {g : Nat} (hg : B ≤ g) (c : Array Value) : Below B a (w.setRow g c) :=
  ⟨h.os, h.tape, h.output, by have := h.size; simpa [World.setRow] using this, fun k hk => (setRow_other w g k c (by omega)).trans (h.block k hk)⟩
theorem below2 {w : World} (o o' : Obj) : Below w.heap.size w ((w.alloc o).alloc o') := ((Below.refl _ _).alloc (Nat.le_refl _) o).alloc (by simp) _
theorem heap_setRow (w : World) (g : Nat) (c c' : Array Value) (t : TypeId) (h : w.heap[g]? = some (.cells c t (0, 0))) : (w.setRow g c').heap[g]? = some (.cells c' t (0, 0)) := by
  unfold World.setRow
  simp [Array.getElem?_modify, h]
theorem ret_row {fn : Func} {p : Tmp} (hf : fn.results = #[.cell p 30]) {tmps : Array Value} {w : World} (g : Nat) (h : HV) (hp : tmps.getD p undef = .pointer (some ⟨g, 0, none⟩)) (hg : w.heap[g]? = some (.cells h.ca 30 (0, 0))) : (results fn tmps).run Try.prog w = .ok h.v w :=
  results_cell_row hf tmps w g 30 h.ca (0, 0) (.struct (Try.prog.fieldsOf 30)) hp hg u_hart rfl (by rw [s_hart]; rfl)
theorem ord_ca (h : HV) : (((((h.ca.setIfInBounds 0 (.int .u64 0)).setIfInBounds 32 (.int .u64 (h.pc / 2 * 2))).setIfInBounds 42 (.int .u64 (h.sepc / 2 * 2))).setIfInBounds 40 (.int .u64 (h.stvec / 4 * 4 + h.stvec % 2))).setIfInBounds 45 (.int .u64 (bits .and .u64 h.sie 546))).setIfInBounds 46 (.int .u64 (bits .and .u64 h.sip 546)) = (ordH h).ca := rfl
set_option maxHeartbeats 1000000 in
set_option maxRecDepth 100000 in
theorem r_Order (h : HV) (ok : HOk h) (w : World) : Calls Try.prog 25 #[h.v] w fun e w' => e = .returned (ordH h).v ∧ Below w.heap.size w w' := by
  obtain ⟨p0, p1⟩ := ok.pc
  obtain ⟨s0, s1⟩ := ok.sepc
  obtain ⟨t0, t1⟩ := ok.stvec
  clear ok
  have sz : h.ca.size = 49 := rfl
  have c32 : ∀ p : 32 < h.ca.size, h.ca[32]'p = .int .u64 h.pc := fun _ => rfl
  have c40 : ∀ p : 40 < h.ca.size, h.ca[40]'p = .int .u64 h.stvec := fun _ => rfl
  have c42 : ∀ p : 42 < h.ca.size, h.ca[42]'p = .int .u64 h.sepc := fun _ => rfl
  have c45 : ∀ p : 45 < h.ca.size, h.ca[45]'p = .int .u64 h.sie := fun _ => rfl
  have c46 : ∀ p : 46 < h.ca.size, h.ca[46]'p = .int .u64 h.sip := fun _ => rfl
  go_enter Try.func25, Try.ntmps25
  go_wp2_with (first
    | ((with_reducible refine wpList_new (z := .agg HV.zero.ca) HV.zero.ca ?_ ?_ ?_); rfl; exact z_hart)
    | ((with_reducible refine wpL_loadH (x := .tmp 1) w.heap.size ?_ (ordH h) ?_ ?_); rfl; exact (heap2 _ _ _).trans (by rw [← ord_ca]))
    | ((with_reducible refine wpL_storeH (x := .tmp 2) (y := .tmp 32) (w.heap.size + 1) ?_ (ordH h) ?_ HV.zero.ca ?_ rfl ?_); rfl; rfl; exact heap2' _ _ _))
  refine bodyPost_ret (ret_row Try.results25 (w.heap.size + 1) (ordH h) rfl (heap_setRow _ _ _ _ _ (heap2' _ _ _))) rfl ⟨rfl, below_setRow (below2 _ _) (by omega) _⟩
end Go.Proofs.Yteafjobmlfkppaa
namespace Go.Proofs.Yteafjobmlfkppaa
open Go.RowKit
set_option linter.unusedVariables false
set_option maxRecDepth 100000

/-- a virtual hart -/
structure VV where
  h : HV
  st : Int
  ar : Bool
  dl : Int
def VV.cs (x : VV) : List Value := x.h.cs ++ [.int .i64 x.st, .bool x.ar, .int .u64 x.dl]
def VV.ca (x : VV) : Array Value := x.cs.toArray
@[reducible] def VV.v (x : VV) : Value := .agg x.ca
def VV.zero : VV := ⟨HV.zero, 0, false, 0⟩
structure VOk (x : VV) : Prop where
  h : HOk x.h
  st : -9223372036854775808 ≤ x.st ∧ x.st ≤ 9223372036854775807
  dl : 0 ≤ x.dl ∧ x.dl < 18446744073709551616
theorem hv_len (h : HV) : h.cs.length = 49 := rfl
theorem vv_len (x : VV) : x.cs.length = 52 := rfl
theorem vca_size (x : VV) : x.ca.size = 52 := rfl
theorem hv_one (h : HV) : h.cs.all (·.oneCell') = true := by simp [HV.cs, Value.oneCell']
theorem vv_all (x : VV) : x.cs.all (·.oneCell') = true := by simp only [VV.cs, List.all_append, hv_one]; rfl
theorem vv_one (x : VV) : ∀ u ∈ x.cs, u.oneCell' = true := fun u hu => List.all_eq_true.1 (vv_all x) u hu
theorem vca_one (x : VV) : x.ca.all (·.oneCell') = true := by
  have := vv_all x
  simpa [VV.ca] using this
theorem z_vcpu : (Try.prog.info? 32).map (fun i => i.zero) = some (some (.agg VV.zero.ca)) := by kernel_rfl
theorem s_vcpu : (Try.prog.info? 32).map (·.size) = some 52 := by kernel_rfl
theorem u_vcpu : Try.prog.underlying 32 = some (.struct (Try.prog.fieldsOf 32)) := by kernel_rfl
theorem u_sV : Try.prog.underlying 24 = some (.slice 32) := by kernel_rfl
theorem info_v : (Try.prog.info? 32).map (fun i => (i.zero, i.size, i.bytes)) = some (some (.agg VV.zero.ca), 52, 368) := by kernel_rfl
theorem hv_x (h : HV) : ∀ r, r < 32 → h.cs[r]? = some (.int .u64 (h.x r))
  | 0, _ => rfl
  | 1, _ => rfl
  | 2, _ => rfl
  | 3, _ => rfl
  | 4, _ => rfl
  | 5, _ => rfl
  | 6, _ => rfl
  | 7, _ => rfl
  | 8, _ => rfl
  | 9, _ => rfl
  | 10, _ => rfl
  | 11, _ => rfl
  | 12, _ => rfl
  | 13, _ => rfl
  | 14, _ => rfl
  | 15, _ => rfl
  | 16, _ => rfl
  | 17, _ => rfl
  | 18, _ => rfl
  | 19, _ => rfl
  | 20, _ => rfl
  | 21, _ => rfl
  | 22, _ => rfl
  | 23, _ => rfl
  | 24, _ => rfl
  | 25, _ => rfl
  | 26, _ => rfl
  | 27, _ => rfl
  | 28, _ => rfl
  | 29, _ => rfl
  | 30, _ => rfl
  | 31, _ => rfl
  | n + 32, q => absurd q (by omega)
/-- one register turned -/
def upd (x : Nat → Int) (r : Nat) (v : Int) : Nat → Int := fun k => if k = r then v else x k
theorem hv_set (h : HV) (v : Int) : ∀ r, r < 32 → h.cs.set r (.int .u64 v) = ({ h with x := upd h.x r v } : HV).cs
  | 0, _ => rfl
  | 1, _ => rfl
  | 2, _ => rfl
  | 3, _ => rfl
  | 4, _ => rfl
  | 5, _ => rfl
  | 6, _ => rfl
  | 7, _ => rfl
  | 8, _ => rfl
  | 9, _ => rfl
  | 10, _ => rfl
  | 11, _ => rfl
  | 12, _ => rfl
  | 13, _ => rfl
  | 14, _ => rfl
  | 15, _ => rfl
  | 16, _ => rfl
  | 17, _ => rfl
  | 18, _ => rfl
  | 19, _ => rfl
  | 20, _ => rfl
  | 21, _ => rfl
  | 22, _ => rfl
  | 23, _ => rfl
  | 24, _ => rfl
  | 25, _ => rfl
  | 26, _ => rfl
  | 27, _ => rfl
  | 28, _ => rfl
  | 29, _ => rfl
  | 30, _ => rfl
  | 31, _ => rfl
  | n + 32, q => absurd q (by omega)
theorem run_loadVar_sub {P : Program} (w : World) (g off : Nat) (t ty : TypeId) (cs sub : Array Value) (fr : Nat × Nat) (d : TypeDesc) (hg : w.heap[g]? = some (.cells cs t fr))
    (hs : ∀ j v, sub.toList[j]? = some v → cs[off + j]? = some v) (hu : P.underlying ty = some d) (hd : (match d with | .struct _ | .array _ _ => true | _ => false) = true) (hi : (P.info? ty).map (·.size) = some sub.size) :
    (loadVar ty ⟨g, off, none⟩).run P w = .ok (.agg sub) w := by
  have hl : (loadCells ⟨g, off, none⟩ sub.toList.length).run P w = .ok sub.toList.toArray w :=
    run_loadCells_list (P := P) w ⟨g, off, none⟩ sub.toList (fun j v hv => by
      have hadd : (⟨g, off, none⟩ : Addr).add j = ⟨g, off + j, none⟩ := by unfold Addr.add; split <;> simp_all
      rw [hadd, cell_of_row w g (off + j) cs t fr hg]
      exact hs j v hv)
  cases hq : P.info? ty with
  | none => simp [hq] at hi
  | some i =>
    have hs : i.size = sub.size := by simpa [hq] using hi
    have hagg : (isAgg ty).run P w = .ok true w := by
      unfold isAgg
      rw [Sem.run_bind, run_underlying hu w]
      cases d <;> simp_all
    simp only [Array.length_toList, Array.toArray_toList] at hl
    simp [loadVar, Sem.run_bind, hagg, sizeOf, typeInfo, hq, hs, hl]
theorem run_storeVar_sub {P : Program} (w : World) (g off : Nat) (t ty : TypeId) (cs sub new : Array Value) (hg : w.heap[g]? = some (.cells cs t (0, 0)))
    (hn : (cs.toList.take off ++ sub.toList ++ cs.toList.drop (off + sub.toList.length)).toArray = new) (hl : off + sub.toList.length ≤ cs.size) (h1 : sub.all (·.oneCell') = true) (hi : (P.info? ty).map (·.size) = some sub.size) :
    (storeVar ty ⟨g, off, none⟩ (.agg sub)).run P w = .ok () (w.setRow g new) := by
  have hst := run_storeCells_at P g off t sub.toList 0 cs w hg (by simpa using hl) (fun v hv => by have := Array.all_eq_true_iff_forall_mem.1 h1 v (by simpa using hv); exact this)
  simp only [Nat.add_zero] at hst
  rw [hn] at hst
  cases hq : P.info? ty with
  | none => simp [hq] at hi
  | some i =>
    have hs : i.size = sub.size := by simpa [hq] using hi
    have hc : (Value.agg sub).cells = sub := rfl
    simp [storeVar, sizeOf, typeInfo, hq, hs, hc, hst]
theorem wpList_load_sub {P : Program} {ops : Array Oper} {rest : List Oper} {o : Oper} {a : Act} {w : World} {Q : Exit → Act → World → Prop} (hgd : o.guard = none) (ty : TypeId) (x : Operand) (ho : o.op = .load ty x)
    (g off : Nat) (hx : a.eval x = .pointer (some ⟨g, off, none⟩)) (t : TypeId) (cs sub : Array Value) (fr : Nat × Nat) (d : TypeDesc) (hg : w.heap[g]? = some (.cells cs t fr))
    (hs : ∀ j v, sub.toList[j]? = some v → cs[off + j]? = some v) (hu : P.underlying ty = some d) (hd : (match d with | .struct _ | .array _ _ => true | _ => false) = true) (hi : (P.info? ty).map (·.size) = some sub.size)
    (h : wpList P ops Q rest (a.put o.dst (.agg sub)) w) : wpList P ops Q (o :: rest) a w :=
  wpList_plain hgd fun _ hK => by
    unfold Oper.wp execOp
    simp only [ho, hx, Instr.loadAt, Instr.sureAddr, Sem.run_bind, Sem.run_pure, Result.andThen_ok, run_loadVar_sub w g off t ty cs sub fr d hg hs hu hd hi]
    exact hK _ _ h
theorem wpList_store_sub {P : Program} {ops : Array Oper} {rest : List Oper} {o : Oper} {a : Act} {w : World} {Q : Exit → Act → World → Prop} (hgd : o.guard = none) (ty : TypeId) (x y : Operand) (ho : o.op = .store ty x y)
    (g off : Nat) (hx : a.eval x = .pointer (some ⟨g, off, none⟩)) (t : TypeId) (cs sub new : Array Value) (hy : a.eval y = .agg sub) (hg : w.heap[g]? = some (.cells cs t (0, 0)))
    (hn : (cs.toList.take off ++ sub.toList ++ cs.toList.drop (off + sub.toList.length)).toArray = new) (hl : off + sub.toList.length ≤ cs.size) (h1 : sub.all (·.oneCell') = true) (hi : (P.info? ty).map (·.size) = some sub.size)
    (h : wpList P ops Q rest (a.put o.dst undef) (w.setRow g new)) : wpList P ops Q (o :: rest) a w :=
  wpList_plain hgd fun _ hK => by
    unfold Oper.wp execOp
    simp only [ho, hx, hy, Instr.storeAt, Instr.sureAddr, Sem.run_bind, Sem.run_pure, Result.andThen_ok, run_storeVar_sub w g off t ty cs sub new hg hn hl h1 hi]
    exact hK _ _ h
theorem wpL_store_sub {P : Program} {ops : Array Oper} {rest : List Oper} {d : Option Nat} {ty tt : TypeId} {x y : Operand} {pos : String} {after : Array Edge} {a : Act} {w : World} {Q : Exit → Act → World → Prop}
    (g off : Nat) (t : TypeId) (cs sub new : Array Value) (hx : a.eval x = .pointer (some ⟨g, off, none⟩)) (hy : a.eval y = .agg sub) (hg : w.heap[g]? = some (.cells cs t (0, 0)))
    (hn : (cs.toList.take off ++ sub.toList ++ cs.toList.drop (off + sub.toList.length)).toArray = new) (hl : off + sub.toList.length ≤ cs.size) (h1 : sub.all (·.oneCell') = true) (hi : (P.info? ty).map (·.size) = some sub.size)
    (h : wpList P ops Q rest (a.put d undef) (w.setRow g new)) : wpList P ops Q ({ dst := d, op := Op.store ty x y, type := tt, pos := pos, after := after, guard := none } :: rest) a w :=
  wpList_store_sub rfl ty x y rfl g off hx t cs sub new hy hg hn hl h1 hi h
theorem wpL_load_sub {P : Program} {ops : Array Oper} {rest : List Oper} {d : Option Nat} {ty tt : TypeId} {x : Operand} {pos : String} {after : Array Edge} {a : Act} {w : World} {Q : Exit → Act → World → Prop}
    (g off : Nat) (t : TypeId) (cs sub : Array Value) (td : TypeDesc) (hx : a.eval x = .pointer (some ⟨g, off, none⟩)) (hg : w.heap[g]? = some (.cells cs t (0, 0)))
    (hs : ∀ j v, sub.toList[j]? = some v → cs[off + j]? = some v) (hu : P.underlying ty = some td) (hd : (match td with | .struct _ | .array _ _ => true | _ => false) = true) (hi : (P.info? ty).map (·.size) = some sub.size)
    (h : wpList P ops Q rest (a.put d (.agg sub)) w) : wpList P ops Q ({ dst := d, op := Op.load ty x, type := tt, pos := pos, after := after, guard := none } :: rest) a w :=
  wpList_load_sub rfl ty x rfl g off hx t cs sub (0, 0) td hg hs hu hd hi h
def vflat : List VV → List Value
  | [] => []
  | x :: l => x.cs ++ vflat l
theorem vflat_length (l : List VV) : (vflat l).length = l.length * 52 := by
  induction l with
  | nil => rfl
  | cons x l ih => simp only [vflat, List.length_append, ih, vv_len, List.length_cons]; omega
theorem vflat_append (a b : List VV) : vflat (a ++ b) = vflat a ++ vflat b := by
  induction a with
  | nil => rfl
  | cons x l ih => simp only [List.cons_append, vflat, ih, List.append_assoc]
theorem vflat_one' (l : List VV) : ∀ u ∈ vflat l, u.oneCell' = true := by
  induction l with
  | nil => intro u hu; simp [vflat] at hu
  | cons x l ih =>
    intro u hu
    rw [vflat, List.mem_append] at hu
    rcases hu with q | q
    · exact vv_one x u q
    · exact ih u q
theorem vflat_get (l : List VV) : ∀ (i : Nat) (x : VV), l[i]? = some x → ∀ j, j < 52 → (vflat l)[i * 52 + j]? = x.cs[j]? := by
  induction l with
  | nil => intro i x h; simp at h
  | cons y l ih =>
    intro i x h j hj
    cases i with
    | zero =>
      simp only [List.getElem?_cons_zero, Option.some.injEq] at h
      subst h
      rw [vflat, List.getElem?_append_left (by rw [vv_len]; omega)]
      congr 1; omega
    | succ i =>
      rw [vflat, List.getElem?_append_right (by rw [vv_len]; omega), vv_len, ← ih i x (by simpa using h) j hj]
      congr 1
      omega
theorem vflat_set (l : List VV) : ∀ (k : Nat) (x : VV), k < l.length → vflat (l.set k x) = (vflat l).take (k * 52) ++ (x.cs ++ (vflat l).drop (k * 52 + 52)) := by
  induction l with
  | nil => intro k x h; simp at h
  | cons y l ih =>
    intro k x h
    cases k with
    | zero =>
      simp only [List.set_cons_zero, vflat, Nat.zero_mul, List.take_zero, List.nil_append, Nat.zero_add]
      rw [List.drop_append_of_le_length (by rw [vv_len]; omega), List.drop_of_length_le (by rw [vv_len]; omega)]
      rfl
    | succ k =>
      simp only [List.set_cons_succ, vflat]
      have e1 : (y.cs ++ vflat l).take ((k + 1) * 52) = y.cs ++ (vflat l).take (k * 52) := by
        rw [List.take_append, vv_len, List.take_of_length_le (by rw [vv_len]; omega), show (k + 1) * 52 - 52 = k * 52 by omega]
      have e2 : (y.cs ++ vflat l).drop ((k + 1) * 52 + 52) = (vflat l).drop (k * 52 + 52) := by
        rw [List.drop_append, vv_len, List.drop_of_length_le (by rw [vv_len]; omega), show (k + 1) * 52 + 52 - 52 = k * 52 + 52 by omega, List.nil_append]
      rw [ih k x (by simpa using h), e1, e2, List.append_assoc]
/-- the cells of a list that stands at the head of a block, one of them written -/
theorem vsplice (l : List VV) (t : List Value) (k : Nat) (x : VV) (hk : k < l.length) :
    ((vflat l ++ t).take (k * 52) ++ x.cs ++ (vflat l ++ t).drop (k * 52 + x.cs.length)) = vflat (l.set k x) ++ t := by
  rw [vflat_set l k x hk, vv_len, List.take_append_of_le_length (by rw [vflat_length]; omega), List.drop_append_of_le_length (by rw [vflat_length]; omega)]
  simp only [List.append_assoc]
/-- one cell of one of them -/
theorem vset1 (l : List VV) (t : List Value) (k j : Nat) (x y : VV) (u : Value) (hx : l[k]? = some x) (hj : j < 52) (hy : x.cs.set j u = y.cs) :
    (vflat l ++ t).set (k * 52 + j) u = vflat (l.set k y) ++ t := by
  have hk : k < l.length := (List.getElem?_eq_some_iff.1 hx).1
  rw [List.set_append_left _ _ (by rw [vflat_length]; omega)]
  congr 1
  apply List.ext_getElem?
  intro m
  rcases Nat.lt_or_ge m (l.length * 52) with hm | hm
  · have hq : m / 52 < l.length := by omega
    have e : m = m / 52 * 52 + m % 52 := by omega
    have hr : m % 52 < 52 := Nat.mod_lt _ (by decide)
    generalize m / 52 = q at e hq
    generalize m % 52 = r at e hr
    subst e
    by_cases hqk : q = k
    · subst hqk
      rw [vflat_get (l.set q y) q y (by rw [List.getElem?_set_self hk]) r hr, ← hy]
      by_cases hrj : r = j
      · subst hrj
        rw [List.getElem?_set_self (by rw [vflat_length]; omega), List.getElem?_set_self (by rw [vv_len]; omega)]
      · rw [List.getElem?_set_ne (by omega), List.getElem?_set_ne (by omega), vflat_get l q x hx r hr]
    · obtain ⟨z, hz⟩ : ∃ z, l[q]? = some z := ⟨_, List.getElem?_eq_getElem hq⟩
      rw [List.getElem?_set_ne (by omega), vflat_get l q z hz r hr, vflat_get (l.set k y) q z (by rw [List.getElem?_set_ne (by omega)]; exact hz) r hr]
  · rw [List.getElem?_eq_none (by rw [List.length_set, vflat_length]; omega), List.getElem?_eq_none (by rw [vflat_length, List.length_set]; omega)]
/-- a list of them at the head of a block -/
def Vb (w : World) (g : Nat) (L : List VV) : Prop := ∃ t : List Value, w.heap[g]? = some (.cells (vflat L ++ t).toArray 32 (0, 0))
section
variable {w : World} {g : Nat} {L : List VV}
theorem Vb.lt (h : Vb w g L) : g < w.heap.size := by obtain ⟨t, h⟩ := h; exact lt_of_block h
theorem Vb.below {w' : World} (h : Vb w g L) (hb : Below w.heap.size w w') : Vb w' g L := by
  obtain ⟨t, h⟩ := h
  exact ⟨t, (hb.block g (lt_of_block h)).trans h⟩
theorem Vb.only {w' : World} (h : Vb w g L) {S : Nat → Prop} (ho : C.Only S w w') (hs : ¬ S g) : Vb w' g L := by
  obtain ⟨t, h⟩ := h
  exact ⟨t, ho.old h hs⟩
theorem Vb.same {w' : World} (h : Vb w g L) (e : w'.heap = w.heap) : Vb w' g L := by
  obtain ⟨t, h⟩ := h
  exact ⟨t, by rw [e]; exact h⟩
theorem Vb.z (h : Vb w g L) (j : Nat) : w.frozen? ⟨g, j, none⟩ = false := by
  obtain ⟨t, h⟩ := h
  exact frozen_of_row w g j _ _ h
theorem Vb.cell (h : Vb w g L) {i : Nat} {x : VV} (hx : L[i]? = some x) (j : Nat) (hj : j < 52) : w.cell? ⟨g, i * 52 + j, none⟩ = x.cs[j]? := by
  obtain ⟨t, h⟩ := h
  have hi : i < L.length := (List.getElem?_eq_some_iff.1 hx).1
  rw [cell_of_row w g _ _ _ _ h, List.getElem?_toArray, List.getElem?_append_left (by rw [vflat_length]; omega)]
  exact vflat_get L i x hx j hj
theorem Vb.cell0 (h : Vb w g L) {i : Nat} {x : VV} (hx : L[i]? = some x) : w.cell? ⟨g, i * 52, none⟩ = some (.int .u64 (x.h.x 0)) := h.cell hx 0 (by decide)
theorem Vb.range (h : Vb w g L) {i : Nat} {x : VV} (hx : L[i]? = some x) : w.rangeAt g (i * 52) x.cs := fun j v hv => by
  have hj : j < 52 := (List.getElem?_eq_some_iff.1 hv).1
  rw [h.cell hx j hj]; exact hv
theorem Vb.rangeH (h : Vb w g L) {i : Nat} {x : VV} (hx : L[i]? = some x) : w.rangeAt g (i * 52) x.h.cs := fun j v hv => by
  have hj : j < 49 := (List.getElem?_eq_some_iff.1 hv).1
  rw [h.cell hx j (by omega), VV.cs, List.getElem?_append_left (by rw [hv_len]; exact hj)]; exact hv
theorem Vb.set (h : Vb w g L) {k j : Nat} {x y : VV} {u : Value} (hx : L[k]? = some x) (hj : j < 52) (hy : x.cs.set j u = y.cs) : Vb (w.setCell ⟨g, k * 52 + j, none⟩ u) g (L.set k y) := by
  obtain ⟨t, h⟩ := h
  refine ⟨t, ?_⟩
  rw [setCell_eq_setRow w g (k * 52 + j) _ 32 (0, 0) u h, List.setIfInBounds_toArray, vset1 L t k j x y u hx hj hy]
  exact setRow_heap w g _ _ _ _ h
end
theorem only_cell {w : World} {g k : Nat} (u : Value) : C.Only (· = g) w (w.setCell ⟨g, k, none⟩ u) := (C.Only.refl (S := (· = g)) w).setCell (p := ⟨g, k, none⟩) (.inl rfl) u
/-- a list that is somebody's own: from block B on -/
def Vs (w : World) (B : Nat) (v : Value) (L : List VV) : Prop := (v = .slice none 0 0 ∧ L = []) ∨ ∃ g cap, v = .slice (some ⟨g, 0, none⟩) L.length cap ∧ B ≤ g ∧ Vb w g L
/-- a list that can be read -/
def Vr (w : World) (v : Value) (L : List VV) : Prop := (v = .slice none 0 0 ∧ L = []) ∨ ∃ ad cap, v = .slice (some ad) L.length cap ∧ ∀ i x, L[i]? = some x → ∃ g o, ad = ⟨g, o, none⟩ ∧ g < w.heap.size ∧ w.rangeAt g (o + i * 52) x.cs
theorem range_same {w w' : World} {g : Nat} (e : w'.heap[g]? = w.heap[g]?) {o : Nat} {cs : List Value} (h : w.rangeAt g o cs) : w'.rangeAt g o cs := fun j v hv => by
  rw [World.cell?_of_block (w := w) e]; exact h j v hv
theorem Vr.old {w w' : World} {v : Value} {L : List VV} (h : Vr w v L) (hs : w.heap.size ≤ w'.heap.size) (hb : ∀ g, g < w.heap.size → w'.heap[g]? = w.heap[g]?) : Vr w' v L := by
  rcases h with h | ⟨ad, cap, rfl, hc⟩
  · exact .inl h
  · refine .inr ⟨ad, cap, rfl, fun i x hx => ?_⟩
    obtain ⟨g, o, e, hg, hr⟩ := hc i x hx
    exact ⟨g, o, e, Nat.lt_of_lt_of_le hg hs, range_same (hb g hg) hr⟩
theorem Vr.below {w w' : World} {v : Value} {L : List VV} (h : Vr w v L) (hb : Below w.heap.size w w') : Vr w' v L := h.old hb.size fun g hg => hb.block g hg
theorem Vr.same {w w' : World} {v : Value} {L : List VV} (h : Vr w v L) (e : w'.heap = w.heap) : Vr w' v L := h.old (by rw [e]; exact Nat.le_refl _) fun g hg => by rw [e]
/-- as a loop meets it -/
theorem Vr.len {w : World} {v : Value} {L : List VV} (h : Vr w v L) : ∃ ad cap, v = .slice ad L.length cap ∧ ∀ i x, L[i]? = some x → ∃ g o, ad = some ⟨g, o, none⟩ ∧ g < w.heap.size ∧ w.rangeAt g (o + i * 52) x.cs := by
  rcases h with ⟨rfl, rfl⟩ | ⟨ad, cap, rfl, h⟩
  · exact ⟨none, 0, rfl, fun i x hx => by simp at hx⟩
  · refine ⟨some ad, cap, rfl, fun i x hx => ?_⟩
    obtain ⟨g, o, rfl, r⟩ := h i x hx
    exact ⟨g, o, rfl, r⟩
theorem Vr.news {w : World} {ad : Addr} {L : List VV} (h : ∀ i x, L[i]? = some x → ∃ g o, ad = ⟨g, o, none⟩ ∧ g < w.heap.size ∧ w.rangeAt g (o + i * 52) x.cs) : ∀ j u, (vflat L)[j]? = some u → w.cell? (ad.add j) = some u := by
  intro j u hu
  have hj : j < L.length * 52 := by
    have := (List.getElem?_eq_some_iff.1 hu).1
    rwa [vflat_length] at this
  have hq : j / 52 < L.length := by omega
  obtain ⟨x, hx⟩ : ∃ x, L[j / 52]? = some x := ⟨_, List.getElem?_eq_getElem hq⟩
  obtain ⟨g, o, rfl, _, r⟩ := h _ x hx
  have e := vflat_get L (j / 52) x hx (j % 52) (Nat.mod_lt _ (by decide))
  rw [show j / 52 * 52 + j % 52 = j by omega, hu] at e
  have := r (j % 52) u e.symm
  rw [C.addr_add, ← this]
  congr 2
  omega
theorem Vb.rd {w : World} {g cap : Nat} {L : List VV} (h : Vb w g L) : Vr w (.slice (some ⟨g, 0, none⟩) L.length cap) L :=
  .inr ⟨_, cap, rfl, fun i x hx => ⟨g, 0, rfl, h.lt, (Nat.zero_add (i * 52)).symm ▸ h.range hx⟩⟩
theorem Vs.rd {w : World} {B : Nat} {v : Value} {L : List VV} (h : Vs w B v L) : Vr w v L := by
  rcases h with h | ⟨g, cap, rfl, _, h⟩
  · exact .inl h
  · exact h.rd
theorem Vs.below {w w' : World} {B : Nat} {v : Value} {L : List VV} (h : Vs w B v L) (hb : Below w.heap.size w w') : Vs w' B v L := by
  rcases h with h | ⟨g, cap, e, h1, h2⟩
  · exact .inl h
  · exact .inr ⟨g, cap, e, h1, h2.below hb⟩
theorem Vs.base {w : World} {B B' : Nat} {v : Value} {L : List VV} (h : Vs w B v L) (hb : B' ≤ B) : Vs w B' v L := by
  rcases h with h | ⟨g, cap, e, h1, h2⟩
  · exact .inl h
  · exact .inr ⟨g, cap, e, by omega, h2⟩
theorem wpL_vload {ops : Array Oper} {rest : List Oper} {d : Option Nat} {tt : TypeId} {x : Operand} {pos : String} {after : Array Edge} {a : Act} {w : World} {Q : Exit → Act → World → Prop}
    (b o : Nat) (y : VV) (hx : a.eval x = .pointer (some ⟨b, o, none⟩)) (hr : w.rangeAt b o y.cs) (h : wpList Try.prog ops Q rest (a.put d y.v) w) :
    wpList Try.prog ops Q ({ dst := d, op := Op.load 32 x, type := tt, pos := pos, after := after, guard := none } :: rest) a w :=
  wpList_load_mid rfl 32 x rfl b o hx y.cs _ hr u_vcpu rfl (by rw [s_vcpu, vv_len]) h
theorem wpL_hload {ops : Array Oper} {rest : List Oper} {d : Option Nat} {tt : TypeId} {x : Operand} {pos : String} {after : Array Edge} {a : Act} {w : World} {Q : Exit → Act → World → Prop}
    (b o : Nat) (y : HV) (hx : a.eval x = .pointer (some ⟨b, o, none⟩)) (hr : w.rangeAt b o y.cs) (h : wpList Try.prog ops Q rest (a.put d y.v) w) :
    wpList Try.prog ops Q ({ dst := d, op := Op.load 30 x, type := tt, pos := pos, after := after, guard := none } :: rest) a w :=
  wpList_load_mid rfl 30 x rfl b o hx y.cs _ hr u_hart rfl (by rw [s_hart, hv_len]) h
/-- in a region that draws: a load of one of a list -/
theorem wpQ_vload {ops : Array Oper} {rest : List Oper} {d : Option Nat} {tt : TypeId} {x : Operand} {pos : String} {after : Array Edge} {gd : Option (Nat × Bool)} {a : Act} {S : World → Prop} {Q : Act → Prop}
    (b o : Nat) (y : VV) (hx : a.eval x = .pointer (some ⟨b, o, none⟩)) (hw : Region.wanted { dst := d, op := Op.load 32 x, type := tt, pos := pos, after := after, guard := gd } (yielded ops a.tmps) = true) (hr : ∀ w, S w → w.rangeAt b o y.cs) (h : wpQuiet Try.prog ops S Q rest (a.put d y.v)) :
    wpQuiet Try.prog ops S Q ({ dst := d, op := Op.load 32 x, type := tt, pos := pos, after := after, guard := gd } :: rest) a := by
  refine wpQuiet_step fun K hK' => ?_
  rw [if_pos hw]
  refine ⟨y.v, fun w' hw' => ?_, hK' _ h⟩
  unfold Oper.quietAt execOp
  simp only [hx, Instr.loadAt, Instr.sureAddr, Sem.run_bind, Sem.run_pure, Result.andThen_ok, run_loadVar_mid w' b o 32 y.cs _ (hr w' hw') u_vcpu rfl (by rw [s_vcpu, vv_len])]
  exact ⟨rfl, rfl⟩
theorem wpQ_hload {ops : Array Oper} {rest : List Oper} {d : Option Nat} {tt : TypeId} {x : Operand} {pos : String} {after : Array Edge} {gd : Option (Nat × Bool)} {a : Act} {S : World → Prop} {Q : Act → Prop}
    (b o : Nat) (y : HV) (hx : a.eval x = .pointer (some ⟨b, o, none⟩)) (hw : Region.wanted { dst := d, op := Op.load 30 x, type := tt, pos := pos, after := after, guard := gd } (yielded ops a.tmps) = true) (hr : ∀ w, S w → w.rangeAt b o y.cs) (h : wpQuiet Try.prog ops S Q rest (a.put d y.v)) :
    wpQuiet Try.prog ops S Q ({ dst := d, op := Op.load 30 x, type := tt, pos := pos, after := after, guard := gd } :: rest) a := by
  refine wpQuiet_step fun K hK' => ?_
  rw [if_pos hw]
  refine ⟨y.v, fun w' hw' => ?_, hK' _ h⟩
  unfold Oper.quietAt execOp
  simp only [hx, Instr.loadAt, Instr.sureAddr, Sem.run_bind, Sem.run_pure, Result.andThen_ok, run_loadVar_mid w' b o 30 y.cs _ (hr w' hw') u_hart rfl (by rw [s_hart, hv_len])]
  exact ⟨rfl, rfl⟩
theorem wpL_vstore {ops : Array Oper} {rest : List Oper} {d : Option Nat} {tt : TypeId} {x y : Operand} {pos : String} {after : Array Edge} {a : Act} {w : World} {Q : Exit → Act → World → Prop}
    (g k : Nat) (L : List VV) (z : VV) (hx : a.eval x = .pointer (some ⟨g, k * 52, none⟩)) (hy : a.eval y = z.v) (h : Vb w g L) (hk : k < L.length)
    (K : ∀ w', Vb w' g (L.set k z) → C.Only (· = g) w w' → wpList Try.prog ops Q rest (a.put d undef) w') :
    wpList Try.prog ops Q ({ dst := d, op := Op.store 32 x y, type := tt, pos := pos, after := after, guard := none } :: rest) a w := by
  obtain ⟨t, ht⟩ := h
  have e : ((vflat L ++ t).toArray.toList.take (k * 52) ++ z.ca.toList ++ (vflat L ++ t).toArray.toList.drop (k * 52 + z.ca.toList.length)) = vflat (L.set k z) ++ t := vsplice L t k z hk
  refine wpL_store_sub g (k * 52) 32 (vflat L ++ t).toArray z.ca (vflat (L.set k z) ++ t).toArray hx hy ht (by rw [e]) ?_ (vca_one z) (by rw [s_vcpu, vca_size]) ?_
  · show k * 52 + 52 ≤ (vflat L ++ t).toArray.size
    rw [List.size_toArray, List.length_append, vflat_length]; omega
  · refine K _ ⟨t, ?_⟩ ((C.Only.refl (S := (· = g)) w).setRow (g := g) (.inl rfl) _)
    exact setRow_heap w g _ _ _ _ ht
theorem wpL_hstore {ops : Array Oper} {rest : List Oper} {d : Option Nat} {tt : TypeId} {x y : Operand} {pos : String} {after : Array Edge} {a : Act} {w : World} {Q : Exit → Act → World → Prop}
    (g k : Nat) (L : List VV) (v : VV) (z : HV) (hv : L[k]? = some v) (hx : a.eval x = .pointer (some ⟨g, k * 52, none⟩)) (hy : a.eval y = z.v) (h : Vb w g L)
    (K : ∀ w', Vb w' g (L.set k { v with h := z }) → C.Only (· = g) w w' → wpList Try.prog ops Q rest (a.put d undef) w') :
    wpList Try.prog ops Q ({ dst := d, op := Op.store 30 x y, type := tt, pos := pos, after := after, guard := none } :: rest) a w := by
  obtain ⟨t, ht⟩ := h
  have hk : k < L.length := (List.getElem?_eq_some_iff.1 hv).1
  have e : ((vflat L ++ t).toArray.toList.take (k * 52) ++ z.ca.toList ++ (vflat L ++ t).toArray.toList.drop (k * 52 + z.ca.toList.length)) = vflat (L.set k { v with h := z }) ++ t := by
    rw [← vsplice L t k { v with h := z } hk, vv_len]
    show (vflat L ++ t).take (k * 52) ++ z.cs ++ (vflat L ++ t).drop (k * 52 + 49) = (vflat L ++ t).take (k * 52) ++ (z.cs ++ [.int .i64 v.st, .bool v.ar, .int .u64 v.dl]) ++ (vflat L ++ t).drop (k * 52 + 52)
    have e3 : (vflat L ++ t).drop (k * 52 + 49) = [.int .i64 v.st, .bool v.ar, .int .u64 v.dl] ++ (vflat L ++ t).drop (k * 52 + 52) := by
      have c : ∀ j, j < 52 → (vflat L ++ t)[k * 52 + j]? = v.cs[j]? := fun j hj => by
        rw [List.getElem?_append_left (by rw [vflat_length]; omega)]; exact vflat_get L k v hv j hj
      have hl : k * 52 + 52 ≤ (vflat L ++ t).length := by rw [List.length_append, vflat_length]; omega
      have d1 : ∀ j u, j < 52 → v.cs[j]? = some u → (vflat L ++ t).drop (k * 52 + j) = u :: (vflat L ++ t).drop (k * 52 + j + 1) := fun j u hj hu => by
        rw [List.drop_eq_getElem_cons (by omega : k * 52 + j < (vflat L ++ t).length)]
        congr 1
        have := c j hj
        rw [hu, List.getElem?_eq_getElem (by omega)] at this
        simpa using this
      rw [d1 49 _ (by decide) rfl, d1 50 _ (by decide) rfl, d1 51 _ (by decide) rfl]
      rfl
    rw [e3]
    simp only [List.append_assoc]
  refine wpL_store_sub g (k * 52) 32 (vflat L ++ t).toArray z.ca (vflat (L.set k { v with h := z }) ++ t).toArray hx hy ht (by rw [e]) ?_ (ca_one z) (by rw [s_hart, ca_size]) ?_
  · show k * 52 + 49 ≤ (vflat L ++ t).toArray.size
    rw [List.size_toArray, List.length_append, vflat_length]; omega
  · refine K _ ⟨t, ?_⟩ ((C.Only.refl (S := (· = g)) w).setRow (g := g) (.inl rfl) _)
    exact setRow_heap w g _ _ _ _ ht
end Go.Proofs.Yteafjobmlfkppaa
namespace Go.Proofs.Yteafjobmlfkppaa
open Go.RowKit
set_option linter.unusedVariables false
set_option maxRecDepth 100000

section
variable {P : Program} (w : World)
theorem eqFields_iff (d : Nat) (xs ys : Array Value) (q : Field → Prop) : ∀ fs : List Field, (∀ f ∈ fs, ¬ f.name = "_" ∧ ∃ u v, (part f.type xs f.offset).run P w = .ok u w ∧ (part f.type ys f.offset).run P w = .ok v w ∧ ∃ b, (Op.equalIn d f.type u v).run P w = .ok b w ∧ (b = true ↔ q f)) →
    ∃ b, (Op.eqFields d xs ys fs).run P w = .ok b w ∧ (b = true ↔ ∀ f ∈ fs, q f)
  | [], _ => ⟨true, by simp [Op.eqFields], by simp⟩
  | f :: fs, h => by
    obtain ⟨hb, u, v, h1, h2, b, h3, h4⟩ := h f (by simp)
    obtain ⟨b', ih, hi⟩ := eqFields_iff d xs ys q fs fun g hg => h g (by simp [hg])
    cases b with
    | true =>
      refine ⟨b', ?_, ?_⟩
      · simp [Op.eqFields, hb, Sem.run_bind, h1, h2, h3, ih]
      · rw [hi]; simp [h4.1 rfl]
    | false =>
      refine ⟨false, ?_, ?_⟩
      · simp [Op.eqFields, hb, Sem.run_bind, h1, h2, h3]
      · constructor
        · intro q; cases q
        · intro q; exact h4.2 (q f (by simp))
theorem eqItems_iff (d : Nat) (e : TypeId) (c : Nat) (xs ys : Array Value) (q : Nat → Prop) : ∀ is : List Nat, (∀ i ∈ is, ∃ u v, (part e xs (i * c)).run P w = .ok u w ∧ (part e ys (i * c)).run P w = .ok v w ∧ ∃ b, (Op.equalIn d e u v).run P w = .ok b w ∧ (b = true ↔ q i)) →
    ∃ b, (Op.eqItems d e c xs ys is).run P w = .ok b w ∧ (b = true ↔ ∀ i ∈ is, q i)
  | [], _ => ⟨true, by simp [Op.eqItems], by simp⟩
  | i :: is, h => by
    obtain ⟨u, v, h1, h2, b, h3, h4⟩ := h i (by simp)
    obtain ⟨b', ih, hi⟩ := eqItems_iff d e c xs ys q is fun g hg => h g (by simp [hg])
    cases b with
    | true =>
      refine ⟨b', ?_, ?_⟩
      · simp [Op.eqItems, Sem.run_bind, h1, h2, h3, ih]
      · rw [hi]; simp [h4.1 rfl]
    | false =>
      refine ⟨false, ?_, ?_⟩
      · simp [Op.eqItems, Sem.run_bind, h1, h2, h3]
      · constructor
        · intro q; cases q
        · intro q; exact h4.2 (q i (by simp))
end
theorem q_int {T : TypeId} {k : IntKind} (hu : Try.prog.underlying T = some (.int k)) (m n : Int) (d : Nat) (w : World) : ∃ b, (Op.equalIn (d + 1) T (.int k m) (.int k n)).run Try.prog w = .ok b w ∧ (b = true ↔ m = n) := by
  refine ⟨m == n, ?_, by simp⟩
  simp [Op.equalIn, run_underlying hu]
theorem q_bool (m n : Bool) (d : Nat) (w : World) : ∃ b, (Op.equalIn (d + 1) 4 (.bool m) (.bool n)).run Try.prog w = .ok b w ∧ (b = true ↔ m = n) := by
  have hu : Try.prog.underlying 4 = some .bool := by kernel_rfl
  refine ⟨m == n, ?_, by simp⟩
  simp [Op.equalIn, run_underlying hu]
theorem pk_u64 : Try.prog.plainKey 22 = true := by kernel_rfl
theorem pk_int : Try.prog.plainKey 3 = true := by kernel_rfl
theorem pk_bool : Try.prog.plainKey 4 = true := by kernel_rfl
theorem un_u64 : Try.prog.underlying 22 = some (.int .u64) := by kernel_rfl
theorem un_int : Try.prog.underlying 3 = some (.int .i64) := by kernel_rfl
theorem co_u64 : Try.prog.cellsOf 22 = 1 := by kernel_rfl
def xsA (h : HV) : Array Value := (h.cs.take 32).toArray
theorem xs_get (h : HV) (r : Nat) (q : r < 32) : (xsA h)[r]? = some (.int .u64 (h.x r)) := by
  simp only [xsA, List.getElem?_toArray]
  rw [List.getElem?_take_of_lt q]
  exact hv_x h r q
theorem u_a32 : Try.prog.underlying 28 = some (.array 32 22) := by kernel_rfl
theorem part_x (h : HV) (w : World) : (part 28 h.ca 0).run Try.prog w = .ok (.agg (xsA h)) w := by
  have hi : (Try.prog.info? 28).map (·.size) = some 32 := by kernel_rfl
  have hx : h.ca.extract 0 32 = xsA h := by unfold HV.ca xsA; rw [List.extract_toArray]; rfl
  cases hq : Try.prog.info? 28 with
  | none => rw [hq] at hi; cases hi
  | some i =>
    have hs : i.size = 32 := by rw [hq] at hi; simpa using hi
    have hagg : (isAgg 28).run Try.prog w = .ok true w := by
      unfold isAgg
      rw [Sem.run_bind, run_underlying u_a32 w]
      rfl
    simp [part, Sem.run_bind, hagg, sizeOf, typeInfo, hq, hs, hx]
theorem q_x (h k : HV) (w : World) (d : Nat) : ∃ b, (Op.equalIn (d + 1 + 1) 28 (.agg (xsA h)) (.agg (xsA k))).run Try.prog w = .ok b w ∧ (b = true ↔ ∀ r, r < 32 → h.x r = k.x r) := by
  obtain ⟨i, hi⟩ : ∃ i, Try.prog.info? 22 = some i := Option.isSome_iff_exists.1 (by kernel_rfl)
  rw [run_equalIn_array w (d + 1) (xsA h) (xsA k) u_a32 hi]
  obtain ⟨b, h1, h2⟩ := eqItems_iff w (d + 1) 22 (Try.prog.cellsOf 22) (xsA h) (xsA k) (fun r => h.x r = k.x r) (List.range 32) fun r hr => by
    refine ⟨.int .u64 (h.x r), .int .u64 (k.x r), ?_, ?_, q_int un_u64 _ _ d w⟩
    · rw [co_u64, Nat.mul_one]; exact run_part_plain w pk_u64 (xs_get h r (List.mem_range.1 hr))
    · rw [co_u64, Nat.mul_one]; exact run_part_plain w pk_u64 (xs_get k r (List.mem_range.1 hr))
  exact ⟨b, h1, by rw [h2]; simp⟩
theorem stood_hart : Try.prog.stoodInHeld 30 = false := by kernel_rfl
theorem stood_vcpu : Try.prog.stoodInHeld 32 = false := by kernel_rfl
theorem ca_word (h : HV) : ∀ o, (o = 32 ∨ (40 ≤ o ∧ o < 49)) → ∃ n, h.ca[o]? = some (.int .u64 n) := by
  intro o ho
  rcases (by omega : o = 32 ∨ o = 40 ∨ o = 41 ∨ o = 42 ∨ o = 43 ∨ o = 44 ∨ o = 45 ∨ o = 46 ∨ o = 47 ∨ o = 48) with rfl | rfl | rfl | rfl | rfl | rfl | rfl | rfl | rfl | rfl <;> exact ⟨_, rfl⟩
theorem ca_flag (h : HV) : ∀ o, (33 ≤ o ∧ o < 40) → ∃ b, h.ca[o]? = some (.bool b) := by
  intro o ho
  rcases (by omega : o = 33 ∨ o = 34 ∨ o = 35 ∨ o = 36 ∨ o = 37 ∨ o = 38 ∨ o = 39) with rfl | rfl | rfl | rfl | rfl | rfl | rfl <;> exact ⟨_, rfl⟩
def fldH (f : Field) : Bool := (!(f.name == "_")) && ((f.type == 28 && f.offset == 0) || (f.type == 22 && (f.offset == 32 || (decide (40 ≤ f.offset) && decide (f.offset < 49)))) || (f.type == 4 && decide (33 ≤ f.offset) && decide (f.offset < 40)))
theorem fldH_all : (Try.prog.fieldsOf 30).toList.all fldH = true := by kernel_rfl
/-- every cell of a hart is one of its fields' -/
def offB (fs : List Field) (o : Nat) : Bool := fs.any fun f => f.offset == o
theorem offH_all : ((32 :: (List.range 16).map (33 + ·)).all (offB (Try.prog.fieldsOf 30).toList)) = true := by kernel_rfl
theorem offH0 : ((Try.prog.fieldsOf 30).toList.any fun f => f.type == 28) = true := by kernel_rfl
theorem un_a32_ne : (28 : TypeId) ≠ 22 ∧ (28 : TypeId) ≠ 4 := by decide
theorem hcs_ext (h k : HV) (hx : ∀ r, r < 32 → h.x r = k.x r) (ho : ∀ o, 32 ≤ o → o < 49 → h.ca[o]? = k.ca[o]?) : h.cs = k.cs := by
  apply List.ext_getElem?
  intro j
  rcases Nat.lt_or_ge j 32 with q | q
  · rw [hv_x h j q, hv_x k j q, hx j q]
  · rcases Nat.lt_or_ge j 49 with q2 | q2
    · have := ho j q q2
      simpa [HV.ca] using this
    · rw [List.getElem?_eq_none (by rw [hv_len]; omega), List.getElem?_eq_none (by rw [hv_len]; omega)]
theorem hcs_x (h k : HV) (e : h.cs = k.cs) (r : Nat) (q : r < 32) : h.x r = k.x r := by
  have h1 := hv_x h r q
  rw [e, hv_x k r q] at h1
  simpa using h1.symm
theorem run_eqH (h k : HV) (d : Nat) (w : World) : ∃ b, (Op.equalIn (d + 4) 30 h.v k.v).run Try.prog w = .ok b w ∧ (b = true ↔ h.cs = k.cs) := by
  rw [run_equalIn_struct w (d + 3) 30 _ _ u_hart stood_hart]
  obtain ⟨b, h1, h2⟩ := eqFields_iff w (d + 3) h.ca k.ca (fun f => if f.type = 28 then (∀ r, r < 32 → h.x r = k.x r) else h.ca[f.offset]? = k.ca[f.offset]?) (Try.prog.fieldsOf 30).toList fun f hf => by
    have hb := List.all_eq_true.1 fldH_all f hf
    simp only [fldH, Bool.or_eq_true, Bool.and_eq_true, Bool.not_eq_true', beq_eq_false_iff_ne, beq_iff_eq, decide_eq_true_eq] at hb
    obtain ⟨hbl, hb⟩ := hb
    refine ⟨hbl, ?_⟩
    rcases hb with (⟨h1, h2⟩ | ⟨h1, h2⟩) | ⟨⟨h1, h2⟩, h3⟩
    · rw [h1, h2]
      obtain ⟨b, e1, e2⟩ := q_x h k w (d + 1)
      exact ⟨_, _, part_x h w, part_x k w, b, e1, by simpa using e2⟩
    · obtain ⟨m, hm⟩ := ca_word h f.offset h2
      obtain ⟨n, hn⟩ := ca_word k f.offset h2
      rw [h1]
      obtain ⟨b, e1, e2⟩ := q_int un_u64 m n (d + 2) w
      refine ⟨_, _, run_part_plain w pk_u64 hm, run_part_plain w pk_u64 hn, b, e1, ?_⟩
      rw [if_neg (by decide), hm, hn, e2]; simp
    · obtain ⟨m, hm⟩ := ca_flag h f.offset ⟨h2, h3⟩
      obtain ⟨n, hn⟩ := ca_flag k f.offset ⟨h2, h3⟩
      rw [h1]
      obtain ⟨b, e1, e2⟩ := q_bool m n (d + 2) w
      refine ⟨_, _, run_part_plain w pk_bool hm, run_part_plain w pk_bool hn, b, e1, ?_⟩
      rw [if_neg (by decide), hm, hn, e2]; simp
  refine ⟨b, h1, h2.trans ⟨fun hh => ?_, fun e f hf => ?_⟩⟩
  · refine hcs_ext h k ?_ ?_
    · obtain ⟨f, hf, ht⟩ := List.any_eq_true.1 offH0
      have := hh f hf
      rw [if_pos (by simpa using ht)] at this
      exact this
    · intro o o1 o2
      have hm : o ∈ (32 :: (List.range 16).map (33 + ·)) := by
        rcases Nat.eq_or_lt_of_le o1 with q | q
        · simp [← q]
        · refine List.mem_cons_of_mem _ (List.mem_map.2 ⟨o - 33, List.mem_range.2 (by omega), by omega⟩)
      obtain ⟨f, hf, ht⟩ := List.any_eq_true.1 (List.all_eq_true.1 offH_all o hm)
      have ho : f.offset = o := by simpa using ht
      have := hh f hf
      have hb := List.all_eq_true.1 fldH_all f hf
      simp only [fldH, Bool.or_eq_true, Bool.and_eq_true, Bool.not_eq_true', beq_eq_false_iff_ne, beq_iff_eq, decide_eq_true_eq] at hb
      rw [if_neg (by
        intro h1
        rcases hb.2 with (⟨_, h2⟩ | ⟨h2, _⟩) | ⟨⟨h2, _⟩, _⟩
        · omega
        · rw [h1] at h2; revert h2; decide
        · rw [h1] at h2; revert h2; decide), ho] at this
      exact this
  · by_cases ht : f.type = 28
    · rw [if_pos ht]; exact fun r q => hcs_x h k e r q
    · rw [if_neg ht]; unfold HV.ca; rw [e]
theorem part_h (x : VV) (w : World) : (part 30 x.ca 0).run Try.prog w = .ok x.h.v w := by
  have hi : (Try.prog.info? 30).map (·.size) = some 49 := s_hart
  have hx : x.ca.extract 0 49 = x.h.ca := by unfold VV.ca; rw [List.extract_toArray]; rfl
  cases hq : Try.prog.info? 30 with
  | none => rw [hq] at hi; cases hi
  | some i =>
    have hs : i.size = 49 := by rw [hq] at hi; simpa using hi
    have hagg : (isAgg 30).run Try.prog w = .ok true w := by
      unfold isAgg
      rw [Sem.run_bind, run_underlying u_hart w]
      rfl
    simp [part, Sem.run_bind, hagg, sizeOf, typeInfo, hq, hs, hx]
def fldV (f : Field) : Bool := (!(f.name == "_")) && ((f.type == 30 && f.offset == 0) || (f.type == 3 && f.offset == 49) || (f.type == 4 && f.offset == 50) || (f.type == 22 && f.offset == 51))
theorem fldV_all : (Try.prog.fieldsOf 32).toList.all fldV = true := by kernel_rfl
theorem offV_all : ([0, 49, 50, 51].all (offB (Try.prog.fieldsOf 32).toList)) = true := by kernel_rfl
theorem vcs_iff (x y : VV) : x.cs = y.cs ↔ x.h.cs = y.h.cs ∧ x.st = y.st ∧ x.ar = y.ar ∧ x.dl = y.dl := by
  unfold VV.cs
  constructor
  · intro e
    have := List.append_inj e (by rw [hv_len, hv_len])
    obtain ⟨e1, e2⟩ := this
    simp at e2
    exact ⟨e1, e2⟩
  · rintro ⟨e1, e2, e3, e4⟩
    rw [e1, e2, e3, e4]
theorem run_eqV' (x y : VV) (w : World) : ∃ b, (Op.equalIn 10000 32 x.v y.v).run Try.prog w = .ok b w ∧ (b = true ↔ x.cs = y.cs) := by
  rw [run_equalIn_struct w 9999 32 _ _ u_vcpu stood_vcpu]
  obtain ⟨b, h1, h2⟩ := eqFields_iff w 9999 x.ca y.ca (fun f => (f.offset = 0 → x.h.cs = y.h.cs) ∧ (f.offset = 49 → x.st = y.st) ∧ (f.offset = 50 → x.ar = y.ar) ∧ (f.offset = 51 → x.dl = y.dl)) (Try.prog.fieldsOf 32).toList fun f hf => by
    have hb := List.all_eq_true.1 fldV_all f hf
    simp only [fldV, Bool.or_eq_true, Bool.and_eq_true, Bool.not_eq_true', beq_eq_false_iff_ne, beq_iff_eq] at hb
    obtain ⟨hbl, hb⟩ := hb
    refine ⟨hbl, ?_⟩
    rcases hb with ((⟨h1, h2⟩ | ⟨h1, h2⟩) | ⟨h1, h2⟩) | ⟨h1, h2⟩
    · rw [h1, h2]
      obtain ⟨b, e1, e2⟩ := run_eqH x.h y.h 9995 w
      exact ⟨_, _, part_h x w, part_h y w, b, e1, by rw [e2]; simp⟩
    · rw [h1, h2]
      obtain ⟨b, e1, e2⟩ := q_int un_int x.st y.st 9998 w
      exact ⟨_, _, run_part_plain w pk_int (show x.ca[49]? = some (.int .i64 x.st) from rfl), run_part_plain w pk_int (show y.ca[49]? = some (.int .i64 y.st) from rfl), b, e1, by rw [e2]; simp⟩
    · rw [h1, h2]
      obtain ⟨b, e1, e2⟩ := q_bool x.ar y.ar 9998 w
      exact ⟨_, _, run_part_plain w pk_bool (show x.ca[50]? = some (.bool x.ar) from rfl), run_part_plain w pk_bool (show y.ca[50]? = some (.bool y.ar) from rfl), b, e1, by rw [e2]; simp⟩
    · rw [h1, h2]
      obtain ⟨b, e1, e2⟩ := q_int un_u64 x.dl y.dl 9998 w
      exact ⟨_, _, run_part_plain w pk_u64 (show x.ca[51]? = some (.int .u64 x.dl) from rfl), run_part_plain w pk_u64 (show y.ca[51]? = some (.int .u64 y.dl) from rfl), b, e1, by rw [e2]; simp⟩
  refine ⟨b, h1, h2.trans ?_⟩
  rw [vcs_iff]
  constructor
  · intro hh
    have g : ∀ o, o ∈ [0, 49, 50, 51] → ∃ f ∈ (Try.prog.fieldsOf 32).toList, f.offset = o := fun o ho => by
      obtain ⟨f, hf, ht⟩ := List.any_eq_true.1 (List.all_eq_true.1 offV_all o ho)
      exact ⟨f, hf, by simpa using ht⟩
    obtain ⟨f0, m0, o0⟩ := g 0 (by simp)
    obtain ⟨f1, m1, o1⟩ := g 49 (by simp)
    obtain ⟨f2, m2, o2⟩ := g 50 (by simp)
    obtain ⟨f3, m3, o3⟩ := g 51 (by simp)
    exact ⟨(hh f0 m0).1 o0, (hh f1 m1).2.1 o1, (hh f2 m2).2.2.1 o2, (hh f3 m3).2.2.2 o3⟩
  · rintro ⟨e1, e2, e3, e4⟩ f hf
    exact ⟨fun _ => e1, fun _ => e2, fun _ => e3, fun _ => e4⟩
noncomputable def eqV (x y : VV) : Bool := @decide (x.cs = y.cs) (Classical.propDecidable _)
theorem eqV_iff (x y : VV) : eqV x y = true ↔ x.cs = y.cs := by unfold eqV; simp
theorem eqV_self (x : VV) : eqV x x = true := (eqV_iff x x).2 rfl
theorem eqV_of {x y : VV} (h : x.cs = y.cs) : eqV x y = true := (eqV_iff x y).2 h
theorem run_eqV (x y : VV) (w : World) : (Op.equalIn 10000 32 x.v y.v).run Try.prog w = .ok (eqV x y) w := by
  obtain ⟨b, h1, h2⟩ := run_eqV' x y w
  rw [h1]
  congr 1
  cases b with
  | true => exact ((eqV_iff x y).2 (h2.1 rfl)).symm
  | false =>
    cases hq : eqV x y with
    | false => rfl
    | true => exact absurd (h2.2 ((eqV_iff x y).1 hq)) (by decide)
theorem run_eqlV (x y : VV) (w : World) : (binOp .eql 32 x.v y.v).run Try.prog w = .ok (.bool (eqV x y)) w := by
  have h : (Op.equalIn Op.maxDepth 32 x.v y.v).run Try.prog w = .ok (eqV x y) w := run_eqV x y w
  simp only [binOp, Op.equal]
  simp [h]
theorem eg_vcpu : Try.prog.eqGuardType Try.prog.depth 32 = false := by kernel_rfl
theorem run_egV (op : BinOp) (p q : Operand) (x y : VV) (w : World) : (eqGuard op 32 p q x.v y.v).run Try.prog w = .ok () w :=
  run_eqGuard_agg w op 32 p q x.ca y.ca eg_vcpu
theorem run_neqV (x y : VV) (w : World) : (binOp .neq 32 x.v y.v).run Try.prog w = .ok (.bool (!eqV x y)) w := by
  have h : (Op.equalIn Op.maxDepth 32 x.v y.v).run Try.prog w = .ok (eqV x y) w := run_eqV x y w
  simp only [binOp, Op.equal]
  simp [h]
theorem wpQ_neV {ops : Array Oper} {rest : List Oper} {d : Option Nat} {tt t2 : TypeId} {x y : Operand} {pos : String} {after : Array Edge} {gd : Option (Nat × Bool)} {a : Act} {S : World → Prop} {Q : Act → Prop}
    (u v : VV) (hx : a.eval x = u.v) (hy : a.eval y = v.v) (hw : Region.wanted { dst := d, op := Op.binOp .neq 32 x y t2, type := tt, pos := pos, after := after, guard := gd } (yielded ops a.tmps) = true) (h : wpQuiet Try.prog ops S Q rest (a.put d (.bool (!eqV u v)))) :
    wpQuiet Try.prog ops S Q ({ dst := d, op := Op.binOp .neq 32 x y t2, type := tt, pos := pos, after := after, guard := gd } :: rest) a := by
  refine wpQuiet_step fun K hK' => ?_
  rw [if_pos hw]
  refine ⟨.bool (!eqV u v), fun w' hw' => ?_, hK' _ h⟩
  unfold Oper.quietAt execOp
  simp only [hx, hy, run_egV, run_neqV, Sem.run_bind, Sem.run_pure, Result.andThen_ok]
  exact ⟨rfl, rfl⟩
theorem wpQ_eqV {ops : Array Oper} {rest : List Oper} {d : Option Nat} {tt t2 : TypeId} {x y : Operand} {pos : String} {after : Array Edge} {gd : Option (Nat × Bool)} {a : Act} {S : World → Prop} {Q : Act → Prop}
    (u v : VV) (hx : a.eval x = u.v) (hy : a.eval y = v.v) (hw : Region.wanted { dst := d, op := Op.binOp .eql 32 x y t2, type := tt, pos := pos, after := after, guard := gd } (yielded ops a.tmps) = true) (h : wpQuiet Try.prog ops S Q rest (a.put d (.bool (eqV u v)))) :
    wpQuiet Try.prog ops S Q ({ dst := d, op := Op.binOp .eql 32 x y t2, type := tt, pos := pos, after := after, guard := gd } :: rest) a := by
  refine wpQuiet_step fun K hK' => ?_
  rw [if_pos hw]
  refine ⟨.bool (eqV u v), fun w' hw' => ?_, hK' _ h⟩
  unfold Oper.quietAt execOp
  simp only [hx, hy, run_egV, run_eqlV, Sem.run_bind, Sem.run_pure, Result.andThen_ok]
  exact ⟨rfl, rfl⟩
theorem wpL_neV {ops : Array Oper} {rest : List Oper} {d : Option Nat} {tt t2 : TypeId} {x y : Operand} {pos : String} {after : Array Edge} {a : Act} {w : World} {Q : Exit → Act → World → Prop}
    (u v : VV) (hx : a.eval x = u.v) (hy : a.eval y = v.v) (h : wpList Try.prog ops Q rest (a.put d (.bool (!eqV u v))) w) :
    wpList Try.prog ops Q ({ dst := d, op := Op.binOp .neq 32 x y t2, type := tt, pos := pos, after := after, guard := none } :: rest) a w :=
  wpList_plain rfl fun _ hK => by
    unfold Oper.wp execOp
    simp only [hx, hy, run_egV, run_neqV, Sem.run_bind, Sem.run_pure, Result.andThen_ok]
    exact hK _ _ h
theorem wpL_eqV {ops : Array Oper} {rest : List Oper} {d : Option Nat} {tt t2 : TypeId} {x y : Operand} {pos : String} {after : Array Edge} {a : Act} {w : World} {Q : Exit → Act → World → Prop}
    (u v : VV) (hx : a.eval x = u.v) (hy : a.eval y = v.v) (h : wpList Try.prog ops Q rest (a.put d (.bool (eqV u v))) w) :
    wpList Try.prog ops Q ({ dst := d, op := Op.binOp .eql 32 x y t2, type := tt, pos := pos, after := after, guard := none } :: rest) a w :=
  wpList_plain rfl fun _ hK => by
    unfold Oper.wp execOp
    simp only [hx, hy, run_egV, run_eqlV, Sem.run_bind, Sem.run_pure, Result.andThen_ok]
    exact hK _ _ h
end Go.Proofs.Yteafjobmlfkppaa
namespace Go.Proofs.Yteafjobmlfkppaa
open Go.RowKit
set_option linter.unusedVariables false
set_option maxRecDepth 100000

theorem not1 (a : Int) (h0 : 0 ≤ a) (h1 : a < 18446744073709551616) : bits .andNot .u64 a 1 = a / 2 * 2 := by
  obtain ⟨n, rfl⟩ := Int.eq_ofNat_of_zero_le h0
  have e := u64_andNot_nat n 1 (by omega) (by omega)
  have e' : bits .andNot .u64 (n : Int) 1 = ((n &&& 18446744073709551614 : Nat) : Int) := e
  rw [e']
  have d : (n &&& 18446744073709551614) / 2 = n / 2 := by
    have := Nat.and_div_two_pow (a := n) (b := 18446744073709551614) (n := 1)
    simp only [Nat.pow_one] at this
    rw [this]
    have := Nat.and_two_pow_sub_one_eq_mod (n / 2) 63
    simp only [show (18446744073709551614 : Nat) / 2 = 2 ^ 63 - 1 by decide, this]
    omega
  have m : (n &&& 18446744073709551614) % 2 = 0 := by
    have := Nat.and_mod_two_pow (a := n) (b := 18446744073709551614) (n := 1)
    simp only [Nat.pow_one] at this
    rw [this]
    simp
  omega
theorem not2 (a : Int) (h0 : 0 ≤ a) (h1 : a < 18446744073709551616) : bits .andNot .u64 a 2 = a / 4 * 4 + a % 2 := by
  obtain ⟨n, rfl⟩ := Int.eq_ofNat_of_zero_le h0
  have e := u64_andNot_nat n 2 (by omega) (by omega)
  have e' : bits .andNot .u64 (n : Int) 2 = ((n &&& 18446744073709551613 : Nat) : Int) := e
  rw [e']
  have d : (n &&& 18446744073709551613) / 4 = n / 4 := by
    have := Nat.and_div_two_pow (a := n) (b := 18446744073709551613) (n := 2)
    simp only [show (2 : Nat) ^ 2 = 4 by decide] at this
    rw [this]
    have := Nat.and_two_pow_sub_one_eq_mod (n / 4) 62
    simp only [show (18446744073709551613 : Nat) / 4 = 2 ^ 62 - 1 by decide, this]
    omega
  have m : (n &&& 18446744073709551613) % 4 = n % 2 := by
    have := Nat.and_mod_two_pow (a := n) (b := 18446744073709551613) (n := 2)
    simp only [show (2 : Nat) ^ 2 = 4 by decide] at this
    rw [this]
    have := Nat.and_two_pow_sub_one_eq_mod (n % 4) 1
    simp only [show (18446744073709551613 : Nat) % 4 = 2 ^ 1 - 1 by decide, this]
    omega
  omega
theorem not63 (a : Int) (h0 : 0 ≤ a) (h1 : a < 18446744073709551616) : bits .andNot .u64 a 9223372036854775808 = a % 9223372036854775808 := by
  obtain ⟨n, rfl⟩ := Int.eq_ofNat_of_zero_le h0
  have e := u64_andNot_nat n 9223372036854775808 (by omega) (by omega)
  have e' : bits .andNot .u64 (n : Int) 9223372036854775808 = ((n &&& 9223372036854775807 : Nat) : Int) := e
  rw [e']
  have := Nat.and_two_pow_sub_one_eq_mod n 63
  simp only [show (2 : Nat) ^ 63 - 1 = 9223372036854775807 by decide, show (2 : Nat) ^ 63 = 9223372036854775808 by decide] at this
  rw [this]
  omega
theorem inord_ca (h : HV) (ok : HOk h) : (((((h.ca.setIfInBounds 0 (.int .u64 0)).setIfInBounds 32 (.int .u64 (bits .andNot .u64 h.pc 1))).setIfInBounds 42 (.int .u64 (bits .andNot .u64 h.sepc 1))).setIfInBounds 40 (.int .u64 (bits .andNot .u64 h.stvec 2))).setIfInBounds 45 (.int .u64 (bits .and .u64 h.sie 546))).setIfInBounds 46 (.int .u64 (bits .and .u64 h.sip 546)) = (ordH h).ca := by
  rw [not1 _ ok.pc.1 ok.pc.2, not1 _ ok.sepc.1 ok.sepc.2, not2 _ ok.stvec.1 ok.stvec.2]
  exact ord_ca h
set_option maxHeartbeats 1000000 in
theorem m_inOrder (h : HV) (ok : HOk h) (w : World) : Calls Try.prog 41 #[h.v] w fun e w' => e = .returned (ordH h).v ∧ Below w.heap.size w w' := by
  have HC := inord_ca h ok
  clear ok
  have sz : h.ca.size = 49 := rfl
  have c32 : ∀ p : 32 < h.ca.size, h.ca[32]'p = .int .u64 h.pc := fun _ => rfl
  have c40 : ∀ p : 40 < h.ca.size, h.ca[40]'p = .int .u64 h.stvec := fun _ => rfl
  have c42 : ∀ p : 42 < h.ca.size, h.ca[42]'p = .int .u64 h.sepc := fun _ => rfl
  have c45 : ∀ p : 45 < h.ca.size, h.ca[45]'p = .int .u64 h.sie := fun _ => rfl
  have c46 : ∀ p : 46 < h.ca.size, h.ca[46]'p = .int .u64 h.sip := fun _ => rfl
  go_enter Try.func41, Try.ntmps41
  go_wp2_with (first
    | ((with_reducible refine wpList_new (z := .agg HV.zero.ca) HV.zero.ca ?_ ?_ ?_); rfl; exact z_hart)
    | ((with_reducible refine wpL_loadH (x := .tmp 1) w.heap.size ?_ (ordH h) ?_ ?_); rfl; exact (heap2 _ _ _).trans (by rw [← HC]))
    | ((with_reducible refine wpL_storeH (x := .tmp 2) (y := .tmp 25) (w.heap.size + 1) ?_ (ordH h) ?_ HV.zero.ca ?_ rfl ?_); rfl; rfl; exact heap2' _ _ _))
  refine bodyPost_ret (ret_row Try.results41 (w.heap.size + 1) (ordH h) rfl (heap_setRow _ _ _ _ _ (heap2' _ _ _))) rfl ⟨rfl, below_setRow (below2 _ _) (by omega) _⟩
end Go.Proofs.Yteafjobmlfkppaa
namespace Go.Proofs.Yteafjobmlfkppaa
open Go.RowKit
set_option linter.unusedVariables false
set_option maxRecDepth 100000

theorem setCell_row (w : World) (g k : Nat) (cs cs' : Array Value) (t : TypeId) (v : Value) (hg : w.heap[g]? = some (.cells cs t (0, 0))) (he : cs.setIfInBounds k v = cs') : (w.setCell ⟨g, k, none⟩ v).heap[g]? = some (.cells cs' t (0, 0)) := by
  rw [setCell_eq_setRow w g k cs t (0, 0) v hg, he]
  exact setRow_heap w g cs _ t _ hg
def pcH (pc : Int) : HV := { HV.zero with pc := pc }
def rs1H (pc a0 : Int) : HV := { pcH pc with x := upd (pcH pc).x 10 a0 }
def rs2H (pc a0 a1 : Int) : HV := { rs1H pc a0 with x := upd (rs1H pc a0).x 11 a1 }
def rstH (pc a0 a1 : Int) : HV := ordH (rs2H pc a0 a1)
theorem zok : HOk HV.zero := by constructor <;> simp [HV.zero]
theorem HOk.x1 {h : HV} (k : HOk h) (r : Nat) (v : Int) (v0 : 0 ≤ v) (v1 : v < 18446744073709551616) : HOk { h with x := upd h.x r v } := { k with x := fun i => by simp only [upd]; split; exact ⟨v0, v1⟩; exact k.x i }
theorem rs2_ok (pc a0 a1 : Int) (p : 0 ≤ pc ∧ pc < 18446744073709551616) (p0 : 0 ≤ a0 ∧ a0 < 18446744073709551616) (p1 : 0 ≤ a1 ∧ a1 < 18446744073709551616) : HOk (rs2H pc a0 a1) :=
  HOk.x1 (HOk.x1 (h := pcH pc) { zok with pc := p } 10 a0 p0.1 p0.2) 11 a1 p1.1 p1.2
theorem built_pc (pc : Int) : Try.prog.built 30 [(1, .int .u64 pc)] = some (pcH pc).ca := by rfl
theorem row_cells {w : World} {g : Nat} {h : HV} {cs : Array Value} (hg : w.heap[g]? = some (.cells cs 30 (0, 0))) : (w.setRow g h.ca).heap[g]? = some (.cells h.ca 30 (0, 0)) := heap_setRow w g cs h.ca 30 hg
theorem setCell_other (w : World) (g k j : Nat) (v : Value) (h : j ≠ g) : (w.setCell ⟨g, k, none⟩ v).heap[j]? = w.heap[j]? := by
  unfold World.setCell
  simp only [Array.getElem?_modify]
  rw [if_neg (by show ¬ g = j; omega)]
theorem wpList_newG {P : Program} {ops : Array Oper} {rest : List Oper} {d : Option Nat} {ty e : TypeId} {pos : String} {after : Array Edge} {Q : Exit → Act → World → Prop} {a : Act} {w : World} {z : Value} (g : Nat) (hw : w.heap.size = g) (c : Array Value) (hc : z.cells = c)
    (hz : (P.info? e).map (fun i => i.zero) = some (some z)) (h : wpList P ops Q rest (a.put d (.pointer (some ⟨g, 0, none⟩))) (w.alloc (.cells c e))) :
    wpList P ops Q ({ dst := d, op := Op.alloc e, type := ty, pos := pos, after := after, guard := none } :: rest) a w := by
  subst hw
  exact wpList_new c hc hz h
set_option maxHeartbeats 1000000 in
theorem m_Reset (pc a0 a1 : Int) (p : 0 ≤ pc ∧ pc < 18446744073709551616) (p0 : 0 ≤ a0 ∧ a0 < 18446744073709551616) (p1 : 0 ≤ a1 ∧ a1 < 18446744073709551616) (w : World) :
    Calls Try.prog 37 #[.int .u64 pc, .int .u64 a0, .int .u64 a1] w fun e w' => e = .returned (rstH pc a0 a1).v ∧ Below w.heap.size w w' := by
  have g1 : ∀ u : World, u = (w.alloc (.cells HV.zero.ca 30)).alloc (.cells HV.zero.ca 30) → (u.setRow (w.heap.size + 1) (pcH pc).ca).heap[w.heap.size + 1]? = some (.cells (pcH pc).ca 30 (0, 0)) := fun u hu => by
    subst hu; exact heap_setRow _ _ _ _ _ (heap2' _ _ _)
  have G1 := g1 _ rfl
  clear g1
  have c10 : (((w.alloc (.cells HV.zero.ca 30)).alloc (.cells HV.zero.ca 30)).setRow (w.heap.size + 1) (pcH pc).ca).cell? ⟨w.heap.size + 1, 10, none⟩ = some (.int .u64 0) := cell_of_row _ _ 10 _ _ _ G1
  have c11 : (((w.alloc (.cells HV.zero.ca 30)).alloc (.cells HV.zero.ca 30)).setRow (w.heap.size + 1) (pcH pc).ca).cell? ⟨w.heap.size + 1, 11, none⟩ = some (.int .u64 0) := cell_of_row _ _ 11 _ _ _ G1
  have fz : ∀ k, (((w.alloc (.cells HV.zero.ca 30)).alloc (.cells HV.zero.ca 30)).setRow (w.heap.size + 1) (pcH pc).ca).frozen? ⟨w.heap.size + 1, k, none⟩ = false := fun k => frozen_of_row _ _ k _ _ G1
  have G2 := setCell_row _ _ 10 _ (rs1H pc a0).ca 30 (.int .u64 a0) G1 rfl
  have G3 := setCell_row _ _ 11 _ (rs2H pc a0 a1).ca 30 (.int .u64 a1) G2 rfl
  have HG := C.hid G3
  have z0 : (((((w.alloc (.cells HV.zero.ca 30)).alloc (.cells HV.zero.ca 30)).setRow (w.heap.size + 1) (pcH pc).ca).setCell ⟨w.heap.size + 1, 10, none⟩ (.int .u64 a0)).setCell ⟨w.heap.size + 1, 11, none⟩ (.int .u64 a1)).heap[w.heap.size]? = some (.cells HV.zero.ca 30 (0, 0)) := by
    rw [setCell_other _ _ _ _ _ (by omega), setCell_other _ _ _ _ _ (by omega), setRow_other _ _ _ _ (by omega)]
    exact heap2 _ _ _
  have HZ := C.hid z0
  have zs : (((((w.alloc (.cells HV.zero.ca 30)).alloc (.cells HV.zero.ca 30)).setRow (w.heap.size + 1) (pcH pc).ca).setCell ⟨w.heap.size + 1, 10, none⟩ (.int .u64 a0)).setCell ⟨w.heap.size + 1, 11, none⟩ (.int .u64 a1)).heap.size = w.heap.size + 2 := by
    simp [World.setRow]
  have HS := C.hid zs
  have zb : Below w.heap.size w (((((w.alloc (.cells HV.zero.ca 30)).alloc (.cells HV.zero.ca 30)).setRow (w.heap.size + 1) (pcH pc).ca).setCell ⟨w.heap.size + 1, 10, none⟩ (.int .u64 a0)).setCell ⟨w.heap.size + 1, 11, none⟩ (.int .u64 a1)) :=
    ((below_setRow (below2 _ _) (by omega) _).setCell (by simp) _).setCell (by simp) _
  have HB := C.hid zb
  clear z0 zs zb
  clear G1 G2 G3
  go_enter Try.func37, Try.ntmps37
  go_wp2_with (first
    | ((with_reducible refine wpList_newG (z := .agg HV.zero.ca) w.heap.size ?_ HV.zero.ca ?_ ?_ ?_); rfl; rfl; exact z_hart)
    | ((with_reducible refine wpList_newG (z := .agg HV.zero.ca) (w.heap.size + 1) ?_ HV.zero.ca ?_ ?_ ?_); simp; rfl; exact z_hart)
    | ((with_reducible refine wpL_storeH (x := .tmp 7) (y := .tmp 9) (w.heap.size + 1) ?_ (pcH pc) ?_ HV.zero.ca ?_ rfl ?_); rfl; rfl; exact heap2' _ _ _)
    | ((with_reducible refine wpL_loadH (x := .tmp 7) (w.heap.size + 1) ?_ (rs2H pc a0 a1) ?_ ?_); rfl; exact HG.out)
    | (go_at_call 41; refine (m_inOrder _ (rs2_ok pc a0 a1 p p0 p1) _).mono ?_; rintro e w' ⟨rfl, hb⟩; have HW := C.hid ((hb.block w.heap.size (by rw [HS.out]; omega)).trans HZ.out); have HY := C.hid (HB.out.trans (hb.mono (by rw [HS.out]; omega))); clear hb)
    | ((with_reducible refine wpL_storeH (x := .tmp 6) (y := .tmp 17) w.heap.size ?_ (rstH pc a0 a1) ?_ HV.zero.ca ?_ rfl ?_); rfl; rfl; exact HW.out))
  refine bodyPost_ret (ret_row Try.results37 w.heap.size (rstH pc a0 a1) rfl (heap_setRow _ _ _ _ _ HW.out)) rfl ⟨rfl, below_setRow HY.out (Nat.le_refl _) _⟩
end Go.Proofs.Yteafjobmlfkppaa
namespace Go.Proofs.Yteafjobmlfkppaa
open Go.RowKit
set_option linter.unusedVariables false
set_option maxRecDepth 100000

set_option maxHeartbeats 1000000 in
theorem r_Reset (pc a0 a1 : Int) (p : 0 ≤ pc ∧ pc < 18446744073709551616) (p0 : 0 ≤ a0 ∧ a0 < 18446744073709551616) (p1 : 0 ≤ a1 ∧ a1 < 18446744073709551616) (w : World) :
    Calls Try.prog 29 #[.int .u64 pc, .int .u64 a0, .int .u64 a1] w fun e w' => e = .returned (rstH pc a0 a1).v ∧ Below w.heap.size w w' := by
  have sz : HV.zero.ca.size = 49 := rfl
  have c32 : ∀ p : 32 < HV.zero.ca.size, HV.zero.ca[32]'p = .int .u64 0 := fun _ => rfl
  have c10 : ∀ p : 10 < HV.zero.ca.size, HV.zero.ca[10]'p = .int .u64 0 := fun _ => rfl
  have c11 : ∀ p : 11 < HV.zero.ca.size, HV.zero.ca[11]'p = .int .u64 0 := fun _ => rfl
  have HC : Hid (((HV.zero.ca.setIfInBounds 32 (.int .u64 pc)).setIfInBounds 10 (.int .u64 a0)).setIfInBounds 11 (.int .u64 a1) = (rs2H pc a0 a1).ca) := rfl
  have HL : Hid (((w.alloc (.cells HV.zero.ca 30)).alloc (.cells (((HV.zero.ca.setIfInBounds 32 (.int .u64 pc)).setIfInBounds 10 (.int .u64 a0)).setIfInBounds 11 (.int .u64 a1)) 30)).heap[w.heap.size + 1]? = some (.cells (rs2H pc a0 a1).ca 30 (0, 0))) := (heap2' _ _ _).trans (by rw [HC.out])
  have HO : Hid (∀ u, Calls Try.prog 25 #[(rs2H pc a0 a1).v] u fun e w' => e = .returned (rstH pc a0 a1).v ∧ Below u.heap.size u w') := fun u => r_Order _ (rs2_ok pc a0 a1 p p0 p1) u
  go_enter Try.func29, Try.ntmps29
  go_wp2_with (first
    | ((with_reducible refine wpList_newG (z := .agg HV.zero.ca) w.heap.size ?_ HV.zero.ca ?_ ?_ ?_); rfl; rfl; exact z_hart)
    | ((with_reducible refine wpList_newG (z := .agg HV.zero.ca) (w.heap.size + 1) ?_ HV.zero.ca ?_ ?_ ?_); simp; rfl; exact z_hart)
    | ((with_reducible refine wpL_loadH (d := some 16) (x := .tmp 7) (w.heap.size + 1) ?_ (rs2H pc a0 a1) ?_ ?_); rfl; exact HL.out)
    | (go_at_call 25; refine (HO.out _).mono ?_; rintro e w' ⟨rfl, hb⟩; have HW := C.hid ((hb.block w.heap.size (by simp; omega)).trans (heap2 _ _ _)); have HY := C.hid ((below2 _ _).trans (hb.mono (by simp; omega))); clear hb)
    | ((with_reducible refine wpL_storeH (x := .tmp 6) (y := .tmp 17) w.heap.size ?_ (rstH pc a0 a1) ?_ HV.zero.ca ?_ rfl ?_); rfl; rfl; exact HW.out))
  refine bodyPost_ret (ret_row Try.results29 w.heap.size (rstH pc a0 a1) rfl (heap_setRow _ _ _ _ _ HW.out)) rfl ⟨rfl, below_setRow HY.out (Nat.le_refl _) _⟩
end Go.Proofs.Yteafjobmlfkppaa
namespace Go.Proofs.Yteafjobmlfkppaa
open Go.RowKit
set_option linter.unusedVariables false

theorem hid {p : Prop} (h : p) : Hid p := h
theorem row_cellH {w : World} {b : Nat} {h : HV} (hb : w.heap[b]? = some (.cells h.ca 30 (0, 0))) (k : Nat) {v : Value} (hv : h.ca[k]? = some v) : w.cell? ⟨b, k, none⟩ = some v := by
  simp [World.cell?, hb, hv]
theorem row_fz {w : World} {b : Nat} {c : Array Value} {t : TypeId} (hb : w.heap[b]? = some (.cells c t (0, 0))) (k : Nat) : w.frozen? ⟨b, k, none⟩ = false := by
  simp [World.frozen?, hb]
theorem lt_of_row {w : World} {b : Nat} {o : Obj} (h : w.heap[b]? = some o) : b < w.heap.size := by
  rcases Nat.lt_or_ge b w.heap.size with q | q
  · exact q
  · rw [Array.getElem?_eq_none q] at h; cases h
theorem bT {a b c : World} (h : Below a.heap.size a b) (k : Below b.heap.size b c) : Below a.heap.size a c := h.trans (k.mono h.size)
theorem row_set {w : World} {b : Nat} {c : Array Value} {t : TypeId} {fr : Nat × Nat} (hb : w.heap[b]? = some (.cells c t fr)) (k : Nat) (v : Value) : (w.setCell ⟨b, k, none⟩ v).heap[b]? = some (.cells (c.setIfInBounds k v) t fr) := by
  simp [World.setCell, Array.getElem?_modify, hb]
def trapO (o : HV) (cause value pc : Int) : HV := { o with sepc := o.pc, scause := cause, stval := value, spp := !o.user, spie := o.on, on := false, user := false, pc := pc }
def trapPC (o : HV) (cause : Int) : Int := if 9223372036854775808 ≤ cause ∧ o.stvec % 2 = 1 then IntKind.u64.wrap (o.stvec / 4 * 4 + IntKind.u64.wrap (4 * (cause - 9223372036854775808))) else o.stvec / 4 * 4
theorem trap_ca (o : HV) (cause value pc : Int) : ((((((((o.ca.setIfInBounds 42 (.int .u64 o.pc)).setIfInBounds 43 (.int .u64 cause)).setIfInBounds 44 (.int .u64 value)).setIfInBounds 36 (.bool (!o.user))).setIfInBounds 35 (.bool o.on)).setIfInBounds 34 (.bool false)).setIfInBounds 33 (.bool false)).setIfInBounds 32 (.int .u64 pc)) = (trapO o cause value pc).ca := by simp [HV.ca, HV.cs, trapO]
theorem and64_b (x y : Int) : 0 ≤ bits .and .u64 x y ∧ bits .and .u64 x y < 18446744073709551616 := by
  unfold bits
  have e : ∀ z : Int, IntKind.u64.wrap z = z % 18446744073709551616 := fun z => by simp [IntKind.wrap, IntKind.bits, IntKind.signed]
  rw [e]; omega
theorem ordOk {h : HV} (ok : HOk h) : HOk (ordH h) := by
  have p := ok.pc; have s := ok.sepc; have t := ok.stvec
  exact ⟨fun r => by show 0 ≤ zx h.x r ∧ zx h.x r < 18446744073709551616; unfold zx; split; omega; exact ok.x r, by show 0 ≤ h.pc / 2 * 2 ∧ h.pc / 2 * 2 < 18446744073709551616; omega, by show 0 ≤ h.stvec / 4 * 4 + h.stvec % 2 ∧ h.stvec / 4 * 4 + h.stvec % 2 < 18446744073709551616; omega, ok.sscr, by show 0 ≤ h.sepc / 2 * 2 ∧ h.sepc / 2 * 2 < 18446744073709551616; omega, ok.scause, ok.stval, and64_b _ _, and64_b _ _, ok.satp, ok.resv⟩
theorem trap_ca9 (o : HV) (cause value pc0 pc : Int) : (((((((((o.ca.setIfInBounds 42 (.int .u64 o.pc)).setIfInBounds 43 (.int .u64 cause)).setIfInBounds 44 (.int .u64 value)).setIfInBounds 36 (.bool (!o.user))).setIfInBounds 35 (.bool o.on)).setIfInBounds 34 (.bool false)).setIfInBounds 33 (.bool false)).setIfInBounds 32 (.int .u64 pc0)).setIfInBounds 32 (.int .u64 pc)) = (trapO o cause value pc).ca := by simp [HV.ca, HV.cs, trapO]
theorem wrap_b (x : Int) : 0 ≤ IntKind.u64.wrap x ∧ IntKind.u64.wrap x < 18446744073709551616 := by
  have e : IntKind.u64.wrap x = x % 18446744073709551616 := by simp [IntKind.wrap, IntKind.bits, IntKind.signed]
  rw [e]; omega
def trapH (h : HV) (cause value : Int) : HV := ordH (trapO (ordH h) cause value (trapPC (ordH h) cause))
end Go.Proofs.Yteafjobmlfkppaa
namespace Go.Proofs.Yteafjobmlfkppaa
open Go.RowKit
set_option linter.unusedVariables false
set_option maxRecDepth 100000

def flg (t : Bool) (n : Int) : Int := if t = true then n else 0
def stF (o : HV) : Int := bits .or .u64 (bits .or .u64 (bits .or .u64 (bits .or .u64 (bits .or .u64 (flg o.on 2) (flg o.spie 32)) (flg o.spp 256)) (flg o.sum 262144)) (flg o.mxr 524288)) 8589934592
def stP (o : HV) : Int := bits .or .u64 (bits .or .u64 (bits .or .u64 (bits .or .u64 (bits .or .u64 8589934592 (flg o.on 2)) (flg o.spie 32)) (flg o.spp 256)) (flg o.sum 262144)) (flg o.mxr 524288)
theorem st_P (o : HV) : stP o = stF o := by
  unfold stP stF
  cases o.on <;> cases o.spie <;> cases o.spp <;> cases o.sum <;> cases o.mxr <;> rfl
theorem st_b (o : HV) : 0 ≤ stF o ∧ stF o < 18446744073709551616 := by
  unfold stF
  cases o.on <;> cases o.spie <;> cases o.spp <;> cases o.sum <;> cases o.mxr <;> decide
theorem heap1 (w : World) (o : Obj) : (w.alloc o).heap[w.heap.size]? = some o := heap_alloc_new w o
end Go.Proofs.Yteafjobmlfkppaa
namespace Go.Proofs.Yteafjobmlfkppaa
open Go.RowKit
set_option linter.unusedVariables false
set_option maxRecDepth 100000

theorem ret_row2 {fn : Func} {p u : Tmp} (hf : fn.results = #[.cell p 30, .tmp u]) {tmps : Array Value} {w : World} (g : Nat) (h : HV) (b : Bool) (hp : tmps.getD p undef = .pointer (some ⟨g, 0, none⟩)) (hb : tmps.getD u undef = .bool b) (hg : w.heap[g]? = some (.cells h.ca 30 (0, 0))) : (results fn tmps).run Try.prog w = .ok (.tuple #[h.v, .bool b]) w := by
  have hp' : tmps[p]?.getD undef = .pointer (some ⟨g, 0, none⟩) := by simpa using hp
  have hb' : tmps[u]?.getD undef = .bool b := by simpa using hb
  simp [results, hf, hp', hb', asAddr, run_loadVar_row w g 30 30 h.ca (0, 0) (.struct (Try.prog.fieldsOf 30)) hg u_hart rfl (by rw [s_hart]; rfl)]
theorem bits_b (op : BinOp) (x y : Int) : 0 ≤ bits op .u64 x y ∧ bits op .u64 x y < 18446744073709551616 := by
  have e : ∀ z : Int, IntKind.u64.wrap z = z % 18446744073709551616 := fun z => by simp [IntKind.wrap, IntKind.bits, IntKind.signed]
  unfold bits
  rw [e]; omega
def bt (v : Int) (k : Nat) : Bool := decide (v / 2 ^ k % 2 = 1)
def stO (o : HV) (v : Int) : HV := { o with on := bt v 1, spie := bt v 5, spp := bt v 8, sum := bt v 18, mxr := bt v 19 }
def saO (o : HV) (v : Int) : HV := if v / 1152921504606846976 = 0 ∨ v / 1152921504606846976 = 8 then { o with satp := v } else o
def sipV (o : HV) (v : Int) : Int := bits .or .u64 (bits .andNot .u64 o.sip 2) (bits .and .u64 v 2)
theorem stOk {o : HV} (ok : HOk o) (v : Int) : HOk (stO o v) := ⟨ok.x, ok.pc, ok.stvec, ok.sscr, ok.sepc, ok.scause, ok.stval, ok.sie, ok.sip, ok.satp, ok.resv⟩
theorem saOk {o : HV} (ok : HOk o) (v : Int) (r : 0 ≤ v ∧ v < 18446744073709551616) : HOk (saO o v) := by
  unfold saO
  split
  · exact ⟨ok.x, ok.pc, ok.stvec, ok.sscr, ok.sepc, ok.scause, ok.stval, ok.sie, ok.sip, r, ok.resv⟩
  · exact ok
theorem st_ca (o : HV) (v : Int) : (((((o.ca.setIfInBounds 34 (.bool (bt v 1))).setIfInBounds 35 (.bool (bt v 5))).setIfInBounds 36 (.bool (bt v 8))).setIfInBounds 37 (.bool (bt v 18))).setIfInBounds 38 (.bool (bt v 19))) = (stO o v).ca := rfl
theorem and_pow (v : Int) (r : 0 ≤ v ∧ v < 18446744073709551616) (k : Nat) (hk : k < 64) : bits .and .u64 v ((2 ^ k : Nat) : Int) = if v / ((2 ^ k : Nat) : Int) % 2 = 1 then ((2 ^ k : Nat) : Int) else 0 := by
  obtain ⟨n, rfl⟩ := Int.eq_ofNat_of_zero_le r.1
  have hp : 2 ^ k < 2 ^ 64 := Nat.pow_lt_pow_right (by omega) hk
  have e : bits .and .u64 (n : Int) ((2 ^ k : Nat) : Int) = ((n &&& 2 ^ k : Nat) : Int) := u64_and_nat n (2 ^ k) (by omega) (by omega)
  rw [e]
  have p1 : 0 < 2 ^ k := Nat.two_pow_pos k
  have d : (n &&& 2 ^ k) / 2 ^ k = n / 2 ^ k % 2 := by
    rw [Nat.and_div_two_pow, Nat.div_self p1, Nat.and_one_is_mod]
  have m : (n &&& 2 ^ k) % 2 ^ k = 0 := by
    rw [Nat.and_mod_two_pow, Nat.mod_self, Nat.and_zero]
  have a := Nat.div_add_mod (n &&& 2 ^ k) (2 ^ k)
  rw [d, m] at a
  by_cases q : n / 2 ^ k % 2 = 1
  · rw [if_pos (by exact_mod_cast q)]; rw [q] at a; rw [← a]; simp
  · rw [if_neg (by exact_mod_cast q)]; rw [show n / 2 ^ k % 2 = 0 by omega] at a; rw [← a]; simp
theorem an_1 (v : Int) (r : 0 ≤ v ∧ v < 18446744073709551616) : bits .and .u64 v 2 = flg (bt v 1) 2 := by
  have := and_pow v r 1 (by omega)
  simp only [show ((2 ^ 1 : Nat) : Int) = 2 by decide] at this
  rw [this]
  unfold flg bt
  simp only [show (2 : Int) ^ 1 = 2 by decide]
  by_cases q : v / 2 % 2 = 1 <;> simp [q]
theorem ne_1 (b : Bool) : decide (flg b 2 ≠ 0) = b := by cases b <;> rfl
theorem an_5 (v : Int) (r : 0 ≤ v ∧ v < 18446744073709551616) : bits .and .u64 v 32 = flg (bt v 5) 32 := by
  have := and_pow v r 5 (by omega)
  simp only [show ((2 ^ 5 : Nat) : Int) = 32 by decide] at this
  rw [this]
  unfold flg bt
  simp only [show (2 : Int) ^ 5 = 32 by decide]
  by_cases q : v / 32 % 2 = 1 <;> simp [q]
theorem ne_5 (b : Bool) : decide (flg b 32 ≠ 0) = b := by cases b <;> rfl
theorem an_8 (v : Int) (r : 0 ≤ v ∧ v < 18446744073709551616) : bits .and .u64 v 256 = flg (bt v 8) 256 := by
  have := and_pow v r 8 (by omega)
  simp only [show ((2 ^ 8 : Nat) : Int) = 256 by decide] at this
  rw [this]
  unfold flg bt
  simp only [show (2 : Int) ^ 8 = 256 by decide]
  by_cases q : v / 256 % 2 = 1 <;> simp [q]
theorem ne_8 (b : Bool) : decide (flg b 256 ≠ 0) = b := by cases b <;> rfl
theorem an_18 (v : Int) (r : 0 ≤ v ∧ v < 18446744073709551616) : bits .and .u64 v 262144 = flg (bt v 18) 262144 := by
  have := and_pow v r 18 (by omega)
  simp only [show ((2 ^ 18 : Nat) : Int) = 262144 by decide] at this
  rw [this]
  unfold flg bt
  simp only [show (2 : Int) ^ 18 = 262144 by decide]
  by_cases q : v / 262144 % 2 = 1 <;> simp [q]
theorem ne_18 (b : Bool) : decide (flg b 262144 ≠ 0) = b := by cases b <;> rfl
theorem an_19 (v : Int) (r : 0 ≤ v ∧ v < 18446744073709551616) : bits .and .u64 v 524288 = flg (bt v 19) 524288 := by
  have := and_pow v r 19 (by omega)
  simp only [show ((2 ^ 19 : Nat) : Int) = 524288 by decide] at this
  rw [this]
  unfold flg bt
  simp only [show (2 : Int) ^ 19 = 524288 by decide]
  by_cases q : v / 524288 % 2 = 1 <;> simp [q]
theorem ne_19 (b : Bool) : decide (flg b 524288 ≠ 0) = b := by cases b <;> rfl
def pu_sie (o : HV) (n : Int) : HV := { o with sie := n }
theorem ca_sie (o : HV) (n : Int) : o.ca.setIfInBounds 45 (.int .u64 n) = (pu_sie o n).ca := rfl
theorem ok_sie {o : HV} (ok : HOk o) (n : Int) (r : 0 ≤ n ∧ n < 18446744073709551616) : HOk (pu_sie o n) := ⟨ok.x, ok.pc, ok.stvec, ok.sscr, ok.sepc, ok.scause, ok.stval, r, ok.sip, ok.satp, ok.resv⟩
def pu_stvec (o : HV) (n : Int) : HV := { o with stvec := n }
theorem ca_stvec (o : HV) (n : Int) : o.ca.setIfInBounds 40 (.int .u64 n) = (pu_stvec o n).ca := rfl
theorem ok_stvec {o : HV} (ok : HOk o) (n : Int) (r : 0 ≤ n ∧ n < 18446744073709551616) : HOk (pu_stvec o n) := ⟨ok.x, ok.pc, r, ok.sscr, ok.sepc, ok.scause, ok.stval, ok.sie, ok.sip, ok.satp, ok.resv⟩
def pu_sscr (o : HV) (n : Int) : HV := { o with sscr := n }
theorem ca_sscr (o : HV) (n : Int) : o.ca.setIfInBounds 41 (.int .u64 n) = (pu_sscr o n).ca := rfl
theorem ok_sscr {o : HV} (ok : HOk o) (n : Int) (r : 0 ≤ n ∧ n < 18446744073709551616) : HOk (pu_sscr o n) := ⟨ok.x, ok.pc, ok.stvec, r, ok.sepc, ok.scause, ok.stval, ok.sie, ok.sip, ok.satp, ok.resv⟩
def pu_sepc (o : HV) (n : Int) : HV := { o with sepc := n }
theorem ca_sepc (o : HV) (n : Int) : o.ca.setIfInBounds 42 (.int .u64 n) = (pu_sepc o n).ca := rfl
theorem ok_sepc {o : HV} (ok : HOk o) (n : Int) (r : 0 ≤ n ∧ n < 18446744073709551616) : HOk (pu_sepc o n) := ⟨ok.x, ok.pc, ok.stvec, ok.sscr, r, ok.scause, ok.stval, ok.sie, ok.sip, ok.satp, ok.resv⟩
def pu_scause (o : HV) (n : Int) : HV := { o with scause := n }
theorem ca_scause (o : HV) (n : Int) : o.ca.setIfInBounds 43 (.int .u64 n) = (pu_scause o n).ca := rfl
theorem ok_scause {o : HV} (ok : HOk o) (n : Int) (r : 0 ≤ n ∧ n < 18446744073709551616) : HOk (pu_scause o n) := ⟨ok.x, ok.pc, ok.stvec, ok.sscr, ok.sepc, r, ok.stval, ok.sie, ok.sip, ok.satp, ok.resv⟩
def pu_stval (o : HV) (n : Int) : HV := { o with stval := n }
theorem ca_stval (o : HV) (n : Int) : o.ca.setIfInBounds 44 (.int .u64 n) = (pu_stval o n).ca := rfl
theorem ok_stval {o : HV} (ok : HOk o) (n : Int) (r : 0 ≤ n ∧ n < 18446744073709551616) : HOk (pu_stval o n) := ⟨ok.x, ok.pc, ok.stvec, ok.sscr, ok.sepc, ok.scause, r, ok.sie, ok.sip, ok.satp, ok.resv⟩
def pu_sip (o : HV) (n : Int) : HV := { o with sip := n }
theorem ca_sip (o : HV) (n : Int) : o.ca.setIfInBounds 46 (.int .u64 n) = (pu_sip o n).ca := rfl
theorem ok_sip {o : HV} (ok : HOk o) (n : Int) (r : 0 ≤ n ∧ n < 18446744073709551616) : HOk (pu_sip o n) := ⟨ok.x, ok.pc, ok.stvec, ok.sscr, ok.sepc, ok.scause, ok.stval, ok.sie, r, ok.satp, ok.resv⟩
def pu_satp (o : HV) (n : Int) : HV := { o with satp := n }
theorem ca_satp (o : HV) (n : Int) : o.ca.setIfInBounds 47 (.int .u64 n) = (pu_satp o n).ca := rfl
theorem ok_satp {o : HV} (ok : HOk o) (n : Int) (r : 0 ≤ n ∧ n < 18446744073709551616) : HOk (pu_satp o n) := ⟨ok.x, ok.pc, ok.stvec, ok.sscr, ok.sepc, ok.scause, ok.stval, ok.sie, ok.sip, r, ok.resv⟩
theorem ca_sipV (o : HV) (v : Int) : o.ca.setIfInBounds 46 (.int .u64 (bits .or .u64 (bits .andNot .u64 o.sip 2) (bits .and .u64 v 2))) = (pu_sip o (sipV o v)).ca := rfl
end Go.Proofs.Yteafjobmlfkppaa
