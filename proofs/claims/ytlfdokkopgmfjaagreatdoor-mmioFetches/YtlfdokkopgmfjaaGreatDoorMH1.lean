/- A hart as a value; a hart in order. -/
import Derived.Test.YtlfdokkopgmfjaaGreatDoorProg
import Derived.Test.YtlfdokkopgmfjaaGreatDoorHQ
import Derived.WalkKit
import Derived.ProofKit
import Derived.Outline
import Derived.Laws.MathBits
import Derived.Laws.BitsAllLaws
import Derived.Laws.Rows
import Derived.Laws.Tables
namespace Go.Proofs.YtlfdokkopgmfjaaGreatDoor
open Go.RowKit
set_option linter.unusedVariables false
/-- a hart -/
structure HV where
  x : Nat → Int
  pc : Int
  user : Bool
  on : Bool
  spie : Bool
  spp : Bool
  sum : Bool
  mxr : Bool
  resd : Bool
  stvec : Int
  sscr : Int
  sepc : Int
  scause : Int
  stval : Int
  sie : Int
  sip : Int
  satp : Int
  resv : Int
def HV.cs (h : HV) : List Value := [.int .u64 (h.x 0), .int .u64 (h.x 1), .int .u64 (h.x 2), .int .u64 (h.x 3), .int .u64 (h.x 4), .int .u64 (h.x 5), .int .u64 (h.x 6), .int .u64 (h.x 7), .int .u64 (h.x 8), .int .u64 (h.x 9), .int .u64 (h.x 10), .int .u64 (h.x 11), .int .u64 (h.x 12), .int .u64 (h.x 13), .int .u64 (h.x 14), .int .u64 (h.x 15), .int .u64 (h.x 16), .int .u64 (h.x 17), .int .u64 (h.x 18), .int .u64 (h.x 19), .int .u64 (h.x 20), .int .u64 (h.x 21), .int .u64 (h.x 22), .int .u64 (h.x 23), .int .u64 (h.x 24), .int .u64 (h.x 25), .int .u64 (h.x 26), .int .u64 (h.x 27), .int .u64 (h.x 28), .int .u64 (h.x 29), .int .u64 (h.x 30), .int .u64 (h.x 31), .int .u64 h.pc, .bool h.user, .bool h.on, .bool h.spie, .bool h.spp, .bool h.sum, .bool h.mxr, .bool h.resd, .int .u64 h.stvec, .int .u64 h.sscr, .int .u64 h.sepc, .int .u64 h.scause, .int .u64 h.stval, .int .u64 h.sie, .int .u64 h.sip, .int .u64 h.satp, .int .u64 h.resv]
def HV.ca (h : HV) : Array Value := h.cs.toArray
@[reducible] def HV.v (h : HV) : Value := .agg h.ca
def HV.zero : HV := ⟨fun _ => 0, 0, false, false, false, false, false, false, false, 0, 0, 0, 0, 0, 0, 0, 0, 0⟩
theorem z_hart : (Tryz.prog.info? 27).map (fun i => i.zero) = some (some (.agg HV.zero.ca)) := by kernel_rfl
theorem s_hart : (Tryz.prog.info? 27).map (·.size) = some 49 := by kernel_rfl
theorem u_hart : Tryz.prog.underlying 27 = some (.struct (Tryz.prog.fieldsOf 27)) := by kernel_rfl
theorem ca_one (h : HV) : h.ca.all (·.oneCell') = true := by simp [HV.ca, HV.cs, Value.oneCell']
/-- numbers of 64 bits -/
structure HOk (h : HV) : Prop where
  x : ∀ r, 0 ≤ h.x r ∧ h.x r < 18446744073709551616
  pc : 0 ≤ h.pc ∧ h.pc < 18446744073709551616
  stvec : 0 ≤ h.stvec ∧ h.stvec < 18446744073709551616
  sscr : 0 ≤ h.sscr ∧ h.sscr < 18446744073709551616
  sepc : 0 ≤ h.sepc ∧ h.sepc < 18446744073709551616
  scause : 0 ≤ h.scause ∧ h.scause < 18446744073709551616
  stval : 0 ≤ h.stval ∧ h.stval < 18446744073709551616
  sie : 0 ≤ h.sie ∧ h.sie < 18446744073709551616
  sip : 0 ≤ h.sip ∧ h.sip < 18446744073709551616
  satp : 0 ≤ h.satp ∧ h.satp < 18446744073709551616
  resv : 0 ≤ h.resv ∧ h.resv < 18446744073709551616
def zx (x : Nat → Int) (r : Nat) : Int := if r = 0 then 0 else x r
/-- the bits of interrupts alone -/
def ib (n : Int) : Int := bits .and .u64 n 546
def ordH (h : HV) : HV := { h with x := zx h.x, pc := h.pc / 2 * 2, sepc := h.sepc / 2 * 2, stvec := h.stvec / 4 * 4 + h.stvec % 2, sie := ib h.sie, sip := ib h.sip }
theorem wpList_new {P : Program} {ops : Array Oper} {rest : List Oper} {d : Option Nat} {ty e : TypeId} {pos : String} {after : Array Edge} {Q : Exit → Act → World → Prop} {a : Act} {w : World} {z : Value} (c : Array Value) (hc : z.cells = c)
    (hz : (P.info? e).map (fun i => i.zero) = some (some z)) (h : wpList P ops Q rest (a.put d (.pointer (some ⟨w.heap.size, 0, none⟩))) (w.alloc (.cells c e))) :
    wpList P ops Q ({ dst := d, op := Op.alloc e, type := ty, pos := pos, after := after, guard := none } :: rest) a w := by
  subst hc
  refine wpList_plain rfl fun K' hK' => ?_
  have hr : (Instr.alloc e true (.tuple #[])).run P w = .ok (.pointer (some ⟨w.heap.size, 0, none⟩)) (w.alloc (.cells z.cells e)) := by
    cases hq : P.info? e with
    | none => rw [hq] at hz; cases hz
    | some i =>
      have hi : i.zero = some z := by rw [hq] at hz; simpa using hz
      simp [Instr.alloc, zeroValue, typeInfo, hq, hi, newVar, newRow]
  unfold Oper.wp
  simp [execOp, hr, Result.andThen]
  exact hK' _ _ h
/-- a frame that is not there is made -/
theorem wpL_loadH {ops : Array Oper} {rest : List Oper} {d : Option Nat} {ty : TypeId} {x : Operand} {pos : String} {after : Array Edge} {Q : Exit → Act → World → Prop} {a : Act} {w : World} (g : Nat) (hx : a.eval x = .pointer (some ⟨g, 0, none⟩)) (h : HV)
    (hg : w.heap[g]? = some (.cells h.ca 27 (0, 0))) (hK : wpList Tryz.prog ops Q rest (a.put d h.v) w) :
    wpList Tryz.prog ops Q ({ dst := d, op := Op.load 27 x, type := ty, pos := pos, after := after, guard := none } :: rest) a w :=
  wpList_load_row rfl 27 x rfl g hx 27 _ (0, 0) (.struct (Tryz.prog.fieldsOf 27)) hg u_hart rfl (by rw [s_hart]; rfl) hK
theorem wpL_storeH {ops : Array Oper} {rest : List Oper} {d : Option Nat} {ty : TypeId} {x y : Operand} {pos : String} {after : Array Edge} {Q : Exit → Act → World → Prop} {a : Act} {w : World} (g : Nat) (hx : a.eval x = .pointer (some ⟨g, 0, none⟩)) (h : HV) (hy : a.eval y = h.v) (old : Array Value)
    (hg : w.heap[g]? = some (.cells old 27 (0, 0))) (ho : old.size = 49) (hK : wpList Tryz.prog ops Q rest (a.put d undef) (w.setRow g h.ca)) :
    wpList Tryz.prog ops Q ({ dst := d, op := Op.store 27 x y, type := ty, pos := pos, after := after, guard := none } :: rest) a w :=
  wpList_store_row rfl 27 x y rfl g _ hx hy 27 old hg (by rw [s_hart]; rfl) (by rw [ho]; rfl) (ca_one h) hK
theorem heap2 (w : World) (o o' : Obj) : ((w.alloc o).alloc o').heap[w.heap.size]? = some o := by
  show ((w.heap.push o).push o')[w.heap.size]? = some o
  simp [Array.getElem?_push]
theorem heap2' (w : World) (o o' : Obj) : ((w.alloc o).alloc o').heap[w.heap.size + 1]? = some o' := by
  have := heap_alloc_new (w.alloc o) o'
  simpa using this
theorem setRow_other (w : World) (g k : Nat) (cs : Array Value) (h : k ≠ g) : (w.setRow g cs).heap[k]? = w.heap[k]? := by
  unfold World.setRow
  simp [Array.getElem?_modify, Ne.symm h]
theorem below_setRow {B : Nat} {a w : World} (h : Below B a w) {g : Nat} (hg : B ≤ g) (c : Array Value) : Below B a (w.setRow g c) :=
  ⟨h.os, h.tape, h.output, by have := h.size; simpa [World.setRow] using this, fun k hk => (setRow_other w g k c (by omega)).trans (h.block k hk)⟩
theorem below2 {w : World} (o o' : Obj) : Below w.heap.size w ((w.alloc o).alloc o') := ((Below.refl _ _).alloc (Nat.le_refl _) o).alloc (by simp) _
theorem heap_setRow (w : World) (g : Nat) (c c' : Array Value) (t : TypeId) (h : w.heap[g]? = some (.cells c t (0, 0))) : (w.setRow g c').heap[g]? = some (.cells c' t (0, 0)) := by
  unfold World.setRow
  simp [Array.getElem?_modify, h]
theorem ret_row {fn : Func} {p : Tmp} (hf : fn.results = #[.cell p 27]) {tmps : Array Value} {w : World} (g : Nat) (h : HV) (hp : tmps.getD p undef = .pointer (some ⟨g, 0, none⟩)) (hg : w.heap[g]? = some (.cells h.ca 27 (0, 0))) : (results fn tmps).run Tryz.prog w = .ok h.v w :=
  results_cell_row hf tmps w g 27 h.ca (0, 0) (.struct (Tryz.prog.fieldsOf 27)) hp hg u_hart rfl (by rw [s_hart]; rfl)
theorem ord_ca (h : HV) : (((((h.ca.setIfInBounds 0 (.int .u64 0)).setIfInBounds 32 (.int .u64 (h.pc / 2 * 2))).setIfInBounds 42 (.int .u64 (h.sepc / 2 * 2))).setIfInBounds 40 (.int .u64 (h.stvec / 4 * 4 + h.stvec % 2))).setIfInBounds 45 (.int .u64 (bits .and .u64 h.sie 546))).setIfInBounds 46 (.int .u64 (bits .and .u64 h.sip 546)) = (ordH h).ca := rfl
set_option maxHeartbeats 1000000 in
set_option maxRecDepth 100000 in
theorem r_Order (h : HV) (ok : HOk h) (w : World) : Calls Tryz.prog 15 #[h.v] w fun e w' => e = .returned (ordH h).v ∧ Below w.heap.size w w' := by
  obtain ⟨p0, p1⟩ := ok.pc
  obtain ⟨s0, s1⟩ := ok.sepc
  obtain ⟨t0, t1⟩ := ok.stvec
  clear ok
  have sz : h.ca.size = 49 := rfl
  have c32 : ∀ p : 32 < h.ca.size, h.ca[32]'p = .int .u64 h.pc := fun _ => rfl
  have c40 : ∀ p : 40 < h.ca.size, h.ca[40]'p = .int .u64 h.stvec := fun _ => rfl
  have c42 : ∀ p : 42 < h.ca.size, h.ca[42]'p = .int .u64 h.sepc := fun _ => rfl
  have c45 : ∀ p : 45 < h.ca.size, h.ca[45]'p = .int .u64 h.sie := fun _ => rfl
  have c46 : ∀ p : 46 < h.ca.size, h.ca[46]'p = .int .u64 h.sip := fun _ => rfl
  go_enter Tryz.func15, Tryz.ntmps15
  go_wp2_with (first
    | ((with_reducible refine wpList_new (z := .agg HV.zero.ca) HV.zero.ca ?_ ?_ ?_); rfl; exact z_hart)
    | ((with_reducible refine wpL_loadH (x := .tmp 1) w.heap.size ?_ (ordH h) ?_ ?_); rfl; exact (heap2 _ _ _).trans (by rw [← ord_ca]))
    | ((with_reducible refine wpL_storeH (x := .tmp 2) (y := .tmp 32) (w.heap.size + 1) ?_ (ordH h) ?_ HV.zero.ca ?_ rfl ?_); rfl; rfl; exact heap2' _ _ _))
  refine bodyPost_ret (ret_row Tryz.results15 (w.heap.size + 1) (ordH h) rfl (heap_setRow _ _ _ _ _ (heap2' _ _ _))) rfl ⟨rfl, below_setRow (below2 _ _) (by omega) _⟩
end Go.Proofs.YtlfdokkopgmfjaaGreatDoor
namespace Go.Proofs.YtlfdokkopgmfjaaGreatDoor
open Go.RowKit
set_option linter.unusedVariables false
set_option maxRecDepth 100000
theorem not1 (a : Int) (h0 : 0 ≤ a) (h1 : a < 18446744073709551616) : bits .andNot .u64 a 1 = a / 2 * 2 := by
  obtain ⟨n, rfl⟩ := Int.eq_ofNat_of_zero_le h0
  have e := u64_andNot_nat n 1 (by omega) (by omega)
  have e' : bits .andNot .u64 (n : Int) 1 = ((n &&& 18446744073709551614 : Nat) : Int) := e
  rw [e']
  have d : (n &&& 18446744073709551614) / 2 = n / 2 := by
    have := Nat.and_div_two_pow (a := n) (b := 18446744073709551614) (n := 1)
    simp only [Nat.pow_one] at this
    rw [this]
    have := Nat.and_two_pow_sub_one_eq_mod (n / 2) 63
    simp only [show (18446744073709551614 : Nat) / 2 = 2 ^ 63 - 1 by decide, this]
    omega
  have m : (n &&& 18446744073709551614) % 2 = 0 := by
    have := Nat.and_mod_two_pow (a := n) (b := 18446744073709551614) (n := 1)
    simp only [Nat.pow_one] at this
    rw [this]
    simp
  omega
theorem not2 (a : Int) (h0 : 0 ≤ a) (h1 : a < 18446744073709551616) : bits .andNot .u64 a 2 = a / 4 * 4 + a % 2 := by
  obtain ⟨n, rfl⟩ := Int.eq_ofNat_of_zero_le h0
  have e := u64_andNot_nat n 2 (by omega) (by omega)
  have e' : bits .andNot .u64 (n : Int) 2 = ((n &&& 18446744073709551613 : Nat) : Int) := e
  rw [e']
  have d : (n &&& 18446744073709551613) / 4 = n / 4 := by
    have := Nat.and_div_two_pow (a := n) (b := 18446744073709551613) (n := 2)
    simp only [show (2 : Nat) ^ 2 = 4 by decide] at this
    rw [this]
    have := Nat.and_two_pow_sub_one_eq_mod (n / 4) 62
    simp only [show (18446744073709551613 : Nat) / 4 = 2 ^ 62 - 1 by decide, this]
    omega
  have m : (n &&& 18446744073709551613) % 4 = n % 2 := by
    have := Nat.and_mod_two_pow (a := n) (b := 18446744073709551613) (n := 2)
    simp only [show (2 : Nat) ^ 2 = 4 by decide] at this
    rw [this]
    have := Nat.and_two_pow_sub_one_eq_mod (n % 4) 1
    simp only [show (18446744073709551613 : Nat) % 4 = 2 ^ 1 - 1 by decide, this]
    omega
  omega
theorem inord_ca (h : HV) (ok : HOk h) : (((((h.ca.setIfInBounds 0 (.int .u64 0)).setIfInBounds 32 (.int .u64 (bits .andNot .u64 h.pc 1))).setIfInBounds 42 (.int .u64 (bits .andNot .u64 h.sepc 1))).setIfInBounds 40 (.int .u64 (bits .andNot .u64 h.stvec 2))).setIfInBounds 45 (.int .u64 (bits .and .u64 h.sie 546))).setIfInBounds 46 (.int .u64 (bits .and .u64 h.sip 546)) = (ordH h).ca := by
  rw [not1 _ ok.pc.1 ok.pc.2, not1 _ ok.sepc.1 ok.sepc.2, not2 _ ok.stvec.1 ok.stvec.2]
  exact ord_ca h
set_option maxHeartbeats 1000000 in
theorem m_inOrder (h : HV) (ok : HOk h) (w : World) : Calls Tryz.prog 50 #[h.v] w fun e w' => e = .returned (ordH h).v ∧ Below w.heap.size w w' := by
  have HC := inord_ca h ok
  clear ok
  have sz : h.ca.size = 49 := rfl
  have c32 : ∀ p : 32 < h.ca.size, h.ca[32]'p = .int .u64 h.pc := fun _ => rfl
  have c40 : ∀ p : 40 < h.ca.size, h.ca[40]'p = .int .u64 h.stvec := fun _ => rfl
  have c42 : ∀ p : 42 < h.ca.size, h.ca[42]'p = .int .u64 h.sepc := fun _ => rfl
  have c45 : ∀ p : 45 < h.ca.size, h.ca[45]'p = .int .u64 h.sie := fun _ => rfl
  have c46 : ∀ p : 46 < h.ca.size, h.ca[46]'p = .int .u64 h.sip := fun _ => rfl
  go_enter Tryz.func50, Tryz.ntmps50
  go_wp2_with (first
    | ((with_reducible refine wpList_new (z := .agg HV.zero.ca) HV.zero.ca ?_ ?_ ?_); rfl; exact z_hart)
    | ((with_reducible refine wpL_loadH (x := .tmp 1) w.heap.size ?_ (ordH h) ?_ ?_); rfl; exact (heap2 _ _ _).trans (by rw [← HC]))
    | ((with_reducible refine wpL_storeH (x := .tmp 2) (y := .tmp 25) (w.heap.size + 1) ?_ (ordH h) ?_ HV.zero.ca ?_ rfl ?_); rfl; rfl; exact heap2' _ _ _))
  refine bodyPost_ret (ret_row Tryz.results50 (w.heap.size + 1) (ordH h) rfl (heap_setRow _ _ _ _ _ (heap2' _ _ _))) rfl ⟨rfl, below_setRow (below2 _ _) (by omega) _⟩
end Go.Proofs.YtlfdokkopgmfjaaGreatDoor
