/- A step under way, as it stands in memory. -/
import Derived.Test.YtooagjndelbegaaGreatDoorMH1
import Derived.Test.YtooagjndelbegaaGreatDoorMB1
import Derived.Test.YtooagjndelbegaaGreatDoorMC1
import Derived.Laws.CopyRow
import Derived.Deep.RegionWith
import Derived.Defers
import Derived.Laws.Pointers
import Derived.Laws.LoneSync
import Derived.RegionTactic
import Derived.RegionCalls
import Derived.Laws.NewBlocks
import Derived.Great.BuildSlice
namespace Go.Proofs.YtooagjndelbegaaGreatDoor
open Go.RowKit
set_option linter.unusedVariables false
set_option maxRecDepth 100000

/-- an event -/
structure EV where
  kind : Int
  access : Int
  va : Int
  gpa : Int
  walk : Bool
  wrote : Bool
def EV.cs (e : EV) : List Value := [.int .i64 e.kind, .int .i64 e.access, .int .u64 e.va, .int .u64 e.gpa, .bool e.walk, .bool e.wrote]
def EV.zero : EV := ⟨0, 0, 0, 0, false, false⟩
@[reducible] def EV.v (e : EV) : Value := .agg #[.int .i64 e.kind, .int .i64 e.access, .int .u64 e.va, .int .u64 e.gpa, .bool e.walk, .bool e.wrote]
/-- a step -/
structure SV where
  core : Nat
  now : Int
  was : HV
  h : HV
  i : B.I
  bits : Int
  ev : EV
  pl : Int
  st : Int
def iCs (i : B.I) : List Value := [.int .i64 i.kind, .int .i64 i.fn, .int .i64 i.rd, .int .i64 i.rs1, .int .i64 i.rs2, .int .i64 i.imm, .int .i64 i.size, .bool i.sg]
def SV.cs (s : SV) : List Value := .pointer (some ⟨s.core, 0, none⟩) :: .int .u64 s.now :: (s.was.cs ++ (s.h.cs ++ (iCs s.i ++ (.int .u64 s.bits :: (s.ev.cs ++ [.int .u64 s.pl, .int .u64 s.st])))))
def SV.ca (s : SV) : Array Value := s.cs.toArray
theorem SV.size (s : SV) : s.ca.size = 117 := rfl
theorem hv_one (h : HV) : h.cs.all (·.oneCell') = true := by simp [HV.cs, Value.oneCell']
theorem SV.one (s : SV) : s.ca.all (·.oneCell') = true := by
  simp only [SV.ca, SV.cs, List.all_toArray, List.all_cons, List.all_append, hv_one, iCs, EV.cs, List.all_nil]
  rfl
/-- it stands at block b -/
def St (w : World) (b : Nat) (s : SV) : Prop := w.heap[b]? = some (.cells s.ca 89 (0, 0))
theorem St.c {w : World} {b : Nat} {s : SV} (h : St w b s) (k : Nat) : w.cell? ⟨b, k, none⟩ = s.ca[k]? := cell_of_row w b k s.ca 89 (0, 0) h
theorem St.f {w : World} {b : Nat} {s : SV} (h : St w b s) (k : Nat) : w.frozen? ⟨b, k, none⟩ = false := by unfold St at h; simp [World.frozen?, h]
theorem St.lt {w : World} {b : Nat} {s : SV} (h : St w b s) : b < w.heap.size := lt_of_block h
theorem St.only {w w' : World} {b : Nat} {s : SV} (h : St w b s) {T : Nat → Prop} (ho : C.Only T w w') (hb : ¬ T b) : St w' b s := ho.old h hb
theorem St.below {w w' : World} {b : Nat} {s : SV} (h : St w b s) (hb : Below w.heap.size w w') : St w' b s := (hb.block b h.lt).trans h
theorem St.drewN {w : World} {b : Nat} {s : SV} (h : St w b s) (n : Nat) : St (w.drewN n) b s := h
theorem setCell_row (w : World) (g k : Nat) (cs cs' : Array Value) (t : TypeId) (v : Value) (hg : w.heap[g]? = some (.cells cs t (0, 0))) (he : cs.setIfInBounds k v = cs') : (w.setCell ⟨g, k, none⟩ v).heap[g]? = some (.cells cs' t (0, 0)) := by
  rw [setCell_eq_setRow w g k cs t (0, 0) v hg, he]
  exact setRow_heap w g cs _ t _ hg
theorem St.set {w : World} {b : Nat} {s s' : SV} (h : St w b s) (k : Nat) (v : Value) (he : s.ca.setIfInBounds k v = s'.ca) : St (w.setCell ⟨b, k, none⟩ v) b s' := setCell_row w b k s.ca s'.ca 89 v h he
/-- one register turned -/
def upd (x : Nat → Int) (r : Nat) (v : Int) : Nat → Int := fun k => if k = r then v else x k

theorem hv_x (h : HV) : ∀ r, r < 32 → h.cs[r]? = some (.int .u64 (h.x r))
  | 0, _ => rfl
  | 1, _ => rfl
  | 2, _ => rfl
  | 3, _ => rfl
  | 4, _ => rfl
  | 5, _ => rfl
  | 6, _ => rfl
  | 7, _ => rfl
  | 8, _ => rfl
  | 9, _ => rfl
  | 10, _ => rfl
  | 11, _ => rfl
  | 12, _ => rfl
  | 13, _ => rfl
  | 14, _ => rfl
  | 15, _ => rfl
  | 16, _ => rfl
  | 17, _ => rfl
  | 18, _ => rfl
  | 19, _ => rfl
  | 20, _ => rfl
  | 21, _ => rfl
  | 22, _ => rfl
  | 23, _ => rfl
  | 24, _ => rfl
  | 25, _ => rfl
  | 26, _ => rfl
  | 27, _ => rfl
  | 28, _ => rfl
  | 29, _ => rfl
  | 30, _ => rfl
  | 31, _ => rfl
  | n + 32, q => absurd q (by omega)

theorem hv_set (h : HV) (v : Int) : ∀ r, r < 32 → h.cs.set r (.int .u64 v) = ({ h with x := upd h.x r v } : HV).cs
  | 0, _ => rfl
  | 1, _ => rfl
  | 2, _ => rfl
  | 3, _ => rfl
  | 4, _ => rfl
  | 5, _ => rfl
  | 6, _ => rfl
  | 7, _ => rfl
  | 8, _ => rfl
  | 9, _ => rfl
  | 10, _ => rfl
  | 11, _ => rfl
  | 12, _ => rfl
  | 13, _ => rfl
  | 14, _ => rfl
  | 15, _ => rfl
  | 16, _ => rfl
  | 17, _ => rfl
  | 18, _ => rfl
  | 19, _ => rfl
  | 20, _ => rfl
  | 21, _ => rfl
  | 22, _ => rfl
  | 23, _ => rfl
  | 24, _ => rfl
  | 25, _ => rfl
  | 26, _ => rfl
  | 27, _ => rfl
  | 28, _ => rfl
  | 29, _ => rfl
  | 30, _ => rfl
  | 31, _ => rfl
  | n + 32, q => absurd q (by omega)

theorem hv_len (h : HV) : h.cs.length = 49 := rfl
theorem SV.was_x (s : SV) (r : Nat) (q : r < 32) : s.ca[2 + r]? = some (.int .u64 (s.was.x r)) := by
  simp only [SV.ca, SV.cs, List.getElem?_toArray]
  rw [show 2 + r = r + 1 + 1 by omega, List.getElem?_cons_succ, List.getElem?_cons_succ, List.getElem?_append_left (by rw [hv_len]; omega)]
  exact hv_x _ _ q
theorem SV.h_x (s : SV) (r : Nat) (q : r < 32) : s.ca[51 + r]? = some (.int .u64 (s.h.x r)) := by
  simp only [SV.ca, SV.cs, List.getElem?_toArray]
  rw [show 51 + r = 49 + r + 1 + 1 by omega, List.getElem?_cons_succ, List.getElem?_cons_succ, List.getElem?_append_right (by rw [hv_len]; omega), hv_len, show 49 + r - 49 = r by omega, List.getElem?_append_left (by rw [hv_len]; omega)]
  exact hv_x _ _ q
theorem SV.set_x (s : SV) (r : Nat) (q : r < 32) (v : Int) : s.ca.setIfInBounds (51 + r) (.int .u64 v) = ({ s with h := { s.h with x := upd s.h.x r v } } : SV).ca := by
  simp only [SV.ca, SV.cs, List.setIfInBounds_toArray]
  rw [show 51 + r = 49 + r + 1 + 1 by omega, List.set_cons_succ, List.set_cons_succ, List.set_append_right _ _ (by rw [hv_len]; omega), hv_len, show 49 + r - 49 = r by omega, List.set_append_left _ _ (by rw [hv_len]; omega), hv_set _ _ _ q]
/-- loads and stores of a part of a block -/
theorem run_loadVar_sub {P : Program} (w : World) (g off : Nat) (t ty : TypeId) (cs sub : Array Value) (fr : Nat × Nat) (d : TypeDesc) (hg : w.heap[g]? = some (.cells cs t fr))
    (hs : ∀ j v, sub.toList[j]? = some v → cs[off + j]? = some v) (hu : P.underlying ty = some d) (hd : (match d with | .struct _ | .array _ _ => true | _ => false) = true) (hi : (P.info? ty).map (·.size) = some sub.size) :
    (loadVar ty ⟨g, off, none⟩).run P w = .ok (.agg sub) w := by
  have hl : (loadCells ⟨g, off, none⟩ sub.toList.length).run P w = .ok sub.toList.toArray w :=
    run_loadCells_list (P := P) w ⟨g, off, none⟩ sub.toList (fun j v hv => by
      have hadd : (⟨g, off, none⟩ : Addr).add j = ⟨g, off + j, none⟩ := by unfold Addr.add; split <;> simp_all
      rw [hadd, cell_of_row w g (off + j) cs t fr hg]
      exact hs j v hv)
  cases hq : P.info? ty with
  | none => simp [hq] at hi
  | some i =>
    have hs : i.size = sub.size := by simpa [hq] using hi
    have hagg : (isAgg ty).run P w = .ok true w := by
      unfold isAgg
      rw [Sem.run_bind, run_underlying hu w]
      cases d <;> simp_all
    simp only [Array.length_toList, Array.toArray_toList] at hl
    simp [loadVar, Sem.run_bind, hagg, sizeOf, typeInfo, hq, hs, hl]
theorem run_storeVar_sub {P : Program} (w : World) (g off : Nat) (t ty : TypeId) (cs sub new : Array Value) (hg : w.heap[g]? = some (.cells cs t (0, 0)))
    (hn : (cs.toList.take off ++ sub.toList ++ cs.toList.drop (off + sub.toList.length)).toArray = new) (hl : off + sub.toList.length ≤ cs.size) (h1 : sub.all (·.oneCell') = true) (hi : (P.info? ty).map (·.size) = some sub.size) :
    (storeVar ty ⟨g, off, none⟩ (.agg sub)).run P w = .ok () (w.setRow g new) := by
  have hst := run_storeCells_at P g off t sub.toList 0 cs w hg (by simpa using hl) (fun v hv => by have := Array.all_eq_true_iff_forall_mem.1 h1 v (by simpa using hv); exact this)
  simp only [Nat.add_zero] at hst
  rw [hn] at hst
  cases hq : P.info? ty with
  | none => simp [hq] at hi
  | some i =>
    have hs : i.size = sub.size := by simpa [hq] using hi
    have hc : (Value.agg sub).cells = sub := rfl
    simp [storeVar, sizeOf, typeInfo, hq, hs, hc, hst]
theorem wpList_load_sub {P : Program} {ops : Array Oper} {rest : List Oper} {o : Oper} {a : Act} {w : World} {Q : Exit → Act → World → Prop} (hgd : o.guard = none) (ty : TypeId) (x : Operand) (ho : o.op = .load ty x)
    (g off : Nat) (hx : a.eval x = .pointer (some ⟨g, off, none⟩)) (t : TypeId) (cs sub : Array Value) (fr : Nat × Nat) (d : TypeDesc) (hg : w.heap[g]? = some (.cells cs t fr))
    (hs : ∀ j v, sub.toList[j]? = some v → cs[off + j]? = some v) (hu : P.underlying ty = some d) (hd : (match d with | .struct _ | .array _ _ => true | _ => false) = true) (hi : (P.info? ty).map (·.size) = some sub.size)
    (h : wpList P ops Q rest (a.put o.dst (.agg sub)) w) : wpList P ops Q (o :: rest) a w :=
  wpList_plain hgd fun _ hK => by
    unfold Oper.wp execOp
    simp only [ho, hx, Instr.loadAt, Instr.sureAddr, Sem.run_bind, Sem.run_pure, Result.andThen_ok, run_loadVar_sub w g off t ty cs sub fr d hg hs hu hd hi]
    exact hK _ _ h
theorem wpList_store_sub {P : Program} {ops : Array Oper} {rest : List Oper} {o : Oper} {a : Act} {w : World} {Q : Exit → Act → World → Prop} (hgd : o.guard = none) (ty : TypeId) (x y : Operand) (ho : o.op = .store ty x y)
    (g off : Nat) (hx : a.eval x = .pointer (some ⟨g, off, none⟩)) (t : TypeId) (cs sub new : Array Value) (hy : a.eval y = .agg sub) (hg : w.heap[g]? = some (.cells cs t (0, 0)))
    (hn : (cs.toList.take off ++ sub.toList ++ cs.toList.drop (off + sub.toList.length)).toArray = new) (hl : off + sub.toList.length ≤ cs.size) (h1 : sub.all (·.oneCell') = true) (hi : (P.info? ty).map (·.size) = some sub.size)
    (h : wpList P ops Q rest (a.put o.dst undef) (w.setRow g new)) : wpList P ops Q (o :: rest) a w :=
  wpList_plain hgd fun _ hK => by
    unfold Oper.wp execOp
    simp only [ho, hx, hy, Instr.storeAt, Instr.sureAddr, Sem.run_bind, Sem.run_pure, Result.andThen_ok, run_storeVar_sub w g off t ty cs sub new hg hn hl h1 hi]
    exact hK _ _ h
theorem wpL_store_sub {P : Program} {ops : Array Oper} {rest : List Oper} {d : Option Nat} {ty tt : TypeId} {x y : Operand} {pos : String} {after : Array Edge} {a : Act} {w : World} {Q : Exit → Act → World → Prop}
    (g off : Nat) (t : TypeId) (cs sub new : Array Value) (hx : a.eval x = .pointer (some ⟨g, off, none⟩)) (hy : a.eval y = .agg sub) (hg : w.heap[g]? = some (.cells cs t (0, 0)))
    (hn : (cs.toList.take off ++ sub.toList ++ cs.toList.drop (off + sub.toList.length)).toArray = new) (hl : off + sub.toList.length ≤ cs.size) (h1 : sub.all (·.oneCell') = true) (hi : (P.info? ty).map (·.size) = some sub.size)
    (h : wpList P ops Q rest (a.put d undef) (w.setRow g new)) : wpList P ops Q ({ dst := d, op := Op.store ty x y, type := tt, pos := pos, after := after, guard := none } :: rest) a w :=
  wpList_store_sub rfl ty x y rfl g off hx t cs sub new hy hg hn hl h1 hi h
theorem wpL_load_sub {P : Program} {ops : Array Oper} {rest : List Oper} {d : Option Nat} {ty tt : TypeId} {x : Operand} {pos : String} {after : Array Edge} {a : Act} {w : World} {Q : Exit → Act → World → Prop}
    (g off : Nat) (t : TypeId) (cs sub : Array Value) (td : TypeDesc) (hx : a.eval x = .pointer (some ⟨g, off, none⟩)) (hg : w.heap[g]? = some (.cells cs t (0, 0)))
    (hs : ∀ j v, sub.toList[j]? = some v → cs[off + j]? = some v) (hu : P.underlying ty = some td) (hd : (match td with | .struct _ | .array _ _ => true | _ => false) = true) (hi : (P.info? ty).map (·.size) = some sub.size)
    (h : wpList P ops Q rest (a.put d (.agg sub)) w) : wpList P ops Q ({ dst := d, op := Op.load ty x, type := tt, pos := pos, after := after, guard := none } :: rest) a w :=
  wpList_load_sub rfl ty x rfl g off hx t cs sub (0, 0) td hg hs hu hd hi h
theorem take_was (s : SV) : s.cs.take 51 = .pointer (some ⟨s.core, 0, none⟩) :: .int .u64 s.now :: s.was.cs := rfl
theorem sto_i (s : SV) (i : B.I) : (s.ca.toList.take 100 ++ iCs i ++ s.ca.toList.drop (100 + (iCs i).length)).toArray = ({ s with i := i } : SV).ca := rfl
theorem sto_h (s : SV) (h : HV) : (s.ca.toList.take 51 ++ h.cs ++ s.ca.toList.drop (51 + h.cs.length)).toArray = ({ s with h := h } : SV).ca := rfl
theorem sto_e (s : SV) (e : EV) : (s.ca.toList.take 109 ++ e.cs ++ s.ca.toList.drop (109 + e.cs.length)).toArray = ({ s with ev := e } : SV).ca := rfl
theorem was_sub (s : SV) : ∀ j v, s.was.ca.toList[j]? = some v → s.ca[2 + j]? = some v := by
  intro j v hv
  have hj : j < 49 := by
    have := (List.getElem?_eq_some_iff.1 hv).1
    simpa [HV.ca, hv_len] using this
  simp only [HV.ca] at hv
  simp only [SV.ca, SV.cs, List.getElem?_toArray]
  rw [show 2 + j = j + 1 + 1 by omega, List.getElem?_cons_succ, List.getElem?_cons_succ, List.getElem?_append_left (by rw [hv_len]; omega)]
  exact hv
theorem h_sub (s : SV) : ∀ j v, s.h.ca.toList[j]? = some v → s.ca[51 + j]? = some v := by
  intro j v hv
  have hj : j < 49 := by
    have := (List.getElem?_eq_some_iff.1 hv).1
    simpa [HV.ca, hv_len] using this
  simp only [HV.ca] at hv
  simp only [SV.ca, SV.cs, List.getElem?_toArray]
  rw [show 51 + j = 49 + j + 1 + 1 by omega, List.getElem?_cons_succ, List.getElem?_cons_succ, List.getElem?_append_right (by rw [hv_len]; omega), hv_len, show 49 + j - 49 = j by omega, List.getElem?_append_left (by rw [hv_len]; omega)]
  exact hv
end Go.Proofs.YtooagjndelbegaaGreatDoor
namespace Go.Proofs.YtooagjndelbegaaGreatDoor
open Go.RowKit
open C (Only)
set_option linter.unusedVariables false

/-- an instruction whose registers are registers -/
structure IOk (i : B.I) : Prop where
  rd : 0 ≤ i.rd ∧ i.rd < 32
  rs1 : 0 ≤ i.rs1 ∧ i.rs1 < 32
  rs2 : 0 ≤ i.rs2 ∧ i.rs2 < 32
  imm : -9223372036854775808 ≤ i.imm ∧ i.imm ≤ 9223372036854775807
theorem only_dn {S : Nat → Prop} {a w : World} (h : Only S a w) (n : Nat) : Only S a (w.drewN n) := ⟨h.os, h.tape, h.output, h.size, h.block⟩
def rg (x : Nat → Int) (r : Int) : Int := x r.toNat
theorem m_x (w : World) (b : Nat) (s : SV) (h : St w b s) (ok : IOk s.i) : Calls Tryz.prog 179 #[.pointer (some ⟨b, 0, none⟩)] w fun e w' => e = .returned (.int .u64 (rg s.was.x s.i.rs1)) ∧ ∃ n, w' = w.drewN n := by
  obtain ⟨q0, q1⟩ := ok.rs1
  have c0 : w.cell? ⟨b, 103, none⟩ = some (.int .i64 s.i.rs1) := h.c 103
  have c1 : w.cell? ⟨b, 2 + s.i.rs1.toNat, none⟩ = some (.int .u64 (rg s.was.x s.i.rs1)) := (h.c _).trans (s.was_x _ (by omega))
  go_enter Tryz.func179, Tryz.ntmps179
  go_wp2
  go_quiet (fail)
  go_wp2
  go_ret
  exact ⟨rfl, _, rfl⟩
theorem m_y (w : World) (b : Nat) (s : SV) (h : St w b s) (ok : IOk s.i) : Calls Tryz.prog 181 #[.pointer (some ⟨b, 0, none⟩)] w fun e w' => e = .returned (.int .u64 (rg s.was.x s.i.rs2)) ∧ ∃ n, w' = w.drewN n := by
  obtain ⟨q0, q1⟩ := ok.rs2
  have c0 : w.cell? ⟨b, 104, none⟩ = some (.int .i64 s.i.rs2) := h.c 104
  have c1 : w.cell? ⟨b, 2 + s.i.rs2.toNat, none⟩ = some (.int .u64 (rg s.was.x s.i.rs2)) := (h.c _).trans (s.was_x _ (by omega))
  go_enter Tryz.func181, Tryz.ntmps181
  go_wp2
  go_quiet (fail)
  go_wp2
  go_ret
  exact ⟨rfl, _, rfl⟩
/-- a number of 64 bits -/
def u6 (n : Int) : Int := n % 18446744073709551616
theorem m_imm (w : World) (b : Nat) (s : SV) (h : St w b s) (ok : IOk s.i) : Calls Tryz.prog 177 #[.pointer (some ⟨b, 0, none⟩)] w fun e w' => e = .returned (.int .u64 (u6 s.i.imm)) ∧ w' = w := by
  have c0 : w.cell? ⟨b, 105, none⟩ = some (.int .i64 s.i.imm) := h.c 105
  go_enter Tryz.func177, Tryz.ntmps177
  go_wp2
  go_ret
  exact ⟨rfl, rfl⟩
/-- the register that is written -/
def setX (x : Nat → Int) (r v : Int) : Nat → Int := if r = 0 then x else upd x r.toNat v
theorem m_set (w : World) (b : Nat) (s : SV) (h : St w b s) (ok : IOk s.i) (v : Int) (v0 : 0 ≤ v) (v1 : v < 18446744073709551616) :
    Calls Tryz.prog 176 #[.pointer (some ⟨b, 0, none⟩), .int .u64 v] w fun e w' => e = .returned (.tuple #[]) ∧ St w' b { s with h := { s.h with x := setX s.h.x s.i.rd v } } ∧ Only (· = b) w w' := by
  obtain ⟨q0, q1⟩ := ok.rd
  have c0 : w.cell? ⟨b, 102, none⟩ = some (.int .i64 s.i.rd) := h.c 102
  have c1 : w.cell? ⟨b, 51 + s.i.rd.toNat, none⟩ = some (.int .u64 (rg s.h.x s.i.rd)) := (h.c _).trans (s.h_x _ (by omega))
  have f1 : w.frozen? ⟨b, 51 + s.i.rd.toNat, none⟩ = false := h.f _
  go_enter Tryz.func176, Tryz.ntmps176
  by_cases e : s.i.rd = 0
  · rw [e] at c0
    go_wp2
    go_end0
    refine ⟨rfl, ?_, .refl w⟩
    simp only [setX, e, if_true]
    exact h
  · go_wp2
    refine wp_region_last_lit (by simp) (by kernel_rfl) (by kernel_rfl) (by kernel_rfl) ?_
    simp only [List.dropLast, List.getLast]
    repeat (go_big_quiet_step (fail))
    refine wpQuiet_nil ?_
    intro _ hwq
    obtain ⟨nq, hwq⟩ := hwq
    subst hwq
    go_wp2
    go_end0
    refine ⟨rfl, ?_, (only_dn (Only.refl (S := (· = b)) w) _).setCell (.inl rfl) _⟩
    simp only [setX, e, if_false]
    exact (h.drewN _).set _ _ (s.set_x _ (by omega) _)
end Go.Proofs.YtooagjndelbegaaGreatDoor
namespace Go.Proofs.YtooagjndelbegaaGreatDoor
open Go.RowKit Go.ChangeMaps Go.MapKept
open C (Only)
set_option linter.unusedVariables false
set_option maxRecDepth 100000

/-- a core: its memory, its TLB, its root and VMID -/
structure CV where
  m : Nat
  t : Nat
  root : Int
  vmid : Int
def CV.cells (c : CV) (d s : Int) (k : Value) : Array Value := #[.pointer (some ⟨c.m, 0, none⟩), .pointer (some ⟨c.t, 0, none⟩), .int .u64 c.root, .int .i64 c.vmid, .int .u32 d, .int .i32 s, .int .u32 0, k]
def kL : List MapEntry := [⟨.int .i64 1, .func (.func 135) #[] #[], 0⟩, ⟨.int .i64 2, .func (.func 136) #[] #[], 1⟩, ⟨.int .i64 3, .func (.func 137) #[] #[], 2⟩, ⟨.int .i64 4, .func (.func 138) #[] #[], 3⟩, ⟨.int .i64 5, .func (.func 139) #[] #[], 4⟩, ⟨.int .i64 6, .func (.func 140) #[] #[], 5⟩, ⟨.int .i64 7, .func (.func 141) #[] #[], 6⟩, ⟨.int .i64 8, .func (.func 142) #[] #[], 7⟩, ⟨.int .i64 9, .func (.func 143) #[] #[], 8⟩, ⟨.int .i64 10, .func (.func 144) #[] #[], 9⟩, ⟨.int .i64 11, .func (.func 145) #[] #[], 10⟩, ⟨.int .i64 12, .func (.func 146) #[] #[], 11⟩, ⟨.int .i64 13, .func (.func 147) #[] #[], 12⟩, ⟨.int .i64 14, .func (.func 148) #[] #[], 13⟩, ⟨.int .i64 15, .func (.func 149) #[] #[], 14⟩, ⟨.int .i64 16, .func (.func 150) #[] #[], 15⟩, ⟨.int .i64 17, .func (.func 151) #[] #[], 16⟩, ⟨.int .i64 18, .func (.func 152) #[] #[], 17⟩, ⟨.int .i64 19, .func (.func 153) #[] #[], 18⟩, ⟨.int .i64 20, .func (.func 154) #[] #[], 19⟩]
def kE (n : Nat) : Array MapEntry := (kL.take n).toArray
def kObj : Obj := .map (kE 20) 20
/-- what a kind does -/
def kF (k : Int) : Value := ((kL[(k - 1).toNat]?).map (·.val)).getD .nilFunc
/-- a core at block c, its table made or not -/
def Cr (w : World) (c : Nat) (v : CV) : Prop := w.heap[c]? = some (.cells (v.cells 0 0 (.map none)) 118 (0, 0)) ∨ ∃ M, w.heap[c]? = some (.cells (v.cells 1 0 (.map (some M))) 118 (0, 0)) ∧ w.heap[M]? = some kObj
theorem Cr.blk {w : World} {c : Nat} {v : CV} (h : Cr w c v) : ∃ d k, w.heap[c]? = some (.cells (v.cells d 0 k) 118 (0, 0)) := by
  rcases h with h | ⟨M, h, _⟩
  · exact ⟨_, _, h⟩
  · exact ⟨_, _, h⟩
theorem Cr.lt {w : World} {c : Nat} {v : CV} (h : Cr w c v) : c < w.heap.size := by obtain ⟨d, k, h⟩ := h.blk; exact lt_of_block h
theorem Cr.c {w : World} {c : Nat} {v : CV} (h : Cr w c v) : w.cell? ⟨c, 0, none⟩ = some (.pointer (some ⟨v.m, 0, none⟩)) ∧ w.cell? ⟨c, 1, none⟩ = some (.pointer (some ⟨v.t, 0, none⟩)) ∧ w.cell? ⟨c, 2, none⟩ = some (.int .u64 v.root) ∧ w.cell? ⟨c, 3, none⟩ = some (.int .i64 v.vmid) := by
  obtain ⟨d, k, h⟩ := h.blk
  exact ⟨cell_of_row w c 0 _ _ _ h, cell_of_row w c 1 _ _ _ h, cell_of_row w c 2 _ _ _ h, cell_of_row w c 3 _ _ _ h⟩
/-- no table is among what turns: cells alone -/
def CellsOnly (w : World) (T : Nat → Prop) : Prop := ∀ k, T k → ∃ c t f, w.heap[k]? = some (.cells c t f)
theorem Cr.only {w w' : World} {c : Nat} {v : CV} (h : Cr w c v) {T : Nat → Prop} (ho : Only T w w') (hc : ¬ T c) (hT : CellsOnly w T) : Cr w' c v := by
  rcases h with h | ⟨M, h, k⟩
  · exact .inl (ho.old h hc)
  · refine .inr ⟨M, ho.old h hc, ho.old k fun q => ?_⟩
    obtain ⟨a, b, d, e⟩ := hT M q
    rw [k] at e
    cases e
theorem Cr.below {w w' : World} {c : Nat} {v : CV} (h : Cr w c v) (hb : Below w.heap.size w w') : Cr w' c v := by
  rcases h with h | ⟨M, h, k⟩
  · exact .inl ((hb.block c (lt_of_block h)).trans h)
  · exact .inr ⟨M, (hb.block c (lt_of_block h)).trans h, (hb.block M (by rcases Nat.lt_or_ge M w.heap.size with q | q; exact q; rw [Array.getElem?_eq_none q] at k; cases k)).trans k⟩
theorem u_kmap : Tryz.prog.underlying 116 = some (.map 3 138) := by kernel_rfl
theorem u_kint : Tryz.prog.underlying 3 = some (.int .i64) := by kernel_rfl
/-- the table is made -/
theorem m_makeKinds (w : World) (c : Nat) (x : Value) (h7 : w.cell? ⟨c, 7, none⟩ = some x) (f7 : w.frozen? ⟨c, 7, none⟩ = false) (hc : c < w.heap.size) :
    Calls Tryz.prog 103 #[.pointer (some ⟨c, 0, none⟩)] w fun e w' => e = .returned (.tuple #[]) ∧ w' = (w.setCell ⟨c, 7, none⟩ (.map (some w.heap.size))).alloc kObj := by
  have i0 : (Instr.mapUpdate 116 (.map (some w.heap.size)) (.int .i64 1) (.func (.func 135) #[] #[])).run Tryz.prog (w.alloc (.map #[] 0)) = .ok () (w.alloc (.map (kE 1) 1)) := B.ins_at u_kmap u_kint w (kE 0) (kE 1) 0 w.heap.size 1 _ rfl rfl rfl
  have i1 : (Instr.mapUpdate 116 (.map (some w.heap.size)) (.int .i64 2) (.func (.func 136) #[] #[])).run Tryz.prog (w.alloc (.map (kE 1) 1)) = .ok () (w.alloc (.map (kE 2) 2)) := B.ins_at u_kmap u_kint w (kE 1) (kE 2) 1 w.heap.size 2 _ rfl rfl rfl
  have i2 : (Instr.mapUpdate 116 (.map (some w.heap.size)) (.int .i64 3) (.func (.func 137) #[] #[])).run Tryz.prog (w.alloc (.map (kE 2) 2)) = .ok () (w.alloc (.map (kE 3) 3)) := B.ins_at u_kmap u_kint w (kE 2) (kE 3) 2 w.heap.size 3 _ rfl rfl rfl
  have i3 : (Instr.mapUpdate 116 (.map (some w.heap.size)) (.int .i64 4) (.func (.func 138) #[] #[])).run Tryz.prog (w.alloc (.map (kE 3) 3)) = .ok () (w.alloc (.map (kE 4) 4)) := B.ins_at u_kmap u_kint w (kE 3) (kE 4) 3 w.heap.size 4 _ rfl rfl rfl
  have i4 : (Instr.mapUpdate 116 (.map (some w.heap.size)) (.int .i64 5) (.func (.func 139) #[] #[])).run Tryz.prog (w.alloc (.map (kE 4) 4)) = .ok () (w.alloc (.map (kE 5) 5)) := B.ins_at u_kmap u_kint w (kE 4) (kE 5) 4 w.heap.size 5 _ rfl rfl rfl
  have i5 : (Instr.mapUpdate 116 (.map (some w.heap.size)) (.int .i64 6) (.func (.func 140) #[] #[])).run Tryz.prog (w.alloc (.map (kE 5) 5)) = .ok () (w.alloc (.map (kE 6) 6)) := B.ins_at u_kmap u_kint w (kE 5) (kE 6) 5 w.heap.size 6 _ rfl rfl rfl
  have i6 : (Instr.mapUpdate 116 (.map (some w.heap.size)) (.int .i64 7) (.func (.func 141) #[] #[])).run Tryz.prog (w.alloc (.map (kE 6) 6)) = .ok () (w.alloc (.map (kE 7) 7)) := B.ins_at u_kmap u_kint w (kE 6) (kE 7) 6 w.heap.size 7 _ rfl rfl rfl
  have i7 : (Instr.mapUpdate 116 (.map (some w.heap.size)) (.int .i64 8) (.func (.func 142) #[] #[])).run Tryz.prog (w.alloc (.map (kE 7) 7)) = .ok () (w.alloc (.map (kE 8) 8)) := B.ins_at u_kmap u_kint w (kE 7) (kE 8) 7 w.heap.size 8 _ rfl rfl rfl
  have i8 : (Instr.mapUpdate 116 (.map (some w.heap.size)) (.int .i64 9) (.func (.func 143) #[] #[])).run Tryz.prog (w.alloc (.map (kE 8) 8)) = .ok () (w.alloc (.map (kE 9) 9)) := B.ins_at u_kmap u_kint w (kE 8) (kE 9) 8 w.heap.size 9 _ rfl rfl rfl
  have i9 : (Instr.mapUpdate 116 (.map (some w.heap.size)) (.int .i64 10) (.func (.func 144) #[] #[])).run Tryz.prog (w.alloc (.map (kE 9) 9)) = .ok () (w.alloc (.map (kE 10) 10)) := B.ins_at u_kmap u_kint w (kE 9) (kE 10) 9 w.heap.size 10 _ rfl rfl rfl
  have i10 : (Instr.mapUpdate 116 (.map (some w.heap.size)) (.int .i64 11) (.func (.func 145) #[] #[])).run Tryz.prog (w.alloc (.map (kE 10) 10)) = .ok () (w.alloc (.map (kE 11) 11)) := B.ins_at u_kmap u_kint w (kE 10) (kE 11) 10 w.heap.size 11 _ rfl rfl rfl
  have i11 : (Instr.mapUpdate 116 (.map (some w.heap.size)) (.int .i64 12) (.func (.func 146) #[] #[])).run Tryz.prog (w.alloc (.map (kE 11) 11)) = .ok () (w.alloc (.map (kE 12) 12)) := B.ins_at u_kmap u_kint w (kE 11) (kE 12) 11 w.heap.size 12 _ rfl rfl rfl
  have i12 : (Instr.mapUpdate 116 (.map (some w.heap.size)) (.int .i64 13) (.func (.func 147) #[] #[])).run Tryz.prog (w.alloc (.map (kE 12) 12)) = .ok () (w.alloc (.map (kE 13) 13)) := B.ins_at u_kmap u_kint w (kE 12) (kE 13) 12 w.heap.size 13 _ rfl rfl rfl
  have i13 : (Instr.mapUpdate 116 (.map (some w.heap.size)) (.int .i64 14) (.func (.func 148) #[] #[])).run Tryz.prog (w.alloc (.map (kE 13) 13)) = .ok () (w.alloc (.map (kE 14) 14)) := B.ins_at u_kmap u_kint w (kE 13) (kE 14) 13 w.heap.size 14 _ rfl rfl rfl
  have i14 : (Instr.mapUpdate 116 (.map (some w.heap.size)) (.int .i64 15) (.func (.func 149) #[] #[])).run Tryz.prog (w.alloc (.map (kE 14) 14)) = .ok () (w.alloc (.map (kE 15) 15)) := B.ins_at u_kmap u_kint w (kE 14) (kE 15) 14 w.heap.size 15 _ rfl rfl rfl
  have i15 : (Instr.mapUpdate 116 (.map (some w.heap.size)) (.int .i64 16) (.func (.func 150) #[] #[])).run Tryz.prog (w.alloc (.map (kE 15) 15)) = .ok () (w.alloc (.map (kE 16) 16)) := B.ins_at u_kmap u_kint w (kE 15) (kE 16) 15 w.heap.size 16 _ rfl rfl rfl
  have i16 : (Instr.mapUpdate 116 (.map (some w.heap.size)) (.int .i64 17) (.func (.func 151) #[] #[])).run Tryz.prog (w.alloc (.map (kE 16) 16)) = .ok () (w.alloc (.map (kE 17) 17)) := B.ins_at u_kmap u_kint w (kE 16) (kE 17) 16 w.heap.size 17 _ rfl rfl rfl
  have i17 : (Instr.mapUpdate 116 (.map (some w.heap.size)) (.int .i64 18) (.func (.func 152) #[] #[])).run Tryz.prog (w.alloc (.map (kE 17) 17)) = .ok () (w.alloc (.map (kE 18) 18)) := B.ins_at u_kmap u_kint w (kE 17) (kE 18) 17 w.heap.size 18 _ rfl rfl rfl
  have i18 : (Instr.mapUpdate 116 (.map (some w.heap.size)) (.int .i64 19) (.func (.func 153) #[] #[])).run Tryz.prog (w.alloc (.map (kE 18) 18)) = .ok () (w.alloc (.map (kE 19) 19)) := B.ins_at u_kmap u_kint w (kE 18) (kE 19) 18 w.heap.size 19 _ rfl rfl rfl
  have i19 : (Instr.mapUpdate 116 (.map (some w.heap.size)) (.int .i64 20) (.func (.func 154) #[] #[])).run Tryz.prog (w.alloc (.map (kE 19) 19)) = .ok () (w.alloc (.map (kE 20) 20)) := B.ins_at u_kmap u_kint w (kE 19) (kE 20) 19 w.heap.size 20 _ rfl rfl rfl
  have hmm := @run_makeMap Tryz.prog
  go_enter Tryz.func103, Tryz.ntmps103
  go_wp2
  go_end0
  exact ⟨rfl, rfl⟩
theorem k_disable (w : World) : (callFunc 263 #[]).run Tryz.prog w = .ok (.value (.tuple #[])) w := run_call_mark0 Tryz.func263 (by kernel_rfl) (by kernel_rfl) (by kernel_rfl) .disable (by kernel_rfl) w
theorem k_enable (w : World) : (callFunc 265 #[]).run Tryz.prog w = .ok (.value (.tuple #[])) w := run_call_mark0 Tryz.func265 (by kernel_rfl) (by kernel_rfl) (by kernel_rfl) .enable (by kernel_rfl) w
theorem k_acquire (a : Addr) (w : World) : (callFunc 266 #[.pointer (some a)]).run Tryz.prog w = .ok (.value (.tuple #[])) w := run_call_marked Tryz.func266 (by kernel_rfl) (by kernel_rfl) (by kernel_rfl) .acquire (by kernel_rfl) a w
theorem k_release (a : Addr) (w : World) : (callFunc 268 #[.pointer (some a)]).run Tryz.prog w = .ok (.value (.tuple #[])) w := run_call_marked Tryz.func268 (by kernel_rfl) (by kernel_rfl) (by kernel_rfl) .releaseMerge (by kernel_rfl) a w
theorem k_stored (a : Addr) (x : Value) (u : FrameMode) (w : World) (hc : w.cell? a = some x) (hz : w.frozen? a = false) :
    CallsD Tryz.prog 175 #[.pointer (some a), .bool true] u w fun e u' w' => u' = u ∧ (e = .returned (.tuple #[]) ∧ w' = w.drew.setCell a (.int .u32 1)) := by
  have hc' : w.drew.cell? a = some x := by go_simp
  have hz' : w.drew.frozen? a = false := by go_simp
  have hst := run_call_store (P := Tryz.prog) Tryz.func210 (by kernel_rfl) (by kernel_rfl) (by kernel_rfl) (by kernel_rfl) (k := .u32) (y := 1) hc' hz'
  go_enter_d Tryz.func175, Tryz.ntmps175
  go_wp2
  go_region_calls
  all_goals (go_end0; exact ⟨rfl, rfl⟩)
theorem k_unlock (a : Addr) (u : FrameMode) (w : World) (hc : w.cell? a = some (.int .i32 1)) (hz : w.frozen? a = false) :
    CallsD Tryz.prog 174 #[.pointer (some a)] u w fun e u' w' => u' = u ∧ (e = .returned (.tuple #[]) ∧ w' = w.setCell a (.int .i32 0)) := by
  have hd := k_disable
  have he := k_enable
  have hr := k_release
  have hadd := run_call_add (P := Tryz.prog) Tryz.func269 (by kernel_rfl) (by kernel_rfl) (by kernel_rfl) .i32 (by kernel_rfl) (y := -1) (s := 0) hc hz (by simp [go_sem]; rfl)
  have hcv := run_convert_to_unsafe (P := Tryz.prog) (src := 261) (dst := 265) Tryz.underlying261 Tryz.underlying265 (by kernel_rfl) hc
  go_enter_d Tryz.func174, Tryz.ntmps174
  go_wp2
  go_end0
  go_wp2
  go_end0
  exact ⟨rfl, rfl⟩
theorem k_lock (a : Addr) (w : World) (hc : w.cell? a = some (.int .i32 0)) (hz : w.frozen? a = false) :
    Calls Tryz.prog 173 #[.pointer (some a)] w fun e w' => e = .returned (.tuple #[]) ∧ w' = w.setCell a (.int .i32 1) := by
  have hd := k_disable
  have he := k_enable
  have ha := k_acquire
  have hcas := run_call_cas_hit (P := Tryz.prog) Tryz.func264 (by kernel_rfl) (by kernel_rfl) (by kernel_rfl) .i32 (by kernel_rfl) (y := 1) hc hz
  have hc' : (w.setCell a (.int .i32 1)).cell? a = some (.int .i32 1) := World.cell?_setCell_same w a _ hc
  have hcv := run_convert_to_unsafe (P := Tryz.prog) (src := 261) (dst := 265) Tryz.underlying261 Tryz.underlying265 (by kernel_rfl) hc'
  go_enter Tryz.func173, Tryz.ntmps173
  go_wp2
  first | go_end0 | (simp only [Exit.inBlock, Exit.then]; refine bodyPost_ret (results_none rfl _ _ _) rfl ?_) | refine bodyPost_ret (results_none rfl _ _ _) rfl ?_
  go_wp2
  go_end0
  exact ⟨rfl, rfl⟩
set_option maxRecDepth 100000 in
set_option maxHeartbeats 1600000 in
theorem k_slow (c : Nat) (w : World) (v : CV) (h : w.heap[c]? = some (.cells (v.cells 0 0 (.map none)) 118 (0, 0))) :
    Calls Tryz.prog 134 #[.pointer (some ⟨c, 4, none⟩), .func (.func 103) #[.pointer (some ⟨c, 0, none⟩)] #[]] w fun e w' => e = .returned (.tuple #[]) ∧
      w' = ((((w.setCell ⟨c, 5, none⟩ (.int .i32 1)).setCell ⟨c, 7, none⟩ (.map (some w.heap.size))).alloc kObj).drew.setCell ⟨c, 4, none⟩ (.int .u32 1)).setCell ⟨c, 5, none⟩ (.int .i32 0) := by
  have hlt := lt_of_block h
  have h0 : w.cell? ⟨c, 4, none⟩ = some (.int .u32 0) := cell_of_row w c 4 _ _ _ h
  have h1 : w.cell? ⟨c, 5, none⟩ = some (.int .i32 0) := cell_of_row w c 5 _ _ _ h
  have h7 : w.cell? ⟨c, 7, none⟩ = some (.map none) := cell_of_row w c 7 _ _ _ h
  have fz : ∀ k, w.frozen? ⟨c, k, none⟩ = false := fun k => by simp [World.frozen?, h]
  have hl := run_call_load (P := Tryz.prog) Tryz.func172 (by kernel_rfl) (by kernel_rfl) (by kernel_rfl) .u32 (by kernel_rfl) (w := w.setCell ⟨c, 5, none⟩ (.int .i32 1)) (a := ⟨c, 4, none⟩) (x := 0) ((World.cell?_setCell_other _ ⟨c, 5, none⟩ ⟨c, 4, none⟩ _ (by simp)).trans h0)
  have hnot : ∀ (x : Bool) (w : World), (Op.unary .not (.bool x)).run Tryz.prog w = .ok (.bool (!x)) w := fun _ _ => rfl
  go_enter_defers Tryz.func134, Tryz.ntmps134
  go_wp2_with (first
    | (go_at_call 173; refine (k_lock ⟨c, 5, none⟩ _ h1 (fz _)).mono ?_; rintro e w' ⟨rfl, rfl⟩)
    | (go_at_call 103; refine (m_makeKinds _ c (.map none) ((World.cell?_setCell_other _ ⟨c, 5, none⟩ ⟨c, 7, none⟩ _ (by simp)).trans h7) (by simp [fz]) (by simpa using hlt)).mono ?_; rintro e w' ⟨rfl, rfl⟩)
    | (go_at_call 133; go_in))
  refine leaves_cons (f := 175) (args := #[.pointer (some ⟨c, 4, none⟩), .bool true]) (by simp) (by simp [go_sem]) ?_
  have g0 : (((w.setCell ⟨c, 5, none⟩ (.int .i32 1)).setCell ⟨c, 7, none⟩ (.map (some w.heap.size))).alloc kObj).cell? ⟨c, 4, none⟩ = some (.int .u32 0) := by
    rw [World.cell?_alloc_past _ _ _ (by simpa using hlt), World.cell?_setCell_other _ ⟨c, 7, none⟩ ⟨c, 4, none⟩ _ (by simp), World.cell?_setCell_other _ ⟨c, 5, none⟩ ⟨c, 4, none⟩ _ (by simp)]
    exact h0
  have z0 : ∀ k, (((w.setCell ⟨c, 5, none⟩ (.int .i32 1)).setCell ⟨c, 7, none⟩ (.map (some w.heap.size))).alloc kObj).frozen? ⟨c, k, none⟩ = false := fun k => by
    rw [World.frozen?_alloc_past _ _ _ (by simpa using hlt)]
    simp [fz]
  refine (k_stored ⟨c, 4, none⟩ (.int .u32 0) .returning _ g0 (z0 _)).mono ?_
  rintro e u' w'' ⟨rfl, rfl, rfl⟩
  refine leaves_cons (f := 174) (args := #[.pointer (some ⟨c, 5, none⟩)]) (by simp [settle]) (by simp [go_sem]) ?_
  refine (k_unlock ⟨c, 5, none⟩ _ _ ?_ (by simp [z0])).mono ?_
  · refine (World.cell?_setCell_other _ ⟨c, 4, none⟩ ⟨c, 5, none⟩ _ (by simp)).trans ?_
    rw [World.cell?_drew, World.cell?_alloc_past _ _ _ (by simpa using hlt), World.cell?_setCell_other _ ⟨c, 7, none⟩ ⟨c, 5, none⟩ _ (by simp)]
    exact World.cell?_setCell_same w _ _ h1
  rintro e u' w'' ⟨rfl, rfl, rfl⟩
  simp [Leaves, settle, results, Tryz.results134]
theorem k_slow' (c : Nat) (w : World) (v : CV) (h : w.heap[c]? = some (.cells (v.cells 0 0 (.map none)) 118 (0, 0))) :
    Calls Tryz.prog 134 #[.pointer (some ⟨c, 4, none⟩), .func (.func 103) #[.pointer (some ⟨c, 0, none⟩)] #[]] w fun e w' => e = .returned (.tuple #[]) ∧
      (∃ M, w'.heap[c]? = some (.cells (v.cells 1 0 (.map (some M))) 118 (0, 0)) ∧ w'.heap[M]? = some kObj) ∧ Only (· = c) w w' := by
  refine (k_slow c w v h).mono ?_
  rintro e w' ⟨rfl, rfl⟩
  have hlt := lt_of_block h
  have e1 := setCell_row w c 5 _ (v.cells 0 1 (.map none)) 118 (.int .i32 1) h rfl
  have e2 := setCell_row _ c 7 _ (v.cells 0 1 (.map (some w.heap.size))) 118 (.map (some w.heap.size)) e1 rfl
  have e3 := (heap_alloc_old _ kObj (by simpa using hlt)).trans e2
  have e4 := setCell_row (((w.setCell ⟨c, 5, none⟩ (.int .i32 1)).setCell ⟨c, 7, none⟩ (.map (some w.heap.size))).alloc kObj).drew c 4 _ (v.cells 1 1 (.map (some w.heap.size))) 118 (.int .u32 1) e3 rfl
  have e5 := setCell_row _ c 5 _ (v.cells 1 0 (.map (some w.heap.size))) 118 (.int .i32 0) e4 rfl
  refine ⟨rfl, ⟨w.heap.size, e5, ?_⟩, ?_⟩
  · have q : ∀ (u : World) (k : Nat) (x : Value), (u.setCell ⟨c, k, none⟩ x).heap[w.heap.size]? = u.heap[w.heap.size]? := fun u k x => by
      unfold World.setCell
      simp only [Array.getElem?_modify]
      rw [if_neg (by show ¬ c = w.heap.size; omega)]
    rw [q, q]
    have := heap_alloc_new ((w.setCell ⟨c, 5, none⟩ (.int .i32 1)).setCell ⟨c, 7, none⟩ (.map (some w.heap.size))) kObj
    have hs : ((w.setCell ⟨c, 5, none⟩ (.int .i32 1)).setCell ⟨c, 7, none⟩ (.map (some w.heap.size))).heap.size = w.heap.size := by simp
    rw [hs] at this
    exact this
  · exact ((((((Only.refl (S := (· = c)) w).setCell (.inl rfl) _).setCell (.inl rfl) _).alloc _).drew.setCell (.inl rfl) _).setCell (.inl rfl) _)
/-- once -/
theorem k_Do (c : Nat) (w : World) (v : CV) (h : Cr w c v) :
    Calls Tryz.prog 102 #[.pointer (some ⟨c, 4, none⟩), .func (.func 103) #[.pointer (some ⟨c, 0, none⟩)] #[]] w fun e w' => e = .returned (.tuple #[]) ∧
      (∃ M, w'.heap[c]? = some (.cells (v.cells 1 0 (.map (some M))) 118 (0, 0)) ∧ w'.heap[M]? = some kObj) ∧ Only (· = c) w w' := by
  have hnot : ∀ (x : Bool) (w : World), (Op.unary .not (.bool x)).run Tryz.prog w = .ok (.bool (!x)) w := fun _ _ => rfl
  rcases h with h | ⟨M, h, hM⟩
  · have h0 : w.cell? ⟨c, 4, none⟩ = some (.int .u32 0) := cell_of_row w c 4 _ _ _ h
    have hl := run_call_load (P := Tryz.prog) Tryz.func172 (by kernel_rfl) (by kernel_rfl) (by kernel_rfl) .u32 (by kernel_rfl) h0
    go_enter Tryz.func102, Tryz.ntmps102
    go_wp2_with (first
      | (go_at_call 134; refine (k_slow' c _ v h).mono ?_; rintro e w' ⟨rfl, hE, hO⟩)
      | (go_at_call 133; go_in))
    go_end0
    exact ⟨rfl, hE, hO⟩
  · have h0 : w.cell? ⟨c, 4, none⟩ = some (.int .u32 1) := cell_of_row w c 4 _ _ _ h
    have hl := run_call_load (P := Tryz.prog) Tryz.func172 (by kernel_rfl) (by kernel_rfl) (by kernel_rfl) .u32 (by kernel_rfl) h0
    go_enter Tryz.func102, Tryz.ntmps102
    go_wp2
    go_end0
    exact ⟨rfl, ⟨M, h, hM⟩, .refl w⟩
theorem kF_find : ∀ k : Nat, k < 20 → Instr.findNow (.int .i64) (.int .i64 ((k : Int) + 1)) (kE 20).toList 0 = some (some (k, kF ((k : Int) + 1)))
  | 0, _ => rfl
  | 1, _ => rfl
  | 2, _ => rfl
  | 3, _ => rfl
  | 4, _ => rfl
  | 5, _ => rfl
  | 6, _ => rfl
  | 7, _ => rfl
  | 8, _ => rfl
  | 9, _ => rfl
  | 10, _ => rfl
  | 11, _ => rfl
  | 12, _ => rfl
  | 13, _ => rfl
  | 14, _ => rfl
  | 15, _ => rfl
  | 16, _ => rfl
  | 17, _ => rfl
  | 18, _ => rfl
  | 19, _ => rfl
  | n + 20, q => absurd q (by omega)
theorem k_look (w : World) (M : Nat) (hb : w.heap[M]? = some kObj) (k : Int) (k0 : 1 ≤ k) (k1 : k ≤ 20) : (Instr.lookup 116 (.map (some M)) (.int .i64 k) false).run Tryz.prog w = .ok (kF k) w := by
  have hkey : IsKey (.int .i64) (.int .i64 k) := by simp [IsKey]
  have hn : Instr.findNow (.int .i64) (.int .i64 k) (kE 20).toList 0 = some (some ((k - 1).toNat, kF k)) := by
    have := kF_find (k - 1).toNat (by omega)
    rwa [show (((k - 1).toNat : Nat) : Int) + 1 = k by omega] at this
  simp [Instr.lookup, run_underlying u_kmap, MapKept.run_getObj_map hb, run_checkKey u_kint hkey, run_findKey u_kint hn, Result.andThen]
/-- what a kind does is found -/
theorem m_kind (c : Nat) (w : World) (v : CV) (h : Cr w c v) (k : Int) (k0 : 1 ≤ k) (k1 : k ≤ 20) :
    Calls Tryz.prog 69 #[.pointer (some ⟨c, 0, none⟩), .int .i64 k] w fun e w' => e = .returned (kF k) ∧ Cr w' c v ∧ Only (· = c) w w' := by
  go_enter Tryz.func69, Tryz.ntmps69
  go_wp2_with (go_at_call 102; refine (k_Do c _ v h).mono ?_; rintro e w' ⟨rfl, ⟨M, q1, q2⟩, q3⟩; have q4 : w'.cell? ⟨c, 7, none⟩ = some (.map (some M)) := cell_of_row w' c 7 _ _ _ q1; have q5 := k_look w' M q2 k k0 k1)
  go_ret
  exact ⟨rfl, .inr ⟨M, q1, q2⟩, q3⟩
end Go.Proofs.YtooagjndelbegaaGreatDoor
namespace Go.Proofs.YtooagjndelbegaaGreatDoor
open Go.RowKit
set_option linter.unusedVariables false
set_option maxRecDepth 100000

def pcH (pc : Int) : HV := { HV.zero with pc := pc }
def rs1H (pc a0 : Int) : HV := { pcH pc with x := upd (pcH pc).x 10 a0 }
def rs2H (pc a0 a1 : Int) : HV := { rs1H pc a0 with x := upd (rs1H pc a0).x 11 a1 }
def rstH (pc a0 a1 : Int) : HV := ordH (rs2H pc a0 a1)
theorem zok : HOk HV.zero := by constructor <;> simp [HV.zero]
theorem HOk.x1 {h : HV} (k : HOk h) (r : Nat) (v : Int) (v0 : 0 ≤ v) (v1 : v < 18446744073709551616) : HOk { h with x := upd h.x r v } := { k with x := fun i => by simp only [upd]; split; exact ⟨v0, v1⟩; exact k.x i }
theorem rs2_ok (pc a0 a1 : Int) (p : 0 ≤ pc ∧ pc < 18446744073709551616) (p0 : 0 ≤ a0 ∧ a0 < 18446744073709551616) (p1 : 0 ≤ a1 ∧ a1 < 18446744073709551616) : HOk (rs2H pc a0 a1) :=
  HOk.x1 (HOk.x1 (h := pcH pc) { zok with pc := p } 10 a0 p0.1 p0.2) 11 a1 p1.1 p1.2
theorem built_pc (pc : Int) : Tryz.prog.built 28 [(1, .int .u64 pc)] = some (pcH pc).ca := by rfl
theorem row_cells {w : World} {g : Nat} {h : HV} {cs : Array Value} (hg : w.heap[g]? = some (.cells cs 28 (0, 0))) : (w.setRow g h.ca).heap[g]? = some (.cells h.ca 28 (0, 0)) := heap_setRow w g cs h.ca 28 hg
theorem setCell_other (w : World) (g k j : Nat) (v : Value) (h : j ≠ g) : (w.setCell ⟨g, k, none⟩ v).heap[j]? = w.heap[j]? := by
  unfold World.setCell
  simp only [Array.getElem?_modify]
  rw [if_neg (by show ¬ g = j; omega)]
theorem wpList_newG {P : Program} {ops : Array Oper} {rest : List Oper} {d : Option Nat} {ty e : TypeId} {pos : String} {after : Array Edge} {Q : Exit → Act → World → Prop} {a : Act} {w : World} {z : Value} (g : Nat) (hw : w.heap.size = g) (c : Array Value) (hc : z.cells = c)
    (hz : (P.info? e).map (fun i => i.zero) = some (some z)) (h : wpList P ops Q rest (a.put d (.pointer (some ⟨g, 0, none⟩))) (w.alloc (.cells c e))) :
    wpList P ops Q ({ dst := d, op := Op.alloc e, type := ty, pos := pos, after := after, guard := none } :: rest) a w := by
  subst hw
  exact wpList_new c hc hz h
set_option maxHeartbeats 1000000 in
theorem m_Reset (pc a0 a1 : Int) (p : 0 ≤ pc ∧ pc < 18446744073709551616) (p0 : 0 ≤ a0 ∧ a0 < 18446744073709551616) (p1 : 0 ≤ a1 ∧ a1 < 18446744073709551616) (w : World) :
    Calls Tryz.prog 24 #[.int .u64 pc, .int .u64 a0, .int .u64 a1] w fun e w' => e = .returned (rstH pc a0 a1).v ∧ Below w.heap.size w w' := by
  have g1 : ∀ u : World, u = (w.alloc (.cells HV.zero.ca 28)).alloc (.cells HV.zero.ca 28) → (u.setRow (w.heap.size + 1) (pcH pc).ca).heap[w.heap.size + 1]? = some (.cells (pcH pc).ca 28 (0, 0)) := fun u hu => by
    subst hu; exact heap_setRow _ _ _ _ _ (heap2' _ _ _)
  have G1 := g1 _ rfl
  clear g1
  have c10 : (((w.alloc (.cells HV.zero.ca 28)).alloc (.cells HV.zero.ca 28)).setRow (w.heap.size + 1) (pcH pc).ca).cell? ⟨w.heap.size + 1, 10, none⟩ = some (.int .u64 0) := cell_of_row _ _ 10 _ _ _ G1
  have c11 : (((w.alloc (.cells HV.zero.ca 28)).alloc (.cells HV.zero.ca 28)).setRow (w.heap.size + 1) (pcH pc).ca).cell? ⟨w.heap.size + 1, 11, none⟩ = some (.int .u64 0) := cell_of_row _ _ 11 _ _ _ G1
  have fz : ∀ k, (((w.alloc (.cells HV.zero.ca 28)).alloc (.cells HV.zero.ca 28)).setRow (w.heap.size + 1) (pcH pc).ca).frozen? ⟨w.heap.size + 1, k, none⟩ = false := fun k => frozen_of_row _ _ k _ _ G1
  have G2 := setCell_row _ _ 10 _ (rs1H pc a0).ca 28 (.int .u64 a0) G1 rfl
  have G3 := setCell_row _ _ 11 _ (rs2H pc a0 a1).ca 28 (.int .u64 a1) G2 rfl
  have HG := C.hid G3
  have z0 : (((((w.alloc (.cells HV.zero.ca 28)).alloc (.cells HV.zero.ca 28)).setRow (w.heap.size + 1) (pcH pc).ca).setCell ⟨w.heap.size + 1, 10, none⟩ (.int .u64 a0)).setCell ⟨w.heap.size + 1, 11, none⟩ (.int .u64 a1)).heap[w.heap.size]? = some (.cells HV.zero.ca 28 (0, 0)) := by
    rw [setCell_other _ _ _ _ _ (by omega), setCell_other _ _ _ _ _ (by omega), setRow_other _ _ _ _ (by omega)]
    exact heap2 _ _ _
  have HZ := C.hid z0
  have zs : (((((w.alloc (.cells HV.zero.ca 28)).alloc (.cells HV.zero.ca 28)).setRow (w.heap.size + 1) (pcH pc).ca).setCell ⟨w.heap.size + 1, 10, none⟩ (.int .u64 a0)).setCell ⟨w.heap.size + 1, 11, none⟩ (.int .u64 a1)).heap.size = w.heap.size + 2 := by
    simp [World.setRow]
  have HS := C.hid zs
  have zb : Below w.heap.size w (((((w.alloc (.cells HV.zero.ca 28)).alloc (.cells HV.zero.ca 28)).setRow (w.heap.size + 1) (pcH pc).ca).setCell ⟨w.heap.size + 1, 10, none⟩ (.int .u64 a0)).setCell ⟨w.heap.size + 1, 11, none⟩ (.int .u64 a1)) :=
    ((below_setRow (below2 _ _) (by omega) _).setCell (by simp) _).setCell (by simp) _
  have HB := C.hid zb
  clear z0 zs zb
  clear G1 G2 G3
  go_enter Tryz.func24, Tryz.ntmps24
  go_wp2_with (first
    | ((with_reducible refine wpList_newG (z := .agg HV.zero.ca) w.heap.size ?_ HV.zero.ca ?_ ?_ ?_); rfl; rfl; exact z_hart)
    | ((with_reducible refine wpList_newG (z := .agg HV.zero.ca) (w.heap.size + 1) ?_ HV.zero.ca ?_ ?_ ?_); simp; rfl; exact z_hart)
    | ((with_reducible refine wpL_storeH (x := .tmp 7) (y := .tmp 9) (w.heap.size + 1) ?_ (pcH pc) ?_ HV.zero.ca ?_ rfl ?_); rfl; rfl; exact heap2' _ _ _)
    | ((with_reducible refine wpL_loadH (x := .tmp 7) (w.heap.size + 1) ?_ (rs2H pc a0 a1) ?_ ?_); rfl; exact HG.out)
    | (go_at_call 47; refine (m_inOrder _ (rs2_ok pc a0 a1 p p0 p1) _).mono ?_; rintro e w' ⟨rfl, hb⟩; have HW := C.hid ((hb.block w.heap.size (by rw [HS.out]; omega)).trans HZ.out); have HY := C.hid (HB.out.trans (hb.mono (by rw [HS.out]; omega))); clear hb)
    | ((with_reducible refine wpL_storeH (x := .tmp 6) (y := .tmp 17) w.heap.size ?_ (rstH pc a0 a1) ?_ HV.zero.ca ?_ rfl ?_); rfl; rfl; exact HW.out))
  refine bodyPost_ret (ret_row Tryz.results24 w.heap.size (rstH pc a0 a1) rfl (heap_setRow _ _ _ _ _ HW.out)) rfl ⟨rfl, below_setRow HY.out (Nat.le_refl _) _⟩
end Go.Proofs.YtooagjndelbegaaGreatDoor
