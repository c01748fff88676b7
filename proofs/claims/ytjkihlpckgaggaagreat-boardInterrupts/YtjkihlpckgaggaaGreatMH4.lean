/- A queue as it stands; the memory that it is asked with, whatever that is. -/
import Derived.Test.YtjkihlpckgaggaaGreatMH3
import Derived.Test.YtjkihlpckgaggaaGreatMC3
import Derived.Test.YtjkihlpckgaggaaGreatMC5
import Derived.BigFrame
import Derived.Test.YtjkihlpckgaggaaGreatMC2
import Derived.BigQuiet
import Derived.Handy
import Derived.Maps.OwnOps
import Derived.Deep.RegionWith
import Derived.Defers
import Derived.Laws.Pointers
import Derived.Laws.LoneSync
import Derived.RegionTactic
import Derived.RegionCalls
import Derived.Laws.NewBlocks
import Derived.Lib.SliceRun
import Derived.Laws.Cover3
import Derived.Laws.AppendOwn
import Derived.Laws.AppendOwnNone
namespace Go.Proofs.YtjkihlpckgaggaaGreat
open Go.RowKit
open C (Only hid Still ret_int ret_bool)
set_option linter.unusedVariables false
set_option maxRecDepth 100000

theorem wpList_inv2 {P : Program} {ops : Array Oper} {Q : Exit → Act → World → Prop} {rest : List Oper} {o : Oper} {a : Act} {w : World} (hw : Region.wanted o (yielded ops a.tmps) = true) (nm : String) (g : Value) (x y z : Operand) (ts : Array TypeId) (hop : o.op = .call { callee := .invoke x nm, args := #[y, z], argTypes := ts }) (vy vz : Value) (hx : a.eval x = g) (hy : a.eval y = vy) (hz : a.eval z = vz) (f : FuncId) (rc : Value)
    (hr : (callMethod g nm #[vy, vz]).run P w = .ok (.enter f (#[rc] ++ #[vy, vz])) w) {R : Ending → World → Prop} (hc : Calls P f #[rc, vy, vz] w R) (h : ∀ e w', R e w' → ∃ v, e = .returned v ∧ wpList P ops Q rest (a.put o.dst v) w') : wpList P ops Q (o :: rest) a w := by
  refine BigFrame.wpList_want hw fun K hK => ?_
  unfold Oper.wp
  have he : (execOp a.eval o).run P w = .ok (.enter f #[rc, vy, vz]) w := by
    have hr' : (callMethod g nm #[vy, vz]).run P w = .ok (.enter f #[rc, vy, vz]) w := hr
    simp [execOp, hop, resolve, invoke, hx, hy, hz, hr']
  rw [he, Oper.upon_enter]
  refine hc.mono fun e w' hR => ?_
  obtain ⟨v, rfl, hk⟩ := h e w' hR
  exact hK _ _ hk
theorem wp_inv3w {P : Program} {ops : Array Oper} {Q : Exit → Act → World → Prop} {i : Nat} {o : Oper} {K : Act → World → Prop} {a : Act} {w : World} (ho : ops[i]? = some o) (hw : Region.wanted o (yielded ops a.tmps) = true) (nm : String) (g : Value) (x y z u : Operand) (ts : Array TypeId) (hop : o.op = .call { callee := .invoke x nm, args := #[y, z, u], argTypes := ts }) (vy vz vu : Value) (hx : a.eval x = g) (hy : a.eval y = vy) (hz : a.eval z = vz) (hu : a.eval u = vu) (f : FuncId) (rc : Value)
    (hr : (callMethod g nm #[vy, vz, vu]).run P w = .ok (.enter f (#[rc] ++ #[vy, vz, vu])) w) {R : Ending → World → Prop} (hc : Calls P f #[rc, vy, vz, vu] w R) (h : ∀ e w', R e w' → ∃ v, e = .returned v ∧ K (a.put o.dst v) w') : wpOp P ops Q i K a w := by
  refine wpOp_step ho fun K' hK => ?_
  rw [if_pos hw]
  unfold Oper.wp
  have he : (execOp a.eval o).run P w = .ok (.enter f #[rc, vy, vz, vu]) w := by
    have hr' : (callMethod g nm #[vy, vz, vu]).run P w = .ok (.enter f #[rc, vy, vz, vu]) w := hr
    simp [execOp, hop, resolve, invoke, hx, hy, hz, hu, hr']
  rw [he, Oper.upon_enter]
  refine hc.mono fun e w' hR => ?_
  obtain ⟨v, rfl, hk⟩ := h e w' hR
  exact hK _ _ hk
/-- what one call may turn -/
def Tx (w : World) (F : Nat → Prop) (w' : World) (F' : Nat → Prop) : Prop := Only F w w' ∧ ∀ k, F' k → F k ∨ w.heap.size ≤ k
theorem Tx.trans {w w' w'' : World} {F F' F'' : Nat → Prop} (h : Tx w F w' F') (k : Tx w' F' w'' F'') : Tx w F w'' F'' :=
  ⟨h.1.trans' k.1 fun i hi q => (h.2 i q).resolve_right (by omega), fun i q => (k.2 i q).elim (h.2 i) fun z => .inr (Nat.le_trans h.1.size z)⟩
theorem Tx.refl (w : World) (F : Nat → Prop) : Tx w F w F := ⟨Only.refl w, fun _ q => .inl q⟩
theorem Tx.ofBelow {w w' : World} {F : Nat → Prop} (h : Below w.heap.size w w') : Tx w F w' F := ⟨Only.ofBelow h, fun _ q => .inl q⟩
/-- a guest's memory: its states, and what each call comes to -/
structure MG where
  σ : Type
  R : World → (Nat → Prop) → σ → Prop
  has : σ → Int → Int → Bool
  ok : σ → Int → Int → Bool
  rd : σ → Int → Int → Int
  wk : σ → Int → Int → Bool
  wr : σ → Int → Int → Int → σ
structure MGC (G : MG) (g : Value) (fH fR fW : FuncId) (rc : Value) : Prop where
  cH : ∀ args w, (callMethod g "Has" args).run Tryz.prog w = .ok (.enter fH (#[rc] ++ args)) w
  cR : ∀ args w, (callMethod g "Read" args).run Tryz.prog w = .ok (.enter fR (#[rc] ++ args)) w
  cW : ∀ args w, (callMethod g "Write" args).run Tryz.prog w = .ok (.enter fW (#[rc] ++ args)) w
  nk : ∀ (ρ : Operand → Value) (o : Oper) (x : Operand) (w : World), o.op = .nilCheck x → ρ x = .func (.method "Write") #[g] #[] → (execOp ρ o).run Tryz.prog w = .ok (.value (.func (.method "Write") #[g] #[])) w
  sep : ∀ w F s, G.R w F s → ∀ k, F k → ∃ c t f, w.heap[k]? = some (.cells c t f) ∧ t ≠ 251
  only : ∀ w F s, G.R w F s → ∀ w' T, Only T w w' → (∀ k, F k → ¬ T k) → G.R w' F s
  H : ∀ w F s, G.R w F s → ∀ a n, 0 ≤ a → a < 18446744073709551616 → 0 ≤ n → n < 4294967296 → Calls Tryz.prog fH #[rc, .int .u64 a, .int .i64 n] w fun e w' => e = .returned (.bool (G.has s a n)) ∧ Below w.heap.size w w'
  Rd : ∀ w F s, G.R w F s → ∀ a z, 0 ≤ a → a < 18446744073709551616 → z = 2 ∨ z = 4 ∨ z = 8 → Calls Tryz.prog fR #[rc, .int .u64 a, .int .i64 z] w fun e w' => e = .returned (.tuple #[.int .u64 (G.rd s a z), .bool (G.ok s a z)]) ∧ Below w.heap.size w w'
  rb : ∀ w F s, G.R w F s → ∀ a, 0 ≤ a → (0 ≤ G.rd s a 2 ∧ G.rd s a 2 < 65536) ∧ (0 ≤ G.rd s a 4 ∧ G.rd s a 4 < 4294967296) ∧ 0 ≤ G.rd s a 8 ∧ G.rd s a 8 < 18446744073709551616
  W : ∀ w F s, G.R w F s → ∀ a z x, 0 ≤ a → a < 18446744073709551616 → z = 2 ∨ z = 4 → 0 ≤ x → x < 18446744073709551616 → Calls Tryz.prog fW #[rc, .int .u64 a, .int .i64 z, .int .u64 x] w fun e w' => e = .returned (.bool (G.wk s a z)) ∧ ∃ F', G.R w' F' (G.wr s a z x) ∧ Tx w F w' F'
/-- a queue's block -/
structure QV where
  sz : Int
  d : Int
  a : Int
  u : Int
  tk : Int
  gv : Int
  dead : Bool
def qc (v : QV) : Array Value := #[.int .i64 v.sz, .int .u64 v.d, .int .u64 v.a, .int .u64 v.u, .int .u16 v.tk, .int .u16 v.gv, .bool v.dead]
def Qb (w : World) (q : Nat) (v : QV) : Prop := w.heap[q]? = some (.cells (qc v) 251 (0, 0))
def isSz (z : Int) : Bool := z == 1 || z == 2 || z == 4 || z == 8 || z == 16 || z == 32 || z == 64
structure QOk (v : QV) : Prop where
  sz : v.sz = 0 ∨ isSz v.sz = true
  d : 0 ≤ v.d ∧ v.d < 1152921504606846976
  a : 0 ≤ v.a ∧ v.a < 1152921504606846976
  u : 0 ≤ v.u ∧ v.u < 1152921504606846976
  tk : 0 ≤ v.tk ∧ v.tk < 65536
  gv : 0 ≤ v.gv ∧ v.gv < 65536
def q0 : QV := ⟨0, 0, 0, 0, 0, 0, false⟩
theorem q0_ok : QOk q0 := ⟨.inl rfl, by decide, by decide, by decide, by decide, by decide⟩
theorem isSz_b {z : Int} (h : isSz z = true) : 1 ≤ z ∧ z ≤ 64 := by unfold isSz at h; simp at h; omega
theorem QOk.szb {v : QV} (h : QOk v) : 0 ≤ v.sz ∧ v.sz ≤ 64 := by
  rcases h.sz with e | e
  · omega
  · have := isSz_b e; omega
def QV.die (v : QV) : QV := { v with dead := true }
def QV.take (v : QV) : QV := { v with tk := (v.tk + 1) % 65536 }
def QV.give (v : QV) : QV := { v with gv := (v.gv + 1) % 65536 }
theorem QOk.die {v : QV} (h : QOk v) : QOk v.die := ⟨h.sz, h.d, h.a, h.u, h.tk, h.gv⟩
theorem QOk.take {v : QV} (h : QOk v) : QOk v.take := ⟨h.sz, h.d, h.a, h.u, by show 0 ≤ (v.tk + 1) % 65536 ∧ (v.tk + 1) % 65536 < 65536; omega, h.gv⟩
theorem QOk.give {v : QV} (h : QOk v) : QOk v.give := ⟨h.sz, h.d, h.a, h.u, h.tk, by show 0 ≤ (v.gv + 1) % 65536 ∧ (v.gv + 1) % 65536 < 65536; omega⟩
section
variable {w w' : World} {q : Nat} {v : QV}
theorem Qb.c0 (h : Qb w q v) : w.cell? ⟨q, 0, none⟩ = some (.int .i64 v.sz) := cell_of_row w q 0 _ _ _ h
theorem Qb.c1 (h : Qb w q v) : w.cell? ⟨q, 1, none⟩ = some (.int .u64 v.d) := cell_of_row w q 1 _ _ _ h
theorem Qb.c2 (h : Qb w q v) : w.cell? ⟨q, 2, none⟩ = some (.int .u64 v.a) := cell_of_row w q 2 _ _ _ h
theorem Qb.c3 (h : Qb w q v) : w.cell? ⟨q, 3, none⟩ = some (.int .u64 v.u) := cell_of_row w q 3 _ _ _ h
theorem Qb.c4 (h : Qb w q v) : w.cell? ⟨q, 4, none⟩ = some (.int .u16 v.tk) := cell_of_row w q 4 _ _ _ h
theorem Qb.c5 (h : Qb w q v) : w.cell? ⟨q, 5, none⟩ = some (.int .u16 v.gv) := cell_of_row w q 5 _ _ _ h
theorem Qb.c6 (h : Qb w q v) : w.cell? ⟨q, 6, none⟩ = some (.bool v.dead) := cell_of_row w q 6 _ _ _ h
theorem Qb.fz (h : Qb w q v) (i : Nat) : w.frozen? ⟨q, i, none⟩ = false := frozen_of_row w q i _ _ h
theorem Qb.lt (h : Qb w q v) : q < w.heap.size := lt_of_block h
theorem Qb.below (h : Qb w q v) (hb : Below w.heap.size w w') : Qb w' q v := (hb.block q h.lt).trans h
theorem Qb.only (h : Qb w q v) {T : Nat → Prop} (ho : Only T w w') (hn : ¬ T q) : Qb w' q v := ho.old h hn
end
theorem setRowB (w : World) (g k : Nat) (cs cs' : Array Value) (t : TypeId) (v : Value) (hg : w.heap[g]? = some (.cells cs t (0, 0))) (he : cs.setIfInBounds k v = cs') : (w.setCell ⟨g, k, none⟩ v).heap[g]? = some (.cells cs' t (0, 0)) := by
  rw [setCell_eq_setRow w g k cs t (0, 0) v hg, he]
  exact setRow_heap w g cs _ t _ hg
theorem only_c (w : World) (g k : Nat) (x : Value) : Only (· = g) w (w.setCell ⟨g, k, none⟩ x) := (Only.refl (S := (· = g)) w).setCell (.inl rfl) x
theorem s_que : (Tryz.prog.info? 251).map (·.size) = some 7 := by kernel_rfl
theorem qc_one (v : QV) : (qc v).all (·.oneCell') = true := by
  rw [Array.all_eq_true_iff_forall_mem]; intro x hx; simp [qc] at hx; rcases hx with rfl | rfl | rfl | rfl | rfl | rfl | rfl <;> rfl
theorem wpL_stQ {ops : Array Oper} {rest : List Oper} {d : Option Nat} {ty : TypeId} {x y : Operand} {pos : String} {after : Array Edge} {Q : Exit → Act → World → Prop} {a : Act} {w : World} (g : Nat) (v v' : QV) (hx : a.eval x = .pointer (some ⟨g, 0, none⟩)) (hy : a.eval y = .agg (qc v'))
    (hg : Qb w g v) (hK : wpList Tryz.prog ops Q rest (a.put d undef) (w.setRow g (qc v'))) :
    wpList Tryz.prog ops Q ({ dst := d, op := Op.store 251 x y, type := ty, pos := pos, after := after, guard := none } :: rest) a w :=
  wpList_store_row rfl 251 x y rfl g _ hx hy 251 _ hg s_que rfl (qc_one v') hK
theorem results_pair {P : Program} {fn : Func} {p u : Tmp} {ty : TypeId} (h : fn.results = #[.cell p ty, .tmp u]) (tmps : Array Value) (w : World) (g : Nat) (t : TypeId) (cs : Array Value) (fr : Nat × Nat) (d : TypeDesc)
    (hp : tmps.getD p undef = .pointer (some ⟨g, 0, none⟩)) (hg : w.heap[g]? = some (.cells cs t fr))
    (hu : P.underlying ty = some d) (hd : (match d with | .struct _ | .array _ _ => true | _ => false) = true) (hi : (P.info? ty).map (·.size) = some cs.size) (x : Value) (hx : tmps.getD u undef = x) :
    (results fn tmps).run P w = .ok (.tuple #[.agg cs, x]) w := by
  rw [results_cell_tmp h, hp, hx]
  simp [asAddr, run_loadVar_row w g t ty cs fr d hg hu hd hi, Result.andThen]
theorem results_cell_tmp2 {fn : Func} {p u u2 : Tmp} {ty : TypeId} (h : fn.results = #[.cell p ty, .tmp u, .tmp u2]) (tmps : Array Value) (P : Program) (w : World) :
    (results fn tmps).run P w = ((asAddr (tmps.getD p undef) >>= loadVar ty >>= fun v => pure (.tuple #[v, tmps.getD u undef, tmps.getD u2 undef])) : Sem Value).run P w := by
  simp [results, h]
theorem results_trip {P : Program} {fn : Func} {p u u2 : Tmp} {ty : TypeId} (h : fn.results = #[.cell p ty, .tmp u, .tmp u2]) (tmps : Array Value) (w : World) (g : Nat) (t : TypeId) (cs : Array Value) (fr : Nat × Nat) (d : TypeDesc)
    (hp : tmps.getD p undef = .pointer (some ⟨g, 0, none⟩)) (hg : w.heap[g]? = some (.cells cs t fr))
    (hu : P.underlying ty = some d) (hd : (match d with | .struct _ | .array _ _ => true | _ => false) = true) (hi : (P.info? ty).map (·.size) = some cs.size) (x y : Value) (hx : tmps.getD u undef = x) (hy : tmps.getD u2 undef = y) :
    (results fn tmps).run P w = .ok (.tuple #[.agg cs, x, y]) w := by
  rw [results_cell_tmp2 h, hp, hx, hy]
  simp [asAddr, run_loadVar_row w g t ty cs fr d hg hu hd hi, Result.andThen]
theorem below_row {w wa : World} (h : Below w.heap.size w wa) {g : Nat} (hg : w.heap.size ≤ g) (c : Array Value) : Below w.heap.size w (wa.setRow g c) :=
  ⟨h.os, h.tape, h.output, by have := h.size; simpa [World.setRow] using this, fun k hk => (Go.setRow_other wa g k c (by omega)).trans (h.block k hk)⟩
theorem u_dsc : Tryz.prog.underlying 388 = some (.struct (Tryz.prog.fieldsOf 388)) := by kernel_rfl
theorem s_dsc : (Tryz.prog.info? 388).map (·.size) = some 4 := by kernel_rfl
theorem u_chn : Tryz.prog.underlying 265 = some (.struct (Tryz.prog.fieldsOf 265)) := by kernel_rfl
theorem s_chn : (Tryz.prog.info? 265).map (·.size) = some 3 := by kernel_rfl
theorem u_seg : Tryz.prog.underlying 283 = some (.struct (Tryz.prog.fieldsOf 283)) := by kernel_rfl
theorem s_seg : (Tryz.prog.info? 283).map (·.size) = some 2 := by kernel_rfl
theorem u_sseg : Tryz.prog.underlying 263 = some (.slice 283) := by kernel_rfl
theorem info_seg : (Tryz.prog.info? 283).map (fun i => (i.zero, i.size, i.bytes)) = some (some (.agg #[.int .u64 0, .int .i64 0]), 2, 16) := by kernel_rfl
/-- a chain's cells -/
def cc (h : Int) (r x : Value) : Array Value := #[.int .i64 h, r, x]
def Sli : Value → Prop
  | .slice _ _ _ => True
  | _ => False
theorem Sli.one {x : Value} (h : Sli x) : x.oneCell' = true := by
  cases x <;> first | exact h.elim | rfl
theorem wpL_stC {ops : Array Oper} {rest : List Oper} {d : Option Nat} {ty : TypeId} {x y : Operand} {pos : String} {after : Array Edge} {Q : Exit → Act → World → Prop} {a : Act} {w : World} (g : Nat) (h : Int) (r z : Value) (hr : Sli r) (hz : Sli z) (hx : a.eval x = .pointer (some ⟨g, 0, none⟩)) (hy : a.eval y = .agg (cc h r z)) {h0 : Int} {r0 z0 : Value}
    (hg : w.heap[g]? = some (.cells (cc h0 r0 z0) 265 (0, 0))) (hK : wpList Tryz.prog ops Q rest (a.put d undef) (w.setRow g (cc h r z))) :
    wpList Tryz.prog ops Q ({ dst := d, op := Op.store 265 x y, type := ty, pos := pos, after := after, guard := none } :: rest) a w :=
  wpList_store_row rfl 265 x y rfl g _ hx hy 265 _ hg s_chn rfl (by rw [Array.all_eq_true_iff_forall_mem]; intro v hv; simp [cc] at hv; rcases hv with rfl | rfl | rfl <;> first | rfl | exact hr.one | exact hz.one) hK
theorem wpL_ldC {ops : Array Oper} {rest : List Oper} {d : Option Nat} {ty : TypeId} {x : Operand} {pos : String} {after : Array Edge} {Q : Exit → Act → World → Prop} {a : Act} {w : World} (g : Nat) (h : Int) (r z : Value) (hx : a.eval x = .pointer (some ⟨g, 0, none⟩))
    (hg : w.heap[g]? = some (.cells (cc h r z) 265 (0, 0))) (hK : wpList Tryz.prog ops Q rest (a.put d (.agg (cc h r z))) w) :
    wpList Tryz.prog ops Q ({ dst := d, op := Op.load 265 x, type := ty, pos := pos, after := after, guard := none } :: rest) a w :=
  wpList_load_row rfl 265 x rfl g hx 265 _ _ _ hg u_chn rfl s_chn hK
theorem wpL_ldD {ops : Array Oper} {rest : List Oper} {d : Option Nat} {ty : TypeId} {x : Operand} {pos : String} {after : Array Edge} {Q : Exit → Act → World → Prop} {a : Act} {w : World} (g : Nat) (c0 c1 c2 c3 : Int) (hx : a.eval x = .pointer (some ⟨g, 0, none⟩))
    (hg : w.heap[g]? = some (.cells #[.int .u64 c0, .int .u32 c1, .int .u16 c2, .int .u16 c3] 388 (0, 0))) (hK : wpList Tryz.prog ops Q rest (a.put d (.agg #[.int .u64 c0, .int .u32 c1, .int .u16 c2, .int .u16 c3])) w) :
    wpList Tryz.prog ops Q ({ dst := d, op := Op.load 388 x, type := ty, pos := pos, after := after, guard := none } :: rest) a w :=
  wpList_load_row rfl 388 x rfl g hx 388 _ _ _ hg u_dsc rfl s_dsc hK
end Go.Proofs.YtjkihlpckgaggaaGreat
namespace Go.Proofs.YtjkihlpckgaggaaGreat
open Go.RowKit Go.ChangeMaps Go.MapKept
open C (Only hid Still ret_bool)
set_option linter.unusedVariables false
set_option maxRecDepth 100000

/-- a device: kind, selections, accepted, status, interrupts; its lists -/
structure DV where
  kd : Int
  so : Int
  sa : Int
  sq : Int
  a0 : Int
  a1 : Int
  st : Int
  it : Int
  qs : Value
  dk : Value
  ci : Value
  co : Value
  ni : Value
  ns : Value
def DV.cells (v : DV) (d s : Int) (k : Value) : Array Value := #[.int .i64 v.kd, .int .u32 v.so, .int .u32 v.sa, .int .u32 v.sq, .int .u32 v.a0, .int .u32 v.a1, .int .u32 v.st, .int .u32 v.it, v.qs, v.dk, v.ci, v.co, v.ni, v.ns, .int .u32 d, .int .i32 s, .int .u32 0, k]
def pE (e k : Nat) : Value := .pointer (some ⟨e, k, none⟩)
/-- what a kind does with the chains of its queues -/
def dB (e : Nat) : Nat → Array Value
  | 0 => #[.func (.func 77) #[] #[], .func (.func 78) #[.pointer (some ⟨e, 9, none⟩)] #[]]
  | 1 => #[.func (.func 80) #[.pointer (some ⟨e, 10, none⟩)] #[], .func (.func 81) #[.pointer (some ⟨e, 10, none⟩)] #[], .func (.func 77) #[] #[], .func (.func 82) #[.pointer (some ⟨e, 10, none⟩)] #[]]
  | _ => #[.func (.func 84) #[.pointer (some ⟨e, 12, none⟩)] #[], .func (.func 85) #[.pointer (some ⟨e, 12, none⟩)] #[], .func (.func 77) #[] #[], .func (.func 86) #[.pointer (some ⟨e, 12, none⟩)] #[]]
/-- a trade -/
def trV (e : Nat) (b : Nat → Nat) : Nat → Value
  | 0 => .agg #[.slice (some ⟨b 0, 0, none⟩) 1 1, .func (.func 79) #[.pointer (some ⟨e, 9, none⟩)] #[]]
  | 1 => .agg #[.slice (some ⟨b 1, 0, none⟩) 2 2, .func (.func 83) #[.pointer (some ⟨e, 10, none⟩)] #[]]
  | 2 => .agg #[.slice (some ⟨b 2, 0, none⟩) 2 2, .func (.func 87) #[.pointer (some ⟨e, 12, none⟩)] #[]]
  | _ => undef
def kyI : Nat → Int
  | 0 => 2
  | 1 => 1
  | _ => 3
theorem kyI_inj {i j : Nat} (hi : i < 3) (hj : j < 3) (h : kyI i = kyI j) : i = j := by
  match i, j, hi, hj with
  | 0, 0, _, _ => rfl
  | 1, 1, _, _ => rfl
  | 2, 2, _, _ => rfl
  | 0, 1, _, _ => simp [kyI] at h
  | 0, 2, _, _ => simp [kyI] at h
  | 1, 0, _, _ => simp [kyI] at h
  | 1, 2, _, _ => simp [kyI] at h
  | 2, 0, _, _ => simp [kyI] at h
  | 2, 1, _, _ => simp [kyI] at h
/-- the entries that were laid (f), and no others, in whatever order -/
def TabP (e : Nat) (b : Nat → Nat) (es : Array MapEntry) (f : Nat → Bool) : Prop := (∀ x, x ∈ es.toList → ∃ i, i < 3 ∧ f i = true ∧ x.key = .int .i64 (kyI i) ∧ x.val = trV e b i) ∧ ∀ i, i < 3 → f i = true → ∃ x, x ∈ es.toList ∧ x.key = .int .i64 (kyI i)
section
variable {e : Nat} {b : Nat → Nat} {es : Array MapEntry} {f : Nat → Bool}
theorem TabP.keys (h : TabP e b es f) : ∀ x ∈ es.toList, IsKey (.int .i64) x.key := fun x hx => by
  obtain ⟨i, -, -, h, -⟩ := h.1 x hx
  rw [h]; simp [IsKey]
theorem TabP.find (h : TabP e b es f) (i : Nat) (hi : i < 3) (hb : f i = true) : ∃ j, Instr.findNow (.int .i64) (.int .i64 (kyI i)) es.toList 0 = some (some (j, trV e b i)) := by
  rcases findNow_spec (d := .int .i64) (k := .int .i64 (kyI i)) (by simp [IsKey]) es.toList 0 h.keys with ⟨-, h2⟩ | ⟨j, x, h1, h2, h3⟩
  · obtain ⟨x, hx, hk⟩ := h.2 i hi hb
    exact absurd hk (h2 x hx)
  · obtain ⟨i', hi', -, hk, hv⟩ := h.1 x (List.mem_of_getElem? h2)
    rw [h3] at hk
    injection hk with _ hk
    obtain rfl := kyI_inj hi hi' hk
    exact ⟨_, by rw [h1, hv]⟩
theorem TabP.miss (h : TabP e b es f) (k : Int) (hk : ∀ i : Nat, i < 3 → f i = true → k ≠ kyI i) : Instr.findNow (.int .i64) (.int .i64 k) es.toList 0 = some none := by
  rcases findNow_spec (d := .int .i64) (k := .int .i64 k) (by simp [IsKey]) es.toList 0 h.keys with ⟨h1, -⟩ | ⟨j, x, h1, h2, h3⟩
  · exact h1
  · obtain ⟨i', p, q, hh, hv⟩ := h.1 x (List.mem_of_getElem? h2)
    rw [h3] at hh
    injection hh with _ hh
    exact absurd hh (hk i' p q)
theorem TabP.push (h : TabP e b es f) {f' : Nat → Bool} (i : Nat) (hi : i < 3) (c : Nat) (hb : ∀ j, j < 3 → f' j = if j = i then true else f j) : TabP e b (es.push ⟨.int .i64 (kyI i), trV e b i, c⟩) f' := by
  refine ⟨fun x hx => ?_, fun j hj q => ?_⟩
  · rw [Array.toList_push, List.mem_append] at hx
    rcases hx with hx | hx
    · obtain ⟨j, h1, h2, h3, h4⟩ := h.1 x hx
      exact ⟨j, h1, by rw [hb j h1]; split; rfl; exact h2, h3, h4⟩
    · obtain rfl : x = ⟨.int .i64 (kyI i), trV e b i, c⟩ := by simpa using hx
      exact ⟨i, hi, by rw [hb i hi, if_pos rfl], rfl, rfl⟩
  · by_cases e1 : j = i
    · subst e1; exact ⟨⟨.int .i64 (kyI j), trV e b j, c⟩, by simp, rfl⟩
    · rw [hb j hj, if_neg e1] at q
      obtain ⟨x, h1, h2⟩ := h.2 j hj q
      exact ⟨x, by rw [Array.toList_push]; exact List.mem_append_left _ h1, h2⟩
theorem TabP.nil (b : Nat → Nat) (hb : ∀ j, j < 3 → f j = false) : TabP e b #[] f := ⟨fun x hx => by simp at hx, fun i hi q => by rw [hb i hi] at q; cases q⟩
theorem trV_b {b b' : Nat → Nat} {i : Nat} (h : b i = b' i) : trV e b i = trV e b' i := by
  match i, h with
  | 0, h => simp only [trV, h]
  | 1, h => simp only [trV, h]
  | 2, h => simp only [trV, h]
  | _ + 3, _ => rfl
theorem TabP.congr (h : TabP e b es f) {b' : Nat → Nat} {f' : Nat → Bool} (hf : ∀ i, i < 3 → f i = f' i) (hb : ∀ i, i < 3 → f i = true → b i = b' i) : TabP e b' es f' :=
  ⟨fun x hx => by
    obtain ⟨i, h1, h2, h3, h4⟩ := h.1 x hx
    exact ⟨i, h1, (hf i h1).symm.trans h2, h3, h4.trans (trV_b (hb i h1 h2))⟩, fun i hi q => h.2 i hi ((hf i hi).trans q)⟩
end
/-- the table, and what each kind does with the chains -/
def Tab (w : World) (M e : Nat) (b : Nat → Nat) : Prop := (∃ es c, w.heap[M]? = some (.map es c) ∧ TabP e b es (fun _ => true)) ∧ ∀ i, i < 3 → w.heap[b i]? = some (.cells (dB e i) 257 (0, 0))
/-- a device, its table made or not -/
def Dv (w : World) (e : Nat) (v : DV) : Prop := w.heap[e]? = some (.cells (v.cells 0 0 (.map none)) 225 (0, 0)) ∨ ∃ M b, w.heap[e]? = some (.cells (v.cells 1 0 (.map (some M))) 225 (0, 0)) ∧ Tab w M e b
section
variable {w w' : World} {e : Nat} {v : DV}
theorem Dv.blk (h : Dv w e v) : ∃ d k, w.heap[e]? = some (.cells (v.cells d 0 k) 225 (0, 0)) := by
  rcases h with h | ⟨M, b, h, _⟩
  · exact ⟨_, _, h⟩
  · exact ⟨_, _, h⟩
theorem Dv.lt (h : Dv w e v) : e < w.heap.size := by obtain ⟨d, k, h⟩ := h.blk; exact lt_of_block h
theorem Dv.z (h : Dv w e v) (k : Nat) : w.frozen? ⟨e, k, none⟩ = false := by obtain ⟨d, x, h⟩ := h.blk; exact frozen_of_row _ _ k _ _ h
theorem Dv.c0 (h : Dv w e v) : w.cell? ⟨e, 0, none⟩ = some (.int .i64 v.kd) := by obtain ⟨d, x, h⟩ := h.blk; exact cell_of_row w e 0 _ _ _ h
theorem Dv.c1 (h : Dv w e v) : w.cell? ⟨e, 1, none⟩ = some (.int .u32 v.so) := by obtain ⟨d, x, h⟩ := h.blk; exact cell_of_row w e 1 _ _ _ h
theorem Dv.c2 (h : Dv w e v) : w.cell? ⟨e, 2, none⟩ = some (.int .u32 v.sa) := by obtain ⟨d, x, h⟩ := h.blk; exact cell_of_row w e 2 _ _ _ h
theorem Dv.c3 (h : Dv w e v) : w.cell? ⟨e, 3, none⟩ = some (.int .u32 v.sq) := by obtain ⟨d, x, h⟩ := h.blk; exact cell_of_row w e 3 _ _ _ h
theorem Dv.c4 (h : Dv w e v) : w.cell? ⟨e, 4, none⟩ = some (.int .u32 v.a0) := by obtain ⟨d, x, h⟩ := h.blk; exact cell_of_row w e 4 _ _ _ h
theorem Dv.c5 (h : Dv w e v) : w.cell? ⟨e, 5, none⟩ = some (.int .u32 v.a1) := by obtain ⟨d, x, h⟩ := h.blk; exact cell_of_row w e 5 _ _ _ h
theorem Dv.c6 (h : Dv w e v) : w.cell? ⟨e, 6, none⟩ = some (.int .u32 v.st) := by obtain ⟨d, x, h⟩ := h.blk; exact cell_of_row w e 6 _ _ _ h
theorem Dv.c7 (h : Dv w e v) : w.cell? ⟨e, 7, none⟩ = some (.int .u32 v.it) := by obtain ⟨d, x, h⟩ := h.blk; exact cell_of_row w e 7 _ _ _ h
theorem Dv.c8 (h : Dv w e v) : w.cell? ⟨e, 8, none⟩ = some v.qs := by obtain ⟨d, x, h⟩ := h.blk; exact cell_of_row w e 8 _ _ _ h
theorem Dv.c9 (h : Dv w e v) : w.cell? ⟨e, 9, none⟩ = some v.dk := by obtain ⟨d, x, h⟩ := h.blk; exact cell_of_row w e 9 _ _ _ h
theorem Dv.c10 (h : Dv w e v) : w.cell? ⟨e, 10, none⟩ = some v.ci := by obtain ⟨d, x, h⟩ := h.blk; exact cell_of_row w e 10 _ _ _ h
theorem Dv.c11 (h : Dv w e v) : w.cell? ⟨e, 11, none⟩ = some v.co := by obtain ⟨d, x, h⟩ := h.blk; exact cell_of_row w e 11 _ _ _ h
theorem Dv.c12 (h : Dv w e v) : w.cell? ⟨e, 12, none⟩ = some v.ni := by obtain ⟨d, x, h⟩ := h.blk; exact cell_of_row w e 12 _ _ _ h
theorem Dv.c13 (h : Dv w e v) : w.cell? ⟨e, 13, none⟩ = some v.ns := by obtain ⟨d, x, h⟩ := h.blk; exact cell_of_row w e 13 _ _ _ h
end
/-- no table is among what turns: cells alone, and none of deeds -/
def CellsOnly (w : World) (T : Nat → Prop) : Prop := ∀ k, T k → ∃ c t f, w.heap[k]? = some (.cells c t f) ∧ t ≠ 257
theorem Tab.only {w w' : World} {M e : Nat} {b : Nat → Nat} (h : Tab w M e b) {T : Nat → Prop} (ho : Only T w w') (hT : CellsOnly w T) : Tab w' M e b := by
  obtain ⟨⟨es, n, k, kk⟩, hb⟩ := h
  refine ⟨⟨es, n, ho.old k fun q => ?_, kk⟩, fun i hi => ho.old (hb i hi) fun q => ?_⟩
  · obtain ⟨a, b, d, e, -⟩ := hT M q
    rw [k] at e
    cases e
  · obtain ⟨a, t, d, e, ht⟩ := hT _ q
    rw [hb i hi] at e
    injection e with e
    injection e with _ e1
    exact ht e1.symm
theorem Dv.only {w w' : World} {e : Nat} {v : DV} (h : Dv w e v) {T : Nat → Prop} (ho : Only T w w') (hc : ¬ T e) (hT : CellsOnly w T) : Dv w' e v := by
  rcases h with h | ⟨M, b, h, k⟩
  · exact .inl (ho.old h hc)
  · exact .inr ⟨M, b, ho.old h hc, k.only ho hT⟩
theorem Dv.below {w w' : World} {e : Nat} {v : DV} (h : Dv w e v) (hb : Below w.heap.size w w') : Dv w' e v :=
  h.only (T := fun _ => False) (.ofBelow hb) (fun q => q) (fun _ q => q.elim)
/-- a place of the device is written -/
theorem Dv.put {w : World} {e : Nat} {v v' : DV} (h : Dv w e v) (k : Nat) (x : Value) (hc : ∀ d s m, (v.cells d s m).setIfInBounds k x = v'.cells d s m) : Dv (w.setCell ⟨e, k, none⟩ x) e v' := by
  rcases h with h | ⟨M, b, h, hT⟩
  · exact .inl (setRowB w e k _ _ 225 x h (hc _ _ _))
  · refine .inr ⟨M, b, setRowB w e k _ _ 225 x h (hc _ _ _), hT.only (T := (· = e)) (only_c w e k x) fun j hj => ?_⟩
    subst hj
    exact ⟨_, _, _, h, (by decide)⟩
/-- a swap of values while what hangs on them is not listed -/
theorem FrK.swapD {ops : Array Oper} {vt vt' : Nat → Value} {t0 : Array Value} {listed : Array Bool} {a : Act} (h : FrK ops vt t0 listed a) (hn : ndB ops = true) (hv : ∀ d, vt d = vt' d ∨ ∃ j o, ops[j]? = some o ∧ o.dst = some d ∧ listed.getD j false = false) : FrK ops vt' t0 listed a := h.swap fun j o d hj hd hl => by
  rcases hv d with e | ⟨i, p, hi, hp, hli⟩
  · exact e
  · have := ndB_spec hn hj hi hd hp
    subst this
    rw [hl] at hli; cases hli
theorem not_yet {ops : Array Oper} {listed : Array Bool} (hC : Cl ops listed) {i j : Nat} {o : Oper} (hi : listed.getD i false = false) (ho : ops[j]? = some o) (e : Edge) (he : e ∈ o.after) (hon : e.on = i) (hb : Region.binds .any e = true) : listed.getD j false = false := by
  cases z : listed.getD j false
  · rfl
  · have := hC j o ho z e he hb
    rw [hon, hi] at this; cases this
/-- an entry more -/
theorem ins_at {P : Program} {t ke el : TypeId} {kd : IntKind} (hU : P.underlying t = some (.map ke el)) (hK : P.underlying ke = some (.int kd)) (W : World) (es : Array MapEntry) (c m : Nat) (k : Int) (v : Value) (hm : W.heap[m]? = some (.map es c))
    (hn : Instr.findNow (.int kd) (.int kd k) es.toList 0 = some none) :
    (Instr.mapUpdate t (.map (some m)) (.int kd k) v).run P W = .ok () { W with heap := W.heap.setIfInBounds m (.map (es.push ⟨.int kd k, v, c⟩) (c + 1)) } := by
  have hkey : IsKey (.int kd) (.int kd k) := by simp [IsKey]
  simp [Instr.mapUpdate, run_underlying hU, MapKept.run_getObj_map hm, run_checkKey hK hkey, run_findKey hK hn, MapKept.run_setObj_map _ hm, Result.andThen]
end Go.Proofs.YtjkihlpckgaggaaGreat
namespace Go.Proofs.YtjkihlpckgaggaaGreat
open Go.RowKit Go.ChangeMaps Go.MapKept
open C (Only hid)
set_option linter.unusedVariables false
set_option maxRecDepth 100000

theorem u_tmap : Tryz.prog.underlying 223 = some (.map 3 229) := by kernel_rfl
theorem u_tint : Tryz.prog.underlying 3 = some (.int .i64) := by kernel_rfl
theorem u_sdeed : Tryz.prog.underlying 226 = some (.slice 257) := by kernel_rfl
theorem info_deed : (Tryz.prog.info? 257).map (fun i => (i.zero, i.size, i.bytes)) = some (some (.agg #[.nilFunc, .nilFunc]), 2, 16) := by kernel_rfl
structure LX where
  m : Nat
  b : Nat → Nat
  es : Array MapEntry
  c : Nat
def upb (b : Nat → Nat) (i n : Nat) : Nat → Nat := fun j => if j = i then n else b j
def ixI : Nat → Nat
  | 0 => 13
  | 1 => 34
  | 2 => 55
  | _ => 99
def ixB : Nat → Nat
  | 0 => 7
  | 1 => 28
  | 2 => 49
  | _ => 99
def vtL (e : Nat) (x : LX) : Nat → Value := fun dd => if dd = 2 then .pointer (some ⟨e, 0, none⟩) else if dd = 3 then .map (some x.m) else if dd = 4 then .pointer (some ⟨e, 0, none⟩) else if dd = 5 then .pointer (some ⟨e, 0, none⟩) else if dd = 6 then .pointer (some ⟨e, 9, none⟩) else if dd = 7 then .func (.func 78) #[.pointer (some ⟨e, 9, none⟩)] #[] else if dd = 8 then .agg #[.func (.func 77) #[] #[], .func (.func 78) #[.pointer (some ⟨e, 9, none⟩)] #[]] else if dd = 9 then .slice (some ⟨x.b 0, 0, none⟩) 1 1 else if dd = 10 then .pointer (some ⟨e, 0, none⟩) else if dd = 11 then .pointer (some ⟨e, 0, none⟩) else if dd = 12 then .pointer (some ⟨e, 9, none⟩) else if dd = 13 then .func (.func 79) #[.pointer (some ⟨e, 9, none⟩)] #[] else if dd = 14 then .agg #[.slice (some ⟨x.b 0, 0, none⟩) 1 1, .func (.func 79) #[.pointer (some ⟨e, 9, none⟩)] #[]] else if dd = 15 then .pointer (some ⟨e, 0, none⟩) else if dd = 16 then .pointer (some ⟨e, 0, none⟩) else if dd = 17 then .pointer (some ⟨e, 10, none⟩) else if dd = 18 then .func (.func 80) #[.pointer (some ⟨e, 10, none⟩)] #[] else if dd = 19 then .pointer (some ⟨e, 0, none⟩) else if dd = 20 then .pointer (some ⟨e, 0, none⟩) else if dd = 21 then .pointer (some ⟨e, 10, none⟩) else if dd = 22 then .func (.func 81) #[.pointer (some ⟨e, 10, none⟩)] #[] else if dd = 23 then .agg #[.func (.func 80) #[.pointer (some ⟨e, 10, none⟩)] #[], .func (.func 81) #[.pointer (some ⟨e, 10, none⟩)] #[]] else if dd = 24 then .pointer (some ⟨e, 0, none⟩) else if dd = 25 then .pointer (some ⟨e, 0, none⟩) else if dd = 26 then .pointer (some ⟨e, 10, none⟩) else if dd = 27 then .func (.func 82) #[.pointer (some ⟨e, 10, none⟩)] #[] else if dd = 28 then .agg #[.func (.func 77) #[] #[], .func (.func 82) #[.pointer (some ⟨e, 10, none⟩)] #[]] else if dd = 29 then .slice (some ⟨x.b 1, 0, none⟩) 2 2 else if dd = 30 then .pointer (some ⟨e, 0, none⟩) else if dd = 31 then .pointer (some ⟨e, 0, none⟩) else if dd = 32 then .pointer (some ⟨e, 10, none⟩) else if dd = 33 then .func (.func 83) #[.pointer (some ⟨e, 10, none⟩)] #[] else if dd = 34 then .agg #[.slice (some ⟨x.b 1, 0, none⟩) 2 2, .func (.func 83) #[.pointer (some ⟨e, 10, none⟩)] #[]] else if dd = 35 then .pointer (some ⟨e, 0, none⟩) else if dd = 36 then .pointer (some ⟨e, 0, none⟩) else if dd = 37 then .pointer (some ⟨e, 12, none⟩) else if dd = 38 then .func (.func 84) #[.pointer (some ⟨e, 12, none⟩)] #[] else if dd = 39 then .pointer (some ⟨e, 0, none⟩) else if dd = 40 then .pointer (some ⟨e, 0, none⟩) else if dd = 41 then .pointer (some ⟨e, 12, none⟩) else if dd = 42 then .func (.func 85) #[.pointer (some ⟨e, 12, none⟩)] #[] else if dd = 43 then .agg #[.func (.func 84) #[.pointer (some ⟨e, 12, none⟩)] #[], .func (.func 85) #[.pointer (some ⟨e, 12, none⟩)] #[]] else if dd = 44 then .pointer (some ⟨e, 0, none⟩) else if dd = 45 then .pointer (some ⟨e, 0, none⟩) else if dd = 46 then .pointer (some ⟨e, 12, none⟩) else if dd = 47 then .func (.func 86) #[.pointer (some ⟨e, 12, none⟩)] #[] else if dd = 48 then .agg #[.func (.func 77) #[] #[], .func (.func 86) #[.pointer (some ⟨e, 12, none⟩)] #[]] else if dd = 49 then .slice (some ⟨x.b 2, 0, none⟩) 2 2 else if dd = 50 then .pointer (some ⟨e, 0, none⟩) else if dd = 51 then .pointer (some ⟨e, 0, none⟩) else if dd = 52 then .pointer (some ⟨e, 12, none⟩) else if dd = 53 then .func (.func 87) #[.pointer (some ⟨e, 12, none⟩)] #[] else if dd = 54 then .agg #[.slice (some ⟨x.b 2, 0, none⟩) 2 2, .func (.func 87) #[.pointer (some ⟨e, 12, none⟩)] #[]] else if dd = 55 then .map (some x.m) else if dd = 56 then .pointer (some ⟨e, 0, none⟩) else if dd = 57 then .pointer (some ⟨e, 17, none⟩) else undef
/-- as far as the table is made -/
structure LW (w0 : World) (e : Nat) (x : LX) (listed : Array Bool) (w : World) : Prop where
  bel : Below w0.heap.size w0 w
  mp : listed.getD 1 false = true → w.heap[x.m]? = some (.map x.es x.c)
  mb : listed.getD 1 false = true → w0.heap.size ≤ x.m
  nm : listed.getD 1 false = false → x.es = #[] ∧ ∀ i, i < 3 → listed.getD (ixI i) false = false
  tb : TabP e x.b x.es (fun i => listed.getD (ixI i) false)
  ib : ∀ i, i < 3 → listed.getD (ixI i) false = true → listed.getD (ixB i) false = true
  bl : ∀ i, i < 3 → listed.getD (ixB i) false = true → w.heap[x.b i]? = some (.cells (dB e i) 257 (0, 0))
structure LV (w0 : World) (e : Nat) (x : LX) (listed : Array Bool) (w : World) : Prop where
  z : listed.getD 59 false = false → LW w0 e x listed w
  f : listed.getD 59 false = true → (∀ j, j < 59 → listed.getD j false = true) ∧ ∃ w1, LW w0 e x listed w1 ∧ w = w1.setCell ⟨e, 17, none⟩ (.map (some x.m))
def qB (j : Nat) : Bool := !([1, 7, 13, 28, 34, 49, 55].contains j) && decide (j < 59)
theorem qB_ne {j k : Nat} (h : qB j = true) (hk : [1, 7, 13, 28, 34, 49, 55, 59].contains k = true) : k ≠ j := fun e => by
  subst e
  unfold qB at h
  simp at h hk
  omega
theorem ix_in (i : Nat) (hi : i < 3) : [1, 7, 13, 28, 34, 49, 55, 59].contains (ixI i) = true ∧ [1, 7, 13, 28, 34, 49, 55, 59].contains (ixB i) = true := by
  match i, hi with
  | 0, _ => decide
  | 1, _ => decide
  | 2, _ => decide
section
variable {w0 w : World} {e : Nat} {x : LX} {listed : Array Bool}
theorem LW.q (h : LW w0 e x listed w) {j : Nat} (hs : j < listed.size) (hq : qB j = true) : LW w0 e x (listed.setIfInBounds j true) w := by
  have g : ∀ k, [1, 7, 13, 28, 34, 49, 55, 59].contains k = true → (listed.setIfInBounds j true).getD k false = listed.getD k false := fun k hk => by rw [getD_set _ _ _ hs, if_neg (qB_ne hq hk)]
  refine ⟨h.bel, ?_, ?_, ?_, ?_, ?_, ?_⟩
  · rw [g 1 (by decide)]; exact h.mp
  · rw [g 1 (by decide)]; exact h.mb
  · rw [g 1 (by decide)]; exact fun z => ⟨(h.nm z).1, fun i hi => by rw [g _ (ix_in i hi).1]; exact (h.nm z).2 i hi⟩
  · exact h.tb.congr (fun i hi => (g _ (ix_in i hi).1).symm) (fun _ _ _ => rfl)
  · intro i hi; rw [g _ (ix_in i hi).1, g _ (ix_in i hi).2]; exact h.ib i hi
  · intro i hi; rw [g _ (ix_in i hi).2]; exact h.bl i hi
theorem LV.pre (h : LV w0 e x listed w) {j : Nat} (hl : listed.getD j false = false) (hj : j < 59) : listed.getD 59 false = false ∧ LW w0 e x listed w := by
  cases z : listed.getD 59 false
  · exact ⟨rfl, h.z z⟩
  · have := (h.f z).1 j hj
    rw [hl] at this; cases this
theorem LV.mk0 {j : Nat} (hs : j < listed.size) (hL : listed.getD 59 false = false) (h : LW w0 e x (listed.setIfInBounds j true) w) (hj : 59 ≠ j := by decide) : LV w0 e x (listed.setIfInBounds j true) w :=
  ⟨fun _ => h, fun z => by rw [getD_set _ _ _ hs, if_neg hj, hL] at z; cases z⟩
theorem LV.q (h : LV w0 e x listed w) {j : Nat} (hs : j < listed.size) (hl : listed.getD j false = false) (hq : qB j = true) : LV w0 e x (listed.setIfInBounds j true) w := by
  have hj : j < 59 := by unfold qB at hq; simp at hq; omega
  obtain ⟨h1, h2⟩ := h.pre hl hj
  exact LV.mk0 hs h1 (h2.q hs hq) (by omega)
theorem LW.map (h : LW w0 e x listed w) (hs : 1 < listed.size) (hl : listed.getD 1 false = false) : LW w0 e { x with m := w.heap.size, es := #[], c := 0 } (listed.setIfInBounds 1 true) (w.alloc (.map #[] 0)) := by
  obtain ⟨h1, h2⟩ := h.nm hl
  have g : ∀ k, k ≠ 1 → (listed.setIfInBounds 1 true).getD k false = listed.getD k false := fun k hk => by rw [getD_set _ _ _ hs, if_neg hk]
  have n1 : ∀ i, i < 3 → ixI i ≠ 1 ∧ ixB i ≠ 1 := fun i hi => by match i, hi with | 0, _ => decide | 1, _ => decide | 2, _ => decide
  refine ⟨h.bel.alloc h.bel.size _, fun _ => heap_alloc_new w _, fun _ => h.bel.size, fun z => ?_, TabP.nil _ fun i hi => ?_, ?_, ?_⟩
  · rw [getD_set _ _ _ hs, if_pos rfl] at z; cases z
  · rw [g _ (n1 i hi).1]; exact h2 i hi
  · intro i hi; rw [g _ (n1 i hi).1, g _ (n1 i hi).2]; exact h.ib i hi
  · intro i hi q; rw [g _ (n1 i hi).2] at q
    exact (heap_alloc_old w _ (lt_of_block (h.bl i hi q))).trans (h.bl i hi q)
theorem ixB_inj {i j : Nat} (hi : i < 3) (hj : j < 3) (h : ixB i = ixB j) : i = j := by
  match i, j, hi, hj with
  | 0, 0, _, _ => rfl
  | 1, 1, _, _ => rfl
  | 2, 2, _, _ => rfl
  | 0, 1, _, _ => simp [ixB] at h
  | 0, 2, _, _ => simp [ixB] at h
  | 1, 0, _, _ => simp [ixB] at h
  | 1, 2, _, _ => simp [ixB] at h
  | 2, 0, _, _ => simp [ixB] at h
  | 2, 1, _, _ => simp [ixB] at h
theorem ixI_inj {i j : Nat} (hi : i < 3) (hj : j < 3) (h : ixI i = ixI j) : i = j := by
  match i, j, hi, hj with
  | 0, 0, _, _ => rfl
  | 1, 1, _, _ => rfl
  | 2, 2, _, _ => rfl
  | 0, 1, _, _ => simp [ixI] at h
  | 0, 2, _, _ => simp [ixI] at h
  | 1, 0, _, _ => simp [ixI] at h
  | 1, 2, _, _ => simp [ixI] at h
  | 2, 0, _, _ => simp [ixI] at h
  | 2, 1, _, _ => simp [ixI] at h
theorem ix_ap (i j : Nat) (hi : i < 3) (hj : j < 3) : ixI i ≠ ixB j ∧ ixB j ≠ 1 ∧ ixI i ≠ 1 := by
  match i, j, hi, hj with
  | 0, 0, _, _ => decide
  | 1, 1, _, _ => decide
  | 2, 2, _, _ => decide
  | 0, 1, _, _ => decide
  | 0, 2, _, _ => decide
  | 1, 0, _, _ => decide
  | 1, 2, _, _ => decide
  | 2, 0, _, _ => decide
  | 2, 1, _, _ => decide
theorem LW.blk (h : LW w0 e x listed w) {j : Nat} (hs : j < listed.size) (hl : listed.getD j false = false) (i : Nat) (hi : i < 3) (hj : j = ixB i) : LW w0 e { x with b := upb x.b i w.heap.size } (listed.setIfInBounds j true) (w.alloc (.cells (dB e i) 257)) := by
  subst hj
  have g : ∀ k, k ≠ ixB i → (listed.setIfInBounds (ixB i) true).getD k false = listed.getD k false := fun k hk => by rw [getD_set _ _ _ hs, if_neg hk]
  have hne : ∀ k, k < 3 → listed.getD (ixI k) false = true → k ≠ i := fun k hk q z => by
    subst z
    have := h.ib k hk q
    rw [hl] at this; cases this
  refine ⟨h.bel.alloc h.bel.size _, ?_, ?_, ?_, ?_, ?_, ?_⟩
  · rw [g 1 (fun z => (ix_ap i i hi hi).2.1 z.symm)]; exact fun q => (heap_alloc_old w _ (by have := h.mp q; exact (Array.getElem?_eq_some_iff.1 this).1)).trans (h.mp q)
  · rw [g 1 (fun z => (ix_ap i i hi hi).2.1 z.symm)]; exact h.mb
  · rw [g 1 (fun z => (ix_ap i i hi hi).2.1 z.symm)]; exact fun z => ⟨(h.nm z).1, fun k hk => by rw [g _ (ix_ap k i hk hi).1]; exact (h.nm z).2 k hk⟩
  · exact h.tb.congr (fun k hk => (g _ (ix_ap k i hk hi).1).symm) (fun k hk q => by simp only [upb, if_neg (hne k hk q)])
  · intro k hk q; rw [g _ (ix_ap k i hk hi).1] at q
    rw [g _ (fun z => hne k hk q (ixB_inj hk hi z))]
    exact h.ib k hk q
  · intro k hk q
    by_cases z : k = i
    · subst z; simp only [upb]; rw [if_pos trivial]; exact heap_alloc_new w _
    · rw [g _ (fun y => z (ixB_inj hk hi y))] at q
      simp only [upb, if_neg z]
      exact (heap_alloc_old w _ (lt_of_block (h.bl k hk q))).trans (h.bl k hk q)
theorem LW.ins (h : LW w0 e x listed w) {j : Nat} (hs : j < listed.size) (hl : listed.getD j false = false) (i : Nat) (hi : i < 3) (hj : j = ixI i) (h1 : listed.getD 1 false = true) (hb : listed.getD (ixB i) false = true) : LW w0 e { x with es := x.es.push ⟨.int .i64 (kyI i), trV e x.b i, x.c⟩, c := x.c + 1 } (listed.setIfInBounds j true) { w with heap := w.heap.setIfInBounds x.m (.map (x.es.push ⟨.int .i64 (kyI i), trV e x.b i, x.c⟩) (x.c + 1)) } := by
  subst hj
  have g : ∀ k, k ≠ ixI i → (listed.setIfInBounds (ixI i) true).getD k false = listed.getD k false := fun k hk => by rw [getD_set _ _ _ hs, if_neg hk]
  have hm := h.mp h1
  have hmb := h.mb h1
  have hml : x.m < w.heap.size := (Array.getElem?_eq_some_iff.1 hm).1
  have old : ∀ k, k ≠ x.m → (w.heap.setIfInBounds x.m (.map (x.es.push ⟨.int .i64 (kyI i), trV e x.b i, x.c⟩) (x.c + 1)))[k]? = w.heap[k]? := fun k hk => by rw [Array.getElem?_setIfInBounds, if_neg (fun z => hk z.symm)]
  refine ⟨⟨h.bel.os, h.bel.tape, h.bel.output, by simpa using h.bel.size, fun k hk => (old k (by omega)).trans (h.bel.block k hk)⟩, fun _ => ?_, fun _ => hmb, ?_, ?_, ?_, ?_⟩
  · show (w.heap.setIfInBounds x.m _)[x.m]? = _
    rw [Array.getElem?_setIfInBounds, if_pos rfl, if_pos hml]
  · rw [g 1 (fun z => (ix_ap i i hi hi).2.2 z.symm), h1]; intro z; cases z
  · refine h.tb.push i hi _ fun k hk => ?_
    by_cases z : k = i
    · subst z; rw [getD_set _ _ _ hs, if_pos rfl, if_pos rfl]
    · rw [if_neg z, g _ (fun y => z (ixI_inj hk hi y))]
  · intro k hk q
    rw [g _ (fun y => (ix_ap i k hi hk).1 y.symm)]
    by_cases z : k = i
    · subst z; exact hb
    · rw [g _ (fun y => z (ixI_inj hk hi y))] at q; exact h.ib k hk q
  · intro k hk q
    rw [g _ (fun y => (ix_ap i k hi hk).1 y.symm)] at q
    have := h.bl k hk q
    refine (old _ fun z => ?_).trans this
    rw [z, hm] at this; cases this
theorem LV.fin (h : LW w0 e x listed w) (hs : 59 < listed.size) (hall : ∀ j, j < 59 → (listed.setIfInBounds 59 true).getD j false = true) (hq : LW w0 e x (listed.setIfInBounds 59 true) w) : LV w0 e x (listed.setIfInBounds 59 true) (w.setCell ⟨e, 17, none⟩ (.map (some x.m))) :=
  ⟨fun z => (by rw [getD_set _ _ _ hs, if_pos rfl] at z; cases z), fun _ => ⟨hall, w, hq, rfl⟩⟩
theorem LW.q59 (h : LW w0 e x listed w) (hs : 59 < listed.size) : LW w0 e x (listed.setIfInBounds 59 true) w := by
  have g : ∀ k, k ≠ 59 → (listed.setIfInBounds 59 true).getD k false = listed.getD k false := fun k hk => by rw [getD_set _ _ _ hs, if_neg hk]
  have n1 : ∀ i, i < 3 → ixI i ≠ 59 ∧ ixB i ≠ 59 := fun i hi => by match i, hi with | 0, _ => decide | 1, _ => decide | 2, _ => decide
  refine ⟨h.bel, ?_, ?_, ?_, ?_, ?_, ?_⟩
  · rw [g 1 (by decide)]; exact h.mp
  · rw [g 1 (by decide)]; exact h.mb
  · rw [g 1 (by decide)]; exact fun z => ⟨(h.nm z).1, fun i hi => by rw [g _ (n1 i hi).1]; exact (h.nm z).2 i hi⟩
  · exact h.tb.congr (fun i hi => (g _ (n1 i hi).1).symm) (fun _ _ _ => rfl)
  · intro i hi; rw [g _ (n1 i hi).1, g _ (n1 i hi).2]; exact h.ib i hi
  · intro i hi; rw [g _ (n1 i hi).2]; exact h.bl i hi
end
set_option maxHeartbeats 4000000 in
theorem x_lay (w : World) (e : Nat) (v : DV) (d s : Int) (h : w.heap[e]? = some (.cells (v.cells d s (.map none)) 225 (0, 0))) :
    Calls Tryz.prog 74 #[.pointer (some ⟨e, 0, none⟩)] w fun r w' => r = .returned (.tuple #[]) ∧ ∃ M b, w'.heap[e]? = some (.cells (v.cells d s (.map (some M))) 225 (0, 0)) ∧ Tab w' M e b ∧ Only (· = e) w w' := by
  have hlt := lt_of_block h
  have HC17 := hid (show w.drew.cell? ⟨e, 17, none⟩ = some (.map none) from cell_of_row w e 17 _ _ _ h)
  have HF17 := hid (show w.drew.frozen? ⟨e, 17, none⟩ = false from frozen_of_row w e 17 _ _ h)
  have HH := hid (show w.drew.heap[e]? = _ from h)
  have HO := hid (show Only (· = e) w w.drew from (Only.refl (S := (· = e)) w).drew)
  have he0 : e < w.drew.heap.size := hlt
  clear h hlt
  go_enter Tryz.func74, Tryz.ntmps74
  go_upto_region 0 with fail
  refine wp_region_any (by kernel_rfl) ?_
  rw [show ({ w with drawn := w.drawn + 1 } : World) = w.drew from rfl]
  generalize w.drew = w0 at *
  refine wpAny_fz (α := LX) (vtL e) (fun x listed wr => LV w0 e x listed wr) ?step ?fin ⟨0, fun _ => 0, #[], 0⟩ ?start
  case start =>
    have z : ∀ n k, (Array.replicate n false).getD k false = false := fun n k => by
      simp only [Array.getD_eq_getD_getElem?, Array.getElem?_replicate]
      split <;> rfl
    refine ⟨fun _ => ⟨Below.refl _ _, fun q => ?_, fun q => ?_, fun _ => ⟨rfl, fun i _ => z _ _⟩, TabP.nil _ fun i _ => z _ _, fun i _ q => ?_, fun i _ q => ?_⟩, fun q => ?_⟩
    all_goals (rw [z] at q; cases q)
  case fin =>
    rintro listed fr w2 x hF hW hr
    have all : ∀ j, j < 60 → listed.getD j false = true := allDone hr hF.q.ls (by kernel_rfl)
    obtain ⟨-, w1, hw, rfl⟩ := hW.f (all 59 (by decide))
    obtain ⟨t, df⟩ := fr
    obtain rfl : df = [] := hF.q.df
    have h1 : w1.heap[e]? = _ := (hw.bel.block e he0).trans HH.out
    go_end0
    refine ⟨rfl, x.m, x.b, setRowB w1 e 17 _ (v.cells d s (.map (some x.m))) 225 _ h1 rfl, ?_, ?_⟩
    · have hT : Tab w1 x.m e x.b := ⟨⟨x.es, x.c, hw.mp (all 1 (by decide)), hw.tb.congr (fun i hi => by match i, hi with | 0, _ => exact all 13 (by decide) | 1, _ => exact all 34 (by decide) | 2, _ => exact all 55 (by decide)) (fun _ _ _ => rfl)⟩, fun i hi => hw.bl i hi (by match i, hi with | 0, _ => exact all 7 (by decide) | 1, _ => exact all 28 (by decide) | 2, _ => exact all 49 (by decide))⟩
      exact hT.only (T := (· = e)) (only_c w1 e 17 _) fun j hj => by subst hj; exact ⟨_, _, _, h1, (by decide)⟩
    · exact (HO.out.trans (Only.ofBelow hw.bel)).trans (only_c w1 e 17 _)
  case step =>
    rintro listed fr wr x hF hW hC i hj
    obtain ⟨hl, o, ho, he⟩ := mem_ready.1 hj
    have hjl : i < listed.size := by rw [hF.q.ls]; exact (Array.getElem?_eq_some_iff.1 ho).1
    have hl0 := getD_tf hjl hl
    clear hj
    have HF := hid hF
    have HW := hid hW
    have HE := hid he
    have HC := hid hC
    clear hF hW he hl hC
    match i, ho with
    | 0, ho =>
      obtain rfl := Option.some.inj ho
      have e0 : fr.tmps[0]?.getD undef = .pointer (some ⟨e, 0, none⟩) := HF.out.base 0 (by kernel_rfl) rfl
      exact wp_q rfl rfl (by simp [execOp, go_sem, e0]; try rfl) ⟨x, HF.out.put (by kernel_rfl) rfl rfl rfl (of_decide_eq_true rfl), HW.out.q hjl hl0 (by decide)⟩
    | 1, ho =>
      obtain rfl := Option.some.inj ho
      obtain ⟨hL, hw⟩ := HW.out.pre (j := 1) hl0 (by decide)
      have hmm := @run_makeMap Tryz.prog
      have hsw := HF.out.swapD (vt' := vtL e { x with m := wr.heap.size, es := #[], c := 0 }) (by kernel_rfl) (fun d => ?_)
      · exact wp_q (v := .map (some wr.heap.size)) (w' := wr.alloc (.map #[] 0)) rfl rfl (by simp [execOp, go_sem, hmm]; try rfl) ⟨{ x with m := wr.heap.size, es := #[], c := 0 }, hsw.put (by kernel_rfl) rfl rfl rfl (of_decide_eq_true rfl), LV.mk0 hjl hL (hw.map hjl hl0)⟩
      · by_cases d3 : d = 3
        · subst d3; exact .inr ⟨1, _, rfl, rfl, hl0⟩
        by_cases d55 : d = 55
        · subst d55; exact .inr ⟨56, _, rfl, rfl, not_yet HC.out hl0 rfl ⟨1, .data⟩ (by simp) rfl rfl⟩
        · left; simp only [vtL, if_neg d3, if_neg d55]
    | 2, ho =>
      obtain rfl := Option.some.inj ho
      have e0 : fr.tmps[0]?.getD undef = .pointer (some ⟨e, 0, none⟩) := HF.out.base 0 (by kernel_rfl) rfl
      exact wp_q rfl rfl (by simp [execOp, go_sem, e0]; try rfl) ⟨x, HF.out.put (by kernel_rfl) rfl rfl rfl (of_decide_eq_true rfl), HW.out.q hjl hl0 (by decide)⟩
    | 3, ho =>
      obtain rfl := Option.some.inj ho
      have e4 : fr.tmps[4]?.getD undef = .pointer (some ⟨e, 0, none⟩) := HF.out.ev (i := 2) rfl rfl (HE.out ⟨2, .data⟩ (by simp) rfl)
      exact wp_q rfl rfl (by simp [execOp, go_sem, e4]; try rfl) ⟨x, HF.out.put (by kernel_rfl) rfl rfl rfl (of_decide_eq_true rfl), HW.out.q hjl hl0 (by decide)⟩
    | 4, ho =>
      obtain rfl := Option.some.inj ho
      have e5 : fr.tmps[5]?.getD undef = .pointer (some ⟨e, 0, none⟩) := HF.out.ev (i := 3) rfl rfl (HE.out ⟨3, .data⟩ (by simp) rfl)
      exact wp_q rfl rfl (by simp [execOp, go_sem, e5]; try rfl) ⟨x, HF.out.put (by kernel_rfl) rfl rfl rfl (of_decide_eq_true rfl), HW.out.q hjl hl0 (by decide)⟩
    | 5, ho =>
      obtain rfl := Option.some.inj ho
      have e6 : fr.tmps[6]?.getD undef = .pointer (some ⟨e, 9, none⟩) := HF.out.ev (i := 4) rfl rfl (HE.out ⟨4, .data⟩ (by simp) rfl)
      exact wp_q rfl rfl (by simp [execOp, go_sem, e6]; try rfl) ⟨x, HF.out.put (by kernel_rfl) rfl rfl rfl (of_decide_eq_true rfl), HW.out.q hjl hl0 (by decide)⟩
    | 6, ho =>
      obtain rfl := Option.some.inj ho
      have e7 : fr.tmps[7]?.getD undef = .func (.func 78) #[.pointer (some ⟨e, 9, none⟩)] #[] := HF.out.ev (i := 5) rfl rfl (HE.out ⟨5, .data⟩ (by simp) rfl)
      exact wp_q rfl rfl (by simp [execOp, go_sem, e7]; try rfl) ⟨x, HF.out.put (by kernel_rfl) rfl rfl rfl (of_decide_eq_true rfl), HW.out.q hjl hl0 (by decide)⟩
    | 7, ho =>
      obtain rfl := Option.some.inj ho
      have e8 : fr.tmps[8]?.getD undef = .agg #[.func (.func 77) #[] #[], .func (.func 78) #[.pointer (some ⟨e, 9, none⟩)] #[]] := HF.out.ev (i := 6) rfl rfl (HE.out ⟨6, .data⟩ (by simp) rfl)
      obtain ⟨hL, hw⟩ := HW.out.pre (j := 7) hl0 (by decide)
      have hsw := HF.out.swapD (vt' := vtL e { x with b := upb x.b 0 wr.heap.size }) (by kernel_rfl) (fun d => ?_)
      · obtain ⟨i0, hi0, hz0, hs0, hb0⟩ := info_parts info_deed
        exact wp_bs rfl rfl 226 257 1 _ rfl (dB e 0) i0 _ u_sdeed hi0 hz0 (by rw [hs0]; decide) (by rw [hs0]; decide) (by rw [hs0]; simp [Act.eval, e8]; kernel_rfl) ⟨{ x with b := upb x.b 0 wr.heap.size }, hsw.put (by kernel_rfl) rfl rfl rfl (of_decide_eq_true rfl), LV.mk0 hjl hL (hw.blk hjl hl0 0 (by decide) rfl)⟩
      · by_cases z0 : d = 9
        · subst z0; exact .inr ⟨7, _, rfl, rfl, hl0⟩
        by_cases z1 : d = 14
        · subst z1; exact .inr ⟨12, _, rfl, rfl, not_yet HC.out hl0 rfl ⟨7, .data⟩ (by simp) rfl rfl⟩
        · left; simp only [vtL, if_neg z0, if_neg z1]; simp [upb]
    | 8, ho =>
      obtain rfl := Option.some.inj ho
      have e0 : fr.tmps[0]?.getD undef = .pointer (some ⟨e, 0, none⟩) := HF.out.base 0 (by kernel_rfl) rfl
      exact wp_q rfl rfl (by simp [execOp, go_sem, e0]; try rfl) ⟨x, HF.out.put (by kernel_rfl) rfl rfl rfl (of_decide_eq_true rfl), HW.out.q hjl hl0 (by decide)⟩
    | 9, ho =>
      obtain rfl := Option.some.inj ho
      have e10 : fr.tmps[10]?.getD undef = .pointer (some ⟨e, 0, none⟩) := HF.out.ev (i := 8) rfl rfl (HE.out ⟨8, .data⟩ (by simp) rfl)
      exact wp_q rfl rfl (by simp [execOp, go_sem, e10]; try rfl) ⟨x, HF.out.put (by kernel_rfl) rfl rfl rfl (of_decide_eq_true rfl), HW.out.q hjl hl0 (by decide)⟩
    | 10, ho =>
      obtain rfl := Option.some.inj ho
      have e11 : fr.tmps[11]?.getD undef = .pointer (some ⟨e, 0, none⟩) := HF.out.ev (i := 9) rfl rfl (HE.out ⟨9, .data⟩ (by simp) rfl)
      exact wp_q rfl rfl (by simp [execOp, go_sem, e11]; try rfl) ⟨x, HF.out.put (by kernel_rfl) rfl rfl rfl (of_decide_eq_true rfl), HW.out.q hjl hl0 (by decide)⟩
    | 11, ho =>
      obtain rfl := Option.some.inj ho
      have e12 : fr.tmps[12]?.getD undef = .pointer (some ⟨e, 9, none⟩) := HF.out.ev (i := 10) rfl rfl (HE.out ⟨10, .data⟩ (by simp) rfl)
      exact wp_q rfl rfl (by simp [execOp, go_sem, e12]; try rfl) ⟨x, HF.out.put (by kernel_rfl) rfl rfl rfl (of_decide_eq_true rfl), HW.out.q hjl hl0 (by decide)⟩
    | 12, ho =>
      obtain rfl := Option.some.inj ho
      have e9 : fr.tmps[9]?.getD undef = .slice (some ⟨x.b 0, 0, none⟩) 1 1 := HF.out.ev (i := 7) rfl rfl (HE.out ⟨7, .data⟩ (by simp) rfl)
      have e13 : fr.tmps[13]?.getD undef = .func (.func 79) #[.pointer (some ⟨e, 9, none⟩)] #[] := HF.out.ev (i := 11) rfl rfl (HE.out ⟨11, .data⟩ (by simp) rfl)
      exact wp_q rfl rfl (by simp [execOp, go_sem, e9, e13]; try rfl) ⟨x, HF.out.put (by kernel_rfl) rfl rfl rfl (of_decide_eq_true rfl), HW.out.q hjl hl0 (by decide)⟩
    | 13, ho =>
      obtain rfl := Option.some.inj ho
      have e3 : fr.tmps[3]?.getD undef = .map (some x.m) := HF.out.ev (i := 1) rfl rfl (HE.out ⟨1, .data⟩ (by simp) rfl)
      have e14 : fr.tmps[14]?.getD undef = .agg #[.slice (some ⟨x.b 0, 0, none⟩) 1 1, .func (.func 79) #[.pointer (some ⟨e, 9, none⟩)] #[]] := HF.out.ev (i := 12) rfl rfl (HE.out ⟨12, .data⟩ (by simp) rfl)
      obtain ⟨hL, hw⟩ := HW.out.pre (j := 13) hl0 (by decide)
      have h1t : listed.getD 1 false = true := HE.out ⟨1, .data⟩ (by simp) rfl
      have ik := ins_at (P := Tryz.prog) (v := trV e x.b 0) u_tmap u_tint wr x.es x.c x.m (kyI 0) (hw.mp h1t) (hw.tb.miss _ fun q hq hb hk => by have := kyI_inj (i := 0) (by decide) hq hk; subst this; rw [show ixI 0 = 13 from rfl, hl0] at hb; cases hb)
      have ik2 : (Instr.mapUpdate 223 (.map (some x.m)) (.int .i64 2) (.agg #[.slice (some ⟨x.b 0, 0, none⟩) 1 1, .func (.func 79) #[.pointer (some ⟨e, 9, none⟩)] #[]])).run Tryz.prog wr = _ := ik
      exact wp_s rfl rfl (by simp [execOp, go_sem, e3, e14, ik2]; try rfl) ⟨{ x with es := x.es.push ⟨.int .i64 (kyI 0), trV e x.b 0, x.c⟩, c := x.c + 1 }, HF.out.skip rfl rfl _, LV.mk0 hjl hL (hw.ins hjl hl0 0 (by decide) rfl h1t (HC.out 12 _ rfl (HE.out ⟨12, .data⟩ (by simp) rfl) ⟨7, .data⟩ (by simp) rfl))⟩
    | 14, ho =>
      obtain rfl := Option.some.inj ho
      have e0 : fr.tmps[0]?.getD undef = .pointer (some ⟨e, 0, none⟩) := HF.out.base 0 (by kernel_rfl) rfl
      exact wp_q rfl rfl (by simp [execOp, go_sem, e0]; try rfl) ⟨x, HF.out.put (by kernel_rfl) rfl rfl rfl (of_decide_eq_true rfl), HW.out.q hjl hl0 (by decide)⟩
    | 15, ho =>
      obtain rfl := Option.some.inj ho
      have e15 : fr.tmps[15]?.getD undef = .pointer (some ⟨e, 0, none⟩) := HF.out.ev (i := 14) rfl rfl (HE.out ⟨14, .data⟩ (by simp) rfl)
      exact wp_q rfl rfl (by simp [execOp, go_sem, e15]; try rfl) ⟨x, HF.out.put (by kernel_rfl) rfl rfl rfl (of_decide_eq_true rfl), HW.out.q hjl hl0 (by decide)⟩
    | 16, ho =>
      obtain rfl := Option.some.inj ho
      have e16 : fr.tmps[16]?.getD undef = .pointer (some ⟨e, 0, none⟩) := HF.out.ev (i := 15) rfl rfl (HE.out ⟨15, .data⟩ (by simp) rfl)
      exact wp_q rfl rfl (by simp [execOp, go_sem, e16]; try rfl) ⟨x, HF.out.put (by kernel_rfl) rfl rfl rfl (of_decide_eq_true rfl), HW.out.q hjl hl0 (by decide)⟩
    | 17, ho =>
      obtain rfl := Option.some.inj ho
      have e17 : fr.tmps[17]?.getD undef = .pointer (some ⟨e, 10, none⟩) := HF.out.ev (i := 16) rfl rfl (HE.out ⟨16, .data⟩ (by simp) rfl)
      exact wp_q rfl rfl (by simp [execOp, go_sem, e17]; try rfl) ⟨x, HF.out.put (by kernel_rfl) rfl rfl rfl (of_decide_eq_true rfl), HW.out.q hjl hl0 (by decide)⟩
    | 18, ho =>
      obtain rfl := Option.some.inj ho
      have e0 : fr.tmps[0]?.getD undef = .pointer (some ⟨e, 0, none⟩) := HF.out.base 0 (by kernel_rfl) rfl
      exact wp_q rfl rfl (by simp [execOp, go_sem, e0]; try rfl) ⟨x, HF.out.put (by kernel_rfl) rfl rfl rfl (of_decide_eq_true rfl), HW.out.q hjl hl0 (by decide)⟩
    | 19, ho =>
      obtain rfl := Option.some.inj ho
      have e19 : fr.tmps[19]?.getD undef = .pointer (some ⟨e, 0, none⟩) := HF.out.ev (i := 18) rfl rfl (HE.out ⟨18, .data⟩ (by simp) rfl)
      exact wp_q rfl rfl (by simp [execOp, go_sem, e19]; try rfl) ⟨x, HF.out.put (by kernel_rfl) rfl rfl rfl (of_decide_eq_true rfl), HW.out.q hjl hl0 (by decide)⟩
    | 20, ho =>
      obtain rfl := Option.some.inj ho
      have e20 : fr.tmps[20]?.getD undef = .pointer (some ⟨e, 0, none⟩) := HF.out.ev (i := 19) rfl rfl (HE.out ⟨19, .data⟩ (by simp) rfl)
      exact wp_q rfl rfl (by simp [execOp, go_sem, e20]; try rfl) ⟨x, HF.out.put (by kernel_rfl) rfl rfl rfl (of_decide_eq_true rfl), HW.out.q hjl hl0 (by decide)⟩
    | 21, ho =>
      obtain rfl := Option.some.inj ho
      have e21 : fr.tmps[21]?.getD undef = .pointer (some ⟨e, 10, none⟩) := HF.out.ev (i := 20) rfl rfl (HE.out ⟨20, .data⟩ (by simp) rfl)
      exact wp_q rfl rfl (by simp [execOp, go_sem, e21]; try rfl) ⟨x, HF.out.put (by kernel_rfl) rfl rfl rfl (of_decide_eq_true rfl), HW.out.q hjl hl0 (by decide)⟩
    | 22, ho =>
      obtain rfl := Option.some.inj ho
      have e18 : fr.tmps[18]?.getD undef = .func (.func 80) #[.pointer (some ⟨e, 10, none⟩)] #[] := HF.out.ev (i := 17) rfl rfl (HE.out ⟨17, .data⟩ (by simp) rfl)
      have e22 : fr.tmps[22]?.getD undef = .func (.func 81) #[.pointer (some ⟨e, 10, none⟩)] #[] := HF.out.ev (i := 21) rfl rfl (HE.out ⟨21, .data⟩ (by simp) rfl)
      exact wp_q rfl rfl (by simp [execOp, go_sem, e18, e22]; try rfl) ⟨x, HF.out.put (by kernel_rfl) rfl rfl rfl (of_decide_eq_true rfl), HW.out.q hjl hl0 (by decide)⟩
    | 23, ho =>
      obtain rfl := Option.some.inj ho
      have e0 : fr.tmps[0]?.getD undef = .pointer (some ⟨e, 0, none⟩) := HF.out.base 0 (by kernel_rfl) rfl
      exact wp_q rfl rfl (by simp [execOp, go_sem, e0]; try rfl) ⟨x, HF.out.put (by kernel_rfl) rfl rfl rfl (of_decide_eq_true rfl), HW.out.q hjl hl0 (by decide)⟩
    | 24, ho =>
      obtain rfl := Option.some.inj ho
      have e24 : fr.tmps[24]?.getD undef = .pointer (some ⟨e, 0, none⟩) := HF.out.ev (i := 23) rfl rfl (HE.out ⟨23, .data⟩ (by simp) rfl)
      exact wp_q rfl rfl (by simp [execOp, go_sem, e24]; try rfl) ⟨x, HF.out.put (by kernel_rfl) rfl rfl rfl (of_decide_eq_true rfl), HW.out.q hjl hl0 (by decide)⟩
    | 25, ho =>
      obtain rfl := Option.some.inj ho
      have e25 : fr.tmps[25]?.getD undef = .pointer (some ⟨e, 0, none⟩) := HF.out.ev (i := 24) rfl rfl (HE.out ⟨24, .data⟩ (by simp) rfl)
      exact wp_q rfl rfl (by simp [execOp, go_sem, e25]; try rfl) ⟨x, HF.out.put (by kernel_rfl) rfl rfl rfl (of_decide_eq_true rfl), HW.out.q hjl hl0 (by decide)⟩
    | 26, ho =>
      obtain rfl := Option.some.inj ho
      have e26 : fr.tmps[26]?.getD undef = .pointer (some ⟨e, 10, none⟩) := HF.out.ev (i := 25) rfl rfl (HE.out ⟨25, .data⟩ (by simp) rfl)
      exact wp_q rfl rfl (by simp [execOp, go_sem, e26]; try rfl) ⟨x, HF.out.put (by kernel_rfl) rfl rfl rfl (of_decide_eq_true rfl), HW.out.q hjl hl0 (by decide)⟩
    | 27, ho =>
      obtain rfl := Option.some.inj ho
      have e27 : fr.tmps[27]?.getD undef = .func (.func 82) #[.pointer (some ⟨e, 10, none⟩)] #[] := HF.out.ev (i := 26) rfl rfl (HE.out ⟨26, .data⟩ (by simp) rfl)
      exact wp_q rfl rfl (by simp [execOp, go_sem, e27]; try rfl) ⟨x, HF.out.put (by kernel_rfl) rfl rfl rfl (of_decide_eq_true rfl), HW.out.q hjl hl0 (by decide)⟩
    | 28, ho =>
      obtain rfl := Option.some.inj ho
      have e23 : fr.tmps[23]?.getD undef = .agg #[.func (.func 80) #[.pointer (some ⟨e, 10, none⟩)] #[], .func (.func 81) #[.pointer (some ⟨e, 10, none⟩)] #[]] := HF.out.ev (i := 22) rfl rfl (HE.out ⟨22, .data⟩ (by simp) rfl)
      have e28 : fr.tmps[28]?.getD undef = .agg #[.func (.func 77) #[] #[], .func (.func 82) #[.pointer (some ⟨e, 10, none⟩)] #[]] := HF.out.ev (i := 27) rfl rfl (HE.out ⟨27, .data⟩ (by simp) rfl)
      obtain ⟨hL, hw⟩ := HW.out.pre (j := 28) hl0 (by decide)
      have hsw := HF.out.swapD (vt' := vtL e { x with b := upb x.b 1 wr.heap.size }) (by kernel_rfl) (fun d => ?_)
      · obtain ⟨i0, hi0, hz0, hs0, hb0⟩ := info_parts info_deed
        exact wp_bs rfl rfl 226 257 2 _ rfl (dB e 1) i0 _ u_sdeed hi0 hz0 (by rw [hs0]; decide) (by rw [hs0]; decide) (by rw [hs0]; simp [Act.eval, e23, e28]; kernel_rfl) ⟨{ x with b := upb x.b 1 wr.heap.size }, hsw.put (by kernel_rfl) rfl rfl rfl (of_decide_eq_true rfl), LV.mk0 hjl hL (hw.blk hjl hl0 1 (by decide) rfl)⟩
      · by_cases z0 : d = 29
        · subst z0; exact .inr ⟨28, _, rfl, rfl, hl0⟩
        by_cases z1 : d = 34
        · subst z1; exact .inr ⟨33, _, rfl, rfl, not_yet HC.out hl0 rfl ⟨28, .data⟩ (by simp) rfl rfl⟩
        · left; simp only [vtL, if_neg z0, if_neg z1]; simp [upb]
    | 29, ho =>
      obtain rfl := Option.some.inj ho
      have e0 : fr.tmps[0]?.getD undef = .pointer (some ⟨e, 0, none⟩) := HF.out.base 0 (by kernel_rfl) rfl
      exact wp_q rfl rfl (by simp [execOp, go_sem, e0]; try rfl) ⟨x, HF.out.put (by kernel_rfl) rfl rfl rfl (of_decide_eq_true rfl), HW.out.q hjl hl0 (by decide)⟩
    | 30, ho =>
      obtain rfl := Option.some.inj ho
      have e30 : fr.tmps[30]?.getD undef = .pointer (some ⟨e, 0, none⟩) := HF.out.ev (i := 29) rfl rfl (HE.out ⟨29, .data⟩ (by simp) rfl)
      exact wp_q rfl rfl (by simp [execOp, go_sem, e30]; try rfl) ⟨x, HF.out.put (by kernel_rfl) rfl rfl rfl (of_decide_eq_true rfl), HW.out.q hjl hl0 (by decide)⟩
    | 31, ho =>
      obtain rfl := Option.some.inj ho
      have e31 : fr.tmps[31]?.getD undef = .pointer (some ⟨e, 0, none⟩) := HF.out.ev (i := 30) rfl rfl (HE.out ⟨30, .data⟩ (by simp) rfl)
      exact wp_q rfl rfl (by simp [execOp, go_sem, e31]; try rfl) ⟨x, HF.out.put (by kernel_rfl) rfl rfl rfl (of_decide_eq_true rfl), HW.out.q hjl hl0 (by decide)⟩
    | 32, ho =>
      obtain rfl := Option.some.inj ho
      have e32 : fr.tmps[32]?.getD undef = .pointer (some ⟨e, 10, none⟩) := HF.out.ev (i := 31) rfl rfl (HE.out ⟨31, .data⟩ (by simp) rfl)
      exact wp_q rfl rfl (by simp [execOp, go_sem, e32]; try rfl) ⟨x, HF.out.put (by kernel_rfl) rfl rfl rfl (of_decide_eq_true rfl), HW.out.q hjl hl0 (by decide)⟩
    | 33, ho =>
      obtain rfl := Option.some.inj ho
      have e29 : fr.tmps[29]?.getD undef = .slice (some ⟨x.b 1, 0, none⟩) 2 2 := HF.out.ev (i := 28) rfl rfl (HE.out ⟨28, .data⟩ (by simp) rfl)
      have e33 : fr.tmps[33]?.getD undef = .func (.func 83) #[.pointer (some ⟨e, 10, none⟩)] #[] := HF.out.ev (i := 32) rfl rfl (HE.out ⟨32, .data⟩ (by simp) rfl)
      exact wp_q rfl rfl (by simp [execOp, go_sem, e29, e33]; try rfl) ⟨x, HF.out.put (by kernel_rfl) rfl rfl rfl (of_decide_eq_true rfl), HW.out.q hjl hl0 (by decide)⟩
    | 34, ho =>
      obtain rfl := Option.some.inj ho
      have e3 : fr.tmps[3]?.getD undef = .map (some x.m) := HF.out.ev (i := 1) rfl rfl (HE.out ⟨1, .data⟩ (by simp) rfl)
      have e34 : fr.tmps[34]?.getD undef = .agg #[.slice (some ⟨x.b 1, 0, none⟩) 2 2, .func (.func 83) #[.pointer (some ⟨e, 10, none⟩)] #[]] := HF.out.ev (i := 33) rfl rfl (HE.out ⟨33, .data⟩ (by simp) rfl)
      obtain ⟨hL, hw⟩ := HW.out.pre (j := 34) hl0 (by decide)
      have h1t : listed.getD 1 false = true := HE.out ⟨1, .data⟩ (by simp) rfl
      have ik := ins_at (P := Tryz.prog) (v := trV e x.b 1) u_tmap u_tint wr x.es x.c x.m (kyI 1) (hw.mp h1t) (hw.tb.miss _ fun q hq hb hk => by have := kyI_inj (i := 1) (by decide) hq hk; subst this; rw [show ixI 1 = 34 from rfl, hl0] at hb; cases hb)
      have ik2 : (Instr.mapUpdate 223 (.map (some x.m)) (.int .i64 1) (.agg #[.slice (some ⟨x.b 1, 0, none⟩) 2 2, .func (.func 83) #[.pointer (some ⟨e, 10, none⟩)] #[]])).run Tryz.prog wr = _ := ik
      exact wp_s rfl rfl (by simp [execOp, go_sem, e3, e34, ik2]; try rfl) ⟨{ x with es := x.es.push ⟨.int .i64 (kyI 1), trV e x.b 1, x.c⟩, c := x.c + 1 }, HF.out.skip rfl rfl _, LV.mk0 hjl hL (hw.ins hjl hl0 1 (by decide) rfl h1t (HC.out 33 _ rfl (HE.out ⟨33, .data⟩ (by simp) rfl) ⟨28, .data⟩ (by simp) rfl))⟩
    | 35, ho =>
      obtain rfl := Option.some.inj ho
      have e0 : fr.tmps[0]?.getD undef = .pointer (some ⟨e, 0, none⟩) := HF.out.base 0 (by kernel_rfl) rfl
      exact wp_q rfl rfl (by simp [execOp, go_sem, e0]; try rfl) ⟨x, HF.out.put (by kernel_rfl) rfl rfl rfl (of_decide_eq_true rfl), HW.out.q hjl hl0 (by decide)⟩
    | 36, ho =>
      obtain rfl := Option.some.inj ho
      have e35 : fr.tmps[35]?.getD undef = .pointer (some ⟨e, 0, none⟩) := HF.out.ev (i := 35) rfl rfl (HE.out ⟨35, .data⟩ (by simp) rfl)
      exact wp_q rfl rfl (by simp [execOp, go_sem, e35]; try rfl) ⟨x, HF.out.put (by kernel_rfl) rfl rfl rfl (of_decide_eq_true rfl), HW.out.q hjl hl0 (by decide)⟩
    | 37, ho =>
      obtain rfl := Option.some.inj ho
      have e36 : fr.tmps[36]?.getD undef = .pointer (some ⟨e, 0, none⟩) := HF.out.ev (i := 36) rfl rfl (HE.out ⟨36, .data⟩ (by simp) rfl)
      exact wp_q rfl rfl (by simp [execOp, go_sem, e36]; try rfl) ⟨x, HF.out.put (by kernel_rfl) rfl rfl rfl (of_decide_eq_true rfl), HW.out.q hjl hl0 (by decide)⟩
    | 38, ho =>
      obtain rfl := Option.some.inj ho
      have e37 : fr.tmps[37]?.getD undef = .pointer (some ⟨e, 12, none⟩) := HF.out.ev (i := 37) rfl rfl (HE.out ⟨37, .data⟩ (by simp) rfl)
      exact wp_q rfl rfl (by simp [execOp, go_sem, e37]; try rfl) ⟨x, HF.out.put (by kernel_rfl) rfl rfl rfl (of_decide_eq_true rfl), HW.out.q hjl hl0 (by decide)⟩
    | 39, ho =>
      obtain rfl := Option.some.inj ho
      have e0 : fr.tmps[0]?.getD undef = .pointer (some ⟨e, 0, none⟩) := HF.out.base 0 (by kernel_rfl) rfl
      exact wp_q rfl rfl (by simp [execOp, go_sem, e0]; try rfl) ⟨x, HF.out.put (by kernel_rfl) rfl rfl rfl (of_decide_eq_true rfl), HW.out.q hjl hl0 (by decide)⟩
    | 40, ho =>
      obtain rfl := Option.some.inj ho
      have e39 : fr.tmps[39]?.getD undef = .pointer (some ⟨e, 0, none⟩) := HF.out.ev (i := 39) rfl rfl (HE.out ⟨39, .data⟩ (by simp) rfl)
      exact wp_q rfl rfl (by simp [execOp, go_sem, e39]; try rfl) ⟨x, HF.out.put (by kernel_rfl) rfl rfl rfl (of_decide_eq_true rfl), HW.out.q hjl hl0 (by decide)⟩
    | 41, ho =>
      obtain rfl := Option.some.inj ho
      have e40 : fr.tmps[40]?.getD undef = .pointer (some ⟨e, 0, none⟩) := HF.out.ev (i := 40) rfl rfl (HE.out ⟨40, .data⟩ (by simp) rfl)
      exact wp_q rfl rfl (by simp [execOp, go_sem, e40]; try rfl) ⟨x, HF.out.put (by kernel_rfl) rfl rfl rfl (of_decide_eq_true rfl), HW.out.q hjl hl0 (by decide)⟩
    | 42, ho =>
      obtain rfl := Option.some.inj ho
      have e41 : fr.tmps[41]?.getD undef = .pointer (some ⟨e, 12, none⟩) := HF.out.ev (i := 41) rfl rfl (HE.out ⟨41, .data⟩ (by simp) rfl)
      exact wp_q rfl rfl (by simp [execOp, go_sem, e41]; try rfl) ⟨x, HF.out.put (by kernel_rfl) rfl rfl rfl (of_decide_eq_true rfl), HW.out.q hjl hl0 (by decide)⟩
    | 43, ho =>
      obtain rfl := Option.some.inj ho
      have e38 : fr.tmps[38]?.getD undef = .func (.func 84) #[.pointer (some ⟨e, 12, none⟩)] #[] := HF.out.ev (i := 38) rfl rfl (HE.out ⟨38, .data⟩ (by simp) rfl)
      have e42 : fr.tmps[42]?.getD undef = .func (.func 85) #[.pointer (some ⟨e, 12, none⟩)] #[] := HF.out.ev (i := 42) rfl rfl (HE.out ⟨42, .data⟩ (by simp) rfl)
      exact wp_q rfl rfl (by simp [execOp, go_sem, e38, e42]; try rfl) ⟨x, HF.out.put (by kernel_rfl) rfl rfl rfl (of_decide_eq_true rfl), HW.out.q hjl hl0 (by decide)⟩
    | 44, ho =>
      obtain rfl := Option.some.inj ho
      have e0 : fr.tmps[0]?.getD undef = .pointer (some ⟨e, 0, none⟩) := HF.out.base 0 (by kernel_rfl) rfl
      exact wp_q rfl rfl (by simp [execOp, go_sem, e0]; try rfl) ⟨x, HF.out.put (by kernel_rfl) rfl rfl rfl (of_decide_eq_true rfl), HW.out.q hjl hl0 (by decide)⟩
    | 45, ho =>
      obtain rfl := Option.some.inj ho
      have e44 : fr.tmps[44]?.getD undef = .pointer (some ⟨e, 0, none⟩) := HF.out.ev (i := 44) rfl rfl (HE.out ⟨44, .data⟩ (by simp) rfl)
      exact wp_q rfl rfl (by simp [execOp, go_sem, e44]; try rfl) ⟨x, HF.out.put (by kernel_rfl) rfl rfl rfl (of_decide_eq_true rfl), HW.out.q hjl hl0 (by decide)⟩
    | 46, ho =>
      obtain rfl := Option.some.inj ho
      have e45 : fr.tmps[45]?.getD undef = .pointer (some ⟨e, 0, none⟩) := HF.out.ev (i := 45) rfl rfl (HE.out ⟨45, .data⟩ (by simp) rfl)
      exact wp_q rfl rfl (by simp [execOp, go_sem, e45]; try rfl) ⟨x, HF.out.put (by kernel_rfl) rfl rfl rfl (of_decide_eq_true rfl), HW.out.q hjl hl0 (by decide)⟩
    | 47, ho =>
      obtain rfl := Option.some.inj ho
      have e46 : fr.tmps[46]?.getD undef = .pointer (some ⟨e, 12, none⟩) := HF.out.ev (i := 46) rfl rfl (HE.out ⟨46, .data⟩ (by simp) rfl)
      exact wp_q rfl rfl (by simp [execOp, go_sem, e46]; try rfl) ⟨x, HF.out.put (by kernel_rfl) rfl rfl rfl (of_decide_eq_true rfl), HW.out.q hjl hl0 (by decide)⟩
    | 48, ho =>
      obtain rfl := Option.some.inj ho
      have e47 : fr.tmps[47]?.getD undef = .func (.func 86) #[.pointer (some ⟨e, 12, none⟩)] #[] := HF.out.ev (i := 47) rfl rfl (HE.out ⟨47, .data⟩ (by simp) rfl)
      exact wp_q rfl rfl (by simp [execOp, go_sem, e47]; try rfl) ⟨x, HF.out.put (by kernel_rfl) rfl rfl rfl (of_decide_eq_true rfl), HW.out.q hjl hl0 (by decide)⟩
    | 49, ho =>
      obtain rfl := Option.some.inj ho
      have e43 : fr.tmps[43]?.getD undef = .agg #[.func (.func 84) #[.pointer (some ⟨e, 12, none⟩)] #[], .func (.func 85) #[.pointer (some ⟨e, 12, none⟩)] #[]] := HF.out.ev (i := 43) rfl rfl (HE.out ⟨43, .data⟩ (by simp) rfl)
      have e48 : fr.tmps[48]?.getD undef = .agg #[.func (.func 77) #[] #[], .func (.func 86) #[.pointer (some ⟨e, 12, none⟩)] #[]] := HF.out.ev (i := 48) rfl rfl (HE.out ⟨48, .data⟩ (by simp) rfl)
      obtain ⟨hL, hw⟩ := HW.out.pre (j := 49) hl0 (by decide)
      have hsw := HF.out.swapD (vt' := vtL e { x with b := upb x.b 2 wr.heap.size }) (by kernel_rfl) (fun d => ?_)
      · obtain ⟨i0, hi0, hz0, hs0, hb0⟩ := info_parts info_deed
        exact wp_bs rfl rfl 226 257 2 _ rfl (dB e 2) i0 _ u_sdeed hi0 hz0 (by rw [hs0]; decide) (by rw [hs0]; decide) (by rw [hs0]; simp [Act.eval, e43, e48]; kernel_rfl) ⟨{ x with b := upb x.b 2 wr.heap.size }, hsw.put (by kernel_rfl) rfl rfl rfl (of_decide_eq_true rfl), LV.mk0 hjl hL (hw.blk hjl hl0 2 (by decide) rfl)⟩
      · by_cases z0 : d = 49
        · subst z0; exact .inr ⟨49, _, rfl, rfl, hl0⟩
        by_cases z1 : d = 54
        · subst z1; exact .inr ⟨54, _, rfl, rfl, not_yet HC.out hl0 rfl ⟨49, .data⟩ (by simp) rfl rfl⟩
        · left; simp only [vtL, if_neg z0, if_neg z1]; simp [upb]
    | 50, ho =>
      obtain rfl := Option.some.inj ho
      have e0 : fr.tmps[0]?.getD undef = .pointer (some ⟨e, 0, none⟩) := HF.out.base 0 (by kernel_rfl) rfl
      exact wp_q rfl rfl (by simp [execOp, go_sem, e0]; try rfl) ⟨x, HF.out.put (by kernel_rfl) rfl rfl rfl (of_decide_eq_true rfl), HW.out.q hjl hl0 (by decide)⟩
    | 51, ho =>
      obtain rfl := Option.some.inj ho
      have e50 : fr.tmps[50]?.getD undef = .pointer (some ⟨e, 0, none⟩) := HF.out.ev (i := 50) rfl rfl (HE.out ⟨50, .data⟩ (by simp) rfl)
      exact wp_q rfl rfl (by simp [execOp, go_sem, e50]; try rfl) ⟨x, HF.out.put (by kernel_rfl) rfl rfl rfl (of_decide_eq_true rfl), HW.out.q hjl hl0 (by decide)⟩
    | 52, ho =>
      obtain rfl := Option.some.inj ho
      have e51 : fr.tmps[51]?.getD undef = .pointer (some ⟨e, 0, none⟩) := HF.out.ev (i := 51) rfl rfl (HE.out ⟨51, .data⟩ (by simp) rfl)
      exact wp_q rfl rfl (by simp [execOp, go_sem, e51]; try rfl) ⟨x, HF.out.put (by kernel_rfl) rfl rfl rfl (of_decide_eq_true rfl), HW.out.q hjl hl0 (by decide)⟩
    | 53, ho =>
      obtain rfl := Option.some.inj ho
      have e52 : fr.tmps[52]?.getD undef = .pointer (some ⟨e, 12, none⟩) := HF.out.ev (i := 52) rfl rfl (HE.out ⟨52, .data⟩ (by simp) rfl)
      exact wp_q rfl rfl (by simp [execOp, go_sem, e52]; try rfl) ⟨x, HF.out.put (by kernel_rfl) rfl rfl rfl (of_decide_eq_true rfl), HW.out.q hjl hl0 (by decide)⟩
    | 54, ho =>
      obtain rfl := Option.some.inj ho
      have e49 : fr.tmps[49]?.getD undef = .slice (some ⟨x.b 2, 0, none⟩) 2 2 := HF.out.ev (i := 49) rfl rfl (HE.out ⟨49, .data⟩ (by simp) rfl)
      have e53 : fr.tmps[53]?.getD undef = .func (.func 87) #[.pointer (some ⟨e, 12, none⟩)] #[] := HF.out.ev (i := 53) rfl rfl (HE.out ⟨53, .data⟩ (by simp) rfl)
      exact wp_q rfl rfl (by simp [execOp, go_sem, e49, e53]; try rfl) ⟨x, HF.out.put (by kernel_rfl) rfl rfl rfl (of_decide_eq_true rfl), HW.out.q hjl hl0 (by decide)⟩
    | 55, ho =>
      obtain rfl := Option.some.inj ho
      have e3 : fr.tmps[3]?.getD undef = .map (some x.m) := HF.out.ev (i := 1) rfl rfl (HE.out ⟨1, .data⟩ (by simp) rfl)
      have e54 : fr.tmps[54]?.getD undef = .agg #[.slice (some ⟨x.b 2, 0, none⟩) 2 2, .func (.func 87) #[.pointer (some ⟨e, 12, none⟩)] #[]] := HF.out.ev (i := 54) rfl rfl (HE.out ⟨54, .data⟩ (by simp) rfl)
      obtain ⟨hL, hw⟩ := HW.out.pre (j := 55) hl0 (by decide)
      have h1t : listed.getD 1 false = true := HE.out ⟨1, .data⟩ (by simp) rfl
      have ik := ins_at (P := Tryz.prog) (v := trV e x.b 2) u_tmap u_tint wr x.es x.c x.m (kyI 2) (hw.mp h1t) (hw.tb.miss _ fun q hq hb hk => by have := kyI_inj (i := 2) (by decide) hq hk; subst this; rw [show ixI 2 = 55 from rfl, hl0] at hb; cases hb)
      have ik2 : (Instr.mapUpdate 223 (.map (some x.m)) (.int .i64 3) (.agg #[.slice (some ⟨x.b 2, 0, none⟩) 2 2, .func (.func 87) #[.pointer (some ⟨e, 12, none⟩)] #[]])).run Tryz.prog wr = _ := ik
      exact wp_s rfl rfl (by simp [execOp, go_sem, e3, e54, ik2]; try rfl) ⟨{ x with es := x.es.push ⟨.int .i64 (kyI 2), trV e x.b 2, x.c⟩, c := x.c + 1 }, HF.out.skip rfl rfl _, LV.mk0 hjl hL (hw.ins hjl hl0 2 (by decide) rfl h1t (HC.out 54 _ rfl (HE.out ⟨54, .data⟩ (by simp) rfl) ⟨49, .data⟩ (by simp) rfl))⟩
    | 56, ho =>
      obtain rfl := Option.some.inj ho
      have e3 : fr.tmps[3]?.getD undef = .map (some x.m) := HF.out.ev (i := 1) rfl rfl (HE.out ⟨1, .data⟩ (by simp) rfl)
      exact wp_q rfl rfl (by simp [execOp, go_sem, e3]; try rfl) ⟨x, HF.out.put (by kernel_rfl) rfl rfl rfl (of_decide_eq_true rfl), HW.out.q hjl hl0 (by decide)⟩
    | 57, ho =>
      obtain rfl := Option.some.inj ho
      have e2 : fr.tmps[2]?.getD undef = .pointer (some ⟨e, 0, none⟩) := HF.out.ev (i := 0) rfl rfl (HE.out ⟨0, .data⟩ (by simp) rfl)
      exact wp_q rfl rfl (by simp [execOp, go_sem, e2]; try rfl) ⟨x, HF.out.put (by kernel_rfl) rfl rfl rfl (of_decide_eq_true rfl), HW.out.q hjl hl0 (by decide)⟩
    | 58, ho =>
      obtain rfl := Option.some.inj ho
      have e56 : fr.tmps[56]?.getD undef = .pointer (some ⟨e, 0, none⟩) := HF.out.ev (i := 57) rfl rfl (HE.out ⟨57, .data⟩ (by simp) rfl)
      exact wp_q rfl rfl (by simp [execOp, go_sem, e56]; try rfl) ⟨x, HF.out.put (by kernel_rfl) rfl rfl rfl (of_decide_eq_true rfl), HW.out.q hjl hl0 (by decide)⟩
    | 59, ho =>
      obtain rfl := Option.some.inj ho
      have e57 : fr.tmps[57]?.getD undef = .pointer (some ⟨e, 17, none⟩) := HF.out.ev (i := 58) rfl rfl (HE.out ⟨58, .data⟩ (by simp) rfl)
      have e55 : fr.tmps[55]?.getD undef = .map (some x.m) := HF.out.ev (i := 56) rfl rfl (HE.out ⟨56, .data⟩ (by simp) rfl)
      have hL : listed.getD 59 false = false := hl0
      have hw := HW.out.1 hL
      have hcl := HC.out.set hjl rfl HE.out
      have hall := hcl.all (n := 59) (by kernel_rfl) (by rw [getD_set _ _ _ hjl, if_pos rfl])
      have c17 : wr.cell? ⟨e, 17, none⟩ = some (.map none) := (hw.bel.cell he0).trans HC17.out
      have f17 : wr.frozen? ⟨e, 17, none⟩ = false := (hw.bel.frozen he0).trans HF17.out
      exact wp_s rfl rfl (by simp [execOp, go_sem, e57, e55, c17, f17]; try rfl) ⟨x, HF.out.skip rfl rfl _, LV.fin hw hjl (fun j hj => hall (59 - j) j (by omega)) (hw.q59 hjl)⟩

end Go.Proofs.YtjkihlpckgaggaaGreat
namespace Go.Proofs.YtjkihlpckgaggaaGreat
open Go.RowKit Go.ChangeMaps Go.MapKept
open C (Only hid)
set_option linter.unusedVariables false
set_option maxRecDepth 100000

theorem k_disable (w : World) : (callFunc 106 #[]).run Tryz.prog w = .ok (.value (.tuple #[])) w := run_call_mark0 Tryz.func106 (by kernel_rfl) (by kernel_rfl) (by kernel_rfl) .disable (by kernel_rfl) w
theorem k_enable (w : World) : (callFunc 108 #[]).run Tryz.prog w = .ok (.value (.tuple #[])) w := run_call_mark0 Tryz.func108 (by kernel_rfl) (by kernel_rfl) (by kernel_rfl) .enable (by kernel_rfl) w
theorem k_acquire (a : Addr) (w : World) : (callFunc 109 #[.pointer (some a)]).run Tryz.prog w = .ok (.value (.tuple #[])) w := run_call_marked Tryz.func109 (by kernel_rfl) (by kernel_rfl) (by kernel_rfl) .acquire (by kernel_rfl) a w
theorem k_release (a : Addr) (w : World) : (callFunc 111 #[.pointer (some a)]).run Tryz.prog w = .ok (.value (.tuple #[])) w := run_call_marked Tryz.func111 (by kernel_rfl) (by kernel_rfl) (by kernel_rfl) .releaseMerge (by kernel_rfl) a w
theorem k_stored (a : Addr) (x : Value) (u : FrameMode) (w : World) (hc : w.cell? a = some x) (hz : w.frozen? a = false) :
    CallsD Tryz.prog 91 #[.pointer (some a), .bool true] u w fun e u' w' => u' = u ∧ (e = .returned (.tuple #[]) ∧ w' = w.drew.setCell a (.int .u32 1)) := by
  have hc' : w.drew.cell? a = some x := by go_simp
  have hz' : w.drew.frozen? a = false := by go_simp
  have hst := run_call_store (P := Tryz.prog) Tryz.func103 (by kernel_rfl) (by kernel_rfl) (by kernel_rfl) (by kernel_rfl) (k := .u32) (y := 1) hc' hz'
  go_enter_d Tryz.func91, Tryz.ntmps91
  go_wp2
  go_region_calls
  all_goals (go_end0; exact ⟨rfl, rfl⟩)
theorem k_unlock (a : Addr) (u : FrameMode) (w : World) (hc : w.cell? a = some (.int .i32 1)) (hz : w.frozen? a = false) :
    CallsD Tryz.prog 90 #[.pointer (some a)] u w fun e u' w' => u' = u ∧ (e = .returned (.tuple #[]) ∧ w' = w.setCell a (.int .i32 0)) := by
  have hd := k_disable
  have he := k_enable
  have hr := k_release
  have hadd := run_call_add (P := Tryz.prog) Tryz.func112 (by kernel_rfl) (by kernel_rfl) (by kernel_rfl) .i32 (by kernel_rfl) (y := -1) (s := 0) hc hz (by simp [go_sem]; rfl)
  have hcv := run_convert_to_unsafe (P := Tryz.prog) (src := 287) (dst := 291) Tryz.underlying287 Tryz.underlying291 (by kernel_rfl) hc
  go_enter_d Tryz.func90, Tryz.ntmps90
  go_wp2
  go_end0
  go_wp2
  all_goals (go_end0; exact ⟨rfl, rfl⟩)
theorem k_lock (a : Addr) (w : World) (hc : w.cell? a = some (.int .i32 0)) (hz : w.frozen? a = false) :
    Calls Tryz.prog 89 #[.pointer (some a)] w fun e w' => e = .returned (.tuple #[]) ∧ w' = w.setCell a (.int .i32 1) := by
  have hd := k_disable
  have he := k_enable
  have ha := k_acquire
  have hcas := run_call_cas_hit (P := Tryz.prog) Tryz.func107 (by kernel_rfl) (by kernel_rfl) (by kernel_rfl) .i32 (by kernel_rfl) (y := 1) hc hz
  have hc' : (w.setCell a (.int .i32 1)).cell? a = some (.int .i32 1) := World.cell?_setCell_same w a _ hc
  have hcv := run_convert_to_unsafe (P := Tryz.prog) (src := 287) (dst := 291) Tryz.underlying287 Tryz.underlying291 (by kernel_rfl) hc'
  go_enter Tryz.func89, Tryz.ntmps89
  go_wp2
  first | go_end0 | (simp only [Exit.inBlock, Exit.then]; refine bodyPost_ret (results_none rfl _ _ _) rfl ?_) | refine bodyPost_ret (results_none rfl _ _ _) rfl ?_
  go_wp2
  all_goals (go_end0; exact ⟨rfl, rfl⟩)
set_option maxRecDepth 100000 in
set_option maxHeartbeats 1600000 in
theorem k_slow (c : Nat) (w : World) (v : DV) (h : w.heap[c]? = some (.cells (v.cells 0 0 (.map none)) 225 (0, 0))) :
    Calls Tryz.prog 76 #[.pointer (some ⟨c, 14, none⟩), .func (.func 74) #[.pointer (some ⟨c, 0, none⟩)] #[]] w fun e w' => e = .returned (.tuple #[]) ∧
      (∃ M b, w'.heap[c]? = some (.cells (v.cells 1 0 (.map (some M))) 225 (0, 0)) ∧ Tab w' M c b) ∧ Only (· = c) w w' := by
  have hlt := lt_of_block h
  have h0 : w.cell? ⟨c, 14, none⟩ = some (.int .u32 0) := cell_of_row w c 14 _ _ _ h
  have h1 : w.cell? ⟨c, 15, none⟩ = some (.int .i32 0) := cell_of_row w c 15 _ _ _ h
  have fz : ∀ k, w.frozen? ⟨c, k, none⟩ = false := fun k => by simp [World.frozen?, h]
  have e1 := setRowB w c 15 _ (v.cells 0 1 (.map none)) 225 (.int .i32 1) h rfl
  have ho1 : Only (· = c) w (w.setCell ⟨c, 15, none⟩ (.int .i32 1)) := only_c w c 15 _
  have hl := run_call_load (P := Tryz.prog) Tryz.func88 (by kernel_rfl) (by kernel_rfl) (by kernel_rfl) .u32 (by kernel_rfl) (w := w.setCell ⟨c, 15, none⟩ (.int .i32 1)) (a := ⟨c, 14, none⟩) (x := 0) ((World.cell?_setCell_other _ ⟨c, 15, none⟩ ⟨c, 14, none⟩ _ (by simp)).trans h0)
  have hnot : ∀ (x : Bool) (w : World), (Op.unary .not (.bool x)).run Tryz.prog w = .ok (.bool (!x)) w := fun _ _ => rfl
  have E1 := hid e1
  have O1 := hid ho1
  clear e1 ho1
  go_enter_defers Tryz.func76, Tryz.ntmps76
  go_wp2_with (first
    | (go_at_call 89; refine (k_lock ⟨c, 15, none⟩ _ h1 (fz _)).mono ?_; rintro e w' ⟨rfl, rfl⟩)
    | (go_at_call 74; refine (x_lay _ c v 0 1 E1.out).mono ?_; rintro e w2 ⟨rfl, M, b, m1, m2, m3⟩; have E2 := hid m1; have T2 := hid m2; have O2 := hid m3; clear m1 m2 m3)
    | (go_at_call 75; go_in))
  refine leaves_cons (f := 91) (args := #[.pointer (some ⟨c, 14, none⟩), .bool true]) (by simp) (by simp [go_sem]) ?_
  have g0 : w2.cell? ⟨c, 14, none⟩ = some (.int .u32 0) := cell_of_row w2 c 14 _ _ _ E2.out
  have g1 : w2.cell? ⟨c, 15, none⟩ = some (.int .i32 1) := cell_of_row w2 c 15 _ _ _ E2.out
  have z0 : ∀ k, w2.frozen? ⟨c, k, none⟩ = false := fun k => frozen_of_row w2 c k _ _ E2.out
  refine (k_stored ⟨c, 14, none⟩ (.int .u32 0) .returning _ g0 (z0 _)).mono ?_
  rintro e u' w'' ⟨rfl, rfl, rfl⟩
  refine leaves_cons (f := 90) (args := #[.pointer (some ⟨c, 15, none⟩)]) (by simp [settle]) (by simp [go_sem]) ?_
  refine (k_unlock ⟨c, 15, none⟩ _ _ ?_ (by simp [z0])).mono ?_
  · exact (World.cell?_setCell_other _ ⟨c, 14, none⟩ ⟨c, 15, none⟩ _ (by simp)).trans g1
  rintro e u' w'' ⟨rfl, rfl, rfl⟩
  have e4 := setRowB w2.drew c 14 _ (v.cells 1 1 (.map (some M))) 225 (.int .u32 1) E2.out rfl
  have e5 := setRowB _ c 15 _ (v.cells 1 0 (.map (some M))) 225 (.int .i32 0) e4 rfl
  have hM : Tab ((w2.drew.setCell ⟨c, 14, none⟩ (.int .u32 1)).setCell ⟨c, 15, none⟩ (.int .i32 0)) M c b := by
    have hT2 : Tab w2.drew M c b := T2.out
    refine (hT2.only (T := (· = c)) (only_c _ c 14 _) fun j hj => ?_).only (T := (· = c)) (only_c _ c 15 _) fun j hj => ?_
    · subst hj; exact ⟨_, _, _, E2.out, by decide⟩
    · subst hj; exact ⟨_, _, _, e4, by decide⟩
  have hO : Only (· = c) w ((w2.drew.setCell ⟨c, 14, none⟩ (.int .u32 1)).setCell ⟨c, 15, none⟩ (.int .i32 0)) := ((O1.out.trans O2.out).drew.trans (only_c _ _ _ _)).trans (only_c _ _ _ _)
  simp [Leaves, settle, results, Tryz.results76]
  exact ⟨⟨M, e5, b, hM⟩, hO⟩
theorem k_Do (c : Nat) (w : World) (v : DV) (h : Dv w c v) :
    Calls Tryz.prog 73 #[.pointer (some ⟨c, 14, none⟩), .func (.func 74) #[.pointer (some ⟨c, 0, none⟩)] #[]] w fun e w' => e = .returned (.tuple #[]) ∧
      (∃ M b, w'.heap[c]? = some (.cells (v.cells 1 0 (.map (some M))) 225 (0, 0)) ∧ Tab w' M c b) ∧ Only (· = c) w w' := by
  have hnot : ∀ (x : Bool) (w : World), (Op.unary .not (.bool x)).run Tryz.prog w = .ok (.bool (!x)) w := fun _ _ => rfl
  rcases h with h | ⟨M, b, h, hM⟩
  · have h0 : w.cell? ⟨c, 14, none⟩ = some (.int .u32 0) := cell_of_row w c 14 _ _ _ h
    have hl := run_call_load (P := Tryz.prog) Tryz.func88 (by kernel_rfl) (by kernel_rfl) (by kernel_rfl) .u32 (by kernel_rfl) h0
    go_enter Tryz.func73, Tryz.ntmps73
    go_wp2_with (first
      | (go_at_call 76; refine (k_slow c _ v h).mono ?_; rintro e w' ⟨rfl, hE, hO⟩)
      | (go_at_call 75; go_in))
    go_end0
    exact ⟨rfl, hE, hO⟩
  · have h0 : w.cell? ⟨c, 14, none⟩ = some (.int .u32 1) := cell_of_row w c 14 _ _ _ h
    have hl := run_call_load (P := Tryz.prog) Tryz.func88 (by kernel_rfl) (by kernel_rfl) (by kernel_rfl) .u32 (by kernel_rfl) h0
    have HM := hid hM
    go_enter Tryz.func73, Tryz.ntmps73
    go_wp2
    go_end0
    exact ⟨rfl, ⟨M, b, h, HM.out⟩, .refl w⟩
/-- what a kind does: none, if it is none -/
def trK (e : Nat) (b : Nat → Nat) (kd : Int) : Value := bif kd == 2 then trV e b 0 else bif kd == 1 then trV e b 1 else bif kd == 3 then trV e b 2 else .agg #[.slice none 0 0, .nilFunc]
theorem z_trade : (Tryz.prog.info? 229).map (fun i => (i.zero, i.size, i.bytes)) = some (some (.agg #[.slice none 0 0, .nilFunc]), 2, 32) := by kernel_rfl
theorem u_trade : Tryz.prog.underlying 229 = some (.struct (Tryz.prog.fieldsOf 229)) := by kernel_rfl
theorem Tab.look {w : World} {M e : Nat} {b : Nat → Nat} (h : Tab w M e b) (kd : Int) : (Instr.lookup 223 (.map (some M)) (.int .i64 kd) false).run Tryz.prog w = .ok (trK e b kd) w := by
  obtain ⟨⟨es, c, hm, hT⟩, -⟩ := h
  have hkey : IsKey (.int .i64) (.int .i64 kd) := by simp [IsKey]
  obtain ⟨i0, hi0, hz0, -, -⟩ := info_parts z_trade
  have key : ∀ i, i < 3 → kd = kyI i → trK e b kd = trV e b i → (Instr.lookup 223 (.map (some M)) (.int .i64 kd) false).run Tryz.prog w = .ok (trK e b kd) w := fun i hi hk ht => by
    obtain ⟨j, hj⟩ := hT.find i hi rfl
    rw [← hk] at hj
    rw [ht]
    simp [Instr.lookup, run_underlying u_tmap, MapKept.run_getObj_map hm, run_checkKey u_tint hkey, run_findKey u_tint hj, Result.andThen]
  by_cases h0 : kd = 2
  · exact key 0 (by decide) h0 (by subst h0; rfl)
  by_cases h1 : kd = 1
  · exact key 1 (by decide) h1 (by subst h1; rfl)
  by_cases h2 : kd = 3
  · exact key 2 (by decide) h2 (by subst h2; rfl)
  have hj := hT.miss kd fun i hi _ => by match i, hi with | 0, _ => exact h0 | 1, _ => exact h1 | 2, _ => exact h2
  have ht : trK e b kd = .agg #[.slice none 0 0, .nilFunc] := by
    unfold trK
    rw [show (kd == 2) = false from by simp [h0], show (kd == 1) = false from by simp [h1], show (kd == 3) = false from by simp [h2]]
    rfl
  rw [ht]
  simp [Instr.lookup, run_underlying u_tmap, MapKept.run_getObj_map hm, run_checkKey u_tint hkey, run_findKey u_tint hj, Result.andThen, zeroValue, typeInfo, hi0, hz0]
end Go.Proofs.YtjkihlpckgaggaaGreat
namespace Go.Proofs.YtjkihlpckgaggaaGreat
open Go.RowKit Go.ChangeMaps Go.MapKept
open C (Only hid)
set_option linter.unusedVariables false
set_option maxRecDepth 100000

theorem s_trade : (Tryz.prog.info? 229).map (·.size) = some 2 := by kernel_rfl
theorem results_cellS {P : Program} {fn : Func} {p : Tmp} {ty : TypeId} (h : fn.results = #[.cell p ty]) (tmps : Array Value) (w : World) (g : Nat) (t : TypeId) (cs : Array Value) (fr : Nat × Nat) (d : TypeDesc)
    (hp : tmps.getD p undef = .pointer (some ⟨g, 0, none⟩)) (hg : w.heap[g]? = some (.cells cs t fr))
    (hu : P.underlying ty = some d) (hd : (match d with | .struct _ | .array _ _ => true | _ => false) = true) (hi : (P.info? ty).map (·.size) = some cs.size) :
    (results fn tmps).run P w = .ok (.agg cs) w := by
  have hp' : tmps[p]?.getD undef = .pointer (some ⟨g, 0, none⟩) := by simpa using hp
  simp [results, h, hp', asAddr, run_loadVar_row w g t ty cs fr d hg hu hd hi]
theorem trK_agg (e : Nat) (b : Nat → Nat) (kd : Int) : ∃ cs : Array Value, trK e b kd = .agg cs ∧ cs.size = 2 ∧ cs.all (·.oneCell') = true := by
  unfold trK
  cases kd == 2 <;> cases kd == 1 <;> cases kd == 3 <;> refine ⟨_, rfl, rfl, ?_⟩ <;> (rw [Array.all_eq_true_iff_forall_mem]; intro x hx; simp at hx; rcases hx with rfl | rfl <;> rfl)
set_option maxHeartbeats 2000000 in
theorem k_trade (w : World) (e : Nat) (v : DV) (h : Dv w e v) :
    Calls Tryz.prog 64 #[.pointer (some ⟨e, 0, none⟩)] w fun r w' => ∃ M b, r = .returned (trK e b v.kd) ∧ w'.heap[e]? = some (.cells (v.cells 1 0 (.map (some M))) 225 (0, 0)) ∧ Tab w' M e b ∧ Only (· = e) w w' := by
  have hlt := h.lt
  obtain ⟨n0, hn0⟩ : ∃ n0, n0 = w.heap.size := ⟨_, rfl⟩
  have hD := k_Do e (w.alloc (.cells #[.slice none 0 0, .nilFunc] 229)) v (h.below ((Below.refl _ _).alloc (Nat.le_refl _) _))
  have HN0 := hid (heap_alloc_new w (.cells #[.slice none 0 0, .nilFunc] 229))
  have HB0 := hid ((Below.refl w.heap.size w).alloc (Nat.le_refl _) (.cells #[.slice none 0 0, .nilFunc] 229))
  have HLT := hid hlt
  have HQ := hid hn0
  clear h hlt hn0
  go_enter Tryz.func64, Tryz.ntmps64
  go_upto_region 2 with (go_at_call 73; refine hD.mono ?_; rintro r w2 ⟨rfl, ⟨M, b, h1, h2⟩, h3⟩; have H1 := hid h1; have H2 := hid h2; have H3 := hid h3; clear h1 h2 h3)
  obtain ⟨cs, hcs, hs1, hs2⟩ := trK_agg e b v.kd
  have HCs := hid (show cs.size = 2 ∧ cs.all (·.oneCell') = true from ⟨hs1, hs2⟩)
  rw [← HQ.out]
  rw [← HQ.out] at HN0
  have hne : n0 ≠ e := by have := HLT.out; have := HQ.out; omega
  have hN : w2.heap[n0]? = some (.cells #[.slice none 0 0, .nilFunc] 229 (0, 0)) := H3.out.old HN0.out hne
  have hO : Only (· = e) w w2 := (Only.ofBelow HB0.out).trans H3.out
  have HK : Hid (∃ M b, (Ending.returned (.agg cs) : Ending) = .returned (trK e b v.kd) ∧ (w2.drew.setRow n0 cs).heap[e]? = some (.cells (v.cells 1 0 (.map (some M))) 225 (0, 0)) ∧ Tab (w2.drew.setRow n0 cs) M e b ∧ Only (· = e) w (w2.drew.setRow n0 cs)) :=
    ⟨M, b, by rw [hcs], (Go.setRow_other w2.drew n0 e cs (fun q => hne q.symm)).trans H1.out, (show Tab w2.drew M e b from H2.out).only (T := (· = n0)) ((Only.refl (S := (· = n0)) w2.drew).setRow (.inl rfl) _) (fun j hj => by subst hj; exact ⟨_, _, _, hN, by decide⟩), (hO.drew).setRow (.inr (by have := HQ.out; omega)) _⟩
  have HN := hid (show w2.drew.heap[n0]? = some (.cells #[.slice none 0 0, .nilFunc] 229 (0, 0)) from hN)
  have HHd := hid (show w2.drew.heap[e]? = some (.cells (v.cells 1 0 (.map (some M))) 225 (0, 0)) from H1.out)
  have HTb := hid (show Tab w2.drew M e b from H2.out)
  have HCE := hid hcs
  clear hN hO hcs hs1 hs2 H1 H2 H3 HB0 HN0 HLT HQ
  refine wp_region_any (by kernel_rfl) ?_
  rw [show ({ w2 with drawn := w2.drawn + 1 } : World) = w2.drew from rfl]
  generalize w2.drew = w3 at *
  have HLD : Hid (∀ (x : Unit) listed w, VS [9] (fun n (_ : Unit) w => w = if n = 0 then w3 else w3.setRow n0 cs) x listed w → w.cell? ⟨e, 17, none⟩ = some (.map (some M)) ∧ w.cell? ⟨e, 0, none⟩ = some (.int .i64 v.kd)) := by
    rintro x listed w' ⟨s, -, q⟩
    have hb : w'.heap[e]? = some (.cells (v.cells 1 0 (.map (some M))) 225 (0, 0)) := by
      rw [q]
      split
      · exact HHd.out
      · exact (Go.setRow_other w3 n0 e cs (fun q => hne q.symm)).trans HHd.out
    exact ⟨cell_of_row w' e 17 _ _ _ hb, cell_of_row w' e 0 _ _ _ hb⟩
  have HLK : Hid (∀ (x : Unit) (listed : Array Bool) w, VS [9] (fun n (_ : Unit) w => w = if n = 0 then w3 else w3.setRow n0 cs) x listed w → listed.getD 9 false = false → (Instr.lookup 223 (.map (some M)) (.int .i64 v.kd) false).run Tryz.prog w = .ok (.agg cs) w) := by
    rintro x listed w' ⟨s, hs, q⟩ h9
    have := hs 0 9 rfl
    rw [h9] at this
    have : s = 0 := by have := this.symm; simp at this; omega
    rw [this, if_pos rfl] at q
    rw [q, ← HCE.out]
    exact HTb.out.look v.kd
  clear HHd HTb HCE
  refine wpAny_fz (α := Unit) (fun _ => fun dd => if dd = 9 then .pointer (some ⟨e, 0, none⟩) else if dd = 10 then .pointer (some ⟨e, 0, none⟩) else if dd = 11 then .pointer (some ⟨e, 17, none⟩) else if dd = 12 then .map (some M) else if dd = 13 then .pointer (some ⟨e, 0, none⟩) else if dd = 14 then .pointer (some ⟨e, 0, none⟩) else if dd = 15 then .pointer (some ⟨e, 0, none⟩) else if dd = 16 then .int .i64 v.kd else if dd = 17 then .agg cs else undef) (fun x listed w => VS [9] (fun n (_ : Unit) w => w = if n = 0 then w3 else w3.setRow n0 cs) x listed w) ?step ?fin () ?start
  case start => exact .start rfl
  case step =>
    rintro listed fr wr x hF hW hC i hj
    obtain ⟨hl, o, ho, he⟩ := mem_ready.1 hj
    have hjl : i < listed.size := by rw [hF.q.ls]; exact (Array.getElem?_eq_some_iff.1 ho).1
    have hl0 := getD_tf hjl hl
    clear hj
    have HF := hid hF
    have HW := hid hW
    have HE := hid he
    have HC := hid hC
    clear hF hW he hl hC
    match i, ho with
    | 0, ho =>
      obtain rfl := Option.some.inj ho
      have e0 : fr.tmps[0]?.getD undef = .pointer (some ⟨e, 0, none⟩) := HF.out.base 0 (by kernel_rfl) rfl
      exact wp_q rfl rfl (by simp [execOp, go_sem, e0]; try rfl) ⟨(), HF.out.put (by kernel_rfl) rfl rfl rfl (of_decide_eq_true rfl), HW.out.q hjl (by decide)⟩
    | 1, ho =>
      obtain rfl := Option.some.inj ho
      have e9 : fr.tmps[9]?.getD undef = .pointer (some ⟨e, 0, none⟩) := HF.out.ev (i := 0) rfl rfl (HE.out ⟨0, .data⟩ (by simp) rfl)
      exact wp_q rfl rfl (by simp [execOp, go_sem, e9]; try rfl) ⟨(), HF.out.put (by kernel_rfl) rfl rfl rfl (of_decide_eq_true rfl), HW.out.q hjl (by decide)⟩
    | 2, ho =>
      obtain rfl := Option.some.inj ho
      have e10 : fr.tmps[10]?.getD undef = .pointer (some ⟨e, 0, none⟩) := HF.out.ev (i := 1) rfl rfl (HE.out ⟨1, .data⟩ (by simp) rfl)
      exact wp_q rfl rfl (by simp [execOp, go_sem, e10]; try rfl) ⟨(), HF.out.put (by kernel_rfl) rfl rfl rfl (of_decide_eq_true rfl), HW.out.q hjl (by decide)⟩
    | 3, ho =>
      obtain rfl := Option.some.inj ho
      have e11 : fr.tmps[11]?.getD undef = .pointer (some ⟨e, 17, none⟩) := HF.out.ev (i := 2) rfl rfl (HE.out ⟨2, .data⟩ (by simp) rfl)
      have hc : wr.cell? ⟨e, 17, none⟩ = some (.map (some M)) ∧ wr.cell? ⟨e, 0, none⟩ = some (.int .i64 v.kd) := HLD.out _ _ _ HW.out
      exact wp_q rfl rfl (by simp [execOp, go_sem, e11, hc.1]; try rfl) ⟨(), HF.out.put (by kernel_rfl) rfl rfl rfl (of_decide_eq_true rfl), HW.out.q hjl (by decide)⟩
    | 4, ho =>
      obtain rfl := Option.some.inj ho
      have e0 : fr.tmps[0]?.getD undef = .pointer (some ⟨e, 0, none⟩) := HF.out.base 0 (by kernel_rfl) rfl
      exact wp_q rfl rfl (by simp [execOp, go_sem, e0]; try rfl) ⟨(), HF.out.put (by kernel_rfl) rfl rfl rfl (of_decide_eq_true rfl), HW.out.q hjl (by decide)⟩
    | 5, ho =>
      obtain rfl := Option.some.inj ho
      have e13 : fr.tmps[13]?.getD undef = .pointer (some ⟨e, 0, none⟩) := HF.out.ev (i := 4) rfl rfl (HE.out ⟨4, .data⟩ (by simp) rfl)
      exact wp_q rfl rfl (by simp [execOp, go_sem, e13]; try rfl) ⟨(), HF.out.put (by kernel_rfl) rfl rfl rfl (of_decide_eq_true rfl), HW.out.q hjl (by decide)⟩
    | 6, ho =>
      obtain rfl := Option.some.inj ho
      have e14 : fr.tmps[14]?.getD undef = .pointer (some ⟨e, 0, none⟩) := HF.out.ev (i := 5) rfl rfl (HE.out ⟨5, .data⟩ (by simp) rfl)
      exact wp_q rfl rfl (by simp [execOp, go_sem, e14]; try rfl) ⟨(), HF.out.put (by kernel_rfl) rfl rfl rfl (of_decide_eq_true rfl), HW.out.q hjl (by decide)⟩
    | 7, ho =>
      obtain rfl := Option.some.inj ho
      have e15 : fr.tmps[15]?.getD undef = .pointer (some ⟨e, 0, none⟩) := HF.out.ev (i := 6) rfl rfl (HE.out ⟨6, .data⟩ (by simp) rfl)
      have hc : wr.cell? ⟨e, 17, none⟩ = some (.map (some M)) ∧ wr.cell? ⟨e, 0, none⟩ = some (.int .i64 v.kd) := HLD.out _ _ _ HW.out
      exact wp_q rfl rfl (by simp [execOp, go_sem, e15, hc.2]; try rfl) ⟨(), HF.out.put (by kernel_rfl) rfl rfl rfl (of_decide_eq_true rfl), HW.out.q hjl (by decide)⟩
    | 8, ho =>
      obtain rfl := Option.some.inj ho
      have e12 : fr.tmps[12]?.getD undef = .map (some M) := HF.out.ev (i := 3) rfl rfl (HE.out ⟨3, .data⟩ (by simp) rfl)
      have e16 : fr.tmps[16]?.getD undef = .int .i64 v.kd := HF.out.ev (i := 7) rfl rfl (HE.out ⟨7, .data⟩ (by simp) rfl)
      have hl9 : listed.getD 9 false = false := not_yet HC.out hl0 rfl ⟨8, .data⟩ (by simp) rfl rfl
      have hk : (Instr.lookup 223 (.map (some M)) (.int .i64 v.kd) false).run Tryz.prog wr = .ok (.agg cs) wr := HLK.out _ _ _ HW.out hl9
      exact wp_q rfl rfl (by simp [execOp, go_sem, e12, e16, hk]; try rfl) ⟨(), HF.out.put (by kernel_rfl) rfl rfl rfl (of_decide_eq_true rfl), HW.out.q hjl (by decide)⟩
    | 9, ho =>
      obtain rfl := Option.some.inj ho
      have e2 : fr.tmps[2]?.getD undef = .pointer (some ⟨n0, 0, none⟩) := HF.out.base 2 (by kernel_rfl) rfl
      have e17 : fr.tmps[17]?.getD undef = .agg cs := HF.out.ev (i := 8) rfl rfl (HE.out ⟨8, .data⟩ (by simp) rfl)
      have hw0 := HW.out.at 0 rfl hl0 (fun j hj => by omega)
      have hw0 : wr = w3 := hw0
      subst hw0
      exact wp_st rfl rfl 229 _ _ rfl n0 cs (by simp [Act.eval, e2]) (by simp [Act.eval, e17]) 229 _ HN.out (by rw [HCs.out.1]; exact s_trade) (by rw [HCs.out.1]; rfl) HCs.out.2 ⟨(), HF.out.skip rfl rfl _, HW.out.go 0 hjl rfl hl0 (fun j hj => by omega) (by intro a ha; match a, ha with | 0, _ => rfl) rfl⟩
  case fin =>
    rintro listed fr w2 x hF hW hr
    have all := allDone hr hF.q.ls (by kernel_rfl)
    have hw : w2 = w3.setRow n0 cs := hW.end 0 rfl (all _ (by decide)) (fun s hs q => by rw [if_neg (by omega)] at q; exact q)
    rw [hF.full all]
    clear hF hr all hW
    subst hw
    simp only [List.foldl_cons, List.foldl_nil, fillF]
    go_simp
    go_wp2_with fail
    refine bodyPost_ret_by (results_cellS (P := Tryz.prog) (fn := Tryz.f64) (p := 2) (ty := 229) rfl _ _ n0 229 cs (0, 0) _ (by rfl) (setRow_heap w3 n0 _ _ _ _ HN.out) u_trade rfl (by rw [HCs.out.1]; exact s_trade)) ?_ ?_
    rfl
    exact HK.out

end Go.Proofs.YtjkihlpckgaggaaGreat
namespace Go.Proofs.YtjkihlpckgaggaaGreat
open Go.RowKit
open C (Only hid Still ret_bool ret_int)
set_option linter.unusedVariables false
set_option maxRecDepth 100000

theorem allDoneB {ops : Array Oper} {listed : Array Bool} (hr : Region.ready .any ops listed = []) (hs : listed.size = ops.size) (hc : ((List.range ops.size).all fun j => (match ops[j]? with | some o => o.after.all fun e => !Region.binds .any e || decide (e.on < j) | none => true)) = true) : ∀ j, j < ops.size → listed.getD j false = true := by
  intro j
  induction j using Nat.strongRecOn with
  | _ j ih =>
    intro hj
    have h1 := List.all_eq_true.1 hc j (by simpa using hj)
    cases z : listed.getD j false with
    | true => rfl
    | false =>
      exfalso
      have hjo : ops[j]? = some ops[j] := by simp [hj]
      rw [hjo] at h1
      have : j ∈ Region.ready .any ops listed := by
        refine mem_ready.2 ⟨?_, ops[j], hjo, fun e he hb => ?_⟩
        · have hjl : j < listed.size := by rw [hs]; exact hj
          simp [hjl] at z ⊢
          exact z
        · have := Array.all_eq_true_iff_forall_mem.1 h1 e he
          have hlt : e.on < j := by simpa [hb] using this
          exact ih e.on hlt (Nat.lt_trans hlt hj)
      rw [hr] at this
      cases this
def bys (l : List Int) : List Value := l.map (Value.int .u8)
theorem bys_len (l : List Int) : (bys l).length = l.length := by simp [bys]
theorem bys_app (l : List Int) (x : Int) : bys l ++ [Value.int .u8 x] = bys (l ++ [x]) := by simp [bys]
theorem bys_get (l : List Int) (j : Nat) (u : Value) (h : (bys l)[j]? = some u) : ∃ x, l[j]? = some x ∧ u = .int .u8 x := by
  unfold bys at h
  rw [List.getElem?_map] at h
  cases e : l[j]? with
  | none => rw [e] at h; cases h
  | some x => rw [e] at h; exact ⟨x, rfl, by simpa using h.symm⟩
theorem bys_one (l : List Int) : ∀ u ∈ bys l, u.oneCell' = true := by
  intro u hu
  simp only [bys, List.mem_map] at hu
  obtain ⟨x, _, rfl⟩ := hu
  rfl
theorem info_u8 : (Tryz.prog.info? 5).map (fun i => (i.zero, i.size, i.bytes)) = some (some (.int .u8 0), 1, 1) := by kernel_rfl
theorem u_su8 : Tryz.prog.underlying 23 = some (.slice 5) := by kernel_rfl
theorem zero_u8 (w : World) : (zeroValue 5).run Tryz.prog w = .ok (.int .u8 0) w := Tryz.zeroValue5 w
theorem eq_nilB (w : World) (a : Option Addr) (l c : Nat) : (binOp .eql 23 (.slice a l c) (.slice none 0 0)).run Tryz.prog w = .ok (.bool a.isNone) w := by
  simp only [binOp]
  simp [run_equal_slice_nil w 23 5 a l c u_su8]
theorem l_Clone (w : World) (u : Value) (l : List Int) (hu : w.ownsRow 0 5 1 u l.length (bys l)) (hn : l.length ≤ 140737488355328) : Calls Tryz.prog 66 #[u] w fun r w' => ∃ v, r = .returned v ∧ w'.ownsRow 0 5 1 v l.length (bys l) ∧ Below w.heap.size w w' ∧ ∀ k, v.ownBlock = some k → w.heap.size ≤ k := by
  obtain ⟨i0, hi, hz0, hz1, hz2⟩ := info_parts info_u8
  have hne := eq_nilB
  have hlen := hu.1
  rcases hu.2 with ⟨rfl, h0⟩ | ⟨g, cap, cur, rfl, -, hg, hc, hcm, hcs, ht⟩
  · have HU := hid hu
    clear hu hlen
    go_enter Tryz.func66, Tryz.ntmps66
    go_wp2
    go_ret
    exact ⟨_, rfl, HU.out, .refl _ _, fun k hk => by cases hk⟩
  · have HC : Hid (∀ (o : Obj) j x, (bys l)[j]? = some x → (w.alloc o).cell? ((⟨g, 0, none⟩ : Addr).add j) = some x) := fun o j x hx => by
      rw [C.addr_add, Nat.zero_add, cell_of_row (w.alloc o) g j _ _ _ ((Below.heap_alloc w _ _ (lt_of_block hg)).trans hg)]
      rw [← ht, List.getElem?_take] at hx
      split at hx
      · simpa using hx
      · cases hx
    have H1 := hid (bys_one l)
    clear hu hg ht
    go_enter Tryz.func66, Tryz.ntmps66
    go_wp2_with (at_builtin; refine wpList_append_own _ rfl _ _ 23 rfl w.heap.size 5 i0 (.int .u8 0) 1 1 u_su8 hi hz0 hz1 hz2 rfl (by decide) _ 0 [] rfl (World.ownsRow_lit w #[] 0 (Nat.le_refl _) (by decide) rfl) ⟨g, 0, none⟩ l.length cap (bys l) rfl (by omega) (HC.out _) H1.out (by unfold maxLen; omega) (by omega) (by simp) ?_; intro v' w2 hown hgrow _; have HO3 := hid hown; have HG3 := hid hgrow; clear hown hgrow)
    go_ret
    have e1 := HO3.out
    rw [Nat.zero_add, List.nil_append] at e1
    refine ⟨v', rfl, ⟨e1.1, e1.2.imp id fun ⟨g', cap', cur', q1, q2, q3⟩ => ⟨g', cap', cur', q1, Nat.zero_le _, q3⟩⟩, ((Below.refl _ _).alloc (Nat.le_refl _) _).grown HG3.out (by simp) (fun r q => ?_), fun k hk => ?_⟩
    · obtain rfl : w.heap.size = r := by simpa [Value.ownBlock, Act.eval] using q
      exact Nat.le_refl _
    · exact (HO3.out.lt k hk).1
end Go.Proofs.YtjkihlpckgaggaaGreat
namespace Go.Proofs.YtjkihlpckgaggaaGreat
open Go.RowKit
open C (Only hid Still ret_int ret_bool)
set_option linter.unusedVariables false
set_option maxRecDepth 100000

theorem k_New (w : World) : Calls Tryz.prog 67 #[] w fun e w' => e = .returned (.pointer (some ⟨w.heap.size, 0, none⟩)) ∧ Qb w' w.heap.size q0 ∧ Below w.heap.size w w' := by
  go_enter Tryz.func67, Tryz.ntmps67
  go_wp2
  go_ret
  exact ⟨rfl, heap_alloc_new w _, (Below.refl _ _).alloc (Nat.le_refl _) _⟩
theorem k_Ready (w : World) (q : Nat) (v : QV) (h : Qb w q v) : Calls Tryz.prog 258 #[.pointer (some ⟨q, 0, none⟩)] w fun e w' => e = .returned (.bool (v.sz != 0)) ∧ w' = w := by
  have c0 := h.c0
  clear h
  go_enter Tryz.func258, Tryz.ntmps258
  go_wp2
  go_ret
  exact ⟨rfl, rfl⟩
theorem k_Dead (w : World) (q : Nat) (v : QV) (h : Qb w q v) : Calls Tryz.prog 259 #[.pointer (some ⟨q, 0, none⟩)] w fun e w' => e = .returned (.bool v.dead) ∧ w' = w := by
  have c0 := h.c6
  clear h
  go_enter Tryz.func259, Tryz.ntmps259
  go_wp2
  go_ret
  exact ⟨rfl, rfl⟩
theorem k_die (w : World) (q : Nat) (v : QV) (h : Qb w q v) (e : Int) : Calls Tryz.prog 274 #[.pointer (some ⟨q, 0, none⟩), .int .i64 e] w fun r w' => r = .returned (.int .i64 e) ∧ Qb w' q v.die ∧ Only (· = q) w w' := by
  have c0 := h.c6
  have z0 := h.fz 6
  have H := hid h
  clear h
  go_enter Tryz.func274, Tryz.ntmps274
  go_wp2
  go_ret
  exact ⟨rfl, setRowB w q 6 (qc v) (qc v.die) _ _ H.out rfl, only_c w q 6 _⟩
theorem k_place (w : World) (q : Nat) (v : QV) (h : Qb w q v) (ho : isSz v.sz = true) (x : Int) (x0 : 0 ≤ x) (x1 : x < 65536) : Calls Tryz.prog 276 #[.pointer (some ⟨q, 0, none⟩), .int .u16 x] w fun e w' => e = .returned (.int .u64 (x % v.sz)) ∧ w' = w := by
  have c0 := h.c0
  have hb := isSz_b ho
  clear h ho
  generalize v.sz = z at *
  have e1 : IntKind.u64.wrap z = z := by rw [IntKind.wrap_u64]; omega
  have e2 : IntKind.u64.wrap x = x := by rw [IntKind.wrap_u64]; omega
  have e3 : x.tmod z = x % z := Int.tmod_eq_emod_of_nonneg x0
  have e4 : z ≠ 0 := by omega
  go_enter Tryz.func276, Tryz.ntmps276
  go_wp2
  go_ret
  refine ⟨ret_int ?_, rfl⟩
  first | exact e3 | rfl | (simp; done) | go_num
theorem k_works (w : World) (q : Nat) (v : QV) (h : Qb w q v) : Calls Tryz.prog 272 #[.pointer (some ⟨q, 0, none⟩)] w fun e w' => e = .returned (.int .i64 (if v.sz = 0 then 30 else if v.dead then 33 else 0)) ∧ w' = w := by
  have hr := k_Ready w q v h
  have c6 := h.c6
  clear h
  generalize v.sz = z at *
  generalize v.dead = d at *
  by_cases e : z = 0
  · subst e
    go_enter Tryz.func272, Tryz.ntmps272
    go_wp2_with (go_at_call 258; refine hr.mono ?_; rintro e w' ⟨rfl, hw⟩; obtain rfl := hw.symm)
    go_ret
    exact ⟨rfl, rfl⟩
  · have e' : (z != 0) = true := by simp [e]
    rw [e'] at hr
    rw [if_neg e]
    clear e e'
    cases d
    all_goals
      go_enter Tryz.func272, Tryz.ntmps272
      go_wp2_with (go_at_call 258; refine hr.mono ?_; rintro e w' ⟨rfl, hw⟩; obtain rfl := hw.symm)
      go_ret
      exact ⟨rfl, rfl⟩
theorem k_Reset (w : World) (q : Nat) (v : QV) (h : Qb w q v) : Calls Tryz.prog 269 #[.pointer (some ⟨q, 0, none⟩)] w fun e w' => e = .returned (.tuple #[]) ∧ Qb w' q q0 ∧ Only (· = q) w w' := by
  have H := hid h
  clear h
  go_enter Tryz.func269, Tryz.ntmps269
  go_wp2_with ((with_reducible refine wpL_stQ q v q0 ?_ ?_ H.out ?_); rfl; rfl)
  go_end0
  exact ⟨rfl, setRow_heap w q _ _ _ _ H.out, (Only.refl (S := (· = q)) w).setRow (.inl rfl) _⟩

theorem sz_and : ∀ k : Fin 65, (bits BinOp.and IntKind.i64 ((k.val : Nat) : Int) (((k.val : Nat) : Int) - 1) == 0) = (isSz k.val || k.val == 0) := by decide +kernel
theorem k_isSize (w : World) (z : Int) (z0 : -9223372036854775808 ≤ z) (z1 : z ≤ 9223372036854775807) : Calls Tryz.prog 277 #[.int .i64 z] w fun e w' => e = .returned (.bool (isSz z)) ∧ w' = w := by
  by_cases h : 1 ≤ z ∧ z ≤ 64
  · obtain ⟨h0, h1⟩ := h
    have h2 := sz_and ⟨z.toNat, by omega⟩
    have h3 : ((z.toNat : Nat) : Int) = z := by omega
    have h4 : (z.toNat == 0) = false := by simp; omega
    simp only [h3, h4, Bool.or_false] at h2
    generalize isSz z = b at *
    clear h3 h4
    go_enter Tryz.func277, Tryz.ntmps277
    go_wp2
    go_ret
    exact ⟨ret_bool (by first | exact h2 | simp | (simp; exact h2)), rfl⟩
  · have hb : isSz z = false := by
      cases e : isSz z
      · rfl
      · exact absurd (isSz_b e) h
    rw [hb]
    clear hb
    by_cases h1 : 1 ≤ z
    · have h2 : ¬ z ≤ 64 := by omega
      clear h
      go_enter Tryz.func277, Tryz.ntmps277
      go_wp2
      go_ret
      exact ⟨rfl, rfl⟩
    · clear h
      go_enter Tryz.func277, Tryz.ntmps277
      go_wp2
      go_ret
      exact ⟨rfl, rfl⟩
def isPl (x m : Int) : Bool := x % m == 0 && decide (x < 1152921504606846976)
theorem k_isPlace (w : World) (x m : Int) (x0 : 0 ≤ x) (x1 : x < 18446744073709551616) (m0 : 0 < m) (m1 : m ≤ 16) : Calls Tryz.prog 278 #[.int .u64 x, .int .u64 m] w fun e w' => e = .returned (.bool (isPl x m)) ∧ w' = w := by
  have e3 : x.tmod m = x % m := Int.tmod_eq_emod_of_nonneg x0
  have e4 : m ≠ 0 := by omega
  have HR : Hid (isPl x m = (x % m == 0 && decide (x < 1152921504606846976))) := rfl
  generalize isPl x m = b at *
  have hy : 0 ≤ x % m := Int.emod_nonneg _ e4
  have hy1 : x % m < m := Int.emod_lt_of_pos _ m0
  have ew : IntKind.u64.wrap (x % m) = x % m := by rw [IntKind.wrap_u64]; omega
  obtain ⟨y, e5⟩ : ∃ y, x % m = y := ⟨_, rfl⟩
  rw [e5] at HR e3 ew
  by_cases h : y = 0
  · subst h
    clear e5 hy hy1 ew
    go_enter Tryz.func278, Tryz.ntmps278
    go_wp2
    go_ret
    exact ⟨ret_bool (by rw [HR.out]; rfl), rfl⟩
  · have hb : (y == 0) = false := by simp [h]
    rw [hb] at HR
    obtain rfl : b = false := HR.out
    clear e5 hy hy1
    go_enter Tryz.func278, Tryz.ntmps278
    go_wp2
    go_ret
    exact ⟨rfl, rfl⟩
/-- what Setup asks -/
def okS (v : QV) (z d a u : Int) : Bool := v.sz == 0 && isSz z && isPl d 16 && isPl a 2 && isPl u 4
def QV.set (v : QV) (z d a u : Int) : QV := bif okS v z d a u then ⟨z, d, a, u, 0, 0, false⟩ else v
theorem QOk.set {v : QV} (h : QOk v) (z d a u : Int) (d0 : 0 ≤ d) (a0 : 0 ≤ a) (u0 : 0 ≤ u) : QOk (v.set z d a u) := by
  unfold QV.set
  cases e : okS v z d a u
  · exact h
  · unfold okS isPl at e
    simp only [Bool.and_eq_true, decide_eq_true_eq] at e
    exact ⟨.inr e.1.1.1.2, ⟨d0, e.1.1.2.2⟩, ⟨a0, e.1.2.2⟩, ⟨u0, e.2.2⟩, ⟨Int.le_refl 0, (by decide : (0 : Int) < 65536)⟩, ⟨Int.le_refl 0, (by decide : (0 : Int) < 65536)⟩⟩
theorem k_Setup (w : World) (q : Nat) (v : QV) (h : Qb w q v) (z d a u : Int) (z0 : -9223372036854775808 ≤ z) (z1 : z ≤ 9223372036854775807) (d0 : 0 ≤ d) (d1 : d < 18446744073709551616) (a0 : 0 ≤ a) (a1 : a < 18446744073709551616) (u0 : 0 ≤ u) (u1 : u < 18446744073709551616) :
    Calls Tryz.prog 270 #[.pointer (some ⟨q, 0, none⟩), .int .i64 z, .int .u64 d, .int .u64 a, .int .u64 u] w fun e w' => e = .returned (.int .i64 (bif okS v z d a u then 0 else 1)) ∧ Qb w' q (v.set z d a u) ∧ Only (· = q) w w' := by
  have hr := k_Ready w q v h
  have hz := k_isSize w z z0 z1
  have hd := k_isPlace w d 16 d0 d1 (by decide) (by decide)
  have ha := k_isPlace w a 2 a0 a1 (by decide) (by decide)
  have hu := k_isPlace w u 4 u0 u1 (by decide) (by decide)
  have HV : Hid (v.set z d a u = bif okS v z d a u then ⟨z, d, a, u, 0, 0, false⟩ else v) := rfl
  have ho : okS v z d a u = (!(v.sz != 0) && isSz z && isPl d 16 && isPl a 2 && isPl u 4) := by
    unfold okS
    cases e : v.sz == 0 <;> simp [e, bne]
  have HO := hid ho
  clear ho
  generalize v.set z d a u = v' at *
  generalize okS v z d a u = ok at *
  generalize isSz z = b1 at *
  generalize isPl d 16 = b2 at *
  generalize isPl a 2 = b3 at *
  generalize isPl u 4 = b4 at *
  generalize (v.sz != 0) = b0 at *
  have H := hid h
  clear h
  rcases b0 with _ | _
  rcases b1 with _ | _
  rotate_left
  rcases b2 with _ | _
  rotate_left
  rcases b3 with _ | _
  rotate_left
  rcases b4 with _ | _
  all_goals
    have ho := HO.out
    simp only [Bool.not_true, Bool.not_false, Bool.and_true, Bool.and_false, Bool.false_and] at ho
    subst ho
    have hv := HV.out
    subst hv
    clear HO HV
    go_enter Tryz.func270, Tryz.ntmps270
    go_wp2_with (first
      | (go_at_call 258; refine hr.mono ?_; rintro e w' ⟨rfl, hw⟩; obtain rfl := hw.symm)
      | (go_at_call 277; refine hz.mono ?_; rintro e w' ⟨rfl, hw⟩; obtain rfl := hw.symm)
      | (go_at_call 278; (with_reducible refine hd.mono ?_); rintro e w' ⟨rfl, hw⟩; obtain rfl := hw.symm)
      | (go_at_call 278; (with_reducible refine ha.mono ?_); rintro e w' ⟨rfl, hw⟩; obtain rfl := hw.symm)
      | (go_at_call 278; (with_reducible refine hu.mono ?_); rintro e w' ⟨rfl, hw⟩; obtain rfl := hw.symm)
      | ((with_reducible refine wpL_stQ q v ⟨z, d, a, u, 0, 0, false⟩ ?_ ?_ H.out ?_); rfl; rfl))
    go_ret
    first
      | exact ⟨rfl, H.out, Only.refl w⟩
      | exact ⟨rfl, setRow_heap w q _ _ _ _ H.out, (Only.refl (S := (· = q)) w).setRow (.inl rfl) _⟩
end Go.Proofs.YtjkihlpckgaggaaGreat
namespace Go.Proofs.YtjkihlpckgaggaaGreat
open Go.RowKit
open C (Only hid Still ret_bool ret_int)
set_option linter.unusedVariables false
set_option maxRecDepth 100000

/-- a queue's registers -/
structure SV where
  sz : Int
  d0 : Int
  d1 : Int
  a0 : Int
  a1 : Int
  u0 : Int
  u1 : Int
def svc (r : Nat) (s : SV) : Array Value := #[.pointer (some ⟨r, 0, none⟩), .int .u32 s.sz, .int .u32 s.d0, .int .u32 s.d1, .int .u32 s.a0, .int .u32 s.a1, .int .u32 s.u0, .int .u32 s.u1]
def s0 : SV := ⟨0, 0, 0, 0, 0, 0, 0⟩
/-- a device's queues -/
structure QS (w : World) (u : Value) (n : Nat) (qb rq : Nat → Nat) (s : Nat → SV) (v : Nat → QV) : Prop where
  row : w.ownsRow 0 231 1 u n ((List.range n).map fun i => .pointer (some ⟨qb i, 0, none⟩))
  q : ∀ i, i < n → w.heap[qb i]? = some (.cells (svc (rq i) (s i)) 236 (0, 0))
  r : ∀ i, i < n → Qb w (rq i) (v i)
  iq : ∀ i j, i < n → j < n → qb i = qb j → i = j
  ir : ∀ i j, i < n → j < n → rq i = rq j → i = j
theorem QS.form {w : World} {u : Value} {n : Nat} {qb rq : Nat → Nat} {s : Nat → SV} {v : Nat → QV} (h : QS w u n qb rq s v) : ∃ ad c, u = .slice ad n c := own_form h.row
theorem QS.at {w : World} {u : Value} {n : Nat} {qb rq : Nat → Nat} {s : Nat → SV} {v : Nat → QV} (h : QS w u n qb rq s v) (i : Nat) (hi : i < n) : ∃ g c, u = .slice (some ⟨g, 0, none⟩) n c ∧ w.cell? ⟨g, i, none⟩ = some (.pointer (some ⟨qb i, 0, none⟩)) := by
  rcases h.row.2 with ⟨h1, h2⟩ | ⟨g, cap, cur, h1, h2, h3, h4, h5, h6, ht⟩
  · omega
  · refine ⟨g, cap, h1, ?_⟩
    have := h.row.cells (g := g) (by rw [h1]; rfl) i (.pointer (some ⟨qb i, 0, none⟩)) (by simp [hi])
    simpa [C.addr_add] using this

theorem k_isDisk (w : World) (ad : Option Addr) (n c : Nat) (hn : n < 9223372036854775808) : Calls Tryz.prog 65 #[.slice ad n c] w fun r w' => r = .returned (.bool (decide (n ≤ 32768) && n % 512 == 0)) ∧ w' = w := by
  have HB : Hid (∀ b : Bool, (b = true ↔ n ≤ 32768 ∧ n % 512 = 0) → b = (decide (n ≤ 32768) && n % 512 == 0)) := fun b hb => by
    cases b
    · by_cases h : n ≤ 32768 <;> by_cases h2 : n % 512 = 0 <;> simp [h, h2]
      exact absurd (hb.2 ⟨h, h2⟩) (by simp)
    · obtain ⟨h, h2⟩ := hb.1 rfl; simp [h, h2]
  generalize (decide (n ≤ 32768) && n % 512 == 0) = b at *
  go_enter Tryz.func65, Tryz.ntmps65
  go_wp2
  all_goals
    go_ret
    exact ⟨ret_bool (HB.out _ (by simp; omega)), rfl⟩
/-- is there a register? -/
def isReg (off size : Int) : Bool := size == 4 && off % 4 == 0 && decide (off ≤ 508)
theorem k_isReg (w : World) (off size : Int) (o0 : 0 ≤ off) (o1 : off < 18446744073709551616) : Calls Tryz.prog 251 #[.int .u64 off, .int .i64 size] w fun r w' => r = .returned (.bool (isReg off size)) ∧ w' = w := by
  have e3 : off.tmod 4 = off % 4 := Int.tmod_eq_emod_of_nonneg o0
  have HR : Hid (isReg off size = (size == 4 && off % 4 == 0 && decide (off ≤ 508))) := rfl
  have ew : IntKind.u64.wrap (off % 4) = off % 4 := by rw [IntKind.wrap_u64]; omega
  generalize isReg off size = b at *
  obtain ⟨y, e5⟩ : ∃ y, off % 4 = y := ⟨_, rfl⟩
  rw [e5] at HR e3 ew
  clear e5
  by_cases h : size = 4
  · subst h
    by_cases hy : y = 0
    · subst hy
      go_enter Tryz.func251, Tryz.ntmps251
      go_wp2
      go_ret
      exact ⟨ret_bool (by rw [HR.out]; simp), rfl⟩
    · have hy' : (y == 0) = false := by simp [hy]
      rw [hy'] at HR
      obtain rfl : b = false := by rw [HR.out]; simp
      go_enter Tryz.func251, Tryz.ntmps251
      go_wp2
      go_ret
      exact ⟨ret_bool (by simp), rfl⟩
  · have hs : (size == 4) = false := by simp [h]
    rw [hs] at HR
    obtain rfl : b = false := by rw [HR.out]; simp
    go_enter Tryz.func251, Tryz.ntmps251
    go_wp2
    go_ret
    exact ⟨ret_bool (by simp), rfl⟩
theorem k_sectors (w : World) (e k n c : Nat) (ad : Option Addr) (hc : w.cell? ⟨e, k, none⟩ = some (.slice ad n c)) (hn : n ≤ 32768) : Calls Tryz.prog 114 #[.pointer (some ⟨e, k, none⟩)] w fun r w' => r = .returned (.int .u64 ((n / 512 : Nat) : Int)) ∧ w' = w := by
  have e1 : (n : Int).tdiv 512 = ((n / 512 : Nat) : Int) := by rw [Int.tdiv_eq_ediv_of_nonneg (by omega)]; omega
  have e2 : IntKind.i64.wrap ((n / 512 : Nat) : Int) = ((n / 512 : Nat) : Int) := by rw [IntKind.wrap_i64]; omega
  have e3 : IntKind.u64.wrap ((n / 512 : Nat) : Int) = ((n / 512 : Nat) : Int) := by rw [IntKind.wrap_u64]; omega
  generalize ((n / 512 : Nat) : Int) = m at *
  go_enter Tryz.func114, Tryz.ntmps114
  go_wp2
  go_ret
  exact ⟨ret_int (by first | rfl | simp [e1, e2, e3] | go_num), rfl⟩
section
variable {w : World} {e : Nat} {v : DV} {n : Nat} {qb rq : Nat → Nat} {s : Nat → SV} {qv : Nat → QV}
theorem k_queue_no (h : Dv w e v) (hq : QS w v.qs n qb rq s qv) (x : Int) (x0 : 0 ≤ x) (x1 : x < 4294967296) (hx : (n : Int) ≤ x) (hn : n ≤ 2) : Calls Tryz.prog 255 #[.pointer (some ⟨e, 0, none⟩), .int .u32 x] w fun r w' => r = .returned (.pointer none) ∧ w' = w := by
  obtain ⟨ad, c, hf⟩ := hq.form
  have c8 := h.c8
  rw [hf] at c8
  have e1 : IntKind.i64.wrap x = x := by rw [IntKind.wrap_i64]; omega
  clear h hq hf
  go_enter Tryz.func255, Tryz.ntmps255
  go_wp2
  go_ret
  exact ⟨rfl, rfl⟩
theorem k_queue (h : Dv w e v) (hq : QS w v.qs n qb rq s qv) (i : Nat) (hx : i < n) (hn : n ≤ 2) : Calls Tryz.prog 255 #[.pointer (some ⟨e, 0, none⟩), .int .u32 (i : Int)] w fun r w' => r = .returned (.pointer (some ⟨qb i, 0, none⟩)) ∧ w' = w := by
  obtain ⟨g, c, hf, hc⟩ := hq.at i hx
  have c8 := h.c8
  rw [hf] at c8
  have e1 : IntKind.i64.wrap (i : Int) = i := by rw [IntKind.wrap_i64]; omega
  have h1 : ¬ (i : Int) ≥ n := by omega
  have h2 : (0 : Int) ≤ i := by omega
  have h3 : (i : Int) < n := by omega
  clear h hq hf
  go_enter Tryz.func255, Tryz.ntmps255
  go_wp2
  go_ret
  exact ⟨rfl, rfl⟩
end
end Go.Proofs.YtjkihlpckgaggaaGreat
namespace Go.Proofs.YtjkihlpckgaggaaGreat
open Go.RowKit
open C (Only hid Still ret_bool ret_int)
set_option linter.unusedVariables false
set_option maxRecDepth 100000

theorem k_vtell (w : World) (p r : Nat) (s : SV) (q : QV) (h : w.heap[p]? = some (.cells (svc r s) 236 (0, 0))) (hr : Qb w r q) (off : Int) : Calls Tryz.prog 257 #[.pointer (some ⟨p, 0, none⟩), .int .u64 off] w fun e w' => e = .returned (.int .u32 (if off = 52 then 64 else if q.sz = 0 then 0 else 1)) ∧ w' = w := by
  have hk := k_Ready w r q hr
  have c0 : w.cell? ⟨p, 0, none⟩ = some (.pointer (some ⟨r, 0, none⟩)) := cell_of_row w p 0 _ _ _ h
  clear h hr
  by_cases h : off = 52
  · subst h
    go_enter Tryz.func257, Tryz.ntmps257
    go_wp2
    go_ret
    exact ⟨rfl, rfl⟩
  · rw [if_neg h]
    by_cases z : q.sz = 0
    · rw [if_pos z]
      rw [show (q.sz != 0) = false from by simp [z]] at hk
      go_enter Tryz.func257, Tryz.ntmps257
      go_wp2_with (go_at_call 258; refine hk.mono ?_; rintro e w' ⟨rfl, hw⟩; obtain rfl := hw.symm)
      go_ret
      exact ⟨rfl, rfl⟩
    · rw [if_neg z]
      rw [show (q.sz != 0) = true from by simp [z]] at hk
      go_enter Tryz.func257, Tryz.ntmps257
      go_wp2_with (go_at_call 258; refine hk.mono ?_; rintro e w' ⟨rfl, hw⟩; obtain rfl := hw.symm)
      go_ret
      exact ⟨rfl, rfl⟩
/-- a device's numbers -/
structure DOk (v : DV) (n : Nat) : Prop where
  kd : v.kd = 1 ∧ n = 2 ∨ v.kd = 2 ∧ n = 1 ∨ v.kd = 3 ∧ n = 2
  so : 0 ≤ v.so ∧ v.so < 4294967296
  sa : 0 ≤ v.sa ∧ v.sa < 4294967296
  sq : 0 ≤ v.sq ∧ v.sq < 4294967296
  a0 : 0 ≤ v.a0 ∧ v.a0 < 4294967296
  a1 : 0 ≤ v.a1 ∧ v.a1 < 4294967296
  st : 0 ≤ v.st ∧ v.st < 256
  it : 0 ≤ v.it ∧ v.it < 4
theorem DOk.n2 {v : DV} {n : Nat} (h : DOk v n) : n ≤ 2 := by rcases h.kd with ⟨_, h⟩ | ⟨_, h⟩ | ⟨_, h⟩ <;> omega
/-- what is read of a queue that is selected -/
def tqF (v : DV) (n : Nat) (qv : Nat → QV) (off : Int) : Int := if v.sq < n then (if off = 52 then 64 else if (qv v.sq.toNat).sz = 0 then 0 else 1) else 0
/-- what is read (dl: the disk's length) -/
def tlF (v : DV) (n : Nat) (qv : Nat → QV) (dl : Nat) (off : Int) : Int :=
  if off = 0 then 1953655158 else if off = 4 then 2 else if off = 8 then v.kd else if off = 12 then 1431127377 else if off = 16 then (if v.so = 1 then 1 else 0)
  else if off = 52 then tqF v n qv 52 else if off = 68 then tqF v n qv 68 else if off = 96 then v.it else if off = 112 then v.st else if off = 256 then ((dl / 512 : Nat) : Int) else 0
section
variable {w : World} {e : Nat} {v : DV} {n : Nat} {qb rq : Nat → Nat} {s : Nat → SV} {qv : Nat → QV}
theorem k_tell_0 (h : Dv w e v) (ok : DOk v n) (qv : Nat → QV) (dl : Nat) : Calls Tryz.prog 252 #[.pointer (some ⟨e, 0, none⟩), .int .u64 0] w fun r w' => r = .returned (.int .u32 (tlF v n qv dl 0)) ∧ w' = w := by
  have HT := hid (show tlF v n qv dl 0 = (1953655158) from by simp [tlF])
  generalize tlF v n qv dl 0 = z at *
  clear h ok
  go_enter Tryz.func252, Tryz.ntmps252
  go_wp2
  go_ret
  exact ⟨ret_int HT.out.symm, rfl⟩
theorem k_tell_4 (h : Dv w e v) (ok : DOk v n) (qv : Nat → QV) (dl : Nat) : Calls Tryz.prog 252 #[.pointer (some ⟨e, 0, none⟩), .int .u64 4] w fun r w' => r = .returned (.int .u32 (tlF v n qv dl 4)) ∧ w' = w := by
  have HT := hid (show tlF v n qv dl 4 = (2) from by simp [tlF])
  generalize tlF v n qv dl 4 = z at *
  clear h ok
  go_enter Tryz.func252, Tryz.ntmps252
  go_wp2
  go_ret
  exact ⟨ret_int HT.out.symm, rfl⟩
theorem k_tell_8 (h : Dv w e v) (ok : DOk v n) (qv : Nat → QV) (dl : Nat) : Calls Tryz.prog 252 #[.pointer (some ⟨e, 0, none⟩), .int .u64 8] w fun r w' => r = .returned (.int .u32 (tlF v n qv dl 8)) ∧ w' = w := by
  have c0 := h.c0
  have e1 : IntKind.u32.wrap v.kd = v.kd := by rw [IntKind.wrap_u32]; rcases ok.kd with h | h | h <;> omega
  have HT := hid (show tlF v n qv dl 8 = (v.kd) from by simp [tlF])
  generalize tlF v n qv dl 8 = z at *
  clear h ok
  go_enter Tryz.func252, Tryz.ntmps252
  go_wp2
  go_ret
  exact ⟨ret_int (by first | exact HT.out.symm | (rw [HT.out]; simp [e1])), rfl⟩
theorem k_tell_12 (h : Dv w e v) (ok : DOk v n) (qv : Nat → QV) (dl : Nat) : Calls Tryz.prog 252 #[.pointer (some ⟨e, 0, none⟩), .int .u64 12] w fun r w' => r = .returned (.int .u32 (tlF v n qv dl 12)) ∧ w' = w := by
  have HT := hid (show tlF v n qv dl 12 = (1431127377) from by simp [tlF])
  generalize tlF v n qv dl 12 = z at *
  clear h ok
  go_enter Tryz.func252, Tryz.ntmps252
  go_wp2
  go_ret
  exact ⟨ret_int HT.out.symm, rfl⟩
theorem k_tell_16 (h : Dv w e v) (ok : DOk v n) (qv : Nat → QV) (dl : Nat) : Calls Tryz.prog 252 #[.pointer (some ⟨e, 0, none⟩), .int .u64 16] w fun r w' => r = .returned (.int .u32 (tlF v n qv dl 16)) ∧ w' = w := by
  have c1 := h.c1
  have HT := hid (show tlF v n qv dl 16 = (if v.so = 1 then 1 else 0) from by simp [tlF])
  generalize tlF v n qv dl 16 = z at *
  clear h ok
  by_cases q : v.so = 1
  · have HT2 := HT.out
    simp [q] at HT2
    subst HT2
    rw [q] at c1
    clear HT
    go_enter Tryz.func252, Tryz.ntmps252
    go_wp2
    go_ret
    exact ⟨rfl, rfl⟩
  · have HT2 := HT.out
    simp [q] at HT2
    subst HT2
    have q2 : (v.so == 1) = false := by simp [q]
    clear HT
    go_enter Tryz.func252, Tryz.ntmps252
    go_wp2
    go_ret
    exact ⟨rfl, rfl⟩
theorem k_tell_96 (h : Dv w e v) (ok : DOk v n) (qv : Nat → QV) (dl : Nat) : Calls Tryz.prog 252 #[.pointer (some ⟨e, 0, none⟩), .int .u64 96] w fun r w' => r = .returned (.int .u32 (tlF v n qv dl 96)) ∧ w' = w := by
  have c7 := h.c7
  have HT := hid (show tlF v n qv dl 96 = (v.it) from by simp [tlF])
  generalize tlF v n qv dl 96 = z at *
  clear h ok
  go_enter Tryz.func252, Tryz.ntmps252
  go_wp2
  go_ret
  exact ⟨ret_int HT.out.symm, rfl⟩
theorem k_tell_112 (h : Dv w e v) (ok : DOk v n) (qv : Nat → QV) (dl : Nat) : Calls Tryz.prog 252 #[.pointer (some ⟨e, 0, none⟩), .int .u64 112] w fun r w' => r = .returned (.int .u32 (tlF v n qv dl 112)) ∧ w' = w := by
  have c6 := h.c6
  have HT := hid (show tlF v n qv dl 112 = (v.st) from by simp [tlF])
  generalize tlF v n qv dl 112 = z at *
  clear h ok
  go_enter Tryz.func252, Tryz.ntmps252
  go_wp2
  go_ret
  exact ⟨ret_int HT.out.symm, rfl⟩
theorem k_tell_52 (h : Dv w e v) (ok : DOk v n) (hq : QS w v.qs n qb rq s qv) (dl : Nat) : Calls Tryz.prog 252 #[.pointer (some ⟨e, 0, none⟩), .int .u64 52] w fun r w' => r = .returned (.int .u32 (tlF v n qv dl 52)) ∧ w' = w := by
  have c3 := h.c3
  have HT := hid (show tlF v n qv dl 52 = tqF v n qv 52 from by simp [tlF])
  rw [HT.out]
  unfold tqF
  clear HT
  by_cases q : v.sq < n
  · rw [if_pos q]
    obtain ⟨i, hi⟩ : ∃ i : Nat, v.sq = i := ⟨v.sq.toNat, by have := ok.sq.1; omega⟩
    have hin : i < n := by omega
    rw [hi] at c3 ⊢
    rw [show ((i : Int)).toNat = i by omega]
    have hk := k_queue h hq i hin ok.n2
    have ht := k_vtell w (qb i) (rq i) (s i) (qv i) (hq.q i hin) (hq.r i hin) 52
    generalize (if (52 : Int) = 52 then (64 : Int) else if (qv i).sz = 0 then 0 else 1) = z at *
    clear h ok hq q hi hin
    go_enter Tryz.func252, Tryz.ntmps252
    go_wp2_with (first
      | (go_at_call 255; refine hk.mono ?_; rintro e w' ⟨rfl, hw⟩; obtain rfl := hw.symm)
      | (go_at_call 257; refine ht.mono ?_; rintro e w' ⟨rfl, hw⟩; obtain rfl := hw.symm))
    go_ret
    exact ⟨rfl, rfl⟩
  · rw [if_neg q]
    have hk := k_queue_no h hq v.sq ok.sq.1 ok.sq.2 (by omega) ok.n2
    clear h ok hq q
    go_enter Tryz.func252, Tryz.ntmps252
    go_wp2_with (go_at_call 255; refine hk.mono ?_; rintro e w' ⟨rfl, hw⟩; obtain rfl := hw.symm)
    go_ret
    exact ⟨rfl, rfl⟩
theorem k_tell_68 (h : Dv w e v) (ok : DOk v n) (hq : QS w v.qs n qb rq s qv) (dl : Nat) : Calls Tryz.prog 252 #[.pointer (some ⟨e, 0, none⟩), .int .u64 68] w fun r w' => r = .returned (.int .u32 (tlF v n qv dl 68)) ∧ w' = w := by
  have c3 := h.c3
  have HT := hid (show tlF v n qv dl 68 = tqF v n qv 68 from by simp [tlF])
  rw [HT.out]
  unfold tqF
  clear HT
  by_cases q : v.sq < n
  · rw [if_pos q]
    obtain ⟨i, hi⟩ : ∃ i : Nat, v.sq = i := ⟨v.sq.toNat, by have := ok.sq.1; omega⟩
    have hin : i < n := by omega
    rw [hi] at c3 ⊢
    rw [show ((i : Int)).toNat = i by omega]
    have hk := k_queue h hq i hin ok.n2
    have ht := k_vtell w (qb i) (rq i) (s i) (qv i) (hq.q i hin) (hq.r i hin) 68
    generalize (if (68 : Int) = 52 then (64 : Int) else if (qv i).sz = 0 then 0 else 1) = z at *
    clear h ok hq q hi hin
    go_enter Tryz.func252, Tryz.ntmps252
    go_wp2_with (first
      | (go_at_call 255; refine hk.mono ?_; rintro e w' ⟨rfl, hw⟩; obtain rfl := hw.symm)
      | (go_at_call 257; refine ht.mono ?_; rintro e w' ⟨rfl, hw⟩; obtain rfl := hw.symm))
    go_ret
    exact ⟨rfl, rfl⟩
  · rw [if_neg q]
    have hk := k_queue_no h hq v.sq ok.sq.1 ok.sq.2 (by omega) ok.n2
    clear h ok hq q
    go_enter Tryz.func252, Tryz.ntmps252
    go_wp2_with (go_at_call 255; refine hk.mono ?_; rintro e w' ⟨rfl, hw⟩; obtain rfl := hw.symm)
    go_ret
    exact ⟨rfl, rfl⟩
theorem k_tell_256 (h : Dv w e v) (ok : DOk v n) (qv : Nat → QV) (ad : Option Addr) (dl c : Nat) (hd : v.dk = .slice ad dl c) (hl : dl ≤ 32768) : Calls Tryz.prog 252 #[.pointer (some ⟨e, 0, none⟩), .int .u64 256] w fun r w' => r = .returned (.int .u32 (tlF v n qv dl 256)) ∧ w' = w := by
  have c9 := h.c9
  rw [hd] at c9
  have hk := k_sectors w e 9 dl c ad c9 hl
  rw [show tlF v n qv dl 256 = ((dl / 512 : Nat) : Int) from by simp [tlF]]
  have e1 : IntKind.u32.wrap ((dl / 512 : Nat) : Int) = ((dl / 512 : Nat) : Int) := by rw [IntKind.wrap_u32]; omega
  generalize ((dl / 512 : Nat) : Int) = z at *
  clear h ok hd c9
  go_enter Tryz.func252, Tryz.ntmps252
  go_wp2_with (go_at_call 114; refine hk.mono ?_; rintro e w' ⟨rfl, hw⟩; obtain rfl := hw.symm)
  go_ret
  exact ⟨ret_int (by first | rfl | exact e1), rfl⟩
def isTold (off : Int) : Bool := off == 0 || off == 4 || off == 8 || off == 12 || off == 16 || off == 52 || off == 68 || off == 96 || off == 112 || off == 256
theorem k_tell_else (w : World) (e : Nat) (v : DV) (n : Nat) (qv : Nat → QV) (dl : Nat) (off : Int) (hk : isTold off = false) : Calls Tryz.prog 252 #[.pointer (some ⟨e, 0, none⟩), .int .u64 off] w fun r w' => r = .returned (.int .u32 (tlF v n qv dl off)) ∧ w' = w := by
  unfold isTold at hk
  simp only [Bool.or_eq_false_iff] at hk
  obtain ⟨⟨⟨⟨⟨⟨⟨⟨⟨h0, h1⟩, h2⟩, h3⟩, h4⟩, h5⟩, h6⟩, h7⟩, h8⟩, h9⟩ := hk
  rw [show tlF v n qv dl off = 0 from by simp at h0 h1 h2 h3 h4 h5 h6 h7 h8 h9; simp [tlF, h0, h1, h2, h3, h4, h5, h6, h7, h8, h9]]
  go_enter Tryz.func252, Tryz.ntmps252
  go_wp2
  go_ret
  exact ⟨rfl, rfl⟩
theorem k_tell (h : Dv w e v) (ok : DOk v n) (hq : QS w v.qs n qb rq s qv) (ad : Option Addr) (dl c : Nat) (hd : v.dk = .slice ad dl c) (hl : dl ≤ 32768) (off : Int) : Calls Tryz.prog 252 #[.pointer (some ⟨e, 0, none⟩), .int .u64 off] w fun r w' => r = .returned (.int .u32 (tlF v n qv dl off)) ∧ w' = w := by
  cases hk : isTold off
  · exact k_tell_else w e v n qv dl off hk
  · unfold isTold at hk
    simp only [Bool.or_eq_true, beq_iff_eq] at hk
    rcases hk with ((((((((rfl | rfl) | rfl) | rfl) | rfl) | rfl) | rfl) | rfl) | rfl) | rfl
    · exact k_tell_0 h ok qv dl
    · exact k_tell_4 h ok qv dl
    · exact k_tell_8 h ok qv dl
    · exact k_tell_12 h ok qv dl
    · exact k_tell_16 h ok qv dl
    · exact k_tell_52 h ok hq dl
    · exact k_tell_68 h ok hq dl
    · exact k_tell_96 h ok qv dl
    · exact k_tell_112 h ok qv dl
    · exact k_tell_256 h ok qv ad dl c hd hl
theorem tqF_b (v : DV) (n : Nat) (qv : Nat → QV) (off : Int) : 0 ≤ tqF v n qv off ∧ tqF v n qv off < 4294967296 := by
  unfold tqF
  repeat' split
  all_goals omega
theorem tlF_b (ok : DOk v n) (qv : Nat → QV) (dl : Nat) (hl : dl ≤ 32768) (off : Int) : 0 ≤ tlF v n qv dl off ∧ tlF v n qv dl off < 4294967296 := by
  have h1 := ok.kd
  have h2 := ok.st
  have h3 := ok.it
  have h4 := tqF_b v n qv 52
  have h5 := tqF_b v n qv 68
  unfold tlF
  repeat' split
  all_goals omega
theorem k_DRead (h : Dv w e v) (ok : DOk v n) (hq : QS w v.qs n qb rq s qv) (ad : Option Addr) (dl c : Nat) (hd : v.dk = .slice ad dl c) (hl : dl ≤ 32768) (off size : Int) (o0 : 0 ≤ off) (o1 : off < 18446744073709551616) : Calls Tryz.prog 249 #[.pointer (some ⟨e, 0, none⟩), .int .u64 off, .int .i64 size] w fun r w' => r = .returned (.tuple #[.int .u64 (bif isReg off size then tlF v n qv dl off else 0), .bool (isReg off size)]) ∧ w' = w := by
  have hr := k_isReg w off size o0 o1
  have ht := k_tell h ok hq ad dl c hd hl off
  have hb := tlF_b ok qv dl hl off
  have e1 : IntKind.u64.wrap (tlF v n qv dl off) = tlF v n qv dl off := by rw [IntKind.wrap_u64]; omega
  generalize tlF v n qv dl off = z at *
  generalize isReg off size = b at *
  clear h ok hq hd hl
  cases b
  all_goals
    go_enter Tryz.func249, Tryz.ntmps249
    go_wp2_with (first
      | (go_at_call 251; refine hr.mono ?_; rintro e w' ⟨rfl, hw⟩; obtain rfl := hw.symm)
      | (go_at_call 252; refine ht.mono ?_; rintro e w' ⟨rfl, hw⟩; obtain rfl := hw.symm))
    go_returns
    exact ⟨by first | rfl | simp [e1], rfl⟩
end
end Go.Proofs.YtjkihlpckgaggaaGreat
