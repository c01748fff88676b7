/- A queue as it stands; the memory that it is asked with, whatever that is. -/
import Derived.Test.YtgebjfkmiaobgaaVR
import Derived.Test.YtgebjfkmiaobgaaMC3
import Derived.Test.YtgebjfkmiaobgaaMC5
import Derived.BigFrame
namespace Go.Proofs.Ytgebjfkmiaobgaa
open Go.RowKit
open C (Only hid Still ret_int ret_bool)
set_option linter.unusedVariables false
set_option maxRecDepth 100000

theorem wpList_inv2 {P : Program} {ops : Array Oper} {Q : Exit → Act → World → Prop} {rest : List Oper} {o : Oper} {a : Act} {w : World} (hw : Region.wanted o (yielded ops a.tmps) = true) (nm : String) (g : Value) (x y z : Operand) (ts : Array TypeId) (hop : o.op = .call { callee := .invoke x nm, args := #[y, z], argTypes := ts }) (vy vz : Value) (hx : a.eval x = g) (hy : a.eval y = vy) (hz : a.eval z = vz) (f : FuncId) (rc : Value)
    (hr : (callMethod g nm #[vy, vz]).run P w = .ok (.enter f (#[rc] ++ #[vy, vz])) w) {R : Ending → World → Prop} (hc : Calls P f #[rc, vy, vz] w R) (h : ∀ e w', R e w' → ∃ v, e = .returned v ∧ wpList P ops Q rest (a.put o.dst v) w') : wpList P ops Q (o :: rest) a w := by
  refine BigFrame.wpList_want hw fun K hK => ?_
  unfold Oper.wp
  have he : (execOp a.eval o).run P w = .ok (.enter f #[rc, vy, vz]) w := by
    have hr' : (callMethod g nm #[vy, vz]).run P w = .ok (.enter f #[rc, vy, vz]) w := hr
    simp [execOp, hop, resolve, invoke, hx, hy, hz, hr']
  rw [he, Oper.upon_enter]
  refine hc.mono fun e w' hR => ?_
  obtain ⟨v, rfl, hk⟩ := h e w' hR
  exact hK _ _ hk
theorem wp_inv3w {P : Program} {ops : Array Oper} {Q : Exit → Act → World → Prop} {i : Nat} {o : Oper} {K : Act → World → Prop} {a : Act} {w : World} (ho : ops[i]? = some o) (hw : Region.wanted o (yielded ops a.tmps) = true) (nm : String) (g : Value) (x y z u : Operand) (ts : Array TypeId) (hop : o.op = .call { callee := .invoke x nm, args := #[y, z, u], argTypes := ts }) (vy vz vu : Value) (hx : a.eval x = g) (hy : a.eval y = vy) (hz : a.eval z = vz) (hu : a.eval u = vu) (f : FuncId) (rc : Value)
    (hr : (callMethod g nm #[vy, vz, vu]).run P w = .ok (.enter f (#[rc] ++ #[vy, vz, vu])) w) {R : Ending → World → Prop} (hc : Calls P f #[rc, vy, vz, vu] w R) (h : ∀ e w', R e w' → ∃ v, e = .returned v ∧ K (a.put o.dst v) w') : wpOp P ops Q i K a w := by
  refine wpOp_step ho fun K' hK => ?_
  rw [if_pos hw]
  unfold Oper.wp
  have he : (execOp a.eval o).run P w = .ok (.enter f #[rc, vy, vz, vu]) w := by
    have hr' : (callMethod g nm #[vy, vz, vu]).run P w = .ok (.enter f #[rc, vy, vz, vu]) w := hr
    simp [execOp, hop, resolve, invoke, hx, hy, hz, hu, hr']
  rw [he, Oper.upon_enter]
  refine hc.mono fun e w' hR => ?_
  obtain ⟨v, rfl, hk⟩ := h e w' hR
  exact hK _ _ hk
/-- what one call may turn -/
def Tx (w : World) (F : Nat → Prop) (w' : World) (F' : Nat → Prop) : Prop := Only F w w' ∧ ∀ k, F' k → F k ∨ w.heap.size ≤ k
theorem Tx.trans {w w' w'' : World} {F F' F'' : Nat → Prop} (h : Tx w F w' F') (k : Tx w' F' w'' F'') : Tx w F w'' F'' :=
  ⟨h.1.trans' k.1 fun i hi q => (h.2 i q).resolve_right (by omega), fun i q => (k.2 i q).elim (h.2 i) fun z => .inr (Nat.le_trans h.1.size z)⟩
theorem Tx.refl (w : World) (F : Nat → Prop) : Tx w F w F := ⟨Only.refl w, fun _ q => .inl q⟩
theorem Tx.ofBelow {w w' : World} {F : Nat → Prop} (h : Below w.heap.size w w') : Tx w F w' F := ⟨Only.ofBelow h, fun _ q => .inl q⟩
/-- a guest's memory: its states, and what each call comes to -/
structure MG where
  σ : Type
  R : World → (Nat → Prop) → σ → Prop
  has : σ → Int → Int → Bool
  ok : σ → Int → Int → Bool
  rd : σ → Int → Int → Int
  wk : σ → Int → Int → Bool
  wr : σ → Int → Int → Int → σ
structure MGC (G : MG) (g : Value) (fH fR fW : FuncId) (rc : Value) : Prop where
  cH : ∀ args w, (callMethod g "Has" args).run Try.prog w = .ok (.enter fH (#[rc] ++ args)) w
  cR : ∀ args w, (callMethod g "Read" args).run Try.prog w = .ok (.enter fR (#[rc] ++ args)) w
  cW : ∀ args w, (callMethod g "Write" args).run Try.prog w = .ok (.enter fW (#[rc] ++ args)) w
  nk : ∀ (ρ : Operand → Value) (o : Oper) (x : Operand) (w : World), o.op = .nilCheck x → ρ x = .func (.method "Write") #[g] #[] → (execOp ρ o).run Try.prog w = .ok (.value (.func (.method "Write") #[g] #[])) w
  sep : ∀ w F s, G.R w F s → ∀ k, F k → ∃ c t f, w.heap[k]? = some (.cells c t f) ∧ t ≠ 82
  only : ∀ w F s, G.R w F s → ∀ w' T, Only T w w' → (∀ k, F k → ¬ T k) → G.R w' F s
  H : ∀ w F s, G.R w F s → ∀ a n, 0 ≤ a → a < 18446744073709551616 → 0 ≤ n → n < 4294967296 → Calls Try.prog fH #[rc, .int .u64 a, .int .i64 n] w fun e w' => e = .returned (.bool (G.has s a n)) ∧ Below w.heap.size w w'
  Rd : ∀ w F s, G.R w F s → ∀ a z, 0 ≤ a → a < 18446744073709551616 → z = 2 ∨ z = 4 ∨ z = 8 → Calls Try.prog fR #[rc, .int .u64 a, .int .i64 z] w fun e w' => e = .returned (.tuple #[.int .u64 (G.rd s a z), .bool (G.ok s a z)]) ∧ Below w.heap.size w w'
  rb : ∀ w F s, G.R w F s → ∀ a, 0 ≤ a → (0 ≤ G.rd s a 2 ∧ G.rd s a 2 < 65536) ∧ (0 ≤ G.rd s a 4 ∧ G.rd s a 4 < 4294967296) ∧ 0 ≤ G.rd s a 8 ∧ G.rd s a 8 < 18446744073709551616
  W : ∀ w F s, G.R w F s → ∀ a z x, 0 ≤ a → a < 18446744073709551616 → z = 2 ∨ z = 4 → 0 ≤ x → x < 18446744073709551616 → Calls Try.prog fW #[rc, .int .u64 a, .int .i64 z, .int .u64 x] w fun e w' => e = .returned (.bool (G.wk s a z)) ∧ ∃ F', G.R w' F' (G.wr s a z x) ∧ Tx w F w' F'
/-- a queue's block -/
structure QV where
  sz : Int
  d : Int
  a : Int
  u : Int
  tk : Int
  gv : Int
  dead : Bool
def qc (v : QV) : Array Value := #[.int .i64 v.sz, .int .u64 v.d, .int .u64 v.a, .int .u64 v.u, .int .u16 v.tk, .int .u16 v.gv, .bool v.dead]
def Qb (w : World) (q : Nat) (v : QV) : Prop := w.heap[q]? = some (.cells (qc v) 82 (0, 0))
def isSz (z : Int) : Bool := z == 1 || z == 2 || z == 4 || z == 8 || z == 16 || z == 32 || z == 64
structure QOk (v : QV) : Prop where
  sz : v.sz = 0 ∨ isSz v.sz = true
  d : 0 ≤ v.d ∧ v.d < 1152921504606846976
  a : 0 ≤ v.a ∧ v.a < 1152921504606846976
  u : 0 ≤ v.u ∧ v.u < 1152921504606846976
  tk : 0 ≤ v.tk ∧ v.tk < 65536
  gv : 0 ≤ v.gv ∧ v.gv < 65536
def q0 : QV := ⟨0, 0, 0, 0, 0, 0, false⟩
theorem q0_ok : QOk q0 := ⟨.inl rfl, by decide, by decide, by decide, by decide, by decide⟩
theorem isSz_b {z : Int} (h : isSz z = true) : 1 ≤ z ∧ z ≤ 64 := by unfold isSz at h; simp at h; omega
theorem QOk.szb {v : QV} (h : QOk v) : 0 ≤ v.sz ∧ v.sz ≤ 64 := by
  rcases h.sz with e | e
  · omega
  · have := isSz_b e; omega
def QV.die (v : QV) : QV := { v with dead := true }
def QV.take (v : QV) : QV := { v with tk := (v.tk + 1) % 65536 }
def QV.give (v : QV) : QV := { v with gv := (v.gv + 1) % 65536 }
theorem QOk.die {v : QV} (h : QOk v) : QOk v.die := ⟨h.sz, h.d, h.a, h.u, h.tk, h.gv⟩
theorem QOk.take {v : QV} (h : QOk v) : QOk v.take := ⟨h.sz, h.d, h.a, h.u, by show 0 ≤ (v.tk + 1) % 65536 ∧ (v.tk + 1) % 65536 < 65536; omega, h.gv⟩
theorem QOk.give {v : QV} (h : QOk v) : QOk v.give := ⟨h.sz, h.d, h.a, h.u, h.tk, by show 0 ≤ (v.gv + 1) % 65536 ∧ (v.gv + 1) % 65536 < 65536; omega⟩
section
variable {w w' : World} {q : Nat} {v : QV}
theorem Qb.c0 (h : Qb w q v) : w.cell? ⟨q, 0, none⟩ = some (.int .i64 v.sz) := cell_of_row w q 0 _ _ _ h
theorem Qb.c1 (h : Qb w q v) : w.cell? ⟨q, 1, none⟩ = some (.int .u64 v.d) := cell_of_row w q 1 _ _ _ h
theorem Qb.c2 (h : Qb w q v) : w.cell? ⟨q, 2, none⟩ = some (.int .u64 v.a) := cell_of_row w q 2 _ _ _ h
theorem Qb.c3 (h : Qb w q v) : w.cell? ⟨q, 3, none⟩ = some (.int .u64 v.u) := cell_of_row w q 3 _ _ _ h
theorem Qb.c4 (h : Qb w q v) : w.cell? ⟨q, 4, none⟩ = some (.int .u16 v.tk) := cell_of_row w q 4 _ _ _ h
theorem Qb.c5 (h : Qb w q v) : w.cell? ⟨q, 5, none⟩ = some (.int .u16 v.gv) := cell_of_row w q 5 _ _ _ h
theorem Qb.c6 (h : Qb w q v) : w.cell? ⟨q, 6, none⟩ = some (.bool v.dead) := cell_of_row w q 6 _ _ _ h
theorem Qb.fz (h : Qb w q v) (i : Nat) : w.frozen? ⟨q, i, none⟩ = false := frozen_of_row w q i _ _ h
theorem Qb.lt (h : Qb w q v) : q < w.heap.size := lt_of_block h
theorem Qb.below (h : Qb w q v) (hb : Below w.heap.size w w') : Qb w' q v := (hb.block q h.lt).trans h
theorem Qb.only (h : Qb w q v) {T : Nat → Prop} (ho : Only T w w') (hn : ¬ T q) : Qb w' q v := ho.old h hn
end
theorem setRowB (w : World) (g k : Nat) (cs cs' : Array Value) (t : TypeId) (v : Value) (hg : w.heap[g]? = some (.cells cs t (0, 0))) (he : cs.setIfInBounds k v = cs') : (w.setCell ⟨g, k, none⟩ v).heap[g]? = some (.cells cs' t (0, 0)) := by
  rw [setCell_eq_setRow w g k cs t (0, 0) v hg, he]
  exact setRow_heap w g cs _ t _ hg
theorem only_c (w : World) (g k : Nat) (x : Value) : Only (· = g) w (w.setCell ⟨g, k, none⟩ x) := (Only.refl (S := (· = g)) w).setCell (.inl rfl) x
theorem s_que : (Try.prog.info? 82).map (·.size) = some 7 := by kernel_rfl
theorem qc_one (v : QV) : (qc v).all (·.oneCell') = true := by
  rw [Array.all_eq_true_iff_forall_mem]; intro x hx; simp [qc] at hx; rcases hx with rfl | rfl | rfl | rfl | rfl | rfl | rfl <;> rfl
theorem wpL_stQ {ops : Array Oper} {rest : List Oper} {d : Option Nat} {ty : TypeId} {x y : Operand} {pos : String} {after : Array Edge} {Q : Exit → Act → World → Prop} {a : Act} {w : World} (g : Nat) (v v' : QV) (hx : a.eval x = .pointer (some ⟨g, 0, none⟩)) (hy : a.eval y = .agg (qc v'))
    (hg : Qb w g v) (hK : wpList Try.prog ops Q rest (a.put d undef) (w.setRow g (qc v'))) :
    wpList Try.prog ops Q ({ dst := d, op := Op.store 82 x y, type := ty, pos := pos, after := after, guard := none } :: rest) a w :=
  wpList_store_row rfl 82 x y rfl g _ hx hy 82 _ hg s_que rfl (qc_one v') hK
theorem results_pair {P : Program} {fn : Func} {p u : Tmp} {ty : TypeId} (h : fn.results = #[.cell p ty, .tmp u]) (tmps : Array Value) (w : World) (g : Nat) (t : TypeId) (cs : Array Value) (fr : Nat × Nat) (d : TypeDesc)
    (hp : tmps.getD p undef = .pointer (some ⟨g, 0, none⟩)) (hg : w.heap[g]? = some (.cells cs t fr))
    (hu : P.underlying ty = some d) (hd : (match d with | .struct _ | .array _ _ => true | _ => false) = true) (hi : (P.info? ty).map (·.size) = some cs.size) (x : Value) (hx : tmps.getD u undef = x) :
    (results fn tmps).run P w = .ok (.tuple #[.agg cs, x]) w := by
  rw [results_cell_tmp h, hp, hx]
  simp [asAddr, run_loadVar_row w g t ty cs fr d hg hu hd hi, Result.andThen]
theorem results_cell_tmp2 {fn : Func} {p u u2 : Tmp} {ty : TypeId} (h : fn.results = #[.cell p ty, .tmp u, .tmp u2]) (tmps : Array Value) (P : Program) (w : World) :
    (results fn tmps).run P w = ((asAddr (tmps.getD p undef) >>= loadVar ty >>= fun v => pure (.tuple #[v, tmps.getD u undef, tmps.getD u2 undef])) : Sem Value).run P w := by
  simp [results, h]
theorem results_trip {P : Program} {fn : Func} {p u u2 : Tmp} {ty : TypeId} (h : fn.results = #[.cell p ty, .tmp u, .tmp u2]) (tmps : Array Value) (w : World) (g : Nat) (t : TypeId) (cs : Array Value) (fr : Nat × Nat) (d : TypeDesc)
    (hp : tmps.getD p undef = .pointer (some ⟨g, 0, none⟩)) (hg : w.heap[g]? = some (.cells cs t fr))
    (hu : P.underlying ty = some d) (hd : (match d with | .struct _ | .array _ _ => true | _ => false) = true) (hi : (P.info? ty).map (·.size) = some cs.size) (x y : Value) (hx : tmps.getD u undef = x) (hy : tmps.getD u2 undef = y) :
    (results fn tmps).run P w = .ok (.tuple #[.agg cs, x, y]) w := by
  rw [results_cell_tmp2 h, hp, hx, hy]
  simp [asAddr, run_loadVar_row w g t ty cs fr d hg hu hd hi, Result.andThen]
theorem below_row {w wa : World} (h : Below w.heap.size w wa) {g : Nat} (hg : w.heap.size ≤ g) (c : Array Value) : Below w.heap.size w (wa.setRow g c) :=
  ⟨h.os, h.tape, h.output, by have := h.size; simpa [World.setRow] using this, fun k hk => (Go.setRow_other wa g k c (by omega)).trans (h.block k hk)⟩
theorem u_dsc : Try.prog.underlying 122 = some (.struct (Try.prog.fieldsOf 122)) := by kernel_rfl
theorem s_dsc : (Try.prog.info? 122).map (·.size) = some 4 := by kernel_rfl
theorem u_chn : Try.prog.underlying 42 = some (.struct (Try.prog.fieldsOf 42)) := by kernel_rfl
theorem s_chn : (Try.prog.info? 42).map (·.size) = some 3 := by kernel_rfl
theorem u_seg : Try.prog.underlying 61 = some (.struct (Try.prog.fieldsOf 61)) := by kernel_rfl
theorem s_seg : (Try.prog.info? 61).map (·.size) = some 2 := by kernel_rfl
theorem u_sseg : Try.prog.underlying 40 = some (.slice 61) := by kernel_rfl
theorem info_seg : (Try.prog.info? 61).map (fun i => (i.zero, i.size, i.bytes)) = some (some (.agg #[.int .u64 0, .int .i64 0]), 2, 16) := by kernel_rfl
/-- a chain's cells -/
def cc (h : Int) (r x : Value) : Array Value := #[.int .i64 h, r, x]
def Sli : Value → Prop
  | .slice _ _ _ => True
  | _ => False
theorem Sli.one {x : Value} (h : Sli x) : x.oneCell' = true := by
  cases x <;> first | exact h.elim | rfl
theorem wpL_stC {ops : Array Oper} {rest : List Oper} {d : Option Nat} {ty : TypeId} {x y : Operand} {pos : String} {after : Array Edge} {Q : Exit → Act → World → Prop} {a : Act} {w : World} (g : Nat) (h : Int) (r z : Value) (hr : Sli r) (hz : Sli z) (hx : a.eval x = .pointer (some ⟨g, 0, none⟩)) (hy : a.eval y = .agg (cc h r z)) {h0 : Int} {r0 z0 : Value}
    (hg : w.heap[g]? = some (.cells (cc h0 r0 z0) 42 (0, 0))) (hK : wpList Try.prog ops Q rest (a.put d undef) (w.setRow g (cc h r z))) :
    wpList Try.prog ops Q ({ dst := d, op := Op.store 42 x y, type := ty, pos := pos, after := after, guard := none } :: rest) a w :=
  wpList_store_row rfl 42 x y rfl g _ hx hy 42 _ hg s_chn rfl (by rw [Array.all_eq_true_iff_forall_mem]; intro v hv; simp [cc] at hv; rcases hv with rfl | rfl | rfl <;> first | rfl | exact hr.one | exact hz.one) hK
theorem wpL_ldC {ops : Array Oper} {rest : List Oper} {d : Option Nat} {ty : TypeId} {x : Operand} {pos : String} {after : Array Edge} {Q : Exit → Act → World → Prop} {a : Act} {w : World} (g : Nat) (h : Int) (r z : Value) (hx : a.eval x = .pointer (some ⟨g, 0, none⟩))
    (hg : w.heap[g]? = some (.cells (cc h r z) 42 (0, 0))) (hK : wpList Try.prog ops Q rest (a.put d (.agg (cc h r z))) w) :
    wpList Try.prog ops Q ({ dst := d, op := Op.load 42 x, type := ty, pos := pos, after := after, guard := none } :: rest) a w :=
  wpList_load_row rfl 42 x rfl g hx 42 _ _ _ hg u_chn rfl s_chn hK
theorem wpL_ldD {ops : Array Oper} {rest : List Oper} {d : Option Nat} {ty : TypeId} {x : Operand} {pos : String} {after : Array Edge} {Q : Exit → Act → World → Prop} {a : Act} {w : World} (g : Nat) (c0 c1 c2 c3 : Int) (hx : a.eval x = .pointer (some ⟨g, 0, none⟩))
    (hg : w.heap[g]? = some (.cells #[.int .u64 c0, .int .u32 c1, .int .u16 c2, .int .u16 c3] 122 (0, 0))) (hK : wpList Try.prog ops Q rest (a.put d (.agg #[.int .u64 c0, .int .u32 c1, .int .u16 c2, .int .u16 c3])) w) :
    wpList Try.prog ops Q ({ dst := d, op := Op.load 122 x, type := ty, pos := pos, after := after, guard := none } :: rest) a w :=
  wpList_load_row rfl 122 x rfl g hx 122 _ _ _ hg u_dsc rfl s_dsc hK
end Go.Proofs.Ytgebjfkmiaobgaa
namespace Go.Proofs.Ytgebjfkmiaobgaa
open Go.RowKit
open C (Only hid Still ret_int ret_bool)
set_option linter.unusedVariables false
set_option maxRecDepth 100000

theorem k_New (w : World) : Calls Try.prog 11 #[] w fun e w' => e = .returned (.pointer (some ⟨w.heap.size, 0, none⟩)) ∧ Qb w' w.heap.size q0 ∧ Below w.heap.size w w' := by
  go_enter Try.func11, Try.ntmps11
  go_wp2
  go_ret
  exact ⟨rfl, heap_alloc_new w _, (Below.refl _ _).alloc (Nat.le_refl _) _⟩
theorem k_Ready (w : World) (q : Nat) (v : QV) (h : Qb w q v) : Calls Try.prog 25 #[.pointer (some ⟨q, 0, none⟩)] w fun e w' => e = .returned (.bool (v.sz != 0)) ∧ w' = w := by
  have c0 := h.c0
  clear h
  go_enter Try.func25, Try.ntmps25
  go_wp2
  go_ret
  exact ⟨rfl, rfl⟩
theorem k_Dead (w : World) (q : Nat) (v : QV) (h : Qb w q v) : Calls Try.prog 26 #[.pointer (some ⟨q, 0, none⟩)] w fun e w' => e = .returned (.bool v.dead) ∧ w' = w := by
  have c0 := h.c6
  clear h
  go_enter Try.func26, Try.ntmps26
  go_wp2
  go_ret
  exact ⟨rfl, rfl⟩
theorem k_die (w : World) (q : Nat) (v : QV) (h : Qb w q v) (e : Int) : Calls Try.prog 41 #[.pointer (some ⟨q, 0, none⟩), .int .i64 e] w fun r w' => r = .returned (.int .i64 e) ∧ Qb w' q v.die ∧ Only (· = q) w w' := by
  have c0 := h.c6
  have z0 := h.fz 6
  have H := hid h
  clear h
  go_enter Try.func41, Try.ntmps41
  go_wp2
  go_ret
  exact ⟨rfl, setRowB w q 6 (qc v) (qc v.die) _ _ H.out rfl, only_c w q 6 _⟩
theorem k_place (w : World) (q : Nat) (v : QV) (h : Qb w q v) (ho : isSz v.sz = true) (x : Int) (x0 : 0 ≤ x) (x1 : x < 65536) : Calls Try.prog 47 #[.pointer (some ⟨q, 0, none⟩), .int .u16 x] w fun e w' => e = .returned (.int .u64 (x % v.sz)) ∧ w' = w := by
  have c0 := h.c0
  have hb := isSz_b ho
  clear h ho
  generalize v.sz = z at *
  have e1 : IntKind.u64.wrap z = z := by rw [IntKind.wrap_u64]; omega
  have e2 : IntKind.u64.wrap x = x := by rw [IntKind.wrap_u64]; omega
  have e3 : x.tmod z = x % z := Int.tmod_eq_emod_of_nonneg x0
  have e4 : z ≠ 0 := by omega
  go_enter Try.func47, Try.ntmps47
  go_wp2
  go_ret
  refine ⟨ret_int ?_, rfl⟩
  first | exact e3 | rfl | (simp; done) | go_num
theorem k_works (w : World) (q : Nat) (v : QV) (h : Qb w q v) : Calls Try.prog 39 #[.pointer (some ⟨q, 0, none⟩)] w fun e w' => e = .returned (.int .i64 (if v.sz = 0 then 30 else if v.dead then 33 else 0)) ∧ w' = w := by
  have hr := k_Ready w q v h
  have c6 := h.c6
  clear h
  generalize v.sz = z at *
  generalize v.dead = d at *
  by_cases e : z = 0
  · subst e
    go_enter Try.func39, Try.ntmps39
    go_wp2_with (go_at_call 25; refine hr.mono ?_; rintro e w' ⟨rfl, hw⟩; obtain rfl := hw.symm)
    go_ret
    exact ⟨rfl, rfl⟩
  · have e' : (z != 0) = true := by simp [e]
    rw [e'] at hr
    rw [if_neg e]
    clear e e'
    cases d
    all_goals
      go_enter Try.func39, Try.ntmps39
      go_wp2_with (go_at_call 25; refine hr.mono ?_; rintro e w' ⟨rfl, hw⟩; obtain rfl := hw.symm)
      go_ret
      exact ⟨rfl, rfl⟩
theorem k_Reset (w : World) (q : Nat) (v : QV) (h : Qb w q v) : Calls Try.prog 23 #[.pointer (some ⟨q, 0, none⟩)] w fun e w' => e = .returned (.tuple #[]) ∧ Qb w' q q0 ∧ Only (· = q) w w' := by
  have H := hid h
  clear h
  go_enter Try.func23, Try.ntmps23
  go_wp2_with ((with_reducible refine wpL_stQ q v q0 ?_ ?_ H.out ?_); rfl; rfl)
  go_end0
  exact ⟨rfl, setRow_heap w q _ _ _ _ H.out, (Only.refl (S := (· = q)) w).setRow (.inl rfl) _⟩

theorem sz_and : ∀ k : Fin 65, (bits BinOp.and IntKind.i64 ((k.val : Nat) : Int) (((k.val : Nat) : Int) - 1) == 0) = (isSz k.val || k.val == 0) := by decide +kernel
theorem k_isSize (w : World) (z : Int) (z0 : -9223372036854775808 ≤ z) (z1 : z ≤ 9223372036854775807) : Calls Try.prog 49 #[.int .i64 z] w fun e w' => e = .returned (.bool (isSz z)) ∧ w' = w := by
  by_cases h : 1 ≤ z ∧ z ≤ 64
  · obtain ⟨h0, h1⟩ := h
    have h2 := sz_and ⟨z.toNat, by omega⟩
    have h3 : ((z.toNat : Nat) : Int) = z := by omega
    have h4 : (z.toNat == 0) = false := by simp; omega
    simp only [h3, h4, Bool.or_false] at h2
    generalize isSz z = b at *
    clear h3 h4
    go_enter Try.func49, Try.ntmps49
    go_wp2
    go_ret
    exact ⟨ret_bool (by first | exact h2 | simp | (simp; exact h2)), rfl⟩
  · have hb : isSz z = false := by
      cases e : isSz z
      · rfl
      · exact absurd (isSz_b e) h
    rw [hb]
    clear hb
    by_cases h1 : 1 ≤ z
    · have h2 : ¬ z ≤ 64 := by omega
      clear h
      go_enter Try.func49, Try.ntmps49
      go_wp2
      go_ret
      exact ⟨rfl, rfl⟩
    · clear h
      go_enter Try.func49, Try.ntmps49
      go_wp2
      go_ret
      exact ⟨rfl, rfl⟩
def isPl (x m : Int) : Bool := x % m == 0 && decide (x < 1152921504606846976)
theorem k_isPlace (w : World) (x m : Int) (x0 : 0 ≤ x) (x1 : x < 18446744073709551616) (m0 : 0 < m) (m1 : m ≤ 16) : Calls Try.prog 50 #[.int .u64 x, .int .u64 m] w fun e w' => e = .returned (.bool (isPl x m)) ∧ w' = w := by
  have e3 : x.tmod m = x % m := Int.tmod_eq_emod_of_nonneg x0
  have e4 : m ≠ 0 := by omega
  have HR : Hid (isPl x m = (x % m == 0 && decide (x < 1152921504606846976))) := rfl
  generalize isPl x m = b at *
  have hy : 0 ≤ x % m := Int.emod_nonneg _ e4
  have hy1 : x % m < m := Int.emod_lt_of_pos _ m0
  have ew : IntKind.u64.wrap (x % m) = x % m := by rw [IntKind.wrap_u64]; omega
  obtain ⟨y, e5⟩ : ∃ y, x % m = y := ⟨_, rfl⟩
  rw [e5] at HR e3 ew
  by_cases h : y = 0
  · subst h
    clear e5 hy hy1 ew
    go_enter Try.func50, Try.ntmps50
    go_wp2
    go_ret
    exact ⟨ret_bool (by rw [HR.out]; rfl), rfl⟩
  · have hb : (y == 0) = false := by simp [h]
    rw [hb] at HR
    obtain rfl : b = false := HR.out
    clear e5 hy hy1
    go_enter Try.func50, Try.ntmps50
    go_wp2
    go_ret
    exact ⟨rfl, rfl⟩
/-- what Setup asks -/
def okS (v : QV) (z d a u : Int) : Bool := v.sz == 0 && isSz z && isPl d 16 && isPl a 2 && isPl u 4
def QV.set (v : QV) (z d a u : Int) : QV := bif okS v z d a u then ⟨z, d, a, u, 0, 0, false⟩ else v
theorem QOk.set {v : QV} (h : QOk v) (z d a u : Int) (d0 : 0 ≤ d) (a0 : 0 ≤ a) (u0 : 0 ≤ u) : QOk (v.set z d a u) := by
  unfold QV.set
  cases e : okS v z d a u
  · exact h
  · unfold okS isPl at e
    simp only [Bool.and_eq_true, decide_eq_true_eq] at e
    exact ⟨.inr e.1.1.1.2, ⟨d0, e.1.1.2.2⟩, ⟨a0, e.1.2.2⟩, ⟨u0, e.2.2⟩, ⟨Int.le_refl 0, (by decide : (0 : Int) < 65536)⟩, ⟨Int.le_refl 0, (by decide : (0 : Int) < 65536)⟩⟩
theorem k_Setup (w : World) (q : Nat) (v : QV) (h : Qb w q v) (z d a u : Int) (z0 : -9223372036854775808 ≤ z) (z1 : z ≤ 9223372036854775807) (d0 : 0 ≤ d) (d1 : d < 18446744073709551616) (a0 : 0 ≤ a) (a1 : a < 18446744073709551616) (u0 : 0 ≤ u) (u1 : u < 18446744073709551616) :
    Calls Try.prog 21 #[.pointer (some ⟨q, 0, none⟩), .int .i64 z, .int .u64 d, .int .u64 a, .int .u64 u] w fun e w' => e = .returned (.int .i64 (bif okS v z d a u then 0 else 1)) ∧ Qb w' q (v.set z d a u) ∧ Only (· = q) w w' := by
  have hr := k_Ready w q v h
  have hz := k_isSize w z z0 z1
  have hd := k_isPlace w d 16 d0 d1 (by decide) (by decide)
  have ha := k_isPlace w a 2 a0 a1 (by decide) (by decide)
  have hu := k_isPlace w u 4 u0 u1 (by decide) (by decide)
  have HV : Hid (v.set z d a u = bif okS v z d a u then ⟨z, d, a, u, 0, 0, false⟩ else v) := rfl
  have ho : okS v z d a u = (!(v.sz != 0) && isSz z && isPl d 16 && isPl a 2 && isPl u 4) := by
    unfold okS
    cases e : v.sz == 0 <;> simp [e, bne]
  have HO := hid ho
  clear ho
  generalize v.set z d a u = v' at *
  generalize okS v z d a u = ok at *
  generalize isSz z = b1 at *
  generalize isPl d 16 = b2 at *
  generalize isPl a 2 = b3 at *
  generalize isPl u 4 = b4 at *
  generalize (v.sz != 0) = b0 at *
  have H := hid h
  clear h
  rcases b0 with _ | _
  rcases b1 with _ | _
  rotate_left
  rcases b2 with _ | _
  rotate_left
  rcases b3 with _ | _
  rotate_left
  rcases b4 with _ | _
  all_goals
    have ho := HO.out
    simp only [Bool.not_true, Bool.not_false, Bool.and_true, Bool.and_false, Bool.false_and] at ho
    subst ho
    have hv := HV.out
    subst hv
    clear HO HV
    go_enter Try.func21, Try.ntmps21
    go_wp2_with (first
      | (go_at_call 25; refine hr.mono ?_; rintro e w' ⟨rfl, hw⟩; obtain rfl := hw.symm)
      | (go_at_call 49; refine hz.mono ?_; rintro e w' ⟨rfl, hw⟩; obtain rfl := hw.symm)
      | (go_at_call 50; (with_reducible refine hd.mono ?_); rintro e w' ⟨rfl, hw⟩; obtain rfl := hw.symm)
      | (go_at_call 50; (with_reducible refine ha.mono ?_); rintro e w' ⟨rfl, hw⟩; obtain rfl := hw.symm)
      | (go_at_call 50; (with_reducible refine hu.mono ?_); rintro e w' ⟨rfl, hw⟩; obtain rfl := hw.symm)
      | ((with_reducible refine wpL_stQ q v ⟨z, d, a, u, 0, 0, false⟩ ?_ ?_ H.out ?_); rfl; rfl))
    go_ret
    first
      | exact ⟨rfl, H.out, Only.refl w⟩
      | exact ⟨rfl, setRow_heap w q _ _ _ _ H.out, (Only.refl (S := (· = q)) w).setRow (.inl rfl) _⟩
end Go.Proofs.Ytgebjfkmiaobgaa
namespace Go.Proofs.Ytgebjfkmiaobgaa
open Go.RowKit
open C (Only hid Still ret_int ret_bool)
set_option linter.unusedVariables false
set_option maxRecDepth 100000

section
variable {G : MG} {g : Value} {fH fR fW : FuncId} {rc : Value}
theorem MGC.lt (hG : MGC G g fH fR fW rc) {w : World} {F : Nat → Prop} {s : G.σ} (h : G.R w F s) {k : Nat} (hk : F k) : k < w.heap.size := by
  obtain ⟨c, t, f, q, -⟩ := hG.sep w F s h k hk
  exact lt_of_block q
theorem MGC.below (hG : MGC G g fH fR fW rc) {w w' : World} {F : Nat → Prop} {s : G.σ} (h : G.R w F s) (hb : Below w.heap.size w w') : G.R w' F s := hG.only w F s h w' (fun _ => False) (.ofBelow hb) fun _ _ q => q
theorem MGC.ne (hG : MGC G g fH fR fW rc) {w : World} {F : Nat → Prop} {s : G.σ} (h : G.R w F s) {q : Nat} {v : QV} (hq : Qb w q v) : ¬ F q := fun e => by
  obtain ⟨c, t, f, q1, q2⟩ := hG.sep w F s h q e
  unfold Qb at hq
  rw [hq] at q1
  cases q1
  exact q2 rfl
theorem MGC.qb (hG : MGC G g fH fR fW rc) {w w' : World} {F F' : Nat → Prop} {s : G.σ} (h : G.R w F s) {q : Nat} {v : QV} (hq : Qb w q v) (ht : Tx w F w' F') : Qb w' q v := hq.only ht.1 (hG.ne h hq)
/-- the queue's own block turned: the memory stays -/
theorem MGC.own (hG : MGC G g fH fR fW rc) {w w' : World} {F : Nat → Prop} {s : G.σ} (h : G.R w F s) {q : Nat} {v : QV} (hq : Qb w q v) (ho : Only (· = q) w w') : G.R w' F s := hG.only w F s h w' _ ho fun k hk e => hG.ne h hq (e ▸ hk)
theorem k_read2 (hG : MGC G g fH fR fW rc) (w : World) (F : Nat → Prop) (s : G.σ) (h : G.R w F s) (a : Int) (a0 : 0 ≤ a) (a1 : a < 18446744073709551616) : Calls Try.prog 51 #[g, .int .u64 a] w fun e w' => e = .returned (.tuple #[.int .u16 (G.rd s a 2), .bool (G.ok s a 2)]) ∧ Below w.heap.size w w' := by
  have hR := hG.Rd w F s h a 2 a0 a1 (.inl rfl)
  have cR := hid hG.cR
  obtain ⟨⟨r0, r1⟩, -⟩ := hG.rb w F s h a a0
  generalize G.rd s a 2 = r at *
  generalize G.ok s a 2 = o at *
  clear hG h
  have e1 : IntKind.u16.wrap r = r := by rw [IntKind.wrap_u16]; omega
  go_enter Try.func51, Try.ntmps51
  go_wp2_with (refine wpList_inv2 (by simp [Region.wanted]) "Read" g _ _ _ _ rfl (.int .u64 a) (.int .i64 2) rfl rfl rfl fR rc (cR.out _ _) hR ?_; rintro e w1 ⟨rfl, hb⟩; refine ⟨_, rfl, ?_⟩; have HB := hid hb; clear hb)
  go_returns
  exact ⟨rfl, HB.out⟩
end
theorem wpL_stD {ops : Array Oper} {rest : List Oper} {d : Option Nat} {ty : TypeId} {x y : Operand} {pos : String} {after : Array Edge} {Q : Exit → Act → World → Prop} {a : Act} {w : World} (g : Nat) (c0 c1 c2 c3 : Int) (hx : a.eval x = .pointer (some ⟨g, 0, none⟩)) (hy : a.eval y = .agg #[.int .u64 c0, .int .u32 c1, .int .u16 c2, .int .u16 c3]) {z0 z1 z2 z3 : Value}
    (hg : w.heap[g]? = some (.cells #[z0, z1, z2, z3] 122 (0, 0))) (hK : wpList Try.prog ops Q rest (a.put d undef) (w.setRow g #[.int .u64 c0, .int .u32 c1, .int .u16 c2, .int .u16 c3])) :
    wpList Try.prog ops Q ({ dst := d, op := Op.store 122 x y, type := ty, pos := pos, after := after, guard := none } :: rest) a w :=
  wpList_store_row rfl 122 x y rfl g _ hx hy 122 _ hg s_dsc rfl (by rw [Array.all_eq_true_iff_forall_mem]; intro v hv; simp at hv; rcases hv with rfl | rfl | rfl | rfl <;> rfl) hK
theorem k_hasF (w : World) (ad ln fl nx x : Int) : Calls Try.prog 69 #[.agg #[.int .u64 ad, .int .u32 ln, .int .u16 fl, .int .u16 nx], .int .u16 x] w fun e w' => e = .returned (.bool (bits BinOp.and IntKind.u16 fl x != 0)) ∧ Below w.heap.size w w' := by
  go_enter Try.func69, Try.ntmps69
  go_wp2
  go_ret
  exact ⟨rfl, (Below.refl _ _).alloc (Nat.le_refl _) _⟩
theorem k_piece (w : World) (ad ln fl nx : Int) (l0 : 0 ≤ ln) (l1 : ln < 4294967296) : Calls Try.prog 70 #[.agg #[.int .u64 ad, .int .u32 ln, .int .u16 fl, .int .u16 nx]] w fun e w' => e = .returned (.agg #[.int .u64 ad, .int .i64 ln]) ∧ Below w.heap.size w w' := by
  have e1 : IntKind.i64.wrap ln = ln := by rw [IntKind.wrap_i64]; omega
  go_enter Try.func70, Try.ntmps70
  go_wp2
  go_returns
  exact ⟨rfl, by (repeat (first | (with_reducible exact Below.refl _ _) | (with_reducible assumption) | refine Below.setCell ?_ (by first | exact Nat.le_refl _ | simp | (simp; omega)) _ | refine Below.alloc ?_ (by first | exact Nat.le_refl _ | simp | (simp; omega)) _ | refine below_dn ?_ _ | refine below_setRow ?_ (by first | exact Nat.le_refl _ | simp | (simp; omega)) _))⟩
/-- flags that are none; a piece to write; another one follows -/
def fX (fl : Int) : Bool := bits BinOp.andNot IntKind.u16 fl 3 != 0
def fW2 (fl : Int) : Bool := bits BinOp.and IntKind.u16 fl 2 != 0
def fM (fl : Int) : Bool := bits BinOp.and IntKind.u16 fl 1 != 0
def mayD (G : MG) (s : G.σ) (ad ln fl : Int) (bw : Bool) : Bool := !(fX fl || bw && !fW2 fl) && (ln == 0 || G.has s ad ln)
section
variable {G : MG} {g : Value} {fH fR fW : FuncId} {rc : Value}
set_option maxHeartbeats 1000000 in
theorem k_may (hG : MGC G g fH fR fW rc) (w : World) (F : Nat → Prop) (s : G.σ) (h : G.R w F s) (ad ln fl nx : Int) (a0 : 0 ≤ ad) (a1 : ad < 18446744073709551616) (l0 : 0 ≤ ln) (l1 : ln < 4294967296) (bw : Bool) : Calls Try.prog 68 #[.agg #[.int .u64 ad, .int .u32 ln, .int .u16 fl, .int .u16 nx], g, .bool bw] w fun e w' => e = .returned (.bool (mayD G s ad ln fl bw)) ∧ Below w.heap.size w w' := by
  have HH : Hid (∀ w1, Below w.heap.size w w1 → Calls Try.prog fH #[rc, .int .u64 ad, .int .i64 ln] w1 fun e w' => e = .returned (.bool (G.has s ad ln)) ∧ Below w1.heap.size w1 w') := fun w1 hb => hG.H w1 F s (hG.below h hb) ad ln a0 a1 l0 l1
  have cH := hid hG.cH
  have HM : Hid (mayD G s ad ln fl bw = (!(fX fl || bw && !fW2 fl) && (ln == 0 || G.has s ad ln))) := rfl
  generalize mayD G s ad ln fl bw = m at *
  generalize G.has s ad ln = hh at *
  clear hG h
  have e1 : IntKind.i64.wrap ln = ln := by rw [IntKind.wrap_i64]; omega
  have HF := hid (fun w => k_hasF w ad ln fl nx 2)
  have f1 : (bits BinOp.andNot IntKind.u16 fl 3 != 0) = fX fl := rfl
  have f2 : (bits BinOp.and IntKind.u16 fl 2 != 0) = fW2 fl := rfl
  rw [f2] at HF
  generalize fX fl = x at *
  generalize fW2 fl = y at *
  have HB1 : Hid (∀ o, Below w.heap.size w (w.alloc o)) := fun o => (Below.refl _ _).alloc (Nat.le_refl _) o
  have HB2 : Hid (∀ o w1, Below (w.alloc o).heap.size (w.alloc o) w1 → Below w.heap.size w w1) := fun o w1 hb => (HB1.out o).trans (hb.mono (HB1.out o).size)
  cases x
  · cases bw
    · by_cases e : ln = 0
      · subst e
        obtain rfl : m = true := HM.out
        go_enter Try.func68, Try.ntmps68
        go_wp2_with fail
        go_ret
        exact ⟨rfl, HB1.out _⟩
      · have e' : (ln == 0) = false := by simp [e]
        obtain rfl : m = hh := by rw [HM.out, e']; cases hh <;> rfl
        clear e
        go_enter Try.func68, Try.ntmps68
        go_wp2_with (refine wpList_inv2 (by simp [Region.wanted, yielded]) "Has" g _ _ _ _ rfl (.int .u64 ad) (.int .i64 ln) rfl rfl rfl fH rc (cH.out _ _) (HH.out _ (HB1.out _)) ?_; rintro e w1 ⟨rfl, hb⟩; refine ⟨_, rfl, ?_⟩; have HB := hid (HB2.out _ _ hb); clear hb)
        go_ret
        exact ⟨rfl, HB.out⟩
    · cases y
      · obtain rfl : m = false := HM.out
        go_enter Try.func68, Try.ntmps68
        go_wp2_with (go_at_call 69; refine (HF.out _).mono ?_; rintro e w1 ⟨rfl, hb⟩; have HB := hid (HB2.out _ _ hb); clear hb)
        go_ret
        exact ⟨rfl, HB.out⟩
      · by_cases e : ln = 0
        · subst e
          obtain rfl : m = true := HM.out
          go_enter Try.func68, Try.ntmps68
          go_wp2_with (go_at_call 69; refine (HF.out _).mono ?_; rintro e w1 ⟨rfl, hb⟩; have d1 : w1.cell? ⟨w.heap.size, 1, none⟩ = some (.int .u32 0) := (hb.cell (p := ⟨w.heap.size, 1, none⟩) (by simp)).trans (by simp [cell_of_row _ _ 1 _ _ _ (heap_alloc_new w _)]); have HB := hid (HB2.out _ _ hb); clear hb)
          go_ret
          exact ⟨rfl, HB.out⟩
        · have e' : (ln == 0) = false := by simp [e]
          obtain rfl : m = hh := by rw [HM.out, e']; cases hh <;> rfl
          clear e
          go_enter Try.func68, Try.ntmps68
          go_wp2_with (first
            | (go_at_call 69; refine (HF.out _).mono ?_; rintro e w1 ⟨rfl, hb⟩; have d1 : w1.cell? ⟨w.heap.size, 1, none⟩ = some (.int .u32 ln) := (hb.cell (p := ⟨w.heap.size, 1, none⟩) (by simp)).trans (by simp [cell_of_row _ _ 1 _ _ _ (heap_alloc_new w _)]); have d0 : w1.cell? ⟨w.heap.size, 0, none⟩ = some (.int .u64 ad) := (hb.cell (p := ⟨w.heap.size, 0, none⟩) (by simp)).trans (by simp [cell_of_row _ _ 0 _ _ _ (heap_alloc_new w _)]); have HB := hid (HB2.out _ _ hb); clear hb)
            | (refine wpList_inv2 (by simp [Region.wanted, yielded]) "Has" g _ _ _ _ rfl (.int .u64 ad) (.int .i64 ln) rfl rfl rfl fH rc (cH.out _ _) (HH.out _ HB.out) ?_; rintro e w2 ⟨rfl, hb⟩; refine ⟨_, rfl, ?_⟩; have HC := hid (HB.out.trans (hb.mono HB.out.size)); clear hb))
          go_ret
          exact ⟨rfl, HC.out⟩
  · obtain rfl : m = false := HM.out
    go_enter Try.func68, Try.ntmps68
    go_wp2_with fail
    go_ret
    exact ⟨rfl, HB1.out _⟩
/-- a descriptor's bytes -/
def okD (G : MG) (s : G.σ) (at0 : Int) : Bool := G.ok s at0 8 && G.ok s (at0 + 8) 4 && G.ok s (at0 + 12) 2 && G.ok s (at0 + 14) 2
set_option maxHeartbeats 1000000 in
theorem k_load (hG : MGC G g fH fR fW rc) (w : World) (F : Nat → Prop) (s : G.σ) (h : G.R w F s) (q : Nat) (v : QV) (hq : Qb w q v) (ho : QOk v) (i : Int) (i0 : 0 ≤ i) (i1 : i < 65536) : Calls Try.prog 67 #[.pointer (some ⟨q, 0, none⟩), g, .int .u16 i] w fun e w' => e = .returned (.tuple #[.agg #[.int .u64 (G.rd s (v.d + 16 * i) 8), .int .u32 (G.rd s (v.d + 16 * i + 8) 4), .int .u16 (G.rd s (v.d + 16 * i + 12) 2), .int .u16 (G.rd s (v.d + 16 * i + 14) 2)], .bool (okD G s (v.d + 16 * i))]) ∧ Below w.heap.size w w' := by
  have c1 := hq.c1
  have hlt := hq.lt
  obtain ⟨d0, d1⟩ := ho.d
  obtain ⟨D, hD⟩ : ∃ D, v.d + 16 * i = D := ⟨_, rfl⟩
  rw [hD]
  have e1 : IntKind.u64.wrap i = i := by rw [IntKind.wrap_u64]; omega
  have e2 : IntKind.u64.wrap (16 * i) = 16 * i := by rw [IntKind.wrap_u64]; omega
  have e3 : IntKind.u64.wrap (v.d + 16 * i) = D := by rw [IntKind.wrap_u64, hD]; omega
  have D0 : 0 ≤ D := by omega
  have D1 : D < 1152921504608000000 := by omega
  have e4 : IntKind.u64.wrap (D + 8) = D + 8 := by rw [IntKind.wrap_u64]; omega
  have e5 : IntKind.u64.wrap (D + 12) = D + 12 := by rw [IntKind.wrap_u64]; omega
  have e6 : IntKind.u64.wrap (D + 14) = D + 14 := by rw [IntKind.wrap_u64]; omega
  have H8 : Hid (∀ w1, Below w.heap.size w w1 → Calls Try.prog fR #[rc, .int .u64 D, .int .i64 8] w1 fun e w' => e = .returned (.tuple #[.int .u64 (G.rd s D 8), .bool (G.ok s D 8)]) ∧ Below w1.heap.size w1 w') := fun w1 hb => hG.Rd w1 F s (hG.below h hb) D 8 D0 (by omega) (.inr (.inr rfl))
  have H4 : Hid (∀ w1, Below w.heap.size w w1 → Calls Try.prog fR #[rc, .int .u64 (D + 8), .int .i64 4] w1 fun e w' => e = .returned (.tuple #[.int .u64 (G.rd s (D + 8) 4), .bool (G.ok s (D + 8) 4)]) ∧ Below w1.heap.size w1 w') := fun w1 hb => hG.Rd w1 F s (hG.below h hb) (D + 8) 4 (by omega) (by omega) (.inr (.inl rfl))
  have H2 : Hid (∀ w1, Below w.heap.size w w1 → Calls Try.prog 51 #[g, .int .u64 (D + 12)] w1 fun e w' => e = .returned (.tuple #[.int .u16 (G.rd s (D + 12) 2), .bool (G.ok s (D + 12) 2)]) ∧ Below w1.heap.size w1 w') := fun w1 hb => k_read2 hG w1 F s (hG.below h hb) (D + 12) (by omega) (by omega)
  have H3 : Hid (∀ w1, Below w.heap.size w w1 → Calls Try.prog 51 #[g, .int .u64 (D + 14)] w1 fun e w' => e = .returned (.tuple #[.int .u16 (G.rd s (D + 14) 2), .bool (G.ok s (D + 14) 2)]) ∧ Below w1.heap.size w1 w') := fun w1 hb => k_read2 hG w1 F s (hG.below h hb) (D + 14) (by omega) (by omega)
  have cR := hid hG.cR
  have HK : Hid (okD G s D = (G.ok s D 8 && G.ok s (D + 8) 4 && G.ok s (D + 12) 2 && G.ok s (D + 14) 2)) := rfl
  obtain ⟨-, ⟨r0, r1⟩, -⟩ := hG.rb w F s h (D + 8) (by omega)
  generalize okD G s D = K at *
  generalize G.rd s D 8 = A8 at *
  generalize G.ok s D 8 = o8 at *
  generalize G.rd s (D + 8) 4 = A4 at *
  generalize G.ok s (D + 8) 4 = o4 at *
  generalize G.rd s (D + 12) 2 = A2 at *
  generalize G.ok s (D + 12) 2 = o2 at *
  generalize G.rd s (D + 14) 2 = A3 at *
  generalize G.ok s (D + 14) 2 = o3 at *
  clear hG h hq ho hD
  have e7 : IntKind.u32.wrap A4 = A4 := by rw [IntKind.wrap_u32]; omega
  obtain ⟨w0, hw0⟩ : ∃ w0, w0 = w.alloc (.cells #[.int .u64 0, .int .u32 0, .int .u16 0, .int .u16 0] 122) := ⟨_, rfl⟩
  have HB0 : Hid (Below w.heap.size w w0) := hw0 ▸ (Below.refl _ _).alloc (Nat.le_refl _) _
  have HA0 : Hid (w0.heap[w.heap.size]? = some (.cells #[.int .u64 0, .int .u32 0, .int .u16 0, .int .u16 0] 122 (0, 0))) := hw0 ▸ heap_alloc_new w _
  have k1 : w0.cell? ⟨q, 1, none⟩ = some (.int .u64 v.d) := (HB0.out.cell (p := ⟨q, 1, none⟩) hlt).trans c1
  go_enter Try.func67, Try.ntmps67
  go_upto_region 1 with fail
  rw [← hw0]
  clear c1 hw0 hlt
  have HB : Hid (Below w0.heap.size w0 w0) := Below.refl _ _
  have HT : Hid (∀ w1, Below w0.heap.size w0 w1 → Below w.heap.size w w1) := fun w1 hb => HB0.out.trans (hb.mono HB0.out.size)
  have HN : Hid (∀ w1, Below w0.heap.size w0 w1 → w1.heap[w.heap.size]? = some (.cells #[.int .u64 0, .int .u32 0, .int .u16 0, .int .u16 0] 122 (0, 0))) := fun w1 hb => (hb.block _ (lt_of_block HA0.out)).trans HA0.out
  go_upto_region 2 with fail
  clear k1 e1 e2 e3 i0 i1
  go_upto_region 6 with (first
    | (go_at_call 51; (with_reducible refine (H2.out _ (HT.out _ HB.out)).mono ?_); rintro e w2 ⟨rfl, hb⟩; have HB := hid (HB.out.trans (hb.mono HB.out.size)); clear hb)
    | (go_at_call 51; (with_reducible refine (H3.out _ (HT.out _ HB.out)).mono ?_); rintro e w2 ⟨rfl, hb⟩; have HB := hid (HB.out.trans (hb.mono HB.out.size)); clear hb)
    | (refine wpList_inv2 (by simp [Region.wanted]) "Read" g _ _ _ _ rfl (.int .u64 D) (.int .i64 8) rfl rfl rfl fR rc (cR.out _ _) (H8.out _ (HT.out _ HB.out)) ?_; rintro e w2 ⟨rfl, hb⟩; refine ⟨_, rfl, ?_⟩; have HB := hid (HB.out.trans (hb.mono HB.out.size)); clear hb)
    | (refine wpList_inv2 (by simp [Region.wanted]) "Read" g _ _ _ _ rfl (.int .u64 (D + 8)) (.int .i64 4) rfl rfl rfl fR rc (cR.out _ _) (H4.out _ (HT.out _ HB.out)) ?_; rintro e w2 ⟨rfl, hb⟩; refine ⟨_, rfl, ?_⟩; have HB := hid (HB.out.trans (hb.mono HB.out.size)); clear hb))
  have HE : Hid (w2.heap[w.heap.size]? = some (.cells #[.int .u64 0, .int .u32 0, .int .u16 0, .int .u16 0] 122 (0, 0))) := HN.out _ HB.out
  have HZ : Hid (∀ c, Below w.heap.size w (w2.setRow w.heap.size c)) := fun c => below_row (HT.out _ HB.out) (Nat.le_refl _) c
  clear HB HN HA0 HB0 HT H8 H4 H2 H3 cR
  rcases o8 with _ | _
  rotate_left
  rcases o4 with _ | _
  rotate_left
  rcases o2 with _ | _
  all_goals
    have hk := HK.out
    simp only [Bool.true_and, Bool.false_and] at hk
    subst hk
    go_wp2_with ((with_reducible refine wpL_stD w.heap.size A8 A4 A2 A3 ?_ ?_ HE.out ?_); rfl; rfl)
    exact bodyPost_ret_by (results_pair (fn := Try.f67) rfl _ _ w.heap.size 122 #[.int .u64 A8, .int .u32 A4, .int .u16 A2, .int .u16 A3] (0, 0) _ rfl (setRow_heap w2 w.heap.size _ _ _ _ HE.out) u_dsc rfl s_dsc _ rfl) rfl ⟨rfl, HZ.out _⟩
end
end Go.Proofs.Ytgebjfkmiaobgaa
namespace Go.Proofs.Ytgebjfkmiaobgaa
open Go.RowKit
open C (Only hid Still ret_int ret_bool)
set_option linter.unusedVariables false
set_option maxRecDepth 100000

section
variable {G : MG} {g : Value} {fH fR fW : FuncId} {rc : Value}
/-- how many chains are ahead -/
def ahd (G : MG) (s : G.σ) (v : QV) : Int := (G.rd s (v.a + 2) 2 - v.tk) % 65536
def ofE (G : MG) (s : G.σ) (v : QV) : Int := bif !G.ok s (v.a + 2) 2 then 32 else bif decide (v.sz < ahd G s v) then 30 else 0
def ofN (G : MG) (s : G.σ) (v : QV) : Int := bif ofE G s v == 0 then ahd G s v else 0
set_option maxHeartbeats 1000000 in
theorem k_offered (hG : MGC G g fH fR fW rc) (w : World) (F : Nat → Prop) (s : G.σ) (h : G.R w F s) (q : Nat) (v : QV) (hq : Qb w q v) (ho : QOk v) : Calls Try.prog 40 #[.pointer (some ⟨q, 0, none⟩), g] w fun e w' => e = .returned (.tuple #[.int .u16 (ofN G s v), .int .i64 (ofE G s v)]) ∧ Below w.heap.size w w' := by
  obtain ⟨a0, a1⟩ := ho.a
  obtain ⟨t0, t1⟩ := ho.tk
  have c2 := hq.c2
  have HQ := hid hq
  have hR := k_read2 hG w F s h (v.a + 2) (by omega) (by omega)
  obtain ⟨⟨r0, r1⟩, -⟩ := hG.rb w F s h (v.a + 2) (by omega)
  have HE : Hid (ofE G s v = bif !G.ok s (v.a + 2) 2 then 32 else bif decide (v.sz < ahd G s v) then 30 else 0) := rfl
  have HN : Hid (ofN G s v = bif ofE G s v == 0 then ahd G s v else 0) := rfl
  have HA : Hid (ahd G s v = (G.rd s (v.a + 2) 2 - v.tk) % 65536) := rfl
  generalize ofE G s v = E at *
  generalize ofN G s v = N at *
  generalize ahd G s v = A at *
  have e1 : IntKind.u64.wrap (v.a + 2) = v.a + 2 := by rw [IntKind.wrap_u64]; omega
  generalize G.ok s (v.a + 2) 2 = O at *
  generalize G.rd s (v.a + 2) 2 = r at *
  have e2 : IntKind.u16.wrap (r - v.tk) = A := by rw [IntKind.wrap_u16, HA.out]
  have e3 : IntKind.i64.wrap A = A := by rw [IntKind.wrap_i64]; have := HA.out; omega
  clear hG h hq ho HA
  cases O
  · obtain rfl : E = 32 := HE.out
    obtain rfl : N = 0 := HN.out
    clear HE HN HQ
    go_enter Try.func40, Try.ntmps40
    go_wp2_with (go_at_call 51; (refine hR.mono ?_); rintro e w2 ⟨rfl, hb⟩; have HB := hid hb; clear hb)
    go_returns
    exact ⟨rfl, HB.out⟩
  · by_cases hl : v.sz < A
    · have hd : decide (v.sz < A) = true := by simpa using hl
      rw [hd] at HE
      obtain rfl : E = 30 := HE.out
      obtain rfl : N = 0 := HN.out
      clear HE HN hd
      go_enter Try.func40, Try.ntmps40
      go_wp2_with (go_at_call 51; (refine hR.mono ?_); rintro e w2 ⟨rfl, hb⟩; have k4 := (HQ.out.below hb).c4; have k0 := (HQ.out.below hb).c0; have HB := hid hb; clear hb)
      go_returns
      exact ⟨rfl, HB.out⟩
    · have hd : decide (v.sz < A) = false := by simpa using hl
      rw [hd] at HE
      obtain rfl : E = 0 := HE.out
      obtain rfl : N = A := HN.out
      clear HE HN hd
      go_enter Try.func40, Try.ntmps40
      go_wp2_with (go_at_call 51; (refine hR.mono ?_); rintro e w2 ⟨rfl, hb⟩; have k4 := (HQ.out.below hb).c4; have k0 := (HQ.out.below hb).c0; have HB := hid hb; clear hb)
      go_returns
      exact ⟨rfl, HB.out⟩
/-- no interrupt is wanted -/
def quF (G : MG) (s : G.σ) (v : QV) : Bool := v.sz != 0 && (G.ok s v.a 2 && bits BinOp.and IntKind.u16 (G.rd s v.a 2) 1 != 0)
set_option maxHeartbeats 1000000 in
theorem k_Quiet (hG : MGC G g fH fR fW rc) (w : World) (F : Nat → Prop) (s : G.σ) (h : G.R w F s) (q : Nat) (v : QV) (hq : Qb w q v) (ho : QOk v) : Calls Try.prog 27 #[.pointer (some ⟨q, 0, none⟩), g] w fun e w' => e = .returned (.bool (quF G s v)) ∧ Below w.heap.size w w' := by
  obtain ⟨a0, a1⟩ := ho.a
  have c2 := hq.c2
  have hr := k_Ready w q v hq
  have hR := k_read2 hG w F s h v.a (by omega) (by omega)
  have HE : Hid (quF G s v = (v.sz != 0 && (G.ok s v.a 2 && bits BinOp.and IntKind.u16 (G.rd s v.a 2) 1 != 0))) := rfl
  generalize quF G s v = E at *
  generalize G.ok s v.a 2 = O at *
  generalize G.rd s v.a 2 = r at *
  generalize (v.sz != 0) = Z at *
  clear hG h hq ho
  cases Z
  · obtain rfl : E = false := HE.out
    clear hR HE
    go_enter Try.func27, Try.ntmps27
    go_wp2_with (go_at_call 25; refine hr.mono ?_; rintro e w' ⟨rfl, hw⟩; obtain rfl := hw.symm)
    go_ret
    exact ⟨rfl, .refl _ _⟩
  · cases O
    · obtain rfl : E = false := HE.out
      clear HE
      go_enter Try.func27, Try.ntmps27
      go_wp2_with (first
        | (go_at_call 25; refine hr.mono ?_; rintro e w' ⟨rfl, hw⟩; obtain rfl := hw.symm)
        | (go_at_call 51; (refine hR.mono ?_); rintro e w2 ⟨rfl, hb⟩; have HB := hid hb; clear hb))
      go_ret
      exact ⟨rfl, HB.out⟩
    · obtain rfl : E = (bits BinOp.and IntKind.u16 r 1 != 0) := HE.out
      clear HE
      go_enter Try.func27, Try.ntmps27
      go_wp2_with (first
        | (go_at_call 25; refine hr.mono ?_; rintro e w' ⟨rfl, hw⟩; obtain rfl := hw.symm)
        | (go_at_call 51; (refine hR.mono ?_); rintro e w2 ⟨rfl, hb⟩; have HB := hid hb; clear hb))
      go_ret
      exact ⟨rfl, HB.out⟩
end
end Go.Proofs.Ytgebjfkmiaobgaa
