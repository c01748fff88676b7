/- The program's Write. -/
import Derived.Test.YteafjobmlfkppaaMH1
import Derived.Laws.MakeOwn
namespace Go.Proofs.Yteafjobmlfkppaa
open Go.RowKit
set_option linter.unusedVariables false
set_option maxRecDepth 100000

set_option maxHeartbeats 1000000 in
theorem mw_user (h : HV) (ok : HOk h) (csr v : Int) (r : 0 ≤ v ∧ v < 18446744073709551616) (w : World) (hu : (ordH h).user = true) : Calls Try.prog 38 #[h.v, .int .i64 csr, .int .u64 v] w fun e w' => e = .returned (.tuple #[(ordH h).v, .bool false]) ∧ Below w.heap.size w w' := by
  have OK := hid ok
  clear ok
  go_enter Try.func38, Try.ntmps38
  go_upto_region 2 with (first
    | ((with_reducible refine wpList_new (z := .agg HV.zero.ca) HV.zero.ca ?_ ?_ ?_); rfl; exact z_hart)
    | ((with_reducible refine wpL_loadH (x := .tmp 3) w.heap.size ?_ h ?_ ?_); rfl; exact heap2 _ _ _)
    | (go_at_call 41; refine (m_inOrder h OK.out _).mono ?_; rintro e w1 ⟨rfl, hb⟩; have HB1 := hid hb; clear hb)
    | ((with_reducible refine wpL_storeH (x := .tmp 3) (y := .tmp 9) w.heap.size ?_ (ordH h) ?_ h.ca ?_ rfl ?_); rfl; rfl; exact (HB1.out.block _ (by simp; omega)).trans (heap2 _ _ _)))
  have HP : Hid (w1.heap[w.heap.size]? = some (.cells h.ca 30 (0, 0))) := (HB1.out.block _ (by simp; omega)).trans (heap2 _ _ _)
  have HQ : Hid (w1.heap[w.heap.size + 1]? = some (.cells HV.zero.ca 30 (0, 0))) := (HB1.out.block _ (by simp)).trans (heap2' _ _ _)
  have HB0 : Hid (Below w.heap.size w w1) := (below2 _ _).trans (HB1.out.mono (by simp; omega))
  obtain ⟨o, ho⟩ : ∃ o, o = ordH h := ⟨_, rfl⟩
  rw [← ho]
  have OO : Hid (HOk o) := by show HOk o; rw [ho]; exact ordOk OK.out
  rw [← ho] at hu
  have HO := hid ho
  clear ho
  obtain ⟨wa, hwa⟩ : ∃ wa, wa = w1.setRow w.heap.size o.ca := ⟨_, rfl⟩
  have HR : Hid (wa.heap[w.heap.size]? = some (.cells o.ca 30 (0, 0))) := by show _ = _; rw [hwa]; exact heap_setRow _ _ _ _ _ HP.out
  have HZ : Hid (wa.heap[w.heap.size + 1]? = some (.cells HV.zero.ca 30 (0, 0))) := by show _ = _; rw [hwa, setRow_other _ _ _ _ (by omega)]; exact HQ.out
  have HW : Hid (Below w.heap.size w wa) := by show Below _ _ _; rw [hwa]; exact below_setRow HB0.out (Nat.le_refl _) _
  rw [← hwa]
  clear hwa HP HQ HB0 HB1
  have x33 := row_cellH HR.out 33 (v := .bool o.user) (by simp [HV.ca, HV.cs])
  go_wp2_with (first
    | ((with_reducible refine wpL_loadH (x := .tmp 3) w.heap.size ?_ o ?_ ?_); rfl; exact HR.out)
    | ((with_reducible refine wpL_storeH (x := .tmp 6) (y := .tmp 12) (w.heap.size + 1) ?_ o ?_ HV.zero.ca ?_ rfl ?_); rfl; rfl; exact HZ.out))
  refine bodyPost_ret (ret_row2 Try.results38 (w.heap.size + 1) o false rfl rfl (heap_setRow _ _ _ _ _ HZ.out)) rfl ⟨by rw [HO.out], ?_⟩
  exact below_setRow HW.out (by omega) _
set_option maxHeartbeats 1000000 in
theorem mw_no (h : HV) (ok : HOk h) (csr v : Int) (r : 0 ≤ v ∧ v < 18446744073709551616) (w : World) (n1 : csr ≠ 256) (n260 : csr ≠ 260) (n261 : csr ≠ 261) (n320 : csr ≠ 320) (n321 : csr ≠ 321) (n322 : csr ≠ 322) (n323 : csr ≠ 323) (n324 : csr ≠ 324) (n384 : csr ≠ 384) (hu : (ordH h).user = false) : Calls Try.prog 38 #[h.v, .int .i64 csr, .int .u64 v] w fun e w' => e = .returned (.tuple #[(ordH h).v, .bool false]) ∧ Below w.heap.size w w' := by
  have OK := hid ok
  clear ok
  go_enter Try.func38, Try.ntmps38
  go_upto_region 2 with (first
    | ((with_reducible refine wpList_new (z := .agg HV.zero.ca) HV.zero.ca ?_ ?_ ?_); rfl; exact z_hart)
    | ((with_reducible refine wpL_loadH (x := .tmp 3) w.heap.size ?_ h ?_ ?_); rfl; exact heap2 _ _ _)
    | (go_at_call 41; refine (m_inOrder h OK.out _).mono ?_; rintro e w1 ⟨rfl, hb⟩; have HB1 := hid hb; clear hb)
    | ((with_reducible refine wpL_storeH (x := .tmp 3) (y := .tmp 9) w.heap.size ?_ (ordH h) ?_ h.ca ?_ rfl ?_); rfl; rfl; exact (HB1.out.block _ (by simp; omega)).trans (heap2 _ _ _)))
  have HP : Hid (w1.heap[w.heap.size]? = some (.cells h.ca 30 (0, 0))) := (HB1.out.block _ (by simp; omega)).trans (heap2 _ _ _)
  have HQ : Hid (w1.heap[w.heap.size + 1]? = some (.cells HV.zero.ca 30 (0, 0))) := (HB1.out.block _ (by simp)).trans (heap2' _ _ _)
  have HB0 : Hid (Below w.heap.size w w1) := (below2 _ _).trans (HB1.out.mono (by simp; omega))
  obtain ⟨o, ho⟩ : ∃ o, o = ordH h := ⟨_, rfl⟩
  rw [← ho]
  have OO : Hid (HOk o) := by show HOk o; rw [ho]; exact ordOk OK.out
  rw [← ho] at hu
  have HO := hid ho
  clear ho
  obtain ⟨wa, hwa⟩ : ∃ wa, wa = w1.setRow w.heap.size o.ca := ⟨_, rfl⟩
  have HR : Hid (wa.heap[w.heap.size]? = some (.cells o.ca 30 (0, 0))) := by show _ = _; rw [hwa]; exact heap_setRow _ _ _ _ _ HP.out
  have HZ : Hid (wa.heap[w.heap.size + 1]? = some (.cells HV.zero.ca 30 (0, 0))) := by show _ = _; rw [hwa, setRow_other _ _ _ _ (by omega)]; exact HQ.out
  have HW : Hid (Below w.heap.size w wa) := by show Below _ _ _; rw [hwa]; exact below_setRow HB0.out (Nat.le_refl _) _
  rw [← hwa]
  clear hwa HP HQ HB0 HB1
  have x33 := row_cellH HR.out 33 (v := .bool o.user) (by simp [HV.ca, HV.cs])
  go_wp2_with (first
    | ((with_reducible refine wpL_loadH (x := .tmp 3) w.heap.size ?_ o ?_ ?_); rfl; exact HR.out)
    | ((with_reducible refine wpL_storeH (x := .tmp 6) (y := .tmp 14) (w.heap.size + 1) ?_ o ?_ HV.zero.ca ?_ rfl ?_); rfl; rfl; exact HZ.out))
  refine bodyPost_ret (ret_row2 Try.results38 (w.heap.size + 1) o false rfl rfl (heap_setRow _ _ _ _ _ HZ.out)) rfl ⟨by rw [HO.out], ?_⟩
  exact below_setRow HW.out (by omega) _
end Go.Proofs.Yteafjobmlfkppaa
namespace Go.Proofs.Yteafjobmlfkppaa
open Go.RowKit
set_option linter.unusedVariables false
set_option maxRecDepth 100000

def V1 (w : World) (g : Nat) (x : VV) : Prop := w.heap[g]? = some (.cells x.ca 32 (0, 0))
def H1 (w : World) (g : Nat) (h : HV) : Prop := w.heap[g]? = some (.cells h.ca 30 (0, 0))
section
variable {w : World} {g : Nat}
theorem V1.lt {x : VV} (h : V1 w g x) : g < w.heap.size := lt_of_block h
theorem H1.lt {x : HV} (h : H1 w g x) : g < w.heap.size := lt_of_block h
theorem V1.below {w' : World} {x : VV} (h : V1 w g x) (hb : Below w.heap.size w w') : V1 w' g x := (hb.block g h.lt).trans h
theorem H1.below {w' : World} {x : HV} (h : H1 w g x) (hb : Below w.heap.size w w') : H1 w' g x := (hb.block g h.lt).trans h
theorem V1.only {w' : World} {x : VV} (h : V1 w g x) {S : Nat → Prop} (ho : C.Only S w w') (hs : ¬ S g) : V1 w' g x := ho.old h hs
theorem H1.only {w' : World} {x : HV} (h : H1 w g x) {S : Nat → Prop} (ho : C.Only S w w') (hs : ¬ S g) : H1 w' g x := ho.old h hs
theorem V1.new (x : VV) : V1 (w.alloc (.cells x.ca 32)) w.heap.size x := heap_alloc_new w _
theorem V1.new1 (x : VV) (o : Obj) : V1 ((w.alloc (.cells x.ca 32)).alloc o) w.heap.size x := heap2 _ _ _
theorem V1.new2 (x : VV) (o : Obj) : V1 ((w.alloc o).alloc (.cells x.ca 32)) (w.heap.size + 1) x := heap2' _ _ _
theorem H1.new (x : HV) : H1 (w.alloc (.cells x.ca 30)) w.heap.size x := heap_alloc_new w _
theorem H1.new1 (x : HV) (o : Obj) : H1 ((w.alloc (.cells x.ca 30)).alloc o) w.heap.size x := heap2 _ _ _
theorem H1.new2 (x : HV) (o : Obj) : H1 ((w.alloc o).alloc (.cells x.ca 30)) (w.heap.size + 1) x := heap2' _ _ _
theorem V1.c {x : VV} (h : V1 w g x) (j : Nat) : w.cell? ⟨g, j, none⟩ = x.ca[j]? := cell_of_row w g j _ _ _ h
theorem H1.c {x : HV} (h : H1 w g x) (j : Nat) : w.cell? ⟨g, j, none⟩ = x.ca[j]? := cell_of_row w g j _ _ _ h
theorem V1.z {x : VV} (h : V1 w g x) (j : Nat) : w.frozen? ⟨g, j, none⟩ = false := frozen_of_row w g j _ _ h
theorem H1.z {x : HV} (h : H1 w g x) (j : Nat) : w.frozen? ⟨g, j, none⟩ = false := frozen_of_row w g j _ _ h
theorem V1.set {x y : VV} (h : V1 w g x) {j : Nat} {u : Value} (e : x.ca.setIfInBounds j u = y.ca) : V1 (w.setCell ⟨g, j, none⟩ u) g y := setCell_row w g j _ _ _ u h e
theorem H1.set {x y : HV} (h : H1 w g x) {j : Nat} {u : Value} (e : x.ca.setIfInBounds j u = y.ca) : H1 (w.setCell ⟨g, j, none⟩ u) g y := setCell_row w g j _ _ _ u h e
theorem V1.range {x : VV} (h : V1 w g x) : w.rangeAt g 0 x.cs := fun j v hv => by rw [Nat.zero_add, h.c j, VV.ca, List.getElem?_toArray]; exact hv
theorem V1.rangeH {x : VV} (h : V1 w g x) : w.rangeAt g 0 x.h.cs := fun j v hv => by
  have hj : j < 49 := (List.getElem?_eq_some_iff.1 hv).1
  rw [Nat.zero_add, h.c j, VV.ca, List.getElem?_toArray, VV.cs, List.getElem?_append_left (by rw [hv_len]; exact hj)]; exact hv
theorem H1.range {x : HV} (h : H1 w g x) : w.rangeAt g 0 x.cs := fun j v hv => by rw [Nat.zero_add, h.c j, HV.ca, List.getElem?_toArray]; exact hv
theorem V1.vb {x : VV} (h : V1 w g x) : Vb w g [x] := ⟨[], by rw [List.append_nil, vflat, vflat, List.append_nil]; exact h⟩
theorem only_below {B : Nat} {w0 w w' : World} {g : Nat} (h : Below B w0 w) (hg : B ≤ g) (ho : C.Only (· = g) w w') (hB : B ≤ w.heap.size) : Below B w0 w' :=
  h.trans (ho.below B hB fun k (e : k = g) => e ▸ hg)
end
theorem wpL_built {P : Program} {ops : Array Oper} {rest : List Oper} {d : Option Nat} {t tt : TypeId} {l : List (Nat × Operand)} {pos : String} {after : Array Edge} {a : Act} {w : World} {Q : Exit → Act → World → Prop}
    (vs : List (Nat × Value)) (c : Array Value) (hl : (l.map fun p => (p.1, a.eval p.2)) = vs) (hb : P.built t vs = some c) (h : wpList P ops Q rest (a.put d (.agg c)) w) :
    wpList P ops Q ({ dst := d, op := Op.build t l.toArray, type := tt, pos := pos, after := after, guard := none } :: rest) a w :=
  wpList_plain rfl fun _ hK => by
    have e : (l.toArray.map fun (p : Nat × Operand) => (p.1, a.eval p.2)).toList = vs := by simpa using hl
    have hc := run_build w t (l.toArray.map fun (p : Nat × Operand) => (p.1, a.eval p.2)) c (by rw [e]; exact hb)
    unfold Oper.wp execOp
    simp only [Sem.run_bind, hc, Result.andThen_ok]
    exact hK _ _ h
theorem wpL_store1 {ops : Array Oper} {rest : List Oper} {d : Option Nat} {tt : TypeId} {x y : Operand} {pos : String} {after : Array Edge} {a : Act} {w : World} {Q : Exit → Act → World → Prop}
    (g : Nat) (o z : VV) (hx : a.eval x = .pointer (some ⟨g, 0, none⟩)) (hy : a.eval y = z.v) (h : V1 w g o)
    (K : ∀ w', V1 w' g z → C.Only (· = g) w w' → wpList Try.prog ops Q rest (a.put d undef) w') :
    wpList Try.prog ops Q ({ dst := d, op := Op.store 32 x y, type := tt, pos := pos, after := after, guard := none } :: rest) a w :=
  wpList_store_row rfl 32 x y rfl g _ hx hy 32 o.ca h (by rw [s_vcpu]; rfl) (by rw [vca_size]; rfl) (vca_one z) (K _ (heap_setRow _ _ _ _ _ h) ((C.Only.refl (S := (· = g)) w).setRow (g := g) (.inl rfl) _))
theorem wpL_storeH1 {ops : Array Oper} {rest : List Oper} {d : Option Nat} {tt : TypeId} {x y : Operand} {pos : String} {after : Array Edge} {a : Act} {w : World} {Q : Exit → Act → World → Prop}
    (g : Nat) (o z : HV) (hx : a.eval x = .pointer (some ⟨g, 0, none⟩)) (hy : a.eval y = z.v) (h : H1 w g o)
    (K : ∀ w', H1 w' g z → C.Only (· = g) w w' → wpList Try.prog ops Q rest (a.put d undef) w') :
    wpList Try.prog ops Q ({ dst := d, op := Op.store 30 x y, type := tt, pos := pos, after := after, guard := none } :: rest) a w :=
  wpL_storeH g hx z hy o.ca h (ca_size o) (K _ (heap_setRow _ _ _ _ _ h) ((C.Only.refl (S := (· = g)) w).setRow (g := g) (.inl rfl) _))
theorem sto_vh (o : VV) (z : HV) : (o.ca.toList.take 0 ++ z.ca.toList ++ o.ca.toList.drop (0 + z.ca.toList.length)).toArray = ({ o with h := z } : VV).ca := rfl
theorem wpL_storeh1 {ops : Array Oper} {rest : List Oper} {d : Option Nat} {tt : TypeId} {x y : Operand} {pos : String} {after : Array Edge} {a : Act} {w : World} {Q : Exit → Act → World → Prop}
    (g : Nat) (o : VV) (z : HV) (hx : a.eval x = .pointer (some ⟨g, 0, none⟩)) (hy : a.eval y = z.v) (h : V1 w g o)
    (K : ∀ w', V1 w' g { o with h := z } → C.Only (· = g) w w' → wpList Try.prog ops Q rest (a.put d undef) w') :
    wpList Try.prog ops Q ({ dst := d, op := Op.store 30 x y, type := tt, pos := pos, after := after, guard := none } :: rest) a w := by
  refine wpL_store_sub g 0 32 o.ca z.ca ({ o with h := z } : VV).ca hx hy h (sto_vh o z) ?_ (ca_one z) (by rw [s_hart, ca_size]) ?_
  · show 0 + 49 ≤ 52; omega
  · exact K _ (setRow_heap w g _ _ _ _ h) ((C.Only.refl (S := (· = g)) w).setRow (g := g) (.inl rfl) _)
theorem ret_v {fn : Func} {p : Tmp} (hf : fn.results = #[.cell p 32]) {tmps : Array Value} {w : World} (g : Nat) (h : VV) (hp : tmps.getD p undef = .pointer (some ⟨g, 0, none⟩)) (hg : V1 w g h) : (results fn tmps).run Try.prog w = .ok h.v w :=
  results_cell_row hf tmps w g 32 h.ca (0, 0) (.struct (Try.prog.fieldsOf 32)) hp hg u_vcpu rfl (by rw [s_vcpu]; rfl)
theorem w_Write (h : HV) (ok : HOk h) (w : World) : Calls Try.prog 38 #[h.v, .int .i64 (-1), .int .u64 0] w fun e w' => e = .returned (.tuple #[(ordH h).v, .bool false]) ∧ Below w.heap.size w w' := by
  cases hu : (ordH h).user with
  | true => exact mw_user h ok (-1) 0 (by omega) w hu
  | false => exact mw_no h ok (-1) 0 (by omega) w (by omega) (by omega) (by omega) (by omega) (by omega) (by omega) (by omega) (by omega) (by omega) hu
set_option maxHeartbeats 1000000 in
theorem v_inOrder (h : HV) (ok : HOk h) (w : World) : Calls Try.prog 30 #[h.v] w fun e w' => e = .returned (ordH h).v ∧ Below w.heap.size w w' := by
  have OK := hid ok
  have A1 : Hid (H1 ((w.alloc (.cells h.ca 30)).alloc (.cells HV.zero.ca 30)) w.heap.size h) := H1.new1 h _
  have A2 : Hid (H1 ((w.alloc (.cells h.ca 30)).alloc (.cells HV.zero.ca 30)) (w.heap.size + 1) HV.zero) := H1.new2 HV.zero _
  clear ok
  go_enter Try.func30, Try.ntmps30
  go_wp2_with (first
    | ((with_reducible refine wpList_new (z := .agg HV.zero.ca) HV.zero.ca ?_ ?_ ?_); rfl; exact z_hart)
    | ((with_reducible refine wpL_hload (d := some 4) w.heap.size 0 h ?_ ?_ ?_); rfl; exact A1.out.range)
    | (go_at_call 38; refine (w_Write h OK.out _).mono ?_; rintro e w1 ⟨rfl, hb⟩; have B1 := hid (A1.out.below hb); have B2 := hid (A2.out.below hb); have HB := hid ((below2 (w := w) _ _).trans (hb.mono (by simp; omega))); have HS := hid hb.size; clear hb)
    | ((with_reducible refine wpL_storeH1 (x := .tmp 1) (y := .tmp 6) w.heap.size h (ordH h) ?_ ?_ ?_ ?_); rfl; rfl; exact B1.out; intro w2 h2 ho2; have C1 := hid h2; have C2 := hid (B2.out.only ho2 (by omega)); have HB2 := hid (only_below HB.out (Nat.le_refl _) ho2 HB.out.size); clear h2 ho2)
    | ((with_reducible refine wpL_hload (d := some 8) w.heap.size 0 (ordH h) ?_ ?_ ?_); rfl; exact C1.out.range)
    | ((with_reducible refine wpL_storeH1 (x := .tmp 2) (y := .tmp 8) (w.heap.size + 1) HV.zero (ordH h) ?_ ?_ ?_ ?_); rfl; rfl; exact C2.out; intro w3 h3 ho3; have D1 := hid h3; have HB3 := hid (only_below HB2.out (by omega) ho3 HB2.out.size); clear h3 ho3))
  exact bodyPost_ret (ret_row Try.results30 (w.heap.size + 1) (ordH h) rfl D1.out) rfl ⟨rfl, HB3.out⟩
theorem v_bit (b : Bool) (v : Int) (w : World) : Calls Try.prog 31 #[.bool b, .int .u64 v] w fun e w' => e = .returned (.int .u64 (if b then v else 0)) ∧ w' = w := by
  cases b
  all_goals
    go_enter Try.func31, Try.ntmps31
    go_wp2
    go_ret
    exact ⟨rfl, rfl⟩
/-- a virtual hart that begins to run -/
def stdV (pc a0 a1 : Int) : VV := ⟨rstH pc a0 a1, 1, false, 0⟩
theorem built_std (k : HV) : Try.prog.built 32 [(0, k.v), (1, .int .i64 1)] = some (VV.ca ⟨k, 1, false, 0⟩) := by kernel_rfl
set_option maxHeartbeats 1000000 in
theorem v_started (pc a0 a1 : Int) (p : 0 ≤ pc ∧ pc < 18446744073709551616) (p0 : 0 ≤ a0 ∧ a0 < 18446744073709551616) (p1 : 0 ≤ a1 ∧ a1 < 18446744073709551616) (w : World) :
    Calls Try.prog 28 #[.int .u64 pc, .int .u64 a0, .int .u64 a1] w fun e w' => e = .returned (stdV pc a0 a1).v ∧ Below w.heap.size w w' := by
  have A1 : Hid (V1 (w.alloc (.cells VV.zero.ca 32)) w.heap.size VV.zero) := V1.new VV.zero
  go_enter Try.func28, Try.ntmps28
  go_wp2_with (first
    | ((with_reducible refine wpList_new (z := .agg VV.zero.ca) VV.zero.ca ?_ ?_ ?_); rfl; exact z_vcpu)
    | (go_at_call 37; refine (m_Reset pc a0 a1 p p0 p1 _).mono ?_; rintro e w1 ⟨rfl, hb⟩; have B1 := hid (A1.out.below hb); have HB := hid (((Below.refl _ _).alloc (Nat.le_refl _) _).trans (hb.mono (by simp))); clear hb)
    | ((with_reducible refine wpL_built [(0, (rstH pc a0 a1).v), (1, .int .i64 1)] (stdV pc a0 a1).ca ?_ ?_ ?_); rfl; exact built_std _)
    | ((with_reducible refine wpL_store1 (x := .tmp 6) (y := .tmp 11) w.heap.size VV.zero (stdV pc a0 a1) ?_ ?_ ?_ ?_); rfl; rfl; exact B1.out; intro w2 h2 ho2; have C1 := hid h2; have HB2 := hid (only_below HB.out (Nat.le_refl _) ho2 HB.out.size); clear h2 ho2))
  exact bodyPost_ret (ret_v Try.results28 w.heap.size (stdV pc a0 a1) rfl C1.out) rfl ⟨rfl, HB2.out⟩
def ordV (x : VV) : VV := { x with h := ordH x.h }
set_option maxHeartbeats 1000000 in
theorem r_order (x : VV) (ok : HOk x.h) (w : World) : Calls Try.prog 32 #[x.v] w fun e w' => e = .returned (ordV x).v ∧ Below w.heap.size w w' := by
  have OK := hid ok
  have A1 : Hid (V1 ((w.alloc (.cells x.ca 32)).alloc (.cells VV.zero.ca 32)) w.heap.size x) := V1.new1 x _
  have A2 : Hid (V1 ((w.alloc (.cells x.ca 32)).alloc (.cells VV.zero.ca 32)) (w.heap.size + 1) VV.zero) := V1.new2 VV.zero _
  clear ok
  go_enter Try.func32, Try.ntmps32
  go_wp2_with (first
    | ((with_reducible refine wpList_new (z := .agg VV.zero.ca) VV.zero.ca ?_ ?_ ?_); rfl; exact z_vcpu)
    | ((with_reducible refine wpL_hload (d := some 4) w.heap.size 0 x.h ?_ ?_ ?_); rfl; exact A1.out.rangeH)
    | (go_at_call 25; refine (r_Order x.h OK.out _).mono ?_; rintro e w1 ⟨rfl, hb⟩; have B1 := hid (A1.out.below hb); have B2 := hid (A2.out.below hb); have HB := hid ((below2 (w := w) _ _).trans (hb.mono (by simp; omega))); have HS := hid hb.size; clear hb)
    | ((with_reducible refine wpL_storeh1 (x := .tmp 6) (y := .tmp 5) w.heap.size x (ordH x.h) ?_ ?_ ?_ ?_); rfl; rfl; exact B1.out; intro w2 h2 ho2; have C1 : Hid (V1 w2 w.heap.size (ordV x)) := hid h2; have C2 := hid (B2.out.only ho2 (by omega)); have HB2 := hid (only_below HB.out (Nat.le_refl _) ho2 HB.out.size); clear h2 ho2)
    | ((with_reducible refine wpL_vload (d := some 7) w.heap.size 0 (ordV x) ?_ ?_ ?_); rfl; exact C1.out.range)
    | ((with_reducible refine wpL_store1 (x := .tmp 2) (y := .tmp 7) (w.heap.size + 1) VV.zero (ordV x) ?_ ?_ ?_ ?_); rfl; rfl; exact C2.out; intro w3 h3 ho3; have D1 := hid h3; have HB3 := hid (only_below HB2.out (by omega) ho3 HB2.out.size); clear h3 ho3))
  exact bodyPost_ret (ret_v Try.results32 (w.heap.size + 1) (ordV x) rfl D1.out) rfl ⟨rfl, HB3.out⟩
end Go.Proofs.Yteafjobmlfkppaa
namespace Go.Proofs.Yteafjobmlfkppaa
open Go.RowKit
set_option linter.unusedVariables false
set_option maxRecDepth 100000

theorem zca_get (q : Nat) (h : q < 52) : some (VV.zero.ca[q]!) = VV.zero.cs[q]? := by
  have h' : q < VV.zero.ca.size := h
  rw [getElem!_pos VV.zero.ca q h', ← Array.getElem?_eq_getElem h', VV.ca, List.getElem?_toArray]
theorem zeros_v (n : Nat) : madeCells VV.zero.ca (n * 52) = (vflat (List.replicate n VV.zero)).toArray := by
  apply Array.ext'
  apply List.ext_getElem?
  intro m
  rcases Nat.lt_or_ge m (n * 52) with h | h
  · have e := vflat_get (List.replicate n VV.zero) (m / 52) VV.zero (by rw [List.getElem?_replicate, if_pos (by omega)]) (m % 52) (Nat.mod_lt _ (by decide))
    rw [show m / 52 * 52 + m % 52 = m by omega] at e
    rw [show (vflat (List.replicate n VV.zero)).toArray.toList = vflat (List.replicate n VV.zero) from rfl, e, ← zca_get _ (Nat.mod_lt _ (by decide))]
    simp only [madeCells, vca_size, Array.toList_map, Array.toList_range, List.getElem?_map, List.getElem?_range h, Option.map_some]
  · rw [List.getElem?_eq_none (by simpa [madeCells] using h), List.getElem?_eq_none (by simpa [vflat_length] using h)]
theorem run_makeV (w : World) (n : Nat) (hn : n ≤ 64) : (Instr.makeSlice 24 (.int .i64 (n : Int)) (.int .i64 (n : Int))).run Try.prog w = .ok (.slice (some ⟨w.heap.size, 0, none⟩) n n) (w.alloc (.cells (vflat (List.replicate n VV.zero)).toArray 32)) := by
  obtain ⟨i, hi1, hz, hs, hb⟩ := info_parts info_v
  have hr := run_make (P := Try.prog) w 24 32 i _ u_sV hi1 hz .i64 .i64 n n (by omega) (by omega) (by rw [hb]; omega) (by omega)
  rw [hs] at hr
  have hcs : madeCells (Value.agg VV.zero.ca).cells ((n : Int).toNat * 52) = (vflat (List.replicate n VV.zero)).toArray := zeros_v n
  rw [hcs] at hr
  simpa using hr
theorem rst0 : rstH 0 0 0 = HV.zero := by
  have : ∀ r, zx (rs2H 0 0 0).x r = 0 := by
    intro r
    simp only [zx, rs2H, rs1H, pcH, upd, HV.zero]
    split
    · rfl
    · split
      · rfl
      · split <;> rfl
  have e : zx (rs2H 0 0 0).x = fun _ => 0 := funext this
  unfold rstH ordH
  rw [e]
  rfl
theorem set_same {L : List VV} {k : Nat} {x : VV} (h : L[k]? = some x) : L.set k x = L := by
  apply List.ext_getElem?
  intro j
  by_cases q : k = j
  · subst q; rw [List.getElem?_set_self (List.getElem?_eq_some_iff.1 h).1, h]
  · rw [List.getElem?_set_ne q]
/-- a guest's beginning -/
def bgnL (n : Nat) (pc : Int) : List VV := (List.replicate n VV.zero).set 0 (stdV pc 0 0)
theorem bgn_len (n : Nat) (pc : Int) : (bgnL n pc).length = n := by simp [bgnL]
theorem vb_new (w : World) (L : List VV) : Vb (w.alloc (.cells (vflat L).toArray 32)) w.heap.size L := ⟨[], by rw [List.append_nil]; exact heap_alloc_new w _⟩
theorem vb_push {w : World} {B : Nat} {L : List VV} {g cap : Nat} (hg : B ≤ g) (h : Vb w g L) (n : Nat) (hn : L.length = n) : Vs w B (.slice (some ⟨g, 0, none⟩) n cap) L := .inr ⟨g, cap, by rw [hn], hg, h⟩
theorem v_Begin_bad (n pc : Int) (h : n < 1 ∨ 64 < n) (w : World) : Calls Try.prog 12 #[.int .i64 n, .int .u64 pc] w fun e w' => e = .returned (.slice none 0 0) ∧ w' = w := by
  rcases h with h | h
  · go_enter Try.func12, Try.ntmps12
    go_wp2
    go_ret
    exact ⟨rfl, rfl⟩
  · have h1 : ¬ n < 1 := by omega
    go_enter Try.func12, Try.ntmps12
    go_wp2
    go_ret
    exact ⟨rfl, rfl⟩
theorem r_Begin_bad (n pc : Int) (h : n < 1 ∨ 64 < n) (w : World) : Calls Try.prog 13 #[.int .i64 n, .int .u64 pc] w fun e w' => e = .returned (.slice none 0 0) ∧ w' = w := by
  rcases h with h | h
  · go_enter Try.func13, Try.ntmps13
    go_wp2
    go_ret
    exact ⟨rfl, rfl⟩
  · have h1 : ¬ n < 1 := by omega
    go_enter Try.func13, Try.ntmps13
    go_wp2
    go_ret
    exact ⟨rfl, rfl⟩
set_option maxHeartbeats 1000000 in
theorem v_Begin_good (n : Nat) (pc : Int) (h0 : 1 ≤ n) (h1 : n ≤ 64) (p : 0 ≤ pc ∧ pc < 18446744073709551616) (w : World) : Calls Try.prog 12 #[.int .i64 n, .int .u64 pc] w fun e w' => ∃ g, e = .returned (.slice (some ⟨g, 0, none⟩) n n) ∧ Vb w' g (bgnL n pc) ∧ w.heap.size ≤ g ∧ Below w.heap.size w w' := by
  have g1 : ¬ (n : Int) < 1 := by omega
  have g2 : ¬ 64 < (n : Int) := by omega
  have g3 : 0 < n := by omega
  have hmk : ∀ W, (Instr.makeSlice 24 (.int .i64 (n : Int)) (.int .i64 (n : Int))).run Try.prog W = _ := fun W => run_makeV W n h1
  have A1 := hid (vb_new w (List.replicate n VV.zero))
  go_enter Try.func12, Try.ntmps12
  go_wp2_with (first
    | (go_at_call 28; refine (v_started pc 0 0 p (by omega) (by omega) _).mono ?_; rintro e w1 ⟨rfl, hb⟩; have B1 := hid (A1.out.below hb); have HB := hid (((Below.refl w.heap.size w).alloc (Nat.le_refl _) _).trans (hb.mono (by simp))); clear hb)
    | ((with_reducible refine wpL_vstore (x := .tmp 17) (y := .tmp 16) w.heap.size 0 (List.replicate n VV.zero) (stdV pc 0 0) ?_ ?_ ?_ ?_ ?_); rfl; rfl; exact B1.out; simpa using g3; intro w2 h2 ho2; have C1 := hid h2; have HB2 := hid (only_below HB.out (Nat.le_refl _) ho2 HB.out.size); clear h2 ho2))
  go_ret
  exact ⟨w.heap.size, rfl, C1.out, Nat.le_refl _, HB2.out⟩
set_option maxHeartbeats 1000000 in
theorem r_Begin_good (n : Nat) (pc : Int) (h0 : 1 ≤ n) (h1 : n ≤ 64) (p : 0 ≤ pc ∧ pc < 18446744073709551616) (w : World) : Calls Try.prog 13 #[.int .i64 n, .int .u64 pc] w fun e w' => ∃ g, e = .returned (.slice (some ⟨g, 0, none⟩) n n) ∧ Vb w' g (bgnL n pc) ∧ w.heap.size ≤ g ∧ Below w.heap.size w w' := by
  have g1 : ¬ (n : Int) < 1 := by omega
  have g2 : ¬ 64 < (n : Int) := by omega
  have g3 : 0 < n := by omega
  have hmk : ∀ W, (Instr.makeSlice 24 (.int .i64 (n : Int)) (.int .i64 (n : Int))).run Try.prog W = _ := fun W => run_makeV W n h1
  have A1 := hid (vb_new w (List.replicate n VV.zero))
  have AB := hid ((Below.refl w.heap.size w).alloc (Nat.le_refl _) (.cells (vflat (List.replicate n VV.zero)).toArray 32))
  go_enter Try.func13, Try.ntmps13
  go_wp2_with fail
  generalize (w.alloc (.cells (vflat (List.replicate n VV.zero)).toArray 32)) = wa at *
  go_loopw [6] (fun i wr => ∃ (k : Nat), k ≤ n ∧ i = .int .i64 k ∧ Vb wr w.heap.size (List.replicate n VV.zero) ∧ Below w.heap.size w wr) (fun i _ => n - (intOf i).toNat)
  case atStart => exact ⟨0, by omega, rfl, A1.out, AB.out⟩
  case round =>
    clear A1 AB
    obtain ⟨k, hk, rfl, hv, hb⟩ := hrel
    have HV := hid hv
    have HB := hid hb
    clear hv hb
    by_cases hlt : k < n
    · have hx : (List.replicate n VV.zero)[k]? = some VV.zero := by rw [List.getElem?_replicate, if_pos hlt]
      have HX := hid hx
      have zz : ∀ {u : World}, Vb u w.heap.size ((List.replicate n VV.zero).set k { VV.zero with h := rstH 0 0 0 }) → Vb u w.heap.size (List.replicate n VV.zero) := fun {u} h => by
        have e : ({ VV.zero with h := rstH 0 0 0 } : VV) = VV.zero := by rw [rst0]; rfl
        rw [e, set_same hx] at h; exact h
      clear hx
      go_wp2_with (first
        | (go_at_call 29; refine (r_Reset 0 0 0 (by omega) (by omega) (by omega) _).mono ?_; rintro e w1 ⟨rfl, hb⟩; have B1 := hid (HV.out.below hb); have HB1 := hid (HB.out.trans (hb.mono HB.out.size)); clear hb)
        | ((with_reducible refine wpL_hstore w.heap.size k (List.replicate n VV.zero) VV.zero (rstH 0 0 0) ?_ ?_ ?_ ?_ ?_); exact HX.out; rfl; rfl; exact B1.out; intro w2 h2 ho2; have C1 := hid (zz h2); have HB2 := hid (only_below HB1.out (Nat.le_refl _) ho2 HB1.out.size); clear h2 ho2))
      go_roundw
      case rel => exact ⟨k + 1, by omega, by go_num, C1.out, HB2.out⟩
      case measure => simp [intOf]; omega
    · obtain rfl : k = n := by omega
      go_wp2_with (first
        | (go_at_call 29; refine (r_Reset pc 0 0 p (by omega) (by omega) _).mono ?_; rintro e w1 ⟨rfl, hb⟩; have B1 := hid (HV.out.below hb); have HB1 := hid (HB.out.trans (hb.mono HB.out.size)); clear hb)
        | ((with_reducible refine wpL_built [(0, (rstH pc 0 0).v), (1, .int .i64 1)] (stdV pc 0 0).ca ?_ ?_ ?_); rfl; exact built_std _)
        | ((with_reducible refine wpL_vstore w.heap.size 0 (List.replicate k VV.zero) (stdV pc 0 0) ?_ ?_ ?_ ?_ ?_); rfl; rfl; exact B1.out; simpa using g3; intro w2 h2 ho2; have C1 := hid h2; have HB2 := hid (only_below HB1.out (Nat.le_refl _) ho2 HB1.out.size); clear h2 ho2))
      go_ret
      exact ⟨w.heap.size, rfl, C1.out, Nat.le_refl _, HB2.out⟩
set_option maxHeartbeats 1000000 in
theorem v_Same (w : World) (a b : Value) (L M : List VV) (ha : Vr w a L) (hb : Vr w b M) (hl : L.length = M.length) (hq : ∀ (k : Nat) (x y : VV), L[k]? = some x → M[k]? = some y → x.cs = y.cs) (hL : L.length ≤ 9223372036854775807) : Calls Try.prog 11 #[a, b] w fun e w' => e = .returned (.bool true) ∧ C.Still w w' := by
  obtain ⟨ad, ca, rfl, ha⟩ := ha
  obtain ⟨bd, cb, rfl, hb⟩ := hb
  have HA := hid ha
  have HB := hid hb
  have HQ := hid hq
  rw [← hl]
  have HL := hid hl
  clear ha hb hq hl
  go_enter Try.func11, Try.ntmps11
  go_wp2_with fail
  go_loopw [5] (fun i wr => ∃ (k : Nat), k ≤ L.length ∧ i = .int .i64 k ∧ C.Still w wr) (fun i _ => L.length - (intOf i).toNat)
  case atStart => exact ⟨0, by omega, rfl, C.Still.refl w⟩
  case round =>
    obtain ⟨k, hk, rfl, hs⟩ := hrel
    have HS := hid hs
    clear hs
    by_cases hlt : k < L.length
    · obtain ⟨x, hx⟩ : ∃ x, L[k]? = some x := ⟨_, List.getElem?_eq_getElem hlt⟩
      obtain ⟨y, hy⟩ : ∃ y, M[k]? = some y := ⟨_, List.getElem?_eq_getElem (by rw [← HL.out]; exact hlt)⟩
      obtain ⟨g, o, rfl, hg, ra⟩ := HA.out k x hx
      obtain ⟨g', o', rfl, hg', rb⟩ := HB.out k y hy
      have RA : Hid (∀ u, (∃ n, u = wr.drewN n) → u.rangeAt g (o + k * 52) x.cs) := fun u ⟨n, hn⟩ => range_same (by rw [hn]; show wr.heap[g]? = _; rw [HS.out.heap]) ra
      have RB : Hid (∀ u, (∃ n, u = wr.drewN n) → u.rangeAt g' (o' + k * 52) y.cs) := fun u ⟨n, hn⟩ => range_same (by rw [hn]; show wr.heap[g']? = _; rw [HS.out.heap]) rb
      have hq3 : eqV x y = true := eqV_of (HQ.out k x y hx hy)
      clear hx hy ra rb
      go_wp2_with fail
      refine wp_region_quiet_lit (by kernel_rfl) (by kernel_rfl) ?_
      repeat
        first
          | ((with_reducible refine wpQ_vload g (o + k * 52) x ?_ ?_ RA.out ?_); rfl; rfl)
          | ((with_reducible refine wpQ_vload g' (o' + k * 52) y ?_ ?_ RB.out ?_); rfl; rfl)
          | ((with_reducible refine wpQ_neV x y ?_ ?_ ?_ ?_); rfl; rfl; rfl; rw [hq3, Bool.not_true])
          | (refine wpQuiet_step (fun K hK => ?_)
             go_simp
             first
               | (refine hK _ ?_; clear hK K)
               | (refine ⟨_, fun _ => rfl, hK _ ?_⟩; clear hK K))
      refine wpQuiet_nil ?_
      intro _ hw'
      obtain ⟨nq, hw''⟩ := hw'
      subst hw''
      go_wp2_with fail
      go_roundw
      case rel => exact ⟨k + 1, by omega, by go_num, ⟨HS.out.heap, HS.out.os, HS.out.tape, HS.out.output⟩⟩
      case measure => simp [intOf]; omega
    · obtain rfl : k = L.length := by omega
      go_wp2_with fail
      go_ret
      exact ⟨rfl, HS.out⟩
end Go.Proofs.Yteafjobmlfkppaa
namespace Go.Proofs.Yteafjobmlfkppaa
open Go.RowKit
set_option linter.unusedVariables false
set_option maxRecDepth 100000

theorem bgn_0 (n : Nat) (pc : Int) (h : 0 < n) : (bgnL n pc)[0]? = some (stdV pc 0 0) := by unfold bgnL; rw [List.getElem?_set_self (by simpa using h)]
theorem bgn_k (n : Nat) (pc : Int) (k : Nat) (h : k < n) (h0 : 0 < k) : (bgnL n pc)[k]? = some VV.zero := by unfold bgnL; rw [List.getElem?_set_ne (by omega), List.getElem?_replicate, if_pos h]
theorem std_pc (pc a0 a1 : Int) : (stdV pc a0 a1).h.pc = pc / 2 * 2 := rfl
set_option maxHeartbeats 1000000 in
theorem v_awake (w : World) : Calls Try.prog 14 #[] w fun e w' => e = .returned (.bool true) ∧ Below w.heap.size w w' := by
  go_enter Try.func14, Try.ntmps14
  go_upto_region 2 with (first
    | (go_at_call 12; refine (v_Begin_good 2 2147483648 (by omega) (by omega) (by omega) _).mono ?_; rintro e w1 ⟨g, rfl, hv, hg, hb⟩; have HV := hid hv; have HB := hid hb; clear hv hb))
  have c49 : w1.cell? ⟨g, 49, none⟩ = some (.int .i64 1) := HV.out.cell (i := 0) (bgn_0 2 _ (by omega)) 49 (by omega)
  have c32 : w1.cell? ⟨g, 32, none⟩ = some (.int .u64 2147483648) := HV.out.cell (i := 0) (bgn_0 2 _ (by omega)) 32 (by omega)
  have c101 : w1.cell? ⟨g, 101, none⟩ = some (.int .i64 0) := HV.out.cell (i := 1) (bgn_k 2 _ 1 (by omega) (by omega)) 49 (by omega)
  go_wp2_with fail
  go_ret
  exact ⟨rfl, HB.out⟩
theorem w_VcpuBegins (w : World) (n : Int) (h0 : -9223372036854775808 ≤ n) (h1 : n ≤ 9223372036854775807) (pc : Int) (p0 : 0 ≤ pc) (p1 : pc < 18446744073709551616) : Calls Try.prog 3 #[.int .i64 n, .int .u64 pc] w fun e w' => e = .returned (.bool true) ∧ Below w.heap.size w w' := by
  by_cases hn : 1 ≤ n ∧ n ≤ 64
  · obtain ⟨k, rfl⟩ : ∃ k : Nat, n = k := ⟨n.toNat, by omega⟩
    go_enter Try.func3, Try.ntmps3
    go_wp2_with (first
      | (go_at_call 12; refine (v_Begin_good k pc (by omega) (by omega) ⟨p0, p1⟩ _).mono ?_; rintro e w1 ⟨g, rfl, hv, hg, hb⟩; have HV := hid hv; have HB := hid hb; clear hv hb)
      | (go_at_call 13; refine (r_Begin_good k pc (by omega) (by omega) ⟨p0, p1⟩ _).mono ?_; rintro e w2 ⟨g2, rfl, hv, hg2, hb⟩; have HV2 := hid hv; have HV1 := hid (HV.out.below hb); have HB2 := hid (HB.out.trans (hb.mono HB.out.size)); clear hv hb)
      | (go_at_call 11
         have R1 : Vr w2 (.slice (some ⟨g, 0, none⟩) k k) (bgnL k pc) := by have := HV1.out.rd (cap := k); rwa [bgn_len] at this
         have R2 : Vr w2 (.slice (some ⟨g2, 0, none⟩) k k) (bgnL k pc) := by have := HV2.out.rd (cap := k); rwa [bgn_len] at this
         refine (v_Same _ _ _ (bgnL k pc) (bgnL k pc) R1 R2 rfl (fun j x y hx hy => by rw [hx] at hy; cases hy; rfl) (by rw [bgn_len]; omega)).mono ?_; rintro e w3 ⟨rfl, hs⟩; have HB3 := hid (HB2.out.trans (hs.below _)); clear hs R1 R2)
      | (go_at_call 14; refine (v_awake _).mono ?_; rintro e w4 ⟨rfl, hb⟩; have HB4 := hid (HB3.out.trans (hb.mono HB3.out.size)); clear hb))
    go_ret
    exact ⟨rfl, HB4.out⟩
  · have hb : n < 1 ∨ 64 < n := by omega
    go_enter Try.func3, Try.ntmps3
    go_wp2_with (first
      | (go_at_call 12; refine (v_Begin_bad n pc hb _).mono ?_; rintro e w1 ⟨rfl, rfl⟩)
      | (go_at_call 13; refine (r_Begin_bad n pc hb _).mono ?_; rintro e w2 ⟨rfl, rfl⟩)
      | (go_at_call 11
         refine (v_Same _ _ _ [] [] ⟨none, 0, rfl, fun i x hx => by simp at hx⟩ ⟨none, 0, rfl, fun i x hx => by simp at hx⟩ rfl (fun j x y hx hy => by simp at hx) (by simp)).mono ?_; rintro e w3 ⟨rfl, hs⟩; have HB3 := hid (hs.below w2.heap.size); clear hs)
      | (go_at_call 14; refine (v_awake _).mono ?_; rintro e w4 ⟨rfl, hb⟩; have HB4 := hid (HB3.out.trans (hb.mono HB3.out.size)); clear hb))
    go_ret
    exact ⟨rfl, HB4.out⟩
end Go.Proofs.Yteafjobmlfkppaa
