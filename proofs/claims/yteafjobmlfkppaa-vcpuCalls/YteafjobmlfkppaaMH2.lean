/- The program's Write. -/
import Derived.Test.YteafjobmlfkppaaMH1
import Derived.Laws.MakeOwn
import Derived.Laws.CopyOwn
import Derived.Laws.OwnMore
import Derived.Laws.AppendOwnNone
import Derived.Laws.Cover3
import Derived.Test.YteafjobmlfkppaaMC2
import Derived.OpenShut
import Derived.ChangeArms
import Derived.SevenTiedAt
import Derived.SizedLaws
import Derived.Deep.Slices
import Derived.Handy
namespace Go.Proofs.Yteafjobmlfkppaa
open Go.RowKit
set_option linter.unusedVariables false
set_option maxRecDepth 100000

set_option maxHeartbeats 1000000 in
theorem mw_user (h : HV) (ok : HOk h) (csr v : Int) (r : 0 ≤ v ∧ v < 18446744073709551616) (w : World) (hu : (ordH h).user = true) : Calls Try.prog 38 #[h.v, .int .i64 csr, .int .u64 v] w fun e w' => e = .returned (.tuple #[(ordH h).v, .bool false]) ∧ Below w.heap.size w w' := by
  have OK := hid ok
  clear ok
  go_enter Try.func38, Try.ntmps38
  go_upto_region 2 with (first
    | ((with_reducible refine wpList_new (z := .agg HV.zero.ca) HV.zero.ca ?_ ?_ ?_); rfl; exact z_hart)
    | ((with_reducible refine wpL_loadH (x := .tmp 3) w.heap.size ?_ h ?_ ?_); rfl; exact heap2 _ _ _)
    | (go_at_call 41; refine (m_inOrder h OK.out _).mono ?_; rintro e w1 ⟨rfl, hb⟩; have HB1 := hid hb; clear hb)
    | ((with_reducible refine wpL_storeH (x := .tmp 3) (y := .tmp 9) w.heap.size ?_ (ordH h) ?_ h.ca ?_ rfl ?_); rfl; rfl; exact (HB1.out.block _ (by simp; omega)).trans (heap2 _ _ _)))
  have HP : Hid (w1.heap[w.heap.size]? = some (.cells h.ca 30 (0, 0))) := (HB1.out.block _ (by simp; omega)).trans (heap2 _ _ _)
  have HQ : Hid (w1.heap[w.heap.size + 1]? = some (.cells HV.zero.ca 30 (0, 0))) := (HB1.out.block _ (by simp)).trans (heap2' _ _ _)
  have HB0 : Hid (Below w.heap.size w w1) := (below2 _ _).trans (HB1.out.mono (by simp; omega))
  obtain ⟨o, ho⟩ : ∃ o, o = ordH h := ⟨_, rfl⟩
  rw [← ho]
  have OO : Hid (HOk o) := by show HOk o; rw [ho]; exact ordOk OK.out
  rw [← ho] at hu
  have HO := hid ho
  clear ho
  obtain ⟨wa, hwa⟩ : ∃ wa, wa = w1.setRow w.heap.size o.ca := ⟨_, rfl⟩
  have HR : Hid (wa.heap[w.heap.size]? = some (.cells o.ca 30 (0, 0))) := by show _ = _; rw [hwa]; exact heap_setRow _ _ _ _ _ HP.out
  have HZ : Hid (wa.heap[w.heap.size + 1]? = some (.cells HV.zero.ca 30 (0, 0))) := by show _ = _; rw [hwa, setRow_other _ _ _ _ (by omega)]; exact HQ.out
  have HW : Hid (Below w.heap.size w wa) := by show Below _ _ _; rw [hwa]; exact below_setRow HB0.out (Nat.le_refl _) _
  rw [← hwa]
  clear hwa HP HQ HB0 HB1
  have x33 := row_cellH HR.out 33 (v := .bool o.user) (by simp [HV.ca, HV.cs])
  go_wp2_with (first
    | ((with_reducible refine wpL_loadH (x := .tmp 3) w.heap.size ?_ o ?_ ?_); rfl; exact HR.out)
    | ((with_reducible refine wpL_storeH (x := .tmp 6) (y := .tmp 12) (w.heap.size + 1) ?_ o ?_ HV.zero.ca ?_ rfl ?_); rfl; rfl; exact HZ.out))
  refine bodyPost_ret (ret_row2 Try.results38 (w.heap.size + 1) o false rfl rfl (heap_setRow _ _ _ _ _ HZ.out)) rfl ⟨by rw [HO.out], ?_⟩
  exact below_setRow HW.out (by omega) _
set_option maxHeartbeats 1000000 in
theorem mw_no (h : HV) (ok : HOk h) (csr v : Int) (r : 0 ≤ v ∧ v < 18446744073709551616) (w : World) (n1 : csr ≠ 256) (n260 : csr ≠ 260) (n261 : csr ≠ 261) (n320 : csr ≠ 320) (n321 : csr ≠ 321) (n322 : csr ≠ 322) (n323 : csr ≠ 323) (n324 : csr ≠ 324) (n384 : csr ≠ 384) (hu : (ordH h).user = false) : Calls Try.prog 38 #[h.v, .int .i64 csr, .int .u64 v] w fun e w' => e = .returned (.tuple #[(ordH h).v, .bool false]) ∧ Below w.heap.size w w' := by
  have OK := hid ok
  clear ok
  go_enter Try.func38, Try.ntmps38
  go_upto_region 2 with (first
    | ((with_reducible refine wpList_new (z := .agg HV.zero.ca) HV.zero.ca ?_ ?_ ?_); rfl; exact z_hart)
    | ((with_reducible refine wpL_loadH (x := .tmp 3) w.heap.size ?_ h ?_ ?_); rfl; exact heap2 _ _ _)
    | (go_at_call 41; refine (m_inOrder h OK.out _).mono ?_; rintro e w1 ⟨rfl, hb⟩; have HB1 := hid hb; clear hb)
    | ((with_reducible refine wpL_storeH (x := .tmp 3) (y := .tmp 9) w.heap.size ?_ (ordH h) ?_ h.ca ?_ rfl ?_); rfl; rfl; exact (HB1.out.block _ (by simp; omega)).trans (heap2 _ _ _)))
  have HP : Hid (w1.heap[w.heap.size]? = some (.cells h.ca 30 (0, 0))) := (HB1.out.block _ (by simp; omega)).trans (heap2 _ _ _)
  have HQ : Hid (w1.heap[w.heap.size + 1]? = some (.cells HV.zero.ca 30 (0, 0))) := (HB1.out.block _ (by simp)).trans (heap2' _ _ _)
  have HB0 : Hid (Below w.heap.size w w1) := (below2 _ _).trans (HB1.out.mono (by simp; omega))
  obtain ⟨o, ho⟩ : ∃ o, o = ordH h := ⟨_, rfl⟩
  rw [← ho]
  have OO : Hid (HOk o) := by show HOk o; rw [ho]; exact ordOk OK.out
  rw [← ho] at hu
  have HO := hid ho
  clear ho
  obtain ⟨wa, hwa⟩ : ∃ wa, wa = w1.setRow w.heap.size o.ca := ⟨_, rfl⟩
  have HR : Hid (wa.heap[w.heap.size]? = some (.cells o.ca 30 (0, 0))) := by show _ = _; rw [hwa]; exact heap_setRow _ _ _ _ _ HP.out
  have HZ : Hid (wa.heap[w.heap.size + 1]? = some (.cells HV.zero.ca 30 (0, 0))) := by show _ = _; rw [hwa, setRow_other _ _ _ _ (by omega)]; exact HQ.out
  have HW : Hid (Below w.heap.size w wa) := by show Below _ _ _; rw [hwa]; exact below_setRow HB0.out (Nat.le_refl _) _
  rw [← hwa]
  clear hwa HP HQ HB0 HB1
  have x33 := row_cellH HR.out 33 (v := .bool o.user) (by simp [HV.ca, HV.cs])
  go_wp2_with (first
    | ((with_reducible refine wpL_loadH (x := .tmp 3) w.heap.size ?_ o ?_ ?_); rfl; exact HR.out)
    | ((with_reducible refine wpL_storeH (x := .tmp 6) (y := .tmp 14) (w.heap.size + 1) ?_ o ?_ HV.zero.ca ?_ rfl ?_); rfl; rfl; exact HZ.out))
  refine bodyPost_ret (ret_row2 Try.results38 (w.heap.size + 1) o false rfl rfl (heap_setRow _ _ _ _ _ HZ.out)) rfl ⟨by rw [HO.out], ?_⟩
  exact below_setRow HW.out (by omega) _
end Go.Proofs.Yteafjobmlfkppaa
namespace Go.Proofs.Yteafjobmlfkppaa
open Go.RowKit
set_option linter.unusedVariables false
set_option maxRecDepth 100000

def V1 (w : World) (g : Nat) (x : VV) : Prop := w.heap[g]? = some (.cells x.ca 32 (0, 0))
def H1 (w : World) (g : Nat) (h : HV) : Prop := w.heap[g]? = some (.cells h.ca 30 (0, 0))
section
variable {w : World} {g : Nat}
theorem V1.lt {x : VV} (h : V1 w g x) : g < w.heap.size := lt_of_block h
theorem H1.lt {x : HV} (h : H1 w g x) : g < w.heap.size := lt_of_block h
theorem V1.below {w' : World} {x : VV} (h : V1 w g x) (hb : Below w.heap.size w w') : V1 w' g x := (hb.block g h.lt).trans h
theorem H1.below {w' : World} {x : HV} (h : H1 w g x) (hb : Below w.heap.size w w') : H1 w' g x := (hb.block g h.lt).trans h
theorem V1.only {w' : World} {x : VV} (h : V1 w g x) {S : Nat → Prop} (ho : C.Only S w w') (hs : ¬ S g) : V1 w' g x := ho.old h hs
theorem H1.only {w' : World} {x : HV} (h : H1 w g x) {S : Nat → Prop} (ho : C.Only S w w') (hs : ¬ S g) : H1 w' g x := ho.old h hs
theorem V1.new (x : VV) : V1 (w.alloc (.cells x.ca 32)) w.heap.size x := heap_alloc_new w _
theorem V1.new1 (x : VV) (o : Obj) : V1 ((w.alloc (.cells x.ca 32)).alloc o) w.heap.size x := heap2 _ _ _
theorem V1.new2 (x : VV) (o : Obj) : V1 ((w.alloc o).alloc (.cells x.ca 32)) (w.heap.size + 1) x := heap2' _ _ _
theorem H1.new (x : HV) : H1 (w.alloc (.cells x.ca 30)) w.heap.size x := heap_alloc_new w _
theorem H1.new1 (x : HV) (o : Obj) : H1 ((w.alloc (.cells x.ca 30)).alloc o) w.heap.size x := heap2 _ _ _
theorem H1.new2 (x : HV) (o : Obj) : H1 ((w.alloc o).alloc (.cells x.ca 30)) (w.heap.size + 1) x := heap2' _ _ _
theorem V1.c {x : VV} (h : V1 w g x) (j : Nat) : w.cell? ⟨g, j, none⟩ = x.ca[j]? := cell_of_row w g j _ _ _ h
theorem H1.c {x : HV} (h : H1 w g x) (j : Nat) : w.cell? ⟨g, j, none⟩ = x.ca[j]? := cell_of_row w g j _ _ _ h
theorem V1.z {x : VV} (h : V1 w g x) (j : Nat) : w.frozen? ⟨g, j, none⟩ = false := frozen_of_row w g j _ _ h
theorem H1.z {x : HV} (h : H1 w g x) (j : Nat) : w.frozen? ⟨g, j, none⟩ = false := frozen_of_row w g j _ _ h
theorem V1.set {x y : VV} (h : V1 w g x) {j : Nat} {u : Value} (e : x.ca.setIfInBounds j u = y.ca) : V1 (w.setCell ⟨g, j, none⟩ u) g y := setCell_row w g j _ _ _ u h e
theorem H1.set {x y : HV} (h : H1 w g x) {j : Nat} {u : Value} (e : x.ca.setIfInBounds j u = y.ca) : H1 (w.setCell ⟨g, j, none⟩ u) g y := setCell_row w g j _ _ _ u h e
theorem V1.range {x : VV} (h : V1 w g x) : w.rangeAt g 0 x.cs := fun j v hv => by rw [Nat.zero_add, h.c j, VV.ca, List.getElem?_toArray]; exact hv
theorem V1.rangeH {x : VV} (h : V1 w g x) : w.rangeAt g 0 x.h.cs := fun j v hv => by
  have hj : j < 49 := (List.getElem?_eq_some_iff.1 hv).1
  rw [Nat.zero_add, h.c j, VV.ca, List.getElem?_toArray, VV.cs, List.getElem?_append_left (by rw [hv_len]; exact hj)]; exact hv
theorem H1.range {x : HV} (h : H1 w g x) : w.rangeAt g 0 x.cs := fun j v hv => by rw [Nat.zero_add, h.c j, HV.ca, List.getElem?_toArray]; exact hv
theorem V1.vb {x : VV} (h : V1 w g x) : Vb w g [x] := ⟨[], by rw [List.append_nil, vflat, vflat, List.append_nil]; exact h⟩
theorem only_below {B : Nat} {w0 w w' : World} {g : Nat} (h : Below B w0 w) (hg : B ≤ g) (ho : C.Only (· = g) w w') (hB : B ≤ w.heap.size) : Below B w0 w' :=
  h.trans (ho.below B hB fun k (e : k = g) => e ▸ hg)
end
theorem wpL_built {P : Program} {ops : Array Oper} {rest : List Oper} {d : Option Nat} {t tt : TypeId} {l : List (Nat × Operand)} {pos : String} {after : Array Edge} {a : Act} {w : World} {Q : Exit → Act → World → Prop}
    (vs : List (Nat × Value)) (c : Array Value) (hl : (l.map fun p => (p.1, a.eval p.2)) = vs) (hb : P.built t vs = some c) (h : wpList P ops Q rest (a.put d (.agg c)) w) :
    wpList P ops Q ({ dst := d, op := Op.build t l.toArray, type := tt, pos := pos, after := after, guard := none } :: rest) a w :=
  wpList_plain rfl fun _ hK => by
    have e : (l.toArray.map fun (p : Nat × Operand) => (p.1, a.eval p.2)).toList = vs := by simpa using hl
    have hc := run_build w t (l.toArray.map fun (p : Nat × Operand) => (p.1, a.eval p.2)) c (by rw [e]; exact hb)
    unfold Oper.wp execOp
    simp only [Sem.run_bind, hc, Result.andThen_ok]
    exact hK _ _ h
theorem wpL_store1 {ops : Array Oper} {rest : List Oper} {d : Option Nat} {tt : TypeId} {x y : Operand} {pos : String} {after : Array Edge} {a : Act} {w : World} {Q : Exit → Act → World → Prop}
    (g : Nat) (o z : VV) (hx : a.eval x = .pointer (some ⟨g, 0, none⟩)) (hy : a.eval y = z.v) (h : V1 w g o)
    (K : ∀ w', V1 w' g z → C.Only (· = g) w w' → wpList Try.prog ops Q rest (a.put d undef) w') :
    wpList Try.prog ops Q ({ dst := d, op := Op.store 32 x y, type := tt, pos := pos, after := after, guard := none } :: rest) a w :=
  wpList_store_row rfl 32 x y rfl g _ hx hy 32 o.ca h (by rw [s_vcpu]; rfl) (by rw [vca_size]; rfl) (vca_one z) (K _ (heap_setRow _ _ _ _ _ h) ((C.Only.refl (S := (· = g)) w).setRow (g := g) (.inl rfl) _))
theorem wpL_storeH1 {ops : Array Oper} {rest : List Oper} {d : Option Nat} {tt : TypeId} {x y : Operand} {pos : String} {after : Array Edge} {a : Act} {w : World} {Q : Exit → Act → World → Prop}
    (g : Nat) (o z : HV) (hx : a.eval x = .pointer (some ⟨g, 0, none⟩)) (hy : a.eval y = z.v) (h : H1 w g o)
    (K : ∀ w', H1 w' g z → C.Only (· = g) w w' → wpList Try.prog ops Q rest (a.put d undef) w') :
    wpList Try.prog ops Q ({ dst := d, op := Op.store 30 x y, type := tt, pos := pos, after := after, guard := none } :: rest) a w :=
  wpL_storeH g hx z hy o.ca h (ca_size o) (K _ (heap_setRow _ _ _ _ _ h) ((C.Only.refl (S := (· = g)) w).setRow (g := g) (.inl rfl) _))
theorem sto_vh (o : VV) (z : HV) : (o.ca.toList.take 0 ++ z.ca.toList ++ o.ca.toList.drop (0 + z.ca.toList.length)).toArray = ({ o with h := z } : VV).ca := rfl
theorem wpL_storeh1 {ops : Array Oper} {rest : List Oper} {d : Option Nat} {tt : TypeId} {x y : Operand} {pos : String} {after : Array Edge} {a : Act} {w : World} {Q : Exit → Act → World → Prop}
    (g : Nat) (o : VV) (z : HV) (hx : a.eval x = .pointer (some ⟨g, 0, none⟩)) (hy : a.eval y = z.v) (h : V1 w g o)
    (K : ∀ w', V1 w' g { o with h := z } → C.Only (· = g) w w' → wpList Try.prog ops Q rest (a.put d undef) w') :
    wpList Try.prog ops Q ({ dst := d, op := Op.store 30 x y, type := tt, pos := pos, after := after, guard := none } :: rest) a w := by
  refine wpL_store_sub g 0 32 o.ca z.ca ({ o with h := z } : VV).ca hx hy h (sto_vh o z) ?_ (ca_one z) (by rw [s_hart, ca_size]) ?_
  · show 0 + 49 ≤ 52; omega
  · exact K _ (setRow_heap w g _ _ _ _ h) ((C.Only.refl (S := (· = g)) w).setRow (g := g) (.inl rfl) _)
theorem ret_v {fn : Func} {p : Tmp} (hf : fn.results = #[.cell p 32]) {tmps : Array Value} {w : World} (g : Nat) (h : VV) (hp : tmps.getD p undef = .pointer (some ⟨g, 0, none⟩)) (hg : V1 w g h) : (results fn tmps).run Try.prog w = .ok h.v w :=
  results_cell_row hf tmps w g 32 h.ca (0, 0) (.struct (Try.prog.fieldsOf 32)) hp hg u_vcpu rfl (by rw [s_vcpu]; rfl)
theorem w_Write (h : HV) (ok : HOk h) (w : World) : Calls Try.prog 38 #[h.v, .int .i64 (-1), .int .u64 0] w fun e w' => e = .returned (.tuple #[(ordH h).v, .bool false]) ∧ Below w.heap.size w w' := by
  cases hu : (ordH h).user with
  | true => exact mw_user h ok (-1) 0 (by omega) w hu
  | false => exact mw_no h ok (-1) 0 (by omega) w (by omega) (by omega) (by omega) (by omega) (by omega) (by omega) (by omega) (by omega) (by omega) hu
set_option maxHeartbeats 1000000 in
theorem v_inOrder (h : HV) (ok : HOk h) (w : World) : Calls Try.prog 30 #[h.v] w fun e w' => e = .returned (ordH h).v ∧ Below w.heap.size w w' := by
  have OK := hid ok
  have A1 : Hid (H1 ((w.alloc (.cells h.ca 30)).alloc (.cells HV.zero.ca 30)) w.heap.size h) := H1.new1 h _
  have A2 : Hid (H1 ((w.alloc (.cells h.ca 30)).alloc (.cells HV.zero.ca 30)) (w.heap.size + 1) HV.zero) := H1.new2 HV.zero _
  clear ok
  go_enter Try.func30, Try.ntmps30
  go_wp2_with (first
    | ((with_reducible refine wpList_new (z := .agg HV.zero.ca) HV.zero.ca ?_ ?_ ?_); rfl; exact z_hart)
    | ((with_reducible refine wpL_hload (d := some 4) w.heap.size 0 h ?_ ?_ ?_); rfl; exact A1.out.range)
    | (go_at_call 38; refine (w_Write h OK.out _).mono ?_; rintro e w1 ⟨rfl, hb⟩; have B1 := hid (A1.out.below hb); have B2 := hid (A2.out.below hb); have HB := hid ((below2 (w := w) _ _).trans (hb.mono (by simp; omega))); have HS := hid hb.size; clear hb)
    | ((with_reducible refine wpL_storeH1 (x := .tmp 1) (y := .tmp 6) w.heap.size h (ordH h) ?_ ?_ ?_ ?_); rfl; rfl; exact B1.out; intro w2 h2 ho2; have C1 := hid h2; have C2 := hid (B2.out.only ho2 (by omega)); have HB2 := hid (only_below HB.out (Nat.le_refl _) ho2 HB.out.size); clear h2 ho2)
    | ((with_reducible refine wpL_hload (d := some 8) w.heap.size 0 (ordH h) ?_ ?_ ?_); rfl; exact C1.out.range)
    | ((with_reducible refine wpL_storeH1 (x := .tmp 2) (y := .tmp 8) (w.heap.size + 1) HV.zero (ordH h) ?_ ?_ ?_ ?_); rfl; rfl; exact C2.out; intro w3 h3 ho3; have D1 := hid h3; have HB3 := hid (only_below HB2.out (by omega) ho3 HB2.out.size); clear h3 ho3))
  exact bodyPost_ret (ret_row Try.results30 (w.heap.size + 1) (ordH h) rfl D1.out) rfl ⟨rfl, HB3.out⟩
theorem v_bit (b : Bool) (v : Int) (w : World) : Calls Try.prog 31 #[.bool b, .int .u64 v] w fun e w' => e = .returned (.int .u64 (bif b then v else 0)) ∧ w' = w := by
  cases b
  all_goals
    go_enter Try.func31, Try.ntmps31
    go_wp2
    go_ret
    exact ⟨rfl, rfl⟩
/-- a virtual hart that begins to run -/
def stdV (pc a0 a1 : Int) : VV := ⟨rstH pc a0 a1, 1, false, 0⟩
theorem built_std (k : HV) : Try.prog.built 32 [(0, k.v), (1, .int .i64 1)] = some (VV.ca ⟨k, 1, false, 0⟩) := by kernel_rfl
set_option maxHeartbeats 1000000 in
theorem v_started (pc a0 a1 : Int) (p : 0 ≤ pc ∧ pc < 18446744073709551616) (p0 : 0 ≤ a0 ∧ a0 < 18446744073709551616) (p1 : 0 ≤ a1 ∧ a1 < 18446744073709551616) (w : World) :
    Calls Try.prog 28 #[.int .u64 pc, .int .u64 a0, .int .u64 a1] w fun e w' => e = .returned (stdV pc a0 a1).v ∧ Below w.heap.size w w' := by
  have A1 : Hid (V1 (w.alloc (.cells VV.zero.ca 32)) w.heap.size VV.zero) := V1.new VV.zero
  go_enter Try.func28, Try.ntmps28
  go_wp2_with (first
    | ((with_reducible refine wpList_new (z := .agg VV.zero.ca) VV.zero.ca ?_ ?_ ?_); rfl; exact z_vcpu)
    | (go_at_call 37; refine (m_Reset pc a0 a1 p p0 p1 _).mono ?_; rintro e w1 ⟨rfl, hb⟩; have B1 := hid (A1.out.below hb); have HB := hid (((Below.refl _ _).alloc (Nat.le_refl _) _).trans (hb.mono (by simp))); clear hb)
    | ((with_reducible refine wpL_built [(0, (rstH pc a0 a1).v), (1, .int .i64 1)] (stdV pc a0 a1).ca ?_ ?_ ?_); rfl; exact built_std _)
    | ((with_reducible refine wpL_store1 (x := .tmp 6) (y := .tmp 11) w.heap.size VV.zero (stdV pc a0 a1) ?_ ?_ ?_ ?_); rfl; rfl; exact B1.out; intro w2 h2 ho2; have C1 := hid h2; have HB2 := hid (only_below HB.out (Nat.le_refl _) ho2 HB.out.size); clear h2 ho2))
  exact bodyPost_ret (ret_v Try.results28 w.heap.size (stdV pc a0 a1) rfl C1.out) rfl ⟨rfl, HB2.out⟩
def ordV (x : VV) : VV := { x with h := ordH x.h }
set_option maxHeartbeats 1000000 in
theorem r_order (x : VV) (ok : HOk x.h) (w : World) : Calls Try.prog 32 #[x.v] w fun e w' => e = .returned (ordV x).v ∧ Below w.heap.size w w' := by
  have OK := hid ok
  have A1 : Hid (V1 ((w.alloc (.cells x.ca 32)).alloc (.cells VV.zero.ca 32)) w.heap.size x) := V1.new1 x _
  have A2 : Hid (V1 ((w.alloc (.cells x.ca 32)).alloc (.cells VV.zero.ca 32)) (w.heap.size + 1) VV.zero) := V1.new2 VV.zero _
  clear ok
  go_enter Try.func32, Try.ntmps32
  go_wp2_with (first
    | ((with_reducible refine wpList_new (z := .agg VV.zero.ca) VV.zero.ca ?_ ?_ ?_); rfl; exact z_vcpu)
    | ((with_reducible refine wpL_hload (d := some 4) w.heap.size 0 x.h ?_ ?_ ?_); rfl; exact A1.out.rangeH)
    | (go_at_call 25; refine (r_Order x.h OK.out _).mono ?_; rintro e w1 ⟨rfl, hb⟩; have B1 := hid (A1.out.below hb); have B2 := hid (A2.out.below hb); have HB := hid ((below2 (w := w) _ _).trans (hb.mono (by simp; omega))); have HS := hid hb.size; clear hb)
    | ((with_reducible refine wpL_storeh1 (x := .tmp 6) (y := .tmp 5) w.heap.size x (ordH x.h) ?_ ?_ ?_ ?_); rfl; rfl; exact B1.out; intro w2 h2 ho2; have C1 : Hid (V1 w2 w.heap.size (ordV x)) := hid h2; have C2 := hid (B2.out.only ho2 (by omega)); have HB2 := hid (only_below HB.out (Nat.le_refl _) ho2 HB.out.size); clear h2 ho2)
    | ((with_reducible refine wpL_vload (d := some 7) w.heap.size 0 (ordV x) ?_ ?_ ?_); rfl; exact C1.out.range)
    | ((with_reducible refine wpL_store1 (x := .tmp 2) (y := .tmp 7) (w.heap.size + 1) VV.zero (ordV x) ?_ ?_ ?_ ?_); rfl; rfl; exact C2.out; intro w3 h3 ho3; have D1 := hid h3; have HB3 := hid (only_below HB2.out (by omega) ho3 HB2.out.size); clear h3 ho3))
  exact bodyPost_ret (ret_v Try.results32 (w.heap.size + 1) (ordV x) rfl D1.out) rfl ⟨rfl, HB3.out⟩
end Go.Proofs.Yteafjobmlfkppaa
namespace Go.Proofs.Yteafjobmlfkppaa
open Go.RowKit
set_option linter.unusedVariables false
set_option maxRecDepth 100000

theorem zca_get (q : Nat) (h : q < 52) : some (VV.zero.ca[q]!) = VV.zero.cs[q]? := by
  have h' : q < VV.zero.ca.size := h
  rw [getElem!_pos VV.zero.ca q h', ← Array.getElem?_eq_getElem h', VV.ca, List.getElem?_toArray]
theorem zeros_v (n : Nat) : madeCells VV.zero.ca (n * 52) = (vflat (List.replicate n VV.zero)).toArray := by
  apply Array.ext'
  apply List.ext_getElem?
  intro m
  rcases Nat.lt_or_ge m (n * 52) with h | h
  · have e := vflat_get (List.replicate n VV.zero) (m / 52) VV.zero (by rw [List.getElem?_replicate, if_pos (by omega)]) (m % 52) (Nat.mod_lt _ (by decide))
    rw [show m / 52 * 52 + m % 52 = m by omega] at e
    rw [show (vflat (List.replicate n VV.zero)).toArray.toList = vflat (List.replicate n VV.zero) from rfl, e, ← zca_get _ (Nat.mod_lt _ (by decide))]
    simp only [madeCells, vca_size, Array.toList_map, Array.toList_range, List.getElem?_map, List.getElem?_range h, Option.map_some]
  · rw [List.getElem?_eq_none (by simpa [madeCells] using h), List.getElem?_eq_none (by simpa [vflat_length] using h)]
theorem run_makeV (w : World) (n : Nat) (hn : n ≤ 64) : (Instr.makeSlice 24 (.int .i64 (n : Int)) (.int .i64 (n : Int))).run Try.prog w = .ok (.slice (some ⟨w.heap.size, 0, none⟩) n n) (w.alloc (.cells (vflat (List.replicate n VV.zero)).toArray 32)) := by
  obtain ⟨i, hi1, hz, hs, hb⟩ := info_parts info_v
  have hr := run_make (P := Try.prog) w 24 32 i _ u_sV hi1 hz .i64 .i64 n n (by omega) (by omega) (by rw [hb]; omega) (by omega)
  rw [hs] at hr
  have hcs : madeCells (Value.agg VV.zero.ca).cells ((n : Int).toNat * 52) = (vflat (List.replicate n VV.zero)).toArray := zeros_v n
  rw [hcs] at hr
  simpa using hr
theorem rst0 : rstH 0 0 0 = HV.zero := by
  have : ∀ r, zx (rs2H 0 0 0).x r = 0 := by
    intro r
    simp only [zx, rs2H, rs1H, pcH, upd, HV.zero]
    split
    · rfl
    · split
      · rfl
      · split <;> rfl
  have e : zx (rs2H 0 0 0).x = fun _ => 0 := funext this
  unfold rstH ordH
  rw [e]
  rfl
theorem set_same {L : List VV} {k : Nat} {x : VV} (h : L[k]? = some x) : L.set k x = L := by
  apply List.ext_getElem?
  intro j
  by_cases q : k = j
  · subst q; rw [List.getElem?_set_self (List.getElem?_eq_some_iff.1 h).1, h]
  · rw [List.getElem?_set_ne q]
/-- a guest's beginning -/
def bgnL (n : Nat) (pc : Int) : List VV := (List.replicate n VV.zero).set 0 (stdV pc 0 0)
theorem bgn_len (n : Nat) (pc : Int) : (bgnL n pc).length = n := by simp [bgnL]
theorem vb_new (w : World) (L : List VV) : Vb (w.alloc (.cells (vflat L).toArray 32)) w.heap.size L := ⟨[], by rw [List.append_nil]; exact heap_alloc_new w _⟩
theorem vb_push {w : World} {B : Nat} {L : List VV} {g cap : Nat} (hg : B ≤ g) (h : Vb w g L) (n : Nat) (hn : L.length = n) : Vs w B (.slice (some ⟨g, 0, none⟩) n cap) L := .inr ⟨g, cap, by rw [hn], hg, h⟩
theorem v_Begin_bad (n pc : Int) (h : n < 1 ∨ 64 < n) (w : World) : Calls Try.prog 12 #[.int .i64 n, .int .u64 pc] w fun e w' => e = .returned (.slice none 0 0) ∧ w' = w := by
  rcases h with h | h
  · go_enter Try.func12, Try.ntmps12
    go_wp2
    go_ret
    exact ⟨rfl, rfl⟩
  · have h1 : ¬ n < 1 := by omega
    go_enter Try.func12, Try.ntmps12
    go_wp2
    go_ret
    exact ⟨rfl, rfl⟩
theorem r_Begin_bad (n pc : Int) (h : n < 1 ∨ 64 < n) (w : World) : Calls Try.prog 13 #[.int .i64 n, .int .u64 pc] w fun e w' => e = .returned (.slice none 0 0) ∧ w' = w := by
  rcases h with h | h
  · go_enter Try.func13, Try.ntmps13
    go_wp2
    go_ret
    exact ⟨rfl, rfl⟩
  · have h1 : ¬ n < 1 := by omega
    go_enter Try.func13, Try.ntmps13
    go_wp2
    go_ret
    exact ⟨rfl, rfl⟩
set_option maxHeartbeats 1000000 in
theorem v_Begin_good (n : Nat) (pc : Int) (h0 : 1 ≤ n) (h1 : n ≤ 64) (p : 0 ≤ pc ∧ pc < 18446744073709551616) (w : World) : Calls Try.prog 12 #[.int .i64 n, .int .u64 pc] w fun e w' => ∃ g, e = .returned (.slice (some ⟨g, 0, none⟩) n n) ∧ Vb w' g (bgnL n pc) ∧ w.heap.size ≤ g ∧ Below w.heap.size w w' := by
  have g1 : ¬ (n : Int) < 1 := by omega
  have g2 : ¬ 64 < (n : Int) := by omega
  have g3 : 0 < n := by omega
  have hmk : ∀ W, (Instr.makeSlice 24 (.int .i64 (n : Int)) (.int .i64 (n : Int))).run Try.prog W = _ := fun W => run_makeV W n h1
  have A1 := hid (vb_new w (List.replicate n VV.zero))
  go_enter Try.func12, Try.ntmps12
  go_wp2_with (first
    | (go_at_call 28; refine (v_started pc 0 0 p (by omega) (by omega) _).mono ?_; rintro e w1 ⟨rfl, hb⟩; have B1 := hid (A1.out.below hb); have HB := hid (((Below.refl w.heap.size w).alloc (Nat.le_refl _) _).trans (hb.mono (by simp))); clear hb)
    | ((with_reducible refine wpL_vstore (x := .tmp 17) (y := .tmp 16) w.heap.size 0 (List.replicate n VV.zero) (stdV pc 0 0) ?_ ?_ ?_ ?_ ?_); rfl; rfl; exact B1.out; simpa using g3; intro w2 h2 ho2; have C1 := hid h2; have HB2 := hid (only_below HB.out (Nat.le_refl _) ho2 HB.out.size); clear h2 ho2))
  go_ret
  exact ⟨w.heap.size, rfl, C1.out, Nat.le_refl _, HB2.out⟩
set_option maxHeartbeats 1000000 in
theorem r_Begin_good (n : Nat) (pc : Int) (h0 : 1 ≤ n) (h1 : n ≤ 64) (p : 0 ≤ pc ∧ pc < 18446744073709551616) (w : World) : Calls Try.prog 13 #[.int .i64 n, .int .u64 pc] w fun e w' => ∃ g, e = .returned (.slice (some ⟨g, 0, none⟩) n n) ∧ Vb w' g (bgnL n pc) ∧ w.heap.size ≤ g ∧ Below w.heap.size w w' := by
  have g1 : ¬ (n : Int) < 1 := by omega
  have g2 : ¬ 64 < (n : Int) := by omega
  have g3 : 0 < n := by omega
  have hmk : ∀ W, (Instr.makeSlice 24 (.int .i64 (n : Int)) (.int .i64 (n : Int))).run Try.prog W = _ := fun W => run_makeV W n h1
  have A1 := hid (vb_new w (List.replicate n VV.zero))
  have AB := hid ((Below.refl w.heap.size w).alloc (Nat.le_refl _) (.cells (vflat (List.replicate n VV.zero)).toArray 32))
  go_enter Try.func13, Try.ntmps13
  go_wp2_with fail
  generalize (w.alloc (.cells (vflat (List.replicate n VV.zero)).toArray 32)) = wa at *
  go_loopw [6] (fun i wr => ∃ (k : Nat), k ≤ n ∧ i = .int .i64 k ∧ Vb wr w.heap.size (List.replicate n VV.zero) ∧ Below w.heap.size w wr) (fun i _ => n - (intOf i).toNat)
  case atStart => exact ⟨0, by omega, rfl, A1.out, AB.out⟩
  case round =>
    clear A1 AB
    obtain ⟨k, hk, rfl, hv, hb⟩ := hrel
    have HV := hid hv
    have HB := hid hb
    clear hv hb
    by_cases hlt : k < n
    · have hx : (List.replicate n VV.zero)[k]? = some VV.zero := by rw [List.getElem?_replicate, if_pos hlt]
      have HX := hid hx
      have zz : ∀ {u : World}, Vb u w.heap.size ((List.replicate n VV.zero).set k { VV.zero with h := rstH 0 0 0 }) → Vb u w.heap.size (List.replicate n VV.zero) := fun {u} h => by
        have e : ({ VV.zero with h := rstH 0 0 0 } : VV) = VV.zero := by rw [rst0]; rfl
        rw [e, set_same hx] at h; exact h
      clear hx
      go_wp2_with (first
        | (go_at_call 29; refine (r_Reset 0 0 0 (by omega) (by omega) (by omega) _).mono ?_; rintro e w1 ⟨rfl, hb⟩; have B1 := hid (HV.out.below hb); have HB1 := hid (HB.out.trans (hb.mono HB.out.size)); clear hb)
        | ((with_reducible refine wpL_hstore w.heap.size k (List.replicate n VV.zero) VV.zero (rstH 0 0 0) ?_ ?_ ?_ ?_ ?_); exact HX.out; rfl; rfl; exact B1.out; intro w2 h2 ho2; have C1 := hid (zz h2); have HB2 := hid (only_below HB1.out (Nat.le_refl _) ho2 HB1.out.size); clear h2 ho2))
      go_roundw
      case rel => exact ⟨k + 1, by omega, by go_num, C1.out, HB2.out⟩
      case measure => simp [intOf]; omega
    · obtain rfl : k = n := by omega
      go_wp2_with (first
        | (go_at_call 29; refine (r_Reset pc 0 0 p (by omega) (by omega) _).mono ?_; rintro e w1 ⟨rfl, hb⟩; have B1 := hid (HV.out.below hb); have HB1 := hid (HB.out.trans (hb.mono HB.out.size)); clear hb)
        | ((with_reducible refine wpL_built [(0, (rstH pc 0 0).v), (1, .int .i64 1)] (stdV pc 0 0).ca ?_ ?_ ?_); rfl; exact built_std _)
        | ((with_reducible refine wpL_vstore w.heap.size 0 (List.replicate k VV.zero) (stdV pc 0 0) ?_ ?_ ?_ ?_ ?_); rfl; rfl; exact B1.out; simpa using g3; intro w2 h2 ho2; have C1 := hid h2; have HB2 := hid (only_below HB1.out (Nat.le_refl _) ho2 HB1.out.size); clear h2 ho2))
      go_ret
      exact ⟨w.heap.size, rfl, C1.out, Nat.le_refl _, HB2.out⟩
set_option maxHeartbeats 1000000 in
theorem v_Same (w : World) (a b : Value) (L M : List VV) (ha : Vr w a L) (hb : Vr w b M) (hl : L.length = M.length) (hq : ∀ (k : Nat) (x y : VV), L[k]? = some x → M[k]? = some y → x.cs = y.cs) (hL : L.length ≤ 9223372036854775807) : Calls Try.prog 11 #[a, b] w fun e w' => e = .returned (.bool true) ∧ C.Still w w' := by
  obtain ⟨ad, ca, e1, ha'⟩ := ha.len
  obtain ⟨bd, cb, e2, hb'⟩ := hb.len
  subst e1 e2
  have HA := hid ha'
  have HB := hid hb'
  have HQ := hid hq
  rw [← hl]
  have HL := hid hl
  clear ha hb ha' hb' hq hl
  go_enter Try.func11, Try.ntmps11
  go_wp2_with fail
  go_loopw [5] (fun i wr => ∃ (k : Nat), k ≤ L.length ∧ i = .int .i64 k ∧ C.Still w wr) (fun i _ => L.length - (intOf i).toNat)
  case atStart => exact ⟨0, by omega, rfl, C.Still.refl w⟩
  case round =>
    obtain ⟨k, hk, rfl, hs⟩ := hrel
    have HS := hid hs
    clear hs
    by_cases hlt : k < L.length
    · obtain ⟨x, hx⟩ : ∃ x, L[k]? = some x := ⟨_, List.getElem?_eq_getElem hlt⟩
      obtain ⟨y, hy⟩ : ∃ y, M[k]? = some y := ⟨_, List.getElem?_eq_getElem (by rw [← HL.out]; exact hlt)⟩
      obtain ⟨g, o, rfl, hg, ra⟩ := HA.out k x hx
      obtain ⟨g', o', rfl, hg', rb⟩ := HB.out k y hy
      have RA : Hid (∀ u, (∃ n, u = wr.drewN n) → u.rangeAt g (o + k * 52) x.cs) := fun u ⟨n, hn⟩ => range_same (by rw [hn]; show wr.heap[g]? = _; rw [HS.out.heap]) ra
      have RB : Hid (∀ u, (∃ n, u = wr.drewN n) → u.rangeAt g' (o' + k * 52) y.cs) := fun u ⟨n, hn⟩ => range_same (by rw [hn]; show wr.heap[g']? = _; rw [HS.out.heap]) rb
      have hq3 : eqV x y = true := eqV_of (HQ.out k x y hx hy)
      clear hx hy ra rb
      go_wp2_with fail
      refine wp_region_quiet_lit (by kernel_rfl) (by kernel_rfl) ?_
      repeat
        first
          | ((with_reducible refine wpQ_vload g (o + k * 52) x ?_ ?_ RA.out ?_); rfl; rfl)
          | ((with_reducible refine wpQ_vload g' (o' + k * 52) y ?_ ?_ RB.out ?_); rfl; rfl)
          | ((with_reducible refine wpQ_neV x y ?_ ?_ ?_ ?_); rfl; rfl; rfl; rw [hq3, Bool.not_true])
          | (refine wpQuiet_step (fun K hK => ?_)
             go_simp
             first
               | (refine hK _ ?_; clear hK K)
               | (refine ⟨_, fun _ => rfl, hK _ ?_⟩; clear hK K))
      refine wpQuiet_nil ?_
      intro _ hw'
      obtain ⟨nq, hw''⟩ := hw'
      subst hw''
      go_wp2_with fail
      go_roundw
      case rel => exact ⟨k + 1, by omega, by go_num, ⟨HS.out.heap, HS.out.os, HS.out.tape, HS.out.output⟩⟩
      case measure => simp [intOf]; omega
    · obtain rfl : k = L.length := by omega
      go_wp2_with fail
      go_ret
      exact ⟨rfl, HS.out⟩
end Go.Proofs.Yteafjobmlfkppaa
namespace Go.Proofs.Yteafjobmlfkppaa
open Go.RowKit
set_option linter.unusedVariables false
set_option maxRecDepth 100000

theorem bgn_0 (n : Nat) (pc : Int) (h : 0 < n) : (bgnL n pc)[0]? = some (stdV pc 0 0) := by unfold bgnL; rw [List.getElem?_set_self (by simpa using h)]
theorem bgn_k (n : Nat) (pc : Int) (k : Nat) (h : k < n) (h0 : 0 < k) : (bgnL n pc)[k]? = some VV.zero := by unfold bgnL; rw [List.getElem?_set_ne (by omega), List.getElem?_replicate, if_pos h]
theorem std_pc (pc a0 a1 : Int) : (stdV pc a0 a1).h.pc = pc / 2 * 2 := rfl
set_option maxHeartbeats 1000000 in
theorem v_awake (w : World) : Calls Try.prog 14 #[] w fun e w' => e = .returned (.bool true) ∧ Below w.heap.size w w' := by
  go_enter Try.func14, Try.ntmps14
  go_upto_region 2 with (first
    | (go_at_call 12; refine (v_Begin_good 2 2147483648 (by omega) (by omega) (by omega) _).mono ?_; rintro e w1 ⟨g, rfl, hv, hg, hb⟩; have HV := hid hv; have HB := hid hb; clear hv hb))
  have c49 : w1.cell? ⟨g, 49, none⟩ = some (.int .i64 1) := HV.out.cell (i := 0) (bgn_0 2 _ (by omega)) 49 (by omega)
  have c32 : w1.cell? ⟨g, 32, none⟩ = some (.int .u64 2147483648) := HV.out.cell (i := 0) (bgn_0 2 _ (by omega)) 32 (by omega)
  have c101 : w1.cell? ⟨g, 101, none⟩ = some (.int .i64 0) := HV.out.cell (i := 1) (bgn_k 2 _ 1 (by omega) (by omega)) 49 (by omega)
  go_wp2_with fail
  go_ret
  exact ⟨rfl, HB.out⟩
theorem w_VcpuBegins (w : World) (n : Int) (h0 : -9223372036854775808 ≤ n) (h1 : n ≤ 9223372036854775807) (pc : Int) (p0 : 0 ≤ pc) (p1 : pc < 18446744073709551616) : Calls Try.prog 3 #[.int .i64 n, .int .u64 pc] w fun e w' => e = .returned (.bool true) ∧ Below w.heap.size w w' := by
  by_cases hn : 1 ≤ n ∧ n ≤ 64
  · obtain ⟨k, rfl⟩ : ∃ k : Nat, n = k := ⟨n.toNat, by omega⟩
    go_enter Try.func3, Try.ntmps3
    go_wp2_with (first
      | (go_at_call 12; refine (v_Begin_good k pc (by omega) (by omega) ⟨p0, p1⟩ _).mono ?_; rintro e w1 ⟨g, rfl, hv, hg, hb⟩; have HV := hid hv; have HB := hid hb; clear hv hb)
      | (go_at_call 13; refine (r_Begin_good k pc (by omega) (by omega) ⟨p0, p1⟩ _).mono ?_; rintro e w2 ⟨g2, rfl, hv, hg2, hb⟩; have HV2 := hid hv; have HV1 := hid (HV.out.below hb); have HB2 := hid (HB.out.trans (hb.mono HB.out.size)); clear hv hb)
      | (go_at_call 11
         have R1 : Vr w2 (.slice (some ⟨g, 0, none⟩) k k) (bgnL k pc) := by have := HV1.out.rd (cap := k); rwa [bgn_len] at this
         have R2 : Vr w2 (.slice (some ⟨g2, 0, none⟩) k k) (bgnL k pc) := by have := HV2.out.rd (cap := k); rwa [bgn_len] at this
         refine (v_Same _ _ _ (bgnL k pc) (bgnL k pc) R1 R2 rfl (fun j x y hx hy => by rw [hx] at hy; cases hy; rfl) (by rw [bgn_len]; omega)).mono ?_; rintro e w3 ⟨rfl, hs⟩; have HB3 := hid (HB2.out.trans (hs.below _)); clear hs R1 R2)
      | (go_at_call 14; refine (v_awake _).mono ?_; rintro e w4 ⟨rfl, hb⟩; have HB4 := hid (HB3.out.trans (hb.mono HB3.out.size)); clear hb))
    go_ret
    exact ⟨rfl, HB4.out⟩
  · have hb : n < 1 ∨ 64 < n := by omega
    go_enter Try.func3, Try.ntmps3
    go_wp2_with (first
      | (go_at_call 12; refine (v_Begin_bad n pc hb _).mono ?_; rintro e w1 ⟨rfl, rfl⟩)
      | (go_at_call 13; refine (r_Begin_bad n pc hb _).mono ?_; rintro e w2 ⟨rfl, rfl⟩)
      | (go_at_call 11
         refine (v_Same _ _ _ [] [] (.inl ⟨rfl, rfl⟩) (.inl ⟨rfl, rfl⟩) rfl (fun j x y hx hy => by simp at hx) (by simp)).mono ?_; rintro e w3 ⟨rfl, hs⟩; have HB3 := hid (hs.below w2.heap.size); clear hs)
      | (go_at_call 14; refine (v_awake _).mono ?_; rintro e w4 ⟨rfl, hb⟩; have HB4 := hid (HB3.out.trans (hb.mono HB3.out.size)); clear hb))
    go_ret
    exact ⟨rfl, HB4.out⟩
end Go.Proofs.Yteafjobmlfkppaa
namespace Go.Proofs.Yteafjobmlfkppaa
open Go.RowKit
set_option linter.unusedVariables false
set_option maxRecDepth 100000

/-- the types of one cell that are turned -/
def oneTy (ty : TypeId) : Prop := ty = 22 ∨ ty = 3 ∨ ty = 4
def plainV (u : Value) : Prop := (∃ k n, u = .int k n) ∨ ∃ b, u = .bool b
theorem sv_one {ty : TypeId} (ht : oneTy ty) {w : World} {p : Addr} {u o : Value} (hu : plainV u) (hz : w.frozen? p = false) (hc : w.cell? p = some o) : (storeVar ty p u).run Try.prog w = .ok () (w.setCell p u) := by
  have hi : (Try.prog.info? ty).map (·.size) = some 1 := by
    rcases ht with rfl | rfl | rfl <;> kernel_rfl
  cases hq : Try.prog.info? ty with
  | none => rw [hq] at hi; cases hi
  | some i =>
    have hs : i.size = 1 := by rw [hq] at hi; simpa using hi
    rcases hu with ⟨k, n, rfl⟩ | ⟨b, rfl⟩ <;> simp [storeVar, sizeOf, typeInfo, hq, hs, Value.cells, storeCells, hz, hc, go_sem, Addr.add]
theorem wpL_cstore {ops : Array Oper} {rest : List Oper} {d : Option Nat} {ty tt : TypeId} {x y : Operand} {pos : String} {after : Array Edge} {a : Act} {w : World} {Q : Exit → Act → World → Prop}
    (p : Addr) (u o : Value) (ht : oneTy ty) (hu : plainV u) (hx : a.eval x = .pointer (some p)) (hy : a.eval y = u) (hz : w.frozen? p = false) (hc : w.cell? p = some o)
    (h : wpList Try.prog ops Q rest (a.put d undef) (w.setCell p u)) :
    wpList Try.prog ops Q ({ dst := d, op := Op.store ty x y, type := tt, pos := pos, after := after, guard := none } :: rest) a w :=
  wpList_plain rfl fun _ hK => by
    unfold Oper.wp execOp
    simp only [hx, hy, Instr.storeAt, Instr.sureAddr, Sem.run_bind, Sem.run_pure, Result.andThen_ok, sv_one ht hu hz hc]
    exact hK _ _ h
theorem vv_some (x : VV) (j : Nat) (h : j < 52) : ∃ o, x.cs[j]? = some o := ⟨_, List.getElem?_eq_getElem (by rw [vv_len]; exact h)⟩
theorem wpL_vcell {ops : Array Oper} {rest : List Oper} {d : Option Nat} {ty tt : TypeId} {x y : Operand} {pos : String} {after : Array Edge} {a : Act} {w : World} {Q : Exit → Act → World → Prop}
    (g k j : Nat) (L : List VV) (z z' : VV) (u : Value) (ht : oneTy ty) (hu : plainV u) (hk : L[k]? = some z) (hj : j < 52) (he : z.cs.set j u = z'.cs) (hx : a.eval x = .pointer (some ⟨g, k * 52 + j, none⟩)) (hy : a.eval y = u) (hv : Vb w g L)
    (K : ∀ w', Vb w' g (L.set k z') → C.Only (· = g) w w' → wpList Try.prog ops Q rest (a.put d undef) w') :
    wpList Try.prog ops Q ({ dst := d, op := Op.store ty x y, type := tt, pos := pos, after := after, guard := none } :: rest) a w := by
  obtain ⟨o, ho⟩ := vv_some z j hj
  exact wpL_cstore _ u o ht hu hx hy (hv.z _) ((hv.cell hk j hj).trans ho) (K _ (hv.set hk hj he) (only_cell u))
theorem wpL_1cell {ops : Array Oper} {rest : List Oper} {d : Option Nat} {ty tt : TypeId} {x y : Operand} {pos : String} {after : Array Edge} {a : Act} {w : World} {Q : Exit → Act → World → Prop}
    (g j : Nat) (z z' : VV) (u : Value) (ht : oneTy ty) (hu : plainV u) (hj : j < 52) (he : z.ca.setIfInBounds j u = z'.ca) (hx : a.eval x = .pointer (some ⟨g, j, none⟩)) (hy : a.eval y = u) (hv : V1 w g z)
    (K : ∀ w', V1 w' g z' → C.Only (· = g) w w' → wpList Try.prog ops Q rest (a.put d undef) w') :
    wpList Try.prog ops Q ({ dst := d, op := Op.store ty x y, type := tt, pos := pos, after := after, guard := none } :: rest) a w := by
  obtain ⟨o, ho⟩ := vv_some z j hj
  exact wpL_cstore _ u o ht hu hx hy (hv.z _) ((hv.c j).trans (by rw [VV.ca, List.getElem?_toArray]; exact ho)) (K _ (hv.set he) (only_cell u))
theorem wpL_Hcell {ops : Array Oper} {rest : List Oper} {d : Option Nat} {ty tt : TypeId} {x y : Operand} {pos : String} {after : Array Edge} {a : Act} {w : World} {Q : Exit → Act → World → Prop}
    (g j : Nat) (z z' : HV) (u : Value) (ht : oneTy ty) (hu : plainV u) (hj : j < 49) (he : z.ca.setIfInBounds j u = z'.ca) (hx : a.eval x = .pointer (some ⟨g, j, none⟩)) (hy : a.eval y = u) (hv : H1 w g z)
    (K : ∀ w', H1 w' g z' → C.Only (· = g) w w' → wpList Try.prog ops Q rest (a.put d undef) w') :
    wpList Try.prog ops Q ({ dst := d, op := Op.store ty x y, type := tt, pos := pos, after := after, guard := none } :: rest) a w := by
  have ho : ∃ o, z.cs[j]? = some o := ⟨_, List.getElem?_eq_getElem (by rw [hv_len]; exact hj)⟩
  obtain ⟨o, ho⟩ := ho
  exact wpL_cstore _ u o ht hu hx hy (hv.z _) ((hv.c j).trans (by rw [HV.ca, List.getElem?_toArray]; exact ho)) (K _ (hv.set he) (only_cell u))
def waitV (x : VV) : VV := { x with st := if x.st = 1 then 2 else x.st }
set_option maxHeartbeats 1000000 in
theorem v_Wait (x : VV) (w : World) : Calls Try.prog 17 #[x.v] w fun e w' => e = .returned (waitV x).v ∧ Below w.heap.size w w' := by
  have A1 : Hid (V1 ((w.alloc (.cells x.ca 32)).alloc (.cells VV.zero.ca 32)) w.heap.size x) := V1.new1 x _
  have A2 : Hid (V1 ((w.alloc (.cells x.ca 32)).alloc (.cells VV.zero.ca 32)) (w.heap.size + 1) VV.zero) := V1.new2 VV.zero _
  have HB := hid (below2 (w := w) (.cells x.ca 32) (.cells VV.zero.ca 32))
  go_enter Try.func17, Try.ntmps17
  go_upto_region 1 with ((with_reducible refine wpList_new (z := .agg VV.zero.ca) VV.zero.ca ?_ ?_ ?_); rfl; exact z_vcpu)
  generalize ((w.alloc (.cells x.ca 32)).alloc (.cells VV.zero.ca 32)) = wa at *
  have c49 : wa.cell? ⟨w.heap.size, 49, none⟩ = some (.int .i64 x.st) := A1.out.c 49
  by_cases hs : x.st = 1
  · have HW : Hid (waitV x = { x with st := 2 }) := by show waitV x = _; unfold waitV; rw [if_pos hs]
    go_wp2_with (first
      | ((with_reducible refine wpL_1cell w.heap.size 49 x (waitV x) (.int .i64 2) ?_ ?_ ?_ ?_ ?_ ?_ ?_ ?_); exact .inr (.inl rfl); exact .inl ⟨_, _, rfl⟩; omega; rw [HW.out]; rfl; rfl; rfl; exact A1.out; intro w2 h2 ho2; have C1 := hid h2; have C2 := hid (A2.out.only ho2 (by omega)); have HB2 := hid (only_below HB.out (Nat.le_refl _) ho2 HB.out.size); clear h2 ho2 c49)
      | ((with_reducible refine wpL_vload (d := some 7) w.heap.size 0 (waitV x) ?_ ?_ ?_); rfl; exact C1.out.range)
      | ((with_reducible refine wpL_store1 (x := .tmp 2) (y := .tmp 7) (w.heap.size + 1) VV.zero (waitV x) ?_ ?_ ?_ ?_); rfl; rfl; exact C2.out; intro w3 h3 ho3; have D1 := hid h3; have HB3 := hid (only_below HB2.out (by omega) ho3 HB2.out.size); clear h3 ho3))
    exact bodyPost_ret (ret_v Try.results17 (w.heap.size + 1) (waitV x) rfl D1.out) rfl ⟨rfl, HB3.out⟩
  · have HW : Hid (waitV x = x) := by show waitV x = _; unfold waitV; rw [if_neg hs]
    go_wp2_with (first
      | ((with_reducible refine wpL_vload (d := some 7) w.heap.size 0 x ?_ ?_ ?_); rfl; exact A1.out.range)
      | ((with_reducible refine wpL_store1 (x := .tmp 2) (y := .tmp 7) (w.heap.size + 1) VV.zero x ?_ ?_ ?_ ?_); rfl; rfl; exact A2.out; intro w3 h3 ho3; have D1 := hid h3; have HB3 := hid (only_below HB.out (by omega) ho3 HB.out.size); clear h3 ho3))
    exact bodyPost_ret (ret_v Try.results17 (w.heap.size + 1) x rfl D1.out) rfl ⟨by rw [HW.out], HB3.out⟩
set_option maxHeartbeats 1000000 in
theorem r_Wait (x : VV) (w : World) : Calls Try.prog 18 #[x.v] w fun e w' => e = .returned (waitV x).v ∧ Below w.heap.size w w' := by
  have A1 : Hid (V1 ((w.alloc (.cells x.ca 32)).alloc (.cells VV.zero.ca 32)) w.heap.size x) := V1.new1 x _
  have A2 : Hid (V1 ((w.alloc (.cells x.ca 32)).alloc (.cells VV.zero.ca 32)) (w.heap.size + 1) VV.zero) := V1.new2 VV.zero _
  have HB := hid (below2 (w := w) (.cells x.ca 32) (.cells VV.zero.ca 32))
  go_enter Try.func18, Try.ntmps18
  go_upto_region 1 with ((with_reducible refine wpList_new (z := .agg VV.zero.ca) VV.zero.ca ?_ ?_ ?_); rfl; exact z_vcpu)
  generalize ((w.alloc (.cells x.ca 32)).alloc (.cells VV.zero.ca 32)) = wa at *
  have c49 : wa.cell? ⟨w.heap.size, 49, none⟩ = some (.int .i64 x.st) := A1.out.c 49
  by_cases hs : x.st = 1
  · have HW : Hid (waitV x = { x with st := 2 }) := by show waitV x = _; unfold waitV; rw [if_pos hs]
    go_wp2_with (first
      | ((with_reducible refine wpL_1cell w.heap.size 49 x (waitV x) (.int .i64 2) ?_ ?_ ?_ ?_ ?_ ?_ ?_ ?_); exact .inr (.inl rfl); exact .inl ⟨_, _, rfl⟩; omega; rw [HW.out]; rfl; rfl; rfl; exact A1.out; intro w2 h2 ho2; have C1 := hid h2; have C2 := hid (A2.out.only ho2 (by omega)); have HB2 := hid (only_below HB.out (Nat.le_refl _) ho2 HB.out.size); clear h2 ho2 c49)
      | ((with_reducible refine wpL_vload (d := some 7) w.heap.size 0 (waitV x) ?_ ?_ ?_); rfl; exact C1.out.range)
      | ((with_reducible refine wpL_store1 (x := .tmp 2) (y := .tmp 7) (w.heap.size + 1) VV.zero (waitV x) ?_ ?_ ?_ ?_); rfl; rfl; exact C2.out; intro w3 h3 ho3; have D1 := hid h3; have HB3 := hid (only_below HB2.out (by omega) ho3 HB2.out.size); clear h3 ho3))
    exact bodyPost_ret (ret_v Try.results18 (w.heap.size + 1) (waitV x) rfl D1.out) rfl ⟨rfl, HB3.out⟩
  · have HW : Hid (waitV x = x) := by show waitV x = _; unfold waitV; rw [if_neg hs]
    go_wp2_with (first
      | ((with_reducible refine wpL_vload (d := some 7) w.heap.size 0 x ?_ ?_ ?_); rfl; exact A1.out.range)
      | ((with_reducible refine wpL_store1 (x := .tmp 2) (y := .tmp 7) (w.heap.size + 1) VV.zero x ?_ ?_ ?_ ?_); rfl; rfl; exact A2.out; intro w3 h3 ho3; have D1 := hid h3; have HB3 := hid (only_below HB.out (by omega) ho3 HB.out.size); clear h3 ho3))
    exact bodyPost_ret (ret_v Try.results18 (w.heap.size + 1) x rfl D1.out) rfl ⟨by rw [HW.out], HB3.out⟩
end Go.Proofs.Yteafjobmlfkppaa
namespace Go.Proofs.Yteafjobmlfkppaa
open Go.RowKit
set_option linter.unusedVariables false
set_option maxRecDepth 100000

theorem own_vs {w : World} {base n : Nat} {v : Value} {L : List VV} (hn : L.length = n) (h : w.ownsRow base 32 52 v n (vflat L)) : Vs w base v L := by
  rcases h.2 with ⟨rfl, h0⟩ | ⟨g, cap, cur, rfl, hb, hg, _, _, _, ht⟩
  · exact .inl ⟨rfl, List.eq_nil_of_length_eq_zero (by omega)⟩
  · refine .inr ⟨g, cap, by rw [hn], hb, cur.toList.drop (n * 52), ?_⟩
    rw [← ht, List.take_append_drop]
    exact hg
/-- a list is hung behind nothing -/
theorem wpL_appendV {ops : Array Oper} {rest : List Oper} {d : Option Nat} {tt : TypeId} {s x : Operand} {pos : String} {after : Array Edge} {a : Act} {w : World} {Q : Exit → Act → World → Prop}
    (B : Nat) (v0 v : Value) (L : List VV) (hs : a.eval s = v0) (hown : w.ownsRow B 32 52 v0 0 []) (hx : a.eval x = v) (hv : Vr w v L) (hlen : L.length * 368 ≤ 140737488355328) (hB : B ≤ w.heap.size)
    (K : ∀ v' w', Vs w' B v' L → Below B w w' → wpList Try.prog ops Q rest (a.put d v') w') :
    wpList Try.prog ops Q ({ dst := d, op := Op.call { callee := .builtin .append, args := #[s, x], argTypes := #[24, 24] }, type := tt, pos := pos, after := after, guard := none } :: rest) a w := by
  obtain ⟨i0, hi, hz0, hz1, hz2⟩ := info_parts info_v
  have hbl : ∀ k, v0.ownBlock = some k → B ≤ k := by
    intro k hk
    rcases hown.2 with ⟨rfl, _⟩ | ⟨g, cap, cur, rfl, hb, _⟩
    · cases hk
    · simp only [Value.ownBlock, Option.some.injEq] at hk
      omega
  rcases hv with ⟨rfl, rfl⟩ | ⟨ad, cap, rfl, h⟩
  · refine wpList_append_own_none rfl s x 24 rfl B 32 i0 52 u_sV hi v0 0 [] hs hown hx ?_
    exact K v0 w (own_vs rfl hown) (Below.refl _ _)
  · refine wpList_append_own w rfl s x 24 rfl B 32 i0 (.agg VV.zero.ca) 52 368 u_sV hi hz0 hz1 hz2 rfl (by decide) v0 0 [] hs hown ad L.length cap (vflat L) hx (vflat_length L) (Vr.news h) (vflat_one' L) (by unfold maxLen; omega) (by omega) hB ?_
    intro v' w' hown' hgrow _
    rw [Nat.zero_add, List.nil_append] at hown'
    exact K v' w' (own_vs rfl hown') ((Below.refl B w).grown hgrow hB hbl)
theorem c_copied (w : World) (v : Value) (L : List VV) (hv : Vr w v L) (hl : L.length * 368 ≤ 140737488355328) : Calls Try.prog 19 #[v] w fun e w' => ∃ v', e = .returned v' ∧ Vs w' w.heap.size v' L ∧ Below w.heap.size w w' := by
  have HV := hid hv
  have HL := hid hl
  obtain ⟨ad, cap, rfl, _⟩ := hv.len
  clear hv hl
  go_enter Try.func19, Try.ntmps19
  go_wp2_with ((with_reducible refine wpL_appendV w.heap.size (.slice none 0 0) (.slice ad L.length cap) L ?_ ?_ ?_ ?_ ?_ ?_ ?_); rfl; exact World.ownsRow_nil _ _ _ _; rfl; exact HV.out; exact HL.out; exact Nat.le_refl _; intro v' w' hv' hb'; have H1 := hid hv'; have H2 := hid hb'; clear hv' hb')
  go_ret
  exact ⟨v', rfl, H1.out, H2.out⟩
theorem eq_nilV (w : World) (a : Option Addr) (l c : Nat) : (binOp .eql 24 (.slice a l c) (.slice none 0 0)).run Try.prog w = .ok (.bool a.isNone) w := by
  simp only [binOp]
  simp [run_equal_slice_nil w 24 32 a l c u_sV]
theorem v_Clone (w : World) (v : Value) (L : List VV) (hv : Vr w v L) (hl : L.length * 368 ≤ 140737488355328) : Calls Try.prog 33 #[v] w fun e w' => ∃ v', e = .returned v' ∧ Vs w' w.heap.size v' L ∧ Below w.heap.size w w' := by
  have HV := hid hv
  have HL := hid hl
  have hne := eq_nilV
  clear hl
  rcases hv with ⟨rfl, rfl⟩ | ⟨ad, cap, rfl, _⟩
  · go_enter Try.func33, Try.ntmps33
    go_wp2_with fail
    go_ret
    exact ⟨_, rfl, .inl ⟨rfl, rfl⟩, Below.refl _ _⟩
  · go_enter Try.func33, Try.ntmps33
    go_wp2_with ((with_reducible refine wpL_appendV w.heap.size (.slice (some ⟨w.heap.size, 0, none⟩) 0 0) (.slice (some ad) L.length cap) L ?_ ?_ ?_ ?_ ?_ ?_ ?_); rfl; exact World.ownsRow_lit w #[] 0 (Nat.le_refl _) (by decide) rfl; rfl; exact HV.out.below ((Below.refl _ _).alloc (Nat.le_refl _) _); exact HL.out; simp; intro v' w' hv' hb'; have H1 := hid hv'; have H2 := hid (((Below.refl _ _).alloc (Nat.le_refl _) _).trans hb'); clear hv' hb')
    go_ret
    exact ⟨v', rfl, H1.out, H2.out⟩
end Go.Proofs.Yteafjobmlfkppaa
namespace Go.Proofs.Yteafjobmlfkppaa
open Go.ChangeShapes Go.WideShapes Go.ChangeAt Go.RowKit Go.Deep
set_option linter.unusedVariables false
set_option maxRecDepth 100000

theorem cells_hart : Try.prog.cellsOf 30 = 49 := by kernel_rfl
theorem cells_a32 : Try.prog.cellsOf 28 = 32 := by kernel_rfl
theorem cells_bool : Try.prog.cellsOf 4 = 1 := by kernel_rfl
def Wd (cs : Array Value) (o : Nat) : Prop := ∃ n, cs[o]? = some (.int .u64 n) ∧ 0 ≤ n ∧ n < 18446744073709551616
def Fg (cs : Array Value) (o : Nat) : Prop := ∃ b, cs[o]? = some (.bool b)
theorem hart_of (cs : Array Value) (hs : cs.size = 49) (hX : ∀ r, r < 32 → Wd cs r) (w32 : Wd cs 32) (f33 : Fg cs 33) (f34 : Fg cs 34) (f35 : Fg cs 35) (f36 : Fg cs 36) (f37 : Fg cs 37) (f38 : Fg cs 38) (f39 : Fg cs 39)
    (w40 : Wd cs 40) (w41 : Wd cs 41) (w42 : Wd cs 42) (w43 : Wd cs 43) (w44 : Wd cs 44) (w45 : Wd cs 45) (w46 : Wd cs 46) (w47 : Wd cs 47) (w48 : Wd cs 48) : ∃ h : HV, cs = h.ca ∧ HOk h := by
  obtain ⟨pc, e32, r32⟩ := w32
  obtain ⟨b33, e33⟩ := f33
  obtain ⟨b34, e34⟩ := f34
  obtain ⟨b35, e35⟩ := f35
  obtain ⟨b36, e36⟩ := f36
  obtain ⟨b37, e37⟩ := f37
  obtain ⟨b38, e38⟩ := f38
  obtain ⟨b39, e39⟩ := f39
  obtain ⟨n40, e40, r40⟩ := w40
  obtain ⟨n41, e41, r41⟩ := w41
  obtain ⟨n42, e42, r42⟩ := w42
  obtain ⟨n43, e43, r43⟩ := w43
  obtain ⟨n44, e44, r44⟩ := w44
  obtain ⟨n45, e45, r45⟩ := w45
  obtain ⟨n46, e46, r46⟩ := w46
  obtain ⟨n47, e47, r47⟩ := w47
  obtain ⟨n48, e48, r48⟩ := w48
  obtain ⟨x, hx, hr⟩ : ∃ x : Nat → Int, (∀ r, r < 32 → cs[r]? = some (.int .u64 (x r))) ∧ ∀ r, 0 ≤ x r ∧ x r < 18446744073709551616 := by
    have hX' : ∀ r, ∃ n : Int, (r < 32 → cs[r]? = some (.int .u64 n)) ∧ 0 ≤ n ∧ n < 18446744073709551616 := fun r => by
      by_cases q : r < 32
      · obtain ⟨n, h1, h2⟩ := hX r q
        exact ⟨n, fun _ => h1, h2⟩
      · exact ⟨0, fun z => absurd z q, by omega⟩
    exact ⟨fun r => Classical.choose (hX' r), fun r q => (Classical.choose_spec (hX' r)).1 q, fun r => (Classical.choose_spec (hX' r)).2⟩
  refine ⟨⟨x, pc, b33, b34, b35, b36, b37, b38, b39, n40, n41, n42, n43, n44, n45, n46, n47, n48⟩, ?_, ⟨hr, r32, r40, r41, r42, r43, r44, r45, r46, r47, r48⟩⟩
  apply Array.ext_getElem?
  intro k
  by_cases q : k < 32
  · rw [hx k q]; exact ((List.getElem?_toArray ..).trans (hv_x (⟨x, pc, b33, b34, b35, b36, b37, b38, b39, n40, n41, n42, n43, n44, n45, n46, n47, n48⟩ : HV) k q)).symm
  · by_cases q2 : k < 49
    · rcases (by omega : k = 32 ∨ k = 33 ∨ k = 34 ∨ k = 35 ∨ k = 36 ∨ k = 37 ∨ k = 38 ∨ k = 39 ∨ k = 40 ∨ k = 41 ∨ k = 42 ∨ k = 43 ∨ k = 44 ∨ k = 45 ∨ k = 46 ∨ k = 47 ∨ k = 48) with rfl | rfl | rfl | rfl | rfl | rfl | rfl | rfl | rfl | rfl | rfl | rfl | rfl | rfl | rfl | rfl | rfl
      · rw [e32]; rfl
      · rw [e33]; rfl
      · rw [e34]; rfl
      · rw [e35]; rfl
      · rw [e36]; rfl
      · rw [e37]; rfl
      · rw [e38]; rfl
      · rw [e39]; rfl
      · rw [e40]; rfl
      · rw [e41]; rfl
      · rw [e42]; rfl
      · rw [e43]; rfl
      · rw [e44]; rfl
      · rw [e45]; rfl
      · rw [e46]; rfl
      · rw [e47]; rfl
      · rw [e48]; rfl
    · rw [Array.getElem?_eq_none (by omega), Array.getElem?_eq_none (by show (49 : Nat) ≤ k; omega)]
theorem cells_vcpu : Try.prog.cellsOf 32 = 52 := by kernel_rfl
theorem cells_int : Try.prog.cellsOf 3 = 1 := by kernel_rfl
theorem bytes_vcpu : Try.prog.bytesOf 32 = 368 := by kernel_rfl
theorem fldK {T : TypeId} {k o : Nat} {t : TypeId} (h : ((Try.prog.fieldsOf T)[k]?).map (fun f => (f.type, f.offset)) = some (t, o)) : ∃ f, (Try.prog.fieldsOf T)[k]? = some f ∧ f.type = t ∧ f.offset = o := by
  cases hq : (Try.prog.fieldsOf T)[k]? with
  | none => rw [hq] at h; cases h
  | some f => rw [hq] at h; simp at h; exact ⟨f, rfl, h.1, h.2⟩
theorem one_ofL {xs : List Value} {off : Nat} {a : Value} (h : (xs.drop off).take 1 = [a]) : xs.toArray[off]? = some a := by
  have : ((xs.drop off).take 1)[0]? = some a := by rw [h]; rfl
  rw [List.getElem?_take_of_lt (by omega), List.getElem?_drop, Nat.add_zero] at this
  rw [List.getElem?_toArray]; exact this
theorem open_hartC {H : Type} {enc : TypeId × Value → H} {W : World} {base fuel : Nat} {sp : Nat → Bool} {held : Bool} {cs : List Value} {x : DataW H × List MemPlace} (h : DataW.trod enc Try.prog W base sp held fuel 30 cs = some x) : ∃ a : HV, cs = a.cs ∧ HOk a := by
  obtain ⟨xs, n, _, _, hcl, hlen, hfs⟩ := DataW.trod_struct u_hart h
  rw [cells_hart] at hcl
  have hl : xs.length = 18 := by rw [hlen]; kernel_rfl
  have hw : ∀ k o, k < 18 → ((Try.prog.fieldsOf 30)[k]?).map (fun f => (f.type, f.offset)) = some (22, o) → Wd cs.toArray o := by
    intro k o hk hm
    obtain ⟨f, e1, e2, e3⟩ := fldK hm
    have q := hfs k f e1
    rw [e2, e3, co_u64] at q
    obtain ⟨y, hy⟩ : ∃ y, xs[k]? = some y := ⟨xs[k]'(by omega), List.getElem?_eq_getElem (by omega)⟩
    rw [hy] at q
    obtain ⟨z, hz, _, hwf⟩ := DataW.trod_int Try.underlying22 q
    obtain ⟨c0, c1⟩ := bounds_u64 hwf
    exact ⟨z, one_ofL hz, c0, by omega⟩
  have hb : ∀ k o, k < 18 → ((Try.prog.fieldsOf 30)[k]?).map (fun f => (f.type, f.offset)) = some (4, o) → Fg cs.toArray o := by
    intro k o hk hm
    obtain ⟨f, e1, e2, e3⟩ := fldK hm
    have q := hfs k f e1
    rw [e2, e3, cells_bool] at q
    obtain ⟨y, hy⟩ : ∃ y, xs[k]? = some y := ⟨xs[k]'(by omega), List.getElem?_eq_getElem (by omega)⟩
    rw [hy] at q
    obtain ⟨z, hz, _⟩ := DataW.trod_bool Try.underlying4 q
    exact ⟨z, one_ofL hz⟩
  have hx : ∀ r, r < 32 → Wd cs.toArray r := by
    obtain ⟨f, e1, e2, e3⟩ := fldK (T := 30) (k := 0) (o := 0) (t := 28) (by kernel_rfl)
    have q := hfs 0 f e1
    rw [e2, e3, cells_a32] at q
    obtain ⟨y, hy⟩ : ∃ y, xs[0]? = some y := ⟨xs[0]'(by omega), List.getElem?_eq_getElem (by omega)⟩
    rw [hy] at q
    obtain ⟨ys, m, _, _, _, hyl, hys⟩ := DataW.trod_array u_a32 q
    intro r hr
    have q2 := hys r hr
    rw [co_u64, Nat.mul_one] at q2
    obtain ⟨z, hz⟩ : ∃ z, ys[r]? = some z := ⟨ys[r]'(by omega), List.getElem?_eq_getElem (by omega)⟩
    rw [hz] at q2
    obtain ⟨n, hn, _, hwf⟩ := DataW.trod_int Try.underlying22 q2
    obtain ⟨c0, c1⟩ := bounds_u64 hwf
    refine ⟨n, one_ofL ?_, c0, by omega⟩
    have e : ((cs.drop 0).take 32).drop r = ((cs.drop r).take (32 - r)) := by
      rw [List.drop_zero, List.drop_take]
    rw [e, List.take_take, show min 1 (32 - r) = 1 by omega] at hn
    exact hn
  obtain ⟨a, e, ok⟩ := hart_of cs.toArray (by simpa using hcl) hx (hw 1 32 (by omega) (by kernel_rfl)) (hb 2 33 (by omega) (by kernel_rfl)) (hb 3 34 (by omega) (by kernel_rfl)) (hb 4 35 (by omega) (by kernel_rfl)) (hb 5 36 (by omega) (by kernel_rfl)) (hb 6 37 (by omega) (by kernel_rfl)) (hb 7 38 (by omega) (by kernel_rfl)) (hb 8 39 (by omega) (by kernel_rfl))
    (hw 9 40 (by omega) (by kernel_rfl)) (hw 10 41 (by omega) (by kernel_rfl)) (hw 11 42 (by omega) (by kernel_rfl)) (hw 12 43 (by omega) (by kernel_rfl)) (hw 13 44 (by omega) (by kernel_rfl)) (hw 14 45 (by omega) (by kernel_rfl)) (hw 15 46 (by omega) (by kernel_rfl)) (hw 16 47 (by omega) (by kernel_rfl)) (hw 17 48 (by omega) (by kernel_rfl))
  exact ⟨a, by simpa [HV.ca] using e, ok⟩
theorem open_vcpuC {H : Type} {enc : TypeId × Value → H} {W : World} {base fuel : Nat} {sp : Nat → Bool} {held : Bool} {cs : List Value} {x : DataW H × List MemPlace} (h : DataW.trod enc Try.prog W base sp held fuel 32 cs = some x) : ∃ a : VV, cs = a.cs ∧ VOk a := by
  obtain ⟨xs, n, _, _, hcl, hlen, hfs⟩ := DataW.trod_struct u_vcpu h
  rw [cells_vcpu] at hcl
  have hl : xs.length = 4 := by rw [hlen]; kernel_rfl
  have get : ∀ k, k < 4 → ∃ y, xs[k]? = some y := fun k hk => ⟨xs[k]'(by omega), List.getElem?_eq_getElem (by omega)⟩
  obtain ⟨f0, a1, a2, a3⟩ := fldK (T := 32) (k := 0) (o := 0) (t := 30) (by kernel_rfl)
  have q0 := hfs 0 f0 a1
  obtain ⟨y0, hy0⟩ := get 0 (by omega)
  rw [a2, a3, cells_hart, hy0] at q0
  obtain ⟨a, ha, ok⟩ := open_hartC q0
  obtain ⟨f1, b1, b2, b3⟩ := fldK (T := 32) (k := 1) (o := 49) (t := 3) (by kernel_rfl)
  have q1 := hfs 1 f1 b1
  obtain ⟨y1, hy1⟩ := get 1 (by omega)
  rw [b2, b3, cells_int, hy1] at q1
  obtain ⟨z1, r1, _, w1⟩ := DataW.trod_int Try.underlying3 q1
  obtain ⟨f2, c1, c2, c3⟩ := fldK (T := 32) (k := 2) (o := 50) (t := 4) (by kernel_rfl)
  have q2 := hfs 2 f2 c1
  obtain ⟨y2, hy2⟩ := get 2 (by omega)
  rw [c2, c3, cells_bool, hy2] at q2
  obtain ⟨z2, r2, _⟩ := DataW.trod_bool Try.underlying4 q2
  obtain ⟨f3, d1, d2, d3⟩ := fldK (T := 32) (k := 3) (o := 51) (t := 22) (by kernel_rfl)
  have q3 := hfs 3 f3 d1
  obtain ⟨y3, hy3⟩ := get 3 (by omega)
  rw [d2, d3, co_u64, hy3] at q3
  obtain ⟨z3, r3, _, w3⟩ := DataW.trod_int Try.underlying22 q3
  have k1 := one_ofL r1
  have k2 := one_ofL r2
  have k3 := one_ofL r3
  simp only [List.getElem?_toArray] at k1 k2 k3
  obtain ⟨m0, m1⟩ := bounds_i64 w1
  obtain ⟨n0, n1⟩ := bounds_u64 w3
  refine ⟨⟨a, z1, z2, z3⟩, ?_, ⟨ok, ⟨m0, by show z1 ≤ _; omega⟩, n0, by show z3 < _; omega⟩⟩
  have e0 : cs = (cs.drop 0).take 49 ++ cs.drop 49 := by rw [List.drop_zero, List.take_append_drop]
  rw [e0, ha]
  show a.cs ++ cs.drop 49 = a.cs ++ [.int .i64 z1, .bool z2, .int .u64 z3]
  congr 1
  have dr : ∀ j u, j < 52 → cs[j]? = some u → cs.drop j = u :: cs.drop (j + 1) := fun j u hj hu => by
    rw [List.drop_eq_getElem_cons (by omega : j < cs.length)]
    congr 1
    rw [List.getElem?_eq_getElem (by omega)] at hu
    simpa using hu
  rw [dr 49 _ (by omega) k1, dr 50 _ (by omega) k2, dr 51 _ (by omega) k3, List.drop_of_length_le (by omega)]
theorem open_vcpu {H : Type} {enc : TypeId × Value → H} {W : World} {r : Reach} {b base : Nat} {sp : Nat → Bool} {held : Bool} {v : Value} {d : DataW H} {p : List MemPlace} (hv : Value.okWide Try.prog W r b 32 v) (h : DataW.Trod enc Try.prog W base sp held 32 v d p) : ∃ a : VV, v = a.v ∧ VOk a := by
  obtain ⟨cs, rfl, hsz⟩ := okWide_struct u_vcpu hv
  obtain ⟨fuel, hf⟩ := h
  obtain ⟨a, e, ok⟩ := open_vcpuC hf
  refine ⟨a, ?_, ok⟩
  have : cs = a.ca := by
    have e2 : cs.toList = a.cs := e
    rw [VV.ca, ← e2, Array.toArray_toList]
  rw [this]
theorem cells_range {W : World} {base g o n : Nat} {cs : List Value} (h : W.cells? base ⟨g, o, none⟩ n = some cs) (hn : cs.length = n) : W.rangeAt g o cs := fun j v hv => by
  obtain ⟨_, _, hcell⟩ := World.cells?_some h
  have hj : j < cs.length := (List.getElem?_eq_some_iff.1 hv).1
  have := hcell j (by omega)
  rw [C.addr_add] at this
  rw [this]; exact hv
theorem open_vcpus {H : Type} {enc : TypeId × Value → H} {W : World} {base : Nat} {r : Reach} {b0 : Nat} {v : Value} {d : DataW H} {p : List MemPlace} (hv : Value.okWide Try.prog W r b0 24 v) (h : DataW.Trod enc Try.prog W base (fun _ => true) true 24 v d p) (hlt : ∀ x ∈ p, x.block < W.heap.size) :
    ∃ (ad : Option Addr) (la cap : Nat) (L : List VV), v = .slice ad la cap ∧ (Vr W (.slice ad la cap) L ∧ (∀ x ∈ L, VOk x) ∧ L.length = la) := by
  obtain ⟨fuel, hf⟩ := h
  obtain ⟨ad', la', cap', rfl⟩ := okWide_slice u_sV hv
  rcases open_slice u_sV hf with ⟨hcs, hx⟩ | ⟨a, len, cap, m, n, D, Pl, hcs, _, hl, hm, hmm, hx, hel⟩
  · simp [Value.cells] at hcs
    obtain ⟨rfl, rfl, rfl⟩ := hcs
    exact ⟨_, _, _, [], rfl, .inl ⟨rfl, rfl⟩, fun x hx => by simp at hx, rfl⟩
  · simp [Value.cells] at hcs
    obtain ⟨rfl, rfl, rfl⟩ := hcs
    simp only [if_true] at hmm
    have each : ∀ i, ∃ X : VV, i < la' → VOk X ∧ W.cells? base (a.add (i * 52)) 52 = some X.cs := fun i => by
      rcases Nat.lt_or_ge i la' with hi | hi
      · obtain ⟨cs', h1, h2⟩ := hel i (by omega)
        obtain ⟨X, rfl, ok⟩ := open_vcpuC h2
        rw [cells_vcpu] at h1
        exact ⟨X, fun _ => ⟨ok, h1⟩⟩
      · exact ⟨VV.zero, fun q => by omega⟩
    obtain ⟨X, hX⟩ := Classical.axiomOfChoice each
    clear each
    have hget : ∀ i x, ((List.range la').map X)[i]? = some x → i < la' ∧ x = X i := fun i x hx => by
      have hi : i < la' := by simpa using (List.getElem?_eq_some_iff.1 hx).1
      refine ⟨hi, ?_⟩
      simp [hi] at hx
      exact hx.symm
    refine ⟨_, _, _, (List.range la').map X, rfl, .inr ⟨a, cap', by simp, fun i x hx => ?_⟩, fun x hx => ?_, by simp⟩
    · obtain ⟨hi, rfl⟩ := hget i x hx
      have h1 := (hX i hi).2
      obtain ⟨_, _, hcell⟩ := World.cells?_some h1
      have k0 := hcell 0 (by decide)
      have hblk := World.cells?_block h1 (by decide)
      have hsp : a.spot = none := by
        have h00 := (hX 0 (by omega)).2
        obtain ⟨_, _, hc0⟩ := World.cells?_some h00
        have := World.cell?_spot (hc0 0 (by decide))
        simpa [Addr.add] using this
      obtain ⟨ab, ao, asp⟩ := a
      simp only at hsp
      subst hsp
      rw [C.addr_add] at h1 hblk
      exact ⟨ab, ao, rfl, hblk, cells_range h1 (vv_len _)⟩
    · simp only [List.mem_map, List.mem_range] at hx
      obtain ⟨i, hi, rfl⟩ := hx
      exact (hX i hi).1
theorem vcpus_ln {H : Type} {enc : TypeId × Value → H} {W : World} {base : Nat} {ad : Option Addr} {la cap : Nat} {d : DataW H} {p : List MemPlace} (h : DataW.Trod enc Try.prog W base (fun _ => true) true 24 (.slice ad la cap) d p) (hw : ∀ n ∈ d.weights Try.prog 24, n ≤ reachBytes) : la * 368 ≤ 140737488355328 := by
  obtain ⟨fuel, hf⟩ := h
  rcases open_slice u_sV hf with ⟨hcs, hx⟩ | ⟨a, len', cap', m, n, D, Pl, hcs, _, hl, hm, hmm, hx, hel⟩
  · simp [Value.cells] at hcs
    obtain ⟨rfl, rfl, rfl⟩ := hcs
    omega
  · simp [Value.cells] at hcs
    obtain ⟨rfl, rfl, rfl⟩ := hcs
    simp only [Prod.mk.injEq] at hx
    obtain ⟨rfl, rfl⟩ := hx
    have h2 := hw ((((List.range la).map D).length + ((List.range (m - la)).map fun j => D (la + j)).length) * Try.prog.bytesOf 32) (by simp [DataW.weights])
    rw [bytes_vcpu] at h2
    simp [reachBytes] at h2
    omega
end Go.Proofs.Yteafjobmlfkppaa
namespace Go.Proofs.Yteafjobmlfkppaa
open Go.RowKit
set_option linter.unusedVariables false
set_option maxRecDepth 100000

/-- one of them, behind a store by number i -/
def wrV (i gpa : Int) (k : Nat) (x : VV) : VV := if (k : Int) ≠ i ∧ x.h.resv / 8 = gpa / 8 then { x with h := { x.h with resd := false } } else x
def wrL (i gpa : Int) (L : List VV) (k : Nat) : List VV := (L.take k).mapIdx (wrV i gpa) ++ L.drop k
theorem wrL_len (i gpa : Int) (L : List VV) (k : Nat) : (wrL i gpa L k).length = L.length := by simp [wrL]; omega
theorem wrL_zero (i gpa : Int) (L : List VV) : wrL i gpa L 0 = L := by simp [wrL]
theorem wrL_get (i gpa : Int) (L : List VV) (k : Nat) (x : VV) (h : L[k]? = some x) : (wrL i gpa L k)[k]? = some x := by
  have hk : k < L.length := (List.getElem?_eq_some_iff.1 h).1
  unfold wrL
  rw [List.getElem?_append_right (by simp; omega)]
  simp [Nat.min_eq_left (Nat.le_of_lt hk), h]
theorem wrL_succ (i gpa : Int) (L : List VV) (k : Nat) (x : VV) (h : L[k]? = some x) : (wrL i gpa L k).set k (wrV i gpa k x) = wrL i gpa L (k + 1) := by
  have hk : k < L.length := (List.getElem?_eq_some_iff.1 h).1
  apply List.ext_getElem?
  intro j
  rcases Nat.lt_trichotomy j k with q | q | q
  · rw [List.getElem?_set_ne (by omega)]
    unfold wrL
    rw [List.getElem?_append_left (by simp; omega), List.getElem?_append_left (by simp; omega)]
    simp [List.getElem?_mapIdx, List.getElem?_take_of_lt q, List.getElem?_take_of_lt (show j < k + 1 by omega)]
  · subst q
    rw [List.getElem?_set_self (by rw [wrL_len]; exact hk)]
    unfold wrL
    rw [List.getElem?_append_left (by simp; omega)]
    simp [List.getElem?_mapIdx, List.getElem?_take_of_lt (show j < j + 1 by omega), h]
  · rw [List.getElem?_set_ne (by omega)]
    unfold wrL
    rw [List.getElem?_append_right (by simp; omega), List.getElem?_append_right (by simp; omega)]
    simp [Nat.min_eq_left (Nat.le_of_lt hk), Nat.min_eq_left (show k + 1 ≤ L.length by omega)]
    congr 1
    omega
theorem wrL_full (i gpa : Int) (L : List VV) : wrL i gpa L L.length = L.mapIdx (wrV i gpa) := by simp [wrL]
theorem resd_cs (x : VV) : x.cs.set 39 (.bool false) = VV.cs { x with h := { x.h with resd := false } } := rfl
theorem vs_at {w : World} {B : Nat} {v : Value} {L : List VV} (h : Vs w B v L) (hL : L ≠ []) : ∃ g cap, v = .slice (some ⟨g, 0, none⟩) L.length cap ∧ B ≤ g ∧ Vb w g L := by
  rcases h with ⟨_, h⟩ | h
  · exact absurd h hL
  · exact h
theorem resd_same (x : VV) (hd : x.h.resd = false) : ({ x with h := { x.h with resd := false } } : VV) = x := by
  obtain ⟨h, s, a, d⟩ := x
  cases h
  simp only at hd
  subst hd
  rfl
set_option maxHeartbeats 2000000 in
theorem v_Wrote (w : World) (v : Value) (L : List VV) (hv : Vr w v L) (hl : L.length * 368 ≤ 140737488355328) (i : Int) (i0 : -9223372036854775808 ≤ i) (i1 : i ≤ 9223372036854775807) (gpa : Int) (p0 : 0 ≤ gpa) (p1 : gpa < 18446744073709551616) (hr : ∀ x ∈ L, 0 ≤ x.h.resv ∧ x.h.resv < 18446744073709551616) :
    Calls Try.prog 20 #[v, .int .i64 i, .int .u64 gpa] w fun e w' => ∃ v', e = .returned v' ∧ Vs w' w.heap.size v' (L.mapIdx (wrV i gpa)) ∧ Below w.heap.size w w' := by
  have HV := hid hv
  have HL := hid hl
  have HR := hid hr
  clear hv hl hr
  have hL : L.length ≤ 9223372036854775807 := by have := HL.out; omega
  go_enter Try.func20, Try.ntmps20
  go_upto_region 2 with (go_at_call 33; refine (v_Clone _ v L HV.out HL.out).mono ?_; rintro e w1 ⟨v1, rfl, h1, hb⟩; have HS := hid h1; have HB := hid hb; clear h1 hb)
  rcases HS.out with ⟨rfl, hn⟩ | ⟨g, cap, rfl, hg, hvb⟩
  · subst hn
    go_wp2_with fail
    go_loopw [14] (fun i wr => i = .int .i64 0 ∧ wr = w1) (fun i _ => 0)
    case atStart => exact ⟨rfl, rfl⟩
    case round =>
      obtain ⟨rfl, rfl⟩ := hrel
      go_wp2_with fail
      go_ret
      exact ⟨_, rfl, .inl ⟨rfl, rfl⟩, HB.out⟩
  · have A1 := hid hvb
    clear hvb
    go_wp2_with fail
    go_loopw [14] (fun c wr => ∃ (k : Nat), k ≤ L.length ∧ c = .int .i64 k ∧ Vb wr g (wrL i gpa L k) ∧ Below w.heap.size w wr) (fun i _ => L.length - (intOf i).toNat)
    case atStart => exact ⟨0, by omega, rfl, by rw [wrL_zero]; exact A1.out, HB.out⟩
    case round =>
      clear A1 HB HS
      obtain ⟨k, hk, rfl, hvb, hb⟩ := hrel
      have HA := hid hvb
      have HB := hid hb
      clear hvb hb
      by_cases hlt : k < L.length
      · obtain ⟨x, hx⟩ : ∃ x, L[k]? = some x := ⟨_, List.getElem?_eq_getElem hlt⟩
        have HX := hid hx
        have HY := hid (wrL_get i gpa L k x hx)
        have hxr := HR.out x (List.mem_of_getElem? hx)
        clear hx
        have c48 : wr.cell? ⟨g, k * 52 + 48, none⟩ = some (.int .u64 x.h.resv) := HA.out.cell HY.out 48 (by omega)
        by_cases hi : (k : Int) = i
        · have HW : Hid (wrV i gpa k x = x) := if_neg (fun q => q.1 hi)
          go_wp2_with fail
          go_roundw
          case rel => exact ⟨k + 1, by omega, by go_num, by rw [← wrL_succ i gpa L k x HX.out, HW.out, set_same HY.out]; exact HA.out, HB.out⟩
          case measure => simp [intOf]; omega
        · by_cases hq : x.h.resv / 8 = gpa / 8
          · have HW : Hid (wrV i gpa k x = { x with h := { x.h with resd := false } }) := if_pos ⟨hi, hq⟩
            go_wp2_with ((with_reducible refine wpL_vcell g k 39 (wrL i gpa L k) x { x with h := { x.h with resd := false } } (.bool false) ?_ ?_ ?_ ?_ ?_ ?_ ?_ ?_ ?_); exact .inr (.inr rfl); exact .inr ⟨_, rfl⟩; exact HY.out; omega; exact resd_cs x; rfl; rfl; exact HA.out; intro w2 h2 ho2; have C1 := hid h2; have HB2 := hid (only_below HB.out hg ho2 HB.out.size); clear h2 ho2)
            go_roundw
            case rel => exact ⟨k + 1, by omega, by go_num, by rw [← wrL_succ i gpa L k x HX.out, HW.out]; exact C1.out, HB2.out⟩
            case measure => simp [intOf]; omega
          · have HW : Hid (wrV i gpa k x = x) := if_neg (fun q => hq q.2)
            have hq' : (x.h.resv / 8 == gpa / 8) = false := by simpa using hq
            go_wp2_with fail
            go_roundw
            case rel => exact ⟨k + 1, by omega, by go_num, by rw [← wrL_succ i gpa L k x HX.out, HW.out, set_same HY.out]; exact HA.out, HB.out⟩
            case measure => simp [intOf]; omega
      · obtain rfl : k = L.length := by omega
        go_wp2_with fail
        go_ret
        exact ⟨_, rfl, .inr ⟨g, cap, by simp, hg, by rw [← wrL_full]; exact HA.out⟩, HB.out⟩
set_option maxHeartbeats 2000000 in
theorem r_Wrote (w : World) (v : Value) (L : List VV) (hv : Vr w v L) (hl : L.length * 368 ≤ 140737488355328) (i : Int) (i0 : -9223372036854775808 ≤ i) (i1 : i ≤ 9223372036854775807) (gpa : Int) (p0 : 0 ≤ gpa) (p1 : gpa < 18446744073709551616) (hr : ∀ x ∈ L, 0 ≤ x.h.resv ∧ x.h.resv < 18446744073709551616) :
    Calls Try.prog 21 #[v, .int .i64 i, .int .u64 gpa] w fun e w' => ∃ v', e = .returned v' ∧ Vs w' w.heap.size v' (L.mapIdx (wrV i gpa)) ∧ Below w.heap.size w w' := by
  have HV := hid hv
  have HL := hid hl
  have HR := hid hr
  clear hv hl hr
  have hL : L.length ≤ 9223372036854775807 := by have := HL.out; omega
  go_enter Try.func21, Try.ntmps21
  go_upto_region 2 with ((with_reducible refine wpL_appendV w.heap.size (.slice none 0 0) v L ?_ ?_ ?_ ?_ ?_ ?_ ?_); rfl; exact World.ownsRow_nil _ _ _ _; rfl; exact HV.out; exact HL.out; exact Nat.le_refl _; intro v1 w1 hv' hb'; have HS := hid hv'; have HB := hid hb'; clear hv' hb')
  rcases HS.out with ⟨rfl, hn⟩ | ⟨g, cap, rfl, hg, hvb⟩
  · subst hn
    go_wp2_with fail
    go_loopw [8] (fun i wr => i = .int .i64 0 ∧ wr = w1) (fun i _ => 0)
    case atStart => exact ⟨rfl, rfl⟩
    case round =>
      obtain ⟨rfl, rfl⟩ := hrel
      go_wp2_with fail
      go_ret
      exact ⟨_, rfl, .inl ⟨rfl, rfl⟩, HB.out⟩
  · have A1 := hid hvb
    clear hvb
    go_wp2_with fail
    go_loopw [8] (fun c wr => ∃ (k : Nat), k ≤ L.length ∧ c = .int .i64 k ∧ Vb wr g (wrL i gpa L k) ∧ Below w.heap.size w wr) (fun i _ => L.length - (intOf i).toNat)
    case atStart => exact ⟨0, by omega, rfl, by rw [wrL_zero]; exact A1.out, HB.out⟩
    case round =>
      clear A1 HB HS
      obtain ⟨k, hk, rfl, hvb, hb⟩ := hrel
      have HA := hid hvb
      have HB := hid hb
      clear hvb hb
      by_cases hlt : k < L.length
      · obtain ⟨x, hx⟩ : ∃ x, L[k]? = some x := ⟨_, List.getElem?_eq_getElem hlt⟩
        have HX := hid hx
        have HY := hid (wrL_get i gpa L k x hx)
        have hxr := HR.out x (List.mem_of_getElem? hx)
        clear hx
        have c48 : wr.cell? ⟨g, k * 52 + 48, none⟩ = some (.int .u64 x.h.resv) := HA.out.cell HY.out 48 (by omega)
        have c39 : wr.cell? ⟨g, k * 52 + 39, none⟩ = some (.bool x.h.resd) := HA.out.cell HY.out 39 (by omega)
        by_cases hi : (k : Int) = i
        · have HW : Hid (wrV i gpa k x = x) := if_neg (fun q => q.1 hi)
          go_wp2_with fail
          go_roundw
          case rel => exact ⟨k + 1, by omega, by go_num, by rw [← wrL_succ i gpa L k x HX.out, HW.out, set_same HY.out]; exact HA.out, HB.out⟩
          case measure => simp [intOf]; omega
        · by_cases hd : x.h.resd = true
          · rw [hd] at c39
            by_cases hq : x.h.resv / 8 = gpa / 8
            · have HW : Hid (wrV i gpa k x = { x with h := { x.h with resd := false } }) := if_pos ⟨hi, hq⟩
              go_wp2_with ((with_reducible refine wpL_vcell g k 39 (wrL i gpa L k) x { x with h := { x.h with resd := false } } (.bool false) ?_ ?_ ?_ ?_ ?_ ?_ ?_ ?_ ?_); exact .inr (.inr rfl); exact .inr ⟨_, rfl⟩; exact HY.out; omega; exact resd_cs x; rfl; rfl; exact HA.out; intro w2 h2 ho2; have C1 := hid h2; have HB2 := hid (only_below HB.out hg ho2 HB.out.size); clear h2 ho2)
              go_roundw
              case rel => exact ⟨k + 1, by omega, by go_num, by rw [← wrL_succ i gpa L k x HX.out, HW.out]; exact C1.out, HB2.out⟩
              case measure => simp [intOf]; omega
            · have HW : Hid (wrV i gpa k x = x) := if_neg (fun q => hq q.2)
              have hq' : (x.h.resv / 8 == gpa / 8) = false := by simpa using hq
              go_wp2_with fail
              go_roundw
              case rel => exact ⟨k + 1, by omega, by go_num, by rw [← wrL_succ i gpa L k x HX.out, HW.out, set_same HY.out]; exact HA.out, HB.out⟩
              case measure => simp [intOf]; omega
          · rw [Bool.not_eq_true] at hd
            rw [hd] at c39
            have HW : Hid (wrV i gpa k x = x) := by show wrV i gpa k x = x; unfold wrV; split; exact resd_same x hd; rfl
            go_wp2_with fail
            go_roundw
            case rel => exact ⟨k + 1, by omega, by go_num, by rw [← wrL_succ i gpa L k x HX.out, HW.out, set_same HY.out]; exact HA.out, HB.out⟩
            case measure => simp [intOf]; omega
      · obtain rfl : k = L.length := by omega
        go_wp2_with fail
        go_ret
        exact ⟨_, rfl, .inr ⟨g, cap, by simp, hg, by rw [← wrL_full]; exact HA.out⟩, HB.out⟩
end Go.Proofs.Yteafjobmlfkppaa
namespace Go.Proofs.Yteafjobmlfkppaa
open Go.RowKit
set_option linter.unusedVariables false
set_option maxRecDepth 100000

/-- an answer -/
structure AV where
  err : Int
  val : Int
  st : Bool
  out : Value
  dn : Bool
def AV.cs (x : AV) : List Value := [.int .u64 x.err, .int .u64 x.val, .bool x.st, x.out, .bool x.dn]
def AV.ca (x : AV) : Array Value := x.cs.toArray
@[reducible] def AV.v (x : AV) : Value := .agg x.ca
def nils : Value := .slice none 0 0
def AV.zero : AV := ⟨0, 0, false, nils, false⟩
theorem z_ans : (Try.prog.info? 56).map (fun i => i.zero) = some (some (.agg AV.zero.ca)) := by kernel_rfl
theorem s_ans : (Try.prog.info? 56).map (·.size) = some 5 := by kernel_rfl
theorem u_ans : Try.prog.underlying 56 = some (.struct (Try.prog.fieldsOf 56)) := by kernel_rfl
def A1 (w : World) (g : Nat) (x : AV) : Prop := w.heap[g]? = some (.cells x.ca 56 (0, 0))
theorem A1.below {w w' : World} {g : Nat} {x : AV} (h : A1 w g x) (hb : Below w.heap.size w w') : A1 w' g x := (hb.block g (lt_of_block h)).trans h
theorem A1.only {w w' : World} {g : Nat} {x : AV} (h : A1 w g x) {S : Nat → Prop} (ho : C.Only S w w') (hs : ¬ S g) : A1 w' g x := ho.old h hs
theorem A1.new {w : World} (x : AV) : A1 (w.alloc (.cells x.ca 56)) w.heap.size x := heap_alloc_new w _
theorem A1.c {w : World} {g : Nat} {x : AV} (h : A1 w g x) (j : Nat) : w.cell? ⟨g, j, none⟩ = x.ca[j]? := cell_of_row w g j _ _ _ h
theorem aca_one (x : AV) (h : x.out.oneCell' = true) : x.ca.all (·.oneCell') = true := by
  simp only [AV.ca, AV.cs, List.all_toArray, List.all_cons, List.all_nil, h]; rfl
theorem wpL_storeA {ops : Array Oper} {rest : List Oper} {d : Option Nat} {tt : TypeId} {x y : Operand} {pos : String} {after : Array Edge} {a : Act} {w : World} {Q : Exit → Act → World → Prop}
    (g : Nat) (o z : AV) (hx : a.eval x = .pointer (some ⟨g, 0, none⟩)) (hy : a.eval y = z.v) (h1 : z.out.oneCell' = true) (h : A1 w g o)
    (K : ∀ w', A1 w' g z → C.Only (· = g) w w' → wpList Try.prog ops Q rest (a.put d undef) w') :
    wpList Try.prog ops Q ({ dst := d, op := Op.store 56 x y, type := tt, pos := pos, after := after, guard := none } :: rest) a w :=
  wpList_store_row rfl 56 x y rfl g _ hx hy 56 o.ca h (by rw [s_ans]; rfl) rfl (aca_one z h1) (K _ (heap_setRow _ _ _ _ _ h) ((C.Only.refl (S := (· = g)) w).setRow (g := g) (.inl rfl) _))
theorem ret_a {fn : Func} {p : Tmp} (hf : fn.results = #[.cell p 56]) {tmps : Array Value} {w : World} (g : Nat) (h : AV) (hp : tmps.getD p undef = .pointer (some ⟨g, 0, none⟩)) (hg : A1 w g h) : (results fn tmps).run Try.prog w = .ok h.v w :=
  results_cell_row hf tmps w g 56 h.ca (0, 0) (.struct (Try.prog.fieldsOf 56)) hp hg u_ans rfl (by rw [s_ans]; rfl)
def aErr (n : Int) : AV := ⟨n, 0, false, nils, false⟩
def aVal (n : Int) : AV := ⟨0, n, false, nils, false⟩
def aStay : AV := ⟨0, 0, true, nils, false⟩
def aDown : AV := ⟨0, 0, true, nils, true⟩
def aOut (n : Int) (o : Value) : AV := ⟨0, n, false, o, false⟩
theorem b_err (n : Int) : Try.prog.built 56 [(0, .int .u64 n)] = some (aErr n).ca := by kernel_rfl
theorem b_val (n : Int) : Try.prog.built 56 [(1, .int .u64 n)] = some (aVal n).ca := by kernel_rfl
theorem b_zero : Try.prog.built 56 [] = some AV.zero.ca := by kernel_rfl
theorem b_stay : Try.prog.built 56 [(2, .bool true)] = some aStay.ca := by kernel_rfl
theorem b_down : Try.prog.built 56 [(2, .bool true), (4, .bool true)] = some aDown.ca := by kernel_rfl
theorem b_out (n : Int) (o : Option Addr) (l c : Nat) : Try.prog.built 56 [(1, .int .u64 n), (3, .slice o l c)] = some (aOut n (.slice o l c)).ca := by kernel_rfl
/-- one cell in a block of its own -/
def C1 (w : World) (g : Nat) (u : Value) : Prop := ∃ t, w.heap[g]? = some (.cells #[u] t (0, 0))
theorem C1.lt {w : World} {g : Nat} {u : Value} (h : C1 w g u) : g < w.heap.size := by obtain ⟨t, h⟩ := h; exact lt_of_block h
theorem C1.below {w w' : World} {g : Nat} {u : Value} (h : C1 w g u) (hb : Below w.heap.size w w') : C1 w' g u := by obtain ⟨t, h⟩ := h; exact ⟨t, (hb.block g (lt_of_block h)).trans h⟩
theorem C1.only {w w' : World} {g : Nat} {u : Value} (h : C1 w g u) {S : Nat → Prop} (ho : C.Only S w w') (hs : ¬ S g) : C1 w' g u := by obtain ⟨t, h⟩ := h; exact ⟨t, ho.old h hs⟩
theorem C1.c {w : World} {g : Nat} {u : Value} (h : C1 w g u) : w.cell? ⟨g, 0, none⟩ = some u := by obtain ⟨t, h⟩ := h; rw [cell_of_row w g 0 _ _ _ h]; rfl
theorem Vb.above {w w' : World} {g : Nat} {L : List VV} (h : Vb w g L) (hb : Below w.heap.size w w') : Vb w' g L := h.below hb

theorem v_stopped (w : World) (g cap : Nat) (L : List VV) (hL : L.length < 9223372036854775808) (hv : Vb w g L) (n : Int) (n0 : 0 ≤ n) (n1 : n < 18446744073709551616) :
    Calls Try.prog 54 #[.slice (some ⟨g, 0, none⟩) L.length cap, .int .u64 n] w fun e w' => e = .returned (AV.v (match L[n.toNat]? with | none => aErr 18446744073709551613 | some x => aVal (bif decide (x.st = 0) then 1 else 0))) ∧ Below w.heap.size w w' := by
  have HV := hid hv
  clear hv
  have AN := hid (A1.new (w := w) AV.zero)
  have HB0 := hid ((Below.refl w.heap.size w).alloc (Nat.le_refl _) (.cells AV.zero.ca 56))
  by_cases hn : n < L.length
  · obtain ⟨k, rfl⟩ : ∃ k : Nat, n = k := ⟨n.toNat, by omega⟩
    have hk : k < L.length := by omega
    obtain ⟨x, hx⟩ : ∃ x, L[k]? = some x := ⟨_, List.getElem?_eq_getElem hk⟩
    rw [Int.toNat_natCast, hx]
    simp only
    clear n0 n1
    have HV2 := hid (HV.out.below ((Below.refl w.heap.size w).alloc (Nat.le_refl _) (.cells AV.zero.ca 56)))
    have HX := hid hx
    clear hx
    have c49 : ∀ u, Vb u g L → u.cell? ⟨g, k * 52 + 49, none⟩ = some (.int .i64 x.st) := fun u h => h.cell HX.out 49 (by omega)
    have c49' := c49 _ HV2.out
    clear c49
    go_enter Try.func54, Try.ntmps54
    go_wp2_with (first
      | ((with_reducible refine wpList_new (z := .agg AV.zero.ca) AV.zero.ca ?_ ?_ ?_); rfl; exact z_ans)
      | (go_at_call 31; refine (v_bit _ _ _).mono ?_; rintro e w1 ⟨rfl, rfl⟩)
      | ((with_reducible refine wpL_built [(1, .int .u64 (bif decide (x.st = 0) then 1 else 0))] (aVal (bif decide (x.st = 0) then 1 else 0)).ca ?_ ?_ ?_); rfl; exact b_val _)
      | ((with_reducible refine wpL_storeA w.heap.size AV.zero (aVal (bif decide (x.st = 0) then 1 else 0)) ?_ ?_ ?_ ?_ ?_); rfl; rfl; rfl; exact AN.out; intro w2 h2 ho2; have D1 := hid h2; have HB2 := hid (only_below HB0.out (Nat.le_refl _) ho2 HB0.out.size); clear h2 ho2))
    exact bodyPost_ret (ret_a Try.results54 w.heap.size _ rfl D1.out) rfl ⟨rfl, HB2.out⟩
  · rw [List.getElem?_eq_none (by omega)]
    simp only
    go_enter Try.func54, Try.ntmps54
    go_wp2_with (first
      | ((with_reducible refine wpList_new (z := .agg AV.zero.ca) AV.zero.ca ?_ ?_ ?_); rfl; exact z_ans)
      | ((with_reducible refine wpL_built [(0, .int .u64 18446744073709551613)] (aErr 18446744073709551613).ca ?_ ?_ ?_); rfl; exact b_err _)
      | ((with_reducible refine wpL_storeA w.heap.size AV.zero (aErr 18446744073709551613) ?_ ?_ ?_ ?_ ?_); rfl; rfl; rfl; exact AN.out; intro w2 h2 ho2; have D1 := hid h2; have HB2 := hid (only_below HB0.out (Nat.le_refl _) ho2 HB0.out.size); clear h2 ho2))
    exact bodyPost_ret (ret_a Try.results54 w.heap.size _ rfl D1.out) rfl ⟨rfl, HB2.out⟩
/-- one is begun -/
def startL (L : List VV) (n pc a1 : Int) : List VV × AV := match L[n.toNat]? with
  | none => (L, aErr 18446744073709551613)
  | some x => if x.st ≠ 0 then (L, aErr 18446744073709551610) else (L.set n.toNat (stdV pc n a1), AV.zero)
theorem only2 {g : Nat} {a b c : World} {p : Nat} (h : C.Only (· = g) a b) (k : C.Only (· = p) b c) (hp : a.heap.size ≤ p) : C.Only (· = g) a c :=
  ⟨k.os.trans h.os, k.tape.trans h.tape, k.output.trans h.output, Nat.le_trans h.size k.size, fun i hi q => (k.block i (Nat.lt_of_lt_of_le hi h.size) (fun (z : i = p) => by omega)).trans (h.block i hi q)⟩
theorem v_start (w : World) (g cap : Nat) (L : List VV) (hL : L.length < 9223372036854775808) (hv : Vb w g L) (n pc a1 : Int) (n0 : 0 ≤ n) (n1 : n < 18446744073709551616) (p : 0 ≤ pc ∧ pc < 18446744073709551616) (q : 0 ≤ a1 ∧ a1 < 18446744073709551616) :
    Calls Try.prog 51 #[.slice (some ⟨g, 0, none⟩) L.length cap, .int .u64 n, .int .u64 pc, .int .u64 a1] w fun e w' => e = .returned (startL L n pc a1).2.v ∧ Vb w' g (startL L n pc a1).1 ∧ C.Only (· = g) w w' := by
  have HV := hid hv
  have hgl := hv.lt
  clear hv
  have AN := hid (A1.new (w := w) AV.zero)
  have HB0 := hid ((Below.refl w.heap.size w).alloc (Nat.le_refl _) (.cells AV.zero.ca 56))
  have HV2 := hid (HV.out.below HB0.out)
  by_cases hn : n < L.length
  · obtain ⟨k, rfl⟩ : ∃ k : Nat, n = k := ⟨n.toNat, by omega⟩
    have hk : k < L.length := by omega
    obtain ⟨x, hx⟩ : ∃ x, L[k]? = some x := ⟨_, List.getElem?_eq_getElem hk⟩
    have HX := hid hx
    have HN := hid (And.intro n0 n1)
    clear n0 n1
    have c49' : (w.alloc (.cells AV.zero.ca 56)).cell? ⟨g, k * 52 + 49, none⟩ = some (.int .i64 x.st) := HV2.out.cell hx 49 (by omega)
    by_cases hs : x.st = 0
    · have e : startL L k pc a1 = (L.set k (stdV pc k a1), AV.zero) := by simp [startL, hx, hs]
      rw [e]
      clear hx e
      go_enter Try.func51, Try.ntmps51
      go_wp2_with (first
        | ((with_reducible refine wpList_new (z := .agg AV.zero.ca) AV.zero.ca ?_ ?_ ?_); rfl; exact z_ans)
        | (go_at_call 28; refine (v_started pc k a1 p HN.out q _).mono ?_; rintro e w1 ⟨rfl, hb⟩; have B1 := hid (HV2.out.below hb); have B2 := hid (AN.out.below hb); have HB1 := hid (HB0.out.trans (hb.mono HB0.out.size)); clear hb)
        | ((with_reducible refine wpL_vstore g k L (stdV pc k a1) ?_ ?_ ?_ ?_ ?_); rfl; rfl; exact B1.out; exact hk; intro w2 h2 ho2; have D1 := hid h2; have D2 := hid (B2.out.only ho2 (fun (q : _ = _) => by omega)); have DO := hid (C.Only.trans (C.Only.ofBelow HB1.out) ho2); clear h2 ho2)
        | ((with_reducible refine wpL_built [] AV.zero.ca ?_ ?_ ?_); rfl; exact b_zero)
        | ((with_reducible refine wpL_storeA w.heap.size AV.zero AV.zero ?_ ?_ ?_ ?_ ?_); rfl; rfl; rfl; exact D2.out; intro w3 h3 ho3; have E1 := hid h3; have E2 := hid (D1.out.only ho3 (fun (q : _ = _) => by omega)); have EO := hid (only2 DO.out ho3 (Nat.le_refl _)); clear h3 ho3))
      exact bodyPost_ret (ret_a Try.results51 w.heap.size _ rfl E1.out) rfl ⟨rfl, E2.out, EO.out⟩
    · have e : startL L k pc a1 = (L, aErr 18446744073709551610) := by simp [startL, hx, hs]
      rw [e]
      clear hx e
      go_enter Try.func51, Try.ntmps51
      go_wp2_with (first
        | ((with_reducible refine wpList_new (z := .agg AV.zero.ca) AV.zero.ca ?_ ?_ ?_); rfl; exact z_ans)
        | ((with_reducible refine wpL_built [(0, .int .u64 18446744073709551610)] (aErr 18446744073709551610).ca ?_ ?_ ?_); rfl; exact b_err _)
        | ((with_reducible refine wpL_storeA w.heap.size AV.zero (aErr 18446744073709551610) ?_ ?_ ?_ ?_ ?_); rfl; rfl; rfl; exact AN.out; intro w2 h2 ho2; have D1 := hid h2; have D2 := hid (HV2.out.only ho2 (fun (q : _ = _) => by omega)); have HB2 := hid (only_below HB0.out (Nat.le_refl _) ho2 HB0.out.size); clear h2 ho2))
      exact bodyPost_ret (ret_a Try.results51 w.heap.size _ rfl D1.out) rfl ⟨rfl, D2.out, C.Only.ofBelow HB2.out⟩
  · have e : startL L n pc a1 = (L, aErr 18446744073709551613) := by simp [startL, List.getElem?_eq_none (show L.length ≤ n.toNat by omega)]
    rw [e]
    clear e
    go_enter Try.func51, Try.ntmps51
    go_wp2_with (first
      | ((with_reducible refine wpList_new (z := .agg AV.zero.ca) AV.zero.ca ?_ ?_ ?_); rfl; exact z_ans)
      | ((with_reducible refine wpL_built [(0, .int .u64 18446744073709551613)] (aErr 18446744073709551613).ca ?_ ?_ ?_); rfl; exact b_err _)
      | ((with_reducible refine wpL_storeA w.heap.size AV.zero (aErr 18446744073709551613) ?_ ?_ ?_ ?_ ?_); rfl; rfl; rfl; exact AN.out; intro w2 h2 ho2; have D1 := hid h2; have D2 := hid (HV2.out.only ho2 (fun (q : _ = _) => by omega)); have HB2 := hid (only_below HB0.out (Nat.le_refl _) ho2 HB0.out.size); clear h2 ho2))
    exact bodyPost_ret (ret_a Try.results51 w.heap.size _ rfl D1.out) rfl ⟨rfl, D2.out, C.Only.ofBelow HB2.out⟩
end Go.Proofs.Yteafjobmlfkppaa
