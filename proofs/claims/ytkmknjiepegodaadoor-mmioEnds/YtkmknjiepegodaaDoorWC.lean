/- Regions that draw: whole structs are read, callees lay blocks, the last operation waits for all. -/
import Derived.Test.YtkmknjiepegodaaDoorWB
namespace Go.Proofs.YtkmknjiepegodaaDoor
open Go.RowKit
set_option linter.unusedVariables false
set_option maxRecDepth 100000

theorem wp_last_wb {P : Program} {id : Nat} {Q : Exit → Act → World → Prop} {a : Act} {w : World} {L : List Oper} (hne : L ≠ []) (hm : P.follows .mixedOrders = true) (hB : Region.lexB .any L.toArray = true) (hc : covB .any L.toArray L.dropLast.length = true)
    (h : wpQuiet P L.toArray (fun w' => ∃ x : WB w, w' = x.w) (fun a' => ∀ w', (∃ x : WB w, w' = x.w) → wpList P L.toArray Q [L.getLast hne] a' w') L.dropLast a) : (Code.region id L.toArray true).wp P Q a w :=
  wp_region_last (C := fun w' => ∃ x : WB w, w' = x.w) (List.dropLast_concat_getLast hne).symm hm hB hc ⟨⟨w.drew, (Below.refl _ _).drew⟩, rfl⟩ h
/-- a part of a block, read whole -/
theorem wpQuiet_load_sub {ops : Array Oper} {C : World → Prop} {Q : Act → Prop} {rest : List Oper} {d : Option Nat} {ty tt : TypeId} {x : Operand} {pos : String} {after : Array Edge} {gd : Option (Nat × Bool)} {a : Act} (g off : Nat) (t : TypeId) (cs sub : Array Value) (fs : Array Field) (hx : a.eval x = .pointer (some ⟨g, off, none⟩))
    (hw : Region.wanted { dst := d, op := Op.load ty x, type := tt, pos := pos, after := after, guard := gd } (yielded ops a.tmps) = true)
    (hg : ∀ w', C w' → w'.heap[g]? = some (.cells cs t (0, 0))) (hs : ∀ j v, sub.toList[j]? = some v → cs[off + j]? = some v) (hu : Tryd.prog.underlying ty = some (.struct fs)) (hi : (Tryd.prog.info? ty).map (·.size) = some sub.size)
    (hK : wpQuiet Tryd.prog ops C Q rest (a.put d (.agg sub))) : wpQuiet Tryd.prog ops C Q ({ dst := d, op := Op.load ty x, type := tt, pos := pos, after := after, guard := gd } :: rest) a := by
  refine wpQuiet_step fun K hK' => ?_
  rw [if_pos hw]
  refine ⟨.agg sub, fun w' hw' => ?_, hK' _ hK⟩
  unfold Oper.quietAt execOp
  simp only [hx, Instr.loadAt, Instr.sureAddr, Sem.run_bind, Sem.run_pure, Result.andThen_ok, run_loadVar_sub w' g off t ty cs sub (0, 0) (.struct fs) (hg w' hw') hs hu rfl hi]
  exact ⟨rfl, rfl⟩
theorem wpQuiet_load_one {ops : Array Oper} {C : World → Prop} {Q : Act → Prop} {rest : List Oper} {d : Option Nat} {ty tt : TypeId} {x : Operand} {pos : String} {after : Array Edge} {gd : Option (Nat × Bool)} {a : Act} (g k : Nat) (t : TypeId) (cs : Array Value) (v : Value) (hx : a.eval x = .pointer (some ⟨g, k, none⟩))
    (hw : Region.wanted { dst := d, op := Op.load ty x, type := tt, pos := pos, after := after, guard := gd } (yielded ops a.tmps) = true)
    (ht : ∀ w' : World, w'.cell? ⟨g, k, none⟩ = some v → (loadVar ty ⟨g, k, none⟩).run Tryd.prog w' = .ok v w')
    (hg : ∀ w', C w' → w'.heap[g]? = some (.cells cs t (0, 0))) (hv : cs[k]? = some v) (hK : wpQuiet Tryd.prog ops C Q rest (a.put d v)) : wpQuiet Tryd.prog ops C Q ({ dst := d, op := Op.load ty x, type := tt, pos := pos, after := after, guard := gd } :: rest) a := by
  refine wpQuiet_step fun K hK' => ?_
  rw [if_pos hw]
  refine ⟨v, fun w' hw' => ?_, hK' _ hK⟩
  unfold Oper.quietAt execOp
  simp only [hx, Instr.loadAt, Instr.sureAddr, Sem.run_bind, Sem.run_pure, Result.andThen_ok, ht w' ((cell_of_row w' g k cs t (0, 0) (hg w' hw')).trans hv)]
  exact ⟨rfl, rfl⟩
theorem wd_n {d : Option Nat} {o : Op} {tt : TypeId} {pos : String} {after : Array Edge} {f : Nat → Option Bool} : Region.wanted { dst := d, op := o, type := tt, pos := pos, after := after, guard := none } f = true := by simp [Region.wanted]
theorem wd_s {d : Option Nat} {o : Op} {tt : TypeId} {pos : String} {after : Array Edge} {f : Nat → Option Bool} {j : Nat} {b : Bool} (h : f j = some b) : Region.wanted { dst := d, op := o, type := tt, pos := pos, after := after, guard := some (j, b) } f = true := by simp [Region.wanted, h]
theorem lv_int {w : World} {p : Addr} {v : Value} (h : w.cell? p = some v) : (loadVar 3 p).run Tryd.prog w = .ok v w := by
  simp [loadVar, go_sem, h]
theorem lv_u64 {w : World} {p : Addr} {v : Value} (h : w.cell? p = some v) : (loadVar 22 p).run Tryd.prog w = .ok v w := by
  simp [loadVar, go_sem, h]
theorem lv_bool {w : World} {p : Addr} {v : Value} (h : w.cell? p = some v) : (loadVar 4 p).run Tryd.prog w = .ok v w := by
  simp [loadVar, go_sem, h]
theorem u_event : Tryd.prog.underlying 28 = some (.struct (Tryd.prog.fieldsOf 28)) := by kernel_rfl
theorem s_event : (Tryd.prog.info? 28).map (·.size) = some 6 := by kernel_rfl
@[reducible] def eCa (e : EV) : Array Value := #[.int .i64 e.kind, .int .i64 e.access, .int .u64 e.va, .int .u64 e.gpa, .bool e.walk, .bool e.wrote]
/-- the cause of an access that nobody does -/
def cz (n : Int) : Int := if n = 1 then 1 else if n = 2 then 5 else 7
theorem cz_b (n : Int) : 0 ≤ cz n ∧ cz n < 18446744073709551616 := by unfold cz; split; omega; split <;> omega
theorem k_causeOf (n : Int) (w : World) : Calls Tryd.prog 24 #[.int .i64 n] w fun e w' => e = .returned (.int .u64 (cz n)) ∧ w' = w := by
  by_cases h1 : n = 1
  · subst h1
    go_enter Tryd.func24, Tryd.ntmps24
    go_wp2
    go_ret
    exact ⟨rfl, rfl⟩
  by_cases h2 : n = 2
  · subst h2
    go_enter Tryd.func24, Tryd.ntmps24
    go_wp2
    go_ret
    exact ⟨rfl, rfl⟩
  have b1 : (n == 1) = false := by simpa using h1
  have b2 : (n == 2) = false := by simpa using h2
  have hc : cz n = 7 := by unfold cz; rw [if_neg h1, if_neg h2]
  rw [hc]
  clear hc h1 h2
  go_enter Tryd.func24, Tryd.ntmps24
  go_wp2
  go_ret
  exact ⟨rfl, rfl⟩
set_option maxHeartbeats 1000000 in
theorem k_Refuse (h : HV) (ok : HOk h) (e : EV) (hv : 0 ≤ e.va ∧ e.va < 18446744073709551616) (w : World) : Calls Tryd.prog 12 #[h.v, e.v] w fun r w' => r = .returned (trapH h (cz e.access) e.va).v ∧ Below w.heap.size w w' := by
  have HT : Hid (∀ u, Calls Tryd.prog 23 #[h.v, .int .u64 (cz e.access), .int .u64 e.va] u fun r w' => r = .returned (trapH h (cz e.access) e.va).v ∧ Below u.heap.size u w') := fun u => m_Trap h ok _ _ (cz_b _).1 (cz_b _).2 hv.1 hv.2 u
  clear ok hv
  obtain ⟨t, ht⟩ : ∃ t, t = trapH h (cz e.access) e.va := ⟨_, rfl⟩
  rw [← ht] at HT ⊢
  clear ht
  obtain ⟨c, hc⟩ : ∃ c, c = cz e.access := ⟨_, rfl⟩
  have HC : Hid (∀ u, Calls Tryd.prog 24 #[.int .i64 e.access] u fun r w' => r = .returned (.int .u64 c) ∧ Below u.heap.size u w') := fun u => (k_causeOf e.access u).mono fun r w' ⟨h1, h2⟩ => ⟨by rw [h1, hc], by rw [h2]; exact Below.refl _ _⟩
  rw [← hc] at HT
  clear hc
  go_enter Tryd.func12, Tryd.ntmps12
  go_upto_region 1 with (first
    | ((with_reducible refine wpList_new (z := .agg HV.zero.ca) HV.zero.ca ?_ ?_ ?_); rfl; exact z_hart))
  have H0 : Hid (∀ w', (∃ x : WB (((w.alloc (.cells h.ca 25)).alloc (.cells (eCa e) 28)).alloc (.cells HV.zero.ca 25)), w' = x.w) → w'.heap[w.heap.size]? = some (.cells h.ca 25 (0, 0))) := fun w' ⟨x, hx⟩ => by rw [hx]; exact (x.h.block _ (by simp; omega)).trans (heap3 _ _ _ _)
  have H1 : Hid (∀ w', (∃ x : WB (((w.alloc (.cells h.ca 25)).alloc (.cells (eCa e) 28)).alloc (.cells HV.zero.ca 25)), w' = x.w) → w'.heap[w.heap.size + 1]? = some (.cells (eCa e) 28 (0, 0))) := fun w' ⟨x, hx⟩ => by rw [hx]; exact (x.h.block _ (by simp)).trans (heap3' _ _ _ _)
  refine wp_last_wb (by simp) (by kernel_rfl) (by kernel_rfl) (by kernel_rfl) ?_
  simp only [List.dropLast, List.getLast]
  repeat
    first
      | ((with_reducible refine wpQuiet_loadH w.heap.size h ?_ H0.out ?_); rfl)
      | ((with_reducible refine wpQuiet_load_one (w.heap.size + 1) 1 28 (eCa e) (.int .i64 e.access) ?_ ?_ ?_ H1.out ?_ ?_); rfl; (simp [Region.wanted]); exact fun _ h => lv_int h; rfl)
      | ((with_reducible refine wpQuiet_load_one (w.heap.size + 1) 2 28 (eCa e) (.int .u64 e.va) ?_ ?_ ?_ H1.out ?_ ?_); rfl; (simp [Region.wanted]); exact fun _ h => lv_u64 h; rfl)
      | (refine wpQuiet_step (fun K hK => ?_)
         go_simp
         first
           | (refine hK _ ?_; clear hK K)
           | (refine ⟨_, fun _ => rfl, hK _ ?_⟩; clear hK K)
           | (refine ⟨.int .u64 c, fun x => ?_, hK _ ?_⟩
              · (go_at_call 24; exact Calls.wb x (HC.out x.w))
              clear hK K)
           | (refine ⟨t.v, fun x => ?_, hK _ ?_⟩
              · (go_at_call 23; exact Calls.wb x (HT.out x.w))
              clear hK K))
  refine wpQuiet_nil ?_
  intro _ hx
  obtain ⟨x, rfl⟩ := hx
  have HZ : Hid (x.w.heap[w.heap.size + 2]? = some (.cells HV.zero.ca 25 (0, 0))) := (x.h.block _ (by simp)).trans (heap3'' _ _ _ _)
  have HB : Hid (Below w.heap.size w x.w) := (below3 _ _ _).trans (x.h.mono (by simp; omega))
  go_wp2_with (first
    | ((with_reducible refine wpL_storeH (x := .tmp 4) (y := .tmp 11) (w.heap.size + 1 + 1) ?_ t ?_ HV.zero.ca ?_ rfl ?_); rfl; rfl; exact HZ.out))
  refine bodyPost_ret (ret_row Tryd.results12 (w.heap.size + 2) t rfl (heap_setRow _ _ _ _ _ HZ.out)) rfl ⟨rfl, below_setRow HB.out (by omega) _⟩
end Go.Proofs.YtkmknjiepegodaaDoor
