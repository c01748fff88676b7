/- Same: a memory and the reference's hold the same bytes. -/
import Derived.Test.YtlfdokkopgmfjaaGreatDoorMC6
namespace Go.Proofs.YtlfdokkopgmfjaaGreatDoor.C
open Go.RowKit
set_option linter.unusedVariables false
set_option maxRecDepth 100000
theorem c_BytesF (w : World) (S : Nat → Prop) (p : Nat) (base : Int) (n : Nat) (f : Nat → Int) (h : Mem w S p base n f) (off : Nat) (hl : off + 4096 ≤ 4096 * n) (addr : Int) (ha : addr = base + off) :
    Calls Tryz.prog 19 #[.pointer (some ⟨p, 0, none⟩), .int .u64 addr, .int .i64 4096] w fun e w' => ∃ b, e = .returned (.tuple #[.slice (some ⟨b, 0, none⟩) 4096 4096, .bool true]) ∧ w'.heap[b]? = some (.cells (row (fun j => f (off + j)) 0 4096).toArray 5 (0, 0)) ∧ w.heap.size ≤ b ∧ Below w.heap.size w w' :=
  c_Bytes w S p base n f h off 4096 hl addr ha
/-- a call of a function of three arguments, as one step of a region that draws its order; its guard, if it has one, says yes -/
theorem step_call3 {P : Program} {ops : Array Oper} {o : Oper} {a : Act} {w : World} {K : Act → World → Prop} {Q : Exit → Act → World → Prop} {E : Prop} (hw : Region.wanted o (yielded ops a.tmps) = true) (f : FuncId) (x y z : Operand) (ts : Array TypeId)
    (ho : o.op = .call { callee := .value (.func f), args := #[x, y, z], argTypes := ts }) (vx vy vz : Value) (hx : a.eval x = vx) (hy : a.eval y = vy) (hz : a.eval z = vz) (hnf : (callFunc f #[vx, vy, vz]).run P w = .ok (.enter f #[vx, vy, vz]) w) {R : Ending → World → Prop} (hc : Calls P f #[vx, vy, vz] w R)
    (h : ∀ e w', R e w' → ∃ v, e = .returned v ∧ K (a.put o.dst v) w') :
    if Region.wanted o (yielded ops a.tmps) = true then Oper.wp P o a w K Q else E := by
  rw [if_pos hw]
  have he : (execOp a.eval o).run P w = .ok (.enter f #[vx, vy, vz]) w := by
    have hf : a.eval (.func f) = .func (.func f) #[] #[] := rfl
    simp [execOp, ho, resolve, invoke, Deferred.ofValue, hf, hx, hy, hz, hnf]
  unfold Oper.wp
  rw [he, Oper.upon_enter]
  refine hc.mono fun e w' hR => ?_
  obtain ⟨v, rfl, hk⟩ := h e w' hR
  exact hk
theorem c_zero (w : World) (u : Value) (f : Nat → Int) (hu : Sl w u 4096 f) (hf : ∀ j, j < 4096 → f j = 0) :
    Calls Tryz.prog 20 #[u] w fun e w' => e = .returned (.bool true) ∧ Still w w' := by
  obtain ⟨ad, cap, rfl, hc, a, hh⟩ := hu
  obtain ⟨rfl, _, hcell⟩ := hh (by decide)
  have H1 := hid hcell
  have H3 := hid hf
  clear hcell hf hh
  go_enter Tryz.func20, Tryz.ntmps20
  go_wp2
  go_loopw [3] (fun i wr => ∃ k : Nat, k ≤ 4096 ∧ i = .int .i64 k ∧ Still w wr) (fun i _ => 4096 - (intOf i).toNat)
  case atStart => exact ⟨0, by omega, rfl, .refl w⟩
  case round =>
    obtain ⟨k, hk, rfl, hst⟩ := hrel
    by_cases hlt : k < 4096
    · have k1 : wr.cell? (a.add k) = some (.int .u8 0) := by rw [hst.cell, H1.out k hlt, H3.out k hlt]
      have HS := hid hst
      clear hst
      go_wp2
      go_roundw
      case rel => exact ⟨k + 1, by omega, by go_num, HS.out⟩
      case measure => simp [intOf]; omega
    · go_wp2
      go_ret
      exact ⟨rfl, hst⟩
set_option maxHeartbeats 1000000 in
theorem c_Same (w : World) (S T : Nat → Prop) (p q : Nat) (base : Int) (n : Nat) (f : Nat → Int) (hm : Mem w S p base n f) (hq : RMem w T q base n f) :
    Calls Tryz.prog 7 #[.agg #[.pointer (some ⟨p, 0, none⟩), .pointer (some ⟨q, 0, none⟩)]] w fun e w' => e = .returned (.bool true) ∧ Below w.heap.size w w' := by
  obtain ⟨b0, b1, l0, l1⟩ := hm.nums
  have HM := hid hm
  obtain ⟨g, hs, hr, rfl, hT⟩ := hq
  have HQ := hid hr
  clear hm hr
  go_enter Tryz.func7, Tryz.ntmps7
  go_wp2
  go_loopw [3] (fun i wr => ∃ k : Nat, k ≤ hs.length ∧ i = .int .i64 k ∧ wr.heap[w.heap.size]? = some (.cells #[.pointer (some ⟨p, 0, none⟩), .pointer (some ⟨q, 0, none⟩)] 33 (0, 0)) ∧ Below w.heap.size w wr) (fun i _ => hs.length - (intOf i).toNat)
  case atStart => exact ⟨0, by omega, rfl, heap_alloc_new w _, (Below.refl _ _).alloc (Nat.le_refl _) _⟩
  case round =>
    obtain ⟨k, hk, rfl, hg, hb⟩ := hrel
    have t0 : wr.cell? ⟨w.heap.size, 0, none⟩ = some (.pointer (some ⟨p, 0, none⟩)) := by rw [cell_of_row wr _ 0 _ _ _ hg]; rfl
    have t1 : wr.cell? ⟨w.heap.size, 1, none⟩ = some (.pointer (some ⟨q, 0, none⟩)) := by rw [cell_of_row wr _ 1 _ _ _ hg]; rfl
    have hR : QM wr q g base hs f := HQ.out.only (T := fun _ => False) (.ofBelow hb) fun _ _ e => e
    have HMr : Hid (Mem wr S p base hs.length f) := Mem.below HM.out hb
    have HGb := hid hg
    have HBr := hid hb
    have HRR := hid hR
    have d0 := hR.cell0
    have d1 := hR.cell1
    have hgl := lt_of_block hR.tab
    have hql := lt_of_block hR.top
    have hbl := lt_of_block hg
    clear hg hb
    by_cases hlt : k < hs.length
    · obtain ⟨x, hx⟩ : ∃ x, hs[k]? = some x := ⟨_, List.getElem?_eq_getElem hlt⟩
      have cT := hR.cellT _ x hx
      have d2 := hR.cell2
      clear hR
      have hnil := eq_nil
      have HW : Hid (IntKind.u64.wrap (base + IntKind.u64.wrap (IntKind.u64.wrap (k : Int) * 4096)) = base + (k : Int) * 4096) := by show _ = _; rw [IntKind.wrap_u64, IntKind.wrap_u64, IntKind.wrap_u64]; omega
      cases x with
      | none =>
        simp only [fv] at cT
        have HZ : Hid (∀ j, j < 4096 → (fun j => f (k * 4096 + j)) j = 0) := fun j hj => by show f (k * 4096 + j) = 0; rw [Nat.mul_comm]; exact HRR.out.bare k hx j hj
        go_wp2
        go_region_law (refine step_call3 (by simp [Region.wanted]) 19 (.tmp 17) (.tmp 26) (.const (.int .i64 4096)) #[30, 22, 3] rfl (.pointer (some ⟨p, 0, none⟩)) (.int .u64 (base + (k : Int) * 4096)) (.int .i64 4096) (by go_simp) (by go_simp; exact HW.out) rfl (Tryz.call19 _ _) (c_BytesF _ S p base hs.length f (Mem.drew HMr.out) (k * 4096) (by omega) _ (by omega)) ?_; rintro e w5 ⟨b5, rfl, hg5, hb5', hb5⟩; have HG5 := hid hg5; have HB5 := hid hb5; clear hg5 hb5; refine ⟨_, rfl, ?_⟩)
        all_goals (
          have t1' := (Below.cell HB5.out (p := ⟨w.heap.size, 1, none⟩) hbl).trans t1; have d2' := (Below.cell HB5.out (p := ⟨q, 2, none⟩) hql).trans d2; have cT' := (Below.cell HB5.out (p := ⟨g, k, none⟩) hgl).trans cT
          go_wp2_with (first
            | (go_at_call 20; refine (c_zero w5 _ _ (Sl.row HG5.out) HZ.out).mono ?_; rintro e w6 ⟨rfl, hst⟩; have HST := hid hst; clear hst))
          go_roundw
          case rel => exact ⟨k + 1, by omega, by go_num, by rw [HST.out.heap]; exact (HB5.out.block _ hbl).trans HGb.out, ((HBr.out.drew).trans (HB5.out.mono HBr.out.size)).trans (HST.out.below _)⟩
          case measure => simp [intOf]; omega)
      | some hc =>
        obtain ⟨hh, c⟩ := hc
        simp only [fv] at cT
        obtain ⟨hc4, cur, hgc, hcur⟩ := HRR.out.full k hh c hx
        have HCU := hid hcur
        have HGC := hid hgc
        clear hgc hcur
        go_wp2
        go_region_law (refine step_call3 (by simp [Region.wanted]) 19 (.tmp 17) (.tmp 26) (.const (.int .i64 4096)) #[30, 22, 3] rfl (.pointer (some ⟨p, 0, none⟩)) (.int .u64 (base + (k : Int) * 4096)) (.int .i64 4096) (by go_simp) (by go_simp; exact HW.out) rfl (Tryz.call19 _ _) (c_BytesF _ S p base hs.length f (Mem.drew HMr.out) (k * 4096) (by omega) _ (by omega)) ?_; rintro e w5 ⟨b5, rfl, hg5, hb5', hb5⟩; have HG5 := hid hg5; have HB5 := hid hb5; clear hg5 hb5; refine ⟨_, rfl, ?_⟩)
        all_goals (
          have t1' := (Below.cell HB5.out (p := ⟨w.heap.size, 1, none⟩) hbl).trans t1; have d2' := (Below.cell HB5.out (p := ⟨q, 2, none⟩) hql).trans d2; have cT' := (Below.cell HB5.out (p := ⟨g, k, none⟩) hgl).trans cT
          go_wp2_with (first
            | (go_at_call 21; refine (c_SameBytes w5 4096 (by decide) _ _ _ (fun j => f (4096 * k + j)) (Sl.row HG5.out) ⟨_, c, rfl, hc4, ⟨hh, 0, none⟩, fun _ => ⟨rfl, Nat.lt_of_lt_of_le (lt_of_block HGC.out) HB5.out.size, fun j hj => by rw [addr_add, Nat.zero_add, Below.cell HB5.out (p := ⟨hh, j, none⟩) (lt_of_block HGC.out)]; exact (cell_of_row wr hh j _ _ _ HGC.out).trans (HCU.out j hj)⟩⟩ (fun j hj => by show f (k * 4096 + j) = f (4096 * k + j); rw [Nat.mul_comm])).mono ?_; rintro e w6 ⟨rfl, hst⟩; have HST := hid hst; clear hst))
          go_roundw
          case rel => exact ⟨k + 1, by omega, by go_num, by rw [HST.out.heap]; exact (HB5.out.block _ hbl).trans HGb.out, ((HBr.out.drew).trans (HB5.out.mono HBr.out.size)).trans (HST.out.below _)⟩
          case measure => simp [intOf]; omega)
    · obtain rfl : k = hs.length := by omega
      go_wp2
      go_ret
      exact ⟨rfl, HBr.out⟩
end Go.Proofs.YtlfdokkopgmfjaaGreatDoor.C
