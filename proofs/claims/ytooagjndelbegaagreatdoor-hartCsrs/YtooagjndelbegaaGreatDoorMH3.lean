/- Where an address comes to, with no tables at either stage. -/
import Derived.Test.YtooagjndelbegaaGreatDoorMH2
import Derived.Test.YtooagjndelbegaaGreatDoorMC2
import Derived.Test.YtooagjndelbegaaGreatDoorMH1
namespace Go.Proofs.YtooagjndelbegaaGreatDoor
open Go.RowKit
open C (Only)
set_option linter.unusedVariables false
set_option maxRecDepth 100000

/-- a place -/
structure PV where
  pa : Int
  gpa : Int
  fault : Int
  walk : Bool
@[reducible] def PV.v (p : PV) : Value := .agg #[.int .u64 p.pa, .int .u64 p.gpa, .int .i64 p.fault, .bool p.walk]
def envV (s : SV) (v : CV) : Value := .agg #[.int .u64 s.was.satp, .int .u64 v.root, .bool s.was.user, .bool s.was.sum, .bool s.was.mxr]
set_option maxHeartbeats 1000000 in
theorem m_env (w : World) (b : Nat) (s : SV) (h : St w b s) (v : CV) (hc : Cr w s.core v) : Calls Tryz.prog 195 #[.pointer (some ⟨b, 0, none⟩)] w fun e w' => e = .returned (envV s v) ∧ Below w.heap.size w w' := by
  have hb := h.lt
  have hl := hc.lt
  have c0 : w.cell? ⟨b, 0, none⟩ = some (.pointer (some ⟨s.core, 0, none⟩)) := h.c 0
  have c49 : w.cell? ⟨b, 49, none⟩ = some (.int .u64 s.was.satp) := h.c 49
  have c35 : w.cell? ⟨b, 35, none⟩ = some (.bool s.was.user) := h.c 35
  have c39 : w.cell? ⟨b, 39, none⟩ = some (.bool s.was.sum) := h.c 39
  have c40 : w.cell? ⟨b, 40, none⟩ = some (.bool s.was.mxr) := h.c 40
  have k2 := hc.c.2.2.1
  go_enter Tryz.func195, Tryz.ntmps195
  go_wp2
  refine wp_region_last_lit (by simp) (by kernel_rfl) (by kernel_rfl) (by kernel_rfl) ?_
  simp only [List.dropLast, List.getLast]
  repeat (go_big_quiet_step (fail))
  refine wpQuiet_nil ?_
  intro _ hwq
  obtain ⟨nq, hwq⟩ := hwq
  subst hwq
  go_wp2
  refine bodyPost_ret (v := envV s v) (by simp [results, Tryz.results195, go_sem, envV]) rfl ⟨rfl, ?_⟩
  (repeat (first | (with_reducible exact Below.refl _ _) | (with_reducible assumption) | refine Below.setCell ?_ (by first | exact Nat.le_refl _ | simp | (simp; omega)) _ | refine Below.alloc ?_ (by first | exact Nat.le_refl _ | simp | (simp; omega)) _ | refine below_dn ?_ _ | refine below_setRow ?_ (by first | exact Nat.le_refl _ | simp | (simp; omega)) _))
theorem m_second0 (w : World) (v : CV) (c : Nat) (hc : Cr w c v) (h0 : v.root = 0) (gpa acc : Int) : Calls Tryz.prog 196 #[.pointer (some ⟨c, 0, none⟩), .int .u64 gpa, .int .i64 acc] w fun e w' => e = .returned (.tuple #[.int .u64 gpa, .int .i64 0]) ∧ w' = w := by
  have k2 := hc.c.2.2.1
  rw [h0] at k2
  go_enter Tryz.func196, Tryz.ntmps196
  go_wp2
  go_ret2
  exact ⟨rfl, rfl⟩
theorem m_placeOf0 (w : World) (v : CV) (c : Nat) (hc : Cr w c v) (h0 : v.root = 0) (gpa acc : Int) : Calls Tryz.prog 221 #[.int .u64 gpa, .int .i64 acc, .func (.func 196) #[.pointer (some ⟨c, 0, none⟩)] #[]] w fun e w' => e = .returned (PV.v ⟨gpa, gpa, 0, false⟩) ∧ Below w.heap.size w w' := by
  go_enter Tryz.func221, Tryz.ntmps221
  go_wp2_with (go_at_call 196; refine (m_second0 _ v c (hc.below ((Below.refl _ _).alloc (Nat.le_refl _) _)) h0 gpa acc).mono ?_; rintro e w' ⟨rfl, rfl⟩)
  refine bodyPost_ret (v := PV.v ⟨gpa, gpa, 0, false⟩) (by simp [results, Tryz.results221, go_sem]) rfl ⟨rfl, ?_⟩
  (repeat (first | (with_reducible exact Below.refl _ _) | (with_reducible assumption) | refine Below.setCell ?_ (by first | exact Nat.le_refl _ | simp | (simp; omega)) _ | refine Below.alloc ?_ (by first | exact Nat.le_refl _ | simp | (simp; omega)) _ | refine below_dn ?_ _ | refine below_setRow ?_ (by first | exact Nat.le_refl _ | simp | (simp; omega)) _))
theorem m_Both0 (w : World) (v : CV) (c : Nat) (hc : Cr w c v) (h0 : v.root = 0) (p satp root va acc : Int) (u sm mx : Bool) (s0 : 0 ≤ satp) (s1 : satp < 1152921504606846976) (mv : Value) :
    Calls Tryz.prog 194 #[mv, .agg #[.int .u64 satp, .int .u64 root, .bool u, .bool sm, .bool mx], .int .u64 va, .int .i64 acc, .func (.func 196) #[.pointer (some ⟨c, 0, none⟩)] #[]] w fun e w' => e = .returned (PV.v ⟨va, va, 0, false⟩) ∧ Below w.heap.size w w' := by
  have e0 : satp / 1152921504606846976 = 0 := by omega
  go_enter Tryz.func194, Tryz.ntmps194
  go_wp2_with (go_at_call 221; refine (m_placeOf0 _ v c (hc.below (((Below.refl _ _).alloc (Nat.le_refl _) _).alloc (by simp) _)) h0 va acc).mono ?_; rintro e w' ⟨rfl, hb⟩; obtain ⟨kc, kf⟩ := B.bcell hb; have kz : w.heap.size + 1 < w'.heap.size := (by have := hb.size; simp at this; omega); have kb : Below w.heap.size w w' := (((Below.refl _ _).alloc (Nat.le_refl _) _).alloc (by simp) _).trans (hb.mono (by simp; omega)))
  refine bodyPost_ret (v := PV.v ⟨va, va, 0, false⟩) (by simp [results, Tryz.results194, go_sem, kc]) rfl ⟨rfl, ?_⟩
  (repeat (first | (with_reducible exact Below.refl _ _) | (with_reducible assumption) | refine Below.setCell ?_ (by first | exact Nat.le_refl _ | simp | (simp; omega)) _ | refine Below.alloc ?_ (by first | exact Nat.le_refl _ | simp | (simp; omega)) _ | refine below_dn ?_ _ | refine below_setRow ?_ (by first | exact Nat.le_refl _ | simp | (simp; omega)) _))
end Go.Proofs.YtooagjndelbegaaGreatDoor
namespace Go.Proofs.YtooagjndelbegaaGreatDoor.C
open Go.RowKit
set_option linter.unusedVariables false

theorem wpAny_inv {P : Program} {md : Region.Mode} {ops : Array Oper} {Q : Exit → Act → World → Prop} (J : Array Bool → Act → World → Prop)
    (step : ∀ listed a w, J listed a w → ∀ i ∈ Region.ready md ops listed, wpOp P ops Q i (J (listed.setIfInBounds i true)) a w)
    (fin : ∀ listed a w, J listed a w → Region.ready md ops listed = [] → Q .normal a w) :
    ∀ (fuel : Nat) (listed : Array Bool) (a : Act) (w : World), listed.toList.count false ≤ fuel → J listed a w → wpAny P md ops Q fuel listed a w := by
  intro fuel
  have key : ∀ (listed : Array Bool) (i : Nat), i ∈ Region.ready md ops listed → (listed.setIfInBounds i true).toList.count false + 1 = listed.toList.count false := by
    intro listed i hi
    have h0 := (mem_ready.1 hi).1
    have hlt : i < listed.size := by
      rcases Nat.lt_or_ge i listed.size with h | h
      · exact h
      · simp [Array.getElem?_eq_none h] at h0
    have hv : listed.toList[i]'(by simpa using hlt) = false := by simpa [hlt] using h0
    have hpos : 0 < listed.toList.count false := List.count_pos_iff.2 (by rw [← hv]; exact List.getElem_mem _)
    rw [Array.toList_setIfInBounds, List.count_set (by simpa using hlt), hv]
    have : ∀ c : Nat, 0 < c → c - (if (false == false) = true then 1 else 0) + (if (true == false) = true then 1 else 0) + 1 = c := by intro c hc; simp; omega
    exact this _ hpos
  induction fuel with
  | zero =>
    intro listed a w hc hJ
    have hr : Region.ready md ops listed = [] := by
      cases h : Region.ready md ops listed with
      | nil => rfl
      | cons i r => have := key listed i (by rw [h]; simp); omega
    exact ⟨hr, fin _ _ _ hJ hr⟩
  | succ fuel ih =>
    intro listed a w hc hJ
    refine ⟨fun h => fin _ _ _ hJ h, fun i hi => ?_⟩
    have := key listed i hi
    exact wpOp_mono (fun a' w' h' => ih _ a' w' (by omega) h') (step _ _ _ hJ i hi)
theorem ready_no {md : Region.Mode} {ops : Array Oper} {listed : Array Bool} (hr : Region.ready md ops listed = []) {j : Nat} {o : Oper} (ho : ops[j]? = some o) (hl : listed.getD j true = false)
    (he : (o.after.all fun e => !Region.binds md e || listed.getD e.on false) = true) : False := by
  have : j ∈ Region.ready md ops listed := by
    refine mem_ready.2 ⟨hl, o, ho, fun e h hb => ?_⟩
    have := Array.all_eq_true_iff_forall_mem.1 he e h
    simpa [hb] using this
  rw [hr] at this
  cases this
def svd : Bool → Value → Value → Value
  | true, v, _ => v
  | false, _, u => u
def bw : Bool → (Nat → Int) → (Nat → Int) → (Nat → Int)
  | true, v, _ => v
  | false, _, u => u
end Go.Proofs.YtooagjndelbegaaGreatDoor.C
namespace Go.Proofs.YtooagjndelbegaaGreatDoor
open Go.RowKit
set_option linter.unusedVariables false
/-- a world in which all that was there is as it was -/
structure WB (w0 : World) where
  w : World
  h : Below w0.heap.size w0 w
theorem WB.cell {w0 : World} (x : WB w0) {b o : Nat} {v : Value} (hb : b < w0.heap.size) (h : w0.cell? ⟨b, o, none⟩ = some v) : x.w.cell? ⟨b, o, none⟩ = some v := by
  rw [← h]; exact Below.cell x.h (p := ⟨b, o, none⟩) hb
/-- a callee's contract, met in a world of the class -/
theorem Calls.wb {P : Program} {f : FuncId} {args : Array Value} {w0 : World} {v : Value} (x : WB w0) (h : Calls P f args x.w fun e w' => e = .returned v ∧ Below x.w.heap.size x.w w') : Calls P f args x.w fun e w'' => e = .returned v ∧ ∃ y : WB w0, w'' = y.w :=
  h.mono fun _ w' hh => ⟨hh.1, ⟨w', x.h.trans (hh.2.mono x.h.size)⟩, rfl⟩
theorem wp_region_wb {P : Program} {id : Nat} {Q : Exit → Act → World → Prop} {a : Act} {w : World} {l : List Oper} (hm : P.follows .mixedOrders = true) (hB : Region.lexB .any l.toArray = true)
    (h : wpQuiet P l.toArray (fun w' => ∃ x : WB w, w' = x.w) (fun a' => ∀ w', (∃ x : WB w, w' = x.w) → Q .normal a' w') l a) : (Code.region id l.toArray true).wp P Q a w :=
  wp_region_quiet (C := fun w' => ∃ x : WB w, w' = x.w) hm hB ⟨⟨w.drew, (Below.refl _ _).drew⟩, rfl⟩ (by simpa using h)

end Go.Proofs.YtooagjndelbegaaGreatDoor
namespace Go.Proofs.YtooagjndelbegaaGreatDoor
open Go.RowKit
open C (Only)
set_option linter.unusedVariables false
set_option maxRecDepth 100000

set_option maxHeartbeats 4000000 in
theorem m_reach0 (w : World) (b : Nat) (s : SV) (h : St w b s) (v : CV) (hc : Cr w s.core v) (h0 : v.root = 0) (S : Nat → Prop) (bs : Int) (n : Nat) (f : Nat → Int) (hm : C.Mem w S v.m bs n f) (va acc sz : Int) (sa0 : 0 ≤ s.was.satp) (sa1 : s.was.satp < 1152921504606846976) (a0 : 0 ≤ va) (a1 : va < 18446744073709551616) (s0 : -9223372036854775808 ≤ sz) (s1 : sz ≤ 9223372036854775807) (hh : C.hasB bs n va sz = true) :
    Calls Tryz.prog 166 #[.pointer (some ⟨b, 0, none⟩), .int .u64 va, .int .i64 acc, .int .i64 sz] w fun e w' => e = .returned (.tuple #[PV.v ⟨va, va, 0, false⟩, .bool true]) ∧ Below w.heap.size w w' := by
  have HST : Hid (St (w.alloc (.cells #[.int .u64 0, .int .u64 0, .int .i64 0, .bool false] 212)) b s) := h.below ((Below.refl _ _).alloc (Nat.le_refl _) _)
  have HCR : Hid (Cr (w.alloc (.cells #[.int .u64 0, .int .u64 0, .int .i64 0, .bool false] 212)) s.core v) := hc.below ((Below.refl _ _).alloc (Nat.le_refl _) _)
  have HM : Hid (C.Mem (w.alloc (.cells #[.int .u64 0, .int .u64 0, .int .i64 0, .bool false] 212)) S v.m bs n f) := hm.below ((Below.refl _ _).alloc (Nat.le_refl _) _)
  go_enter Tryz.func166, Tryz.ntmps166
  go_wp2
  refine wp_region_any (by kernel_rfl) ?_
  refine C.wpAny_inv (fun listed fr wr => ∃ (b0 b1 b2 b3 b4 b5 b6 b7 b8 b9 b10 b11 b12 b13 b14 b15 b16 b17 b18 : Bool) (q : Nat), listed = #[b0, b1, b2, b3, b4, b5, b6, b7, b8, b9, b10, b11, b12, b13, b14, b15, b16, b17, b18] ∧ fr = { tmps := #[.pointer (some ⟨b, 0, none⟩), .int .u64 va, .int .i64 acc, .int .i64 sz, undef, undef, undef, undef, .pointer (some ⟨w.heap.size, 0, none⟩), .bool false, C.svd b17 (.pointer (some ⟨q, 0, none⟩)) (undef), C.svd b0 (.pointer (some ⟨b, 0, none⟩)) (undef), C.svd b1 (.pointer (some ⟨b, 0, none⟩)) (undef), C.svd b2 (.pointer (some ⟨b, 0, none⟩)) (undef), C.svd b3 (.pointer (some ⟨s.core, 0, none⟩)) (undef), C.svd b4 (.pointer (some ⟨s.core, 0, none⟩)) (undef), C.svd b5 (.pointer (some ⟨s.core, 0, none⟩)) (undef), C.svd b6 (.pointer (some ⟨v.m, 0, none⟩)) (undef), C.svd b7 (.pointer (some ⟨b, 0, none⟩)) (undef), C.svd b8 (envV s v) (undef), C.svd b9 (.int .u64 va) (undef), C.svd b10 (.int .i64 acc) (undef), C.svd b11 (.pointer (some ⟨b, 0, none⟩)) (undef), C.svd b12 (.pointer (some ⟨b, 0, none⟩)) (undef), C.svd b13 (.pointer (some ⟨b, 0, none⟩)) (undef), C.svd b14 (.pointer (some ⟨s.core, 0, none⟩)) (undef), C.svd b15 (.func (.func 196) #[.pointer (some ⟨s.core, 0, none⟩)] #[]) (undef), C.svd b16 (PV.v ⟨va, va, 0, false⟩) (undef), undef, undef, undef, undef, undef, undef, undef, undef, undef, undef, undef, undef, undef, undef, undef, undef, undef, undef, undef, undef, undef, undef, undef, undef, undef, undef, undef, undef, undef, undef, undef, undef, undef, undef, undef, undef, undef, undef, undef, undef, undef], defers := [] } ∧ Below (w.alloc (.cells #[.int .u64 0, .int .u64 0, .int .i64 0, .bool false] 212)).heap.size (w.alloc (.cells #[.int .u64 0, .int .u64 0, .int .i64 0, .bool false] 212)) wr ∧ (b17 = true → (w.alloc (.cells #[.int .u64 0, .int .u64 0, .int .i64 0, .bool false] 212)).heap.size ≤ q ∧ wr.heap[q]? = some (.cells (C.svd b18 (PV.v ⟨va, va, 0, false⟩) (.agg #[.int .u64 0, .int .u64 0, .int .i64 0, .bool false])).cells 212 (0, 0))) ∧ (b18 = true → b17 = true)) ?step ?fin _ _ _ _ (by simp) ?start
  case start => exact ⟨false, false, false, false, false, false, false, false, false, false, false, false, false, false, false, false, false, false, false, 0, rfl, rfl, (Below.refl _ _).drew, (fun h => by cases h), fun h => by cases h⟩
  case fin =>
    rintro listed fr wr ⟨b0, b1, b2, b3, b4, b5, b6, b7, b8, b9, b10, b11, b12, b13, b14, b15, b16, b17, b18, q, rfl, rfl, hR⟩ hr
    obtain rfl : b0 = true := by
      cases b0 with
      | true => rfl
      | false => exact (C.ready_no hr (j := 0) rfl rfl (by kernel_rfl)).elim
    obtain rfl : b1 = true := by
      cases b1 with
      | true => rfl
      | false => exact (C.ready_no hr (j := 1) rfl rfl (by kernel_rfl)).elim
    obtain rfl : b2 = true := by
      cases b2 with
      | true => rfl
      | false => exact (C.ready_no hr (j := 2) rfl rfl (by kernel_rfl)).elim
    obtain rfl : b3 = true := by
      cases b3 with
      | true => rfl
      | false => exact (C.ready_no hr (j := 3) rfl rfl (by kernel_rfl)).elim
    obtain rfl : b4 = true := by
      cases b4 with
      | true => rfl
      | false => exact (C.ready_no hr (j := 4) rfl rfl (by kernel_rfl)).elim
    obtain rfl : b5 = true := by
      cases b5 with
      | true => rfl
      | false => exact (C.ready_no hr (j := 5) rfl rfl (by kernel_rfl)).elim
    obtain rfl : b6 = true := by
      cases b6 with
      | true => rfl
      | false => exact (C.ready_no hr (j := 6) rfl rfl (by kernel_rfl)).elim
    obtain rfl : b7 = true := by
      cases b7 with
      | true => rfl
      | false => exact (C.ready_no hr (j := 7) rfl rfl (by kernel_rfl)).elim
    obtain rfl : b8 = true := by
      cases b8 with
      | true => rfl
      | false => exact (C.ready_no hr (j := 8) rfl rfl (by kernel_rfl)).elim
    obtain rfl : b9 = true := by
      cases b9 with
      | true => rfl
      | false => exact (C.ready_no hr (j := 9) rfl rfl (by kernel_rfl)).elim
    obtain rfl : b10 = true := by
      cases b10 with
      | true => rfl
      | false => exact (C.ready_no hr (j := 10) rfl rfl (by kernel_rfl)).elim
    obtain rfl : b11 = true := by
      cases b11 with
      | true => rfl
      | false => exact (C.ready_no hr (j := 11) rfl rfl (by kernel_rfl)).elim
    obtain rfl : b12 = true := by
      cases b12 with
      | true => rfl
      | false => exact (C.ready_no hr (j := 12) rfl rfl (by kernel_rfl)).elim
    obtain rfl : b13 = true := by
      cases b13 with
      | true => rfl
      | false => exact (C.ready_no hr (j := 13) rfl rfl (by kernel_rfl)).elim
    obtain rfl : b14 = true := by
      cases b14 with
      | true => rfl
      | false => exact (C.ready_no hr (j := 14) rfl rfl (by kernel_rfl)).elim
    obtain rfl : b15 = true := by
      cases b15 with
      | true => rfl
      | false => exact (C.ready_no hr (j := 15) rfl rfl (by kernel_rfl)).elim
    obtain rfl : b16 = true := by
      cases b16 with
      | true => rfl
      | false => exact (C.ready_no hr (j := 16) rfl rfl (by kernel_rfl)).elim
    obtain rfl : b17 = true := by
      cases b17 with
      | true => rfl
      | false => exact (C.ready_no hr (j := 17) rfl rfl (by kernel_rfl)).elim
    obtain rfl : b18 = true := by
      cases b18 with
      | true => rfl
      | false => exact (C.ready_no hr (j := 18) rfl rfl (by kernel_rfl)).elim
    clear hr
    simp only [C.svd]
    obtain ⟨hB, hQ, _⟩ := hR
    obtain ⟨hq1, hq2⟩ := hQ rfl
    have q0 : wr.cell? ⟨q, 0, none⟩ = some (.int .u64 va) := cell_of_row _ _ 0 _ _ _ hq2
    have q1 : wr.cell? ⟨q, 1, none⟩ = some (.int .u64 va) := cell_of_row _ _ 1 _ _ _ hq2
    have q2 : wr.cell? ⟨q, 2, none⟩ = some (.int .i64 0) := cell_of_row _ _ 2 _ _ _ hq2
    have q3 : wr.cell? ⟨q, 3, none⟩ = some (.bool false) := cell_of_row _ _ 3 _ _ _ hq2
    have ql := lt_of_block hq2
    have p8 : wr.heap[w.heap.size]? = some (.cells #[.int .u64 0, .int .u64 0, .int .i64 0, .bool false] 212 (0, 0)) := (hB.block _ (by simp)).trans (heap_alloc_new _ _)
    have pl := lt_of_block p8
    have HS := HST.out.below hB
    have HC := HCR.out.below hB
    have HMM := C.hid (HM.out.below hB)
    have x0 : ∀ x : WB wr, x.w.cell? ⟨q, 0, none⟩ = some (.int .u64 va) := fun x => x.cell ql q0
    have x1 : ∀ x : WB wr, x.w.cell? ⟨q, 1, none⟩ = some (.int .u64 va) := fun x => x.cell ql q1
    have x2 : ∀ x : WB wr, x.w.cell? ⟨q, 2, none⟩ = some (.int .i64 0) := fun x => x.cell ql q2
    have x3 : ∀ x : WB wr, x.w.cell? ⟨q, 3, none⟩ = some (.bool false) := fun x => x.cell ql q3
    have y0 : ∀ x : WB wr, x.w.cell? ⟨b, 0, none⟩ = some (.pointer (some ⟨s.core, 0, none⟩)) := fun x => x.cell HS.lt (HS.c 0)
    have y1 : ∀ x : WB wr, x.w.cell? ⟨s.core, 0, none⟩ = some (.pointer (some ⟨v.m, 0, none⟩)) := fun x => x.cell HC.lt HC.c.1
    have x8 : ∀ x : WB wr, x.w.heap[w.heap.size]? = some (.cells #[.int .u64 0, .int .u64 0, .int .i64 0, .bool false] 212 (0, 0)) := fun x => (x.h.block _ pl).trans p8
    have z0 : ∀ x : WB wr, x.w.cell? ⟨w.heap.size, 0, none⟩ = some (.int .u64 0) := fun x => cell_of_row _ _ 0 _ _ _ (x8 x)
    have z1 : ∀ x : WB wr, x.w.cell? ⟨w.heap.size, 1, none⟩ = some (.int .u64 0) := fun x => cell_of_row _ _ 1 _ _ _ (x8 x)
    have z2 : ∀ x : WB wr, x.w.cell? ⟨w.heap.size, 2, none⟩ = some (.int .i64 0) := fun x => cell_of_row _ _ 2 _ _ _ (x8 x)
    have z3 : ∀ x : WB wr, x.w.cell? ⟨w.heap.size, 3, none⟩ = some (.bool false) := fun x => cell_of_row _ _ 3 _ _ _ (x8 x)
    have zf : ∀ (x : WB wr) (k : Nat), x.w.frozen? ⟨w.heap.size, k, none⟩ = false := fun x k => frozen_of_row _ _ k _ _ (x8 x)
    have HB := C.hid hB
    have HX := C.hid x8
    clear HS HC hB hq2 p8 x8 hQ
    go_wp2
    refine wp_region_wb (by kernel_rfl) (by kernel_rfl) ?_
    repeat
      refine wpQuiet_step (fun K hK => ?_)
      go_simp
      first
        | (refine hK _ ?_; clear hK K)
        | (refine ⟨_, fun _ => rfl, hK _ ?_⟩; clear hK K)
        | (refine ⟨.bool true, fun x => ?_, hK _ ?_⟩
           · (go_at_call 52; exact Calls.wb x ((C.c_HasM x.w S v.m bs n f (HMM.out.below x.h) va sz a0 a1 s0 s1 true hh).mono fun _ _ hq => ⟨hq.1, hq.2.below _⟩))
           clear hK K)
    refine wpQuiet_nil ?_
    intro _ hx
    obtain ⟨x, rfl⟩ := hx
    go_wp2
    have kb : Below w.heap.size w x.w := (((Below.refl _ _).alloc (Nat.le_refl _) _).trans (HB.out.mono (by simp))).trans (x.h.mono (Nat.le_of_lt pl))
    refine bodyPost_ret (v := .tuple #[PV.v ⟨va, va, 0, false⟩, .bool true]) (by simp [results, Tryz.results166, go_sem, z0, z1, z2, z3]) rfl ⟨rfl, ?_⟩
    (repeat (first | (with_reducible exact Below.refl _ _) | (with_reducible assumption) | refine Below.setCell ?_ (by first | exact Nat.le_refl _ | simp | (simp; omega)) _ | refine Below.alloc ?_ (by first | exact Nat.le_refl _ | simp | (simp; omega)) _ | refine below_dn ?_ _ | refine below_setRow ?_ (by first | exact Nat.le_refl _ | simp | (simp; omega)) _))
  case step =>
    rintro listed fr wr ⟨b0, b1, b2, b3, b4, b5, b6, b7, b8, b9, b10, b11, b12, b13, b14, b15, b16, b17, b18, q, rfl, rfl, hR⟩ j hj
    obtain ⟨hl, o, ho, he⟩ := mem_ready.1 hj
    clear hj
    have HS := C.hid (HST.out.below hR.1)
    have HC := C.hid (HCR.out.below hR.1)
    have c0 : wr.cell? ⟨b, 0, none⟩ = some (.pointer (some ⟨s.core, 0, none⟩)) := HS.out.c 0
    have k0 := HC.out.c.1
    have HH := C.hid hR
    clear hR
    have hsv : ∀ v u, C.svd true v u = v := fun _ _ => rfl
    match j, ho, hl, he with
    | 0, ho, hl, he =>
      obtain rfl := Option.some.inj ho
      simp [Region.binds] at hl he
      clear ho
      have hL := hl
      clear hl he
      subst hL
      refine wpOp_step rfl (fun K hK => ?_)
      go_simp
      refine hK _ _ ⟨true, _, _, _, _, _, _, _, _, _, _, _, _, _, _, _, _, _, _, q, rfl, ?_, HH.out⟩
      first | rfl | simp [C.svd]
    | 1, ho, hl, he =>
      obtain rfl := Option.some.inj ho
      simp [Region.binds] at hl he
      clear ho
      have hL := hl
      (try (have e0 : b0 = true := (by revert he; cases b0 <;> simp)))
      clear hl he
      (try subst e0)
      subst hL
      refine wpOp_step rfl (fun K hK => ?_)
      go_simp
      refine hK _ _ ⟨_, true, _, _, _, _, _, _, _, _, _, _, _, _, _, _, _, _, _, q, rfl, ?_, HH.out⟩
      first | rfl | simp [C.svd]
    | 2, ho, hl, he =>
      obtain rfl := Option.some.inj ho
      simp [Region.binds] at hl he
      clear ho
      have hL := hl
      (try (have e1 : b1 = true := (by revert he; cases b1 <;> simp)))
      clear hl he
      (try subst e1)
      subst hL
      refine wpOp_step rfl (fun K hK => ?_)
      go_simp
      refine hK _ _ ⟨_, _, true, _, _, _, _, _, _, _, _, _, _, _, _, _, _, _, _, q, rfl, ?_, HH.out⟩
      first | rfl | simp [C.svd]
    | 3, ho, hl, he =>
      obtain rfl := Option.some.inj ho
      simp [Region.binds] at hl he
      clear ho
      have hL := hl
      (try (have e2 : b2 = true := (by revert he; cases b2 <;> simp)))
      clear hl he
      (try subst e2)
      subst hL
      refine wpOp_step rfl (fun K hK => ?_)
      go_simp
      refine hK _ _ ⟨_, _, _, true, _, _, _, _, _, _, _, _, _, _, _, _, _, _, _, q, rfl, ?_, HH.out⟩
      first | rfl | simp [C.svd]
    | 4, ho, hl, he =>
      obtain rfl := Option.some.inj ho
      simp [Region.binds] at hl he
      clear ho
      have hL := hl
      (try (have e3 : b3 = true := (by revert he; cases b3 <;> simp)))
      clear hl he
      (try subst e3)
      subst hL
      refine wpOp_step rfl (fun K hK => ?_)
      go_simp
      refine hK _ _ ⟨_, _, _, _, true, _, _, _, _, _, _, _, _, _, _, _, _, _, _, q, rfl, ?_, HH.out⟩
      first | rfl | simp [C.svd]
    | 5, ho, hl, he =>
      obtain rfl := Option.some.inj ho
      simp [Region.binds] at hl he
      clear ho
      have hL := hl
      (try (have e4 : b4 = true := (by revert he; cases b4 <;> simp)))
      clear hl he
      (try subst e4)
      subst hL
      refine wpOp_step rfl (fun K hK => ?_)
      go_simp
      refine hK _ _ ⟨_, _, _, _, _, true, _, _, _, _, _, _, _, _, _, _, _, _, _, q, rfl, ?_, HH.out⟩
      first | rfl | simp [C.svd]
    | 6, ho, hl, he =>
      obtain rfl := Option.some.inj ho
      simp [Region.binds] at hl he
      clear ho
      have hL := hl
      (try (have e5 : b5 = true := (by revert he; cases b5 <;> simp)))
      clear hl he
      (try subst e5)
      subst hL
      refine wpOp_step rfl (fun K hK => ?_)
      go_simp
      refine hK _ _ ⟨_, _, _, _, _, _, true, _, _, _, _, _, _, _, _, _, _, _, _, q, rfl, ?_, HH.out⟩
      first | rfl | simp [C.svd]
    | 7, ho, hl, he =>
      obtain rfl := Option.some.inj ho
      simp [Region.binds] at hl he
      clear ho
      have hL := hl
      clear hl he
      subst hL
      refine wpOp_step rfl (fun K hK => ?_)
      go_simp
      refine hK _ _ ⟨_, _, _, _, _, _, _, true, _, _, _, _, _, _, _, _, _, _, _, q, rfl, ?_, HH.out⟩
      first | rfl | simp [C.svd]
    | 8, ho, hl, he =>
      obtain rfl := Option.some.inj ho
      simp [Region.binds] at hl he
      clear ho
      have hL := hl
      (try (have e7 : b7 = true := (by revert he; cases b7 <;> simp)))
      clear hl he
      (try subst e7)
      subst hL
      refine wpOp_step rfl (fun K hK => ?_)
      go_simp
      refine (m_env _ b s HS.out v HC.out).mono ?_
      rintro e w' ⟨rfl, hb⟩
      refine hK _ _ ⟨_, _, _, _, _, _, _, _, true, _, _, _, _, _, _, _, _, _, _, q, rfl, ?_, HH.out.1.trans (hb.mono HH.out.1.size), fun hq => ⟨(HH.out.2.1 hq).1, (hb.block q (lt_of_block (HH.out.2.1 hq).2)).trans (HH.out.2.1 hq).2⟩, HH.out.2.2⟩
      first | rfl | simp [C.svd]
    | 9, ho, hl, he =>
      obtain rfl := Option.some.inj ho
      simp [Region.binds] at hl he
      clear ho
      have hL := hl
      clear hl he
      subst hL
      refine wpOp_step rfl (fun K hK => ?_)
      go_simp
      refine hK _ _ ⟨_, _, _, _, _, _, _, _, _, true, _, _, _, _, _, _, _, _, _, q, rfl, ?_, HH.out⟩
      first | rfl | simp [C.svd]
    | 10, ho, hl, he =>
      obtain rfl := Option.some.inj ho
      simp [Region.binds] at hl he
      clear ho
      have hL := hl
      clear hl he
      subst hL
      refine wpOp_step rfl (fun K hK => ?_)
      go_simp
      refine hK _ _ ⟨_, _, _, _, _, _, _, _, _, _, true, _, _, _, _, _, _, _, _, q, rfl, ?_, HH.out⟩
      first | rfl | simp [C.svd]
    | 11, ho, hl, he =>
      obtain rfl := Option.some.inj ho
      simp [Region.binds] at hl he
      clear ho
      have hL := hl
      clear hl he
      subst hL
      refine wpOp_step rfl (fun K hK => ?_)
      go_simp
      refine hK _ _ ⟨_, _, _, _, _, _, _, _, _, _, _, true, _, _, _, _, _, _, _, q, rfl, ?_, HH.out⟩
      first | rfl | simp [C.svd]
    | 12, ho, hl, he =>
      obtain rfl := Option.some.inj ho
      simp [Region.binds] at hl he
      clear ho
      have hL := hl
      (try (have e11 : b11 = true := (by revert he; cases b11 <;> simp)))
      clear hl he
      (try subst e11)
      subst hL
      refine wpOp_step rfl (fun K hK => ?_)
      go_simp
      refine hK _ _ ⟨_, _, _, _, _, _, _, _, _, _, _, _, true, _, _, _, _, _, _, q, rfl, ?_, HH.out⟩
      first | rfl | simp [C.svd]
    | 13, ho, hl, he =>
      obtain rfl := Option.some.inj ho
      simp [Region.binds] at hl he
      clear ho
      have hL := hl
      (try (have e12 : b12 = true := (by revert he; cases b12 <;> simp)))
      clear hl he
      (try subst e12)
      subst hL
      refine wpOp_step rfl (fun K hK => ?_)
      go_simp
      refine hK _ _ ⟨_, _, _, _, _, _, _, _, _, _, _, _, _, true, _, _, _, _, _, q, rfl, ?_, HH.out⟩
      first | rfl | simp [C.svd]
    | 14, ho, hl, he =>
      obtain rfl := Option.some.inj ho
      simp [Region.binds] at hl he
      clear ho
      have hL := hl
      (try (have e13 : b13 = true := (by revert he; cases b13 <;> simp)))
      clear hl he
      (try subst e13)
      subst hL
      refine wpOp_step rfl (fun K hK => ?_)
      go_simp
      refine hK _ _ ⟨_, _, _, _, _, _, _, _, _, _, _, _, _, _, true, _, _, _, _, q, rfl, ?_, HH.out⟩
      first | rfl | simp [C.svd]
    | 15, ho, hl, he =>
      obtain rfl := Option.some.inj ho
      simp [Region.binds] at hl he
      clear ho
      have hL := hl
      (try (have e14 : b14 = true := (by revert he; cases b14 <;> simp)))
      clear hl he
      (try subst e14)
      subst hL
      refine wpOp_step rfl (fun K hK => ?_)
      go_simp
      refine hK _ _ ⟨_, _, _, _, _, _, _, _, _, _, _, _, _, _, _, true, _, _, _, q, rfl, ?_, HH.out⟩
      first | rfl | simp [C.svd]
    | 16, ho, hl, he =>
      obtain rfl := Option.some.inj ho
      simp [Region.binds] at hl he
      clear ho
      have hL := hl
      (try (have e6 : b6 = true := (by revert he; cases b6 <;> simp)))
      (try (have e8 : b8 = true := (by revert he; cases b8 <;> simp)))
      (try (have e9 : b9 = true := (by revert he; cases b9 <;> simp)))
      (try (have e10 : b10 = true := (by revert he; cases b10 <;> simp)))
      (try (have e15 : b15 = true := (by revert he; cases b15 <;> simp)))
      clear hl he
      (try subst e6)
      (try subst e8)
      (try subst e9)
      (try subst e10)
      (try subst e15)
      subst hL
      refine wpOp_step rfl (fun K hK => ?_)
      go_simp
      refine (m_Both0 _ v s.core HC.out h0 0 s.was.satp v.root va acc s.was.user s.was.sum s.was.mxr sa0 sa1 _).mono ?_
      rintro e w' ⟨rfl, hb⟩
      refine hK _ _ ⟨_, _, _, _, _, _, _, _, _, _, _, _, _, _, _, _, true, _, _, q, rfl, ?_, HH.out.1.trans (hb.mono HH.out.1.size), fun hq => ⟨(HH.out.2.1 hq).1, (hb.block q (lt_of_block (HH.out.2.1 hq).2)).trans (HH.out.2.1 hq).2⟩, HH.out.2.2⟩
      first | rfl | simp [C.svd]
    | 17, ho, hl, he =>
      obtain rfl := Option.some.inj ho
      simp [Region.binds] at hl he
      clear ho
      have hL := hl
      clear hl he
      subst hL
      refine wpOp_step rfl (fun K hK => ?_)
      go_simp
      refine hK _ _ ⟨_, _, _, _, _, _, _, _, _, _, _, _, _, _, _, _, _, true, _, wr.heap.size, rfl, ?_, HH.out.1.alloc HH.out.1.size _, fun _ => ⟨HH.out.1.size, ?_⟩, fun _ => rfl⟩
      · first | rfl | simp [C.svd]
      · cases b18 with
        | false => exact heap_alloc_new _ _
        | true => exact absurd (HH.out.2.2 rfl) (by simp)
    | 18, ho, hl, he =>
      obtain rfl := Option.some.inj ho
      simp [Region.binds] at hl he
      clear ho
      have hL := hl
      (try (have e0 : b0 = true := (by revert he; cases b0 <;> simp)))
      (try (have e1 : b1 = true := (by revert he; cases b1 <;> simp)))
      (try (have e2 : b2 = true := (by revert he; cases b2 <;> simp)))
      (try (have e3 : b3 = true := (by revert he; cases b3 <;> simp)))
      (try (have e4 : b4 = true := (by revert he; cases b4 <;> simp)))
      (try (have e5 : b5 = true := (by revert he; cases b5 <;> simp)))
      (try (have e6 : b6 = true := (by revert he; cases b6 <;> simp)))
      (try (have e7 : b7 = true := (by revert he; cases b7 <;> simp)))
      (try (have e8 : b8 = true := (by revert he; cases b8 <;> simp)))
      (try (have e9 : b9 = true := (by revert he; cases b9 <;> simp)))
      (try (have e10 : b10 = true := (by revert he; cases b10 <;> simp)))
      (try (have e11 : b11 = true := (by revert he; cases b11 <;> simp)))
      (try (have e12 : b12 = true := (by revert he; cases b12 <;> simp)))
      (try (have e13 : b13 = true := (by revert he; cases b13 <;> simp)))
      (try (have e14 : b14 = true := (by revert he; cases b14 <;> simp)))
      (try (have e15 : b15 = true := (by revert he; cases b15 <;> simp)))
      (try (have e16 : b16 = true := (by revert he; cases b16 <;> simp)))
      (try (have e17 : b17 = true := (by revert he; cases b17 <;> simp)))
      clear hl he
      (try subst e0)
      (try subst e1)
      (try subst e2)
      (try subst e3)
      (try subst e4)
      (try subst e5)
      (try subst e6)
      (try subst e7)
      (try subst e8)
      (try subst e9)
      (try subst e10)
      (try subst e11)
      (try subst e12)
      (try subst e13)
      (try subst e14)
      (try subst e15)
      (try subst e16)
      (try subst e17)
      subst hL
      obtain ⟨hq1, hq2⟩ := HH.out.2.1 rfl
      have g0 : wr.cell? ⟨q, 0, none⟩ = some (.int .u64 0) := cell_of_row _ _ 0 _ _ _ hq2
      have g1 : wr.cell? ⟨q, 1, none⟩ = some (.int .u64 0) := cell_of_row _ _ 1 _ _ _ hq2
      have g2 : wr.cell? ⟨q, 2, none⟩ = some (.int .i64 0) := cell_of_row _ _ 2 _ _ _ hq2
      have g3 : wr.cell? ⟨q, 3, none⟩ = some (.bool false) := cell_of_row _ _ 3 _ _ _ hq2
      have gf : ∀ k, wr.frozen? ⟨q, k, none⟩ = false := fun k => frozen_of_row _ _ k _ _ hq2
      refine wpOp_step rfl (fun K hK => ?_)
      go_simp
      refine hK _ _ ⟨_, _, _, _, _, _, _, _, _, _, _, _, _, _, _, _, _, _, true, q, rfl, ?_, (((HH.out.1.setCell hq1 _).setCell hq1 _).setCell hq1 _).setCell hq1 _, fun _ => ⟨hq1, ?_⟩, fun _ => rfl⟩
      · first | rfl | simp [C.svd]
      · have e1 := setCell_row wr q 0 _ #[.int .u64 va, .int .u64 0, .int .i64 0, .bool false] 212 (.int .u64 va) hq2 rfl
        have e2 := setCell_row _ q 1 _ #[.int .u64 va, .int .u64 va, .int .i64 0, .bool false] 212 (.int .u64 va) e1 rfl
        have e3 := setCell_row _ q 2 _ #[.int .u64 va, .int .u64 va, .int .i64 0, .bool false] 212 (.int .i64 0) e2 rfl
        exact setCell_row _ q 3 _ #[.int .u64 va, .int .u64 va, .int .i64 0, .bool false] 212 (.bool false) e3 rfl
    | k + 19, ho, hl, he => simp at ho
end Go.Proofs.YtooagjndelbegaaGreatDoor
