/- New. -/
import Derived.Test.YtpppljlfljoccaaMH1
import Derived.WideKeyRuns
import Derived.Laws.CopyOwn
import Derived.Test.YtpppljlfljoccaaMC2
namespace Go.Proofs.Ytpppljlfljoccaa
open Go.RowKit
open C (Only hid Still ret_bool ret_int)
set_option linter.unusedVariables false
set_option maxRecDepth 100000

theorem k_New' (w : World) : Calls Try.prog 20 #[] w fun e w' => e = .returned (.pointer (some ⟨w.heap.size, 0, none⟩)) ∧ w' = w.alloc (.cells (qc q0) 99) := by
  go_enter Try.func20, Try.ntmps20
  go_wp2
  go_ret
  exact ⟨rfl, rfl⟩
theorem info_pdq : (Try.prog.info? 88).map (fun i => (i.zero, i.size, i.bytes)) = some (some (.pointer none), 1, 8) := by kernel_rfl
theorem u_spdq : Try.prog.underlying 62 = some (.slice 88) := by kernel_rfl
def nw1 (w : World) : World := w.alloc (.cells (qc q0) 99)
def nw2 (w : World) : World := (nw1 w).alloc (.cells (svc w.heap.size s0) 93)
def nw3 (w : World) : World := (nw2 w).alloc (.cells #[.pointer (some ⟨w.heap.size + 1, 0, none⟩)] 88)
theorem sz_nw1 (w : World) : (nw1 w).heap.size = w.heap.size + 1 := by simp [nw1]
theorem sz_nw2 (w : World) : (nw2 w).heap.size = w.heap.size + 2 := by simp [nw2, sz_nw1]
theorem nw3_lit (w : World) : (nw3 w).heap[w.heap.size + 2]? = some (.cells #[.pointer (some ⟨w.heap.size + 1, 0, none⟩)] 88 (0, 0)) := by
  rw [← sz_nw2]; exact heap_alloc_new (nw2 w) _
theorem nw3_p (w : World) : (nw3 w).heap[w.heap.size + 1]? = some (.cells (svc w.heap.size s0) 93 (0, 0)) := by
  refine (heap_alloc_old _ _ (by rw [sz_nw2]; omega)).trans ?_
  rw [← sz_nw1]; exact heap_alloc_new (nw1 w) _
theorem nw3_r (w : World) : (nw3 w).heap[w.heap.size]? = some (.cells (qc q0) 99 (0, 0)) :=
  (heap_alloc_old _ _ (by rw [sz_nw2]; omega)).trans ((heap_alloc_old _ _ (by rw [sz_nw1]; omega)).trans (heap_alloc_new w _))
theorem nw3_below (w : World) : Below w.heap.size w (nw3 w) := (((Below.refl _ _).alloc (Nat.le_refl _) _).alloc (by simp) _).alloc (by simp; omega) _
/-- a new device's numbers -/
def nv (kd : Int) (u dk : Value) : DV := ⟨kd, 0, 0, 0, 0, 0, 0, 0, u, dk, .slice none 0 0, .slice none 0 0, .slice none 0 0, .slice none 0 0⟩
/-- as far as its queues are made -/
structure NW (w0 : World) (kd : Int) (dk : Value) (dl : List Int) (e M : Nat) (b : Nat → Nat) (i : Nat) (u : Value) (w : World) : Prop where
  bel : Below w0.heap.size w0 w
  dv : w.heap[e]? = some (.cells ((nv kd u dk).cells 1 0 (.map (some M))) 82 (0, 0))
  eb : w0.heap.size ≤ e
  tab : Tab w M e b
  disk : w.ownsRow 0 5 1 dk dl.length (bys dl)
  db : ∀ k, Ug dk k → w0.heap.size ≤ k
  qs : ∃ qb rq, QS w u i qb rq (fun _ => s0) (fun _ => q0) ∧ ∀ j, j < i → w0.heap.size ≤ qb j ∧ w0.heap.size ≤ rq j
  ub : ∀ k, Ug u k → w0.heap.size ≤ k
def vtN (e : Nat) (u : Value) (wa : World) (x : Value) : Nat → Value := fun dd => if dd = 41 then .pointer (some ⟨e, 0, none⟩) else if dd = 42 then .pointer (some ⟨e, 0, none⟩) else if dd = 43 then .pointer (some ⟨e, 0, none⟩) else if dd = 44 then .pointer (some ⟨e, 8, none⟩) else if dd = 45 then u else if dd = 46 then .pointer (some ⟨wa.heap.size, 0, none⟩) else if dd = 47 then .agg #[.pointer (some ⟨wa.heap.size, 0, none⟩), .int .u32 0, .int .u32 0, .int .u32 0, .int .u32 0, .int .u32 0, .int .u32 0, .int .u32 0] else if dd = 48 then .pointer (some ⟨wa.heap.size + 1, 0, none⟩) else if dd = 49 then .slice (some ⟨wa.heap.size + 2, 0, none⟩) 1 1 else if dd = 50 then x else if dd = 51 then .pointer (some ⟨e, 0, none⟩) else if dd = 52 then .pointer (some ⟨e, 8, none⟩) else undef
/-- the states of a round -/
def lqs (i : Nat) (qb : Nat → Nat) : List Value := (List.range i).map fun j => .pointer (some ⟨qb j, 0, none⟩)
def NM (wa : World) (u : Value) (i : Nat) (qb : Nat → Nat) (e : Nat) : Nat → Value → World → Prop
  | 0, _, w => w = wa
  | 1, _, w => w = nw1 wa
  | 2, _, w => w = nw2 wa
  | 3, _, w => w = nw3 wa
  | 4, x, w => w.ownsRow 0 88 1 x (i + 1) (lqs i qb ++ [.pointer (some ⟨wa.heap.size + 1, 0, none⟩)]) ∧ Only (Ug u) (nw3 wa) w ∧ ∀ k, x.ownBlock = some k → u.ownBlock = some k ∨ (nw3 wa).heap.size ≤ k
  | _, x, w => ∃ w8, (w8.ownsRow 0 88 1 x (i + 1) (lqs i qb ++ [.pointer (some ⟨wa.heap.size + 1, 0, none⟩)]) ∧ Only (Ug u) (nw3 wa) w8 ∧ ∀ k, x.ownBlock = some k → u.ownBlock = some k ∨ (nw3 wa).heap.size ≤ k) ∧ w = w8.setCell ⟨e, 8, none⟩ x
def upq (f : Nat → Nat) (i x : Nat) : Nat → Nat := fun j => if j = i then x else f j
section
variable {w0 : World} {kd : Int} {dk : Value} {dl : List Int} {e M : Nat} {b : Nat → Nat} {i : Nat} {u : Value} {wa : World}
theorem ug_typ {w : World} {t : TypeId} {size : Nat} {u : Value} {n : Nat} {xs : List Value} (h : w.ownsRow 0 t size u n xs) (k : Nat) (hk : Ug u k) : ∃ cur, w.heap[k]? = some (.cells cur t (0, 0)) := own_typ h hk
theorem lqs_up (i : Nat) (qb : Nat → Nat) (x : Nat) : lqs i qb ++ [.pointer (some ⟨x, 0, none⟩)] = lqs (i + 1) (upq qb i x) := by
  unfold lqs
  rw [List.range_succ, List.map_append]
  congr 1
  · apply List.map_congr_left
    intro j hj
    have : j < i := by simpa using hj
    simp only [upq, if_neg (show j ≠ i by omega)]
  · simp [upq]
/-- what stands ahead of the append -/
theorem NW.own3 (h : NW w0 kd dk dl e M b i u wa) {qb rq : Nat → Nat} (hq : QS wa u i qb rq (fun _ => s0) (fun _ => q0)) : (nw3 wa).ownsRow 0 88 1 u i (lqs i qb) :=
  own_only hq.row (T := fun _ => False) (.ofBelow (nw3_below wa)) (fun _ _ z => z)
theorem NW.only4 (h : NW w0 kd dk dl e M b i u wa) {qb rq : Nat → Nat} (hq : QS wa u i qb rq (fun _ => s0) (fun _ => q0)) {w : World} {x : Value} (hm : NM wa u i qb e 4 x w) : Only (Ug u) wa w ∧ CellsOnly wa (Ug u) ∧ (∀ (k : Nat) (c : Array Value) (t : TypeId) (f : Nat × Nat), wa.heap[k]? = some (.cells c t f) → t ≠ 88 → ¬ Ug u k) := by
  have ht : ∀ k, Ug u k → ∃ cur, wa.heap[k]? = some (.cells cur 88 (0, 0)) := fun k hk => ug_typ hq.row k hk
  refine ⟨(Only.ofBelow (nw3_below wa)).trans hm.2.1, fun k hk => ?_, fun k c t f hk hne hu => ?_⟩
  · obtain ⟨cur, hc⟩ := ht k hk; exact ⟨_, _, _, hc, by decide⟩
  · obtain ⟨cur, hc⟩ := ht k hu
    rw [hc] at hk
    injection hk with hk
    injection hk with _ hk
    exact hne hk.symm
theorem NW.at4 (h : NW w0 kd dk dl e M b i u wa) {qb rq : Nat → Nat} (hq : QS wa u i qb rq (fun _ => s0) (fun _ => q0)) {w : World} {x : Value} (hm : NM wa u i qb e 4 x w) : w.heap[e]? = some (.cells ((nv kd u dk).cells 1 0 (.map (some M))) 82 (0, 0)) := by
  obtain ⟨h1, h2, h3⟩ := h.only4 hq hm
  exact h1.old h.dv (h3 _ _ _ _ h.dv (by decide))
theorem NW.step (h : NW w0 kd dk dl e M b i u wa) {qb rq : Nat → Nat} (hq : QS wa u i qb rq (fun _ => s0) (fun _ => q0)) (hqn : ∀ j, j < i → w0.heap.size ≤ qb j ∧ w0.heap.size ≤ rq j) {w : World} {x : Value} (hm : NM wa u i qb e 4 x w) : NW w0 kd dk dl e M b (i + 1) x (w.setCell ⟨e, 8, none⟩ x) := by
  obtain ⟨h1, h2, h3⟩ := h.only4 hq hm
  have hd := h.at4 hq hm
  have hb : Below w0.heap.size w0 w := h.bel.trans (h1.below w0.heap.size h.bel.size fun k hk => h.ub k hk)
  have hoe := only_c w e 8 x
  have hce : CellsOnly w (· = e) := fun j hj => by subst hj; exact ⟨_, _, _, hd, by decide⟩
  have nole : ∀ (k : Nat) (c : Array Value) (t : TypeId) (f : Nat × Nat), w.heap[k]? = some (.cells c t f) → t ≠ 82 → k ≠ e := fun k c t f hk ht z => by subst z; rw [hd] at hk; injection hk with hk; injection hk with _ hk; exact ht hk.symm
  have lift : ∀ (k : Nat) (c : Array Value) (t : TypeId), wa.heap[k]? = some (.cells c t (0, 0)) → t ≠ 88 → t ≠ 82 → (w.setCell ⟨e, 8, none⟩ x).heap[k]? = some (.cells c t (0, 0)) := fun k c t hk n1 n2 => by
    have a := h1.old hk (h3 _ _ _ _ hk n1)
    exact hoe.old a (nole _ _ _ _ a n2)
  have lift3 : ∀ (k : Nat) (c : Array Value) (t : TypeId), (nw3 wa).heap[k]? = some (.cells c t (0, 0)) → t ≠ 88 → t ≠ 82 → wa.heap.size ≤ k → (w.setCell ⟨e, 8, none⟩ x).heap[k]? = some (.cells c t (0, 0)) := fun k c t hk n1 n2 hs => by
    have a : w.heap[k]? = some (.cells c t (0, 0)) := hm.2.1.old hk fun hu => by
      obtain ⟨cur, hc⟩ := ug_typ hq.row k hu
      have := lt_of_block hc
      omega
    exact hoe.old a (nole _ _ _ _ a n2)
  refine ⟨hb.setCell h.eb _, setRowB w e 8 _ _ _ x hd rfl, h.eb, (h.tab.only h1 h2).only hoe hce, ?_, h.db, ⟨upq qb i (wa.heap.size + 1), upq rq i wa.heap.size, ?_, fun j hj => ?_⟩, ?_⟩
  · refine own_only (own_only h.disk h1 fun k hk => ?_) hoe fun k hk => ?_
    · obtain ⟨cur, hc⟩ := ug_typ h.disk k hk; exact h3 _ _ _ _ hc (by decide)
    · obtain ⟨cur, hc⟩ := ug_typ (own_only h.disk h1 fun k hk => by obtain ⟨cur, hc⟩ := ug_typ h.disk k hk; exact h3 _ _ _ _ hc (by decide)) k hk
      exact nole _ _ _ _ hc (by decide)
  · have lt1 : ∀ j, j < i → qb j < wa.heap.size := fun j hj => lt_of_block (hq.q j hj)
    have lt2 : ∀ j, j < i → rq j < wa.heap.size := fun j hj => (hq.r j hj).lt
    refine ⟨?_, fun j hj => ?_, fun j hj => ?_, fun j k hj hk z => ?_, fun j k hj hk z => ?_⟩
    · refine own_only ?_ hoe fun k hk => ?_
      · have := hm.1
        rw [lqs_up] at this
        exact this
      · obtain ⟨cur, hc⟩ := ug_typ hm.1 k hk
        exact nole _ _ _ _ hc (by decide)
    · by_cases z : j = i
      · subst z; simp only [upq]; rw [if_pos trivial, if_pos trivial]; exact lift3 _ _ _ (nw3_p wa) (by decide) (by decide) (by omega)
      · simp only [upq, if_neg z]; exact lift _ _ _ (hq.q j (by omega)) (by decide) (by decide)
    · by_cases z : j = i
      · subst z; simp only [upq]; rw [if_pos trivial]; exact lift3 _ _ _ (nw3_r wa) (by decide) (by decide) (by omega)
      · simp only [upq, if_neg z]; exact lift _ _ _ (hq.r j (by omega)) (by decide) (by decide)
    · by_cases z1 : j = i <;> by_cases z2 : k = i
      · omega
      · have := lt1 k (by omega); simp only [upq, if_neg z2, if_pos z1] at z; omega
      · have := lt1 j (by omega); simp only [upq, if_neg z1, if_pos z2] at z; omega
      · simp only [upq, if_neg z1, if_neg z2] at z; exact hq.iq j k (by omega) (by omega) z
    · by_cases z1 : j = i <;> by_cases z2 : k = i
      · omega
      · have := lt2 k (by omega); simp only [upq, if_neg z2, if_pos z1] at z; omega
      · have := lt2 j (by omega); simp only [upq, if_neg z1, if_pos z2] at z; omega
      · simp only [upq, if_neg z1, if_neg z2] at z; exact hq.ir j k (by omega) (by omega) z
  · by_cases z : j = i
    · subst z; simp only [upq]; rw [if_pos trivial, if_pos trivial]; have := h.bel.size; omega
    · simp only [upq, if_neg z]; exact hqn j (by omega)
  · intro k hk
    rcases hm.2.2 k hk with q | q
    · exact h.ub k q
    · have := (nw3_below wa).size
      have := h.bel.size
      omega
end
end Go.Proofs.Ytpppljlfljoccaa
namespace Go.Proofs.Ytpppljlfljoccaa
open Go.RowKit
open C (Only hid Still ret_bool ret_int)
set_option linter.unusedVariables false
set_option maxRecDepth 100000

def nqs (kd : Int) : Nat := if kd = 2 then 1 else 2
theorem own_nil (w : World) (t : TypeId) (z : Nat) : w.ownsRow 0 t z (.slice none 0 0) 0 [] := ⟨by simp, .inl ⟨rfl, rfl⟩⟩
theorem trK_len (e : Nat) (b : Nat → Nat) (kd : Int) (h : kd = 1 ∨ kd = 2 ∨ kd = 3) : ∃ g y, trK e b kd = .agg #[.slice (some ⟨g, 0, none⟩) (nqs kd) (nqs kd), y] := by
  rcases h with rfl | rfl | rfl <;> exact ⟨_, _, rfl⟩
theorem fld_deeds (w : World) (a : Option Addr) (l c : Nat) (y : Value) : (Instr.field 86 (.agg #[.slice a l c, y]) 0).run Try.prog w = .ok (.slice a l c) w := by rfl
set_option maxHeartbeats 4000000 in
theorem k_DNew (w : World) (kd : Int) (hk : kd = 1 ∨ kd = 2 ∨ kd = 3) (ud : Value) (dl : List Int) (hd : w.ownsRow 0 5 1 ud dl.length (bys dl)) (hl : dl.length ≤ 32768) (hm : dl.length % 512 = 0) (hz : kd = 2 ∨ dl.length = 0) :
    Calls Try.prog 12 #[.int .i64 kd, ud] w fun r w' => ∃ e u dk M b, r = .returned (.tuple #[.pointer (some ⟨e, 0, none⟩), .int .i64 0]) ∧ NW w kd dk dl e M b (nqs kd) u w' := by
  obtain ⟨ad, cp, rfl⟩ := own_form hd
  have hid1 := fun w => k_isDisk w ad dl.length cp (by omega)
  rw [show (decide (dl.length ≤ 32768) && dl.length % 512 == 0) = true from by simp [hl, hm]] at hid1
  have hn2 : nqs kd ≤ 2 := by unfold nqs; split <;> omega
  have hn1 : 1 ≤ nqs kd := by unfold nqs; split <;> omega
  have HCl := hid (fun (w1 : World) (h1 : w1.ownsRow 0 5 1 (.slice ad dl.length cp) dl.length (bys dl)) => l_Clone w1 _ dl h1 (by omega))
  obtain ⟨e, he⟩ : ∃ e, e = w.heap.size := ⟨_, rfl⟩
  have HE0 := hid he
  have hA1 := heap_alloc_new w (.cells ((nv kd (.slice none 0 0) (.slice none 0 0)).cells 0 0 (.map none)) 82)
  rw [← he] at hA1
  have hB1 := (Below.refl w.heap.size w).alloc (Nat.le_refl _) (.cells ((nv kd (.slice none 0 0) (.slice none 0 0)).cells 0 0 (.map none)) 82)
  have HT := k_trade (w.alloc (.cells ((nv kd (.slice none 0 0) (.slice none 0 0)).cells 0 0 (.map none)) 82)) e _ (.inl hA1)
  have HB1 := hid hB1
  have HD := hid hd
  have hk2 : (kd != 2) = true → dl.length = 0 := fun q => by rcases hz with z | z; exact absurd z (by simpa using q); exact z
  have HKL : Hid (∀ b, ∃ g y, trK e b kd = .agg #[.slice (some ⟨g, 0, none⟩) (nqs kd) (nqs kd), y]) := fun b => trK_len e b kd hk
  have HG : Hid ((kd != 2 && decide (0 < (dl.length : Int))) = false) := by
    rcases hz with z | z
    · subst z; exact hid (by simp)
    · rw [z]; exact hid (by simp)
  clear hA1 hB1 hd hm hz he hk2
  generalize hN : nqs kd = N at *
  have HN := hid hN
  clear hN
  have hfl := fld_deeds
  have HOe := hid (fun (w2 : World) (h3 : Only (· = e) (w.alloc (.cells ((nv kd (.slice none 0 0) (.slice none 0 0)).cells 0 0 (.map none)) 82)) w2) => (show Below w.heap.size w w2 from HB1.out.trans (h3.below w.heap.size HB1.out.size fun k hk => by have := HE0.out; subst hk; omega)))
  have h0 : kd ≠ 2 → ¬ (0 < dl.length) := fun z => by have := HG.out; simp [z] at this; simp [this]
  have hN0 : ((N : Int) == 0) = false := by simp; omega
  by_cases hz : kd = 2
  · subst hz
    clear h0
    go_enter Try.func12, Try.ntmps12
    go_upto_region 3 with (first
      | (go_at_call 17; (rw [← HE0.out]); refine HT.mono ?_; rintro r w2 ⟨M, b, rfl, h1, h2, h3⟩; have H1 := hid h1; have H2 := hid h2; have H3 := hid h3; clear h1 h2 h3; obtain ⟨g, y, hg⟩ := HKL.out b; rw [show (nv 2 (.slice none 0 0) (.slice none 0 0)).kd = 2 from rfl, hg]; clear hg))
    go_upto_region 5 with (first
      | (go_at_call 18; refine (hid1 _).mono ?_; rintro e w' ⟨rfl, hw⟩; obtain rfl := hw.symm))
    have hb2 := HOe.out _ H3.out
    have hd2 : w2.ownsRow 0 5 1 (.slice ad dl.length cp) dl.length (bys dl) := own_only HD.out (T := fun _ => False) (.ofBelow hb2) (fun _ _ z => z)
    have hcl := HCl.out w2 hd2
    have HB2 := hid hb2
    clear hb2 hd2 H3 HCl HD HB1 HT HOe
    go_wp2_with (first
      | (go_at_call 19; refine hcl.mono ?_; rintro r w3 ⟨dk, rfl, h1, h2, h3⟩; have H4 := hid h1; have H5 := hid h2; have H6 := hid h3; have hc9 : w3.heap[e]? = _ := (h2.block e (lt_of_block H1.out)).trans H1.out; have c9 : w3.cell? ⟨e, 9, none⟩ = some (.slice none 0 0) := cell_of_row w3 e 9 _ _ _ hc9; have z9 : w3.frozen? ⟨e, 9, none⟩ = false := frozen_of_row w3 e 9 _ _ hc9; have HC9 := hid hc9; obtain ⟨dad, dcp, rfl⟩ := own_form h1; clear h1 h2 h3 hc9))
    have hn0 : NW w 2 (.slice dad dl.length dcp) dl e M b 0 (.slice none 0 0) (w3.setCell ⟨e, 9, none⟩ (.slice dad dl.length dcp)) := by
      have hb3 : Below w.heap.size w w3 := HB2.out.trans (H5.out.mono HB2.out.size)
      have ho := only_c w3 e 9 (.slice dad dl.length dcp)
      have hce : CellsOnly w3 (· = e) := fun j hj => by subst hj; exact ⟨_, _, _, HC9.out, by decide⟩
      refine ⟨hb3.setCell (show w.heap.size ≤ e by have := HE0.out; omega) _, setRowB w3 e 9 _ _ _ _ HC9.out rfl, by have := HE0.out; omega, (H2.out.only (T := fun _ => False) (.ofBelow H5.out) (fun _ q => q.elim)).only ho hce, own_only H4.out ho fun k hk z => ?_, fun k hk => ?_, ⟨fun _ => 0, fun _ => 0, ⟨own_nil _ _ _, fun i hi => by omega, fun i hi => by omega, fun i j hi => by omega, fun i j hi => by omega⟩, fun j hj => by omega⟩, fun k hk => by cases hk⟩
      · obtain ⟨cur, hc⟩ := ug_typ H4.out k hk
        subst z
        rw [HC9.out] at hc
        injection hc with hc
        injection hc with _ hc
        exact absurd hc (by decide)
      · have := H6.out k hk
        have := HB2.out.size
        omega
    have HN0 := hid hn0
    clear hn0 c9 z9 hid1 hcl H1 H2 H4 H5 H6 HC9 HB2 HKL HG
    go_loopw [39] (fun i wr => ∃ j : Nat, ∃ u, j ≤ N ∧ i = .int .i64 j ∧ Hid (NW w 2 (.slice dad dl.length dcp) dl e M b j u wr)) (fun i _ => N - (intOf i).toNat)
    case atStart => exact ⟨0, _, by omega, rfl, HN0⟩
    case round =>
      obtain ⟨jj, u, hi, rfl, hnw⟩ := hrel
      by_cases hlt : jj < N
      · have hlt' : (jj : Int) < N := by omega
        go_upto_region 8 with fail
        obtain ⟨qb, rq, hq, hqn⟩ := hnw.out.qs
        obtain ⟨wa, hwa⟩ : ∃ wa, wa = wr.drew := ⟨_, rfl⟩
        have hnw2 : NW w 2 (.slice dad dl.length dcp) dl e M b jj u wa := by
          have h := hnw.out
          rw [hwa]
          exact ⟨h.bel.drew, h.dv, h.eb, h.tab, h.disk, h.db, ⟨qb, rq, ⟨hq.row, hq.q, hq.r, hq.iq, hq.ir⟩, hqn⟩, h.ub⟩
        have hq2 : QS wa u jj qb rq (fun _ => s0) (fun _ => q0) := by rw [hwa]; exact ⟨hq.row, hq.q, hq.r, hq.iq, hq.ir⟩
        refine wp_region_any (by kernel_rfl) ?_
        rw [show ({ wr with drawn := wr.drawn + 1 } : World) = wa from hwa.symm]
        have HOW := hid (hnw2.own3 hq2)
        have HW4 := hid (fun (w8 : World) (x : Value) (m : NM wa u jj qb e 4 x w8) => hnw2.at4 hq2 m)
        have HC8 := hid (fun (w8 : World) (x : Value) (m : NM wa u jj qb e 4 x w8) => (show w8.cell? ⟨e, 8, none⟩ = some u ∧ w8.frozen? ⟨e, 8, none⟩ = false from ⟨cell_of_row w8 e 8 _ _ _ (HW4.out w8 x m), frozen_of_row w8 e 8 _ _ (HW4.out w8 x m)⟩))
        have HST := hid (fun (w8 : World) (x : Value) (m : NM wa u jj qb e 4 x w8) => (show ∃ ad c, x = .slice ad (jj + 1) c from own_form m.1))
        have HFN := hid (fun (w8 : World) (x : Value) (m : NM wa u jj qb e 4 x w8) => hnw2.step hq2 hqn m)
        have HLD : Hid (∀ (x : Value) (listed : Array Bool) w8, VS [5, 7, 8, 9, 12] (NM wa u jj qb e) x listed w8 → listed.getD 9 false = false → w8.cell? ⟨e, 8, none⟩ = some u) := by
          rintro x listed w8 ⟨s, hs, hm⟩ h9
          have hd := hnw2.dv
          have a1 := hs 3 9 rfl
          rw [h9] at a1
          have a2 : ¬ 3 < s := by simpa using a1.symm
          have bb : ∀ w', Below wa.heap.size wa w' → w'.cell? ⟨e, 8, none⟩ = some u := fun w' hb => cell_of_row w' e 8 _ _ _ ((hb.block e (lt_of_block hd)).trans hd)
          match s, a2, hm with
          | 0, _, hm => rw [show w8 = wa from hm]; exact bb _ (Below.refl _ _)
          | 1, _, hm => rw [show w8 = nw1 wa from hm]; exact bb _ ((Below.refl _ _).alloc (Nat.le_refl _) _)
          | 2, _, hm => rw [show w8 = nw2 wa from hm]; exact bb _ (((Below.refl _ _).alloc (Nat.le_refl _) _).alloc (by simp) _)
          | 3, _, hm => rw [show w8 = nw3 wa from hm]; exact bb _ (nw3_below wa)
          | s + 4, q, _ => omega
        clear hnw2 hq2 hwa hq hnw HW4
        refine wpAny_fz (α := Value) (vtN e u wa) (fun x listed w => VS [5, 7, 8, 9, 12] (NM wa u jj qb e) x listed w) ?step ?fin u ?start
        case start => exact .start rfl
        case step =>
          rintro listed fr wr x hF hW hC i hj
          obtain ⟨hl, o, ho, he⟩ := mem_ready.1 hj
          have hjl : i < listed.size := by rw [hF.q.ls]; exact (Array.getElem?_eq_some_iff.1 ho).1
          have hl0 := getD_tf hjl hl
          clear hj
          have HF := hid hF
          have HW := hid hW
          have HE := hid he
          have HC := hid hC
          clear hF hW he hl hC
          match i, ho with
          | 0, ho =>
            obtain rfl := Option.some.inj ho
            have e6 : fr.tmps[6]?.getD undef = .pointer (some ⟨e, 0, none⟩) := HF.out.base 6 (by kernel_rfl) rfl
            exact wp_q rfl rfl (by simp [execOp, go_sem, e6]; try rfl) ⟨x, HF.out.put (by kernel_rfl) rfl rfl rfl (of_decide_eq_true rfl), HW.out.q hjl (by decide)⟩
          | 1, ho =>
            obtain rfl := Option.some.inj ho
            have e6 : fr.tmps[6]?.getD undef = .pointer (some ⟨e, 0, none⟩) := HF.out.base 6 (by kernel_rfl) rfl
            exact wp_q rfl rfl (by simp [execOp, go_sem, e6]; try rfl) ⟨x, HF.out.put (by kernel_rfl) rfl rfl rfl (of_decide_eq_true rfl), HW.out.q hjl (by decide)⟩
          | 2, ho =>
            obtain rfl := Option.some.inj ho
            have e42 : fr.tmps[42]?.getD undef = .pointer (some ⟨e, 0, none⟩) := HF.out.ev (i := 1) rfl rfl (HE.out ⟨1, .data⟩ (by simp) rfl)
            exact wp_q rfl rfl (by simp [execOp, go_sem, e42]; try rfl) ⟨x, HF.out.put (by kernel_rfl) rfl rfl rfl (of_decide_eq_true rfl), HW.out.q hjl (by decide)⟩
          | 3, ho =>
            obtain rfl := Option.some.inj ho
            have e43 : fr.tmps[43]?.getD undef = .pointer (some ⟨e, 0, none⟩) := HF.out.ev (i := 2) rfl rfl (HE.out ⟨2, .data⟩ (by simp) rfl)
            exact wp_q rfl rfl (by simp [execOp, go_sem, e43]; try rfl) ⟨x, HF.out.put (by kernel_rfl) rfl rfl rfl (of_decide_eq_true rfl), HW.out.q hjl (by decide)⟩
          | 4, ho =>
            obtain rfl := Option.some.inj ho
            have e44 : fr.tmps[44]?.getD undef = .pointer (some ⟨e, 8, none⟩) := HF.out.ev (i := 3) rfl rfl (HE.out ⟨3, .data⟩ (by simp) rfl)
            have hc := HLD.out _ _ _ HW.out (not_yet HC.out hl0 rfl ⟨4, .data⟩ (by simp) rfl rfl)
            exact wp_q rfl rfl (by simp [execOp, go_sem, e44, hc]; try rfl) ⟨x, HF.out.put (by kernel_rfl) rfl rfl rfl (of_decide_eq_true rfl), HW.out.q hjl (by decide)⟩
          | 5, ho =>
            obtain rfl := Option.some.inj ho
            have m0 : wr = wa := HW.out.at 0 rfl hl0 (fun j hj => by omega)
            subst m0
            refine wp_c0w rfl (by simp [Region.wanted]) 20 _ rfl (Try.call20 _ _) (k_New' _) ?_
            rintro e' w7 ⟨rfl, rfl⟩
            exact ⟨_, rfl, x, HF.out.put (by kernel_rfl) rfl rfl rfl (of_decide_eq_true rfl), HW.out.go 0 hjl rfl hl0 (fun j hj => by omega) (by intro a ha; match a, ha with | 0, _ => rfl | 1, ha => simp at ha | 2, ha => simp at ha | 3, ha => simp at ha | 4, ha => simp at ha) rfl⟩
          | 6, ho =>
            obtain rfl := Option.some.inj ho
            have e46 : fr.tmps[46]?.getD undef = .pointer (some ⟨wa.heap.size, 0, none⟩) := HF.out.ev (i := 5) rfl rfl (HE.out ⟨5, .data⟩ (by simp) rfl)
            exact wp_q rfl rfl (by simp [execOp, go_sem, e46]; try rfl) ⟨x, HF.out.put (by kernel_rfl) rfl rfl rfl (of_decide_eq_true rfl), HW.out.q hjl (by decide)⟩
          | 7, ho =>
            obtain rfl := Option.some.inj ho
            have e47 : fr.tmps[47]?.getD undef = .agg #[.pointer (some ⟨wa.heap.size, 0, none⟩), .int .u32 0, .int .u32 0, .int .u32 0, .int .u32 0, .int .u32 0, .int .u32 0, .int .u32 0] := HF.out.ev (i := 6) rfl rfl (HE.out ⟨6, .data⟩ (by simp) rfl)
            have hp := HC.out 6 _ rfl (HE.out ⟨6, .data⟩ (by simp) rfl) ⟨5, .data⟩ (by simp) rfl
            have m0 : wr = nw1 wa := HW.out.at 1 rfl hl0 (fun j hj => by obtain rfl : j = 0 := (by omega); exact ⟨5, rfl, hp⟩)
            subst m0
            exact wp_q (v := .pointer (some ⟨wa.heap.size + 1, 0, none⟩)) (w' := nw2 wa) rfl rfl (by simp [execOp, go_sem, e47, nw1, nw2]; try rfl) ⟨x, HF.out.put (by kernel_rfl) rfl rfl rfl (of_decide_eq_true rfl), HW.out.go 1 hjl rfl hl0 (fun j hj => by obtain rfl : j = 0 := (by omega); exact ⟨5, rfl, hp⟩) (by intro a ha; match a, ha with | 0, ha => simp at ha | 1, _ => rfl | 2, ha => simp at ha | 3, ha => simp at ha | 4, ha => simp at ha) rfl⟩
          | 8, ho =>
            obtain rfl := Option.some.inj ho
            have e48 : fr.tmps[48]?.getD undef = .pointer (some ⟨wa.heap.size + 1, 0, none⟩) := HF.out.ev (i := 7) rfl rfl (HE.out ⟨7, .data⟩ (by simp) rfl)
            have hp := HE.out ⟨7, .data⟩ (by simp) rfl
            have m0 : wr = nw2 wa := HW.out.at 2 rfl hl0 (fun j hj => by obtain rfl : j = 1 := (by omega); exact ⟨7, rfl, hp⟩)
            subst m0
            obtain ⟨i0, hi0, hz0, hs0, hb0⟩ := info_parts info_pdq
            exact wp_bs rfl rfl 62 88 1 _ rfl #[.pointer (some ⟨wa.heap.size + 1, 0, none⟩)] i0 _ u_spdq hi0 hz0 (by rw [hs0]; decide) (by rw [hs0]; decide) (by rw [hs0]; simp [Act.eval, e48]; kernel_rfl) ⟨x, HF.out.put (by kernel_rfl) rfl rfl (by rw [sz_nw2]; rfl) (of_decide_eq_true rfl), HW.out.go 2 hjl rfl hl0 (fun j hj => by obtain rfl : j = 1 := (by omega); exact ⟨7, rfl, hp⟩) (by intro a ha; match a, ha with | 0, ha => simp at ha | 1, ha => simp at ha | 2, _ => rfl | 3, ha => simp at ha | 4, ha => simp at ha) rfl⟩
          | 9, ho =>
            obtain rfl := Option.some.inj ho
            have e45 : fr.tmps[45]?.getD undef = u := HF.out.ev (i := 4) rfl rfl (HE.out ⟨4, .data⟩ (by simp) rfl)
            have e49 : fr.tmps[49]?.getD undef = .slice (some ⟨wa.heap.size + 2, 0, none⟩) 1 1 := HF.out.ev (i := 8) rfl rfl (HE.out ⟨8, .data⟩ (by simp) rfl)
            have hp := HE.out ⟨8, .data⟩ (by simp) rfl
            have m0 : wr = nw3 wa := HW.out.at 3 rfl hl0 (fun j hj => by obtain rfl : j = 2 := (by omega); exact ⟨8, rfl, hp⟩)
            subst m0
            obtain ⟨i0, hi0, hz0, hs0, hb0⟩ := info_parts info_pdq
            have e28' : Act.eval fr (.tmp 45) = u := by simp [Act.eval, e45]
            have e31' : Act.eval fr (.tmp 49) = .slice (some ⟨wa.heap.size + 2, 0, none⟩) 1 1 := by simp [Act.eval, e49]
            refine wpOp_step rfl fun K' hK => ?_
            refine step_append_blk _ (.tmp 45) (.tmp 49) 62 rfl 88 i0 _ 1 8 u_spdq hi0 hz0 hs0 hb0 rfl (by decide) u jj _ e28' HOW.out ⟨wa.heap.size + 2, 0, none⟩ 1 1 [.pointer (some ⟨wa.heap.size + 1, 0, none⟩)] e31' rfl ?_ (by intro v hv; simp at hv; rcases hv with rfl; rfl) (show jj + 1 ≤ 9223372036854775807 by omega) (by omega) rfl ?_
            · intro j v hv
              rw [C.addr_add, Nat.zero_add, cell_of_row _ _ j _ _ _ (nw3_lit wa)]
              simpa using hv
            intro v' w8 hown hgrow hblk
            have hsw := HF.out.swapD (vt' := vtN e u wa v') (by kernel_rfl) (fun d => ?_)
            · exact hK _ _ ⟨v', hsw.put (by kernel_rfl) rfl rfl rfl (of_decide_eq_true rfl), HW.out.go 3 hjl rfl hl0 (fun j hj => by obtain rfl : j = 2 := (by omega); exact ⟨8, rfl, hp⟩) (by intro a ha; match a, ha with | 0, ha => simp at ha | 1, ha => simp at ha | 2, ha => simp at ha | 3, _ => rfl | 4, ha => simp at ha) ⟨hown, grown_ug hgrow, hblk⟩⟩
            · by_cases z0 : d = 50
              · subst z0; exact .inr ⟨9, _, rfl, rfl, hl0⟩
              · left; simp only [vtN, if_neg z0]
          | 10, ho =>
            obtain rfl := Option.some.inj ho
            have e41 : fr.tmps[41]?.getD undef = .pointer (some ⟨e, 0, none⟩) := HF.out.ev (i := 0) rfl rfl (HE.out ⟨0, .data⟩ (by simp) rfl)
            exact wp_q rfl rfl (by simp [execOp, go_sem, e41]; try rfl) ⟨x, HF.out.put (by kernel_rfl) rfl rfl rfl (of_decide_eq_true rfl), HW.out.q hjl (by decide)⟩
          | 11, ho =>
            obtain rfl := Option.some.inj ho
            have e51 : fr.tmps[51]?.getD undef = .pointer (some ⟨e, 0, none⟩) := HF.out.ev (i := 10) rfl rfl (HE.out ⟨10, .data⟩ (by simp) rfl)
            exact wp_q rfl rfl (by simp [execOp, go_sem, e51]; try rfl) ⟨x, HF.out.put (by kernel_rfl) rfl rfl rfl (of_decide_eq_true rfl), HW.out.q hjl (by decide)⟩
          | 12, ho =>
            obtain rfl := Option.some.inj ho
            have e52 : fr.tmps[52]?.getD undef = .pointer (some ⟨e, 8, none⟩) := HF.out.ev (i := 11) rfl rfl (HE.out ⟨11, .data⟩ (by simp) rfl)
            have e50 : fr.tmps[50]?.getD undef = x := HF.out.ev (i := 9) rfl rfl (HE.out ⟨9, .data⟩ (by simp) rfl)
            have hp := HE.out ⟨9, .data⟩ (by simp) rfl
            have m0 := HW.out.at 4 rfl hl0 (fun j hj => by obtain rfl : j = 3 := (by omega); exact ⟨9, rfl, hp⟩)
            obtain ⟨c8, z8⟩ := HC8.out _ _ m0
            obtain ⟨ax, cx, hx⟩ := HST.out _ _ m0
            subst hx
            exact wp_s rfl rfl (by simp [execOp, go_sem, e52, e50, c8, z8]; try rfl) ⟨_, HF.out.skip rfl rfl _, HW.out.go 4 hjl rfl hl0 (fun j hj => by obtain rfl : j = 3 := (by omega); exact ⟨9, rfl, hp⟩) (by intro a ha; match a, ha with | 0, ha => simp at ha | 1, ha => simp at ha | 2, ha => simp at ha | 3, ha => simp at ha | 4, _ => rfl) ⟨wr, m0, rfl⟩⟩
        case fin =>
          rintro listed fr w2 x hF hW hr
          have all := allDone hr hF.q.ls (by kernel_rfl)
          obtain ⟨w8, m4, rfl⟩ := hW.end 4 rfl (all _ (by decide)) (fun s hs q => by match s, hs with | s + 5, _ => exact q)
          rw [hF.full all]
          have HM := hid m4
          clear hF hr all hW m4
          simp only [List.foldl_cons, List.foldl_nil, fillF]
          go_simp
          have hfin := HFN.out _ _ HM.out
          have HFI := hid hfin
          clear hfin HM HFN HLD HST HC8 HOW
          go_wp2_with fail
          go_roundw
          case rel => exact ⟨jj + 1, x, by omega, by go_num, HFI⟩
          case measure => simp [intOf]; omega
      · obtain rfl : jj = N := by omega
        go_wp2
        go_returns
        exact ⟨e, u, _, M, b, rfl, hnw.out⟩
  · have h0 := h0 hz
    go_enter Try.func12, Try.ntmps12
    go_upto_region 3 with (first
      | (go_at_call 17; (rw [← HE0.out]); refine HT.mono ?_; rintro r w2 ⟨M, b, rfl, h1, h2, h3⟩; have H1 := hid h1; have H2 := hid h2; have H3 := hid h3; clear h1 h2 h3; obtain ⟨g, y, hg⟩ := HKL.out b; rw [show (nv kd (.slice none 0 0) (.slice none 0 0)).kd = kd from rfl, hg]; clear hg))
    go_upto_region 5 with (first
      | (go_at_call 18; refine (hid1 _).mono ?_; rintro e w' ⟨rfl, hw⟩; obtain rfl := hw.symm))
    have hb2 := HOe.out _ H3.out
    have hd2 : w2.ownsRow 0 5 1 (.slice ad dl.length cp) dl.length (bys dl) := own_only HD.out (T := fun _ => False) (.ofBelow hb2) (fun _ _ z => z)
    have hcl := HCl.out w2 hd2
    have HB2 := hid hb2
    clear hb2 hd2 H3 HCl HD HB1 HT HOe
    go_wp2_with (first
      | (go_at_call 19; refine hcl.mono ?_; rintro r w3 ⟨dk, rfl, h1, h2, h3⟩; have H4 := hid h1; have H5 := hid h2; have H6 := hid h3; have hc9 : w3.heap[e]? = _ := (h2.block e (lt_of_block H1.out)).trans H1.out; have c9 : w3.cell? ⟨e, 9, none⟩ = some (.slice none 0 0) := cell_of_row w3 e 9 _ _ _ hc9; have z9 : w3.frozen? ⟨e, 9, none⟩ = false := frozen_of_row w3 e 9 _ _ hc9; have HC9 := hid hc9; obtain ⟨dad, dcp, rfl⟩ := own_form h1; clear h1 h2 h3 hc9))
    have hn0 : NW w kd (.slice dad dl.length dcp) dl e M b 0 (.slice none 0 0) (w3.setCell ⟨e, 9, none⟩ (.slice dad dl.length dcp)) := by
      have hb3 : Below w.heap.size w w3 := HB2.out.trans (H5.out.mono HB2.out.size)
      have ho := only_c w3 e 9 (.slice dad dl.length dcp)
      have hce : CellsOnly w3 (· = e) := fun j hj => by subst hj; exact ⟨_, _, _, HC9.out, by decide⟩
      refine ⟨hb3.setCell (show w.heap.size ≤ e by have := HE0.out; omega) _, setRowB w3 e 9 _ _ _ _ HC9.out rfl, by have := HE0.out; omega, (H2.out.only (T := fun _ => False) (.ofBelow H5.out) (fun _ q => q.elim)).only ho hce, own_only H4.out ho fun k hk z => ?_, fun k hk => ?_, ⟨fun _ => 0, fun _ => 0, ⟨own_nil _ _ _, fun i hi => by omega, fun i hi => by omega, fun i j hi => by omega, fun i j hi => by omega⟩, fun j hj => by omega⟩, fun k hk => by cases hk⟩
      · obtain ⟨cur, hc⟩ := ug_typ H4.out k hk
        subst z
        rw [HC9.out] at hc
        injection hc with hc
        injection hc with _ hc
        exact absurd hc (by decide)
      · have := H6.out k hk
        have := HB2.out.size
        omega
    have HN0 := hid hn0
    clear hn0 c9 z9 hid1 hcl H1 H2 H4 H5 H6 HC9 HB2 HKL HG
    go_loopw [39] (fun i wr => ∃ j : Nat, ∃ u, j ≤ N ∧ i = .int .i64 j ∧ Hid (NW w kd (.slice dad dl.length dcp) dl e M b j u wr)) (fun i _ => N - (intOf i).toNat)
    case atStart => exact ⟨0, _, by omega, rfl, HN0⟩
    case round =>
      obtain ⟨jj, u, hi, rfl, hnw⟩ := hrel
      by_cases hlt : jj < N
      · have hlt' : (jj : Int) < N := by omega
        go_upto_region 8 with fail
        obtain ⟨qb, rq, hq, hqn⟩ := hnw.out.qs
        obtain ⟨wa, hwa⟩ : ∃ wa, wa = wr.drew := ⟨_, rfl⟩
        have hnw2 : NW w kd (.slice dad dl.length dcp) dl e M b jj u wa := by
          have h := hnw.out
          rw [hwa]
          exact ⟨h.bel.drew, h.dv, h.eb, h.tab, h.disk, h.db, ⟨qb, rq, ⟨hq.row, hq.q, hq.r, hq.iq, hq.ir⟩, hqn⟩, h.ub⟩
        have hq2 : QS wa u jj qb rq (fun _ => s0) (fun _ => q0) := by rw [hwa]; exact ⟨hq.row, hq.q, hq.r, hq.iq, hq.ir⟩
        refine wp_region_any (by kernel_rfl) ?_
        rw [show ({ wr with drawn := wr.drawn + 1 } : World) = wa from hwa.symm]
        have HOW := hid (hnw2.own3 hq2)
        have HW4 := hid (fun (w8 : World) (x : Value) (m : NM wa u jj qb e 4 x w8) => hnw2.at4 hq2 m)
        have HC8 := hid (fun (w8 : World) (x : Value) (m : NM wa u jj qb e 4 x w8) => (show w8.cell? ⟨e, 8, none⟩ = some u ∧ w8.frozen? ⟨e, 8, none⟩ = false from ⟨cell_of_row w8 e 8 _ _ _ (HW4.out w8 x m), frozen_of_row w8 e 8 _ _ (HW4.out w8 x m)⟩))
        have HST := hid (fun (w8 : World) (x : Value) (m : NM wa u jj qb e 4 x w8) => (show ∃ ad c, x = .slice ad (jj + 1) c from own_form m.1))
        have HFN := hid (fun (w8 : World) (x : Value) (m : NM wa u jj qb e 4 x w8) => hnw2.step hq2 hqn m)
        have HLD : Hid (∀ (x : Value) (listed : Array Bool) w8, VS [5, 7, 8, 9, 12] (NM wa u jj qb e) x listed w8 → listed.getD 9 false = false → w8.cell? ⟨e, 8, none⟩ = some u) := by
          rintro x listed w8 ⟨s, hs, hm⟩ h9
          have hd := hnw2.dv
          have a1 := hs 3 9 rfl
          rw [h9] at a1
          have a2 : ¬ 3 < s := by simpa using a1.symm
          have bb : ∀ w', Below wa.heap.size wa w' → w'.cell? ⟨e, 8, none⟩ = some u := fun w' hb => cell_of_row w' e 8 _ _ _ ((hb.block e (lt_of_block hd)).trans hd)
          match s, a2, hm with
          | 0, _, hm => rw [show w8 = wa from hm]; exact bb _ (Below.refl _ _)
          | 1, _, hm => rw [show w8 = nw1 wa from hm]; exact bb _ ((Below.refl _ _).alloc (Nat.le_refl _) _)
          | 2, _, hm => rw [show w8 = nw2 wa from hm]; exact bb _ (((Below.refl _ _).alloc (Nat.le_refl _) _).alloc (by simp) _)
          | 3, _, hm => rw [show w8 = nw3 wa from hm]; exact bb _ (nw3_below wa)
          | s + 4, q, _ => omega
        clear hnw2 hq2 hwa hq hnw HW4
        refine wpAny_fz (α := Value) (vtN e u wa) (fun x listed w => VS [5, 7, 8, 9, 12] (NM wa u jj qb e) x listed w) ?step ?fin u ?start
        case start => exact .start rfl
        case step =>
          rintro listed fr wr x hF hW hC i hj
          obtain ⟨hl, o, ho, he⟩ := mem_ready.1 hj
          have hjl : i < listed.size := by rw [hF.q.ls]; exact (Array.getElem?_eq_some_iff.1 ho).1
          have hl0 := getD_tf hjl hl
          clear hj
          have HF := hid hF
          have HW := hid hW
          have HE := hid he
          have HC := hid hC
          clear hF hW he hl hC
          match i, ho with
          | 0, ho =>
            obtain rfl := Option.some.inj ho
            have e6 : fr.tmps[6]?.getD undef = .pointer (some ⟨e, 0, none⟩) := HF.out.base 6 (by kernel_rfl) rfl
            exact wp_q rfl rfl (by simp [execOp, go_sem, e6]; try rfl) ⟨x, HF.out.put (by kernel_rfl) rfl rfl rfl (of_decide_eq_true rfl), HW.out.q hjl (by decide)⟩
          | 1, ho =>
            obtain rfl := Option.some.inj ho
            have e6 : fr.tmps[6]?.getD undef = .pointer (some ⟨e, 0, none⟩) := HF.out.base 6 (by kernel_rfl) rfl
            exact wp_q rfl rfl (by simp [execOp, go_sem, e6]; try rfl) ⟨x, HF.out.put (by kernel_rfl) rfl rfl rfl (of_decide_eq_true rfl), HW.out.q hjl (by decide)⟩
          | 2, ho =>
            obtain rfl := Option.some.inj ho
            have e42 : fr.tmps[42]?.getD undef = .pointer (some ⟨e, 0, none⟩) := HF.out.ev (i := 1) rfl rfl (HE.out ⟨1, .data⟩ (by simp) rfl)
            exact wp_q rfl rfl (by simp [execOp, go_sem, e42]; try rfl) ⟨x, HF.out.put (by kernel_rfl) rfl rfl rfl (of_decide_eq_true rfl), HW.out.q hjl (by decide)⟩
          | 3, ho =>
            obtain rfl := Option.some.inj ho
            have e43 : fr.tmps[43]?.getD undef = .pointer (some ⟨e, 0, none⟩) := HF.out.ev (i := 2) rfl rfl (HE.out ⟨2, .data⟩ (by simp) rfl)
            exact wp_q rfl rfl (by simp [execOp, go_sem, e43]; try rfl) ⟨x, HF.out.put (by kernel_rfl) rfl rfl rfl (of_decide_eq_true rfl), HW.out.q hjl (by decide)⟩
          | 4, ho =>
            obtain rfl := Option.some.inj ho
            have e44 : fr.tmps[44]?.getD undef = .pointer (some ⟨e, 8, none⟩) := HF.out.ev (i := 3) rfl rfl (HE.out ⟨3, .data⟩ (by simp) rfl)
            have hc := HLD.out _ _ _ HW.out (not_yet HC.out hl0 rfl ⟨4, .data⟩ (by simp) rfl rfl)
            exact wp_q rfl rfl (by simp [execOp, go_sem, e44, hc]; try rfl) ⟨x, HF.out.put (by kernel_rfl) rfl rfl rfl (of_decide_eq_true rfl), HW.out.q hjl (by decide)⟩
          | 5, ho =>
            obtain rfl := Option.some.inj ho
            have m0 : wr = wa := HW.out.at 0 rfl hl0 (fun j hj => by omega)
            subst m0
            refine wp_c0w rfl (by simp [Region.wanted]) 20 _ rfl (Try.call20 _ _) (k_New' _) ?_
            rintro e' w7 ⟨rfl, rfl⟩
            exact ⟨_, rfl, x, HF.out.put (by kernel_rfl) rfl rfl rfl (of_decide_eq_true rfl), HW.out.go 0 hjl rfl hl0 (fun j hj => by omega) (by intro a ha; match a, ha with | 0, _ => rfl | 1, ha => simp at ha | 2, ha => simp at ha | 3, ha => simp at ha | 4, ha => simp at ha) rfl⟩
          | 6, ho =>
            obtain rfl := Option.some.inj ho
            have e46 : fr.tmps[46]?.getD undef = .pointer (some ⟨wa.heap.size, 0, none⟩) := HF.out.ev (i := 5) rfl rfl (HE.out ⟨5, .data⟩ (by simp) rfl)
            exact wp_q rfl rfl (by simp [execOp, go_sem, e46]; try rfl) ⟨x, HF.out.put (by kernel_rfl) rfl rfl rfl (of_decide_eq_true rfl), HW.out.q hjl (by decide)⟩
          | 7, ho =>
            obtain rfl := Option.some.inj ho
            have e47 : fr.tmps[47]?.getD undef = .agg #[.pointer (some ⟨wa.heap.size, 0, none⟩), .int .u32 0, .int .u32 0, .int .u32 0, .int .u32 0, .int .u32 0, .int .u32 0, .int .u32 0] := HF.out.ev (i := 6) rfl rfl (HE.out ⟨6, .data⟩ (by simp) rfl)
            have hp := HC.out 6 _ rfl (HE.out ⟨6, .data⟩ (by simp) rfl) ⟨5, .data⟩ (by simp) rfl
            have m0 : wr = nw1 wa := HW.out.at 1 rfl hl0 (fun j hj => by obtain rfl : j = 0 := (by omega); exact ⟨5, rfl, hp⟩)
            subst m0
            exact wp_q (v := .pointer (some ⟨wa.heap.size + 1, 0, none⟩)) (w' := nw2 wa) rfl rfl (by simp [execOp, go_sem, e47, nw1, nw2]; try rfl) ⟨x, HF.out.put (by kernel_rfl) rfl rfl rfl (of_decide_eq_true rfl), HW.out.go 1 hjl rfl hl0 (fun j hj => by obtain rfl : j = 0 := (by omega); exact ⟨5, rfl, hp⟩) (by intro a ha; match a, ha with | 0, ha => simp at ha | 1, _ => rfl | 2, ha => simp at ha | 3, ha => simp at ha | 4, ha => simp at ha) rfl⟩
          | 8, ho =>
            obtain rfl := Option.some.inj ho
            have e48 : fr.tmps[48]?.getD undef = .pointer (some ⟨wa.heap.size + 1, 0, none⟩) := HF.out.ev (i := 7) rfl rfl (HE.out ⟨7, .data⟩ (by simp) rfl)
            have hp := HE.out ⟨7, .data⟩ (by simp) rfl
            have m0 : wr = nw2 wa := HW.out.at 2 rfl hl0 (fun j hj => by obtain rfl : j = 1 := (by omega); exact ⟨7, rfl, hp⟩)
            subst m0
            obtain ⟨i0, hi0, hz0, hs0, hb0⟩ := info_parts info_pdq
            exact wp_bs rfl rfl 62 88 1 _ rfl #[.pointer (some ⟨wa.heap.size + 1, 0, none⟩)] i0 _ u_spdq hi0 hz0 (by rw [hs0]; decide) (by rw [hs0]; decide) (by rw [hs0]; simp [Act.eval, e48]; kernel_rfl) ⟨x, HF.out.put (by kernel_rfl) rfl rfl (by rw [sz_nw2]; rfl) (of_decide_eq_true rfl), HW.out.go 2 hjl rfl hl0 (fun j hj => by obtain rfl : j = 1 := (by omega); exact ⟨7, rfl, hp⟩) (by intro a ha; match a, ha with | 0, ha => simp at ha | 1, ha => simp at ha | 2, _ => rfl | 3, ha => simp at ha | 4, ha => simp at ha) rfl⟩
          | 9, ho =>
            obtain rfl := Option.some.inj ho
            have e45 : fr.tmps[45]?.getD undef = u := HF.out.ev (i := 4) rfl rfl (HE.out ⟨4, .data⟩ (by simp) rfl)
            have e49 : fr.tmps[49]?.getD undef = .slice (some ⟨wa.heap.size + 2, 0, none⟩) 1 1 := HF.out.ev (i := 8) rfl rfl (HE.out ⟨8, .data⟩ (by simp) rfl)
            have hp := HE.out ⟨8, .data⟩ (by simp) rfl
            have m0 : wr = nw3 wa := HW.out.at 3 rfl hl0 (fun j hj => by obtain rfl : j = 2 := (by omega); exact ⟨8, rfl, hp⟩)
            subst m0
            obtain ⟨i0, hi0, hz0, hs0, hb0⟩ := info_parts info_pdq
            have e28' : Act.eval fr (.tmp 45) = u := by simp [Act.eval, e45]
            have e31' : Act.eval fr (.tmp 49) = .slice (some ⟨wa.heap.size + 2, 0, none⟩) 1 1 := by simp [Act.eval, e49]
            refine wpOp_step rfl fun K' hK => ?_
            refine step_append_blk _ (.tmp 45) (.tmp 49) 62 rfl 88 i0 _ 1 8 u_spdq hi0 hz0 hs0 hb0 rfl (by decide) u jj _ e28' HOW.out ⟨wa.heap.size + 2, 0, none⟩ 1 1 [.pointer (some ⟨wa.heap.size + 1, 0, none⟩)] e31' rfl ?_ (by intro v hv; simp at hv; rcases hv with rfl; rfl) (show jj + 1 ≤ 9223372036854775807 by omega) (by omega) rfl ?_
            · intro j v hv
              rw [C.addr_add, Nat.zero_add, cell_of_row _ _ j _ _ _ (nw3_lit wa)]
              simpa using hv
            intro v' w8 hown hgrow hblk
            have hsw := HF.out.swapD (vt' := vtN e u wa v') (by kernel_rfl) (fun d => ?_)
            · exact hK _ _ ⟨v', hsw.put (by kernel_rfl) rfl rfl rfl (of_decide_eq_true rfl), HW.out.go 3 hjl rfl hl0 (fun j hj => by obtain rfl : j = 2 := (by omega); exact ⟨8, rfl, hp⟩) (by intro a ha; match a, ha with | 0, ha => simp at ha | 1, ha => simp at ha | 2, ha => simp at ha | 3, _ => rfl | 4, ha => simp at ha) ⟨hown, grown_ug hgrow, hblk⟩⟩
            · by_cases z0 : d = 50
              · subst z0; exact .inr ⟨9, _, rfl, rfl, hl0⟩
              · left; simp only [vtN, if_neg z0]
          | 10, ho =>
            obtain rfl := Option.some.inj ho
            have e41 : fr.tmps[41]?.getD undef = .pointer (some ⟨e, 0, none⟩) := HF.out.ev (i := 0) rfl rfl (HE.out ⟨0, .data⟩ (by simp) rfl)
            exact wp_q rfl rfl (by simp [execOp, go_sem, e41]; try rfl) ⟨x, HF.out.put (by kernel_rfl) rfl rfl rfl (of_decide_eq_true rfl), HW.out.q hjl (by decide)⟩
          | 11, ho =>
            obtain rfl := Option.some.inj ho
            have e51 : fr.tmps[51]?.getD undef = .pointer (some ⟨e, 0, none⟩) := HF.out.ev (i := 10) rfl rfl (HE.out ⟨10, .data⟩ (by simp) rfl)
            exact wp_q rfl rfl (by simp [execOp, go_sem, e51]; try rfl) ⟨x, HF.out.put (by kernel_rfl) rfl rfl rfl (of_decide_eq_true rfl), HW.out.q hjl (by decide)⟩
          | 12, ho =>
            obtain rfl := Option.some.inj ho
            have e52 : fr.tmps[52]?.getD undef = .pointer (some ⟨e, 8, none⟩) := HF.out.ev (i := 11) rfl rfl (HE.out ⟨11, .data⟩ (by simp) rfl)
            have e50 : fr.tmps[50]?.getD undef = x := HF.out.ev (i := 9) rfl rfl (HE.out ⟨9, .data⟩ (by simp) rfl)
            have hp := HE.out ⟨9, .data⟩ (by simp) rfl
            have m0 := HW.out.at 4 rfl hl0 (fun j hj => by obtain rfl : j = 3 := (by omega); exact ⟨9, rfl, hp⟩)
            obtain ⟨c8, z8⟩ := HC8.out _ _ m0
            obtain ⟨ax, cx, hx⟩ := HST.out _ _ m0
            subst hx
            exact wp_s rfl rfl (by simp [execOp, go_sem, e52, e50, c8, z8]; try rfl) ⟨_, HF.out.skip rfl rfl _, HW.out.go 4 hjl rfl hl0 (fun j hj => by obtain rfl : j = 3 := (by omega); exact ⟨9, rfl, hp⟩) (by intro a ha; match a, ha with | 0, ha => simp at ha | 1, ha => simp at ha | 2, ha => simp at ha | 3, ha => simp at ha | 4, _ => rfl) ⟨wr, m0, rfl⟩⟩
        case fin =>
          rintro listed fr w2 x hF hW hr
          have all := allDone hr hF.q.ls (by kernel_rfl)
          obtain ⟨w8, m4, rfl⟩ := hW.end 4 rfl (all _ (by decide)) (fun s hs q => by match s, hs with | s + 5, _ => exact q)
          rw [hF.full all]
          have HM := hid m4
          clear hF hr all hW m4
          simp only [List.foldl_cons, List.foldl_nil, fillF]
          go_simp
          have hfin := HFN.out _ _ HM.out
          have HFI := hid hfin
          clear hfin HM HFN HLD HST HC8 HOW
          go_wp2_with fail
          go_roundw
          case rel => exact ⟨jj + 1, x, by omega, by go_num, HFI⟩
          case measure => simp [intOf]; omega
      · obtain rfl : jj = N := by omega
        go_wp2
        go_returns
        exact ⟨e, u, _, M, b, rfl, hnw.out⟩
end Go.Proofs.Ytpppljlfljoccaa
namespace Go.Proofs.Ytpppljlfljoccaa
open Go.RowKit Go.MapKept
open C (Only hid Still ret_bool ret_int)
set_option linter.unusedVariables false
set_option maxRecDepth 100000

abbrev Ad := Int × Int × Int × Int × Int × Int
def kA (a : Ad) : Array Value := #[.int .u8 a.1, .int .u8 a.2.1, .int .u8 a.2.2.1, .int .u8 a.2.2.2.1, .int .u8 a.2.2.2.2.1, .int .u8 a.2.2.2.2.2]
theorem u_addr : Try.prog.underlying 51 = some (.array 6 5) := by kernel_rfl
theorem u_au8 : Try.prog.underlying 5 = some (.int .u8) := by kernel_rfl
theorem u_amap : Try.prog.underlying 41 = some (.map 51 3) := by kernel_rfl
theorem run_eqA (a b : Ad) (w : World) : (Op.equalIn 10000 51 (.agg (kA a)) (.agg (kA b))).run Try.prog w = .ok (decide (a = b)) w := by
  obtain ⟨a0, a1, a2, a3, a4, a5⟩ := a
  obtain ⟨b0, b1, b2, b3, b4, b5⟩ := b
  show (Op.equalIn (9999 + 1) 51 (.agg (kA _)) (.agg (kA _))).run Try.prog w = _
  rw [Op.equalIn]
  simp [run_underlying u_addr, kA]
  rw [show List.range' 0 6 = [0, 1, 2, 3, 4, 5] from rfl]
  have hq : ∀ (x y : Int) (w : World), (Op.equalIn 9999 5 (.int .u8 x) (.int .u8 y)).run Try.prog w = .ok (x == y) w := fun x y w => run_equalIn_int (d := 9998) (t := 5) (k := .u8) (k' := .u8) (a := x) (b := y) w u_au8
  by_cases h0 : a0 = b0
  · by_cases h1 : a1 = b1
    · by_cases h2 : a2 = b2
      · by_cases h3 : a3 = b3
        · by_cases h4 : a4 = b4
          · by_cases h5 : a5 = b5
            · simp [go_sem, hq, h0, h1, h2, h3, h4, h5]
            · simp [go_sem, hq, h0, h1, h2, h3, h4, h5]
          · simp [go_sem, hq, h0, h1, h2, h3, h4]
        · simp [go_sem, hq, h0, h1, h2, h3]
      · simp [go_sem, hq, h0, h1, h2]
    · simp [go_sem, hq, h0, h1]
  · simp [go_sem, hq, h0]
end Go.Proofs.Ytpppljlfljoccaa
namespace Go.Proofs.Ytpppljlfljoccaa
open Go.RowKit Go.MapKept
open C (Only hid Still ret_bool ret_int)
set_option linter.unusedVariables false
set_option maxRecDepth 100000

def fA (a : Ad) : List (Ad × Int) → Nat → Option (Nat × Int)
  | [], _ => none
  | p :: L, i => if a = p.1 then some (i, p.2) else fA a L (i + 1)
def EsL (es : List MapEntry) (L : List (Ad × Int)) : Prop := es.map (fun x => (x.key, x.val)) = L.map (fun p => (Value.agg (kA p.1), Value.int .i64 p.2))
theorem EsL.len {es : List MapEntry} {L : List (Ad × Int)} (h : EsL es L) : es.length = L.length := by have := congrArg List.length h; simpa using this
theorem run_find (w : World) (a : Ad) : ∀ (es : List MapEntry) (L : List (Ad × Int)) (i : Nat), EsL es L → (Instr.findAsking 51 (.agg (kA a)) es i).run Try.prog w = .ok ((fA a L i).map fun q => (q.1, .int .i64 q.2)) w
  | [], [], i, _ => by simp [Instr.findAsking, fA]
  | x :: es, p :: L, i, h => by
    simp only [EsL, List.map_cons, List.cons.injEq, Prod.mk.injEq] at h
    obtain ⟨⟨h1, h2⟩, h3⟩ := h
    have he : (Op.equal 51 (.agg (kA a)) x.key).run Try.prog w = .ok (decide (a = p.1)) w := by rw [h1]; exact run_eqA a p.1 w
    by_cases z : a = p.1
    · simp only [decide_eq_true z] at he
      simp [Instr.findAsking, he, fA, if_pos z, h2]
    · simp only [decide_eq_false z] at he
      simp [Instr.findAsking, he, fA, if_neg z, run_find w a es L (i + 1) h3]
  | [], _ :: _, _, h => by simp [EsL] at h
  | _ :: _, [], _, h => by simp [EsL] at h
theorem run_findA (w : World) (a : Ad) (es : List MapEntry) (L : List (Ad × Int)) (h : EsL es L) : (Instr.findKey 51 (.agg (kA a)) es).run Try.prog w = .ok ((fA a L 0).map fun q => (q.1, .int .i64 q.2)) w := by
  rw [run_findKey_eq (P := Try.prog) (w := w) (by rw [u_addr]) _ _]
  exact run_find w a es L 0 h
theorem run_checkA (w : World) (em : Bool) (a : Ad) : (Instr.checkKey em 10000 51 (.agg (kA a))).run Try.prog w = .ok () w := by
  have hc : ∀ (x : Int) (w : World), (Instr.checkKey em 9999 5 (.int .u8 x)).run Try.prog w = .ok () w := fun x w => run_checkKey (d := .int .u8) (k := .int .u8 x) u_au8 (by simp [IsKey]) em 9998
  show (Instr.checkKey em (9999 + 1) 51 (.agg (kA a))).run Try.prog w = _
  rw [Instr.checkKey]
  simp [run_underlying u_addr, kA]
  rw [show List.range' 0 6 = [0, 1, 2, 3, 4, 5] from rfl]
  simp [go_sem, hc]
theorem fA_spec (a : Ad) : ∀ (L : List (Ad × Int)) (i j : Nat) (p : Int), fA a L i = some (j, p) → i ≤ j ∧ L[j - i]? = some (a, p)
  | [], i, j, p, h => by simp [fA] at h
  | q :: L, i, j, p, h => by
    unfold fA at h
    split at h
    · rename_i z
      simp at h
      obtain ⟨rfl, rfl⟩ := h
      exact ⟨Nat.le_refl _, by simp [z]⟩
    · obtain ⟨h1, h2⟩ := fA_spec a L (i + 1) j p h
      refine ⟨by omega, ?_⟩
      obtain ⟨k, rfl⟩ : ∃ k, j = i + 1 + k := ⟨j - (i + 1), by omega⟩
      rw [show i + 1 + k - (i + 1) = k by omega] at h2
      rw [show i + 1 + k - i = k + 1 by omega]
      simpa using h2
/-- known, or not -/
def kn (L : List (Ad × Int)) (a : Ad) : Bool := (fA a L 0).isSome
def upA (L : List (Ad × Int)) (a : Ad) (p : Int) : List (Ad × Int) := match fA a L 0 with | some (j, _) => L.set j (a, p) | none => L ++ [(a, p)]
/-- a switch -/
structure Sw (w : World) (p M : Nat) (ports : Int) (L : List (Ad × Int)) : Prop where
  blk : w.heap[p]? = some (.cells #[.int .i64 ports, .map (some M)] 43 (0, 0))
  mp : ∃ es c, w.heap[M]? = some (.map es c) ∧ EsL es.toList L
theorem Sw.only {w w' : World} {p M : Nat} {ports : Int} {L : List (Ad × Int)} (h : Sw w p M ports L) {T : Nat → Prop} (ho : Only T w w') (h1 : ¬ T p) (h2 : ¬ T M) : Sw w' p M ports L := by
  obtain ⟨b, es, c, m, e⟩ := h
  exact ⟨ho.old b h1, es, c, ho.old m h2, e⟩
theorem Sw.below {w w' : World} {p M : Nat} {ports : Int} {L : List (Ad × Int)} (h : Sw w p M ports L) (hb : Below w.heap.size w w') : Sw w' p M ports L := h.only (T := fun _ => False) (.ofBelow hb) (fun q => q) (fun q => q)
theorem Sw.look {w : World} {p M : Nat} {ports : Int} {L : List (Ad × Int)} (h : Sw w p M ports L) (a : Ad) : (Instr.lookup 41 (.map (some M)) (.agg (kA a)) true).run Try.prog w = .ok (.tuple #[.int .i64 (((fA a L 0).map (·.2)).getD 0), .bool (kn L a)]) w := by
  obtain ⟨-, es, c, hm, he⟩ := h
  have hf := run_findA w a es.toList L he
  have hc := run_checkA w es.isEmpty a
  have hz := Try.zeroValue3 w
  unfold kn
  cases z : fA a L 0 with
  | none =>
    rw [z] at hf
    simp at hf
    simp [Instr.lookup, run_underlying u_amap, MapKept.run_getObj_map hm, hc, hf, hz, Result.andThen]
  | some q =>
    rw [z] at hf
    simp at hf
    simp [Instr.lookup, run_underlying u_amap, MapKept.run_getObj_map hm, hc, hf, Result.andThen]
theorem sameA (a : Ad) : Instr.sameBits 10000 (.agg (kA a)) (.agg (kA a)) = true := by
  show Instr.sameBits (9999 + 1) _ _ = true
  simp [Instr.sameBits, kA]
theorem Sw.upd {w : World} {p M : Nat} {ports : Int} {L : List (Ad × Int)} (h : Sw w p M ports L) (a : Ad) (x : Int) : ∃ w', (Instr.mapUpdate 41 (.map (some M)) (.agg (kA a)) (.int .i64 x)).run Try.prog w = .ok () w' ∧ Sw w' p M ports (upA L a x) ∧ Only (· = M) w w' := by
  obtain ⟨hb, es, c, hm, he⟩ := h
  have hf := run_findA w a es.toList L he
  have hc := run_checkA w false a
  have hlt : M < w.heap.size := (Array.getElem?_eq_some_iff.1 hm).1
  have hpM : p ≠ M := fun z => by subst z; rw [hm] at hb; cases hb
  have key : ∀ (o : Obj) (es' : Array MapEntry) (c' : Nat), o = .map es' c' → EsL es'.toList (upA L a x) → Sw { w with heap := w.heap.setIfInBounds M o } p M ports (upA L a x) ∧ Only (· = M) w { w with heap := w.heap.setIfInBounds M o } := fun o es' c' ho hes => by
    subst ho
    have old : ∀ k, k ≠ M → (w.heap.setIfInBounds M (.map es' c'))[k]? = w.heap[k]? := fun k hk => by rw [Array.getElem?_setIfInBounds, if_neg (fun z => hk z.symm)]
    refine ⟨⟨(old p hpM).trans hb, es', c', ?_, hes⟩, ⟨rfl, rfl, rfl, by simp, fun k hk hs => old k hs⟩⟩
    show (w.heap.setIfInBounds M _)[M]? = _
    rw [Array.getElem?_setIfInBounds, if_pos rfl, if_pos hlt]
  cases z : fA a L 0 with
  | none =>
    rw [z] at hf
    simp at hf
    refine ⟨{ w with heap := w.heap.setIfInBounds M (.map (es.push ⟨.agg (kA a), .int .i64 x, c⟩) (c + 1)) }, ?_, key _ _ _ rfl ?_⟩
    · simp [Instr.mapUpdate, run_underlying u_amap, MapKept.run_getObj_map hm, hc, hf, MapKept.run_setObj_map _ hm, Result.andThen]
    · simp only [upA, z, EsL, Array.toList_push, List.map_append, List.map_cons, List.map_nil]
      rw [show es.toList.map (fun x => (x.key, x.val)) = _ from he]
  | some q =>
    obtain ⟨j, y⟩ := q
    rw [z] at hf
    simp at hf
    obtain ⟨-, hj⟩ := fA_spec a L 0 j y z
    rw [Nat.sub_zero] at hj
    have hjl : j < L.length := (List.getElem?_eq_some_iff.1 hj).1
    have hje : j < es.size := by have := he.len; simp at this; omega
    have hk : es[j].key = .agg (kA a) := by
      have := congrArg (fun l : List (Value × Value) => l[j]?) he
      simp [hj, hje] at this
      exact this.1
    refine ⟨{ w with heap := w.heap.setIfInBounds M (.map (es.modify j fun e => { e with key := .agg (kA a), val := .int .i64 x }) c) }, ?_, key _ _ _ rfl ?_⟩
    · simp [Instr.mapUpdate, run_underlying u_amap, MapKept.run_getObj_map hm, hc, hf, MapKept.run_setObj_map _ hm, Result.andThen, hje, hk, Instr.keyThatStays, sameA]
    · simp only [upA, z, EsL]
      apply List.ext_getElem?
      intro k
      have hek := congrArg (fun l : List (Value × Value) => l[k]?) he
      simp only [List.getElem?_map, Array.getElem?_toList, Array.getElem?_modify, List.getElem?_set] at hek ⊢
      by_cases q : j = k
      · subst q
        rw [if_pos rfl, if_pos rfl, if_pos hjl]
        simp [hje]
      · rw [if_neg q, if_neg q]
        exact hek
end Go.Proofs.Ytpppljlfljoccaa
namespace Go.Proofs.Ytpppljlfljoccaa
open Go.RowKit Go.MapKept
open C (Only hid Still ret_bool ret_int)
set_option linter.unusedVariables false
set_option maxRecDepth 100000

theorem and1 : ∀ k : Fin 256, bits BinOp.and IntKind.u8 ((k.val : Nat) : Int) 1 = ((k.val % 2 : Nat) : Int) := by decide +kernel
theorem and1' (x : Int) (h0 : 0 ≤ x) (h1 : x < 256) : bits BinOp.and IntKind.u8 x 1 = x % 2 := by
  have := and1 ⟨x.toNat, by omega⟩
  rw [show ((x.toNat : Nat) : Int) = x by omega] at this
  rw [this]
  show ((x.toNat % 2 : Nat) : Int) = x % 2
  omega
theorem s_addr : (Try.prog.info? 51).map (·.size) = some 6 := by kernel_rfl
def AOk (a : Ad) : Prop := (0 ≤ a.1 ∧ a.1 < 256) ∧ (0 ≤ a.2.1 ∧ a.2.1 < 256) ∧ (0 ≤ a.2.2.1 ∧ a.2.2.1 < 256) ∧ (0 ≤ a.2.2.2.1 ∧ a.2.2.2.1 < 256) ∧ (0 ≤ a.2.2.2.2.1 ∧ a.2.2.2.2.1 < 256) ∧ (0 ≤ a.2.2.2.2.2 ∧ a.2.2.2.2.2 < 256)
theorem wpAny_at {P : Program} {md : Region.Mode} {ops : Array Oper} {Q : Exit → Act → World → Prop} {n : Nat} {l : Array Bool} {a : Act} {W w0 : World} (h : W = w0) (hk : wpAny P md ops Q n l a w0) : wpAny P md ops Q n l a W := h ▸ hk
/-- what it knows then -/
def lrn (L : List (Ad × Int)) (a : Ad) (x : Int) : List (Ad × Int) := bif a.1 % 2 == 0 && (kn L a || decide (L.length < 32)) then upA L a x else L
theorem sw_len {w : World} {p M : Nat} {ports : Int} {L : List (Ad × Int)} (h : Sw w p M ports L) : ∃ es c, w.heap[M]? = some (.map es c) ∧ es.size = L.length := by
  obtain ⟨-, es, c, hm, he⟩ := h
  exact ⟨es, c, hm, by have := he.len; simpa using this⟩
set_option maxHeartbeats 2000000 in
theorem k_learn (w : World) (p M : Nat) (ports : Int) (L : List (Ad × Int)) (h : Sw w p M ports L) (a : Ad) (ha : 0 ≤ a.1 ∧ a.1 < 256) (xx : Int) : Calls Try.prog 14 #[.pointer (some ⟨p, 0, none⟩), .agg (kA a), .int .i64 xx] w fun r w' => r = .returned (.tuple #[]) ∧ Sw w' p M ports (lrn L a xx) ∧ Only (· = M) w w' := by
  obtain ⟨g, hg⟩ : ∃ g, g = w.heap.size := ⟨_, rfl⟩
  have hb := (Below.refl w.heap.size w).alloc (Nat.le_refl _) (.cells (kA a) 51)
  have hA : (w.alloc (.cells (kA a) 51)).heap[g]? = some (.cells (kA a) 51 (0, 0)) := by rw [hg]; exact heap_alloc_new w _
  have hS := h.below hb
  have HG := hid hg
  have ea := and1' a.1 ha.1 ha.2
  have HB := hid hb
  have HR : Hid (lrn L a xx = bif a.1 % 2 == 0 && (kn L a || decide (L.length < 32)) then upA L a xx else L) := rfl
  generalize lrn L a xx = L' at *
  clear h hg hb
  obtain ⟨y, hy⟩ : ∃ y, y = ((fA a L 0).map (·.2)).getD 0 := ⟨_, rfl⟩
  obtain ⟨kb, hkb⟩ : ∃ kb, kb = kn L a := ⟨_, rfl⟩
  rw [← hkb] at HR
  have HX : Hid (∀ w1, Sw w1 p M ports L → w1.heap[g]? = some (.cells (kA a) 51 (0, 0)) → w1.cell? ⟨p, 1, none⟩ = some (.map (some M)) ∧ (w1.cell? ⟨g, 0, none⟩ = some (.int .u8 a.1) ∧ w1.cell? ⟨g, 1, none⟩ = some (.int .u8 a.2.1) ∧ w1.cell? ⟨g, 2, none⟩ = some (.int .u8 a.2.2.1) ∧ w1.cell? ⟨g, 3, none⟩ = some (.int .u8 a.2.2.2.1) ∧ w1.cell? ⟨g, 4, none⟩ = some (.int .u8 a.2.2.2.2.1) ∧ w1.cell? ⟨g, 5, none⟩ = some (.int .u8 a.2.2.2.2.2)) ∧ (Instr.lookup 41 (.map (some M)) (.agg #[.int .u8 a.1, .int .u8 a.2.1, .int .u8 a.2.2.1, .int .u8 a.2.2.2.1, .int .u8 a.2.2.2.2.1, .int .u8 a.2.2.2.2.2]) true).run Try.prog w1 = .ok (.tuple #[.int .i64 y, .bool kb]) w1) := fun w1 h1 h2 =>
    ⟨cell_of_row w1 p 1 _ _ _ h1.blk, ⟨cell_of_row w1 g 0 _ _ _ h2, cell_of_row w1 g 1 _ _ _ h2, cell_of_row w1 g 2 _ _ _ h2, cell_of_row w1 g 3 _ _ _ h2, cell_of_row w1 g 4 _ _ _ h2, cell_of_row w1 g 5 _ _ _ h2⟩, by rw [hy, hkb]; exact h1.look a⟩
  have HSw := hid hS
  have HAg := hid hA
  clear hy hkb hS hA
  go_enter Try.func14, Try.ntmps14
  go_upto_region 1 with fail
  obtain ⟨w0, hw0⟩ : ∃ w0, w0 = (w.alloc (.cells (kA a) 51)).drew := ⟨_, rfl⟩
  refine wp_region_any (by kernel_rfl) ?_
  rw [← HG.out]
  refine wpAny_at (w0 := w0) hw0.symm ?_
  have s0 : Sw w0 p M ports L := by rw [hw0]; obtain ⟨q1, q2⟩ := HSw.out; exact ⟨q1, q2⟩
  have a0 : w0.heap[g]? = some (.cells (kA a) 51 (0, 0)) := by rw [hw0]; exact HAg.out
  have HB0 : Hid (Below w.heap.size w w0) := by rw [hw0]; exact HB.out.drew
  obtain ⟨x1, x2, x3⟩ := HX.out w0 s0 a0
  have HC1 := hid x1
  have HLA := hid x2
  have HLK := hid x3
  have HS0 := hid s0
  have HA0 := hid a0
  clear hw0 x1 x2 x3 s0 a0 HSw HAg HB
  refine wpAny_fz (α := Unit) (fun _ => fun dd => if dd = 9 then .pointer (some ⟨p, 0, none⟩) else if dd = 10 then .pointer (some ⟨p, 0, none⟩) else if dd = 11 then .pointer (some ⟨p, 1, none⟩) else if dd = 12 then .map (some M) else if dd = 13 then .agg #[.int .u8 a.1, .int .u8 a.2.1, .int .u8 a.2.2.1, .int .u8 a.2.2.2.1, .int .u8 a.2.2.2.2.1, .int .u8 a.2.2.2.2.2] else if dd = 14 then .tuple #[.int .i64 y, .bool kb] else if dd = 8 then .tuple #[.int .i64 y, .bool kb] else if dd = 15 then .int .i64 y else if dd = 16 then .bool kb else if dd = 6 then .int .i64 y else if dd = 7 then .bool kb else undef) (fun x listed w => VS [] (fun n (_ : Unit) w => w = w0) x listed w) ?step ?fin () ?start
  case start => exact .start rfl
  case step =>
    rintro listed fr wr x hF hW hC i hj
    obtain ⟨hl, o, ho, he⟩ := mem_ready.1 hj
    have hjl : i < listed.size := by rw [hF.q.ls]; exact (Array.getElem?_eq_some_iff.1 ho).1
    have hl0 := getD_tf hjl hl
    clear hj
    have HF := hid hF
    have HW := hid hW
    have HE := hid he
    have HC := hid hC
    clear hF hW he hl hC
    match i, ho with
    | 0, ho =>
      obtain rfl := Option.some.inj ho
      have e0 : fr.tmps[0]?.getD undef = .pointer (some ⟨p, 0, none⟩) := HF.out.base 0 (by kernel_rfl) rfl
      exact wp_q rfl rfl (by simp [execOp, go_sem, e0]; try rfl) ⟨(), HF.out.put (by kernel_rfl) rfl rfl rfl (of_decide_eq_true rfl), HW.out.q hjl (by decide)⟩
    | 1, ho =>
      obtain rfl := Option.some.inj ho
      have e9 : fr.tmps[9]?.getD undef = .pointer (some ⟨p, 0, none⟩) := HF.out.ev (i := 0) rfl rfl (HE.out ⟨0, .data⟩ (by simp) rfl)
      exact wp_q rfl rfl (by simp [execOp, go_sem, e9]; try rfl) ⟨(), HF.out.put (by kernel_rfl) rfl rfl rfl (of_decide_eq_true rfl), HW.out.q hjl (by decide)⟩
    | 2, ho =>
      obtain rfl := Option.some.inj ho
      have e10 : fr.tmps[10]?.getD undef = .pointer (some ⟨p, 0, none⟩) := HF.out.ev (i := 1) rfl rfl (HE.out ⟨1, .data⟩ (by simp) rfl)
      exact wp_q rfl rfl (by simp [execOp, go_sem, e10]; try rfl) ⟨(), HF.out.put (by kernel_rfl) rfl rfl rfl (of_decide_eq_true rfl), HW.out.q hjl (by decide)⟩
    | 3, ho =>
      obtain rfl := Option.some.inj ho
      have e11 : fr.tmps[11]?.getD undef = .pointer (some ⟨p, 1, none⟩) := HF.out.ev (i := 2) rfl rfl (HE.out ⟨2, .data⟩ (by simp) rfl)
      have hw0 : wr = w0 := by obtain ⟨_, _, q⟩ := HW.out; exact q
      subst hw0
      exact wp_q rfl rfl (by simp [execOp, go_sem, e11, HC1.out]; try rfl) ⟨(), HF.out.put (by kernel_rfl) rfl rfl rfl (of_decide_eq_true rfl), HW.out.q hjl (by decide)⟩
    | 4, ho =>
      obtain rfl := Option.some.inj ho
      have e4 : fr.tmps[4]?.getD undef = .pointer (some ⟨g, 0, none⟩) := HF.out.base 4 (by kernel_rfl) rfl
      have hw0 : wr = w0 := by obtain ⟨_, _, q⟩ := HW.out; exact q
      subst hw0
      obtain ⟨l0, l1, l2, l3, l4, l5⟩ := HLA.out
      exact wp_q rfl rfl (by simp [execOp, go_sem, e4, l0, l1, l2, l3, l4, l5]; try rfl) ⟨(), HF.out.put (by kernel_rfl) rfl rfl rfl (of_decide_eq_true rfl), HW.out.q hjl (by decide)⟩
    | 5, ho =>
      obtain rfl := Option.some.inj ho
      have e12 : fr.tmps[12]?.getD undef = .map (some M) := HF.out.ev (i := 3) rfl rfl (HE.out ⟨3, .data⟩ (by simp) rfl)
      have e13 : fr.tmps[13]?.getD undef = .agg #[.int .u8 a.1, .int .u8 a.2.1, .int .u8 a.2.2.1, .int .u8 a.2.2.2.1, .int .u8 a.2.2.2.2.1, .int .u8 a.2.2.2.2.2] := HF.out.ev (i := 4) rfl rfl (HE.out ⟨4, .data⟩ (by simp) rfl)
      have hw0 : wr = w0 := by obtain ⟨_, _, q⟩ := HW.out; exact q
      subst hw0
      exact wp_q rfl rfl (by simp [execOp, go_sem, e12, e13, HLK.out]; try rfl) ⟨(), HF.out.put (by kernel_rfl) rfl rfl rfl (of_decide_eq_true rfl), HW.out.q hjl (by decide)⟩
    | 6, ho =>
      obtain rfl := Option.some.inj ho
      have e14 : fr.tmps[14]?.getD undef = .tuple #[.int .i64 y, .bool kb] := HF.out.ev (i := 5) rfl rfl (HE.out ⟨5, .data⟩ (by simp) rfl)
      exact wp_q rfl rfl (by simp [execOp, go_sem, e14]; try rfl) ⟨(), HF.out.put (by kernel_rfl) rfl rfl rfl (of_decide_eq_true rfl), HW.out.q hjl (by decide)⟩
    | 7, ho =>
      obtain rfl := Option.some.inj ho
      have e8 : fr.tmps[8]?.getD undef = .tuple #[.int .i64 y, .bool kb] := HF.out.ev (i := 6) rfl rfl (HE.out ⟨6, .data⟩ (by simp) rfl)
      exact wp_q rfl rfl (by simp [execOp, go_sem, e8]; try rfl) ⟨(), HF.out.put (by kernel_rfl) rfl rfl rfl (of_decide_eq_true rfl), HW.out.q hjl (by decide)⟩
    | 8, ho =>
      obtain rfl := Option.some.inj ho
      have e8 : fr.tmps[8]?.getD undef = .tuple #[.int .i64 y, .bool kb] := HF.out.ev (i := 6) rfl rfl (HE.out ⟨6, .data⟩ (by simp) rfl)
      exact wp_q rfl rfl (by simp [execOp, go_sem, e8]; try rfl) ⟨(), HF.out.put (by kernel_rfl) rfl rfl rfl (of_decide_eq_true rfl), HW.out.q hjl (by decide)⟩
    | 9, ho =>
      obtain rfl := Option.some.inj ho
      have e15 : fr.tmps[15]?.getD undef = .int .i64 y := HF.out.ev (i := 7) rfl rfl (HE.out ⟨7, .data⟩ (by simp) rfl)
      exact wp_q rfl rfl (by simp [execOp, go_sem, e15]; try rfl) ⟨(), HF.out.put (by kernel_rfl) rfl rfl rfl (of_decide_eq_true rfl), HW.out.q hjl (by decide)⟩
    | 10, ho =>
      obtain rfl := Option.some.inj ho
      have e16 : fr.tmps[16]?.getD undef = .bool kb := HF.out.ev (i := 8) rfl rfl (HE.out ⟨8, .data⟩ (by simp) rfl)
      exact wp_q rfl rfl (by simp [execOp, go_sem, e16]; try rfl) ⟨(), HF.out.put (by kernel_rfl) rfl rfl rfl (of_decide_eq_true rfl), HW.out.q hjl (by decide)⟩
  case fin =>
    rintro listed fr w2 x hF hW hr
    have all := allDoneB hr hF.q.ls (by kernel_rfl)
    obtain ⟨_, _, hw⟩ := hW
    have hw : w2 = w0 := hw
    subst hw
    rw [hF.full all]
    clear hF hr all
    simp only [List.foldl_cons, List.foldl_nil, fillF]
    go_simp
    obtain ⟨es, cc0, hme, hsz⟩ := sw_len HS0.out
    have l0 := HLA.out.1
    have c1 := HC1.out
    have HSZ := hid hsz
    have hlm : (Builtin.len_ #[41] 3 #[.map (some M)]).run Try.prog w2 = .ok (.int .i64 es.size) w2 := by simp [Builtin.len_, run_underlying u_amap, MapKept.run_getObj_map hme, goInt]
    clear HLA HC1 hsz
    by_cases q : a.1 % 2 = 0
    · rw [q] at ea
      rw [show (a.1 % 2 == 0) = true from by simp [q]] at HR
      simp only [Bool.true_and] at HR
      cases kb
      · by_cases q32 : L.length < 32
        · have hlt : (es.size : Int) < 32 := by have := HSZ.out; omega
          obtain rfl : L' = upA L a xx := by rw [HR.out]; simp [q32]
          clear HR
          go_upto_region 3 with fail
          obtain ⟨w0, hw0⟩ : ∃ w0, w0 = w2.drew := ⟨_, rfl⟩
          refine wp_region_any (by kernel_rfl) ?_
          refine wpAny_at (w0 := w0) hw0.symm ?_
          have s0 : Sw w0 p M ports L := by rw [hw0]; obtain ⟨q1, q2⟩ := HS0.out; exact ⟨q1, q2⟩
          have a0 : w0.heap[g]? = some (.cells (kA a) 51 (0, 0)) := by rw [hw0]; exact HA0.out
          have HB1 : Hid (Below w.heap.size w w0) := by rw [hw0]; exact HB0.out.drew
          obtain ⟨x1, x2, x3⟩ := HX.out w0 s0 a0
          have HC1 := hid x1
          have HLA := hid x2
          have HUP := hid (s0.upd a xx)
          simp only [kA] at HUP
          clear hw0 x1 x2 x3 s0 a0 HS0 HA0 HLK HX hme HSZ c1 l0
          refine wpAny_fz (α := Unit) (fun _ => fun dd => if dd = 32 then .pointer (some ⟨p, 0, none⟩) else if dd = 33 then .pointer (some ⟨p, 0, none⟩) else if dd = 34 then .pointer (some ⟨p, 1, none⟩) else if dd = 35 then .map (some M) else if dd = 36 then .agg #[.int .u8 a.1, .int .u8 a.2.1, .int .u8 a.2.2.1, .int .u8 a.2.2.2.1, .int .u8 a.2.2.2.2.1, .int .u8 a.2.2.2.2.2] else if dd = 37 then .int .i64 xx else undef) (fun x listed w => VS [6] (fun n (_ : Unit) w => if n = 0 then w = w0 else Sw w p M ports (upA L a xx) ∧ Only (· = M) w0 w) x listed w) ?step ?fin () ?start
          case start => exact .start rfl
          case step =>
            rintro listed fr wr x hF hW hC i hj
            obtain ⟨hl, o, ho, he⟩ := mem_ready.1 hj
            have hjl : i < listed.size := by rw [hF.q.ls]; exact (Array.getElem?_eq_some_iff.1 ho).1
            have hl0 := getD_tf hjl hl
            clear hj
            have HF := hid hF
            have HW := hid hW
            have HE := hid he
            have HC := hid hC
            clear hF hW he hl hC
            match i, ho with
            | 0, ho =>
              obtain rfl := Option.some.inj ho
              have e0 : fr.tmps[0]?.getD undef = .pointer (some ⟨p, 0, none⟩) := HF.out.base 0 (by kernel_rfl) rfl
              exact wp_q rfl rfl (by simp [execOp, go_sem, e0]; try rfl) ⟨(), HF.out.put (by kernel_rfl) rfl rfl rfl (of_decide_eq_true rfl), HW.out.q hjl (by decide)⟩
            | 1, ho =>
              obtain rfl := Option.some.inj ho
              have e32 : fr.tmps[32]?.getD undef = .pointer (some ⟨p, 0, none⟩) := HF.out.ev (i := 0) rfl rfl (HE.out ⟨0, .data⟩ (by simp) rfl)
              exact wp_q rfl rfl (by simp [execOp, go_sem, e32]; try rfl) ⟨(), HF.out.put (by kernel_rfl) rfl rfl rfl (of_decide_eq_true rfl), HW.out.q hjl (by decide)⟩
            | 2, ho =>
              obtain rfl := Option.some.inj ho
              have e33 : fr.tmps[33]?.getD undef = .pointer (some ⟨p, 0, none⟩) := HF.out.ev (i := 1) rfl rfl (HE.out ⟨1, .data⟩ (by simp) rfl)
              exact wp_q rfl rfl (by simp [execOp, go_sem, e33]; try rfl) ⟨(), HF.out.put (by kernel_rfl) rfl rfl rfl (of_decide_eq_true rfl), HW.out.q hjl (by decide)⟩
            | 3, ho =>
              obtain rfl := Option.some.inj ho
              have e34 : fr.tmps[34]?.getD undef = .pointer (some ⟨p, 1, none⟩) := HF.out.ev (i := 2) rfl rfl (HE.out ⟨2, .data⟩ (by simp) rfl)
              have hw0 : wr = w0 := HW.out.at 0 rfl (not_yet HC.out hl0 rfl ⟨3, .data⟩ (by simp) rfl rfl) (fun j hj => by omega)
              subst hw0
              exact wp_q rfl rfl (by simp [execOp, go_sem, e34, HC1.out]; try rfl) ⟨(), HF.out.put (by kernel_rfl) rfl rfl rfl (of_decide_eq_true rfl), HW.out.q hjl (by decide)⟩
            | 4, ho =>
              obtain rfl := Option.some.inj ho
              have e4 : fr.tmps[4]?.getD undef = .pointer (some ⟨g, 0, none⟩) := HF.out.base 4 (by kernel_rfl) rfl
              have hw0 : wr = w0 := HW.out.at 0 rfl (not_yet HC.out hl0 rfl ⟨4, .data⟩ (by simp) rfl rfl) (fun j hj => by omega)
              subst hw0
              obtain ⟨l0, l1, l2, l3, l4, l5⟩ := HLA.out
              exact wp_q rfl rfl (by simp [execOp, go_sem, e4, l0, l1, l2, l3, l4, l5]; try rfl) ⟨(), HF.out.put (by kernel_rfl) rfl rfl rfl (of_decide_eq_true rfl), HW.out.q hjl (by decide)⟩
            | 5, ho =>
              obtain rfl := Option.some.inj ho
              have e2 : fr.tmps[2]?.getD undef = .int .i64 xx := HF.out.base 2 (by kernel_rfl) rfl
              exact wp_q rfl rfl (by simp [execOp, go_sem, e2]; try rfl) ⟨(), HF.out.put (by kernel_rfl) rfl rfl rfl (of_decide_eq_true rfl), HW.out.q hjl (by decide)⟩
            | 6, ho =>
              obtain rfl := Option.some.inj ho
              have e35 : fr.tmps[35]?.getD undef = .map (some M) := HF.out.ev (i := 3) rfl rfl (HE.out ⟨3, .data⟩ (by simp) rfl)
              have e36 : fr.tmps[36]?.getD undef = .agg #[.int .u8 a.1, .int .u8 a.2.1, .int .u8 a.2.2.1, .int .u8 a.2.2.2.1, .int .u8 a.2.2.2.2.1, .int .u8 a.2.2.2.2.2] := HF.out.ev (i := 4) rfl rfl (HE.out ⟨4, .data⟩ (by simp) rfl)
              have e37 : fr.tmps[37]?.getD undef = .int .i64 xx := HF.out.ev (i := 5) rfl rfl (HE.out ⟨5, .data⟩ (by simp) rfl)
              have hw0 : wr = w0 := HW.out.at 0 rfl hl0 (fun j hj => by omega)
              subst hw0
              obtain ⟨w', h1, h2, h3⟩ := HUP.out
              exact wp_s (w' := w') rfl rfl (by simp [execOp, go_sem, e35, e36, e37, h1]; try rfl) ⟨(), HF.out.skip rfl rfl _, HW.out.go 0 hjl rfl hl0 (fun j hj => by omega) (by intro a ha; match a, ha with | 0, _ => rfl) ⟨h2, h3⟩⟩
          case fin =>
            rintro listed fr w2 x hF hW hr
            have all := allDone hr hF.q.ls (by kernel_rfl)
            have hw := hW.end 0 rfl (all _ (by decide)) (fun s hs q => by rw [if_neg (by omega)] at q; exact q)
            obtain ⟨g1, g2⟩ := (show Sw w2 p M ports (upA L a xx) ∧ Only (· = M) w0 w2 from hw)
            rw [hF.full all]
            clear hF hr all hW hw
            simp only [List.foldl_cons, List.foldl_nil, fillF]
            go_simp
            have G1 := hid g1
            have G2 := hid g2
            clear g1 g2
            go_wp2_with fail
            go_end0
            exact ⟨rfl, G1.out, (Only.ofBelow HB1.out).trans G2.out⟩
        · obtain rfl : L' = L := by rw [HR.out]; simp [q32]
          have hlt : ¬ (es.size : Int) < 32 := by have := HSZ.out; omega
          clear HR
          go_wp2_with fail
          go_end0
          exact ⟨rfl, HS0.out, Only.ofBelow HB0.out⟩
      · have hlt := 0
        obtain rfl : L' = upA L a xx := by rw [HR.out]; rfl
        clear HR
        go_upto_region 3 with fail
        obtain ⟨w0, hw0⟩ : ∃ w0, w0 = w2.drew := ⟨_, rfl⟩
        refine wp_region_any (by kernel_rfl) ?_
        refine wpAny_at (w0 := w0) hw0.symm ?_
        have s0 : Sw w0 p M ports L := by rw [hw0]; obtain ⟨q1, q2⟩ := HS0.out; exact ⟨q1, q2⟩
        have a0 : w0.heap[g]? = some (.cells (kA a) 51 (0, 0)) := by rw [hw0]; exact HA0.out
        have HB1 : Hid (Below w.heap.size w w0) := by rw [hw0]; exact HB0.out.drew
        obtain ⟨x1, x2, x3⟩ := HX.out w0 s0 a0
        have HC1 := hid x1
        have HLA := hid x2
        have HUP := hid (s0.upd a xx)
        simp only [kA] at HUP
        clear hw0 x1 x2 x3 s0 a0 HS0 HA0 HLK HX hme HSZ c1 l0
        refine wpAny_fz (α := Unit) (fun _ => fun dd => if dd = 32 then .pointer (some ⟨p, 0, none⟩) else if dd = 33 then .pointer (some ⟨p, 0, none⟩) else if dd = 34 then .pointer (some ⟨p, 1, none⟩) else if dd = 35 then .map (some M) else if dd = 36 then .agg #[.int .u8 a.1, .int .u8 a.2.1, .int .u8 a.2.2.1, .int .u8 a.2.2.2.1, .int .u8 a.2.2.2.2.1, .int .u8 a.2.2.2.2.2] else if dd = 37 then .int .i64 xx else undef) (fun x listed w => VS [6] (fun n (_ : Unit) w => if n = 0 then w = w0 else Sw w p M ports (upA L a xx) ∧ Only (· = M) w0 w) x listed w) ?step ?fin () ?start
        case start => exact .start rfl
        case step =>
          rintro listed fr wr x hF hW hC i hj
          obtain ⟨hl, o, ho, he⟩ := mem_ready.1 hj
          have hjl : i < listed.size := by rw [hF.q.ls]; exact (Array.getElem?_eq_some_iff.1 ho).1
          have hl0 := getD_tf hjl hl
          clear hj
          have HF := hid hF
          have HW := hid hW
          have HE := hid he
          have HC := hid hC
          clear hF hW he hl hC
          match i, ho with
          | 0, ho =>
            obtain rfl := Option.some.inj ho
            have e0 : fr.tmps[0]?.getD undef = .pointer (some ⟨p, 0, none⟩) := HF.out.base 0 (by kernel_rfl) rfl
            exact wp_q rfl rfl (by simp [execOp, go_sem, e0]; try rfl) ⟨(), HF.out.put (by kernel_rfl) rfl rfl rfl (of_decide_eq_true rfl), HW.out.q hjl (by decide)⟩
          | 1, ho =>
            obtain rfl := Option.some.inj ho
            have e32 : fr.tmps[32]?.getD undef = .pointer (some ⟨p, 0, none⟩) := HF.out.ev (i := 0) rfl rfl (HE.out ⟨0, .data⟩ (by simp) rfl)
            exact wp_q rfl rfl (by simp [execOp, go_sem, e32]; try rfl) ⟨(), HF.out.put (by kernel_rfl) rfl rfl rfl (of_decide_eq_true rfl), HW.out.q hjl (by decide)⟩
          | 2, ho =>
            obtain rfl := Option.some.inj ho
            have e33 : fr.tmps[33]?.getD undef = .pointer (some ⟨p, 0, none⟩) := HF.out.ev (i := 1) rfl rfl (HE.out ⟨1, .data⟩ (by simp) rfl)
            exact wp_q rfl rfl (by simp [execOp, go_sem, e33]; try rfl) ⟨(), HF.out.put (by kernel_rfl) rfl rfl rfl (of_decide_eq_true rfl), HW.out.q hjl (by decide)⟩
          | 3, ho =>
            obtain rfl := Option.some.inj ho
            have e34 : fr.tmps[34]?.getD undef = .pointer (some ⟨p, 1, none⟩) := HF.out.ev (i := 2) rfl rfl (HE.out ⟨2, .data⟩ (by simp) rfl)
            have hw0 : wr = w0 := HW.out.at 0 rfl (not_yet HC.out hl0 rfl ⟨3, .data⟩ (by simp) rfl rfl) (fun j hj => by omega)
            subst hw0
            exact wp_q rfl rfl (by simp [execOp, go_sem, e34, HC1.out]; try rfl) ⟨(), HF.out.put (by kernel_rfl) rfl rfl rfl (of_decide_eq_true rfl), HW.out.q hjl (by decide)⟩
          | 4, ho =>
            obtain rfl := Option.some.inj ho
            have e4 : fr.tmps[4]?.getD undef = .pointer (some ⟨g, 0, none⟩) := HF.out.base 4 (by kernel_rfl) rfl
            have hw0 : wr = w0 := HW.out.at 0 rfl (not_yet HC.out hl0 rfl ⟨4, .data⟩ (by simp) rfl rfl) (fun j hj => by omega)
            subst hw0
            obtain ⟨l0, l1, l2, l3, l4, l5⟩ := HLA.out
            exact wp_q rfl rfl (by simp [execOp, go_sem, e4, l0, l1, l2, l3, l4, l5]; try rfl) ⟨(), HF.out.put (by kernel_rfl) rfl rfl rfl (of_decide_eq_true rfl), HW.out.q hjl (by decide)⟩
          | 5, ho =>
            obtain rfl := Option.some.inj ho
            have e2 : fr.tmps[2]?.getD undef = .int .i64 xx := HF.out.base 2 (by kernel_rfl) rfl
            exact wp_q rfl rfl (by simp [execOp, go_sem, e2]; try rfl) ⟨(), HF.out.put (by kernel_rfl) rfl rfl rfl (of_decide_eq_true rfl), HW.out.q hjl (by decide)⟩
          | 6, ho =>
            obtain rfl := Option.some.inj ho
            have e35 : fr.tmps[35]?.getD undef = .map (some M) := HF.out.ev (i := 3) rfl rfl (HE.out ⟨3, .data⟩ (by simp) rfl)
            have e36 : fr.tmps[36]?.getD undef = .agg #[.int .u8 a.1, .int .u8 a.2.1, .int .u8 a.2.2.1, .int .u8 a.2.2.2.1, .int .u8 a.2.2.2.2.1, .int .u8 a.2.2.2.2.2] := HF.out.ev (i := 4) rfl rfl (HE.out ⟨4, .data⟩ (by simp) rfl)
            have e37 : fr.tmps[37]?.getD undef = .int .i64 xx := HF.out.ev (i := 5) rfl rfl (HE.out ⟨5, .data⟩ (by simp) rfl)
            have hw0 : wr = w0 := HW.out.at 0 rfl hl0 (fun j hj => by omega)
            subst hw0
            obtain ⟨w', h1, h2, h3⟩ := HUP.out
            exact wp_s (w' := w') rfl rfl (by simp [execOp, go_sem, e35, e36, e37, h1]; try rfl) ⟨(), HF.out.skip rfl rfl _, HW.out.go 0 hjl rfl hl0 (fun j hj => by omega) (by intro a ha; match a, ha with | 0, _ => rfl) ⟨h2, h3⟩⟩
        case fin =>
          rintro listed fr w2 x hF hW hr
          have all := allDone hr hF.q.ls (by kernel_rfl)
          have hw := hW.end 0 rfl (all _ (by decide)) (fun s hs q => by rw [if_neg (by omega)] at q; exact q)
          obtain ⟨g1, g2⟩ := (show Sw w2 p M ports (upA L a xx) ∧ Only (· = M) w0 w2 from hw)
          rw [hF.full all]
          clear hF hr all hW hw
          simp only [List.foldl_cons, List.foldl_nil, fillF]
          go_simp
          have G1 := hid g1
          have G2 := hid g2
          clear g1 g2
          go_wp2_with fail
          go_end0
          exact ⟨rfl, G1.out, (Only.ofBelow HB1.out).trans G2.out⟩
    · have q1 : a.1 % 2 = 1 := by omega
      rw [q1] at ea
      rw [show (a.1 % 2 == 0) = false from by simp [q]] at HR
      obtain rfl : L' = L := HR.out
      clear HR q q1
      go_wp2_with fail
      go_end0
      exact ⟨rfl, HS0.out, Only.ofBelow HB0.out⟩
end Go.Proofs.Ytpppljlfljoccaa
namespace Go.Proofs.Ytpppljlfljoccaa
open Go.RowKit Go.MapKept
open C (Only hid Still ret_bool ret_int)
set_option linter.unusedVariables false
set_option maxRecDepth 100000

theorem k_NewSwitch (w : World) (x : Int) (h0 : 1 ≤ x) (h1 : x ≤ 8) : Calls Try.prog 4 #[.int .i64 x] w fun r w' => ∃ p M, r = .returned (.tuple #[.pointer (some ⟨p, 0, none⟩), .int .i64 0]) ∧ Sw w' p M x [] ∧ Below w.heap.size w w' ∧ w.heap.size ≤ p ∧ w.heap.size ≤ M := by
  have hmm := @run_makeMap Try.prog
  have h2 : ¬ x < 1 := by omega
  have h3 : ¬ x > 8 := by omega
  go_enter Try.func4, Try.ntmps4
  go_wp2
  go_returns
  refine ⟨w.heap.size + 1, rfl, w.heap.size, ⟨?_, #[], 0, ?_, rfl⟩, ?_, by omega, Nat.le_refl _⟩
  · have := heap_alloc_new (w.alloc (.map #[] 0)) (.cells #[.int .i64 x, .map (some w.heap.size)] 43)
    rw [show (w.alloc (.map #[] 0)).heap.size = w.heap.size + 1 by simp] at this
    exact this
  · exact (heap_alloc_old _ _ (by simp)).trans (heap_alloc_new w _)
  · exact ((Below.refl _ _).alloc (Nat.le_refl _) _).alloc (by simp) _
theorem k_NewSwitch_no (w : World) (x : Int) (h : ¬ (1 ≤ x ∧ x ≤ 8)) : Calls Try.prog 4 #[.int .i64 x] w fun r w' => r = .returned (.tuple #[.pointer none, .int .i64 1]) ∧ w' = w := by
  by_cases h1 : x < 1
  · clear h
    go_enter Try.func4, Try.ntmps4
    go_wp2
    go_returns
    exact ⟨rfl, rfl⟩
  · have h2 : x > 8 := by omega
    clear h
    go_enter Try.func4, Try.ntmps4
    go_wp2
    go_returns
    exact ⟨rfl, rfl⟩
theorem k_Learned (w : World) (p M : Nat) (ports : Int) (L : List (Ad × Int)) (h : Sw w p M ports L) : Calls Try.prog 11 #[.pointer (some ⟨p, 0, none⟩)] w fun r w' => r = .returned (.int .i64 L.length) ∧ w' = w := by
  obtain ⟨es, c, hme, hsz⟩ := sw_len h
  have hlm : (Builtin.len_ #[41] 3 #[.map (some M)]).run Try.prog w = .ok (.int .i64 es.size) w := by simp [Builtin.len_, run_underlying u_amap, MapKept.run_getObj_map hme, goInt]
  have c1 : w.cell? ⟨p, 1, none⟩ = some (.map (some M)) := cell_of_row w p 1 _ _ _ h.blk
  rw [← hsz]
  clear h hsz hme
  go_enter Try.func11, Try.ntmps11
  go_wp2
  go_ret
  exact ⟨rfl, rfl⟩
def its (l : List Int) : List Value := l.map (Value.int .i64)
theorem its_len (l : List Int) : (its l).length = l.length := by simp [its]
theorem its_app (l : List Int) (x : Int) : its l ++ [Value.int .i64 x] = its (l ++ [x]) := by simp [its]
theorem info_int' : (Try.prog.info? 3).map (fun i => (i.zero, i.size, i.bytes)) = some (some (.int .i64 0), 1, 8) := by kernel_rfl
theorem u_sint' : Try.prog.underlying 22 = some (.slice 3) := by kernel_rfl
/-- all other ports -/
def oth (n : Nat) (x : Int) : List Int := ((List.range n).map (fun i : Nat => (i : Int))).filter fun y => y != x
theorem oth_up (n : Nat) (x : Int) : oth (n + 1) x = oth n x ++ (if (n : Int) = x then [] else [(n : Int)]) := by
  unfold oth
  rw [List.range_succ, List.map_append, List.filter_append]
  congr 1
  by_cases h : (n : Int) = x
  · simp [h]
  · simp [h]
theorem oth_len (n : Nat) (x : Int) : (oth n x).length ≤ n := by unfold oth; exact Nat.le_trans (List.length_filter_le _ _) (by simp)
theorem k_others (w : World) (p M : Nat) (n : Nat) (L : List (Ad × Int)) (h : Sw w p M (n : Int) L) (hn : n ≤ 8) (x : Int) : Calls Try.prog 15 #[.pointer (some ⟨p, 0, none⟩), .int .i64 x] w fun r w' => ∃ u, r = .returned u ∧ w'.ownsRow 0 3 1 u (oth n x).length (its (oth n x)) ∧ Below w.heap.size w w' := by
  have c0 : w.cell? ⟨p, 0, none⟩ = some (.int .i64 n) := cell_of_row w p 0 _ _ _ h.blk
  have hn8 : (n : Int) ≤ 8 := by omega
  clear h
  go_enter Try.func15, Try.ntmps15
  go_wp2
  go_loopw [5, 6, 11] (fun u k i wr => ∃ j : Nat, j ≤ n ∧ i = .int .i64 j ∧ Hid (wr.ownsRow 0 3 1 u (oth j x).length (its (oth j x)) ∧ Below w.heap.size w wr ∧ ∀ k, Ug u k → w.heap.size ≤ k)) (fun u k i _ => n - (intOf i).toNat)
  case atStart => exact ⟨0, by omega, rfl, own_nil _ _ _, Below.refl _ _, fun k hk => by cases hk⟩
  case round =>
    obtain ⟨j, hj, rfl, hu⟩ := hrel
    by_cases hlt : j < n
    · have hlt' : (j : Int) < n := by omega
      have hj8 : j < 8 := by omega
      obtain ⟨h1, h2, h3⟩ := hu.out
      obtain ⟨ad, cp, rfl⟩ := own_form h1
      have hl := oth_len j x
      by_cases hx : (j : Int) = x
      · have hx2 : ((j : Int) != x) = false := by simp [hx]
        have HU2 : Hid (wr.ownsRow 0 3 1 (.slice ad (oth j x).length cp) (oth (j + 1) x).length (its (oth (j + 1) x)) ∧ Below w.heap.size w wr ∧ ∀ k, Ug (.slice ad (oth j x).length cp) k → w.heap.size ≤ k) := by
          rw [oth_up, if_pos hx, List.append_nil]; exact ⟨h1, h2, h3⟩
        clear hu h1 h2 h3 hx
        go_wp2
        go_roundw
        case rel => exact ⟨j + 1, by omega, by go_num, HU2⟩
        case measure => simp [intOf]; omega
      · have hx2 : ((j : Int) != x) = true := by simp [hx]
        obtain ⟨i0, hi0, hz0, hz1, hz2⟩ := info_parts info_int'
        have hb1 := (Below.refl wr.heap.size wr).alloc (Nat.le_refl _) (.cells #[.int .i64 (j : Int)] 3)
        have HL := hid (own_only h1 (T := fun _ => False) (.ofBelow hb1) (fun _ _ z => z))
        have HN : Hid (∀ k u, [Value.int .i64 (j : Int)][k]? = some u → (wr.alloc (.cells #[.int .i64 (j : Int)] 3)).cell? ((⟨wr.heap.size, 0, none⟩ : Addr).add k) = some u) := fun k u hk => by
          rw [C.addr_add, Nat.zero_add, cell_of_row _ _ k _ _ _ (heap_alloc_new wr _)]
          simpa using hk
        have H2 := hid h2
        have H3 := hid h3
        have HB1 := hid hb1
        have HX := hid hx
        have HHL := hid hl
        clear hu h1 h2 h3 hx hb1 hl
        generalize hLn : (oth j x).length = ln at *
        have HLn := hid hLn
        clear hLn
        go_wp2_with (at_builtin; refine wpList_append_blk _ (.tmp 17) (.tmp 19) 22 rfl 3 i0 (.int .i64 0) 1 8 u_sint' hi0 hz0 hz1 hz2 rfl (by decide) (.slice ad ln cp) ln (its (oth j x)) rfl HL.out ⟨wr.heap.size, 0, none⟩ 1 1 [.int .i64 (j : Int)] rfl rfl HN.out (by intro u hu; simp at hu; subst hu; rfl) (show ln + 1 ≤ 9223372036854775807 by have := HHL.out; omega) (by have := HHL.out; omega) rfl ?_; intro u' w3 hown hgrow hblk; obtain ⟨ad2, cp2, rfl⟩ := own_form hown; have HO3 := hid hown; have HG3 := hid hgrow; have HB3 := hid hblk; clear hown hgrow hblk)
        go_roundw
        case rel =>
          refine ⟨j + 1, by omega, by go_num, ?_, ?_, ?_⟩
          · have e1 := HO3.out
            rw [its_app, ← HLn.out] at e1
            rw [oth_up, if_neg HX.out]
            rw [← HLn.out]
            simpa using e1
          · exact H2.out.trans ((HB1.out.mono H2.out.size).trans ((grown_ug HG3.out).below _ (Nat.le_trans H2.out.size HB1.out.size) H3.out))
          · intro k hk
            rcases HB3.out k hk with q | q
            · exact H3.out k q
            · have := H2.out.size
              have := HB1.out.size
              omega
        case measure => simp [intOf]; omega
    · obtain rfl : j = n := by omega
      obtain ⟨h1, h2, h3⟩ := hu.out
      obtain ⟨ad, cp, rfl⟩ := own_form h1
      have hlt' : ¬ (j : Int) < j := by omega
      go_wp2
      go_ret
      exact ⟨_, rfl, h1, h2⟩
end Go.Proofs.Ytpppljlfljoccaa
namespace Go.Proofs.Ytpppljlfljoccaa
open Go.RowKit Go.MapKept
open C (Only hid Still ret_bool ret_int)
set_option linter.unusedVariables false
set_option maxRecDepth 100000

/-- six bytes as an address -/
def ad6 (l : List Int) (k : Nat) : Ad := (l.getD k 0, l.getD (k + 1) 0, l.getD (k + 2) 0, l.getD (k + 3) 0, l.getD (k + 4) 0, l.getD (k + 5) 0)
def ad0 : Ad := (0, 0, 0, 0, 0, 0)
theorem kA_one (a : Ad) : ∀ v ∈ (kA a).toList, v.oneCell' = true := by
  intro v hv; simp [kA] at hv; rcases hv with rfl | rfl | rfl | rfl | rfl | rfl <;> rfl
theorem s_u8' : (Try.prog.info? 5).map (·.size) = some 1 := by kernel_rfl
theorem ad6_get (l : List Int) (k : Nat) (h : k + 6 ≤ l.length) (j : Nat) (v : Value) (hv : (kA (ad6 l k)).toList[j]? = some v) : (bys l)[k + j]? = some v := by
  have e : ∀ i, i < 6 → (bys l)[k + i]? = some (.int .u8 (l.getD (k + i) 0)) := fun i hi => by
    have hlt : k + i < l.length := by omega
    simp [bys, hlt]
  match j, hv with
  | 0, hv => rw [e 0 (by decide)]; exact hv
  | 1, hv => rw [e 1 (by decide)]; exact hv
  | 2, hv => rw [e 2 (by decide)]; exact hv
  | 3, hv => rw [e 3 (by decide)]; exact hv
  | 4, hv => rw [e 4 (by decide)]; exact hv
  | 5, hv => rw [e 5 (by decide)]; exact hv
  | j + 6, hv => simp [kA] at hv
theorem wp_at {P : Program} {c : Code} {Q : Exit → Act → World → Prop} {a : Act} {W w0 : World} (h : W = w0) (hk : Code.wp P c Q a w0) : Code.wp P c Q a W := h ▸ hk
theorem own_lit1 (w : World) (x : Value) (t : TypeId) : (w.alloc (.cells #[x] t)).ownsRow 0 t 1 (.slice (some ⟨w.heap.size, 0, none⟩) 1 1) 1 [x] :=
  ⟨rfl, .inr ⟨w.heap.size, 1, #[x], rfl, Nat.zero_le _, heap_alloc_new w _, Nat.le_refl _, by decide, rfl, rfl⟩⟩
/-- to where -/
def snd (L : List (Ad × Int)) (td : Ad) (n : Nat) (x : Int) : List Int := bif kn L td then (bif ((fA td L 0).map (·.2)).getD 0 == x then [] else [((fA td L 0).map (·.2)).getD 0]) else oth n x
set_option maxHeartbeats 4000000 in
theorem k_Send (w : World) (p M : Nat) (N : Nat) (L : List (Ad × Int)) (h : Sw w p M (N : Int) L) (hN : N ≤ 8) (pt : Int) (x0 : 0 ≤ pt) (x1 : pt < N) (fv : Value) (fl : List Int) (hf : w.ownsRow 0 5 1 fv fl.length (bys fl)) (hb : ∀ y ∈ fl, 0 ≤ y ∧ y < 256) (h14 : 14 ≤ fl.length) (hmx : fl.length ≤ 140737488355328) :
    Calls Try.prog 8 #[.pointer (some ⟨p, 0, none⟩), .int .i64 pt, fv] w fun r w' => ∃ u, r = .returned u ∧ w'.ownsRow 0 3 1 u (snd (lrn L (ad6 fl 6) pt) (ad6 fl 0) N pt).length (its (snd (lrn L (ad6 fl 6) pt) (ad6 fl 0) N pt)) ∧ Sw w' p M (N : Int) (lrn L (ad6 fl 6) pt) ∧ Only (· = M) w w' := by
  obtain ⟨fa, hfa⟩ : ∃ fa, fa = ad6 fl 6 := ⟨_, rfl⟩
  obtain ⟨ta, hta⟩ : ∃ ta, ta = ad6 fl 0 := ⟨_, rfl⟩
  rw [← hfa, ← hta]
  obtain ⟨L', hL'⟩ : ∃ L', L' = lrn L fa pt := ⟨_, rfl⟩
  rw [← hL']
  obtain ⟨sn, hsn⟩ : ∃ sn, sn = snd L' ta N pt := ⟨_, rfl⟩
  rw [← hsn]
  have hlenb := hf.1
  rcases hf.2 with ⟨rfl, h0⟩ | ⟨g, cap, cur, rfl, -, hg, hc, hcm, hcs, ht⟩
  · omega
  obtain ⟨n, hn⟩ : ∃ n, n = fl.length := ⟨_, rfl⟩
  have HCur : Hid (∀ w1 : World, w1.heap[g]? = some (.cells cur 5 (0, 0)) → ∀ k j v, k + 6 ≤ fl.length → (kA (ad6 fl k)).toList[j]? = some v → w1.cell? ((⟨g, k, none⟩ : Addr).add j) = some v) := fun w1 h1 k j v hk hv => by
    rw [C.addr_add, cell_of_row w1 g (k + j) _ _ _ h1]
    have h2 := ad6_get fl k hk j v hv
    rw [← ht, List.getElem?_take] at h2
    split at h2
    · simpa using h2
    · cases h2
  rw [← hn] at hc ⊢
  have HP0 : Hid (∀ w1, Sw w1 p M (N : Int) L → w1.cell? ⟨p, 0, none⟩ = some (.int .i64 N)) := fun w1 h1 => cell_of_row w1 p 0 _ _ _ h1.blk
  have c0 := HP0.out w h
  have q1 : ¬ pt < 0 := by omega
  have q2 : ¬ pt ≥ N := by omega
  have q3 : ¬ (n : Int) < 14 := by omega
  obtain ⟨wz, hwz⟩ : ∃ wz, wz = w.heap.size := ⟨_, rfl⟩
  have HWZ := hid hwz
  have HN := hid hn
  have HG := hid hg
  have HS := hid h
  have HB := hid hb
  have HC := hid hc
  have hlg := lt_of_block hg
  have HB6 : Hid (0 ≤ (fa).1 ∧ (fa).1 < 256) := by
    have hlt : 6 < fl.length := by omega
    rw [hfa]
    have e : (ad6 fl 6).1 = fl[6] := by simp [ad6, hlt]
    rw [e]
    exact hb _ (List.getElem_mem _)
  have HCur6 := hid (fun (w1 : World) (h1 : w1.heap[g]? = some (.cells cur 5 (0, 0))) (j : Nat) (v : Value) (hv : (kA fa).toList[j]? = some v) => HCur.out w1 h1 6 j v (by omega) (by rw [← hfa]; exact hv))
  have HCur0 := hid (fun (w1 : World) (h1 : w1.heap[g]? = some (.cells cur 5 (0, 0))) (j : Nat) (v : Value) (hv : (kA ta).toList[j]? = some v) => HCur.out w1 h1 0 j v (by omega) (by rw [← hta]; exact hv))
  have HL' := hid hL'
  have HSN0 := hid hsn
  clear hwz hn hg h hb hlenb hf ht hcs hcm hc hfa hta hL' hsn HCur
  go_enter Try.func8, Try.ntmps8
  go_upto_region 4 with fail
  obtain ⟨wa, hwa⟩ : ∃ wa, wa = (w.alloc (.cells (kA ad0) 51)).alloc (.cells (kA ad0) 51) := ⟨_, rfl⟩
  have a0 : wa.heap[wz]? = some (.cells (kA ad0) 51 (0, 0)) := by rw [hwa, HWZ.out]; exact (heap_alloc_old _ _ (by simp)).trans (heap_alloc_new w _)
  have a1 : wa.heap[wz + 1]? = some (.cells (kA ad0) 51 (0, 0)) := by
    rw [hwa, HWZ.out]
    have := heap_alloc_new (w.alloc (.cells (kA ad0) 51)) (.cells (kA ad0) 51)
    rw [show (w.alloc (.cells (kA ad0) 51)).heap.size = w.heap.size + 1 by simp] at this
    exact this
  have HBa : Hid (Below w.heap.size w wa) := by rw [hwa]; exact ((Below.refl _ _).alloc (Nat.le_refl _) _).alloc (by simp) _
  refine wp_at (w0 := wa) hwa.symm ?_
  rw [← HWZ.out]
  have HA0 := hid a0
  have HA1 := hid a1
  have hga : wa.heap[g]? = some (.cells cur 5 (0, 0)) := (HBa.out.block g (by have := lt_of_block HG.out; exact this)).trans HG.out
  have HS0 := hid (HCur0.out wa hga)
  have h4f : ∀ w4, w4 = wa.setRow wz ((kA ad0).toList.take 0 ++ ((kA (ta)).toList ++ (kA ad0).toList.drop (0 + (kA (ta)).toList.length))).toArray → w4.heap[wz]? = some (.cells (kA (ta)) 51 (0, 0)) ∧ w4.heap[wz + 1]? = some (.cells (kA ad0) 51 (0, 0)) ∧ Below w.heap.size w w4 := fun w4 h4 => by
    rw [h4]
    refine ⟨setRow_heap wa wz _ _ _ _ HA0.out, (Go.setRow_other wa wz (wz + 1) _ (by omega)).trans HA1.out, below_setRow HBa.out (by rw [HWZ.out]; exact Nat.le_refl _) _⟩
  have H4F := hid h4f
  clear hwa a0 a1 hga h4f
  obtain ⟨w4, hw4⟩ : ∃ w4, w4 = wa.setRow wz ((kA ad0).toList.take 0 ++ ((kA (ta)).toList ++ (kA ad0).toList.drop (0 + (kA (ta)).toList.length))).toArray := ⟨_, rfl⟩
  have hcp : (Builtin.copy_ #[34, 34] 3 #[.slice (some ⟨wz, 0, none⟩) 6 6, .slice (some ⟨g, 0, none⟩) n cap]).run Try.prog wa = .ok (.int .i64 6) w4 := by
    have := run_copy_row (P := Try.prog) wa 34 34 3 5 wz 0 6 6 ⟨g, 0, none⟩ n cap (kA ad0) 51 (kA (ta)).toList u_su8 s_u8' HA0.out (show 6 = Nat.min n 6 from (Nat.min_eq_right (show 6 ≤ n by have := HN.out; omega)).symm) (fun j v hv => HS0.out j v hv) (by show 0 + 6 ≤ 6; omega) (kA_one _)
    rw [hw4]
    exact this
  obtain ⟨b0, b1, b2⟩ := H4F.out w4 hw4
  have HW4 := hid hw4
  clear hw4
  go_upto_region 5 with fail
  obtain ⟨wb, hwb⟩ : ∃ wb, wb = w4.drew := ⟨_, rfl⟩
  refine wp_region_any (by kernel_rfl) ?_
  refine wpAny_at (w0 := wb) hwb.symm ?_
  have HBT : Hid (wb.heap[wz]? = some (.cells (kA (ta)) 51 (0, 0))) := by rw [hwb]; exact b0
  have HBF : Hid (wb.heap[wz + 1]? = some (.cells (kA ad0) 51 (0, 0))) := by rw [hwb]; exact b1
  have HBb : Hid (Below w.heap.size w wb) := by rw [hwb]; exact b2.drew
  have hgb : wb.heap[g]? = some (.cells cur 5 (0, 0)) := (HBb.out.block g (lt_of_block HG.out)).trans HG.out
  have HS6 : Hid (∀ j v, (kA (fa)).toList[j]? = some v → wb.cell? ((⟨g, 6, none⟩ : Addr).add j) = some v) := fun j v hv => HCur6.out wb hgb j v hv
  have hn6 : (6 : Int) ≤ n := by have := HN.out; omega
  have hc6 : ¬ cap = 6 := by have := HN.out; have := HC.out; omega
  have hn6' : 6 ≤ n := by have := HN.out; omega
  clear b0 b1 b2 HW4 hcp hwb hgb H4F HS0 HA0 HA1 HBa HCur6 HCur0
  refine wpAny_fz (α := Unit) (fun _ => fun dd => if dd = 29 then .slice (some ⟨wz + 1, 0, none⟩) 6 6 else if dd = 30 then .slice (some ⟨g, 0, none⟩) n cap else if dd = 31 then .slice (some ⟨g, 6, none⟩) (n - 6) (cap - 6) else if dd = 32 then .int .i64 6 else undef) (fun x listed w => VS [3] (fun k (_ : Unit) w => if k = 0 then w = wb else Hid (w.heap[wz + 1]? = some (.cells (kA fa) 51 (0, 0))) ∧ Below (wz + 1) wb w) x listed w) ?step ?fin () ?start
  case start => exact .start rfl
  case step =>
    rintro listed fr wr x hF hW hC i hj
    obtain ⟨hl, o, ho, he⟩ := mem_ready.1 hj
    have hjl : i < listed.size := by rw [hF.q.ls]; exact (Array.getElem?_eq_some_iff.1 ho).1
    have hl0 := getD_tf hjl hl
    clear hj
    have HF := hid hF
    have HW := hid hW
    have HE := hid he
    have HC := hid hC
    clear hF hW he hl hC
    match i, ho with
    | 0, ho =>
      obtain rfl := Option.some.inj ho
      have e8 : fr.tmps[8]?.getD undef = .pointer (some ⟨wz + 1, 0, none⟩) := HF.out.base 8 (by kernel_rfl) rfl
      exact wp_q rfl rfl (by simp [execOp, go_sem, e8]; try rfl) ⟨(), HF.out.put (by kernel_rfl) rfl rfl rfl (of_decide_eq_true rfl), HW.out.q hjl (by decide)⟩
    | 1, ho =>
      obtain rfl := Option.some.inj ho
      have e2 : fr.tmps[2]?.getD undef = .slice (some ⟨g, 0, none⟩) n cap := HF.out.base 2 (by kernel_rfl) rfl
      exact wp_q rfl rfl (by simp [execOp, go_sem, e2]; try rfl) ⟨(), HF.out.put (by kernel_rfl) rfl rfl rfl (of_decide_eq_true rfl), HW.out.q hjl (by decide)⟩
    | 2, ho =>
      obtain rfl := Option.some.inj ho
      have e30 : fr.tmps[30]?.getD undef = .slice (some ⟨g, 0, none⟩) n cap := HF.out.ev (i := 1) rfl rfl (HE.out ⟨1, .data⟩ (by simp) rfl)
      exact wp_q rfl rfl (by simp [execOp, go_sem, e30, hn6, hc6]; try rfl) ⟨(), HF.out.put (by kernel_rfl) rfl rfl rfl (of_decide_eq_true rfl), HW.out.q hjl (by decide)⟩
    | 3, ho =>
      obtain rfl := Option.some.inj ho
      have e29 : fr.tmps[29]?.getD undef = .slice (some ⟨wz + 1, 0, none⟩) 6 6 := HF.out.ev (i := 0) rfl rfl (HE.out ⟨0, .data⟩ (by simp) rfl)
      have e31 : fr.tmps[31]?.getD undef = .slice (some ⟨g, 6, none⟩) (n - 6) (cap - 6) := HF.out.ev (i := 2) rfl rfl (HE.out ⟨2, .data⟩ (by simp) rfl)
      have hw0 : wr = wb := HW.out.at 0 rfl hl0 (fun j hj => by omega)
      subst hw0
      have e29' : Act.eval fr (.tmp 29) = .slice (some ⟨wz + 1, 0, none⟩) 6 6 := by simp [Act.eval, e29]
      have e31' : Act.eval fr (.tmp 31) = .slice (some ⟨g, 6, none⟩) (n - 6) (cap - 6) := by simp [Act.eval, e31]
      refine wpOp_step rfl fun K' hK => ?_
      refine step_copy_splice rfl (.tmp 29) (.tmp 31) 34 34 rfl 5 u_su8 s_u8' (some ⟨wz + 1, 0, none⟩) (some ⟨g, 6, none⟩) 6 6 (n - 6) (cap - 6) e29' e31' (wz + 1) 0 (kA ad0).toList 51 HBF.out (kA fa).toList (show 6 = Nat.min (n - 6) 6 from (Nat.min_eq_right (show 6 ≤ n - 6 by have := HN.out; omega)).symm) (fun _ => ⟨rfl, ⟨g, 6, none⟩, rfl, HS6.out⟩) (by show 0 + 6 ≤ 6; omega) (kA_one _) (wz + 1) wr (Below.refl _ _) (Nat.le_refl _) ?_
      intro w8 h8 hb8
      have h8' : Hid (w8.heap[wz + 1]? = some (.cells (kA fa) 51 (0, 0))) := h8
      exact hK _ _ ⟨(), HF.out.put (by kernel_rfl) rfl rfl rfl (of_decide_eq_true rfl), HW.out.go 0 hjl rfl hl0 (fun j hj => by omega) (by intro a ha; match a, ha with | 0, _ => rfl) ⟨h8', hb8⟩⟩
  case fin =>
    rintro listed fr w2 x hF hW hr
    have all := allDone hr hF.q.ls (by kernel_rfl)
    have hw := hW.end 0 rfl (all _ (by decide)) (fun s hs q => by rw [if_neg (by omega)] at q; exact q)
    obtain ⟨g1, g2⟩ := (show Hid (w2.heap[wz + 1]? = some (.cells (kA fa) 51 (0, 0))) ∧ Below (wz + 1) wb w2 from hw)
    rw [hF.full all]
    clear hF hr all hW hw
    simp only [List.foldl_cons, List.foldl_nil, fillF]
    go_simp
    have t2 : w2.heap[wz]? = some (.cells (kA (ta)) 51 (0, 0)) := (g2.block wz (by omega)).trans HBT.out
    have b2 : Below w.heap.size w w2 := by
      have := HBb.out
      exact this.trans (g2.mono (by rw [HWZ.out]; omega))
    have s2 : Sw w2 p M (N : Int) L := HS.out.below b2
    have hle := k_learn w2 p M (N : Int) L s2 (fa) (HB6.out) pt
    have cf0 := cell_of_row w2 (wz + 1) 0 _ _ _ g1.out
    have cf1 := cell_of_row w2 (wz + 1) 1 _ _ _ g1.out
    have cf2 := cell_of_row w2 (wz + 1) 2 _ _ _ g1.out
    have cf3 := cell_of_row w2 (wz + 1) 3 _ _ _ g1.out
    have cf4 := cell_of_row w2 (wz + 1) 4 _ _ _ g1.out
    have cf5 := cell_of_row w2 (wz + 1) 5 _ _ _ g1.out
    simp only [kA] at hle
    replace cf0 : w2.cell? ⟨wz + 1, 0, none⟩ = some (.int .u8 fa.1) := cf0
    replace cf1 : w2.cell? ⟨wz + 1, 1, none⟩ = some (.int .u8 fa.2.1) := cf1
    replace cf2 : w2.cell? ⟨wz + 1, 2, none⟩ = some (.int .u8 fa.2.2.1) := cf2
    replace cf3 : w2.cell? ⟨wz + 1, 3, none⟩ = some (.int .u8 fa.2.2.2.1) := cf3
    replace cf4 : w2.cell? ⟨wz + 1, 4, none⟩ = some (.int .u8 fa.2.2.2.2.1) := cf4
    replace cf5 : w2.cell? ⟨wz + 1, 5, none⟩ = some (.int .u8 fa.2.2.2.2.2) := cf5
    have T2 := hid t2
    have B2 := hid b2
    clear g1 g2 t2 b2 s2 HBT HBF HBb HS6
    rw [← HL'.out] at hle
    go_upto_region 7 with (go_at_call 14; refine hle.mono ?_; rintro e w3 ⟨rfl, k1, k2⟩; have S3 := hid k1; have O3 := hid k2; clear k1 k2)
    obtain ⟨w0, hw0⟩ : ∃ w0, w0 = w3.drew := ⟨_, rfl⟩
    refine wp_region_any (by kernel_rfl) ?_
    refine wpAny_at (w0 := w0) hw0.symm ?_
    have O4 : Hid (Only (· = M) w w0) := by rw [hw0]; exact ((Only.ofBelow B2.out).trans O3.out).drew
    have s0 : Sw w0 p M (N : Int) L' := by rw [hw0]; obtain ⟨q1, q2⟩ := S3.out; exact ⟨q1, q2⟩
    have t0 : w0.heap[wz]? = some (.cells (kA ta) 51 (0, 0)) := by
      rw [hw0]
      refine O3.out.old T2.out fun z => ?_
      subst z
      obtain ⟨-, es, c, hm, -⟩ := HS.out
      have h1 : wz < w.heap.size := (Array.getElem?_eq_some_iff.1 hm).1
      have := HWZ.out
      omega
    obtain ⟨y, hy⟩ : ∃ y, y = ((fA ta L' 0).map (·.2)).getD 0 := ⟨_, rfl⟩
    obtain ⟨kb, hkb⟩ : ∃ kb, kb = kn L' ta := ⟨_, rfl⟩
    have HLK : Hid ((Instr.lookup 41 (.map (some M)) (.agg #[.int .u8 ta.1, .int .u8 ta.2.1, .int .u8 ta.2.2.1, .int .u8 ta.2.2.2.1, .int .u8 ta.2.2.2.2.1, .int .u8 ta.2.2.2.2.2]) true).run Try.prog w0 = .ok (.tuple #[.int .i64 y, .bool kb]) w0) := by rw [hy, hkb]; exact s0.look ta
    have HC1 : Hid (w0.cell? ⟨p, 1, none⟩ = some (.map (some M))) := cell_of_row w0 p 1 _ _ _ s0.blk
    have HLA : Hid (w0.cell? ⟨wz, 0, none⟩ = some (.int .u8 ta.1) ∧ w0.cell? ⟨wz, 1, none⟩ = some (.int .u8 ta.2.1) ∧ w0.cell? ⟨wz, 2, none⟩ = some (.int .u8 ta.2.2.1) ∧ w0.cell? ⟨wz, 3, none⟩ = some (.int .u8 ta.2.2.2.1) ∧ w0.cell? ⟨wz, 4, none⟩ = some (.int .u8 ta.2.2.2.2.1) ∧ w0.cell? ⟨wz, 5, none⟩ = some (.int .u8 ta.2.2.2.2.2)) := ⟨cell_of_row w0 wz 0 _ _ _ t0, cell_of_row w0 wz 1 _ _ _ t0, cell_of_row w0 wz 2 _ _ _ t0, cell_of_row w0 wz 3 _ _ _ t0, cell_of_row w0 wz 4 _ _ _ t0, cell_of_row w0 wz 5 _ _ _ t0⟩
    have HSN : Hid (sn = bif kb then (bif y == pt then [] else [y]) else oth N pt) := by rw [hy, hkb, HSN0.out]; exact hid rfl
    have HOT := hid (k_others w0 p M N L' s0 hN pt)
    have HS0 := hid s0
    clear HSN0 HL' hy hkb s0 t0 hw0 T2 B2 S3 O3 HS cf0 cf1 cf2 cf3 cf4 cf5
    refine wpAny_fz (α := Unit) (fun _ => fun dd => if dd = 38 then .pointer (some ⟨p, 0, none⟩) else if dd = 39 then .pointer (some ⟨p, 0, none⟩) else if dd = 40 then .pointer (some ⟨p, 1, none⟩) else if dd = 41 then .map (some M) else if dd = 42 then .agg #[.int .u8 ta.1, .int .u8 ta.2.1, .int .u8 ta.2.2.1, .int .u8 ta.2.2.2.1, .int .u8 ta.2.2.2.2.1, .int .u8 ta.2.2.2.2.2] else if dd = 43 then .tuple #[.int .i64 y, .bool kb] else if dd = 37 then .tuple #[.int .i64 y, .bool kb] else if dd = 44 then .int .i64 y else if dd = 45 then .bool kb else if dd = 9 then .int .i64 y else if dd = 10 then .bool kb else undef) (fun x listed w => VS [] (fun n (_ : Unit) w => w = w0) x listed w) ?step ?fin () ?start
    case start => exact .start rfl
    case step =>
      rintro listed fr wr x hF hW hC i hj
      obtain ⟨hl, o, ho, he⟩ := mem_ready.1 hj
      have hjl : i < listed.size := by rw [hF.q.ls]; exact (Array.getElem?_eq_some_iff.1 ho).1
      have hl0 := getD_tf hjl hl
      clear hj
      have HF := hid hF
      have HW := hid hW
      have HE := hid he
      have HC := hid hC
      clear hF hW he hl hC
      match i, ho with
      | 0, ho =>
        obtain rfl := Option.some.inj ho
        have e0 : fr.tmps[0]?.getD undef = .pointer (some ⟨p, 0, none⟩) := HF.out.base 0 (by kernel_rfl) rfl
        exact wp_q rfl rfl (by simp [execOp, go_sem, e0]; try rfl) ⟨(), HF.out.put (by kernel_rfl) rfl rfl rfl (of_decide_eq_true rfl), HW.out.q hjl (by decide)⟩
      | 1, ho =>
        obtain rfl := Option.some.inj ho
        have e38 : fr.tmps[38]?.getD undef = .pointer (some ⟨p, 0, none⟩) := HF.out.ev (i := 0) rfl rfl (HE.out ⟨0, .data⟩ (by simp) rfl)
        exact wp_q rfl rfl (by simp [execOp, go_sem, e38]; try rfl) ⟨(), HF.out.put (by kernel_rfl) rfl rfl rfl (of_decide_eq_true rfl), HW.out.q hjl (by decide)⟩
      | 2, ho =>
        obtain rfl := Option.some.inj ho
        have e39 : fr.tmps[39]?.getD undef = .pointer (some ⟨p, 0, none⟩) := HF.out.ev (i := 1) rfl rfl (HE.out ⟨1, .data⟩ (by simp) rfl)
        exact wp_q rfl rfl (by simp [execOp, go_sem, e39]; try rfl) ⟨(), HF.out.put (by kernel_rfl) rfl rfl rfl (of_decide_eq_true rfl), HW.out.q hjl (by decide)⟩
      | 3, ho =>
        obtain rfl := Option.some.inj ho
        have e40 : fr.tmps[40]?.getD undef = .pointer (some ⟨p, 1, none⟩) := HF.out.ev (i := 2) rfl rfl (HE.out ⟨2, .data⟩ (by simp) rfl)
        have hw0 : wr = w0 := by obtain ⟨_, _, q⟩ := HW.out; exact q
        subst hw0
        exact wp_q rfl rfl (by simp [execOp, go_sem, e40, HC1.out]; try rfl) ⟨(), HF.out.put (by kernel_rfl) rfl rfl rfl (of_decide_eq_true rfl), HW.out.q hjl (by decide)⟩
      | 4, ho =>
        obtain rfl := Option.some.inj ho
        have e7 : fr.tmps[7]?.getD undef = .pointer (some ⟨wz, 0, none⟩) := HF.out.base 7 (by kernel_rfl) rfl
        have hw0 : wr = w0 := by obtain ⟨_, _, q⟩ := HW.out; exact q
        subst hw0
        obtain ⟨l0, l1, l2, l3, l4, l5⟩ := HLA.out
        exact wp_q rfl rfl (by simp [execOp, go_sem, e7, l0, l1, l2, l3, l4, l5]; try rfl) ⟨(), HF.out.put (by kernel_rfl) rfl rfl rfl (of_decide_eq_true rfl), HW.out.q hjl (by decide)⟩
      | 5, ho =>
        obtain rfl := Option.some.inj ho
        have e41 : fr.tmps[41]?.getD undef = .map (some M) := HF.out.ev (i := 3) rfl rfl (HE.out ⟨3, .data⟩ (by simp) rfl)
        have e42 : fr.tmps[42]?.getD undef = .agg #[.int .u8 ta.1, .int .u8 ta.2.1, .int .u8 ta.2.2.1, .int .u8 ta.2.2.2.1, .int .u8 ta.2.2.2.2.1, .int .u8 ta.2.2.2.2.2] := HF.out.ev (i := 4) rfl rfl (HE.out ⟨4, .data⟩ (by simp) rfl)
        have hw0 : wr = w0 := by obtain ⟨_, _, q⟩ := HW.out; exact q
        subst hw0
        exact wp_q rfl rfl (by simp [execOp, go_sem, e41, e42, HLK.out]; try rfl) ⟨(), HF.out.put (by kernel_rfl) rfl rfl rfl (of_decide_eq_true rfl), HW.out.q hjl (by decide)⟩
      | 6, ho =>
        obtain rfl := Option.some.inj ho
        have e43 : fr.tmps[43]?.getD undef = .tuple #[.int .i64 y, .bool kb] := HF.out.ev (i := 5) rfl rfl (HE.out ⟨5, .data⟩ (by simp) rfl)
        exact wp_q rfl rfl (by simp [execOp, go_sem, e43]; try rfl) ⟨(), HF.out.put (by kernel_rfl) rfl rfl rfl (of_decide_eq_true rfl), HW.out.q hjl (by decide)⟩
      | 7, ho =>
        obtain rfl := Option.some.inj ho
        have e37 : fr.tmps[37]?.getD undef = .tuple #[.int .i64 y, .bool kb] := HF.out.ev (i := 6) rfl rfl (HE.out ⟨6, .data⟩ (by simp) rfl)
        exact wp_q rfl rfl (by simp [execOp, go_sem, e37]; try rfl) ⟨(), HF.out.put (by kernel_rfl) rfl rfl rfl (of_decide_eq_true rfl), HW.out.q hjl (by decide)⟩
      | 8, ho =>
        obtain rfl := Option.some.inj ho
        have e37 : fr.tmps[37]?.getD undef = .tuple #[.int .i64 y, .bool kb] := HF.out.ev (i := 6) rfl rfl (HE.out ⟨6, .data⟩ (by simp) rfl)
        exact wp_q rfl rfl (by simp [execOp, go_sem, e37]; try rfl) ⟨(), HF.out.put (by kernel_rfl) rfl rfl rfl (of_decide_eq_true rfl), HW.out.q hjl (by decide)⟩
      | 9, ho =>
        obtain rfl := Option.some.inj ho
        have e44 : fr.tmps[44]?.getD undef = .int .i64 y := HF.out.ev (i := 7) rfl rfl (HE.out ⟨7, .data⟩ (by simp) rfl)
        exact wp_q rfl rfl (by simp [execOp, go_sem, e44]; try rfl) ⟨(), HF.out.put (by kernel_rfl) rfl rfl rfl (of_decide_eq_true rfl), HW.out.q hjl (by decide)⟩
      | 10, ho =>
        obtain rfl := Option.some.inj ho
        have e45 : fr.tmps[45]?.getD undef = .bool kb := HF.out.ev (i := 8) rfl rfl (HE.out ⟨8, .data⟩ (by simp) rfl)
        exact wp_q rfl rfl (by simp [execOp, go_sem, e45]; try rfl) ⟨(), HF.out.put (by kernel_rfl) rfl rfl rfl (of_decide_eq_true rfl), HW.out.q hjl (by decide)⟩
    case fin =>
      rintro listed fr w9 x hF hW hr
      have all := allDoneB hr hF.q.ls (by kernel_rfl)
      obtain ⟨_, _, hw⟩ := hW
      have hw : w9 = w0 := hw
      subst hw
      rw [hF.full all]
      clear hF hr all
      simp only [List.foldl_cons, List.foldl_nil, fillF]
      go_simp
      cases kb
      · obtain rfl : sn = oth N pt := HSN.out
        have hot := HOT.out
        clear HSN HOT HLK
        go_wp2_with (go_at_call 15; refine hot.mono ?_; rintro e w5 ⟨u, rfl, k1, k2⟩; have K1 := hid k1; have K2 := hid k2; clear k1 k2)
        go_ret
        exact ⟨_, rfl, K1.out, HS0.out.below K2.out, O4.out.trans (Only.ofBelow K2.out)⟩
      · by_cases hyp : y = pt
        · obtain rfl : sn = [] := by rw [HSN.out, hyp]; simp
          have hyq : (y == pt) = true := by simp [hyp]
          clear HSN HOT HLK hyp
          go_wp2_with fail
          go_ret
          exact ⟨_, rfl, own_nil _ _ _, HS0.out, O4.out⟩
        · obtain rfl : sn = [y] := by rw [HSN.out, show (y == pt) = false from by simp [hyp]]; rfl
          have hyq : (y == pt) = false := by simp [hyp]
          clear HSN HOT HLK hyp
          go_wp2_with fail
          go_ret
          refine ⟨_, rfl, ?_, HS0.out.below ((Below.refl _ _).alloc (Nat.le_refl _) _), O4.out.trans (Only.ofBelow ((Below.refl _ _).alloc (Nat.le_refl _) _))⟩
          exact own_lit1 w9 (.int .i64 y) 3
end Go.Proofs.Ytpppljlfljoccaa
namespace Go.Proofs.Ytpppljlfljoccaa
open Go.RowKit Go.MapKept
open C (Only hid Still ret_bool ret_int row)
set_option linter.unusedVariables false
set_option maxRecDepth 100000

theorem row_bys (n : Nat) : row (fun _ => 0) 0 n = bys (List.replicate n 0) := by
  unfold C.row bys
  apply List.ext_getElem?
  intro i
  by_cases h : i < n
  · simp [h]
  · simp [h]
theorem own_row {w : World} {g n cap : Nat} {l : List Int} (hg : w.heap[g]? = some (.cells (bys l).toArray 5 (0, 0))) (hn : n = l.length) (hc : cap = l.length) (hm : l.length ≤ 140737488355328) : w.ownsRow 0 5 1 (.slice (some ⟨g, 0, none⟩) n cap) l.length (bys l) := by
  subst hn; subst hc
  refine ⟨by simp [bys_len], .inr ⟨g, l.length, (bys l).toArray, rfl, Nat.zero_le _, hg, Nat.le_refl _, ?_, by simp [bys_len], by rw [List.take_of_length_le (by simp [bys_len])]⟩⟩
  simp only [maxLen]; omega
theorem aw_list : snd (lrn [] (ad6 (255 :: List.replicate 19 0) 6) 0) (ad6 (255 :: List.replicate 19 0) 0) 3 0 = [1, 2] := by decide +kernel
theorem NW.dvv {w0 w : World} {kd : Int} {dk u : Value} {dl : List Int} {e M : Nat} {b : Nat → Nat} {i : Nat} (h : NW w0 kd dk dl e M b i u w) : Dv w e (nv kd u dk) := .inr ⟨M, b, h.dv, h.tab⟩
theorem nv_ok {kd : Int} {u dk : Value} (hk : kd = 1 ∨ kd = 2 ∨ kd = 3) : DOk (nv kd u dk) (nqs kd) := by
  have z : (0 : Int) ≤ 0 ∧ (0 : Int) < 4294967296 := by decide
  refine ⟨?_, z, z, z, z, z, (show (0 : Int) ≤ 0 ∧ (0 : Int) < 256 by decide), (show (0 : Int) ≤ 0 ∧ (0 : Int) < 4 by decide)⟩
  rcases hk with rfl | rfl | rfl
  · exact .inl ⟨rfl, rfl⟩
  · exact .inr (.inl ⟨rfl, rfl⟩)
  · exact .inr (.inr ⟨rfl, rfl⟩)
theorem aw_read {w0 w : World} {dk u : Value} {e M : Nat} {b : Nat → Nat} (h : NW w0 2 dk (List.replicate 512 0) e M b (nqs 2) u w) : Calls Try.prog 13 #[.pointer (some ⟨e, 0, none⟩), .int .u64 256, .int .i64 4] w fun r w' => r = .returned (.tuple #[.int .u64 1, .bool true]) ∧ w' = w := by
  obtain ⟨qb, rq, hq, -⟩ := h.qs
  obtain ⟨ad, c, hd⟩ := own_form h.disk
  refine (k_DRead h.dvv (nv_ok (.inr (.inl rfl))) hq ad 512 c (by rw [show (nv 2 u dk).dk = dk from rfl, hd]; simp) (by decide) 256 4 (by decide) (by decide)).mono ?_
  rintro r w' ⟨rfl, rfl⟩
  exact ⟨rfl, rfl⟩
theorem calls_at {f : FuncId} {args : Array Value} {W w0 : World} {R : Ending → World → Prop} (h : W = w0) (hk : Calls Try.prog f args w0 R) : Calls Try.prog f args W R := h ▸ hk
section
variable {w4 w5 : World} {p M : Nat} (h5 : w5 = w4.alloc (.cells (bys (255 :: List.replicate 19 0)).toArray 5))
include h5
theorem aw_below : Below w4.heap.size w4 w5 := by rw [h5]; exact (Below.refl _ _).alloc (Nat.le_refl _) _
theorem aw_own : w5.ownsRow 0 5 1 (.slice (some ⟨w4.heap.size, 0, none⟩) 20 20) (255 :: List.replicate 19 (0 : Int)).length (bys (255 :: List.replicate 19 0)) :=
  own_row (by rw [h5]; exact heap_alloc_new w4 _) (by simp) (by simp) (by simp)
end
set_option maxHeartbeats 2000000 in
theorem l_awake (w : World) : Calls Try.prog 6 #[] w fun r w' => r = .returned (.bool true) ∧ Below w.heap.size w w' := by
  have hmk : ∀ W, (Instr.makeSlice 34 (.int .i64 512) (.int .i64 512)).run Try.prog W = .ok (.slice (some ⟨W.heap.size, 0, none⟩) 512 512) (W.alloc (.cells (bys (List.replicate 512 0)).toArray 5)) := fun W => by rw [← row_bys]; exact C.run_makeB W 512 (by decide)
  have hmk2 : ∀ W, (Instr.makeSlice 34 (.int .i64 20) (.int .i64 20)).run Try.prog W = .ok (.slice (some ⟨W.heap.size, 0, none⟩) 20 20) (W.alloc (.cells (bys (List.replicate 20 0)).toArray 5)) := fun W => by rw [← row_bys]; exact C.run_makeB W 20 (by decide)
  have hb1 := (Below.refl w.heap.size w).alloc (Nat.le_refl _) (.cells (bys (List.replicate 512 0)).toArray 5)
  have hn := k_DNew (w.alloc (.cells (bys (List.replicate 512 0)).toArray 5)) 2 (by decide) (.slice (some ⟨w.heap.size, 0, none⟩) 512 512) (List.replicate 512 0) (own_row (heap_alloc_new w _) (by simp) (by simp) (by simp)) (by simp) (by simp) (.inl rfl)
  have HB1 := hid hb1
  clear hb1
  go_enter Try.func6, Try.ntmps6
  go_wp2_with (first
    | (go_at_call 12; refine hn.mono ?_; rintro r w2 ⟨e, u, dk, M, b, rfl, hw⟩; have H1 := hid hw; clear hw)
    | (go_at_call 13; refine (aw_read H1.out).mono ?_; rintro r w3 ⟨rfl, hw⟩; obtain rfl := hw.symm)
    | (go_at_call 4; refine (k_NewSwitch w2 3 (by decide) (by decide)).mono ?_; rintro r w4 ⟨p, M4, rfl, k1, k2, k3, k4⟩; have S4 := hid k1; have B4 := hid k2; have M4b := hid k4; have hc4 : (w4.alloc (.cells (bys (List.replicate 20 0)).toArray 5)).cell? ⟨w4.heap.size, 0, none⟩ = some (.int .u8 0) := cell_of_row _ _ 0 _ _ _ (heap_alloc_new w4 _); have hz4 : (w4.alloc (.cells (bys (List.replicate 20 0)).toArray 5)).frozen? ⟨w4.heap.size, 0, none⟩ = false := frozen_of_row _ _ 0 _ _ (heap_alloc_new w4 _); obtain ⟨w5, hw5⟩ : ∃ w5, w5 = w4.alloc (.cells (bys (255 :: List.replicate 19 0)).toArray 5) := ⟨_, rfl⟩; have H5 := hid hw5; clear k1 k2 k3 k4 hw5)
    | (go_at_call 8; refine calls_at H5.out.symm ?_; refine (k_Send w5 p M4 3 [] (S4.out.below (aw_below H5.out)) (by decide) 0 (by decide) (by decide) _ (255 :: List.replicate 19 0) (aw_own H5.out) (by decide) (by decide) (by decide)).mono ?_; rintro r w6 ⟨u6, rfl, k1, k2, k3⟩; rw [aw_list] at k1; obtain ⟨ad6', cp6, rfl⟩ := own_form k1; have O6 := hid k3; clear k1 k2 k3))
  go_ret
  refine ⟨rfl, ?_⟩
  have b2 : Below w.heap.size w w2 := HB1.out.trans (H1.out.bel.mono HB1.out.size)
  have b4 : Below w.heap.size w w4 := b2.trans (B4.out.mono b2.size)
  have b5 : Below w.heap.size w w5 := b4.trans ((aw_below H5.out).mono b4.size)
  exact b5.trans (O6.out.below _ b5.size fun k hk => by have := M4b.out; have := b2.size; omega)
end Go.Proofs.Ytpppljlfljoccaa
namespace Go.Proofs.Ytpppljlfljoccaa
open Go.RowKit Go.MapKept
open C (Only hid Still ret_bool ret_int row)
set_option linter.unusedVariables false
set_option maxRecDepth 100000

/-- cards as cells -/
def mcs (L : List (Ad × Int)) : List Value := L.flatMap fun x => [.int .u8 x.1.1, .int .u8 x.1.2.1, .int .u8 x.1.2.2.1, .int .u8 x.1.2.2.2.1, .int .u8 x.1.2.2.2.2.1, .int .u8 x.1.2.2.2.2.2, .int .i64 x.2]
theorem mcs_len (L : List (Ad × Int)) : (mcs L).length = L.length * 7 := by
  induction L with
  | nil => rfl
  | cons x L ih => simp [mcs] at ih ⊢; omega
theorem mcs_add (L : List (Ad × Int)) (x : Ad × Int) : mcs (L ++ [x]) = mcs L ++ mcs [x] := by simp [mcs]
theorem mcs_at (L : List (Ad × Int)) (i : Nat) (x : Ad × Int) (h : L[i]? = some x) (k : Nat) (hk : k < 7) : (mcs L)[i * 7 + k]? = (mcs [x])[k]? := by
  induction L generalizing i with
  | nil => cases h
  | cons y L ih =>
    have e : mcs (y :: L) = mcs [y] ++ mcs L := by simp [mcs]
    rw [e]
    cases i with
    | zero =>
      cases h
      rw [List.getElem?_append_left (by rw [mcs_len]; simp; omega)]
      simp
    | succ i =>
      rw [List.getElem?_append_right (by rw [mcs_len]; simp; omega), mcs_len]
      have := ih i (by simpa using h)
      rw [← this]
      congr 1
      simp; omega
/-- the document's switch -/
structure Wd (w : World) (p : Nat) (N : Int) (v : Value) (L : List (Ad × Int)) : Prop where
  blk : w.heap[p]? = some (.cells #[.int .i64 N, v] 39 (0, 0))
  own : w.ownsRow 0 57 7 v L.length (mcs L)
theorem mac_cells {w : World} {e : TypeId} {z : Nat} {u : Value} {n : Nat} {xs : List Value} (h : w.ownsRow 0 e z u n xs) {k : Nat} (hk : Ug u k) : ∃ cur, w.heap[k]? = some (.cells cur e (0, 0)) := by
  rcases h.2 with ⟨h1, h2⟩ | ⟨g, cap, cur, rfl, h2, h3, h4⟩
  · rw [h1] at hk; cases hk
  · obtain rfl : g = k := by simpa [Ug, Value.ownBlock] using hk
    exact ⟨cur, h3⟩
theorem Wd.nch {w : World} {p : Nat} {N : Int} {v : Value} {L : List (Ad × Int)} (h : Wd w p N v L) {k : Nat} {o : Obj} (hk : w.heap[k]? = some o) (ht : ∀ c, o ≠ .cells c 57 (0, 0)) : ¬ Ug v k := fun e => by
  obtain ⟨cur, hc⟩ := mac_cells h.own e
  rw [hk] at hc
  cases hc
  exact ht cur rfl
theorem Wd.only {w w' : World} {p : Nat} {N : Int} {v : Value} {L : List (Ad × Int)} (h : Wd w p N v L) {T : Nat → Prop} (ho : Only T w w') (h1 : ¬ T p) (h2 : ∀ k, Ug v k → ¬ T k) : Wd w' p N v L := ⟨ho.old h.blk h1, own_only h.own ho h2⟩
theorem Wd.below {w w' : World} {p : Nat} {N : Int} {v : Value} {L : List (Ad × Int)} (h : Wd w p N v L) (hb : Below w.heap.size w w') : Wd w' p N v L := h.only (T := fun _ => False) (.ofBelow hb) (fun q => q) (fun _ _ q => q)
theorem d_NewSwitch (w : World) (x : Int) (h0 : 1 ≤ x) (h1 : x ≤ 8) : Calls Try.prog 5 #[.int .i64 x] w fun r w' => ∃ p, r = .returned (.tuple #[.pointer (some ⟨p, 0, none⟩), .int .i64 0]) ∧ Wd w' p x (.slice none 0 0) [] ∧ Below w.heap.size w w' ∧ w.heap.size ≤ p := by
  have h2 : ¬ x < 1 := by omega
  have h3 : ¬ x > 8 := by omega
  go_enter Try.func5, Try.ntmps5
  go_wp2
  go_returns
  exact ⟨w.heap.size, rfl, ⟨heap_alloc_new w _, own_nil _ _ _⟩, (Below.refl _ _).alloc (Nat.le_refl _) _, Nat.le_refl _⟩
theorem d_NewSwitch_no (w : World) (x : Int) (h : ¬ (1 ≤ x ∧ x ≤ 8)) : Calls Try.prog 5 #[.int .i64 x] w fun r w' => r = .returned (.tuple #[.pointer none, .int .i64 1]) ∧ w' = w := by
  by_cases h1 : x < 1
  · clear h
    go_enter Try.func5, Try.ntmps5
    go_wp2
    go_returns
    exact ⟨rfl, rfl⟩
  · have h2 : x > 8 := by omega
    clear h
    go_enter Try.func5, Try.ntmps5
    go_wp2
    go_returns
    exact ⟨rfl, rfl⟩
/-- a refused frame -/
theorem k_Send_no (w : World) (p M : Nat) (N : Nat) (L : List (Ad × Int)) (h : Sw w p M (N : Int) L) (pt : Int) (ad : Option Addr) (n c : Nat) (hr : ¬ (0 ≤ pt ∧ pt < N ∧ 14 ≤ n)) : Calls Try.prog 8 #[.pointer (some ⟨p, 0, none⟩), .int .i64 pt, .slice ad n c] w fun r w' => r = .returned (.slice none 0 0) ∧ w' = w := by
  have c0 : w.cell? ⟨p, 0, none⟩ = some (.int .i64 N) := cell_of_row w p 0 _ _ _ h.blk
  clear h
  by_cases h1 : pt < 0
  · clear hr
    go_enter Try.func8, Try.ntmps8
    go_wp2
    go_ret
    exact ⟨rfl, rfl⟩
  · by_cases h2 : pt ≥ N
    · clear hr
      go_enter Try.func8, Try.ntmps8
      go_wp2
      go_ret
      exact ⟨rfl, rfl⟩
    · have h3 : (n : Int) < 14 := by omega
      clear hr
      go_enter Try.func8, Try.ntmps8
      go_wp2
      go_ret
      exact ⟨rfl, rfl⟩
theorem d_Send_no (w : World) (p : Nat) (N : Nat) (v : Value) (L : List (Ad × Int)) (h : Wd w p (N : Int) v L) (pt : Int) (ad : Option Addr) (n c : Nat) (hr : ¬ (0 ≤ pt ∧ pt < N ∧ 14 ≤ n)) : Calls Try.prog 10 #[.pointer (some ⟨p, 0, none⟩), .int .i64 pt, .slice ad n c] w fun r w' => r = .returned (.slice none 0 0) ∧ w' = w := by
  have c0 : w.cell? ⟨p, 0, none⟩ = some (.int .i64 N) := cell_of_row w p 0 _ _ _ h.blk
  clear h
  by_cases h1 : pt < 0
  · clear hr
    go_enter Try.func10, Try.ntmps10
    go_wp2
    go_ret
    exact ⟨rfl, rfl⟩
  · by_cases h2 : pt ≥ N
    · clear hr
      go_enter Try.func10, Try.ntmps10
      go_wp2
      go_ret
      exact ⟨rfl, rfl⟩
    · have h3 : (n : Int) < 14 := by omega
      clear hr
      go_enter Try.func10, Try.ntmps10
      go_wp2
      go_ret
      exact ⟨rfl, rfl⟩
end Go.Proofs.Ytpppljlfljoccaa
