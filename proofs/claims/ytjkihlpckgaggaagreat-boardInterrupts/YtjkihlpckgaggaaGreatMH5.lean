/- New. -/
import Derived.Test.YtjkihlpckgaggaaGreatMH4
import Derived.Test.YtjkihlpckgaggaaGreatMH2
import Derived.Test.YtjkihlpckgaggaaGreatMH3
import Derived.Test.YtjkihlpckgaggaaGreatKI
import Derived.Handy
import Derived.Deep.QuietTactic
import Derived.WideKeyRuns
namespace Go.Proofs.YtjkihlpckgaggaaGreat
open Go.RowKit
open C (Only hid Still ret_bool ret_int)
set_option linter.unusedVariables false
set_option maxRecDepth 100000

theorem k_New' (w : World) : Calls Tryz.prog 67 #[] w fun e w' => e = .returned (.pointer (some ⟨w.heap.size, 0, none⟩)) ∧ w' = w.alloc (.cells (qc q0) 251) := by
  go_enter Tryz.func67, Tryz.ntmps67
  go_wp2
  go_ret
  exact ⟨rfl, rfl⟩
theorem info_pdq : (Tryz.prog.info? 231).map (fun i => (i.zero, i.size, i.bytes)) = some (some (.pointer none), 1, 8) := by kernel_rfl
theorem u_spdq : Tryz.prog.underlying 216 = some (.slice 231) := by kernel_rfl
def nw1 (w : World) : World := w.alloc (.cells (qc q0) 251)
def nw2 (w : World) : World := (nw1 w).alloc (.cells (svc w.heap.size s0) 236)
def nw3 (w : World) : World := (nw2 w).alloc (.cells #[.pointer (some ⟨w.heap.size + 1, 0, none⟩)] 231)
theorem sz_nw1 (w : World) : (nw1 w).heap.size = w.heap.size + 1 := by simp [nw1]
theorem sz_nw2 (w : World) : (nw2 w).heap.size = w.heap.size + 2 := by simp [nw2, sz_nw1]
theorem nw3_lit (w : World) : (nw3 w).heap[w.heap.size + 2]? = some (.cells #[.pointer (some ⟨w.heap.size + 1, 0, none⟩)] 231 (0, 0)) := by
  rw [← sz_nw2]; exact heap_alloc_new (nw2 w) _
theorem nw3_p (w : World) : (nw3 w).heap[w.heap.size + 1]? = some (.cells (svc w.heap.size s0) 236 (0, 0)) := by
  refine (heap_alloc_old _ _ (by rw [sz_nw2]; omega)).trans ?_
  rw [← sz_nw1]; exact heap_alloc_new (nw1 w) _
theorem nw3_r (w : World) : (nw3 w).heap[w.heap.size]? = some (.cells (qc q0) 251 (0, 0)) :=
  (heap_alloc_old _ _ (by rw [sz_nw2]; omega)).trans ((heap_alloc_old _ _ (by rw [sz_nw1]; omega)).trans (heap_alloc_new w _))
theorem nw3_below (w : World) : Below w.heap.size w (nw3 w) := (((Below.refl _ _).alloc (Nat.le_refl _) _).alloc (by simp) _).alloc (by simp; omega) _
/-- a new device's numbers -/
def nv (kd : Int) (u dk : Value) : DV := ⟨kd, 0, 0, 0, 0, 0, 0, 0, u, dk, .slice none 0 0, .slice none 0 0, .slice none 0 0, .slice none 0 0⟩
/-- as far as its queues are made -/
structure NW (w0 : World) (kd : Int) (dk : Value) (dl : List Int) (e M : Nat) (b : Nat → Nat) (i : Nat) (u : Value) (w : World) : Prop where
  bel : Below w0.heap.size w0 w
  dv : w.heap[e]? = some (.cells ((nv kd u dk).cells 1 0 (.map (some M))) 225 (0, 0))
  eb : w0.heap.size ≤ e
  tab : Tab w M e b
  disk : w.ownsRow 0 5 1 dk dl.length (bys dl)
  db : ∀ k, Ug dk k → w0.heap.size ≤ k
  qs : ∃ qb rq, QS w u i qb rq (fun _ => s0) (fun _ => q0) ∧ ∀ j, j < i → w0.heap.size ≤ qb j ∧ w0.heap.size ≤ rq j
  ub : ∀ k, Ug u k → w0.heap.size ≤ k
def vtN (e : Nat) (u : Value) (wa : World) (x : Value) : Nat → Value := fun dd => if dd = 41 then .pointer (some ⟨e, 0, none⟩) else if dd = 42 then .pointer (some ⟨e, 0, none⟩) else if dd = 43 then .pointer (some ⟨e, 0, none⟩) else if dd = 44 then .pointer (some ⟨e, 8, none⟩) else if dd = 45 then u else if dd = 46 then .pointer (some ⟨wa.heap.size, 0, none⟩) else if dd = 47 then .agg #[.pointer (some ⟨wa.heap.size, 0, none⟩), .int .u32 0, .int .u32 0, .int .u32 0, .int .u32 0, .int .u32 0, .int .u32 0, .int .u32 0] else if dd = 48 then .pointer (some ⟨wa.heap.size + 1, 0, none⟩) else if dd = 49 then .slice (some ⟨wa.heap.size + 2, 0, none⟩) 1 1 else if dd = 50 then x else if dd = 51 then .pointer (some ⟨e, 0, none⟩) else if dd = 52 then .pointer (some ⟨e, 8, none⟩) else undef
/-- the states of a round -/
def lqs (i : Nat) (qb : Nat → Nat) : List Value := (List.range i).map fun j => .pointer (some ⟨qb j, 0, none⟩)
def NM (wa : World) (u : Value) (i : Nat) (qb : Nat → Nat) (e : Nat) : Nat → Value → World → Prop
  | 0, _, w => w = wa
  | 1, _, w => w = nw1 wa
  | 2, _, w => w = nw2 wa
  | 3, _, w => w = nw3 wa
  | 4, x, w => w.ownsRow 0 231 1 x (i + 1) (lqs i qb ++ [.pointer (some ⟨wa.heap.size + 1, 0, none⟩)]) ∧ Only (Ug u) (nw3 wa) w ∧ ∀ k, x.ownBlock = some k → u.ownBlock = some k ∨ (nw3 wa).heap.size ≤ k
  | _, x, w => ∃ w8, (w8.ownsRow 0 231 1 x (i + 1) (lqs i qb ++ [.pointer (some ⟨wa.heap.size + 1, 0, none⟩)]) ∧ Only (Ug u) (nw3 wa) w8 ∧ ∀ k, x.ownBlock = some k → u.ownBlock = some k ∨ (nw3 wa).heap.size ≤ k) ∧ w = w8.setCell ⟨e, 8, none⟩ x
def upq (f : Nat → Nat) (i x : Nat) : Nat → Nat := fun j => if j = i then x else f j
section
variable {w0 : World} {kd : Int} {dk : Value} {dl : List Int} {e M : Nat} {b : Nat → Nat} {i : Nat} {u : Value} {wa : World}
theorem ug_typ {w : World} {t : TypeId} {size : Nat} {u : Value} {n : Nat} {xs : List Value} (h : w.ownsRow 0 t size u n xs) (k : Nat) (hk : Ug u k) : ∃ cur, w.heap[k]? = some (.cells cur t (0, 0)) := own_typ h hk
theorem lqs_up (i : Nat) (qb : Nat → Nat) (x : Nat) : lqs i qb ++ [.pointer (some ⟨x, 0, none⟩)] = lqs (i + 1) (upq qb i x) := by
  unfold lqs
  rw [List.range_succ, List.map_append]
  congr 1
  · apply List.map_congr_left
    intro j hj
    have : j < i := by simpa using hj
    simp only [upq, if_neg (show j ≠ i by omega)]
  · simp [upq]
/-- what stands ahead of the append -/
theorem NW.own3 (h : NW w0 kd dk dl e M b i u wa) {qb rq : Nat → Nat} (hq : QS wa u i qb rq (fun _ => s0) (fun _ => q0)) : (nw3 wa).ownsRow 0 231 1 u i (lqs i qb) :=
  own_only hq.row (T := fun _ => False) (.ofBelow (nw3_below wa)) (fun _ _ z => z)
theorem NW.only4 (h : NW w0 kd dk dl e M b i u wa) {qb rq : Nat → Nat} (hq : QS wa u i qb rq (fun _ => s0) (fun _ => q0)) {w : World} {x : Value} (hm : NM wa u i qb e 4 x w) : Only (Ug u) wa w ∧ CellsOnly wa (Ug u) ∧ (∀ (k : Nat) (c : Array Value) (t : TypeId) (f : Nat × Nat), wa.heap[k]? = some (.cells c t f) → t ≠ 231 → ¬ Ug u k) := by
  have ht : ∀ k, Ug u k → ∃ cur, wa.heap[k]? = some (.cells cur 231 (0, 0)) := fun k hk => ug_typ hq.row k hk
  refine ⟨(Only.ofBelow (nw3_below wa)).trans hm.2.1, fun k hk => ?_, fun k c t f hk hne hu => ?_⟩
  · obtain ⟨cur, hc⟩ := ht k hk; exact ⟨_, _, _, hc, by decide⟩
  · obtain ⟨cur, hc⟩ := ht k hu
    rw [hc] at hk
    injection hk with hk
    injection hk with _ hk
    exact hne hk.symm
theorem NW.at4 (h : NW w0 kd dk dl e M b i u wa) {qb rq : Nat → Nat} (hq : QS wa u i qb rq (fun _ => s0) (fun _ => q0)) {w : World} {x : Value} (hm : NM wa u i qb e 4 x w) : w.heap[e]? = some (.cells ((nv kd u dk).cells 1 0 (.map (some M))) 225 (0, 0)) := by
  obtain ⟨h1, h2, h3⟩ := h.only4 hq hm
  exact h1.old h.dv (h3 _ _ _ _ h.dv (by decide))
theorem NW.step (h : NW w0 kd dk dl e M b i u wa) {qb rq : Nat → Nat} (hq : QS wa u i qb rq (fun _ => s0) (fun _ => q0)) (hqn : ∀ j, j < i → w0.heap.size ≤ qb j ∧ w0.heap.size ≤ rq j) {w : World} {x : Value} (hm : NM wa u i qb e 4 x w) : NW w0 kd dk dl e M b (i + 1) x (w.setCell ⟨e, 8, none⟩ x) := by
  obtain ⟨h1, h2, h3⟩ := h.only4 hq hm
  have hd := h.at4 hq hm
  have hb : Below w0.heap.size w0 w := h.bel.trans (h1.below w0.heap.size h.bel.size fun k hk => h.ub k hk)
  have hoe := only_c w e 8 x
  have hce : CellsOnly w (· = e) := fun j hj => by subst hj; exact ⟨_, _, _, hd, by decide⟩
  have nole : ∀ (k : Nat) (c : Array Value) (t : TypeId) (f : Nat × Nat), w.heap[k]? = some (.cells c t f) → t ≠ 225 → k ≠ e := fun k c t f hk ht z => by subst z; rw [hd] at hk; injection hk with hk; injection hk with _ hk; exact ht hk.symm
  have lift : ∀ (k : Nat) (c : Array Value) (t : TypeId), wa.heap[k]? = some (.cells c t (0, 0)) → t ≠ 231 → t ≠ 225 → (w.setCell ⟨e, 8, none⟩ x).heap[k]? = some (.cells c t (0, 0)) := fun k c t hk n1 n2 => by
    have a := h1.old hk (h3 _ _ _ _ hk n1)
    exact hoe.old a (nole _ _ _ _ a n2)
  have lift3 : ∀ (k : Nat) (c : Array Value) (t : TypeId), (nw3 wa).heap[k]? = some (.cells c t (0, 0)) → t ≠ 231 → t ≠ 225 → wa.heap.size ≤ k → (w.setCell ⟨e, 8, none⟩ x).heap[k]? = some (.cells c t (0, 0)) := fun k c t hk n1 n2 hs => by
    have a : w.heap[k]? = some (.cells c t (0, 0)) := hm.2.1.old hk fun hu => by
      obtain ⟨cur, hc⟩ := ug_typ hq.row k hu
      have := lt_of_block hc
      omega
    exact hoe.old a (nole _ _ _ _ a n2)
  refine ⟨hb.setCell h.eb _, setRowB w e 8 _ _ _ x hd rfl, h.eb, (h.tab.only h1 h2).only hoe hce, ?_, h.db, ⟨upq qb i (wa.heap.size + 1), upq rq i wa.heap.size, ?_, fun j hj => ?_⟩, ?_⟩
  · refine own_only (own_only h.disk h1 fun k hk => ?_) hoe fun k hk => ?_
    · obtain ⟨cur, hc⟩ := ug_typ h.disk k hk; exact h3 _ _ _ _ hc (by decide)
    · obtain ⟨cur, hc⟩ := ug_typ (own_only h.disk h1 fun k hk => by obtain ⟨cur, hc⟩ := ug_typ h.disk k hk; exact h3 _ _ _ _ hc (by decide)) k hk
      exact nole _ _ _ _ hc (by decide)
  · have lt1 : ∀ j, j < i → qb j < wa.heap.size := fun j hj => lt_of_block (hq.q j hj)
    have lt2 : ∀ j, j < i → rq j < wa.heap.size := fun j hj => (hq.r j hj).lt
    refine ⟨?_, fun j hj => ?_, fun j hj => ?_, fun j k hj hk z => ?_, fun j k hj hk z => ?_⟩
    · refine own_only ?_ hoe fun k hk => ?_
      · have := hm.1
        rw [lqs_up] at this
        exact this
      · obtain ⟨cur, hc⟩ := ug_typ hm.1 k hk
        exact nole _ _ _ _ hc (by decide)
    · by_cases z : j = i
      · subst z; simp only [upq]; rw [if_pos trivial, if_pos trivial]; exact lift3 _ _ _ (nw3_p wa) (by decide) (by decide) (by omega)
      · simp only [upq, if_neg z]; exact lift _ _ _ (hq.q j (by omega)) (by decide) (by decide)
    · by_cases z : j = i
      · subst z; simp only [upq]; rw [if_pos trivial]; exact lift3 _ _ _ (nw3_r wa) (by decide) (by decide) (by omega)
      · simp only [upq, if_neg z]; exact lift _ _ _ (hq.r j (by omega)) (by decide) (by decide)
    · by_cases z1 : j = i <;> by_cases z2 : k = i
      · omega
      · have := lt1 k (by omega); simp only [upq, if_neg z2, if_pos z1] at z; omega
      · have := lt1 j (by omega); simp only [upq, if_neg z1, if_pos z2] at z; omega
      · simp only [upq, if_neg z1, if_neg z2] at z; exact hq.iq j k (by omega) (by omega) z
    · by_cases z1 : j = i <;> by_cases z2 : k = i
      · omega
      · have := lt2 k (by omega); simp only [upq, if_neg z2, if_pos z1] at z; omega
      · have := lt2 j (by omega); simp only [upq, if_neg z1, if_pos z2] at z; omega
      · simp only [upq, if_neg z1, if_neg z2] at z; exact hq.ir j k (by omega) (by omega) z
  · by_cases z : j = i
    · subst z; simp only [upq]; rw [if_pos trivial, if_pos trivial]; have := h.bel.size; omega
    · simp only [upq, if_neg z]; exact hqn j (by omega)
  · intro k hk
    rcases hm.2.2 k hk with q | q
    · exact h.ub k q
    · have := (nw3_below wa).size
      have := h.bel.size
      omega
end
end Go.Proofs.YtjkihlpckgaggaaGreat
namespace Go.Proofs.YtjkihlpckgaggaaGreat
open Go.RowKit
open C (Only hid Still ret_bool ret_int)
set_option linter.unusedVariables false
set_option maxRecDepth 100000

def nqs (kd : Int) : Nat := if kd = 2 then 1 else 2
theorem own_nil (w : World) (t : TypeId) (z : Nat) : w.ownsRow 0 t z (.slice none 0 0) 0 [] := ⟨by simp, .inl ⟨rfl, rfl⟩⟩
theorem trK_len (e : Nat) (b : Nat → Nat) (kd : Int) (h : kd = 1 ∨ kd = 2 ∨ kd = 3) : ∃ g y, trK e b kd = .agg #[.slice (some ⟨g, 0, none⟩) (nqs kd) (nqs kd), y] := by
  rcases h with rfl | rfl | rfl <;> exact ⟨_, _, rfl⟩
theorem fld_deeds (w : World) (a : Option Addr) (l c : Nat) (y : Value) : (Instr.field 229 (.agg #[.slice a l c, y]) 0).run Tryz.prog w = .ok (.slice a l c) w := by rfl
set_option maxHeartbeats 4000000 in
theorem k_DNew (w : World) (kd : Int) (hk : kd = 1 ∨ kd = 2 ∨ kd = 3) (ud : Value) (dl : List Int) (hd : w.ownsRow 0 5 1 ud dl.length (bys dl)) (hl : dl.length ≤ 32768) (hm : dl.length % 512 = 0) (hz : kd = 2 ∨ dl.length = 0) :
    Calls Tryz.prog 48 #[.int .i64 kd, ud] w fun r w' => ∃ e u dk M b, r = .returned (.tuple #[.pointer (some ⟨e, 0, none⟩), .int .i64 0]) ∧ NW w kd dk dl e M b (nqs kd) u w' := by
  obtain ⟨ad, cp, rfl⟩ := own_form hd
  have hid1 := fun w => k_isDisk w ad dl.length cp (by omega)
  rw [show (decide (dl.length ≤ 32768) && dl.length % 512 == 0) = true from by simp [hl, hm]] at hid1
  have hn2 : nqs kd ≤ 2 := by unfold nqs; split <;> omega
  have hn1 : 1 ≤ nqs kd := by unfold nqs; split <;> omega
  have HCl := hid (fun (w1 : World) (h1 : w1.ownsRow 0 5 1 (.slice ad dl.length cp) dl.length (bys dl)) => l_Clone w1 _ dl h1 (by omega))
  obtain ⟨e, he⟩ : ∃ e, e = w.heap.size := ⟨_, rfl⟩
  have HE0 := hid he
  have hA1 := heap_alloc_new w (.cells ((nv kd (.slice none 0 0) (.slice none 0 0)).cells 0 0 (.map none)) 225)
  rw [← he] at hA1
  have hB1 := (Below.refl w.heap.size w).alloc (Nat.le_refl _) (.cells ((nv kd (.slice none 0 0) (.slice none 0 0)).cells 0 0 (.map none)) 225)
  have HT := k_trade (w.alloc (.cells ((nv kd (.slice none 0 0) (.slice none 0 0)).cells 0 0 (.map none)) 225)) e _ (.inl hA1)
  have HB1 := hid hB1
  have HD := hid hd
  have hk2 : (kd != 2) = true → dl.length = 0 := fun q => by rcases hz with z | z; exact absurd z (by simpa using q); exact z
  have HKL : Hid (∀ b, ∃ g y, trK e b kd = .agg #[.slice (some ⟨g, 0, none⟩) (nqs kd) (nqs kd), y]) := fun b => trK_len e b kd hk
  have HG : Hid ((kd != 2 && decide (0 < (dl.length : Int))) = false) := by
    rcases hz with z | z
    · subst z; exact hid (by simp)
    · rw [z]; exact hid (by simp)
  clear hA1 hB1 hd hm hz he hk2
  generalize hN : nqs kd = N at *
  have HN := hid hN
  clear hN
  have hfl := fld_deeds
  have HOe := hid (fun (w2 : World) (h3 : Only (· = e) (w.alloc (.cells ((nv kd (.slice none 0 0) (.slice none 0 0)).cells 0 0 (.map none)) 225)) w2) => (show Below w.heap.size w w2 from HB1.out.trans (h3.below w.heap.size HB1.out.size fun k hk => by have := HE0.out; subst hk; omega)))
  have h0 : kd ≠ 2 → ¬ (0 < dl.length) := fun z => by have := HG.out; simp [z] at this; simp [this]
  have hN0 : ((N : Int) == 0) = false := by simp; omega
  by_cases hz : kd = 2
  · subst hz
    clear h0
    go_enter Tryz.func48, Tryz.ntmps48
    go_upto_region 3 with (first
      | (go_at_call 64; (rw [← HE0.out]); refine HT.mono ?_; rintro r w2 ⟨M, b, rfl, h1, h2, h3⟩; have H1 := hid h1; have H2 := hid h2; have H3 := hid h3; clear h1 h2 h3; obtain ⟨g, y, hg⟩ := HKL.out b; rw [show (nv 2 (.slice none 0 0) (.slice none 0 0)).kd = 2 from rfl, hg]; clear hg))
    go_upto_region 5 with (first
      | (go_at_call 65; refine (hid1 _).mono ?_; rintro e w' ⟨rfl, hw⟩; obtain rfl := hw.symm))
    have hb2 := HOe.out _ H3.out
    have hd2 : w2.ownsRow 0 5 1 (.slice ad dl.length cp) dl.length (bys dl) := own_only HD.out (T := fun _ => False) (.ofBelow hb2) (fun _ _ z => z)
    have hcl := HCl.out w2 hd2
    have HB2 := hid hb2
    clear hb2 hd2 H3 HCl HD HB1 HT HOe
    go_wp2_with (first
      | (go_at_call 66; refine hcl.mono ?_; rintro r w3 ⟨dk, rfl, h1, h2, h3⟩; have H4 := hid h1; have H5 := hid h2; have H6 := hid h3; have hc9 : w3.heap[e]? = _ := (h2.block e (lt_of_block H1.out)).trans H1.out; have c9 : w3.cell? ⟨e, 9, none⟩ = some (.slice none 0 0) := cell_of_row w3 e 9 _ _ _ hc9; have z9 : w3.frozen? ⟨e, 9, none⟩ = false := frozen_of_row w3 e 9 _ _ hc9; have HC9 := hid hc9; obtain ⟨dad, dcp, rfl⟩ := own_form h1; clear h1 h2 h3 hc9))
    have hn0 : NW w 2 (.slice dad dl.length dcp) dl e M b 0 (.slice none 0 0) (w3.setCell ⟨e, 9, none⟩ (.slice dad dl.length dcp)) := by
      have hb3 : Below w.heap.size w w3 := HB2.out.trans (H5.out.mono HB2.out.size)
      have ho := only_c w3 e 9 (.slice dad dl.length dcp)
      have hce : CellsOnly w3 (· = e) := fun j hj => by subst hj; exact ⟨_, _, _, HC9.out, by decide⟩
      refine ⟨hb3.setCell (show w.heap.size ≤ e by have := HE0.out; omega) _, setRowB w3 e 9 _ _ _ _ HC9.out rfl, by have := HE0.out; omega, (H2.out.only (T := fun _ => False) (.ofBelow H5.out) (fun _ q => q.elim)).only ho hce, own_only H4.out ho fun k hk z => ?_, fun k hk => ?_, ⟨fun _ => 0, fun _ => 0, ⟨own_nil _ _ _, fun i hi => by omega, fun i hi => by omega, fun i j hi => by omega, fun i j hi => by omega⟩, fun j hj => by omega⟩, fun k hk => by cases hk⟩
      · obtain ⟨cur, hc⟩ := ug_typ H4.out k hk
        subst z
        rw [HC9.out] at hc
        injection hc with hc
        injection hc with _ hc
        exact absurd hc (by decide)
      · have := H6.out k hk
        have := HB2.out.size
        omega
    have HN0 := hid hn0
    clear hn0 c9 z9 hid1 hcl H1 H2 H4 H5 H6 HC9 HB2 HKL HG
    go_loopw [39] (fun i wr => ∃ j : Nat, ∃ u, j ≤ N ∧ i = .int .i64 j ∧ Hid (NW w 2 (.slice dad dl.length dcp) dl e M b j u wr)) (fun i _ => N - (intOf i).toNat)
    case atStart => exact ⟨0, _, by omega, rfl, HN0⟩
    case round =>
      obtain ⟨jj, u, hi, rfl, hnw⟩ := hrel
      by_cases hlt : jj < N
      · have hlt' : (jj : Int) < N := by omega
        go_upto_region 8 with fail
        obtain ⟨qb, rq, hq, hqn⟩ := hnw.out.qs
        obtain ⟨wa, hwa⟩ : ∃ wa, wa = wr.drew := ⟨_, rfl⟩
        have hnw2 : NW w 2 (.slice dad dl.length dcp) dl e M b jj u wa := by
          have h := hnw.out
          rw [hwa]
          exact ⟨h.bel.drew, h.dv, h.eb, h.tab, h.disk, h.db, ⟨qb, rq, ⟨hq.row, hq.q, hq.r, hq.iq, hq.ir⟩, hqn⟩, h.ub⟩
        have hq2 : QS wa u jj qb rq (fun _ => s0) (fun _ => q0) := by rw [hwa]; exact ⟨hq.row, hq.q, hq.r, hq.iq, hq.ir⟩
        refine wp_region_any (by kernel_rfl) ?_
        rw [show ({ wr with drawn := wr.drawn + 1 } : World) = wa from hwa.symm]
        have HOW := hid (hnw2.own3 hq2)
        have HW4 := hid (fun (w8 : World) (x : Value) (m : NM wa u jj qb e 4 x w8) => hnw2.at4 hq2 m)
        have HC8 := hid (fun (w8 : World) (x : Value) (m : NM wa u jj qb e 4 x w8) => (show w8.cell? ⟨e, 8, none⟩ = some u ∧ w8.frozen? ⟨e, 8, none⟩ = false from ⟨cell_of_row w8 e 8 _ _ _ (HW4.out w8 x m), frozen_of_row w8 e 8 _ _ (HW4.out w8 x m)⟩))
        have HST := hid (fun (w8 : World) (x : Value) (m : NM wa u jj qb e 4 x w8) => (show ∃ ad c, x = .slice ad (jj + 1) c from own_form m.1))
        have HFN := hid (fun (w8 : World) (x : Value) (m : NM wa u jj qb e 4 x w8) => hnw2.step hq2 hqn m)
        have HLD : Hid (∀ (x : Value) (listed : Array Bool) w8, VS [5, 7, 8, 9, 12] (NM wa u jj qb e) x listed w8 → listed.getD 9 false = false → w8.cell? ⟨e, 8, none⟩ = some u) := by
          rintro x listed w8 ⟨s, hs, hm⟩ h9
          have hd := hnw2.dv
          have a1 := hs 3 9 rfl
          rw [h9] at a1
          have a2 : ¬ 3 < s := by simpa using a1.symm
          have bb : ∀ w', Below wa.heap.size wa w' → w'.cell? ⟨e, 8, none⟩ = some u := fun w' hb => cell_of_row w' e 8 _ _ _ ((hb.block e (lt_of_block hd)).trans hd)
          match s, a2, hm with
          | 0, _, hm => rw [show w8 = wa from hm]; exact bb _ (Below.refl _ _)
          | 1, _, hm => rw [show w8 = nw1 wa from hm]; exact bb _ ((Below.refl _ _).alloc (Nat.le_refl _) _)
          | 2, _, hm => rw [show w8 = nw2 wa from hm]; exact bb _ (((Below.refl _ _).alloc (Nat.le_refl _) _).alloc (by simp) _)
          | 3, _, hm => rw [show w8 = nw3 wa from hm]; exact bb _ (nw3_below wa)
          | s + 4, q, _ => omega
        clear hnw2 hq2 hwa hq hnw HW4
        refine wpAny_fz (α := Value) (vtN e u wa) (fun x listed w => VS [5, 7, 8, 9, 12] (NM wa u jj qb e) x listed w) ?step ?fin u ?start
        case start => exact .start rfl
        case step =>
          rintro listed fr wr x hF hW hC i hj
          obtain ⟨hl, o, ho, he⟩ := mem_ready.1 hj
          have hjl : i < listed.size := by rw [hF.q.ls]; exact (Array.getElem?_eq_some_iff.1 ho).1
          have hl0 := getD_tf hjl hl
          clear hj
          have HF := hid hF
          have HW := hid hW
          have HE := hid he
          have HC := hid hC
          clear hF hW he hl hC
          match i, ho with
          | 0, ho =>
            obtain rfl := Option.some.inj ho
            have e6 : fr.tmps[6]?.getD undef = .pointer (some ⟨e, 0, none⟩) := HF.out.base 6 (by kernel_rfl) rfl
            exact wp_q rfl rfl (by simp [execOp, go_sem, e6]; try rfl) ⟨x, HF.out.put (by kernel_rfl) rfl rfl rfl (of_decide_eq_true rfl), HW.out.q hjl (by decide)⟩
          | 1, ho =>
            obtain rfl := Option.some.inj ho
            have e6 : fr.tmps[6]?.getD undef = .pointer (some ⟨e, 0, none⟩) := HF.out.base 6 (by kernel_rfl) rfl
            exact wp_q rfl rfl (by simp [execOp, go_sem, e6]; try rfl) ⟨x, HF.out.put (by kernel_rfl) rfl rfl rfl (of_decide_eq_true rfl), HW.out.q hjl (by decide)⟩
          | 2, ho =>
            obtain rfl := Option.some.inj ho
            have e42 : fr.tmps[42]?.getD undef = .pointer (some ⟨e, 0, none⟩) := HF.out.ev (i := 1) rfl rfl (HE.out ⟨1, .data⟩ (by simp) rfl)
            exact wp_q rfl rfl (by simp [execOp, go_sem, e42]; try rfl) ⟨x, HF.out.put (by kernel_rfl) rfl rfl rfl (of_decide_eq_true rfl), HW.out.q hjl (by decide)⟩
          | 3, ho =>
            obtain rfl := Option.some.inj ho
            have e43 : fr.tmps[43]?.getD undef = .pointer (some ⟨e, 0, none⟩) := HF.out.ev (i := 2) rfl rfl (HE.out ⟨2, .data⟩ (by simp) rfl)
            exact wp_q rfl rfl (by simp [execOp, go_sem, e43]; try rfl) ⟨x, HF.out.put (by kernel_rfl) rfl rfl rfl (of_decide_eq_true rfl), HW.out.q hjl (by decide)⟩
          | 4, ho =>
            obtain rfl := Option.some.inj ho
            have e44 : fr.tmps[44]?.getD undef = .pointer (some ⟨e, 8, none⟩) := HF.out.ev (i := 3) rfl rfl (HE.out ⟨3, .data⟩ (by simp) rfl)
            have hc := HLD.out _ _ _ HW.out (not_yet HC.out hl0 rfl ⟨4, .data⟩ (by simp) rfl rfl)
            exact wp_q rfl rfl (by simp [execOp, go_sem, e44, hc]; try rfl) ⟨x, HF.out.put (by kernel_rfl) rfl rfl rfl (of_decide_eq_true rfl), HW.out.q hjl (by decide)⟩
          | 5, ho =>
            obtain rfl := Option.some.inj ho
            have m0 : wr = wa := HW.out.at 0 rfl hl0 (fun j hj => by omega)
            subst m0
            refine wp_c0w rfl (by simp [Region.wanted]) 67 _ rfl (Tryz.call67 _ _) (k_New' _) ?_
            rintro e' w7 ⟨rfl, rfl⟩
            exact ⟨_, rfl, x, HF.out.put (by kernel_rfl) rfl rfl rfl (of_decide_eq_true rfl), HW.out.go 0 hjl rfl hl0 (fun j hj => by omega) (by intro a ha; match a, ha with | 0, _ => rfl | 1, ha => simp at ha | 2, ha => simp at ha | 3, ha => simp at ha | 4, ha => simp at ha) rfl⟩
          | 6, ho =>
            obtain rfl := Option.some.inj ho
            have e46 : fr.tmps[46]?.getD undef = .pointer (some ⟨wa.heap.size, 0, none⟩) := HF.out.ev (i := 5) rfl rfl (HE.out ⟨5, .data⟩ (by simp) rfl)
            exact wp_q rfl rfl (by simp [execOp, go_sem, e46]; try rfl) ⟨x, HF.out.put (by kernel_rfl) rfl rfl rfl (of_decide_eq_true rfl), HW.out.q hjl (by decide)⟩
          | 7, ho =>
            obtain rfl := Option.some.inj ho
            have e47 : fr.tmps[47]?.getD undef = .agg #[.pointer (some ⟨wa.heap.size, 0, none⟩), .int .u32 0, .int .u32 0, .int .u32 0, .int .u32 0, .int .u32 0, .int .u32 0, .int .u32 0] := HF.out.ev (i := 6) rfl rfl (HE.out ⟨6, .data⟩ (by simp) rfl)
            have hp := HC.out 6 _ rfl (HE.out ⟨6, .data⟩ (by simp) rfl) ⟨5, .data⟩ (by simp) rfl
            have m0 : wr = nw1 wa := HW.out.at 1 rfl hl0 (fun j hj => by obtain rfl : j = 0 := (by omega); exact ⟨5, rfl, hp⟩)
            subst m0
            exact wp_q (v := .pointer (some ⟨wa.heap.size + 1, 0, none⟩)) (w' := nw2 wa) rfl rfl (by simp [execOp, go_sem, e47, nw1, nw2]; try rfl) ⟨x, HF.out.put (by kernel_rfl) rfl rfl rfl (of_decide_eq_true rfl), HW.out.go 1 hjl rfl hl0 (fun j hj => by obtain rfl : j = 0 := (by omega); exact ⟨5, rfl, hp⟩) (by intro a ha; match a, ha with | 0, ha => simp at ha | 1, _ => rfl | 2, ha => simp at ha | 3, ha => simp at ha | 4, ha => simp at ha) rfl⟩
          | 8, ho =>
            obtain rfl := Option.some.inj ho
            have e48 : fr.tmps[48]?.getD undef = .pointer (some ⟨wa.heap.size + 1, 0, none⟩) := HF.out.ev (i := 7) rfl rfl (HE.out ⟨7, .data⟩ (by simp) rfl)
            have hp := HE.out ⟨7, .data⟩ (by simp) rfl
            have m0 : wr = nw2 wa := HW.out.at 2 rfl hl0 (fun j hj => by obtain rfl : j = 1 := (by omega); exact ⟨7, rfl, hp⟩)
            subst m0
            obtain ⟨i0, hi0, hz0, hs0, hb0⟩ := info_parts info_pdq
            exact wp_bs rfl rfl 216 231 1 _ rfl #[.pointer (some ⟨wa.heap.size + 1, 0, none⟩)] i0 _ u_spdq hi0 hz0 (by rw [hs0]; decide) (by rw [hs0]; decide) (by rw [hs0]; simp [Act.eval, e48]; kernel_rfl) ⟨x, HF.out.put (by kernel_rfl) rfl rfl (by rw [sz_nw2]; rfl) (of_decide_eq_true rfl), HW.out.go 2 hjl rfl hl0 (fun j hj => by obtain rfl : j = 1 := (by omega); exact ⟨7, rfl, hp⟩) (by intro a ha; match a, ha with | 0, ha => simp at ha | 1, ha => simp at ha | 2, _ => rfl | 3, ha => simp at ha | 4, ha => simp at ha) rfl⟩
          | 9, ho =>
            obtain rfl := Option.some.inj ho
            have e45 : fr.tmps[45]?.getD undef = u := HF.out.ev (i := 4) rfl rfl (HE.out ⟨4, .data⟩ (by simp) rfl)
            have e49 : fr.tmps[49]?.getD undef = .slice (some ⟨wa.heap.size + 2, 0, none⟩) 1 1 := HF.out.ev (i := 8) rfl rfl (HE.out ⟨8, .data⟩ (by simp) rfl)
            have hp := HE.out ⟨8, .data⟩ (by simp) rfl
            have m0 : wr = nw3 wa := HW.out.at 3 rfl hl0 (fun j hj => by obtain rfl : j = 2 := (by omega); exact ⟨8, rfl, hp⟩)
            subst m0
            obtain ⟨i0, hi0, hz0, hs0, hb0⟩ := info_parts info_pdq
            have e28' : Act.eval fr (.tmp 45) = u := by simp [Act.eval, e45]
            have e31' : Act.eval fr (.tmp 49) = .slice (some ⟨wa.heap.size + 2, 0, none⟩) 1 1 := by simp [Act.eval, e49]
            refine wpOp_step rfl fun K' hK => ?_
            refine step_append_blk _ (.tmp 45) (.tmp 49) 216 rfl 231 i0 _ 1 8 u_spdq hi0 hz0 hs0 hb0 rfl (by decide) u jj _ e28' HOW.out ⟨wa.heap.size + 2, 0, none⟩ 1 1 [.pointer (some ⟨wa.heap.size + 1, 0, none⟩)] e31' rfl ?_ (by intro v hv; simp at hv; rcases hv with rfl; rfl) (show jj + 1 ≤ 9223372036854775807 by omega) (by omega) rfl ?_
            · intro j v hv
              rw [C.addr_add, Nat.zero_add, cell_of_row _ _ j _ _ _ (nw3_lit wa)]
              simpa using hv
            intro v' w8 hown hgrow hblk
            have hsw := HF.out.swapD (vt' := vtN e u wa v') (by kernel_rfl) (fun d => ?_)
            · exact hK _ _ ⟨v', hsw.put (by kernel_rfl) rfl rfl rfl (of_decide_eq_true rfl), HW.out.go 3 hjl rfl hl0 (fun j hj => by obtain rfl : j = 2 := (by omega); exact ⟨8, rfl, hp⟩) (by intro a ha; match a, ha with | 0, ha => simp at ha | 1, ha => simp at ha | 2, ha => simp at ha | 3, _ => rfl | 4, ha => simp at ha) ⟨hown, grown_ug hgrow, hblk⟩⟩
            · by_cases z0 : d = 50
              · subst z0; exact .inr ⟨9, _, rfl, rfl, hl0⟩
              · left; simp only [vtN, if_neg z0]
          | 10, ho =>
            obtain rfl := Option.some.inj ho
            have e41 : fr.tmps[41]?.getD undef = .pointer (some ⟨e, 0, none⟩) := HF.out.ev (i := 0) rfl rfl (HE.out ⟨0, .data⟩ (by simp) rfl)
            exact wp_q rfl rfl (by simp [execOp, go_sem, e41]; try rfl) ⟨x, HF.out.put (by kernel_rfl) rfl rfl rfl (of_decide_eq_true rfl), HW.out.q hjl (by decide)⟩
          | 11, ho =>
            obtain rfl := Option.some.inj ho
            have e51 : fr.tmps[51]?.getD undef = .pointer (some ⟨e, 0, none⟩) := HF.out.ev (i := 10) rfl rfl (HE.out ⟨10, .data⟩ (by simp) rfl)
            exact wp_q rfl rfl (by simp [execOp, go_sem, e51]; try rfl) ⟨x, HF.out.put (by kernel_rfl) rfl rfl rfl (of_decide_eq_true rfl), HW.out.q hjl (by decide)⟩
          | 12, ho =>
            obtain rfl := Option.some.inj ho
            have e52 : fr.tmps[52]?.getD undef = .pointer (some ⟨e, 8, none⟩) := HF.out.ev (i := 11) rfl rfl (HE.out ⟨11, .data⟩ (by simp) rfl)
            have e50 : fr.tmps[50]?.getD undef = x := HF.out.ev (i := 9) rfl rfl (HE.out ⟨9, .data⟩ (by simp) rfl)
            have hp := HE.out ⟨9, .data⟩ (by simp) rfl
            have m0 := HW.out.at 4 rfl hl0 (fun j hj => by obtain rfl : j = 3 := (by omega); exact ⟨9, rfl, hp⟩)
            obtain ⟨c8, z8⟩ := HC8.out _ _ m0
            obtain ⟨ax, cx, hx⟩ := HST.out _ _ m0
            subst hx
            exact wp_s rfl rfl (by simp [execOp, go_sem, e52, e50, c8, z8]; try rfl) ⟨_, HF.out.skip rfl rfl _, HW.out.go 4 hjl rfl hl0 (fun j hj => by obtain rfl : j = 3 := (by omega); exact ⟨9, rfl, hp⟩) (by intro a ha; match a, ha with | 0, ha => simp at ha | 1, ha => simp at ha | 2, ha => simp at ha | 3, ha => simp at ha | 4, _ => rfl) ⟨wr, m0, rfl⟩⟩
        case fin =>
          rintro listed fr w2 x hF hW hr
          have all := allDone hr hF.q.ls (by kernel_rfl)
          obtain ⟨w8, m4, rfl⟩ := hW.end 4 rfl (all _ (by decide)) (fun s hs q => by match s, hs with | s + 5, _ => exact q)
          rw [hF.full all]
          have HM := hid m4
          clear hF hr all hW m4
          simp only [List.foldl_cons, List.foldl_nil, fillF]
          go_simp
          have hfin := HFN.out _ _ HM.out
          have HFI := hid hfin
          clear hfin HM HFN HLD HST HC8 HOW
          go_wp2_with fail
          go_roundw
          case rel => exact ⟨jj + 1, x, by omega, by go_num, HFI⟩
          case measure => simp [intOf]; omega
      · obtain rfl : jj = N := by omega
        go_wp2
        go_returns
        exact ⟨e, u, _, M, b, rfl, hnw.out⟩
  · have h0 := h0 hz
    go_enter Tryz.func48, Tryz.ntmps48
    go_upto_region 3 with (first
      | (go_at_call 64; (rw [← HE0.out]); refine HT.mono ?_; rintro r w2 ⟨M, b, rfl, h1, h2, h3⟩; have H1 := hid h1; have H2 := hid h2; have H3 := hid h3; clear h1 h2 h3; obtain ⟨g, y, hg⟩ := HKL.out b; rw [show (nv kd (.slice none 0 0) (.slice none 0 0)).kd = kd from rfl, hg]; clear hg))
    go_upto_region 5 with (first
      | (go_at_call 65; refine (hid1 _).mono ?_; rintro e w' ⟨rfl, hw⟩; obtain rfl := hw.symm))
    have hb2 := HOe.out _ H3.out
    have hd2 : w2.ownsRow 0 5 1 (.slice ad dl.length cp) dl.length (bys dl) := own_only HD.out (T := fun _ => False) (.ofBelow hb2) (fun _ _ z => z)
    have hcl := HCl.out w2 hd2
    have HB2 := hid hb2
    clear hb2 hd2 H3 HCl HD HB1 HT HOe
    go_wp2_with (first
      | (go_at_call 66; refine hcl.mono ?_; rintro r w3 ⟨dk, rfl, h1, h2, h3⟩; have H4 := hid h1; have H5 := hid h2; have H6 := hid h3; have hc9 : w3.heap[e]? = _ := (h2.block e (lt_of_block H1.out)).trans H1.out; have c9 : w3.cell? ⟨e, 9, none⟩ = some (.slice none 0 0) := cell_of_row w3 e 9 _ _ _ hc9; have z9 : w3.frozen? ⟨e, 9, none⟩ = false := frozen_of_row w3 e 9 _ _ hc9; have HC9 := hid hc9; obtain ⟨dad, dcp, rfl⟩ := own_form h1; clear h1 h2 h3 hc9))
    have hn0 : NW w kd (.slice dad dl.length dcp) dl e M b 0 (.slice none 0 0) (w3.setCell ⟨e, 9, none⟩ (.slice dad dl.length dcp)) := by
      have hb3 : Below w.heap.size w w3 := HB2.out.trans (H5.out.mono HB2.out.size)
      have ho := only_c w3 e 9 (.slice dad dl.length dcp)
      have hce : CellsOnly w3 (· = e) := fun j hj => by subst hj; exact ⟨_, _, _, HC9.out, by decide⟩
      refine ⟨hb3.setCell (show w.heap.size ≤ e by have := HE0.out; omega) _, setRowB w3 e 9 _ _ _ _ HC9.out rfl, by have := HE0.out; omega, (H2.out.only (T := fun _ => False) (.ofBelow H5.out) (fun _ q => q.elim)).only ho hce, own_only H4.out ho fun k hk z => ?_, fun k hk => ?_, ⟨fun _ => 0, fun _ => 0, ⟨own_nil _ _ _, fun i hi => by omega, fun i hi => by omega, fun i j hi => by omega, fun i j hi => by omega⟩, fun j hj => by omega⟩, fun k hk => by cases hk⟩
      · obtain ⟨cur, hc⟩ := ug_typ H4.out k hk
        subst z
        rw [HC9.out] at hc
        injection hc with hc
        injection hc with _ hc
        exact absurd hc (by decide)
      · have := H6.out k hk
        have := HB2.out.size
        omega
    have HN0 := hid hn0
    clear hn0 c9 z9 hid1 hcl H1 H2 H4 H5 H6 HC9 HB2 HKL HG
    go_loopw [39] (fun i wr => ∃ j : Nat, ∃ u, j ≤ N ∧ i = .int .i64 j ∧ Hid (NW w kd (.slice dad dl.length dcp) dl e M b j u wr)) (fun i _ => N - (intOf i).toNat)
    case atStart => exact ⟨0, _, by omega, rfl, HN0⟩
    case round =>
      obtain ⟨jj, u, hi, rfl, hnw⟩ := hrel
      by_cases hlt : jj < N
      · have hlt' : (jj : Int) < N := by omega
        go_upto_region 8 with fail
        obtain ⟨qb, rq, hq, hqn⟩ := hnw.out.qs
        obtain ⟨wa, hwa⟩ : ∃ wa, wa = wr.drew := ⟨_, rfl⟩
        have hnw2 : NW w kd (.slice dad dl.length dcp) dl e M b jj u wa := by
          have h := hnw.out
          rw [hwa]
          exact ⟨h.bel.drew, h.dv, h.eb, h.tab, h.disk, h.db, ⟨qb, rq, ⟨hq.row, hq.q, hq.r, hq.iq, hq.ir⟩, hqn⟩, h.ub⟩
        have hq2 : QS wa u jj qb rq (fun _ => s0) (fun _ => q0) := by rw [hwa]; exact ⟨hq.row, hq.q, hq.r, hq.iq, hq.ir⟩
        refine wp_region_any (by kernel_rfl) ?_
        rw [show ({ wr with drawn := wr.drawn + 1 } : World) = wa from hwa.symm]
        have HOW := hid (hnw2.own3 hq2)
        have HW4 := hid (fun (w8 : World) (x : Value) (m : NM wa u jj qb e 4 x w8) => hnw2.at4 hq2 m)
        have HC8 := hid (fun (w8 : World) (x : Value) (m : NM wa u jj qb e 4 x w8) => (show w8.cell? ⟨e, 8, none⟩ = some u ∧ w8.frozen? ⟨e, 8, none⟩ = false from ⟨cell_of_row w8 e 8 _ _ _ (HW4.out w8 x m), frozen_of_row w8 e 8 _ _ (HW4.out w8 x m)⟩))
        have HST := hid (fun (w8 : World) (x : Value) (m : NM wa u jj qb e 4 x w8) => (show ∃ ad c, x = .slice ad (jj + 1) c from own_form m.1))
        have HFN := hid (fun (w8 : World) (x : Value) (m : NM wa u jj qb e 4 x w8) => hnw2.step hq2 hqn m)
        have HLD : Hid (∀ (x : Value) (listed : Array Bool) w8, VS [5, 7, 8, 9, 12] (NM wa u jj qb e) x listed w8 → listed.getD 9 false = false → w8.cell? ⟨e, 8, none⟩ = some u) := by
          rintro x listed w8 ⟨s, hs, hm⟩ h9
          have hd := hnw2.dv
          have a1 := hs 3 9 rfl
          rw [h9] at a1
          have a2 : ¬ 3 < s := by simpa using a1.symm
          have bb : ∀ w', Below wa.heap.size wa w' → w'.cell? ⟨e, 8, none⟩ = some u := fun w' hb => cell_of_row w' e 8 _ _ _ ((hb.block e (lt_of_block hd)).trans hd)
          match s, a2, hm with
          | 0, _, hm => rw [show w8 = wa from hm]; exact bb _ (Below.refl _ _)
          | 1, _, hm => rw [show w8 = nw1 wa from hm]; exact bb _ ((Below.refl _ _).alloc (Nat.le_refl _) _)
          | 2, _, hm => rw [show w8 = nw2 wa from hm]; exact bb _ (((Below.refl _ _).alloc (Nat.le_refl _) _).alloc (by simp) _)
          | 3, _, hm => rw [show w8 = nw3 wa from hm]; exact bb _ (nw3_below wa)
          | s + 4, q, _ => omega
        clear hnw2 hq2 hwa hq hnw HW4
        refine wpAny_fz (α := Value) (vtN e u wa) (fun x listed w => VS [5, 7, 8, 9, 12] (NM wa u jj qb e) x listed w) ?step ?fin u ?start
        case start => exact .start rfl
        case step =>
          rintro listed fr wr x hF hW hC i hj
          obtain ⟨hl, o, ho, he⟩ := mem_ready.1 hj
          have hjl : i < listed.size := by rw [hF.q.ls]; exact (Array.getElem?_eq_some_iff.1 ho).1
          have hl0 := getD_tf hjl hl
          clear hj
          have HF := hid hF
          have HW := hid hW
          have HE := hid he
          have HC := hid hC
          clear hF hW he hl hC
          match i, ho with
          | 0, ho =>
            obtain rfl := Option.some.inj ho
            have e6 : fr.tmps[6]?.getD undef = .pointer (some ⟨e, 0, none⟩) := HF.out.base 6 (by kernel_rfl) rfl
            exact wp_q rfl rfl (by simp [execOp, go_sem, e6]; try rfl) ⟨x, HF.out.put (by kernel_rfl) rfl rfl rfl (of_decide_eq_true rfl), HW.out.q hjl (by decide)⟩
          | 1, ho =>
            obtain rfl := Option.some.inj ho
            have e6 : fr.tmps[6]?.getD undef = .pointer (some ⟨e, 0, none⟩) := HF.out.base 6 (by kernel_rfl) rfl
            exact wp_q rfl rfl (by simp [execOp, go_sem, e6]; try rfl) ⟨x, HF.out.put (by kernel_rfl) rfl rfl rfl (of_decide_eq_true rfl), HW.out.q hjl (by decide)⟩
          | 2, ho =>
            obtain rfl := Option.some.inj ho
            have e42 : fr.tmps[42]?.getD undef = .pointer (some ⟨e, 0, none⟩) := HF.out.ev (i := 1) rfl rfl (HE.out ⟨1, .data⟩ (by simp) rfl)
            exact wp_q rfl rfl (by simp [execOp, go_sem, e42]; try rfl) ⟨x, HF.out.put (by kernel_rfl) rfl rfl rfl (of_decide_eq_true rfl), HW.out.q hjl (by decide)⟩
          | 3, ho =>
            obtain rfl := Option.some.inj ho
            have e43 : fr.tmps[43]?.getD undef = .pointer (some ⟨e, 0, none⟩) := HF.out.ev (i := 2) rfl rfl (HE.out ⟨2, .data⟩ (by simp) rfl)
            exact wp_q rfl rfl (by simp [execOp, go_sem, e43]; try rfl) ⟨x, HF.out.put (by kernel_rfl) rfl rfl rfl (of_decide_eq_true rfl), HW.out.q hjl (by decide)⟩
          | 4, ho =>
            obtain rfl := Option.some.inj ho
            have e44 : fr.tmps[44]?.getD undef = .pointer (some ⟨e, 8, none⟩) := HF.out.ev (i := 3) rfl rfl (HE.out ⟨3, .data⟩ (by simp) rfl)
            have hc := HLD.out _ _ _ HW.out (not_yet HC.out hl0 rfl ⟨4, .data⟩ (by simp) rfl rfl)
            exact wp_q rfl rfl (by simp [execOp, go_sem, e44, hc]; try rfl) ⟨x, HF.out.put (by kernel_rfl) rfl rfl rfl (of_decide_eq_true rfl), HW.out.q hjl (by decide)⟩
          | 5, ho =>
            obtain rfl := Option.some.inj ho
            have m0 : wr = wa := HW.out.at 0 rfl hl0 (fun j hj => by omega)
            subst m0
            refine wp_c0w rfl (by simp [Region.wanted]) 67 _ rfl (Tryz.call67 _ _) (k_New' _) ?_
            rintro e' w7 ⟨rfl, rfl⟩
            exact ⟨_, rfl, x, HF.out.put (by kernel_rfl) rfl rfl rfl (of_decide_eq_true rfl), HW.out.go 0 hjl rfl hl0 (fun j hj => by omega) (by intro a ha; match a, ha with | 0, _ => rfl | 1, ha => simp at ha | 2, ha => simp at ha | 3, ha => simp at ha | 4, ha => simp at ha) rfl⟩
          | 6, ho =>
            obtain rfl := Option.some.inj ho
            have e46 : fr.tmps[46]?.getD undef = .pointer (some ⟨wa.heap.size, 0, none⟩) := HF.out.ev (i := 5) rfl rfl (HE.out ⟨5, .data⟩ (by simp) rfl)
            exact wp_q rfl rfl (by simp [execOp, go_sem, e46]; try rfl) ⟨x, HF.out.put (by kernel_rfl) rfl rfl rfl (of_decide_eq_true rfl), HW.out.q hjl (by decide)⟩
          | 7, ho =>
            obtain rfl := Option.some.inj ho
            have e47 : fr.tmps[47]?.getD undef = .agg #[.pointer (some ⟨wa.heap.size, 0, none⟩), .int .u32 0, .int .u32 0, .int .u32 0, .int .u32 0, .int .u32 0, .int .u32 0, .int .u32 0] := HF.out.ev (i := 6) rfl rfl (HE.out ⟨6, .data⟩ (by simp) rfl)
            have hp := HC.out 6 _ rfl (HE.out ⟨6, .data⟩ (by simp) rfl) ⟨5, .data⟩ (by simp) rfl
            have m0 : wr = nw1 wa := HW.out.at 1 rfl hl0 (fun j hj => by obtain rfl : j = 0 := (by omega); exact ⟨5, rfl, hp⟩)
            subst m0
            exact wp_q (v := .pointer (some ⟨wa.heap.size + 1, 0, none⟩)) (w' := nw2 wa) rfl rfl (by simp [execOp, go_sem, e47, nw1, nw2]; try rfl) ⟨x, HF.out.put (by kernel_rfl) rfl rfl rfl (of_decide_eq_true rfl), HW.out.go 1 hjl rfl hl0 (fun j hj => by obtain rfl : j = 0 := (by omega); exact ⟨5, rfl, hp⟩) (by intro a ha; match a, ha with | 0, ha => simp at ha | 1, _ => rfl | 2, ha => simp at ha | 3, ha => simp at ha | 4, ha => simp at ha) rfl⟩
          | 8, ho =>
            obtain rfl := Option.some.inj ho
            have e48 : fr.tmps[48]?.getD undef = .pointer (some ⟨wa.heap.size + 1, 0, none⟩) := HF.out.ev (i := 7) rfl rfl (HE.out ⟨7, .data⟩ (by simp) rfl)
            have hp := HE.out ⟨7, .data⟩ (by simp) rfl
            have m0 : wr = nw2 wa := HW.out.at 2 rfl hl0 (fun j hj => by obtain rfl : j = 1 := (by omega); exact ⟨7, rfl, hp⟩)
            subst m0
            obtain ⟨i0, hi0, hz0, hs0, hb0⟩ := info_parts info_pdq
            exact wp_bs rfl rfl 216 231 1 _ rfl #[.pointer (some ⟨wa.heap.size + 1, 0, none⟩)] i0 _ u_spdq hi0 hz0 (by rw [hs0]; decide) (by rw [hs0]; decide) (by rw [hs0]; simp [Act.eval, e48]; kernel_rfl) ⟨x, HF.out.put (by kernel_rfl) rfl rfl (by rw [sz_nw2]; rfl) (of_decide_eq_true rfl), HW.out.go 2 hjl rfl hl0 (fun j hj => by obtain rfl : j = 1 := (by omega); exact ⟨7, rfl, hp⟩) (by intro a ha; match a, ha with | 0, ha => simp at ha | 1, ha => simp at ha | 2, _ => rfl | 3, ha => simp at ha | 4, ha => simp at ha) rfl⟩
          | 9, ho =>
            obtain rfl := Option.some.inj ho
            have e45 : fr.tmps[45]?.getD undef = u := HF.out.ev (i := 4) rfl rfl (HE.out ⟨4, .data⟩ (by simp) rfl)
            have e49 : fr.tmps[49]?.getD undef = .slice (some ⟨wa.heap.size + 2, 0, none⟩) 1 1 := HF.out.ev (i := 8) rfl rfl (HE.out ⟨8, .data⟩ (by simp) rfl)
            have hp := HE.out ⟨8, .data⟩ (by simp) rfl
            have m0 : wr = nw3 wa := HW.out.at 3 rfl hl0 (fun j hj => by obtain rfl : j = 2 := (by omega); exact ⟨8, rfl, hp⟩)
            subst m0
            obtain ⟨i0, hi0, hz0, hs0, hb0⟩ := info_parts info_pdq
            have e28' : Act.eval fr (.tmp 45) = u := by simp [Act.eval, e45]
            have e31' : Act.eval fr (.tmp 49) = .slice (some ⟨wa.heap.size + 2, 0, none⟩) 1 1 := by simp [Act.eval, e49]
            refine wpOp_step rfl fun K' hK => ?_
            refine step_append_blk _ (.tmp 45) (.tmp 49) 216 rfl 231 i0 _ 1 8 u_spdq hi0 hz0 hs0 hb0 rfl (by decide) u jj _ e28' HOW.out ⟨wa.heap.size + 2, 0, none⟩ 1 1 [.pointer (some ⟨wa.heap.size + 1, 0, none⟩)] e31' rfl ?_ (by intro v hv; simp at hv; rcases hv with rfl; rfl) (show jj + 1 ≤ 9223372036854775807 by omega) (by omega) rfl ?_
            · intro j v hv
              rw [C.addr_add, Nat.zero_add, cell_of_row _ _ j _ _ _ (nw3_lit wa)]
              simpa using hv
            intro v' w8 hown hgrow hblk
            have hsw := HF.out.swapD (vt' := vtN e u wa v') (by kernel_rfl) (fun d => ?_)
            · exact hK _ _ ⟨v', hsw.put (by kernel_rfl) rfl rfl rfl (of_decide_eq_true rfl), HW.out.go 3 hjl rfl hl0 (fun j hj => by obtain rfl : j = 2 := (by omega); exact ⟨8, rfl, hp⟩) (by intro a ha; match a, ha with | 0, ha => simp at ha | 1, ha => simp at ha | 2, ha => simp at ha | 3, _ => rfl | 4, ha => simp at ha) ⟨hown, grown_ug hgrow, hblk⟩⟩
            · by_cases z0 : d = 50
              · subst z0; exact .inr ⟨9, _, rfl, rfl, hl0⟩
              · left; simp only [vtN, if_neg z0]
          | 10, ho =>
            obtain rfl := Option.some.inj ho
            have e41 : fr.tmps[41]?.getD undef = .pointer (some ⟨e, 0, none⟩) := HF.out.ev (i := 0) rfl rfl (HE.out ⟨0, .data⟩ (by simp) rfl)
            exact wp_q rfl rfl (by simp [execOp, go_sem, e41]; try rfl) ⟨x, HF.out.put (by kernel_rfl) rfl rfl rfl (of_decide_eq_true rfl), HW.out.q hjl (by decide)⟩
          | 11, ho =>
            obtain rfl := Option.some.inj ho
            have e51 : fr.tmps[51]?.getD undef = .pointer (some ⟨e, 0, none⟩) := HF.out.ev (i := 10) rfl rfl (HE.out ⟨10, .data⟩ (by simp) rfl)
            exact wp_q rfl rfl (by simp [execOp, go_sem, e51]; try rfl) ⟨x, HF.out.put (by kernel_rfl) rfl rfl rfl (of_decide_eq_true rfl), HW.out.q hjl (by decide)⟩
          | 12, ho =>
            obtain rfl := Option.some.inj ho
            have e52 : fr.tmps[52]?.getD undef = .pointer (some ⟨e, 8, none⟩) := HF.out.ev (i := 11) rfl rfl (HE.out ⟨11, .data⟩ (by simp) rfl)
            have e50 : fr.tmps[50]?.getD undef = x := HF.out.ev (i := 9) rfl rfl (HE.out ⟨9, .data⟩ (by simp) rfl)
            have hp := HE.out ⟨9, .data⟩ (by simp) rfl
            have m0 := HW.out.at 4 rfl hl0 (fun j hj => by obtain rfl : j = 3 := (by omega); exact ⟨9, rfl, hp⟩)
            obtain ⟨c8, z8⟩ := HC8.out _ _ m0
            obtain ⟨ax, cx, hx⟩ := HST.out _ _ m0
            subst hx
            exact wp_s rfl rfl (by simp [execOp, go_sem, e52, e50, c8, z8]; try rfl) ⟨_, HF.out.skip rfl rfl _, HW.out.go 4 hjl rfl hl0 (fun j hj => by obtain rfl : j = 3 := (by omega); exact ⟨9, rfl, hp⟩) (by intro a ha; match a, ha with | 0, ha => simp at ha | 1, ha => simp at ha | 2, ha => simp at ha | 3, ha => simp at ha | 4, _ => rfl) ⟨wr, m0, rfl⟩⟩
        case fin =>
          rintro listed fr w2 x hF hW hr
          have all := allDone hr hF.q.ls (by kernel_rfl)
          obtain ⟨w8, m4, rfl⟩ := hW.end 4 rfl (all _ (by decide)) (fun s hs q => by match s, hs with | s + 5, _ => exact q)
          rw [hF.full all]
          have HM := hid m4
          clear hF hr all hW m4
          simp only [List.foldl_cons, List.foldl_nil, fillF]
          go_simp
          have hfin := HFN.out _ _ HM.out
          have HFI := hid hfin
          clear hfin HM HFN HLD HST HC8 HOW
          go_wp2_with fail
          go_roundw
          case rel => exact ⟨jj + 1, x, by omega, by go_num, HFI⟩
          case measure => simp [intOf]; omega
      · obtain rfl : jj = N := by omega
        go_wp2
        go_returns
        exact ⟨e, u, _, M, b, rfl, hnw.out⟩
end Go.Proofs.YtjkihlpckgaggaaGreat
namespace Go.Proofs.YtjkihlpckgaggaaGreat
open Go.RowKit
open C (Only hid Still ret_bool ret_int)
set_option linter.unusedVariables false
set_option maxRecDepth 100000

/-- where a board's parts lie, how they stand -/
structure BX where
  bp : Nat
  pu : Nat
  pi : Nat
  ps : Nat
  pb : Nat
  g : Nat
  gc : Nat
  q : Nat
  kc : Nat
  mm : Nat
  n : Nat
  eng : Value
  pv : Nat → Nat
  dv : Nat → DV
  U : L.UV
  I : L.IV
  V : Nat → P.Sv
  E : Nat → Option Obj
abbrev ptr (p : Nat) : Value := .pointer (some ⟨p, 0, none⟩)
def bdc (pu pi ps : Nat) (eng : Value) (mm : Nat) (u v : Value) : Array Value := #[ptr pu, ptr pi, ptr ps, eng, .map (some mm), u, v]
abbrev pt0 (pu : Nat) : Value := .iface 74 (.agg #[ptr pu])
abbrev ptD (d : Nat) : Value := .iface 180 (.agg #[ptr d])
/-- the ports -/
def prs (pu : Nat) (pv : Nat → Nat) (n : Nat) : List Value := pt0 pu :: (List.range n).map fun i => ptD (pv i)
theorem prs_len (pu : Nat) (pv : Nat → Nat) (n : Nat) : (prs pu pv n).length = n + 1 := by simp [prs]
theorem prs_0 (pu : Nat) (pv : Nat → Nat) (n : Nat) : (prs pu pv n)[0]? = some (pt0 pu) := rfl
theorem prs_at (pu : Nat) (pv : Nat → Nat) (n i : Nat) (h : i < n) : (prs pu pv n)[i + 1]? = some (ptD (pv i)) := by simp [prs, h]
theorem prs_s (pu : Nat) (pv : Nat → Nat) (n : Nat) : prs pu pv n ++ [ptD (pv n)] = prs pu pv (n + 1) := by simp [prs, List.range_succ]
/-- the places -/
def plc (pu pi ps kc : Nat) : Array Value := #[.int .u64 268435456, .int .u64 8, pt0 pu, .int .u64 268439552, .int .u64 4096, .iface 184 (.agg #[ptr kc]), .int .u64 201326592, .int .u64 16384, .iface 186 (.agg #[ptr pi]), .int .u64 805306368, .int .u64 32768, .iface 76 (ptr ps)]
structure Bd (W w : World) (c : Nat → Nat) (x : BX) : Prop where
  bel : Below W.heap.size W w
  top : w.heap[x.bp]? = some (.cells (bdc x.pu x.pi x.ps x.eng x.mm (.slice (some ⟨x.g, 0, none⟩) (x.n + 1) x.gc) (.slice (some ⟨x.q, 0, none⟩) 4 4)) 81 (0, 0))
  sp : w.heap[x.ps]? = some (.cells #[ptr x.pb, .int .i64 (-1)] 123 (0, 0))
  pr : w.ownsRow 0 83 1 (.slice (some ⟨x.g, 0, none⟩) (x.n + 1) x.gc) (x.n + 1) (prs x.pu x.pv x.n)
  pl : w.heap[x.q]? = some (.cells (plc x.pu x.pi x.ps x.kc) 145 (0, 0))
  u : ∃ F, L.Ux w F x.pu x.U ∧ ∀ k, F k → c k = 1 ∧ W.heap.size ≤ k
  i : ∃ F, L.Ix w F x.pi x.I ∧ ∀ k, F k → c k = 2 ∧ W.heap.size ≤ k
  b : ∃ F, P.Bq w F x.pb x.n (P.fB x.V) ∧ ∀ k, F k → c k = 3 ∧ W.heap.size ≤ k
  vok : P.VOk x.V
  d : ∀ j, j < x.n → Dv w (x.pv j) (x.dv j) ∧ c (x.pv j) = 4 ∧ W.heap.size ≤ x.pv j
  n8 : x.n ≤ 8
  c0 : c x.bp = 0 ∧ c x.ps = 0 ∧ c x.g = 0 ∧ c x.q = 0
  w0 : W.heap.size ≤ x.bp ∧ W.heap.size ≤ x.ps ∧ W.heap.size ≤ x.g ∧ W.heap.size ≤ x.q
  ee : ∀ k o, x.E k = some o → w.heap[k]? = some o ∧ c k = 0 ∧ k < w.heap.size
  k : (∃ hv, w.heap[x.kc]? = some (.cells #[.int .u64 hv] 238 (0, 0))) ∧ c x.kc = 5 ∧ W.heap.size ≤ x.kc
/-- a board stands so, whatever its colours -/
def Bo (W w : World) (x : BX) : Prop := ∃ c, Bd W w c x
section
variable {W w w' : World} {c : Nat → Nat} {x : BX}
theorem Bd.lt (h : Bd W w c x) : x.bp < w.heap.size ∧ x.ps < w.heap.size ∧ x.g < w.heap.size ∧ x.q < w.heap.size := by
  refine ⟨lt_of_block h.top, lt_of_block h.sp, ?_, lt_of_block h.pl⟩
  rcases h.pr.2 with ⟨z, _⟩ | ⟨g, cap, cur, h1, h2, h3, h4⟩
  · cases z
  · cases h1; exact lt_of_block h3
theorem Bd.below (h : Bd W w c x) (hb : Below w.heap.size w w') : Bd W w' c x := by
  obtain ⟨l1, l2, l3, l4⟩ := h.lt
  obtain ⟨Fu, u1, u2⟩ := h.u
  obtain ⟨Fi, i1, i2⟩ := h.i
  obtain ⟨Fb, b1, b2⟩ := h.b
  exact ⟨h.bel.trans (hb.mono h.bel.size), (hb.block _ l1).trans h.top, (hb.block _ l2).trans h.sp, own_only h.pr (T := fun _ => False) (.ofBelow hb) (fun _ _ z => z), (hb.block _ l4).trans h.pl,
    ⟨Fu, u1.only (T := fun _ => False) (.ofBelow hb) (fun _ _ z => z), u2⟩, ⟨Fi, i1.only (T := fun _ => False) (.ofBelow hb) (fun _ _ z => z), i2⟩, ⟨Fb, b1.only (T := fun _ => False) (.ofBelow hb) (fun _ _ z => z), b2⟩, h.vok, fun j hj => ⟨(h.d j hj).1.below hb, (h.d j hj).2⟩, h.n8, h.c0, h.w0, fun k o hk => by obtain ⟨e1, e2, e3⟩ := h.ee k o hk; exact ⟨(hb.block _ e3).trans e1, e2, Nat.lt_of_lt_of_le e3 hb.size⟩, by obtain ⟨⟨hv, e⟩, k2, k3⟩ := h.k; exact ⟨⟨hv, (hb.block _ (lt_of_block e)).trans e⟩, k2, k3⟩⟩
theorem Bo.below (h : Bo W w x) (hb : Below w.heap.size w w') : Bo W w' x := by
  obtain ⟨c, h⟩ := h
  exact ⟨c, h.below hb⟩
theorem Bo.bel (h : Bo W w x) : Below W.heap.size W w := by
  obtain ⟨c, h⟩ := h
  exact h.bel
theorem ux_cells {F : Nat → Prop} {p : Nat} {v : L.UV} (h : L.Ux w F p v) : CellsOnly w F := by
  obtain ⟨a, b, h1, -, hF⟩ := h
  intro k hk
  rcases (hF k).1 hk with rfl | z | z
  · exact ⟨_, _, _, h1.top, by decide⟩
  · obtain ⟨cur, hc⟩ := own_typ h1.q z; exact ⟨_, _, _, hc, by decide⟩
  · obtain ⟨cur, hc⟩ := own_typ h1.s z; exact ⟨_, _, _, hc, by decide⟩
theorem ix_cells {F : Nat → Prop} {p : Nat} {v : L.IV} (h : L.Ix w F p v) : CellsOnly w F := by
  obtain ⟨g, h1, -, hF⟩ := h
  intro k hk
  rcases (hF k).1 hk with rfl | rfl
  · exact ⟨_, _, _, h1.top, by decide⟩
  · exact ⟨_, _, _, h1.tab, by decide⟩
theorem Bd.turnU (h : Bd W w c x) {F F' : Nat → Prop} (hF : L.Ux w F x.pu x.U) (hc : ∀ k, F k → c k = 1 ∧ W.heap.size ≤ k) {U' : L.UV} (hu : L.Ux w' F' x.pu U') (ht : L.Tn w w' F F') : Bd W w' (fun k => if k < w.heap.size then c k else 1) { x with U := U' } := by
  obtain ⟨l1, l2, l3, l4⟩ := h.lt
  obtain ⟨ho, hn⟩ := ht
  obtain ⟨Fi, i1, i2⟩ := h.i
  obtain ⟨Fb, b1, b2⟩ := h.b
  obtain ⟨z1, z2, z3, z4⟩ := h.c0
  have ne : ∀ k m, c k = m → m ≠ 1 → ¬ F k := fun k m e q f => q (e.symm.trans (hc k f).1)
  have hs := h.bel.size
  have cc : ∀ k, k < w.heap.size → (if k < w.heap.size then c k else 1) = c k := fun k hk => if_pos hk
  refine ⟨h.bel.trans (ho.below _ hs fun k hk => (hc k hk).2), ho.old h.top (ne _ _ z1 (by decide)), ho.old h.sp (ne _ _ z2 (by decide)), own_only h.pr ho (fun k hk => ?_), ho.old h.pl (ne _ _ z4 (by decide)),
    ⟨F', hu, fun k hk => ?_⟩, ⟨Fi, i1.only ho (fun k hk => ne _ _ (i2 k hk).1 (by decide)), fun k hk => ⟨(cc k (i1.lt hk)).trans (i2 k hk).1, (i2 k hk).2⟩⟩, ⟨Fb, b1.only ho (fun k hk => ne _ _ (b2 k hk).1 (by decide)), fun k hk => ⟨(cc k (b1.lt hk)).trans (b2 k hk).1, (b2 k hk).2⟩⟩, h.vok, fun j hj => ?_, h.n8, ⟨(cc _ l1).trans z1, (cc _ l2).trans z2, (cc _ l3).trans z3, (cc _ l4).trans z4⟩, h.w0, fun k o hk => by obtain ⟨e1, e2, e3⟩ := h.ee k o hk; exact ⟨ho.old e1 (ne _ _ e2 (by decide)), (cc _ e3).trans e2, Nat.lt_of_lt_of_le e3 ho.size⟩, by obtain ⟨⟨hv, e⟩, k2, k3⟩ := h.k; exact ⟨⟨hv, ho.old e (ne _ _ k2 (by decide))⟩, (cc _ (lt_of_block e)).trans k2, k3⟩⟩
  · obtain rfl : x.g = k := by simpa [Ug, Value.ownBlock] using hk
    exact ne _ _ z3 (by decide)
  · rcases hn k hk with z | z
    · have hl := hF.lt z
      exact ⟨(cc k hl).trans (hc k z).1, (hc k z).2⟩
    · exact ⟨if_neg (by omega), by omega⟩
  · obtain ⟨d1, d2, d3⟩ := h.d j hj
    exact ⟨d1.only ho (ne _ _ d2 (by decide)) (ux_cells hF), (cc _ d1.lt).trans d2, d3⟩
theorem Bd.turnI (h : Bd W w c x) {F : Nat → Prop} (hF : L.Ix w F x.pi x.I) (hc : ∀ k, F k → c k = 2 ∧ W.heap.size ≤ k) {I' : L.IV} (hu : L.Ix w' F x.pi I') (ho : Only F w w') : Bd W w' c { x with I := I' } := by
  obtain ⟨Fu, u1, u2⟩ := h.u
  obtain ⟨Fb, b1, b2⟩ := h.b
  obtain ⟨z1, z2, z3, z4⟩ := h.c0
  have ne : ∀ k m, c k = m → m ≠ 2 → ¬ F k := fun k m e q f => q (e.symm.trans (hc k f).1)
  refine ⟨h.bel.trans (ho.below _ h.bel.size fun k hk => (hc k hk).2), ho.old h.top (ne _ _ z1 (by decide)), ho.old h.sp (ne _ _ z2 (by decide)), own_only h.pr ho (fun k hk => ?_), ho.old h.pl (ne _ _ z4 (by decide)),
    ⟨Fu, u1.only ho (fun k hk => ne _ _ (u2 k hk).1 (by decide)), u2⟩, ⟨F, hu, hc⟩, ⟨Fb, b1.only ho (fun k hk => ne _ _ (b2 k hk).1 (by decide)), b2⟩, h.vok, fun j hj => ?_, h.n8, h.c0, h.w0, fun k o hk => by obtain ⟨e1, e2, e3⟩ := h.ee k o hk; exact ⟨ho.old e1 (ne _ _ e2 (by decide)), e2, Nat.lt_of_lt_of_le e3 ho.size⟩, by obtain ⟨⟨hv, e⟩, k2, k3⟩ := h.k; exact ⟨⟨hv, ho.old e (ne _ _ k2 (by decide))⟩, k2, k3⟩⟩
  · obtain rfl : x.g = k := by simpa [Ug, Value.ownBlock] using hk
    exact ne _ _ z3 (by decide)
  · obtain ⟨d1, d2, d3⟩ := h.d j hj
    exact ⟨d1.only ho (ne _ _ d2 (by decide)) (ix_cells hF), d2, d3⟩
theorem b_In (h : Bo W w x) (v : Int) (hv : 0 ≤ v ∧ v < 256) : Calls Tryz.prog 213 #[ptr x.pu, .int .u8 v] w fun r w' => r = .returned (.tuple #[]) ∧ Bo W w' { x with U := x.U.inn v } := by
  obtain ⟨c, h⟩ := h
  obtain ⟨F, u1, u2⟩ := h.u
  refine (L.u_In w F x.pu x.U v u1 hv).mono ?_
  rintro r w' ⟨rfl, F', k1, k2⟩
  exact ⟨rfl, _, h.turnU u1 u2 k1 k2⟩
theorem b_uRead (h : Bo W w x) (o : Int) (o0 : 0 ≤ o) (o1 : o < 18446744073709551616) : Calls Tryz.prog 214 #[ptr x.pu, .int .u64 o] w fun r w' => r = .returned (.int .u8 (x.U.rd o).1) ∧ Bo W w' { x with U := (x.U.rd o).2 } := by
  obtain ⟨c, h⟩ := h
  obtain ⟨F, u1, u2⟩ := h.u
  refine (L.u_Read w F x.pu x.U o u1 o0 o1).mono ?_
  rintro r w' ⟨rfl, F', k1, k2⟩
  exact ⟨rfl, _, h.turnU u1 u2 k1 k2⟩
theorem b_uIrq (h : Bo W w x) : Calls Tryz.prog 53 #[ptr x.pu] w fun r w' => r = .returned (.bool (x.U.cau != 1)) ∧ w' = w := by
  obtain ⟨c, h⟩ := h
  obtain ⟨F, u1, u2⟩ := h.u
  exact L.u_Irq w F x.pu x.U u1
theorem b_Level (h : Bo W w x) (s : Int) (s0 : -9223372036854775808 ≤ s) (s1 : s ≤ 9223372036854775807) (t : Bool) : Calls Tryz.prog 41 #[ptr x.pi, .int .i64 s, .bool t] w fun r w' => r = .returned (.tuple #[]) ∧ Bo W w' { x with I := x.I.lev s t } := by
  obtain ⟨c, h⟩ := h
  obtain ⟨F, u1, u2⟩ := h.i
  refine (L.i_Level w F x.pi x.I u1 s t s0 s1).mono ?_
  rintro r w' ⟨rfl, k1, k2⟩
  exact ⟨rfl, c, h.turnI u1 u2 k1 k2⟩
theorem Bo.lb (h : Bo W w x) : P.LB W w x.pb x.n x.V := by
  obtain ⟨c, h⟩ := h
  obtain ⟨F, u1, u2⟩ := h.b
  exact ⟨F, u1, h.vok, fun k hk => (u2 k hk).2, h.bel⟩
theorem b_Irq (h : Bo W w x) (j : Nat) (hj : j < x.n) : Calls Tryz.prog 289 #[ptr (x.pv j)] w fun r w' => r = .returned (.bool ((x.dv j).it != 0)) ∧ w' = w := by
  obtain ⟨c, h⟩ := h
  have c7 := (h.d j hj).1.c7
  clear h
  unfold ptr
  go_enter Tryz.func289, Tryz.ntmps289
  go_wp2
  go_ret
  exact ⟨rfl, rfl⟩
theorem s_irq (h : Bo W w x) : Calls Tryz.prog 42 #[.agg #[ptr x.pu]] w fun r w' => r = .returned (.bool (x.U.cau != 1)) ∧ Bo W w' x := by
  have HI := hid (b_uIrq (h.below ((Below.refl w.heap.size w).alloc (Nat.le_refl _) (.cells #[ptr x.pu] 74))))
  have HB := hid (h.below ((Below.refl w.heap.size w).alloc (Nat.le_refl _) (.cells #[ptr x.pu] 74)))
  have hc : (w.alloc (.cells #[ptr x.pu] 74)).cell? ⟨w.heap.size, 0, none⟩ = some (ptr x.pu) := cell_of_row _ _ 0 _ _ _ (heap_alloc_new w _)
  clear h
  go_enter Tryz.func42, Tryz.ntmps42
  go_wp2_with (go_at_call 53; refine HI.out.mono ?_; rintro r w1 ⟨rfl, k⟩; obtain rfl := k.symm)
  go_ret
  exact ⟨rfl, HB.out⟩
theorem v_irq (h : Bo W w x) (j : Nat) (hj : j < x.n) : Calls Tryz.prog 285 #[.agg #[ptr (x.pv j)]] w fun r w' => r = .returned (.bool ((x.dv j).it != 0)) ∧ Bo W w' x := by
  have HI := hid (b_Irq (h.below ((Below.refl w.heap.size w).alloc (Nat.le_refl _) (.cells #[ptr (x.pv j)] 180))) j hj)
  have HB := hid (h.below ((Below.refl w.heap.size w).alloc (Nat.le_refl _) (.cells #[ptr (x.pv j)] 180)))
  have hc : (w.alloc (.cells #[ptr (x.pv j)] 180)).cell? ⟨w.heap.size, 0, none⟩ = some (ptr (x.pv j)) := cell_of_row _ _ 0 _ _ _ (heap_alloc_new w _)
  clear h
  generalize x.pv j = e at *
  generalize ((x.dv j).it != 0) = bb at *
  go_enter Tryz.func285, Tryz.ntmps285
  go_wp2_with (go_at_call 289; refine HI.out.mono ?_; rintro r w1 ⟨rfl, k⟩; obtain rfl := k.symm)
  go_ret
  exact ⟨rfl, HB.out⟩
end
end Go.Proofs.YtjkihlpckgaggaaGreat
namespace Go.Proofs.YtjkihlpckgaggaaGreat
open Go.RowKit
open C (Only hid Still ret_bool ret_int)
set_option linter.unusedVariables false
set_option maxRecDepth 100000

theorem wp_g1 {P : Program} {ops : Array Oper} {Q : Exit → Act → World → Prop} {i : Nat} {o : Oper} {K : Act → World → Prop} {a : Act} {w : World} (ho : ops[i]? = some o) (hw : Region.wanted o (yielded ops a.tmps) = true) (f : FuncId) (x : Operand) (ts : Array TypeId) (hop : o.op = .call { callee := .value (.func f), args := #[x], argTypes := ts }) (vx : Value) (hx : a.eval x = vx) (hnf : (callFunc f #[vx]).run P w = .ok (.enter f #[vx]) w) {R : Ending → World → Prop} (hc : Calls P f #[vx] w R)
    (h : ∀ e w', R e w' → ∃ v, e = .returned v ∧ K (a.put o.dst v) w') : wpOp P ops Q i K a w := by
  refine wpOp_step ho fun K' hK => ?_
  rw [if_pos hw]
  have he : (execOp a.eval o).run P w = .ok (.enter f #[vx]) w := by
    have hf : a.eval (.func f) = .func (.func f) #[] #[] := rfl
    simp [execOp, hop, resolve, invoke, Deferred.ofValue, hf, hx, hnf]
  unfold Oper.wp
  rw [he, Oper.upon_enter]
  refine hc.mono fun e w' hR => ?_
  obtain ⟨v, rfl, hk⟩ := h e w' hR
  exact hK _ _ hk
theorem wp_g2 {P : Program} {ops : Array Oper} {Q : Exit → Act → World → Prop} {i : Nat} {o : Oper} {K : Act → World → Prop} {a : Act} {w : World} (ho : ops[i]? = some o) (hw : Region.wanted o (yielded ops a.tmps) = true) (f : FuncId) (x y : Operand) (ts : Array TypeId) (hop : o.op = .call { callee := .value (.func f), args := #[x, y], argTypes := ts }) (vx vy : Value) (hx : a.eval x = vx) (hy : a.eval y = vy) (hnf : (callFunc f #[vx, vy]).run P w = .ok (.enter f #[vx, vy]) w) {R : Ending → World → Prop} (hc : Calls P f #[vx, vy] w R)
    (h : ∀ e w', R e w' → ∃ v, e = .returned v ∧ K (a.put o.dst v) w') : wpOp P ops Q i K a w := by
  refine wpOp_step ho fun K' hK => ?_
  rw [if_pos hw]
  have he : (execOp a.eval o).run P w = .ok (.enter f #[vx, vy]) w := by
    have hf : a.eval (.func f) = .func (.func f) #[] #[] := rfl
    simp [execOp, hop, resolve, invoke, Deferred.ofValue, hf, hx, hy, hnf]
  unfold Oper.wp
  rw [he, Oper.upon_enter]
  refine hc.mono fun e w' hR => ?_
  obtain ⟨v, rfl, hk⟩ := h e w' hR
  exact hK _ _ hk
theorem wp_g3 {P : Program} {ops : Array Oper} {Q : Exit → Act → World → Prop} {i : Nat} {o : Oper} {K : Act → World → Prop} {a : Act} {w : World} (ho : ops[i]? = some o) (hw : Region.wanted o (yielded ops a.tmps) = true) (f : FuncId) (x y z : Operand) (ts : Array TypeId) (hop : o.op = .call { callee := .value (.func f), args := #[x, y, z], argTypes := ts }) (vx vy vz : Value) (hx : a.eval x = vx) (hy : a.eval y = vy) (hz : a.eval z = vz) (hnf : (callFunc f #[vx, vy, vz]).run P w = .ok (.enter f #[vx, vy, vz]) w) {R : Ending → World → Prop} (hc : Calls P f #[vx, vy, vz] w R)
    (h : ∀ e w', R e w' → ∃ v, e = .returned v ∧ K (a.put o.dst v) w') : wpOp P ops Q i K a w := by
  refine wpOp_step ho fun K' hK => ?_
  rw [if_pos hw]
  have he : (execOp a.eval o).run P w = .ok (.enter f #[vx, vy, vz]) w := by
    have hf : a.eval (.func f) = .func (.func f) #[] #[] := rfl
    simp [execOp, hop, resolve, invoke, Deferred.ofValue, hf, hx, hy, hz, hnf]
  unfold Oper.wp
  rw [he, Oper.upon_enter]
  refine hc.mono fun e w' hR => ?_
  obtain ⟨v, rfl, hk⟩ := h e w' hR
  exact hK _ _ hk
theorem wp_g4 {P : Program} {ops : Array Oper} {Q : Exit → Act → World → Prop} {i : Nat} {o : Oper} {K : Act → World → Prop} {a : Act} {w : World} (ho : ops[i]? = some o) (hw : Region.wanted o (yielded ops a.tmps) = true) (f : FuncId) (x y z u : Operand) (ts : Array TypeId) (hop : o.op = .call { callee := .value (.func f), args := #[x, y, z, u], argTypes := ts }) (vx vy vz vu : Value) (hx : a.eval x = vx) (hy : a.eval y = vy) (hz : a.eval z = vz) (hu : a.eval u = vu) (hnf : (callFunc f #[vx, vy, vz, vu]).run P w = .ok (.enter f #[vx, vy, vz, vu]) w) {R : Ending → World → Prop} (hc : Calls P f #[vx, vy, vz, vu] w R)
    (h : ∀ e w', R e w' → ∃ v, e = .returned v ∧ K (a.put o.dst v) w') : wpOp P ops Q i K a w := by
  refine wpOp_step ho fun K' hK => ?_
  rw [if_pos hw]
  have he : (execOp a.eval o).run P w = .ok (.enter f #[vx, vy, vz, vu]) w := by
    have hf : a.eval (.func f) = .func (.func f) #[] #[] := rfl
    simp [execOp, hop, resolve, invoke, Deferred.ofValue, hf, hx, hy, hz, hu, hnf]
  unfold Oper.wp
  rw [he, Oper.upon_enter]
  refine hc.mono fun e w' hR => ?_
  obtain ⟨v, rfl, hk⟩ := h e w' hR
  exact hK _ _ hk
theorem wp_gi0 {P : Program} {ops : Array Oper} {Q : Exit → Act → World → Prop} {i : Nat} {o : Oper} {K : Act → World → Prop} {a : Act} {w : World} (ho : ops[i]? = some o) (hw : Region.wanted o (yielded ops a.tmps) = true) (nm : String) (g : Value) (x : Operand) (ts : Array TypeId) (hop : o.op = .call { callee := .invoke x nm, args := #[], argTypes := ts }) (hx : a.eval x = g) (f : FuncId) (rc : Value)
    (hr : (callMethod g nm #[]).run P w = .ok (.enter f #[rc]) w) {R : Ending → World → Prop} (hc : Calls P f #[rc] w R) (h : ∀ e w', R e w' → ∃ v, e = .returned v ∧ K (a.put o.dst v) w') : wpOp P ops Q i K a w := by
  refine wpOp_step ho fun K' hK => ?_
  rw [if_pos hw]
  unfold Oper.wp
  have he : (execOp a.eval o).run P w = .ok (.enter f #[rc]) w := by
    simp [execOp, hop, resolve, invoke, hx, hr]
  rw [he, Oper.upon_enter]
  refine hc.mono fun e w' hR => ?_
  obtain ⟨v, rfl, hk⟩ := h e w' hR
  exact hK _ _ hk
theorem cm_sirq (p : Nat) (w : World) : (callMethod (pt0 p) "citadel/board.irq" #[]).run Tryz.prog w = .ok (.enter 42 #[.agg #[ptr p]]) w := by kernel_rfl
theorem cm_virq (p : Nat) (w : World) : (callMethod (ptD p) "citadel/board.irq" #[]).run Tryz.prog w = .ok (.enter 285 #[.agg #[ptr p]]) w := by kernel_rfl
section
variable {W w : World} {x : BX}
theorem Bo.cs (h : Bo W w x) : w.cell? ⟨x.bp, 0, none⟩ = some (ptr x.pu) ∧ w.cell? ⟨x.bp, 1, none⟩ = some (ptr x.pi) ∧ w.cell? ⟨x.bp, 2, none⟩ = some (ptr x.ps) ∧ w.cell? ⟨x.bp, 3, none⟩ = some x.eng ∧ w.cell? ⟨x.bp, 4, none⟩ = some (.map (some x.mm)) ∧ w.cell? ⟨x.bp, 5, none⟩ = some (.slice (some ⟨x.g, 0, none⟩) (x.n + 1) x.gc) ∧ w.cell? ⟨x.bp, 6, none⟩ = some (.slice (some ⟨x.q, 0, none⟩) 4 4) := by
  obtain ⟨c, h⟩ := h
  exact ⟨cell_of_row w _ 0 _ _ _ h.top, cell_of_row w _ 1 _ _ _ h.top, cell_of_row w _ 2 _ _ _ h.top, cell_of_row w _ 3 _ _ _ h.top, cell_of_row w _ 4 _ _ _ h.top, cell_of_row w _ 5 _ _ _ h.top, cell_of_row w _ 6 _ _ _ h.top⟩
theorem Bo.sp (h : Bo W w x) : w.cell? ⟨x.ps, 0, none⟩ = some (ptr x.pb) ∧ w.cell? ⟨x.ps, 1, none⟩ = some (.int .i64 (-1)) := by
  obtain ⟨c, h⟩ := h
  exact ⟨cell_of_row w _ 0 _ _ _ h.sp, cell_of_row w _ 1 _ _ _ h.sp⟩
theorem Bo.port (h : Bo W w x) (j : Nat) (hj : j < x.n) : w.cell? ⟨x.g, j + 1, none⟩ = some (ptD (x.pv j)) := by
  obtain ⟨c, h⟩ := h
  rw [h.pr.cellAt (j + 1) (by omega)]
  exact prs_at x.pu x.pv x.n j hj
theorem Bo.port0 (h : Bo W w x) : w.cell? ⟨x.g, 0, none⟩ = some (pt0 x.pu) := by
  obtain ⟨c, h⟩ := h
  rw [h.pr.cellAt 0 (by omega)]
  rfl
theorem Bo.n8 (h : Bo W w x) : x.n ≤ 8 := by
  obtain ⟨c, h⟩ := h
  exact h.n8
theorem Bo.gc (h : Bo W w x) : x.n + 1 ≤ x.gc ∧ x.gc ≤ 9223372036854775807 := by
  obtain ⟨c, h⟩ := h
  rcases h.pr.2 with ⟨z, _⟩ | ⟨g, cap, cur, h1, h2, h3, h4, h5, h6, h7⟩
  · cases z
  · cases h1; exact ⟨h4, by simpa [maxLen] using h5⟩
end
/-- the levels behind a call -/
def lvI (x : BX) : Nat → L.IV
  | 0 => x.I.lev 1 (x.U.cau != 1)
  | i + 1 => (lvI x i).lev (8 + (i : Int)) ((x.dv i).it != 0)
def BX.at (x : BX) (I : L.IV) : BX := { x with I := I }
/-- ahead of the call of Level, behind it -/
def MLv (W : World) (x y : BX) (m k : Nat) (_ : Unit) (w : World) : Prop := if k < m then Bo W w x else Bo W w y
theorem MLv.lt {W w : World} {x y : BX} {m k : Nat} (h : MLv W x y m k () w) (hk : k < m) : Bo W w x := by unfold MLv at h; rwa [if_pos hk] at h
theorem MLv.ge {W w : World} {x y : BX} {m k : Nat} (h : MLv W x y m k () w) (hk : m ≤ k) : Bo W w y := by unfold MLv at h; rwa [if_neg (by omega)] at h
theorem MLv.mk0 {W w : World} {x y : BX} {m k : Nat} (h : Bo W w x) (hk : k < m) : MLv W x y m k () w := by unfold MLv; rwa [if_pos hk]
theorem MLv.mk1 {W w : World} {x y : BX} {m k : Nat} (h : Bo W w y) (hk : m ≤ k) : MLv W x y m k () w := by unfold MLv; rwa [if_neg (by omega)]
theorem g_slotPort (w : World) (j : Nat) (h : j < 8) : Calls Tryz.prog 40 #[.int .i64 (j : Int)] w fun r w' => r = .returned (.int .i64 ((j + 1 : Nat) : Int)) ∧ w' = w := by
  have e1 : IntKind.i64.wrap (1 + (j : Int)) = ((j + 1 : Nat) : Int) := by rw [IntKind.wrap_i64]; omega
  go_enter Tryz.func40, Tryz.ntmps40
  go_wp2
  go_ret
  exact ⟨rfl, rfl⟩
set_option maxHeartbeats 4000000 in
theorem b_level (W w : World) (X : BX) (h : Bo W w X) : Calls Tryz.prog 25 #[ptr X.bp] w fun r w' => r = .returned (.tuple #[]) ∧ Bo W w' (X.at (lvI X X.n)) := by
  have HH := hid h
  have HN := hid h.n8
  obtain ⟨bp, hbp⟩ : ∃ bp, bp = X.bp := ⟨_, rfl⟩
  have HP := hid hbp
  rw [← hbp]
  clear h
  unfold ptr
  go_enter Tryz.func25, Tryz.ntmps25
  go_upto_region 0 with fail
  obtain ⟨wa, hwa⟩ : ∃ wa, wa = w.drew := ⟨_, rfl⟩
  have HS : Hid (MLv W X (X.at (lvI X 0)) 2 0 () wa) := by rw [hwa]; exact MLv.mk0 (HH.out.below ((Below.refl _ _).drew)) (by decide)
  have HLD : Hid (∀ (y : Unit) (listed : Array Bool) w8, VS [8, 9] (MLv W X (X.at (lvI X 0)) 2) y listed w8 → w8.cell? ⟨bp, 0, none⟩ = some (ptr X.pu) ∧ w8.cell? ⟨bp, 1, none⟩ = some (ptr X.pi)) := by
    rintro y listed w8 ⟨t, ht, hm⟩
    rw [HP.out]
    rcases Nat.lt_or_ge t 2 with q | q
    · exact ⟨(hm.lt q).cs.1, (hm.lt q).cs.2.1⟩
    · exact ⟨(hm.ge q).cs.1, (hm.ge q).cs.2.1⟩
  refine wp_region_any (by kernel_rfl) ?_
  rw [show ({ w with drawn := w.drawn + 1 } : World) = wa from hwa.symm]
  clear hwa hbp HH
  refine wpAny_fz (α := Unit) (fun _ => fun dd => if dd = 3 then .pointer (some ⟨bp, 0, none⟩) else if dd = 4 then .pointer (some ⟨bp, 0, none⟩) else if dd = 5 then .pointer (some ⟨bp, 1, none⟩) else if dd = 6 then ptr X.pi else if dd = 7 then .pointer (some ⟨bp, 0, none⟩) else if dd = 8 then .pointer (some ⟨bp, 0, none⟩) else if dd = 9 then .pointer (some ⟨bp, 0, none⟩) else if dd = 10 then .agg #[ptr X.pu] else if dd = 11 then .bool (X.U.cau != 1) else if dd = 12 then .tuple #[] else undef) (fun x listed w8 => VS [8, 9] (MLv W X (X.at (lvI X 0)) 2) x listed w8) ?step ?fin () ?start
  case start => exact .start HS.out
  case step =>
    rintro listed fr wr x hF hW hC i hj
    obtain ⟨hl, o, ho, he⟩ := mem_ready.1 hj
    have hjl : i < listed.size := by rw [hF.q.ls]; exact (Array.getElem?_eq_some_iff.1 ho).1
    have hl0 := getD_tf hjl hl
    clear hj
    have HF := hid hF
    have HW := hid hW
    have HE := hid he
    have HC := hid hC
    clear hF hW he hl hC
    match i, ho with
    | 0, ho =>
      obtain rfl := Option.some.inj ho
      have e0 : fr.tmps[0]?.getD undef = .pointer (some ⟨bp, 0, none⟩) := HF.out.base 0 (by kernel_rfl) rfl
      exact wp_q rfl rfl (by simp [execOp, go_sem, e0]; try rfl) ⟨(), HF.out.put (by kernel_rfl) rfl rfl rfl (of_decide_eq_true rfl), HW.out.q hjl (by decide)⟩
    | 1, ho =>
      obtain rfl := Option.some.inj ho
      have e3 : fr.tmps[3]?.getD undef = .pointer (some ⟨bp, 0, none⟩) := HF.out.ev (i := 0) rfl rfl (HE.out ⟨0, .data⟩ (by simp) rfl)
      exact wp_q rfl rfl (by simp [execOp, go_sem, e3]; try rfl) ⟨(), HF.out.put (by kernel_rfl) rfl rfl rfl (of_decide_eq_true rfl), HW.out.q hjl (by decide)⟩
    | 2, ho =>
      obtain rfl := Option.some.inj ho
      have e4 : fr.tmps[4]?.getD undef = .pointer (some ⟨bp, 0, none⟩) := HF.out.ev (i := 1) rfl rfl (HE.out ⟨1, .data⟩ (by simp) rfl)
      exact wp_q rfl rfl (by simp [execOp, go_sem, e4]; try rfl) ⟨(), HF.out.put (by kernel_rfl) rfl rfl rfl (of_decide_eq_true rfl), HW.out.q hjl (by decide)⟩
    | 3, ho =>
      obtain rfl := Option.some.inj ho
      have e5 : fr.tmps[5]?.getD undef = .pointer (some ⟨bp, 1, none⟩) := HF.out.ev (i := 2) rfl rfl (HE.out ⟨2, .data⟩ (by simp) rfl)
      obtain ⟨l0, l1⟩ := HLD.out _ _ _ HW.out
      exact wp_q rfl rfl (by simp [execOp, go_sem, e5, l1]; try rfl) ⟨(), HF.out.put (by kernel_rfl) rfl rfl rfl (of_decide_eq_true rfl), HW.out.q hjl (by decide)⟩
    | 4, ho =>
      obtain rfl := Option.some.inj ho
      have e0 : fr.tmps[0]?.getD undef = .pointer (some ⟨bp, 0, none⟩) := HF.out.base 0 (by kernel_rfl) rfl
      exact wp_q rfl rfl (by simp [execOp, go_sem, e0]; try rfl) ⟨(), HF.out.put (by kernel_rfl) rfl rfl rfl (of_decide_eq_true rfl), HW.out.q hjl (by decide)⟩
    | 5, ho =>
      obtain rfl := Option.some.inj ho
      have e7 : fr.tmps[7]?.getD undef = .pointer (some ⟨bp, 0, none⟩) := HF.out.ev (i := 4) rfl rfl (HE.out ⟨4, .data⟩ (by simp) rfl)
      exact wp_q rfl rfl (by simp [execOp, go_sem, e7]; try rfl) ⟨(), HF.out.put (by kernel_rfl) rfl rfl rfl (of_decide_eq_true rfl), HW.out.q hjl (by decide)⟩
    | 6, ho =>
      obtain rfl := Option.some.inj ho
      have e8 : fr.tmps[8]?.getD undef = .pointer (some ⟨bp, 0, none⟩) := HF.out.ev (i := 5) rfl rfl (HE.out ⟨5, .data⟩ (by simp) rfl)
      exact wp_q rfl rfl (by simp [execOp, go_sem, e8]; try rfl) ⟨(), HF.out.put (by kernel_rfl) rfl rfl rfl (of_decide_eq_true rfl), HW.out.q hjl (by decide)⟩
    | 7, ho =>
      obtain rfl := Option.some.inj ho
      have e9 : fr.tmps[9]?.getD undef = .pointer (some ⟨bp, 0, none⟩) := HF.out.ev (i := 6) rfl rfl (HE.out ⟨6, .data⟩ (by simp) rfl)
      obtain ⟨l0, l1⟩ := HLD.out _ _ _ HW.out
      exact wp_q rfl rfl (by simp [execOp, go_sem, e9, l0]; try rfl) ⟨(), HF.out.put (by kernel_rfl) rfl rfl rfl (of_decide_eq_true rfl), HW.out.q hjl (by decide)⟩
    | 8, ho =>
      obtain rfl := Option.some.inj ho
      have e10 : fr.tmps[10]?.getD undef = .agg #[ptr X.pu] := HF.out.ev (i := 7) rfl rfl (HE.out ⟨7, .data⟩ (by simp) rfl)
      have m0 := HW.out.at 0 rfl hl0 (fun j hj => by omega)
      refine wp_g1 rfl rfl _ _ _ rfl (.agg #[ptr X.pu]) (by simp [Act.eval, e10]) (Tryz.call42 _ _) (s_irq (m0.lt (by decide))) ?_
      rintro e' w7 ⟨rfl, q⟩
      exact ⟨_, rfl, (), HF.out.put (by kernel_rfl) rfl rfl rfl (of_decide_eq_true rfl), HW.out.go 0 hjl rfl hl0 (fun j hj => by omega) (by intro a ha; match a, ha with | 0, _ => rfl | 1, ha => simp at ha) (MLv.mk0 q (by decide))⟩
    | 9, ho =>
      obtain rfl := Option.some.inj ho
      have e6 : fr.tmps[6]?.getD undef = ptr X.pi := HF.out.ev (i := 3) rfl rfl (HE.out ⟨3, .data⟩ (by simp) rfl)
      have e11 : fr.tmps[11]?.getD undef = .bool (X.U.cau != 1) := HF.out.ev (i := 8) rfl rfl (HE.out ⟨8, .data⟩ (by simp) rfl)
      have hp := HE.out ⟨8, .data⟩ (by simp) rfl
      have m0 := HW.out.at 1 rfl hl0 (fun j hj => by obtain rfl : j = 0 := (by omega); exact ⟨8, rfl, hp⟩)
      refine wp_g3 rfl rfl _ _ _ _ _ rfl (ptr X.pi) (.int .i64 1) (.bool (X.U.cau != 1)) (by simp [Act.eval, e6]) rfl (by simp [Act.eval, e11]) (Tryz.call41 _ _) (b_Level (m0.lt (by decide)) 1 (by decide) (by decide) _) ?_
      rintro e' w7 ⟨rfl, q⟩
      exact ⟨_, rfl, (), HF.out.put (by kernel_rfl) rfl rfl rfl (of_decide_eq_true rfl), HW.out.go 1 hjl rfl hl0 (fun j hj => by obtain rfl : j = 0 := (by omega); exact ⟨8, rfl, hp⟩) (by intro a ha; match a, ha with | 0, ha => simp at ha | 1, _ => rfl) (MLv.mk1 q (by decide))⟩
  case fin =>
    rintro listed fr w2 x hF hW hr
    have all := allDone hr hF.q.ls (by kernel_rfl)
    have hb : Bo W w2 (X.at (lvI X 0)) := MLv.ge (hW.end 1 rfl (all _ (by decide)) (fun t ht q => MLv.mk1 (q.ge (by omega)) (by decide))) (Nat.le_refl _)
    rw [hF.full all]
    have HB := hid hb
    clear hF hr all hW hb HLD HS
    simp only [List.foldl_cons, List.foldl_nil, fillF]
    go_simp
    have cb := HB.out.cs.2.2.1
    have cs := HB.out.sp.1
    rw [show (X.at (lvI X 0)).bp = bp from HP.out.symm] at cb
    go_wp2_with (go_at_call 43; refine (P.l_Slots HB.out.lb).mono ?_; rintro r w3 ⟨rfl, k⟩; obtain rfl := k.symm)
    have HB2 : Hid (Bo W w2 (X.at (lvI X 0))) := HB
    clear cb cs HB
    go_loopw [21] (fun i wr => ∃ j : Nat, j ≤ X.n ∧ i = .int .i64 j ∧ Hid (Bo W wr (X.at (lvI X j)))) (fun i _ => X.n - (intOf i).toNat)
    case atStart => exact ⟨0, by omega, rfl, HB2⟩
    case round =>
      clear HB2
      obtain ⟨j, hj, rfl, hB⟩ := hrel
      by_cases hlt : j < X.n
      · have hlt' : (j : Int) < (X.n : Int) := by omega
        have hlt2 : (j : Int) < ((X.at (lvI X 0)).n : Int) := hlt'
        go_upto_region 4 with fail
        obtain ⟨wa, hwa⟩ : ∃ wa, wa = wr.drew := ⟨_, rfl⟩
        have HS : Hid (MLv W (X.at (lvI X j)) (X.at (lvI X (j + 1))) 2 0 () wa) := by rw [hwa]; exact MLv.mk0 (hB.out.below ((Below.refl _ _).drew)) (by decide)
        have HLD : Hid (∀ (y : Unit) (listed : Array Bool) w8, VS [14, 15] (MLv W (X.at (lvI X j)) (X.at (lvI X (j + 1))) 2) y listed w8 → w8.cell? ⟨bp, 1, none⟩ = some (ptr X.pi) ∧ w8.cell? ⟨bp, 5, none⟩ = some (.slice (some ⟨X.g, 0, none⟩) (X.n + 1) X.gc) ∧ w8.cell? ⟨X.g, j + 1, none⟩ = some (ptD (X.pv j))) := by
          rintro y listed w8 ⟨t, ht, hm⟩
          rw [HP.out]
          rcases Nat.lt_or_ge t 2 with q | q
          · exact ⟨(hm.lt q).cs.2.1, (hm.lt q).cs.2.2.2.2.2.1, (hm.lt q).port j hlt⟩
          · exact ⟨(hm.ge q).cs.2.1, (hm.ge q).cs.2.2.2.2.2.1, (hm.ge q).port j hlt⟩
        have hj8 : j < 8 := by have := HN.out; omega
        have HSP := hid (fun w8 => g_slotPort w8 j hj8)
        have w8f : IntKind.i64.wrap (8 + (j : Int)) = 8 + (j : Int) := by rw [IntKind.wrap_i64]; omega
        have hx1 : 0 ≤ (j : Int) + 1 := by omega
        have hx2 : ¬ X.n ≤ j := by omega
        refine wp_region_any (by kernel_rfl) ?_
        rw [show ({ wr with drawn := wr.drawn + 1 } : World) = wa from hwa.symm]
        clear hwa hB
        refine wpAny_fz (α := Unit) (fun _ => fun dd => if dd = 24 then .pointer (some ⟨bp, 0, none⟩) else if dd = 25 then .pointer (some ⟨bp, 0, none⟩) else if dd = 26 then .pointer (some ⟨bp, 1, none⟩) else if dd = 27 then ptr X.pi else if dd = 28 then .int .i64 (j : Int) else if dd = 29 then .int .i64 (8 + (j : Int)) else if dd = 30 then .pointer (some ⟨bp, 0, none⟩) else if dd = 31 then .pointer (some ⟨bp, 0, none⟩) else if dd = 32 then .pointer (some ⟨bp, 5, none⟩) else if dd = 33 then .slice (some ⟨X.g, 0, none⟩) (X.n + 1) X.gc else if dd = 34 then .int .i64 (j : Int) else if dd = 35 then .int .i64 ((j + 1 : Nat) : Int) else if dd = 36 then .pointer (some ⟨X.g, j + 1, none⟩) else if dd = 37 then ptD (X.pv j) else if dd = 38 then .bool ((X.dv j).it != 0) else if dd = 39 then .tuple #[] else undef) (fun x listed w8 => VS [14, 15] (MLv W (X.at (lvI X j)) (X.at (lvI X (j + 1))) 2) x listed w8) ?step ?fin () ?start
        case start => exact .start HS.out
        case step =>
          rintro listed fr wr x hF hW hC i hj
          obtain ⟨hl, o, ho, he⟩ := mem_ready.1 hj
          have hjl : i < listed.size := by rw [hF.q.ls]; exact (Array.getElem?_eq_some_iff.1 ho).1
          have hl0 := getD_tf hjl hl
          clear hj
          have HF := hid hF
          have HW := hid hW
          have HE := hid he
          have HC := hid hC
          clear hF hW he hl hC
          match i, ho with
          | 0, ho =>
            obtain rfl := Option.some.inj ho
            have e0 : fr.tmps[0]?.getD undef = .pointer (some ⟨bp, 0, none⟩) := HF.out.base 0 (by kernel_rfl) rfl
            exact wp_q rfl rfl (by simp [execOp, go_sem, e0]; try rfl) ⟨(), HF.out.put (by kernel_rfl) rfl rfl rfl (of_decide_eq_true rfl), HW.out.q hjl (by decide)⟩
          | 1, ho =>
            obtain rfl := Option.some.inj ho
            have e24 : fr.tmps[24]?.getD undef = .pointer (some ⟨bp, 0, none⟩) := HF.out.ev (i := 0) rfl rfl (HE.out ⟨0, .data⟩ (by simp) rfl)
            exact wp_q rfl rfl (by simp [execOp, go_sem, e24]; try rfl) ⟨(), HF.out.put (by kernel_rfl) rfl rfl rfl (of_decide_eq_true rfl), HW.out.q hjl (by decide)⟩
          | 2, ho =>
            obtain rfl := Option.some.inj ho
            have e25 : fr.tmps[25]?.getD undef = .pointer (some ⟨bp, 0, none⟩) := HF.out.ev (i := 1) rfl rfl (HE.out ⟨1, .data⟩ (by simp) rfl)
            exact wp_q rfl rfl (by simp [execOp, go_sem, e25]; try rfl) ⟨(), HF.out.put (by kernel_rfl) rfl rfl rfl (of_decide_eq_true rfl), HW.out.q hjl (by decide)⟩
          | 3, ho =>
            obtain rfl := Option.some.inj ho
            have e26 : fr.tmps[26]?.getD undef = .pointer (some ⟨bp, 1, none⟩) := HF.out.ev (i := 2) rfl rfl (HE.out ⟨2, .data⟩ (by simp) rfl)
            obtain ⟨l1, l5, lp⟩ := HLD.out _ _ _ HW.out
            exact wp_q rfl rfl (by simp [execOp, go_sem, e26, l1]; try rfl) ⟨(), HF.out.put (by kernel_rfl) rfl rfl rfl (of_decide_eq_true rfl), HW.out.q hjl (by decide)⟩
          | 4, ho =>
            obtain rfl := Option.some.inj ho
            have e2 : fr.tmps[2]?.getD undef = .int .i64 (j : Int) := HF.out.base 2 (by kernel_rfl) rfl
            exact wp_q rfl rfl (by simp [execOp, go_sem, e2]; try rfl) ⟨(), HF.out.put (by kernel_rfl) rfl rfl rfl (of_decide_eq_true rfl), HW.out.q hjl (by decide)⟩
          | 5, ho =>
            obtain rfl := Option.some.inj ho
            have e28 : fr.tmps[28]?.getD undef = .int .i64 (j : Int) := HF.out.ev (i := 4) rfl rfl (HE.out ⟨4, .data⟩ (by simp) rfl)
            exact wp_q rfl rfl (by simp [execOp, go_sem, e28, w8f]; try rfl) ⟨(), HF.out.put (by kernel_rfl) rfl rfl rfl (of_decide_eq_true rfl), HW.out.q hjl (by decide)⟩
          | 6, ho =>
            obtain rfl := Option.some.inj ho
            have e0 : fr.tmps[0]?.getD undef = .pointer (some ⟨bp, 0, none⟩) := HF.out.base 0 (by kernel_rfl) rfl
            exact wp_q rfl rfl (by simp [execOp, go_sem, e0]; try rfl) ⟨(), HF.out.put (by kernel_rfl) rfl rfl rfl (of_decide_eq_true rfl), HW.out.q hjl (by decide)⟩
          | 7, ho =>
            obtain rfl := Option.some.inj ho
            have e30 : fr.tmps[30]?.getD undef = .pointer (some ⟨bp, 0, none⟩) := HF.out.ev (i := 6) rfl rfl (HE.out ⟨6, .data⟩ (by simp) rfl)
            exact wp_q rfl rfl (by simp [execOp, go_sem, e30]; try rfl) ⟨(), HF.out.put (by kernel_rfl) rfl rfl rfl (of_decide_eq_true rfl), HW.out.q hjl (by decide)⟩
          | 8, ho =>
            obtain rfl := Option.some.inj ho
            have e31 : fr.tmps[31]?.getD undef = .pointer (some ⟨bp, 0, none⟩) := HF.out.ev (i := 7) rfl rfl (HE.out ⟨7, .data⟩ (by simp) rfl)
            exact wp_q rfl rfl (by simp [execOp, go_sem, e31]; try rfl) ⟨(), HF.out.put (by kernel_rfl) rfl rfl rfl (of_decide_eq_true rfl), HW.out.q hjl (by decide)⟩
          | 9, ho =>
            obtain rfl := Option.some.inj ho
            have e32 : fr.tmps[32]?.getD undef = .pointer (some ⟨bp, 5, none⟩) := HF.out.ev (i := 8) rfl rfl (HE.out ⟨8, .data⟩ (by simp) rfl)
            obtain ⟨l1, l5, lp⟩ := HLD.out _ _ _ HW.out
            exact wp_q rfl rfl (by simp [execOp, go_sem, e32, l5]; try rfl) ⟨(), HF.out.put (by kernel_rfl) rfl rfl rfl (of_decide_eq_true rfl), HW.out.q hjl (by decide)⟩
          | 10, ho =>
            obtain rfl := Option.some.inj ho
            have e2 : fr.tmps[2]?.getD undef = .int .i64 (j : Int) := HF.out.base 2 (by kernel_rfl) rfl
            exact wp_q rfl rfl (by simp [execOp, go_sem, e2]; try rfl) ⟨(), HF.out.put (by kernel_rfl) rfl rfl rfl (of_decide_eq_true rfl), HW.out.q hjl (by decide)⟩
          | 11, ho =>
            obtain rfl := Option.some.inj ho
            have e34 : fr.tmps[34]?.getD undef = .int .i64 (j : Int) := HF.out.ev (i := 10) rfl rfl (HE.out ⟨10, .data⟩ (by simp) rfl)
            refine wp_g1 rfl rfl _ _ _ rfl (.int .i64 (j : Int)) (by simp [Act.eval, e34]) (Tryz.call40 _ _) (HSP.out wr) ?_
            rintro e' w7 ⟨rfl, hw7⟩
            subst hw7
            exact ⟨_, rfl, (), HF.out.put (by kernel_rfl) rfl rfl rfl (of_decide_eq_true rfl), HW.out.q hjl (by decide)⟩
          | 12, ho =>
            obtain rfl := Option.some.inj ho
            have e33 : fr.tmps[33]?.getD undef = .slice (some ⟨X.g, 0, none⟩) (X.n + 1) X.gc := HF.out.ev (i := 9) rfl rfl (HE.out ⟨9, .data⟩ (by simp) rfl)
            have e35 : fr.tmps[35]?.getD undef = .int .i64 ((j + 1 : Nat) : Int) := HF.out.ev (i := 11) rfl rfl (HE.out ⟨11, .data⟩ (by simp) rfl)
            exact wp_q rfl rfl (by simp [execOp, go_sem, e33, e35, hx1, hx2]; try rfl) ⟨(), HF.out.put (by kernel_rfl) rfl rfl rfl (of_decide_eq_true rfl), HW.out.q hjl (by decide)⟩
          | 13, ho =>
            obtain rfl := Option.some.inj ho
            have e36 : fr.tmps[36]?.getD undef = .pointer (some ⟨X.g, j + 1, none⟩) := HF.out.ev (i := 12) rfl rfl (HE.out ⟨12, .data⟩ (by simp) rfl)
            obtain ⟨l1, l5, lp⟩ := HLD.out _ _ _ HW.out
            exact wp_q rfl rfl (by simp [execOp, go_sem, e36, lp]; try rfl) ⟨(), HF.out.put (by kernel_rfl) rfl rfl rfl (of_decide_eq_true rfl), HW.out.q hjl (by decide)⟩
          | 14, ho =>
            obtain rfl := Option.some.inj ho
            have e37 : fr.tmps[37]?.getD undef = ptD (X.pv j) := HF.out.ev (i := 13) rfl rfl (HE.out ⟨13, .data⟩ (by simp) rfl)
            have m0 := HW.out.at 0 rfl hl0 (fun j hj => by omega)
            refine wp_gi0 rfl rfl _ (ptD (X.pv j)) _ _ rfl (by simp [Act.eval, e37]) _ _ (cm_virq (X.pv j) wr) (v_irq (m0.lt (by decide)) j hlt) ?_
            rintro e' w7 ⟨rfl, q⟩
            exact ⟨_, rfl, (), HF.out.put (by kernel_rfl) rfl rfl rfl (of_decide_eq_true rfl), HW.out.go 0 hjl rfl hl0 (fun j hj => by omega) (by intro a ha; match a, ha with | 0, _ => rfl | 1, ha => simp at ha) (MLv.mk0 q (by decide))⟩
          | 15, ho =>
            obtain rfl := Option.some.inj ho
            have e27 : fr.tmps[27]?.getD undef = ptr X.pi := HF.out.ev (i := 3) rfl rfl (HE.out ⟨3, .data⟩ (by simp) rfl)
            have e29 : fr.tmps[29]?.getD undef = .int .i64 (8 + (j : Int)) := HF.out.ev (i := 5) rfl rfl (HE.out ⟨5, .data⟩ (by simp) rfl)
            have e38 : fr.tmps[38]?.getD undef = .bool ((X.dv j).it != 0) := HF.out.ev (i := 14) rfl rfl (HE.out ⟨14, .data⟩ (by simp) rfl)
            have hp := HE.out ⟨14, .data⟩ (by simp) rfl
            have m0 := HW.out.at 1 rfl hl0 (fun j hj => by obtain rfl : j = 0 := (by omega); exact ⟨14, rfl, hp⟩)
            refine wp_g3 rfl rfl _ _ _ _ _ rfl (ptr X.pi) (.int .i64 (8 + (j : Int))) (.bool ((X.dv j).it != 0)) (by simp [Act.eval, e27]) (by simp [Act.eval, e29]) (by simp [Act.eval, e38]) (Tryz.call41 _ _) (b_Level (m0.lt (by decide)) (8 + (j : Int)) (by omega) (by omega) _) ?_
            rintro e' w7 ⟨rfl, q⟩
            exact ⟨_, rfl, (), HF.out.put (by kernel_rfl) rfl rfl rfl (of_decide_eq_true rfl), HW.out.go 1 hjl rfl hl0 (fun j hj => by obtain rfl : j = 0 := (by omega); exact ⟨14, rfl, hp⟩) (by intro a ha; match a, ha with | 0, ha => simp at ha | 1, _ => rfl) (MLv.mk1 q (by decide))⟩
        case fin =>
          rintro listed fr w2 x hF hW hr
          have all := allDone hr hF.q.ls (by kernel_rfl)
          have hb : Bo W w2 (X.at (lvI X (j + 1))) := MLv.ge (hW.end 1 rfl (all _ (by decide)) (fun t ht q => MLv.mk1 (q.ge (by omega)) (by decide))) (Nat.le_refl _)
          rw [hF.full all]
          have HB := hid hb
          clear hF hr all hW hb HLD HS HSP
          simp only [List.foldl_cons, List.foldl_nil, fillF]
          go_simp
          go_wp2_with fail
          go_roundw
          case rel => exact ⟨j + 1, by omega, by go_num, HB⟩
          case measure => simp [intOf]; omega
      · have hge : ¬ (j : Int) < (X.n : Int) := by omega
        have hge2 : ¬ (j : Int) < ((X.at (lvI X 0)).n : Int) := hge
        have hjn : j = X.n := by omega
        go_wp2_with fail
        go_returns
        rw [← hjn]
        exact ⟨rfl, hB.out⟩
end Go.Proofs.YtjkihlpckgaggaaGreat
namespace Go.Proofs.YtjkihlpckgaggaaGreat
open Go.RowKit
open C (Only hid Still ret_bool ret_int)
set_option linter.unusedVariables false
set_option maxRecDepth 100000

theorem wp_atG {P : Program} {c : Code} {Q : Exit → Act → World → Prop} {a : Act} {W w0 : World} (h : W = w0) (hk : Code.wp P c Q a w0) : Code.wp P c Q a W := h ▸ hk
section
variable {W w w' : World} {c : Nat → Nat} {X : BX}
theorem Bd.re (h : Bd W w c X) (c' : Nat → Nat) (hc : ∀ k, k < w.heap.size → c' k = c k) : Bd W w c' X := by
  obtain ⟨l1, l2, l3, l4⟩ := h.lt
  obtain ⟨Fu, u1, u2⟩ := h.u
  obtain ⟨Fi, i1, i2⟩ := h.i
  obtain ⟨Fb, b1, b2⟩ := h.b
  obtain ⟨z1, z2, z3, z4⟩ := h.c0
  exact ⟨h.bel, h.top, h.sp, h.pr, h.pl, ⟨Fu, u1, fun k hk => ⟨(hc k (u1.lt hk)).trans (u2 k hk).1, (u2 k hk).2⟩⟩, ⟨Fi, i1, fun k hk => ⟨(hc k (i1.lt hk)).trans (i2 k hk).1, (i2 k hk).2⟩⟩, ⟨Fb, b1, fun k hk => ⟨(hc k (b1.lt hk)).trans (b2 k hk).1, (b2 k hk).2⟩⟩, h.vok,
    fun j hj => ⟨(h.d j hj).1, (hc _ (h.d j hj).1.lt).trans (h.d j hj).2.1, (h.d j hj).2.2⟩, h.n8, ⟨(hc _ l1).trans z1, (hc _ l2).trans z2, (hc _ l3).trans z3, (hc _ l4).trans z4⟩, h.w0, fun k o hk => by obtain ⟨e1, e2, e3⟩ := h.ee k o hk; exact ⟨e1, (hc _ e3).trans e2, e3⟩, by obtain ⟨⟨hv, e⟩, k2, k3⟩ := h.k; exact ⟨⟨hv, e⟩, (hc _ (lt_of_block e)).trans k2, k3⟩⟩
/-- what is new has the colour 0 -/
theorem Bo.fresh (h : Bo W w X) (hb : Below w.heap.size w w') : ∃ c, Bd W w' c X ∧ ∀ k, w.heap.size ≤ k → c k = 0 := by
  obtain ⟨c, h⟩ := h
  refine ⟨fun k => if k < w.heap.size then c k else 0, (h.re (fun k => if k < w.heap.size then c k else 0) fun k hk => if_pos hk).below hb, fun k hk => if_neg (by omega)⟩
/-- a block beside the board is kept in mind -/
def BX.ae (x : BX) (k : Nat) (o : Obj) : BX := { x with E := fun j => if j = k then some o else x.E j }
theorem Bo.add (h : Bo W w X) (o : Obj) : Bo W (w.alloc o) (X.ae w.heap.size o) := by
  have hb : Below w.heap.size w (w.alloc o) := (Below.refl _ _).alloc (Nat.le_refl _) _
  obtain ⟨c, h, hc⟩ := h.fresh hb
  refine ⟨c, h.bel, h.top, h.sp, h.pr, h.pl, h.u, h.i, h.b, h.vok, h.d, h.n8, h.c0, h.w0, fun k o' hk => ?_, h.k⟩
  have hk' : (if k = w.heap.size then some o else X.E k) = some o' := hk
  split at hk'
  · rename_i e
    subst e
    cases hk'
    exact ⟨heap_alloc_new w o, hc _ (Nat.le_refl _), by simp⟩
  · exact h.ee k o' hk'
theorem Bo.ex (h : Bo W w X) {k : Nat} {o : Obj} (hk : X.E k = some o) : w.heap[k]? = some o := by
  obtain ⟨c, h⟩ := h
  exact (h.ee k o hk).1
theorem c_In (h : Bd W w c X) (v : Int) (hv : 0 ≤ v ∧ v < 256) : Calls Tryz.prog 213 #[ptr X.pu, .int .u8 v] w fun r w' => r = .returned (.tuple #[]) ∧ (∃ c', Bd W w' c' { X with U := X.U.inn v } ∧ ∀ k, k < w.heap.size → c' k = c k) ∧ Only (fun k => c k = 1) w w' := by
  obtain ⟨F, u1, u2⟩ := h.u
  refine (L.u_In w F X.pu X.U v u1 hv).mono ?_
  rintro r w' ⟨rfl, F', k1, k2⟩
  exact ⟨rfl, ⟨_, h.turnU u1 u2 k1 k2, fun k hk => if_pos hk⟩, k2.1.mono fun k _ hk => (u2 k hk).1⟩
def inns (U : L.UV) (l : List Int) : L.UV := l.foldl (fun u v => u.inn v) U
theorem inns_s (U : L.UV) (l : List Int) (j : Nat) (v : Int) (h : l[j]? = some v) : (inns U (l.take j)).inn v = inns U (l.take (j + 1)) := by
  unfold inns
  rw [List.take_add_one, h]
  simp [List.foldl_append]
def BX.au (x : BX) (U : L.UV) : BX := { x with U := U }
set_option maxHeartbeats 1000000 in
theorem s_in (h : Bd W w c X) (mv u : Value) (l : List Int) (hl : w.ownsRow 0 5 1 u l.length (L.bys l)) (hc : ∀ k, Ug u k → c k = 0) (hb : ∀ v ∈ l, 0 ≤ v ∧ v < 256) (hm : (l.length : Int) ≤ 9223372036854775807) :
    Calls Tryz.prog 221 #[.agg #[ptr X.pu], mv, u] w fun r w' => r = .returned (.bool true) ∧ Bo W w' (X.au (inns X.U l)) := by
  obtain ⟨ad, cp, rfl⟩ := own_form hl
  obtain ⟨wa, hwa⟩ : ∃ wa, wa = w.alloc (.cells #[ptr X.pu] 74) := ⟨_, rfl⟩
  have hbl : Below w.heap.size w wa := by rw [hwa]; exact (Below.refl w.heap.size w).alloc (Nat.le_refl _) _
  have hp : wa.heap[w.heap.size]? = some (.cells #[ptr X.pu] 74 (0, 0)) := by rw [hwa]; exact heap_alloc_new w _
  have HS : Hid (∃ c', Bd W wa c' (X.au (inns X.U (l.take 0))) ∧ wa.ownsRow 0 5 1 (.slice ad l.length cp) l.length (L.bys l) ∧ (∀ k, Ug (.slice ad l.length cp) k → c' k = 0) ∧ wa.heap[w.heap.size]? = some (.cells #[ptr X.pu] 74 (0, 0)) ∧ c' w.heap.size = 0) := by
    refine ⟨fun k => if k < w.heap.size then c k else 0, (h.re _ fun k hk => if_pos hk).below hbl, own_only hl (T := fun _ => False) (.ofBelow hbl) (fun _ _ z => z), fun k hk => ?_, hp, if_neg (by omega)⟩
    have := L.own_lt hl k hk
    exact (if_pos this).trans (hc k hk)
  have HB := hid hb
  have HWA := hid hwa
  clear h hl hc hbl hp hb hwa
  go_enter Tryz.func221, Tryz.ntmps221
  go_wp2_with fail
  refine wp_atG HWA.out.symm ?_
  clear HWA
  go_loopw [11] (fun i wr => ∃ j : Nat, j ≤ l.length ∧ i = .int .i64 j ∧ Hid (∃ c', Bd W wr c' (X.au (inns X.U (l.take j))) ∧ wr.ownsRow 0 5 1 (.slice ad l.length cp) l.length (L.bys l) ∧ (∀ k, Ug (.slice ad l.length cp) k → c' k = 0) ∧ wr.heap[w.heap.size]? = some (.cells #[ptr X.pu] 74 (0, 0)) ∧ c' w.heap.size = 0)) (fun i _ => l.length - (intOf i).toNat)
  case atStart => exact ⟨0, by omega, rfl, HS⟩
  case round =>
    clear HS
    obtain ⟨j, hj, rfl, hS⟩ := hrel
    by_cases hlt : j < l.length
    · have hlt' : (j : Int) < (l.length : Int) := by omega
      obtain ⟨c', k1, k2, k3, k4, k5⟩ := hS.out
      obtain ⟨v, hv⟩ : ∃ v, l[j]? = some v := ⟨l[j], List.getElem?_eq_getElem hlt⟩
      have hvb := HB.out v (List.mem_of_getElem? hv)
      obtain ⟨b, cur, hb1, hb2⟩ : ∃ b cur, ad = some ⟨b, 0, none⟩ ∧ wr.cell? ⟨b, j, none⟩ = some (.int .u8 v) := by
        rcases k2.2 with ⟨z, z2⟩ | ⟨g, cap, cur, h1, h2, h3⟩
        · omega
        · cases h1
          refine ⟨g, cur, rfl, ?_⟩
          rw [k2.cellAt j (by omega)]
          unfold L.bys
          rw [List.getElem?_map, hv]
          rfl
      subst hb1
      have cg : wr.cell? ⟨w.heap.size, 0, none⟩ = some (ptr X.pu) := cell_of_row wr w.heap.size 0 _ _ _ k4
      have HIN := hid (c_In k1 v hvb)
      have HN : Hid (∀ w7, (∃ c2, Bd W w7 c2 { X.au (inns X.U (l.take j)) with U := (X.au (inns X.U (l.take j))).U.inn v } ∧ ∀ k, k < wr.heap.size → c2 k = c' k) → Only (fun k => c' k = 1) wr w7 → Hid (∃ c', Bd W w7 c' (X.au (inns X.U (l.take (j + 1)))) ∧ w7.ownsRow 0 5 1 (.slice (some ⟨b, 0, none⟩) l.length cp) l.length (L.bys l) ∧ (∀ k, Ug (.slice (some ⟨b, 0, none⟩) l.length cp) k → c' k = 0) ∧ w7.heap[w.heap.size]? = some (.cells #[ptr X.pu] 74 (0, 0)) ∧ c' w.heap.size = 0)) := by
        rintro w7 ⟨c2, q1, q2⟩ q3
        refine ⟨c2, ?_, own_only k2 q3 fun k hk z => ?_, fun k hk => ?_, q3.old k4 fun z => ?_, ?_⟩
        · rw [← inns_s X.U l j v hv]; exact q1
        · rw [k3 k hk] at z; cases z
        · rw [q2 k (L.own_lt k2 k hk)]; exact k3 k hk
        · rw [k5] at z; cases z
        · rw [q2 w.heap.size (lt_of_block k4)]; exact k5
      clear k1 k2 k3 k4 k5 hS hv
      go_wp2_with (go_at_call 213; refine HIN.out.mono ?_; rintro r w7 ⟨rfl, q1, q2⟩; have HX := HN.out w7 q1 q2; clear q1 q2)
      go_roundw
      case rel => exact ⟨j + 1, by omega, by go_num, HX⟩
      case measure => simp [intOf]; omega
    · have hge : ¬ (j : Int) < (l.length : Int) := by omega
      have hjl : j = l.length := by omega
      go_wp2
      go_ret
      obtain ⟨c', k1, -⟩ := hS.out
      rw [hjl, List.take_length] at k1
      exact ⟨rfl, c', k1⟩
end
end Go.Proofs.YtjkihlpckgaggaaGreat
namespace Go.Proofs.YtjkihlpckgaggaaGreat
open Go.RowKit
open C (Only hid Still ret_bool ret_int)
set_option linter.unusedVariables false
set_option maxRecDepth 100000

def plB : Nat → Int | 0 => 268435456 | 1 => 268439552 | 2 => 201326592 | _ => 805306368
def plS : Nat → Int | 0 => 8 | 1 => 4096 | 2 => 16384 | _ => 32768
def plI (X : BX) : Nat → Value | 0 => pt0 X.pu | 1 => .iface 184 (.agg #[ptr X.kc]) | 2 => .iface 186 (.agg #[ptr X.pi]) | _ => .iface 76 (ptr X.ps)
def plO (a : Int) (j : Nat) : Int := IntKind.u64.wrap (a - plB j)
/-- does an address lie at place j? -/
def hitP (a : Int) (j : Nat) : Bool := decide (plO a j < plS j)
def nbd : Value := .iface 149 (.agg #[])
/-- who answers at an address, and the offset there -/
def fdD (X : BX) (a : Int) : Value := if hitP a 0 then plI X 0 else if hitP a 1 then plI X 1 else if hitP a 2 then plI X 2 else if hitP a 3 then plI X 3 else if P.fdB X.n X.V a then ptD (X.pv (P.fdS X.n X.V a).toNat) else nbd
def fdF (X : BX) (a : Int) : Int := if hitP a 0 then plO a 0 else if hitP a 1 then plO a 1 else if hitP a 2 then plO a 2 else if hitP a 3 then plO a 3 else if P.fdB X.n X.V a then P.fdO X.n X.V a else 0
theorem fd_spec {n : Nat} {V : Nat → P.Sv} {a : Int} (h : P.fdB n V a = true) : ∃ j : Nat, j < n ∧ P.fdS n V a = (j : Int) := by
  unfold P.fdB at h
  have h' := of_decide_eq_true h
  exact ⟨_, h', by unfold P.fdS; rw [if_pos h']⟩
section
variable {W w : World} {X : BX}
theorem Bo.pl (h : Bo W w X) : w.heap[X.q]? = some (.cells (plc X.pu X.pi X.ps X.kc) 145 (0, 0)) := by
  obtain ⟨c, h⟩ := h
  exact h.pl
set_option maxHeartbeats 4000000 in
theorem b_find (h : Bo W w X) (a : Int) (a0 : 0 ≤ a) (a1 : a < 18446744073709551616) : Calls Tryz.prog 24 #[ptr X.bp, .int .u64 a] w fun r w' => r = .returned (.tuple #[fdD X a, .int .u64 (fdF X a)]) ∧ Bo W w' X := by
  have HB := hid h
  clear h
  have e4 : ∀ j : Nat, j < 4 → (j : Int) < 4 := fun j hj => by omega
  have cb := HB.out.cs.2.2.2.2.2.2
  go_enter Tryz.func24, Tryz.ntmps24
  go_wp2_with fail
  go_loopw [17] (fun i wr => ∃ j : Nat, j ≤ 4 ∧ i = .int .i64 j ∧ (∀ i, i < j → hitP a i = false) ∧ Hid (Bo W wr X)) (fun i _ => 4 - (intOf i).toNat)
  case atStart => exact ⟨0, by omega, rfl, fun i hi => absurd hi (Nat.not_lt_zero i), HB⟩
  case round =>
    clear cb HB
    obtain ⟨j, hj, rfl, hno, hB⟩ := hrel
    have HNO := hid hno
    clear hno
    have hpl := hB.out.pl
    match j, hj with
    | 0, _ =>
      have c0 : wr.cell? ⟨X.q, 0, none⟩ = some (.int .u64 268435456) := cell_of_row wr X.q 0 _ _ _ hpl
      have c1 : wr.cell? ⟨X.q, 1, none⟩ = some (.int .u64 8) := cell_of_row wr X.q 1 _ _ _ hpl
      have c2 : wr.cell? ⟨X.q, 2, none⟩ = some (pt0 X.pu) := cell_of_row wr X.q 2 _ _ _ hpl
      have HBB := hid (hB.out.below ((Below.refl wr.heap.size wr).alloc (Nat.le_refl _) (.cells #[.int .u64 268435456, .int .u64 8, pt0 X.pu] 145)))
      clear hpl
      by_cases hx : hitP a 0 = true
      · have hq : IntKind.u64.wrap (a - 268435456) < 8 := of_decide_eq_true hx
        have e1 : fdD X a = pt0 X.pu := by unfold fdD; simp only [hx]; simp [plI]
        have e2 : fdF X a = IntKind.u64.wrap (a - 268435456) := by unfold fdF; simp only [hx]; simp [plO, plB]
        have E1 := hid e1
        have E2 := hid e2
        clear hx e1 e2
        go_wp2
        go_returns
        exact ⟨by rw [E1.out, E2.out]; rfl, HBB.out⟩
      · have hq : ¬ IntKind.u64.wrap (a - 268435456) < 8 := fun q => hx (decide_eq_true q)
        have HX : Hid (hitP a 0 = false) := hid (by simpa using hx)
        clear hx
        go_wp2
        go_roundw
        case rel => exact ⟨1, by decide, rfl, fun i hi => by
          rcases Nat.lt_or_ge i 0 with q | q
          · exact HNO.out i q
          · obtain rfl : i = 0 := by omega
            exact HX.out, HBB.out⟩
        case measure => simp [intOf]
    | 1, _ =>
      have c0 : wr.cell? ⟨X.q, 3, none⟩ = some (.int .u64 268439552) := cell_of_row wr X.q 3 _ _ _ hpl
      have c1 : wr.cell? ⟨X.q, 4, none⟩ = some (.int .u64 4096) := cell_of_row wr X.q 4 _ _ _ hpl
      have c2 : wr.cell? ⟨X.q, 5, none⟩ = some (.iface 184 (.agg #[ptr X.kc])) := cell_of_row wr X.q 5 _ _ _ hpl
      have HBB := hid (hB.out.below ((Below.refl wr.heap.size wr).alloc (Nat.le_refl _) (.cells #[.int .u64 268439552, .int .u64 4096, .iface 184 (.agg #[ptr X.kc])] 145)))
      clear hpl
      by_cases hx : hitP a 1 = true
      · have hq : IntKind.u64.wrap (a - 268439552) < 4096 := of_decide_eq_true hx
        have e1 : fdD X a = .iface 184 (.agg #[ptr X.kc]) := by unfold fdD; simp only [hx, HNO.out 0 (by decide)]; simp [plI]
        have e2 : fdF X a = IntKind.u64.wrap (a - 268439552) := by unfold fdF; simp only [hx, HNO.out 0 (by decide)]; simp [plO, plB]
        have E1 := hid e1
        have E2 := hid e2
        clear hx e1 e2
        go_wp2
        go_returns
        exact ⟨by rw [E1.out, E2.out]; rfl, HBB.out⟩
      · have hq : ¬ IntKind.u64.wrap (a - 268439552) < 4096 := fun q => hx (decide_eq_true q)
        have HX : Hid (hitP a 1 = false) := hid (by simpa using hx)
        clear hx
        go_wp2
        go_roundw
        case rel => exact ⟨2, by decide, rfl, fun i hi => by
          rcases Nat.lt_or_ge i 1 with q | q
          · exact HNO.out i q
          · obtain rfl : i = 1 := by omega
            exact HX.out, HBB.out⟩
        case measure => simp [intOf]
    | 2, _ =>
      have c0 : wr.cell? ⟨X.q, 6, none⟩ = some (.int .u64 201326592) := cell_of_row wr X.q 6 _ _ _ hpl
      have c1 : wr.cell? ⟨X.q, 7, none⟩ = some (.int .u64 16384) := cell_of_row wr X.q 7 _ _ _ hpl
      have c2 : wr.cell? ⟨X.q, 8, none⟩ = some (.iface 186 (.agg #[ptr X.pi])) := cell_of_row wr X.q 8 _ _ _ hpl
      have HBB := hid (hB.out.below ((Below.refl wr.heap.size wr).alloc (Nat.le_refl _) (.cells #[.int .u64 201326592, .int .u64 16384, .iface 186 (.agg #[ptr X.pi])] 145)))
      clear hpl
      by_cases hx : hitP a 2 = true
      · have hq : IntKind.u64.wrap (a - 201326592) < 16384 := of_decide_eq_true hx
        have e1 : fdD X a = .iface 186 (.agg #[ptr X.pi]) := by unfold fdD; simp only [hx, HNO.out 0 (by decide), HNO.out 1 (by decide)]; simp [plI]
        have e2 : fdF X a = IntKind.u64.wrap (a - 201326592) := by unfold fdF; simp only [hx, HNO.out 0 (by decide), HNO.out 1 (by decide)]; simp [plO, plB]
        have E1 := hid e1
        have E2 := hid e2
        clear hx e1 e2
        go_wp2
        go_returns
        exact ⟨by rw [E1.out, E2.out]; rfl, HBB.out⟩
      · have hq : ¬ IntKind.u64.wrap (a - 201326592) < 16384 := fun q => hx (decide_eq_true q)
        have HX : Hid (hitP a 2 = false) := hid (by simpa using hx)
        clear hx
        go_wp2
        go_roundw
        case rel => exact ⟨3, by decide, rfl, fun i hi => by
          rcases Nat.lt_or_ge i 2 with q | q
          · exact HNO.out i q
          · obtain rfl : i = 2 := by omega
            exact HX.out, HBB.out⟩
        case measure => simp [intOf]
    | 3, _ =>
      have c0 : wr.cell? ⟨X.q, 9, none⟩ = some (.int .u64 805306368) := cell_of_row wr X.q 9 _ _ _ hpl
      have c1 : wr.cell? ⟨X.q, 10, none⟩ = some (.int .u64 32768) := cell_of_row wr X.q 10 _ _ _ hpl
      have c2 : wr.cell? ⟨X.q, 11, none⟩ = some (.iface 76 (ptr X.ps)) := cell_of_row wr X.q 11 _ _ _ hpl
      have HBB := hid (hB.out.below ((Below.refl wr.heap.size wr).alloc (Nat.le_refl _) (.cells #[.int .u64 805306368, .int .u64 32768, .iface 76 (ptr X.ps)] 145)))
      clear hpl
      by_cases hx : hitP a 3 = true
      · have hq : IntKind.u64.wrap (a - 805306368) < 32768 := of_decide_eq_true hx
        have e1 : fdD X a = .iface 76 (ptr X.ps) := by unfold fdD; simp only [hx, HNO.out 0 (by decide), HNO.out 1 (by decide), HNO.out 2 (by decide)]; simp [plI]
        have e2 : fdF X a = IntKind.u64.wrap (a - 805306368) := by unfold fdF; simp only [hx, HNO.out 0 (by decide), HNO.out 1 (by decide), HNO.out 2 (by decide)]; simp [plO, plB]
        have E1 := hid e1
        have E2 := hid e2
        clear hx e1 e2
        go_wp2
        go_returns
        exact ⟨by rw [E1.out, E2.out]; rfl, HBB.out⟩
      · have hq : ¬ IntKind.u64.wrap (a - 805306368) < 32768 := fun q => hx (decide_eq_true q)
        have HX : Hid (hitP a 3 = false) := hid (by simpa using hx)
        clear hx
        go_wp2
        go_roundw
        case rel => exact ⟨4, by decide, rfl, fun i hi => by
          rcases Nat.lt_or_ge i 3 with q | q
          · exact HNO.out i q
          · obtain rfl : i = 3 := by omega
            exact HX.out, HBB.out⟩
        case measure => simp [intOf]
    | 4, _ =>
      have HN := hid hB.out.n8
      have cb := hB.out.cs.2.2.1
      have cs := hB.out.sp.1
      have cp := hB.out.cs.2.2.2.2.2.1
      have HF := hid (P.l_Find hB.out.lb a a0 a1)
      have q0 := HNO.out 0 (by decide)
      have q1 := HNO.out 1 (by decide)
      have q2 := HNO.out 2 (by decide)
      have q3 := HNO.out 3 (by decide)
      have E1 : Hid (fdD X a = if P.fdB X.n X.V a then ptD (X.pv (P.fdS X.n X.V a).toNat) else nbd) := hid (by unfold fdD; simp [q0, q1, q2, q3])
      have E2 : Hid (fdF X a = if P.fdB X.n X.V a then P.fdO X.n X.V a else 0) := hid (by unfold fdF; simp [q0, q1, q2, q3])
      clear hpl q0 q1 q2 q3
      cases hf : P.fdB X.n X.V a
      · rw [hf] at HF E1 E2
        go_wp2_with (go_at_call 39; refine HF.out.mono ?_; rintro r w3 ⟨rfl, k⟩; have HS := hid k; clear k)
        go_returns
        refine ⟨by rw [E1.out, E2.out]; rfl, hB.out.below (HS.out.below _)⟩
      · obtain ⟨k, hk, hs⟩ := fd_spec hf
        rw [hf] at HF E1 E2
        rw [hs] at HF E1
        have hk8 : k < 8 := by have := HN.out; omega
        have HSP := hid (fun w8 => g_slotPort w8 k hk8)
        have hx1 : 0 ≤ (k : Int) + 1 := by omega
        have hx2 : ¬ X.n ≤ k := by omega
        have cq := hB.out.port k hk
        go_wp2_with (go_at_call 39; refine HF.out.mono ?_; rintro r w3 ⟨rfl, q⟩; have HS := hid q; rw [← q.cell] at cp cq cb cs; clear q)
        go_quiet (first | (go_at_call 40; exact Calls.quiet_of_same (HSP.out _)))
        go_wp2_with fail
        go_returns
        refine ⟨by rw [E1.out, E2.out]; rfl, hB.out.below ?_⟩
        exact (HS.out.below _).trans ((L.dnB w3 _).mono (by rw [HS.out.heap]; exact Nat.le_refl _))
end
end Go.Proofs.YtjkihlpckgaggaaGreat
namespace Go.Proofs.YtjkihlpckgaggaaGreat
open Go.RowKit
open C (Only hid Still ret_bool ret_int)
set_option linter.unusedVariables false
set_option maxRecDepth 100000

section
variable {W w : World} {X : BX}
set_option maxHeartbeats 1000000 in
theorem s_read (h : Bo W w X) (o z nw : Int) (o0 : 0 ≤ o) (o1 : o < 18446744073709551616) (V : Int) (hV : (X.U.rd o).1 = V) (v0 : 0 ≤ V) (v1 : V < 256) : Calls Tryz.prog 222 #[.agg #[ptr X.pu], .int .u64 o, .int .i64 z, .int .u64 nw] w fun r w' => r = .returned (.tuple #[.int .u64 (if z = 1 then V else 0), .bool (decide (z = 1))]) ∧ Bo W w' (if z = 1 then X.au (X.U.rd o).2 else X) := by
  have hb := (Below.refl w.heap.size w).alloc (Nat.le_refl _) (.cells #[ptr X.pu] 74)
  have HB := hid (h.below hb)
  have HR := hid (b_uRead (h.below hb) o o0 o1)
  have hc : (w.alloc (.cells #[ptr X.pu] 74)).cell? ⟨w.heap.size, 0, none⟩ = some (ptr X.pu) := cell_of_row _ _ 0 _ _ _ (heap_alloc_new w _)
  rw [hV] at HR
  clear h hb
  by_cases hz : z = 1
  · subst hz
    have e1 : IntKind.u64.wrap V = V := by rw [IntKind.wrap_u64]; omega
    have HBn : Hid (∀ w1, Bo W w1 { X with U := (X.U.rd o).2 } → Bo W w1 (if (1 : Int) = 1 then X.au (X.U.rd o).2 else X)) := fun w1 q => by rw [if_pos rfl]; exact q
    go_enter Tryz.func222, Tryz.ntmps222
    go_wp2_with (go_at_call 214; refine HR.out.mono ?_; rintro r w1 ⟨rfl, k⟩; have H1 := hid k; clear k)
    go_returns
    exact ⟨rfl, HBn.out _ H1.out⟩
  · clear HR
    go_enter Tryz.func222, Tryz.ntmps222
    go_wp2
    go_returns
    exact ⟨rfl, HB.out⟩
set_option maxHeartbeats 1000000 in
theorem sp_slot (h : Bo W w X) (o : Int) (o0 : 0 ≤ o) (o1 : o < 18446744073709551616) : Calls Tryz.prog 234 #[ptr X.ps, .int .u64 o] w fun r w' => r = .returned (.int .i64 (o / 4096)) ∧ w' = w := by
  have cs := h.sp.2
  have e1 : o.tdiv 4096 = o / 4096 := by rw [Int.tdiv_eq_ediv_of_nonneg o0]
  have e2 : IntKind.u64.wrap (o / 4096) = o / 4096 := by rw [IntKind.wrap_u64]; omega
  have e3 : IntKind.i64.wrap (o / 4096) = o / 4096 := by rw [IntKind.wrap_i64]; omega
  have e4 : ¬ o / 4096 = -1 := by omega
  clear h
  go_enter Tryz.func234, Tryz.ntmps234
  go_wp2
  go_ret
  exact ⟨rfl, rfl⟩
set_option maxHeartbeats 1000000 in
theorem sp_read (h : Bo W w X) (o z nw : Int) (o0 : 0 ≤ o) (o1 : o < 18446744073709551616) (z0 : -9223372036854775808 ≤ z) (z1 : z ≤ 9223372036854775807) : Calls Tryz.prog 230 #[ptr X.ps, .int .u64 o, .int .i64 z, .int .u64 nw] w fun r w' => r = .returned (.tuple #[.int .u64 (P.rdV X.n X.V (o / 4096) (o % 4096) z), .bool (P.fitB (o % 4096) z)]) ∧ Bo W w' X := by
  have HB := hid h
  have cs := h.sp.1
  have e1 : o.tmod 4096 = o % 4096 := by rw [Int.tmod_eq_emod_of_nonneg o0]
  have e2 : IntKind.u64.wrap (o % 4096) = o % 4096 := by rw [IntKind.wrap_u64]; omega
  have HSL := hid (fun w8 (q : Bo W w8 X) => sp_slot q o o0 o1)
  have HRD := hid (fun w8 (q : Bo W w8 X) => P.l_Read q.lb (o / 4096) (o % 4096) z (by omega) (by omega) (by omega) (by omega) z0 z1)
  clear h
  go_enter Tryz.func230, Tryz.ntmps230
  go_wp2_with fail
  go_quiet (first | (go_at_call 234; exact Calls.quiet_of_same (HSL.out _ (HB.out.below (L.dnB w _)))) | (go_at_call 233; exact Calls.quiet_of_same (HRD.out _ (HB.out.below (L.dnB w _)))))
  go_wp2_with fail
  go_returns
  exact ⟨rfl, HB.out.below (L.dnB w _)⟩
end
end Go.Proofs.YtjkihlpckgaggaaGreat
namespace Go.Proofs.YtjkihlpckgaggaaGreat
open Go.RowKit
open C (Only hid Still ret_bool ret_int)
set_option linter.unusedVariables false
set_option maxRecDepth 100000

theorem fd_u (X : BX) (o : Int) (o0 : 0 ≤ o) (o1 : o < 8) : fdD X (268435456 + o) = pt0 X.pu ∧ fdF X (268435456 + o) = o := by
  have e : plO (268435456 + o) 0 = o := by show IntKind.u64.wrap ((268435456 + o) - 268435456) = _; rw [IntKind.wrap_u64]; omega
  have h : hitP (268435456 + o) 0 = true := by unfold hitP; rw [e]; exact decide_eq_true (show o < 8 from o1)
  unfold fdD fdF
  rw [h, e]
  exact ⟨rfl, rfl⟩
theorem fd_p (X : BX) (o : Int) (o0 : 0 ≤ o) (o1 : o < 32768) : fdD X (805306368 + o) = .iface 76 (ptr X.ps) ∧ fdF X (805306368 + o) = o := by
  have e0 : plO (805306368 + o) 0 = 536870912 + o := by show IntKind.u64.wrap ((805306368 + o) - 268435456) = _; rw [IntKind.wrap_u64]; omega
  have e1 : plO (805306368 + o) 1 = 536866816 + o := by show IntKind.u64.wrap ((805306368 + o) - 268439552) = _; rw [IntKind.wrap_u64]; omega
  have e2 : plO (805306368 + o) 2 = 603979776 + o := by show IntKind.u64.wrap ((805306368 + o) - 201326592) = _; rw [IntKind.wrap_u64]; omega
  have e3 : plO (805306368 + o) 3 = o := by show IntKind.u64.wrap ((805306368 + o) - 805306368) = _; rw [IntKind.wrap_u64]; omega
  have h0 : hitP (805306368 + o) 0 = false := by unfold hitP; rw [e0]; exact decide_eq_false (show ¬ 536870912 + o < 8 by omega)
  have h1 : hitP (805306368 + o) 1 = false := by unfold hitP; rw [e1]; exact decide_eq_false (show ¬ 536866816 + o < 4096 by omega)
  have h2 : hitP (805306368 + o) 2 = false := by unfold hitP; rw [e2]; exact decide_eq_false (show ¬ 603979776 + o < 16384 by omega)
  have h3 : hitP (805306368 + o) 3 = true := by unfold hitP; rw [e3]; exact decide_eq_true (show o < 32768 from o1)
  unfold fdD fdF
  rw [h0, h1, h2, h3, e3]
  exact ⟨rfl, rfl⟩
section
variable {W w : World} {X : BX}
theorem BX.at_bp (X : BX) (I : L.IV) : (X.at I).bp = X.bp := rfl
set_option maxHeartbeats 1000000 in
theorem b_ReadU (h : Bo W w X) (mv : Value) (o z nw : Int) (o0 : 0 ≤ o) (o1 : o < 8) (V : Int) (hV : (X.U.rd o).1 = V) (v0 : 0 ≤ V) (v1 : V < 256) (Y : BX) (hY : Y = if z = 1 then X.au (X.U.rd o).2 else X) :
    Calls Tryz.prog 14 #[ptr X.bp, mv, .int .u64 (268435456 + o), .int .i64 z, .int .u64 nw] w fun r w' => r = .returned (.tuple #[.int .u64 (if z = 1 then V else 0), .bool (decide (z = 1))]) ∧ Bo W w' (Y.at (lvI Y Y.n)) := by
  have hF := b_find h (268435456 + o) (by omega) (by omega)
  obtain ⟨e1, e2⟩ := fd_u X o o0 o1
  rw [e1, e2] at hF
  have HF := hid hF
  have HR := hid (fun w8 (q : Bo W w8 X) => s_read q o z nw o0 (by omega) V hV v0 v1)
  rw [← hY] at HR
  have hbp : Y.bp = X.bp := by rw [hY]; split <;> rfl
  have HL := hid (fun w8 (q : Bo W w8 Y) => b_level W w8 Y q)
  rw [hbp] at HL
  generalize (if z = 1 then V else 0) = rv at *
  generalize decide (z = 1) = rb at *
  clear h hF e1 e2 hY hbp
  go_enter Tryz.func14, Tryz.ntmps14
  go_wp2_with (first
    | (go_at_call 24; refine HF.out.mono ?_; rintro r w1 ⟨rfl, k⟩; have H1 := hid k; clear k)
    | (go_at_call 222; refine (HR.out w1 H1.out).mono ?_; rintro r w2 ⟨rfl, k⟩; have H2 := hid k; clear k)
    | (go_at_call 25; refine (HL.out w2 H2.out).mono ?_; rintro r w3 ⟨rfl, k⟩; have H3 := hid k; clear k))
  go_returns
  exact ⟨rfl, H3.out⟩
set_option maxHeartbeats 1000000 in
theorem b_ReadP (h : Bo W w X) (mv : Value) (o z nw : Int) (o0 : 0 ≤ o) (o1 : o < 32768) (z0 : -9223372036854775808 ≤ z) (z1 : z ≤ 9223372036854775807) :
    Calls Tryz.prog 14 #[ptr X.bp, mv, .int .u64 (805306368 + o), .int .i64 z, .int .u64 nw] w fun r w' => r = .returned (.tuple #[.int .u64 (P.rdV X.n X.V (o / 4096) (o % 4096) z), .bool (P.fitB (o % 4096) z)]) ∧ Bo W w' (X.at (lvI X X.n)) := by
  have hF := b_find h (805306368 + o) (by omega) (by omega)
  obtain ⟨e1, e2⟩ := fd_p X o o0 o1
  rw [e1, e2] at hF
  have HF := hid hF
  have HR := hid (fun w8 (q : Bo W w8 X) => sp_read q o z nw o0 (by omega) z0 z1)
  have HL := hid (fun w8 (q : Bo W w8 X) => b_level W w8 X q)
  generalize P.rdV X.n X.V (o / 4096) (o % 4096) z = rv at *
  generalize P.fitB (o % 4096) z = rb at *
  clear h hF e1 e2
  go_enter Tryz.func14, Tryz.ntmps14
  go_wp2_with (first
    | (go_at_call 24; refine HF.out.mono ?_; rintro r w1 ⟨rfl, k⟩; have H1 := hid k; clear k)
    | (go_at_call 230; refine (HR.out w1 H1.out).mono ?_; rintro r w2 ⟨rfl, k⟩; have H2 := hid k; clear k)
    | (go_at_call 25; refine (HL.out w2 H2.out).mono ?_; rintro r w3 ⟨rfl, k⟩; have H3 := hid k; clear k))
  go_returns
  exact ⟨rfl, H3.out⟩
set_option maxHeartbeats 1000000 in
theorem b_InU {c : Nat → Nat} (h : Bd W w c X) (mv u : Value) (l : List Int) (hl : w.ownsRow 0 5 1 u l.length (L.bys l)) (hc : ∀ k, Ug u k → c k = 0) (hb : ∀ v ∈ l, 0 ≤ v ∧ v < 256) (hm : (l.length : Int) ≤ 9223372036854775807) (Y : BX) (hY : Y = X.au (inns X.U l)) :
    Calls Tryz.prog 15 #[ptr X.bp, mv, .int .i64 0, u] w fun r w' => r = .returned (.bool true) ∧ Bo W w' (Y.at (lvI Y Y.n)) := by
  have HI := hid (s_in h mv u l hl hc hb hm)
  have hB : Bo W w X := ⟨c, h⟩
  have cg := hB.cs.2.2.2.2.2.1
  have cp := hB.port0
  rw [← hY] at HI
  have hbp : Y.bp = X.bp := by rw [hY]; rfl
  have HL := hid (fun w8 (q : Bo W w8 Y) => b_level W w8 Y q)
  rw [hbp] at HL
  obtain ⟨ad, cp2, rfl⟩ := own_form hl
  clear h hB hY hbp hl
  have hn0 : (0 : Int) < ((X.n + 1 : Nat) : Int) := by omega
  have hn1 : ¬ (0 : Int) ≥ ((X.n + 1 : Nat) : Int) := by omega
  go_enter Tryz.func15, Tryz.ntmps15
  go_wp2_with (first
    | (go_at_call 221; refine HI.out.mono ?_; rintro r w1 ⟨rfl, k⟩; have H1 := hid k; clear k)
    | (go_at_call 25; refine (HL.out w1 H1.out).mono ?_; rintro r w3 ⟨rfl, k⟩; have H3 := hid k; clear k))
  go_returns
  exact ⟨rfl, H3.out⟩
end
end Go.Proofs.YtjkihlpckgaggaaGreat
namespace Go.Proofs.YtjkihlpckgaggaaGreat
open Go.RowKit Go.MapKept
open C (Only hid Still ret_bool ret_int)
set_option linter.unusedVariables false
set_option maxRecDepth 100000

abbrev Ad := Int × Int × Int × Int × Int × Int
def kA (a : Ad) : Array Value := #[.int .u8 a.1, .int .u8 a.2.1, .int .u8 a.2.2.1, .int .u8 a.2.2.2.1, .int .u8 a.2.2.2.2.1, .int .u8 a.2.2.2.2.2]
theorem u_au8 : Tryz.prog.underlying 5 = some (.int .u8) := by kernel_rfl
end Go.Proofs.YtjkihlpckgaggaaGreat
