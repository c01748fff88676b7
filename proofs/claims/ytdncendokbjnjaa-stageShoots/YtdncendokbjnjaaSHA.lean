/- The document's shootdowns: a list a hart. -/
import Derived.Test.YtdncendokbjnjaaSS
import Derived.Test.YtdncendokbjnjaaETQ
namespace Go.Proofs.Ytdncendokbjnjaa
open Go.RowKit
open C (Only hid Mem RMem Still ret_bool ret_int)
set_option linter.unusedVariables false
set_option maxRecDepth 100000

/-- a number is gone by, as a list is copied with a new one put in where it belongs -/
def psF (vm : Nat) (s : List Nat × Bool) (x : Nat) : List Nat × Bool := if s.2 = false ∧ vm ≤ x then ((if vm < x then s.1 ++ [vm] else s.1) ++ [x], true) else (s.1 ++ [x], s.2)
def pfF (vm : Nat) (l : List Nat) : List Nat × Bool := l.foldl (psF vm) ([], false)
def peF (vm : Nat) (l : List Nat) : List Nat := if (pfF vm l).2 = true then (pfF vm l).1 else (pfF vm l).1 ++ [vm]
theorem pfF_add (vm : Nat) (l : List Nat) (x : Nat) : pfF vm (l ++ [x]) = psF vm (pfF vm l) x := by unfold pfF; rw [List.foldl_append]; rfl
theorem psF_len (vm : Nat) : ∀ (l : List Nat) (s : List Nat × Bool), (l.foldl (psF vm) s).1.length ≤ s.1.length + l.length + (bif s.2 then 0 else 1)
  | [], s => by simp
  | x :: l, s => by
    refine Nat.le_trans (psF_len vm l (psF vm s x)) ?_
    unfold psF
    obtain ⟨a, b⟩ := s
    cases b
    · by_cases h : vm ≤ x
      · rw [if_pos ⟨rfl, h⟩]
        by_cases h2 : vm < x
        · rw [if_pos h2]; simp; omega
        · rw [if_neg h2]; simp; omega
      · rw [if_neg (fun z => h z.2)]; simp; omega
    · rw [if_neg (fun z => by cases z.1)]; simp; omega
theorem pfF_len (vm : Nat) (l : List Nat) : (pfF vm l).1.length ≤ l.length + 1 := by
  have := psF_len vm l ([], false)
  unfold pfF
  simpa using this
theorem bit_or (n vm j : Nat) : ((orB n vm) / 2 ^ j % 2 = 1) ↔ (n / 2 ^ j % 2 = 1 ∨ vm = j) := by
  have h1 : Nat.testBit (orB n vm) j = (Nat.testBit n j || decide (vm = j)) := by unfold orB; rw [Nat.testBit_or, Nat.testBit_two_pow]
  rw [Nat.testBit_eq_decide_div_mod_eq, Nat.testBit_eq_decide_div_mod_eq] at h1
  rw [← decide_eq_true_iff (p := _ / _ % 2 = 1), h1]
  simp
theorem vl_yes {n k : Nat} (h1 : 1 ≤ k) (h2 : n / 2 ^ k % 2 = 1) : vl n (k + 1) = vl n k ++ [k] := by
  show (bif decide (1 ≤ k) && decide (n / 2 ^ k % 2 = 1) then vl n k ++ [k] else vl n k) = _
  rw [decide_eq_true h1, decide_eq_true h2]; rfl
theorem vl_no {n k : Nat} (h : ¬ (1 ≤ k ∧ n / 2 ^ k % 2 = 1)) : vl n (k + 1) = vl n k := by
  show (bif decide (1 ≤ k) && decide (n / 2 ^ k % 2 = 1) then vl n k ++ [k] else vl n k) = _
  have : (decide (1 ≤ k) && decide (n / 2 ^ k % 2 = 1)) = false := by simp; omega
  rw [this]; rfl
theorem pf_vl (n vm : Nat) (v1 : 1 ≤ vm) : ∀ k, (k ≤ vm → pfF vm (vl n k) = (vl n k, false) ∧ vl (orB n vm) k = vl n k) ∧ (vm < k → ((pfF vm (vl n k)).2 = true ∧ (pfF vm (vl n k)).1 = vl (orB n vm) k) ∨ ((pfF vm (vl n k)).2 = false ∧ vl (orB n vm) k = (pfF vm (vl n k)).1 ++ [vm]))
  | 0 => ⟨fun _ => ⟨rfl, rfl⟩, fun h => by omega⟩
  | k + 1 => by
    obtain ⟨i1, i2⟩ := pf_vl n vm v1 k
    have hb := bit_or n vm k
    by_cases hk : 1 ≤ k ∧ n / 2 ^ k % 2 = 1
    · have e1 := vl_yes hk.1 hk.2
      have e2 := vl_yes hk.1 (hb.2 (.inl hk.2))
      rw [e1, e2, pfF_add]
      refine ⟨fun h => ?_, fun h => ?_⟩
      · obtain ⟨a, b⟩ := i1 (by omega)
        rw [a, b]
        unfold psF
        rw [if_neg (by omega)]
        exact ⟨rfl, rfl⟩
      · by_cases hv : vm = k
        · obtain ⟨a, b⟩ := i1 (by omega)
          rw [a, b]
          unfold psF
          rw [if_pos ⟨rfl, by omega⟩, if_neg (by omega)]
          exact .inl ⟨rfl, rfl⟩
        · rcases i2 (by omega) with ⟨a, b⟩ | ⟨a, b⟩
          · unfold psF
            rw [if_neg (fun z => by rw [a] at z; cases z.1), b]
            exact .inl ⟨a, rfl⟩
          · unfold psF
            rw [if_pos ⟨a, by omega⟩, if_pos (by omega), b]
            exact .inl ⟨rfl, rfl⟩
    · have e1 := vl_no hk
      rw [e1]
      refine ⟨fun h => ?_, fun h => ?_⟩
      · have e2 : vl (orB n vm) (k + 1) = vl (orB n vm) k := vl_no fun z => hk ⟨z.1, (hb.1 z.2).resolve_right (by omega)⟩
        rw [e2]
        exact i1 (by omega)
      · by_cases hv : vm = k
        · obtain ⟨a, b⟩ := i1 (by omega)
          rw [vl_yes (by omega) (hb.2 (.inr hv)), a, b]
          exact .inr ⟨rfl, by rw [hv]⟩
        · have e2 : vl (orB n vm) (k + 1) = vl (orB n vm) k := vl_no fun z => hk ⟨z.1, (hb.1 z.2).resolve_right hv⟩
          rw [e2]
          exact i2 (by omega)
theorem pe_vl (n vm : Nat) (v1 : 1 ≤ vm) (v15 : vm ≤ 15) : peF vm (vl n 16) = vl (orB n vm) 16 := by
  unfold peF
  rcases (pf_vl n vm v1 16).2 (by omega) with ⟨a, b⟩ | ⟨a, b⟩
  · rw [if_pos a, b]
  · rw [if_neg (by rw [a]; decide), b]
/-- the document's, in memory -/
structure Hs (w : World) (q gh h : Nat) (V : Nat → Value) (D : Nat → List Nat) : Prop where
  top : w.heap[q]? = some (.cells #[.slice (some ⟨gh, 0, none⟩) h h] 95 (0, 0))
  tab : w.heap[gh]? = some (.cells ((List.range h).map V).toArray 58 (0, 0))
  ls : ∀ i, i < h → w.ownsRow 0 3 1 (V i) (D i).length (lsv (D i))
  h0 : 1 ≤ h
  h8 : h ≤ 8
  dl : ∀ i, (D i).length ≤ 16
section
variable {w w' : World} {q gh h : Nat} {V : Nat → Value} {D : Nat → List Nat}
theorem Hs.c0 (H : Hs w q gh h V D) : w.cell? ⟨q, 0, none⟩ = some (.slice (some ⟨gh, 0, none⟩) h h) := cell_of_row w q 0 _ _ _ H.top
theorem Hs.cv (H : Hs w q gh h V D) {i : Nat} (hi : i < h) : w.cell? ⟨gh, i, none⟩ = some (V i) := by
  rw [cell_of_row w gh i _ _ _ H.tab]
  simp [hi]
theorem Hs.fz (H : Hs w q gh h V D) (i : Nat) : w.frozen? ⟨gh, i, none⟩ = false := frozen_of_row w gh i _ _ H.tab
theorem Hs.ne (H : Hs w q gh h V D) : q ≠ gh := fun e => by have := H.top; rw [e, H.tab] at this; simp at this
/-- what turns no such block turns nothing of it -/
theorem Hs.only (H : Hs w q gh h V D) {T : Nat → Prop} (ho : Only T w w') (hT : ∀ x c t, w.heap[x]? = some (.cells c t (0, 0)) → T x → t ≠ 95 ∧ t ≠ 58 ∧ t ≠ 3) : Hs w' q gh h V D :=
  ⟨ho.old H.top fun z => (hT _ _ _ H.top z).1 rfl, ho.old H.tab fun z => (hT _ _ _ H.tab z).2.1 rfl, fun i hi => own_only (H.ls i hi) ho fun x hx z => by
    obtain ⟨c, hc⟩ := own_typ (H.ls i hi) hx
    exact (hT _ _ _ hc z).2.2 rfl, H.h0, H.h8, H.dl⟩
theorem Hs.below (H : Hs w q gh h V D) (hb : Below w.heap.size w w') : Hs w' q gh h V D := H.only (T := fun _ => False) (.ofBelow hb) fun _ _ _ _ z => z.elim
/-- a list is laid in -/
theorem Hs.set (H : Hs w q gh h V D) {k : Nat} (hk : k < h) {u : Value} {l : List Nat} (hl : w.ownsRow 0 3 1 u l.length (lsv l)) (hn : l.length ≤ 16) : Hs (w.setCell ⟨gh, k, none⟩ u) q gh h (fun i => if i = k then u else V i) (fun i => if i = k then l else D i) := by
  have ho := only_c w gh k u
  refine ⟨ho.old H.top H.ne, setRowB w gh k _ _ _ _ H.tab ?_, fun i hi => ?_, H.h0, H.h8, fun i => ?_⟩
  · apply Array.ext
    · simp
    · intro j h1 h2
      simp at h1 h2
      rw [Array.getElem_setIfInBounds (by simpa using h1)]
      by_cases e : k = j
      · subst e; simp
      · rw [if_neg e]
        simp
        exact fun z => absurd z.symm e
  · have ty : ∀ {u : Value} {l : List Nat}, w.ownsRow 0 3 1 u l.length (lsv l) → (w.setCell ⟨gh, k, none⟩ _).ownsRow 0 3 1 u l.length (lsv l) := fun hh => own_only hh ho fun x hx e => by
      obtain ⟨c, hc⟩ := own_typ hh hx
      have := H.tab
      rw [← e, hc] at this
      simp at this
    by_cases e : i = k
    · rw [if_pos e, if_pos e]; exact ty hl
    · rw [if_neg e, if_neg e]; exact ty (H.ls i hi)
  · by_cases e : i = k
    · rw [if_pos e]; exact hn
    · rw [if_neg e]; exact H.dl i
end
theorem info_ss : (Try.prog.info? 58).map (fun i => (i.zero, i.size, i.bytes)) = some (some (.slice none 0 0), 1, 24) := by kernel_rfl
theorem u_ss : Try.prog.underlying 93 = some (.slice 58) := by kernel_rfl
theorem made_ss (n : Nat) : madeCells (Value.slice none 0 0).cells (n * 1) = ((List.range n).map fun _ => Value.slice none 0 0).toArray := by
  apply Array.ext
  · rw [size_madeCells]; simp
  · intro j h1 h2
    have e : (Value.slice none 0 0).cells = #[.slice none 0 0] := by rfl
    simp only [madeCells, Array.getElem_map, Array.getElem_range, e]
    simp [Nat.mod_one]
theorem hh_New_bad (w : World) (h : Int) (hb : h < 1 ∨ 8 < h) : Calls Try.prog 27 #[.int .i64 h] w fun r w' => r = .returned (.tuple #[.pointer none, .int .i64 1]) ∧ w' = w := by
  go_enter Try.func27, Try.ntmps27
  by_cases h1 : h < 1
  · go_wp2; go_ret2; exact ⟨rfl, rfl⟩
  · have h2 : h > 8 := by omega
    go_wp2; go_ret2; exact ⟨rfl, rfl⟩
theorem hh_New (w : World) (h : Nat) (h1 : 1 ≤ h) (h8 : h ≤ 8) : Calls Try.prog 27 #[.int .i64 h] w fun r w' => ∃ q, r = .returned (.tuple #[.pointer (some ⟨q, 0, none⟩), .int .i64 0]) ∧ ∃ gh, Hs w' q gh h (fun _ => .slice none 0 0) (fun _ => []) ∧ Below w.heap.size w w' ∧ w.heap.size ≤ q ∧ w.heap.size ≤ gh := by
  have g1 : ¬ (h : Int) < 1 := by omega
  have g2 : ¬ (8 : Int) < h := by omega
  go_enter Try.func27, Try.ntmps27
  go_wp2_with (at_make; refine wpList_made _ rfl _ _ 93 rfl 58 _ 1 24 u_ss info_ss h rfl rfl (by omega) (by omega) _ (made_ss h) ?_)
  go_ret2
  refine ⟨w.heap.size + 1, rfl, w.heap.size, ⟨heap_alloc2_new w _ _, heap_alloc2_old w _ _, fun i hi => World.ownsRow_nil _ _ _ _, h1, h8, fun _ => Nat.zero_le _⟩, ((Below.refl _ _).alloc (Nat.le_refl _) _).alloc (by simp) _, by omega, Nat.le_refl _⟩
theorem hh_Post_no (w : World) (q : Nat) (x : Int) (hx : x < 1 ∨ 15 < x) : Calls Try.prog 31 #[.pointer (some ⟨q, 0, none⟩), .int .i64 x] w fun r w' => r = .returned (.tuple #[]) ∧ w' = w := by
  go_enter Try.func31, Try.ntmps31
  by_cases h1 : x < 1
  · go_wp2; go_returns; exact ⟨rfl, rfl⟩
  · have h2 : x > 15 := by omega
    go_wp2; go_returns; exact ⟨rfl, rfl⟩
end Go.Proofs.Ytdncendokbjnjaa
