/- What a TLB tells, over lists. -/
import Derived.Test.YtgenjhcpcjhpmaaTI
namespace Go.Proofs.Ytgenjhcpcjhpmaa
open Go.RowKit
set_option linter.unusedVariables false

/-- no page twice -/
def Nd (L : List TV) : Prop := L.Pairwise fun x y => x.here y.v y.p = false
theorem Nd.nil : Nd [] := List.Pairwise.nil
theorem Nd.filter {L : List TV} (h : Nd L) (K : TV → Bool) : Nd (L.filter K) := List.Pairwise.filter K h
theorem Nd.fp {L : List TV} (h : Nd L) (v p : Int) : Nd (fp L v p) := h.filter _
theorem Nd.fl {L : List TV} (h : Nd L) (v : Int) : Nd (fl L v) := h.filter _
theorem Nd.ev {L : List TV} (h : Nd L) : Nd (ev L) := by
  cases L with
  | nil => exact h
  | cons y L => exact Nd.fp h _ _
theorem mem_fp {L : List TV} {v p : Int} {x : TV} : x ∈ fp L v p ↔ x ∈ L ∧ x.here v p = false := by
  unfold fp
  rw [List.mem_filter]
  simp
theorem mem_fl {L : List TV} {v : Int} {x : TV} : x ∈ fl L v ↔ x ∈ L ∧ x.v ≠ v := by
  unfold fl
  rw [List.mem_filter]
  simp
theorem mem_ev {L : List TV} {x : TV} (h : x ∈ ev L) : x ∈ L := by
  cases L with
  | nil => exact h
  | cons y L => exact (mem_fp.1 h).1
theorem mem_pu {room : Nat} {L : List TV} {e x : TV} (h : x ∈ pu room L e) : x ∈ fp L e.v e.p ∨ x = e := by
  unfold pu at h
  rw [List.mem_append, List.mem_singleton] at h
  rcases h with h | h
  · split at h
    · exact .inl (mem_ev h)
    · exact .inl h
  · exact .inr h
theorem Nd.pu {L : List TV} (h : Nd L) (room : Nat) (e : TV) : Nd (pu room L e) := by
  unfold Go.Proofs.Ytgenjhcpcjhpmaa.pu Nd
  rw [List.pairwise_append]
  refine ⟨?_, List.pairwise_singleton _ _, fun a ha b hb => ?_⟩
  · split
    · exact Nd.ev (Nd.fp h _ _)
    · exact Nd.fp h _ _
  · rw [List.mem_singleton] at hb
    subst hb
    split at ha
    · exact (mem_fp.1 (mem_ev ha)).2
    · exact (mem_fp.1 ha).2
/-- what is there of a page was put last -/
def Iv (L : List TV) (v p : Int) (lst : TV) (b : Bool) : Prop := ∀ x, x ∈ L → x.here v p = true → b = true ∧ x = lst
theorem here_iff {x : TV} {v p : Int} : x.here v p = true ↔ x.v = v ∧ x.p = p := by simp [TV.here]
theorem Iv.nil (v p : Int) (lst : TV) (b : Bool) : Iv [] v p lst b := fun x hx => by simp at hx
theorem Iv.sub {L M : List TV} {v p : Int} {lst : TV} {b : Bool} (h : Iv L v p lst b) (hs : ∀ x, x ∈ M → x ∈ L) : Iv M v p lst b := fun x hx q => h x (hs x hx) q
theorem Iv.put_in {L : List TV} {v p : Int} {lst : TV} {b : Bool} (h : Iv L v p lst b) (room : Nat) (e : TV) (he : e.v = v ∧ e.p = p) : Iv (pu room L e) v p e true := by
  intro x hx q
  rcases mem_pu hx with hx | hx
  · have := (mem_fp.1 hx).2
    rw [he.1, he.2, q] at this
    cases this
  · exact ⟨rfl, hx⟩
theorem Iv.put_out {L : List TV} {v p : Int} {lst : TV} {b : Bool} (h : Iv L v p lst b) (room : Nat) (e : TV) (he : ¬ (e.v = v ∧ e.p = p)) : Iv (pu room L e) v p lst b := by
  intro x hx q
  rcases mem_pu hx with hx | hx
  · exact h x (mem_fp.1 hx).1 q
  · subst hx; exact absurd (here_iff.1 q) he
theorem Iv.fl {L : List TV} {v p : Int} {lst : TV} {b : Bool} (h : Iv L v p lst b) (u : Int) : Iv (fl L u) v p lst (b && !decide (u = v)) := by
  intro x hx q
  obtain ⟨h1, h2⟩ := mem_fl.1 hx
  obtain ⟨h3, h4⟩ := h x h1 q
  have := (here_iff.1 q).1
  refine ⟨?_, h4⟩
  have e : ¬ u = v := fun e => h2 (by rw [this, e])
  simp [h3, e]
theorem Iv.fp {L : List TV} {v p : Int} {lst : TV} {b : Bool} (h : Iv L v p lst b) (u r : Int) : Iv (fp L u r) v p lst (b && (!decide (u = v) || !decide (r = p))) := by
  intro x hx q
  obtain ⟨h1, h2⟩ := mem_fp.1 hx
  obtain ⟨h3, h4⟩ := h x h1 q
  obtain ⟨e1, e2⟩ := here_iff.1 q
  refine ⟨?_, h4⟩
  have e : ¬ (u = v ∧ r = p) := fun ⟨a, c⟩ => by
    rw [a, c, q] at h2
    cases h2
  by_cases a : u = v
  · have : ¬ r = p := fun c => e ⟨a, c⟩
    simp [h3, this]
  · simp [h3, a]
theorem Iv.lk {L : List TV} {v p : Int} {lst : TV} {b : Bool} (h : Iv L v p lst b) : (lk L v p = (lst, true) ∧ b = true) ∨ lk L v p = (TV.zero, false) := by
  unfold Go.Proofs.Ytgenjhcpcjhpmaa.lk
  cases q : L.find? (fun x => x.here v p) with
  | none => exact .inr rfl
  | some x =>
    obtain ⟨h1, h2⟩ := h x (List.mem_of_find?_eq_some q) (by simpa using List.find?_some q)
    subst h2
    exact .inl ⟨rfl, h1⟩
theorem Nd.at {L : List TV} (h : Nd L) {i j : Nat} {x y : TV} (hi : L[i]? = some x) (hj : L[j]? = some y) (hij : j < i) : ¬ (x.v = y.v ∧ x.p = y.p) := by
  obtain ⟨hi1, hi2⟩ := List.getElem?_eq_some_iff.1 hi
  obtain ⟨hj1, hj2⟩ := List.getElem?_eq_some_iff.1 hj
  have := List.pairwise_iff_getElem.1 h j i hj1 hi1 hij
  rw [hi2, hj2] at this
  rintro ⟨a, b⟩
  have : y.here x.v x.p = true := here_iff.2 ⟨a.symm, b.symm⟩
  simp_all
theorem tmod_place (z n : Int) (hn : 0 < n) : (z.tmod n < 0 → z.tmod n + n = z % n) ∧ (¬ z.tmod n < 0 → z.tmod n = z % n) := by
  have h0 := Int.emod_nonneg z (by omega : n ≠ 0)
  have h1 := Int.emod_lt_of_pos z hn
  rw [Int.tmod_eq_emod]
  split
  · omega
  · have : ((n.natAbs : Nat) : Int) = n := by omega
    constructor
    · intro _; omega
    · intro q; exfalso; omega
theorem c_Place (z n : Int) (n0 : 0 < n) (n1 : n ≤ 4611686018427387904) (z0 : -9223372036854775808 ≤ z) (z1 : z ≤ 9223372036854775807) (w : World) :
    Calls Try.prog 9 #[.int .i64 z, .int .i64 n] w fun e w' => e = .returned (.int .i64 (z % n)) ∧ w' = w := by
  obtain ⟨ht, hf⟩ := tmod_place z n n0
  have HT := hid (ht)
  have HF := hid (hf)
  have hlo := Int.lt_tmod_of_pos z n0
  have hhi := Int.tmod_lt_of_pos z n0
  clear ht hf
  have hnz : n ≠ 0 := by omega
  have hnm : n ≠ -1 := by omega
  go_enter Try.func9, Try.ntmps9
  by_cases q : z.tmod n < 0
  · go_wp2
    go_ret
    exact ⟨ret_int (HT.out q), rfl⟩
  · go_wp2
    go_ret
    exact ⟨ret_int (HF.out q), rfl⟩
end Go.Proofs.Ytgenjhcpcjhpmaa
