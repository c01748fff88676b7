/- Entries of a TLB as they stand in memory, four cells each; what the small functions answer. -/
import Derived.Test.YtgenjhcpcjhpmaaProg
import Derived.Test.YtgenjhcpcjhpmaaRA
import Derived.BigQuiet
import Derived.Handy
namespace Go.Proofs.Ytgenjhcpcjhpmaa
open Go.RowKit
set_option linter.unusedVariables false

structure TV where
  v : Int
  p : Int
  f : Int
  r : Int
def TV.zero : TV := ⟨0, 0, 0, 0⟩
def TV.cs (x : TV) : List Value := [.int .i64 x.v, .int .u64 x.p, .int .u64 x.f, .int .i64 x.r]
abbrev TV.ag (x : TV) : Value := .agg #[.int .i64 x.v, .int .u64 x.p, .int .u64 x.f, .int .i64 x.r]
def TV.here (x : TV) (v p : Int) : Bool := decide (x.v = v) && decide (x.p = p)
theorem TV.one (x : TV) : ∀ u ∈ x.cs, u.oneCell' = true := by
  intro u hu
  simp [TV.cs] at hu
  rcases hu with rfl | rfl | rfl | rfl <;> rfl
def flat : List TV → List Value
  | [] => []
  | x :: l => x.cs ++ flat l
theorem flat_length (l : List TV) : (flat l).length = l.length * 4 := by
  induction l with
  | nil => rfl
  | cons x l ih => simp [flat, ih, TV.cs]; omega
theorem flat_append (a b : List TV) : flat (a ++ b) = flat a ++ flat b := by
  induction a with
  | nil => rfl
  | cons x l ih => simp [flat, ih]
theorem flat_one (x : TV) : flat [x] = x.cs := by simp [flat]
theorem flat_take (l : List TV) (k : Nat) : (flat l).take (k * 4) = flat (l.take k) := by
  induction l generalizing k with
  | nil => simp [flat]
  | cons x l ih =>
    cases k with
    | zero => simp [flat]
    | succ k =>
      rw [List.take_succ_cons, flat, flat, ← ih k, show (k + 1) * 4 = 4 + k * 4 by omega, List.take_append, show x.cs.length = 4 from rfl, List.take_of_length_le (by show 4 ≤ _; omega)]
      congr 2; omega
theorem flat_drop (l : List TV) (k : Nat) : (flat l).drop (k * 4) = flat (l.drop k) := by
  induction l generalizing k with
  | nil => simp [flat]
  | cons x l ih =>
    cases k with
    | zero => simp [flat]
    | succ k =>
      rw [List.drop_succ_cons, flat, ← ih k, show (k + 1) * 4 = 4 + k * 4 by omega, List.drop_append, show x.cs.length = 4 from rfl, List.drop_of_length_le (by show 4 ≤ _; omega)]
      simp
theorem flat_get (l : List TV) (i : Nat) (x : TV) (h : l[i]? = some x) (j : Nat) (hj : j < 4) : (flat l)[i * 4 + j]? = x.cs[j]? := by
  induction l generalizing i with
  | nil => simp at h
  | cons y l ih =>
    cases i with
    | zero =>
      simp at h
      subst h
      rw [flat, List.getElem?_append_left (by show _ < 4; omega)]
      congr 1; omega
    | succ i =>
      rw [flat, List.getElem?_append_right (by show 4 ≤ _; omega), ← ih i (by simpa using h)]
      congr 1
      show _ - 4 = _
      omega
theorem flat_one' (l : List TV) : ∀ u ∈ flat l, u.oneCell' = true := by
  induction l with
  | nil => intro u hu; simp [flat] at hu
  | cons x l ih =>
    intro u hu
    rw [flat, List.mem_append] at hu
    rcases hu with q | q
    · exact x.one u q
    · exact ih u q
theorem flat_inj {a b : List TV} (h : flat a = flat b) : a = b := by
  induction a generalizing b with
  | nil =>
    cases b with
    | nil => rfl
    | cons y b => simp [flat, TV.cs] at h
  | cons x a ih =>
    cases b with
    | nil => simp [flat, TV.cs] at h
    | cons y b =>
      simp [flat, TV.cs] at h
      obtain ⟨h1, h2, h3, h4, h5⟩ := h
      cases x; cases y
      simp at h1 h2 h3 h4
      subst h1 h2 h3 h4
      rw [ih h5]
theorem flat_set (l : List TV) (k : Nat) (x : TV) (h : k < l.length) : (flat l).take (k * 4) ++ x.cs ++ (flat l).drop (k * 4 + x.cs.length) = flat (l.set k x) := by
  rw [flat_take, show k * 4 + x.cs.length = (k + 1) * 4 by show k * 4 + 4 = _; omega, flat_drop, List.set_eq_take_append_cons_drop, if_pos h, flat_append, flat]
  simp
theorem zeros_flat (z : Array Value) (hz : z = #[.int .i64 0, .int .u64 0, .int .u64 0, .int .i64 0]) (n : Nat) : ((Array.range (n * 4)).map fun i => z[i % 4]!) = (flat (List.replicate n TV.zero)).toArray := by
  subst hz
  apply Array.ext'
  apply List.ext_getElem?
  intro m
  rcases Nat.lt_or_ge m (n * 4) with h | h
  · have e := flat_get (List.replicate n TV.zero) (m / 4) TV.zero (by rw [List.getElem?_replicate, if_pos (by omega)]) (m % 4) (Nat.mod_lt _ (by decide))
    rw [show m / 4 * 4 + m % 4 = m by omega] at e
    rw [show (flat (List.replicate n TV.zero)).toArray.toList = flat (List.replicate n TV.zero) from rfl, e]
    simp [h]
    have h4 : m % 4 < 4 := Nat.mod_lt _ (by decide)
    generalize m % 4 = q at h4
    match q, h4 with
    | 0, _ => rfl
    | 1, _ => rfl
    | 2, _ => rfl
    | 3, _ => rfl
  · rw [List.getElem?_eq_none (by simpa using h), List.getElem?_eq_none (by simpa [flat_length] using h)]
theorem info_t : (Try.prog.info? 33).map (fun i => (i.zero, i.size, i.bytes)) = some (some (.agg #[.int .i64 0, .int .u64 0, .int .u64 0, .int .i64 0]), 4, 32) := by kernel_rfl
theorem u_sT : Try.prog.underlying 43 = some (.slice 33) := by kernel_rfl
theorem under_t : Try.prog.underlying 33 = some (.struct (Try.prog.fieldsOf 33)) := by kernel_rfl
theorem stood_t : Try.prog.stoodInHeld 33 = false := by kernel_rfl
set_option maxRecDepth 100000 in
theorem run_eqT (x : TV) (w : World) : (Op.equalIn 10000 33 x.ag x.ag).run Try.prog w = .ok true w := by
  rw [run_equalIn_struct w 9999 33 _ _ under_t stood_t]
  go_simp
/-- a row of entries -/
def Rw (w : World) (g : Nat) (Z : List TV) : Prop := w.heap[g]? = some (.cells (flat Z).toArray 33 (0, 0))
section
variable {w : World} {g : Nat} {Z : List TV}
theorem Rw.lt (h : Rw w g Z) : g < w.heap.size := lt_of_block h
theorem Rw.below {w' : World} (h : Rw w g Z) (hb : Below w.heap.size w w') : Rw w' g Z := (hb.block g h.lt).trans h
theorem Rw.z (h : Rw w g Z) (j : Nat) : w.frozen? ⟨g, j, none⟩ = false := frozen_of_row w g j _ _ h
theorem Rw.cell (h : Rw w g Z) {i : Nat} {x : TV} (hx : Z[i]? = some x) (j : Nat) (hj : j < 4) : w.cell? ⟨g, i * 4 + j, none⟩ = x.cs[j]? := by
  rw [cell_of_row w g _ _ _ _ h]
  simpa using flat_get Z i x hx j hj
theorem Rw.cs (h : Rw w g Z) {i : Nat} {x : TV} (hx : Z[i]? = some x) : w.cell? ⟨g, i * 4, none⟩ = some (.int .i64 x.v) ∧ w.cell? ⟨g, i * 4 + 1, none⟩ = some (.int .u64 x.p) ∧ w.cell? ⟨g, i * 4 + 2, none⟩ = some (.int .u64 x.f) ∧ w.cell? ⟨g, i * 4 + 3, none⟩ = some (.int .i64 x.r) :=
  ⟨h.cell hx 0 (by decide), h.cell hx 1 (by decide), h.cell hx 2 (by decide), h.cell hx 3 (by decide)⟩
end
theorem c_isOf (w : World) (x : TV) (v p : Int) : Calls Try.prog 24 #[x.ag, .int .i64 v, .int .u64 p] w fun e w' => e = .returned (.bool (x.here v p)) ∧ Below w.heap.size w w' := by
  obtain ⟨a, b, c, d⟩ := x
  unfold TV.here
  simp only []
  by_cases h1 : a = v <;> by_cases h2 : b = p
  all_goals
    go_enter Try.func24, Try.ntmps24
    go_wp2
    go_ret
    exact ⟨by simp [h1, h2], (Below.refl _ _).alloc (Nat.le_refl _) _⟩
end Go.Proofs.Ytgenjhcpcjhpmaa
