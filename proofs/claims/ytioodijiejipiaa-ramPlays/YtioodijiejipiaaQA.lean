/- The reference's memory as it stands in the model's memory; its byte, read and written. -/
import Derived.Test.YtioodijiejipiaaRY
import Derived.Laws.Cover3
namespace Go.Proofs.Ytioodijiejipiaa
open Go.RowKit
set_option linter.unusedVariables false

def fv : Option (Nat × Nat) → Value
  | none => .slice none 0 0
  | some (h, c) => .slice (some ⟨h, 0, none⟩) 4096 c
def FootQ (p g : Nat) (hs : List (Option (Nat × Nat))) (k : Nat) : Prop := k = p ∨ k = g ∨ ∃ (i : Nat) (c : Nat), hs[i]? = some (some (k, c))
structure QM (w : World) (p g : Nat) (base : Int) (hs : List (Option (Nat × Nat))) (f : Nat → Int) : Prop where
  top : w.heap[p]? = some (.cells #[.int .u64 base, .int .i64 hs.length, .slice (some ⟨g, 0, none⟩) hs.length hs.length] 70 (0, 0))
  tab : w.heap[g]? = some (.cells (hs.map fv).toArray 35 (0, 0))
  bare : ∀ i : Nat, hs[i]? = some none → ∀ j, j < 4096 → f (4096 * i + j) = 0
  full : ∀ (i h c : Nat), hs[i]? = some (some (h, c)) → 4096 ≤ c ∧ ∃ cur : Array Value, w.heap[h]? = some (.cells cur 5 (0, 0)) ∧ ∀ j, j < 4096 → cur[j]? = some (.int .u8 (f (4096 * i + j)))
  inj : ∀ (i j h c c' : Nat), hs[i]? = some (some (h, c)) → hs[j]? = some (some (h, c')) → i = j
  byt : ∀ j, 0 ≤ f j ∧ f j < 256
  base0 : 0 ≤ base
  base1 : base ≤ 4503599627370496
  len0 : 0 < hs.length
  len1 : hs.length ≤ 1024
def RMem (w : World) (T : Nat → Prop) (p : Nat) (base : Int) (n : Nat) (f : Nat → Int) : Prop := ∃ g hs, QM w p g base hs f ∧ hs.length = n ∧ ∀ k, T k ↔ FootQ p g hs k
theorem QM.lt {w : World} {p g : Nat} {base : Int} {hs : List (Option (Nat × Nat))} {f : Nat → Int} (h : QM w p g base hs f) {k : Nat} (hk : FootQ p g hs k) : k < w.heap.size := by
  rcases hk with rfl | rfl | ⟨i, c, hi⟩
  · exact lt_of_block h.top
  · exact lt_of_block h.tab
  · obtain ⟨_, cur, hg, _⟩ := h.full i k c hi
    exact lt_of_block hg
theorem QM.only {w w' : World} {p g : Nat} {base : Int} {hs : List (Option (Nat × Nat))} {f : Nat → Int} (h : QM w p g base hs f) {T : Nat → Prop} (ho : Only T w w') (hd : ∀ k, FootQ p g hs k → ¬ T k) : QM w' p g base hs f :=
  ⟨ho.old h.top (hd _ (.inl rfl)), ho.old h.tab (hd _ (.inr (.inl rfl))), h.bare, fun i k c hk => by
    obtain ⟨q, cur, hg, hc⟩ := h.full i k c hk
    exact ⟨q, cur, ho.old hg (hd _ (.inr (.inr ⟨i, c, hk⟩))), hc⟩, h.inj, h.byt, h.base0, h.base1, h.len0, h.len1⟩
theorem RMem.lt {w : World} {S : Nat → Prop} {p : Nat} {base : Int} {n : Nat} {f : Nat → Int} (h : RMem w S p base n f) {k : Nat} (hk : S k) : k < w.heap.size := by
  obtain ⟨g, hs, hr, _, hS⟩ := h
  exact hr.lt ((hS k).1 hk)
theorem RMem.only {w w' : World} {S : Nat → Prop} {p : Nat} {base : Int} {n : Nat} {f : Nat → Int} (h : RMem w S p base n f) {T : Nat → Prop} (ho : Only T w w') (hd : ∀ k, S k → ¬ T k) : RMem w' S p base n f := by
  obtain ⟨g, hs, hr, hl, hS⟩ := h
  exact ⟨g, hs, hr.only ho fun k hk => hd k ((hS k).2 hk), hl, hS⟩
theorem RMem.below {w w' : World} {S : Nat → Prop} {p : Nat} {base : Int} {n : Nat} {f : Nat → Int} (h : RMem w S p base n f) (hb : Below w.heap.size w w') : RMem w' S p base n f :=
  h.only (T := fun _ => False) (.ofBelow hb) fun _ _ q => q
theorem QM.cell0 {w : World} {p g : Nat} {base : Int} {hs : List (Option (Nat × Nat))} {f : Nat → Int} (h : QM w p g base hs f) : w.cell? ⟨p, 0, none⟩ = some (.int .u64 base) := by rw [cell_of_row w p 0 _ _ _ h.top]; rfl
theorem QM.cell1 {w : World} {p g : Nat} {base : Int} {hs : List (Option (Nat × Nat))} {f : Nat → Int} (h : QM w p g base hs f) : w.cell? ⟨p, 1, none⟩ = some (.int .i64 hs.length) := by rw [cell_of_row w p 1 _ _ _ h.top]; rfl
theorem QM.cell2 {w : World} {p g : Nat} {base : Int} {hs : List (Option (Nat × Nat))} {f : Nat → Int} (h : QM w p g base hs f) : w.cell? ⟨p, 2, none⟩ = some (.slice (some ⟨g, 0, none⟩) hs.length hs.length) := by rw [cell_of_row w p 2 _ _ _ h.top]; rfl
theorem QM.cellT {w : World} {p g : Nat} {base : Int} {hs : List (Option (Nat × Nat))} {f : Nat → Int} (h : QM w p g base hs f) (i : Nat) (x : Option (Nat × Nat)) (hi : hs[i]? = some x) : w.cell? ⟨g, i, none⟩ = some (fv x) := by rw [cell_of_row w g i _ _ _ h.tab]; simp [hi]
theorem QM.cellB {w : World} {p g : Nat} {base : Int} {hs : List (Option (Nat × Nat))} {f : Nat → Int} (h : QM w p g base hs f) (i hh c : Nat) (hi : hs[i]? = some (some (hh, c))) (j : Nat) (hj : j < 4096) : w.cell? ⟨hh, j, none⟩ = some (.int .u8 (f (4096 * i + j))) ∧ w.frozen? ⟨hh, j, none⟩ = false := by
  obtain ⟨_, cur, hg, hc⟩ := h.full i hh c hi
  exact ⟨by rw [cell_of_row w hh j _ _ _ hg]; exact hc j hj, frozen_of_row w hh j _ _ hg⟩
theorem q_right (z : Int) (w : World) : Calls Try.prog 34 #[.int .i64 z] w fun e w' => e = .returned (.bool (decide (z = 1 ∨ z = 2 ∨ z = 4 ∨ z = 8))) ∧ w' = w := by
  go_enter Try.func34, Try.ntmps34
  by_cases h1 : z = 1
  · subst h1; go_wp2; go_ret; exact ⟨rfl, rfl⟩
  · by_cases h2 : z = 2
    · subst h2; go_wp2; go_ret; exact ⟨rfl, rfl⟩
    · by_cases h4 : z = 4
      · subst h4; go_wp2; go_ret; exact ⟨rfl, rfl⟩
      · have e1 : decide (z = 1 ∨ z = 2 ∨ z = 4 ∨ z = 8) = decide (z = 8) := by simp [h1, h2, h4]
        rw [e1]
        go_wp2
        go_ret
        exact ⟨ret_bool (by rw [Bool.eq_iff_iff]; simp; omega), rfl⟩
theorem q_Has (w : World) (p g : Nat) (base : Int) (hs : List (Option (Nat × Nat))) (f : Nat → Int) (h : QM w p g base hs f) (addr size : Int) (a0 : 0 ≤ addr) (a1 : addr < 18446744073709551616) (s0 : -9223372036854775808 ≤ size) (s1 : size ≤ 9223372036854775807) :
    Calls Try.prog 11 #[.pointer (some ⟨p, 0, none⟩), .int .u64 addr, .int .i64 size] w fun e w' => e = .returned (.bool (hasB base hs.length addr size)) ∧ Still w w' := by
  have c0 := h.cell0
  have c1 := h.cell1
  have h0 := h.base0
  have h1 := h.base1
  have l0 := h.len0
  have l1 := h.len1
  go_enter Try.func11, Try.ntmps11
  by_cases q0 : size < 0
  · go_wp2
    go_ret
    exact ⟨ret_bool (by simp [hasB]; omega), .refl w⟩
  · by_cases q1 : addr < base
    · go_wp2
      go_ret
      exact ⟨ret_bool (by simp [hasB]; omega), .refl w⟩
    · by_cases q2 : addr - base ≤ (hs.length : Int) * 4096
      · by_cases q3 : size ≤ (hs.length : Int) * 4096 - (addr - base)
        · go_wp2
          go_ret
          exact ⟨ret_bool (by rw [Bool.eq_iff_iff]; simp [hasB]; omega), .refl w⟩
        · go_wp2
          go_ret
          exact ⟨ret_bool (by rw [Bool.eq_iff_iff]; simp [hasB]; omega), .refl w⟩
      · go_wp2
        go_ret
        exact ⟨ret_bool (by rw [Bool.eq_iff_iff]; simp [hasB]; omega), .refl w⟩
theorem eq_nil (w : World) (a : Option Addr) (l c : Nat) : (binOp .eql 35 (.slice a l c) (.slice none 0 0)).run Try.prog w = .ok (.bool a.isNone) w := by
  have h := run_equal_slice_nil (P := Try.prog) w 35 5 a l c u_su8
  simp [binOp, h]
theorem ne_nil (w : World) (a : Option Addr) (l c : Nat) : (binOp .neq 35 (.slice a l c) (.slice none 0 0)).run Try.prog w = .ok (.bool (!a.isNone)) w := run_neq_slice_nil (P := Try.prog) w 35 5 a l c u_su8
theorem q_get (w : World) (p g : Nat) (base : Int) (hs : List (Option (Nat × Nat))) (f : Nat → Int) (h : QM w p g base hs f) (off : Nat) (ho : off < 4096 * hs.length) (addr : Int) (ha : addr = base + off) :
    Calls Try.prog 38 #[.pointer (some ⟨p, 0, none⟩), .int .u64 addr] w fun e w' => e = .returned (.int .u8 (f off)) ∧ w' = w := by
  subst ha
  have c0 := h.cell0
  have c2 := h.cell2
  have h0 := h.base0
  have h1 := h.base1
  have l1 := h.len1
  obtain ⟨q, m, hm, hqm⟩ : ∃ q m : Nat, m < 4096 ∧ off = 4096 * q + m := ⟨off / 4096, off % 4096, Nat.mod_lt _ (by decide), (Nat.div_add_mod _ _).symm⟩
  subst hqm
  have hq : q < hs.length := by omega
  have e1 : (base + ((4096 * q + m : Nat) : Int) - base) = ((4096 * q + m : Nat) : Int) := by omega
  have e2 : ((4096 * q + m : Nat) : Int) / 4096 = (q : Int) := by omega
  have e3 : ((4096 * q + m : Nat) : Int) % 4096 = (m : Int) := by omega
  generalize hA : (4096 * q + m : Nat) = A at *
  obtain ⟨x, hx⟩ : ∃ x, hs[q]? = some x := ⟨_, List.getElem?_eq_getElem hq⟩
  have cT := h.cellT _ x hx
  cases x with
  | none =>
    have hz := h.bare _ hx m hm
    rw [hA] at hz
    simp only [fv] at cT
    have hnil := eq_nil
    clear h hA
    go_enter Try.func38, Try.ntmps38
    go_wp2
    go_ret
    exact ⟨ret_int hz.symm, rfl⟩
  | some hc =>
    obtain ⟨hh, c⟩ := hc
    simp only [fv] at cT
    have cB := (h.cellB _ _ _ hx m hm).1
    rw [hA] at cB
    have hnil := eq_nil
    clear h hA
    go_enter Try.func38, Try.ntmps38
    go_wp2
    go_ret
    exact ⟨rfl, rfl⟩
end Go.Proofs.Ytioodijiejipiaa
