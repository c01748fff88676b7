/- A memory of package ram as it stands in the model's memory: its struct, its table of frames, the frames that are there; what it holds is a function from places to bytes. Contracts of the small functions. -/
import Derived.Test.YtioodijiejipiaaProg
import Derived.Test.YtioodijiejipiaaRA
namespace Go.Proofs.Ytioodijiejipiaa
open Go.RowKit
set_option linter.unusedVariables false

def ptr : Option Nat → Value
  | none => .pointer none
  | some h => .pointer (some ⟨h, 0, none⟩)
theorem ptr_one (h : Option Nat) : (ptr h).oneCell' = true := by cases h <;> rfl
/-- the blocks of a memory -/
def Foot (p g : Nat) (hs : List (Option Nat)) (k : Nat) : Prop := k = p ∨ k = g ∨ ∃ i : Nat, hs[i]? = some (some k)
structure RM (w : World) (p g : Nat) (base : Int) (hs : List (Option Nat)) (f : Nat → Int) : Prop where
  top : w.heap[p]? = some (.cells #[.int .u64 base, .slice (some ⟨g, 0, none⟩) hs.length hs.length] 67 (0, 0))
  tab : w.heap[g]? = some (.cells (hs.map ptr).toArray 77 (0, 0))
  bare : ∀ i : Nat, hs[i]? = some none → ∀ j, j < 4096 → f (4096 * i + j) = 0
  full : ∀ (i h : Nat), hs[i]? = some (some h) → w.heap[h]? = some (.cells (row f (4096 * i) 4096).toArray 79 (0, 0))
  inj : ∀ (i j h : Nat), hs[i]? = some (some h) → hs[j]? = some (some h) → i = j
  byt : ∀ j, 0 ≤ f j ∧ f j < 256
  base0 : 0 ≤ base
  base1 : base ≤ 4503599627370496
  len0 : 0 < hs.length
  len1 : hs.length ≤ 1024
/-- a memory of n frames from base on, that holds f; S: its blocks -/
def Mem (w : World) (S : Nat → Prop) (p : Nat) (base : Int) (n : Nat) (f : Nat → Int) : Prop :=
  ∃ g hs, RM w p g base hs f ∧ hs.length = n ∧ ∀ k, S k ↔ Foot p g hs k
theorem RM.lt {w : World} {p g : Nat} {base : Int} {hs : List (Option Nat)} {f : Nat → Int} (h : RM w p g base hs f) {k : Nat} (hk : Foot p g hs k) : k < w.heap.size := by
  rcases hk with rfl | rfl | ⟨i, hi⟩
  · exact lt_of_block h.top
  · exact lt_of_block h.tab
  · exact lt_of_block (h.full i k hi)
theorem RM.only {w w' : World} {p g : Nat} {base : Int} {hs : List (Option Nat)} {f : Nat → Int} (h : RM w p g base hs f) {T : Nat → Prop} (ho : Only T w w') (hd : ∀ k, Foot p g hs k → ¬ T k) : RM w' p g base hs f :=
  ⟨ho.old h.top (hd _ (.inl rfl)), ho.old h.tab (hd _ (.inr (.inl rfl))), h.bare, fun i k hk => ho.old (h.full i k hk) (hd _ (.inr (.inr ⟨i, hk⟩))), h.inj, h.byt, h.base0, h.base1, h.len0, h.len1⟩
theorem RM.typ {w : World} {p g : Nat} {base : Int} {hs : List (Option Nat)} {f : Nat → Int} (h : RM w p g base hs f) {b : Nat} {c : Array Value} {t : TypeId} {fr : Nat × Nat} (hb : w.heap[b]? = some (.cells c t fr)) (h1 : t ≠ 67) (h2 : t ≠ 77) (h3 : t ≠ 79) : ¬ Foot p g hs b := by
  rintro (rfl | rfl | ⟨i, hi⟩)
  · have := h.top; rw [hb] at this; simp at this; exact h1 this.2.1
  · have := h.tab; rw [hb] at this; simp at this; exact h2 this.2.1
  · have := h.full i b hi; rw [hb] at this; simp at this; exact h3 this.2.1
theorem Mem.lt {w : World} {S : Nat → Prop} {p : Nat} {base : Int} {n : Nat} {f : Nat → Int} (h : Mem w S p base n f) {k : Nat} (hk : S k) : k < w.heap.size := by
  obtain ⟨g, hs, hr, _, hS⟩ := h
  exact hr.lt ((hS k).1 hk)
theorem Mem.only {w w' : World} {S : Nat → Prop} {p : Nat} {base : Int} {n : Nat} {f : Nat → Int} (h : Mem w S p base n f) {T : Nat → Prop} (ho : Only T w w') (hd : ∀ k, S k → ¬ T k) : Mem w' S p base n f := by
  obtain ⟨g, hs, hr, hl, hS⟩ := h
  exact ⟨g, hs, hr.only ho fun k hk => hd k ((hS k).2 hk), hl, hS⟩
theorem Mem.below {w w' : World} {S : Nat → Prop} {p : Nat} {base : Int} {n : Nat} {f : Nat → Int} (h : Mem w S p base n f) (hb : Below w.heap.size w w') : Mem w' S p base n f :=
  h.only (T := fun _ => False) (.ofBelow hb) fun _ _ q => q
theorem Mem.typ {w : World} {S : Nat → Prop} {p : Nat} {base : Int} {n : Nat} {f : Nat → Int} (h : Mem w S p base n f) {b : Nat} {c : Array Value} {t : TypeId} {fr : Nat × Nat} (hb : w.heap[b]? = some (.cells c t fr)) (h1 : t ≠ 67) (h2 : t ≠ 77) (h3 : t ≠ 79) : ¬ S b := by
  obtain ⟨g, hs, hr, _, hS⟩ := h
  exact fun q => hr.typ hb h1 h2 h3 ((hS b).1 q)
theorem Mem.byt {w : World} {S : Nat → Prop} {p : Nat} {base : Int} {n : Nat} {f : Nat → Int} (h : Mem w S p base n f) (j : Nat) : 0 ≤ f j ∧ f j < 256 := by
  obtain ⟨g, hs, hr, _, _⟩ := h
  exact hr.byt j
theorem Mem.nums {w : World} {S : Nat → Prop} {p : Nat} {base : Int} {n : Nat} {f : Nat → Int} (h : Mem w S p base n f) : 0 ≤ base ∧ base ≤ 4503599627370496 ∧ 0 < n ∧ n ≤ 1024 := by
  obtain ⟨g, hs, hr, rfl, _⟩ := h
  exact ⟨hr.base0, hr.base1, hr.len0, hr.len1⟩

/-- the two cells of the struct -/
theorem RM.cell0 {w : World} {p g : Nat} {base : Int} {hs : List (Option Nat)} {f : Nat → Int} (h : RM w p g base hs f) : w.cell? ⟨p, 0, none⟩ = some (.int .u64 base) := by
  rw [cell_of_row w p 0 _ _ _ h.top]; rfl
theorem RM.cell1 {w : World} {p g : Nat} {base : Int} {hs : List (Option Nat)} {f : Nat → Int} (h : RM w p g base hs f) : w.cell? ⟨p, 1, none⟩ = some (.slice (some ⟨g, 0, none⟩) hs.length hs.length) := by
  rw [cell_of_row w p 1 _ _ _ h.top]; rfl
theorem RM.cellT {w : World} {p g : Nat} {base : Int} {hs : List (Option Nat)} {f : Nat → Int} (h : RM w p g base hs f) (i : Nat) (x : Option Nat) (hi : hs[i]? = some x) : w.cell? ⟨g, i, none⟩ = some (ptr x) := by
  rw [cell_of_row w g i _ _ _ h.tab]; simp [hi]

theorem c_isWidth (z : Int) (w : World) : Calls Try.prog 31 #[.int .i64 z] w fun e w' => e = .returned (.bool (decide (z = 1 ∨ z = 2 ∨ z = 4 ∨ z = 8))) ∧ w' = w := by
  go_enter Try.func31, Try.ntmps31
  by_cases h1 : z = 1
  · subst h1; go_wp2; go_ret; exact ⟨rfl, rfl⟩
  · by_cases h2 : z = 2
    · subst h2; go_wp2; go_ret; exact ⟨rfl, rfl⟩
    · by_cases h4 : z = 4
      · subst h4; go_wp2; go_ret; exact ⟨rfl, rfl⟩
      · have e1 : decide (z = 1 ∨ z = 2 ∨ z = 4 ∨ z = 8) = decide (z = 8) := by simp [h1, h2, h4]
        rw [e1]
        go_wp2
        go_ret
        exact ⟨ret_bool (by rw [Bool.eq_iff_iff]; simp; omega), rfl⟩
theorem c_place (w : World) (p g : Nat) (base : Int) (hs : List (Option Nat)) (f : Nat → Int) (h : RM w p g base hs f) (off : Nat) (ho : off ≤ 4194304) (addr : Int) (ha : addr = base + off) :
    Calls Try.prog 44 #[.pointer (some ⟨p, 0, none⟩), .int .u64 addr] w fun e w' => e = .returned (.tuple #[.int .i64 ((off / 4096 : Nat) : Int), .int .i64 ((off % 4096 : Nat) : Int)]) ∧ w' = w := by
  subst ha
  have c0 := h.cell0
  have h0 := h.base0
  have h1 := h.base1
  go_enter Try.func44, Try.ntmps44
  go_wp2
  go_ret2
  refine ⟨?_, rfl⟩
  have e1 : base + (off : Int) - base = off := by omega
  simp
  omega
theorem c_Base (w : World) (p g : Nat) (base : Int) (hs : List (Option Nat)) (f : Nat → Int) (h : RM w p g base hs f) :
    Calls Try.prog 8 #[.pointer (some ⟨p, 0, none⟩)] w fun e w' => e = .returned (.int .u64 base) ∧ w' = w := by
  have c0 := h.cell0
  go_enter Try.func8, Try.ntmps8
  go_wp2
  go_ret
  exact ⟨rfl, rfl⟩
theorem c_Frames (w : World) (p g : Nat) (base : Int) (hs : List (Option Nat)) (f : Nat → Int) (h : RM w p g base hs f) :
    Calls Try.prog 9 #[.pointer (some ⟨p, 0, none⟩)] w fun e w' => e = .returned (.int .i64 hs.length) ∧ w' = w := by
  have c1 := h.cell1
  have h1 := h.len1
  go_enter Try.func9, Try.ntmps9
  go_wp2
  go_ret
  exact ⟨rfl, rfl⟩
/-- the bytes lie in the memory -/
def hasB (base : Int) (n : Nat) (addr size : Int) : Bool := decide (0 ≤ size ∧ base ≤ addr ∧ addr - base + size ≤ 4096 * n)
theorem c_Has (w : World) (p g : Nat) (base : Int) (hs : List (Option Nat)) (f : Nat → Int) (h : RM w p g base hs f) (addr size : Int) (a0 : 0 ≤ addr) (a1 : addr < 18446744073709551616) (s0 : -9223372036854775808 ≤ size) (s1 : size ≤ 9223372036854775807) :
    Calls Try.prog 10 #[.pointer (some ⟨p, 0, none⟩), .int .u64 addr, .int .i64 size] w fun e w' => e = .returned (.bool (hasB base hs.length addr size)) ∧ Still w w' := by
  have c0 := h.cell0
  have c1 := h.cell1
  have h0 := h.base0
  have h1 := h.base1
  have l0 := h.len0
  have l1 := h.len1
  go_enter Try.func10, Try.ntmps10
  by_cases q0 : size < 0
  · go_wp2
    go_ret
    exact ⟨ret_bool (by simp [hasB]; omega), .refl w⟩
  · by_cases q1 : addr < base
    · go_wp2
      go_ret
      exact ⟨ret_bool (by simp [hasB]; omega), .refl w⟩
    · by_cases q2 : addr - base ≤ (hs.length : Int) * 4096
      · by_cases q3 : size ≤ (hs.length : Int) * 4096 - (addr - base)
        · go_wp2
          go_region
          go_wp2
          go_ret
          exact ⟨ret_bool (by rw [Bool.eq_iff_iff]; simp [hasB]; omega), (Still.refl w).drew⟩
        · go_wp2
          go_region
          go_wp2
          go_ret
          exact ⟨ret_bool (by rw [Bool.eq_iff_iff]; simp [hasB]; omega), (Still.refl w).drew⟩
      · go_wp2
        go_region
        go_wp2
        go_ret
        exact ⟨ret_bool (by rw [Bool.eq_iff_iff]; simp [hasB]; omega), (Still.refl w).drew⟩
end Go.Proofs.Ytioodijiejipiaa
