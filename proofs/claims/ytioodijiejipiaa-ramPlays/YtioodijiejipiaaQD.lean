/- The reference's memory: New, Clear; both memories where the bytes do not lie in them. -/
import Derived.Test.YtioodijiejipiaaQC
import Derived.Test.YtioodijiejipiaaRE
namespace Go.Proofs.Ytioodijiejipiaa
open Go.RowKit
set_option linter.unusedVariables false

theorem u_ssu8 : Try.prog.underlying 68 = some (.slice 35) := by kernel_rfl
theorem info_su8 : (Try.prog.info? 35).map (fun i => (i.zero, i.size, i.bytes)) = some (some (.slice none 0 0), 1, 24) := by kernel_rfl
theorem map_fv (n : Nat) : (List.replicate n (Value.slice none 0 0)).toArray = ((List.replicate n (none : Option (Nat × Nat))).map fv).toArray := by simp [fv]
theorem q_New (w : World) (base : Int) (n : Nat) (b0 : 0 ≤ base) (b1 : base ≤ 4503599627370496) (bm : base % 4096 = 0) (n0 : 0 < n) (n1 : n ≤ 1024) :
    Calls Try.prog 6 #[.int .u64 base, .int .i64 n] w fun e w' => ∃ p S, e = .returned (.tuple #[.pointer (some ⟨p, 0, none⟩), .int .i64 0]) ∧ RMem w' S p base n (fun _ => 0) ∧ Below w.heap.size w w' ∧ ∀ k, S k → w.heap.size ≤ k := by
  go_enter Try.func6, Try.ntmps6
  go_wp2_with (at_make; refine wpList_makes _ rfl _ _ 68 rfl 35 _ 24 u_ssu8 info_su8 rfl n rfl rfl (by omega) (by omega) _ (map_fv n) ?_)
  go_ret2
  refine ⟨w.heap.size + 1, FootQ (w.heap.size + 1) w.heap.size (List.replicate n none), by simp, ⟨w.heap.size, List.replicate n none, ⟨?_, ?_, fun i _ j _ => rfl, fun i h c hi => ?_, fun i j h c c' hi _ => ?_, fun j => by simp, b0, b1, by simpa using n0, by simpa using n1⟩, by simp, fun k => Iff.rfl⟩, ?_, ?_⟩
  · rw [heap_alloc2_new]; simp
  · rw [heap_alloc2_old]; simp
  · rw [List.getElem?_replicate] at hi; split at hi <;> simp at hi
  · rw [List.getElem?_replicate] at hi; split at hi <;> simp at hi
  · exact ((Below.refl _ _).alloc (Nat.le_refl _) _).alloc (by simp) _
  · rintro k (rfl | rfl | ⟨i, c, hi⟩)
    · omega
    · omega
    · rw [List.getElem?_replicate] at hi; split at hi <;> simp at hi
/-- a base and a number of frames that are a memory's -/
def newB (base n : Int) : Bool := decide (1 ≤ n ∧ n ≤ 1024 ∧ base % 4096 = 0 ∧ base ≤ 4503599627370496)
theorem c_New_bad (w : World) (base n : Int) (b0 : 0 ≤ base) (hb : newB base n = false) :
    Calls Try.prog 5 #[.int .u64 base, .int .i64 n] w fun e w' => e = .returned (.tuple #[.pointer none, .int .i64 1]) ∧ w' = w := by
  have hb' : ¬ (1 ≤ n ∧ n ≤ 1024 ∧ base % 4096 = 0 ∧ base ≤ 4503599627370496) := of_decide_eq_false hb
  clear hb
  go_enter Try.func5, Try.ntmps5
  by_cases q1 : n < 1
  · go_wp2
    go_ret2
    exact ⟨rfl, rfl⟩
  · by_cases q2 : 1024 < n
    · go_wp2
      go_ret2
      exact ⟨rfl, rfl⟩
    · by_cases q3 : base % 4096 = 0
      · have q4 : 4503599627370496 < base := by omega
        go_wp2
        go_ret2
        exact ⟨rfl, rfl⟩
      · go_wp2
        go_ret2
        exact ⟨rfl, rfl⟩
theorem q_New_bad (w : World) (base n : Int) (b0 : 0 ≤ base) (hb : newB base n = false) :
    Calls Try.prog 6 #[.int .u64 base, .int .i64 n] w fun e w' => e = .returned (.tuple #[.pointer none, .int .i64 1]) ∧ w' = w := by
  have hb' : ¬ (1 ≤ n ∧ n ≤ 1024 ∧ base % 4096 = 0 ∧ base ≤ 4503599627370496) := of_decide_eq_false hb
  clear hb
  go_enter Try.func6, Try.ntmps6
  by_cases q1 : n < 1
  · go_wp2
    go_ret2
    exact ⟨rfl, rfl⟩
  · by_cases q2 : 1024 < n
    · go_wp2
      go_ret2
      exact ⟨rfl, rfl⟩
    · by_cases q3 : base % 4096 = 0
      · have q4 : 4503599627370496 < base := by omega
        go_wp2
        go_ret2
        exact ⟨rfl, rfl⟩
      · go_wp2
        go_ret2
        exact ⟨rfl, rfl⟩
theorem QM.clear {w : World} {p g : Nat} {base : Int} {hs : List (Option (Nat × Nat))} {f : Nat → Int} (h : QM w p g base hs f) (i : Nat) (hil : i < hs.length) :
    QM (w.setCell ⟨g, i, none⟩ (.slice none 0 0)) p g base (hs.set i none) (put f (4096 * i) 4096 fun _ => 0) := by
  have hpg : p ≠ g := by rintro rfl; have := h.top; rw [h.tab] at this; simp at this
  have hold : ∀ k, k ≠ g → (w.setCell ⟨g, i, none⟩ (.slice none 0 0)).heap[k]? = w.heap[k]? := fun k hkg => Below.heap_setCell _ _ _ k hkg
  refine ⟨?_, ?_, ?_, ?_, ?_, ?_, h.base0, h.base1, by simpa using h.len0, by simpa using h.len1⟩
  · rw [hold p hpg, List.length_set]; exact h.top
  · rw [heap_setCell_same _ g i _ _ _ h.tab]
    congr 2
    simp [List.map_set, fv]
  · intro j hj k hk
    by_cases e : j = i
    · subst e; rw [put_in _ _ _ _ _ hk]
    · rw [List.getElem?_set_ne (by omega)] at hj; rw [put_out _ _ _ _ _ (by omega)]; exact h.bare j hj k hk
  · intro j hh c hj
    by_cases e : j = i
    · subst e; rw [List.getElem?_set_self hil] at hj; cases hj
    · rw [List.getElem?_set_ne (by omega)] at hj
      obtain ⟨hc, cur, hg, hcur⟩ := h.full j hh c hj
      exact ⟨hc, cur, (hold hh (by rintro rfl; rw [h.tab] at hg; simp at hg)).trans hg, fun k hk => by rw [put_out _ _ _ _ _ (by omega)]; exact hcur k hk⟩
  · intro j k hh c c' hj hk
    by_cases e : j = i
    · subst e; rw [List.getElem?_set_self hil] at hj; cases hj
    · by_cases e' : k = i
      · subst e'; rw [List.getElem?_set_self hil] at hk; cases hk
      · rw [List.getElem?_set_ne (by omega)] at hj hk
        exact h.inj j k hh c c' hj hk
  · intro j
    unfold put
    split
    · exact ⟨Int.le_refl _, show (0 : Int) < 256 by decide⟩
    · exact h.byt j
theorem q_Clear (w : World) (S : Nat → Prop) (p : Nat) (base : Int) (n : Nat) (f : Nat → Int) (h : RMem w S p base n f) (i : Nat) (hi : i < n) :
    Calls Try.prog 24 #[.pointer (some ⟨p, 0, none⟩), .int .i64 i] w fun e w' => ∃ S', e = .returned (.bool true) ∧ RMem w' S' p base n (put f (4096 * i) 4096 (fun _ => 0)) ∧ Only S w w' ∧ (∀ k, S' k → S k) := by
  obtain ⟨g, hs, hr, rfl, hS⟩ := h
  have l1 := hr.len1
  obtain ⟨x, hx⟩ : ∃ x, hs[i]? = some x := ⟨_, List.getElem?_eq_getElem hi⟩
  have c1 := hr.cell1
  have c2 := hr.cell2
  have cT := hr.cellT _ x hx
  have hf : w.frozen? ⟨g, i, none⟩ = false := frozen_of_row w g i _ _ hr.tab
  go_enter Try.func24, Try.ntmps24
  go_wp2
  go_ret
  refine ⟨FootQ p g (hs.set i none), rfl, ⟨g, hs.set i none, hr.clear i hi, by simp, fun k => Iff.rfl⟩, (Only.refl w).setCell (p := ⟨g, i, none⟩) (.inl ((hS _).2 (.inr (.inl rfl)))) _, ?_⟩
  rintro k (rfl | rfl | ⟨j, c, hj⟩)
  · exact (hS _).2 (.inl rfl)
  · exact (hS _).2 (.inr (.inl rfl))
  · by_cases e : j = i
    · subst e; rw [List.getElem?_set_self hi] at hj; cases hj
    · rw [List.getElem?_set_ne (by omega)] at hj; exact (hS _).2 (.inr (.inr ⟨j, c, hj⟩))
theorem q_Clear_bad (w : World) (S : Nat → Prop) (p : Nat) (base : Int) (n : Nat) (f : Nat → Int) (h : RMem w S p base n f) (i : Int) (hi : i < 0 ∨ (n : Int) ≤ i) :
    Calls Try.prog 24 #[.pointer (some ⟨p, 0, none⟩), .int .i64 i] w fun e w' => e = .returned (.bool false) ∧ w' = w := by
  obtain ⟨g, hs, hr, rfl, hS⟩ := h
  have l1 := hr.len1
  have c1 := hr.cell1
  go_enter Try.func24, Try.ntmps24
  by_cases q : i < 0
  · go_wp2
    go_ret
    exact ⟨rfl, rfl⟩
  · have q2 : (hs.length : Int) ≤ i := by omega
    go_wp2
    go_ret
    exact ⟨rfl, rfl⟩
theorem q_Read_bad (w : World) (S : Nat → Prop) (p : Nat) (base : Int) (n : Nat) (f : Nat → Int) (h : RMem w S p base n f) (addr size : Int) (a0 : 0 ≤ addr) (a1 : addr < 18446744073709551616) (s0 : -9223372036854775808 ≤ size) (s1 : size ≤ 9223372036854775807) (hb : (wid size && hasB base n addr size) = false) :
    Calls Try.prog 16 #[.pointer (some ⟨p, 0, none⟩), .int .u64 addr, .int .i64 size] w fun e w' => e = .returned (.tuple #[.int .u64 0, .bool false]) ∧ Still w w' := by
  go_enter Try.func16, Try.ntmps16
  cases hwd : decide (size = 1 ∨ size = 2 ∨ size = 4 ∨ size = 8) with
  | false =>
    clear hb
    go_wp2_with (first
      | (go_at_call 34; refine (q_right _ w).mono ?_; rintro e w1 ⟨rfl, hw1⟩; obtain rfl := hw1.symm; rw [hwd]))
    go_ret2
    exact ⟨rfl, .refl w⟩
  | true =>
    have hb2 : hasB base n addr size = false := by
      have : wid size = true := hwd
      rw [this] at hb; simpa using hb
    clear hb
    go_wp2_with (first
      | (go_at_call 34; refine (q_right _ w).mono ?_; rintro e w1 ⟨rfl, hw1⟩; obtain rfl := hw1.symm; rw [hwd])
      | (go_at_call 11; refine (q_HasM w S p base n f h _ _ a0 a1 s0 s1).mono ?_; rintro e w1 ⟨rfl, hst⟩; rw [hb2]))
    go_ret2
    exact ⟨rfl, hst⟩
theorem q_Write_bad (w : World) (S : Nat → Prop) (p : Nat) (base : Int) (n : Nat) (f : Nat → Int) (h : RMem w S p base n f) (addr size v : Int) (a0 : 0 ≤ addr) (a1 : addr < 18446744073709551616) (s0 : -9223372036854775808 ≤ size) (s1 : size ≤ 9223372036854775807) (hb : (wid size && hasB base n addr size) = false) :
    Calls Try.prog 14 #[.pointer (some ⟨p, 0, none⟩), .int .u64 addr, .int .i64 size, .int .u64 v] w fun e w' => e = .returned (.bool false) ∧ Still w w' := by
  go_enter Try.func14, Try.ntmps14
  cases hwd : decide (size = 1 ∨ size = 2 ∨ size = 4 ∨ size = 8) with
  | false =>
    clear hb
    go_wp2_with (first
      | (go_at_call 34; refine (q_right _ w).mono ?_; rintro e w1 ⟨rfl, hw1⟩; obtain rfl := hw1.symm; rw [hwd]))
    go_ret
    exact ⟨rfl, .refl w⟩
  | true =>
    have hb2 : hasB base n addr size = false := by
      have : wid size = true := hwd
      rw [this] at hb; simpa using hb
    clear hb
    go_wp2_with (first
      | (go_at_call 34; refine (q_right _ w).mono ?_; rintro e w1 ⟨rfl, hw1⟩; obtain rfl := hw1.symm; rw [hwd])
      | (go_at_call 11; refine (q_HasM w S p base n f h _ _ a0 a1 s0 s1).mono ?_; rintro e w1 ⟨rfl, hst⟩; rw [hb2]))
    go_ret
    exact ⟨rfl, hst⟩
theorem c_Read_bad2 (w : World) (S : Nat → Prop) (p : Nat) (base : Int) (n : Nat) (f : Nat → Int) (h : Mem w S p base n f) (addr size : Int) (a0 : 0 ≤ addr) (a1 : addr < 18446744073709551616) (s0 : -9223372036854775808 ≤ size) (s1 : size ≤ 9223372036854775807) (hb : (wid size && hasB base n addr size) = false) :
    Calls Try.prog 15 #[.pointer (some ⟨p, 0, none⟩), .int .u64 addr, .int .i64 size] w fun e w' => e = .returned (.tuple #[.int .u64 0, .bool false]) ∧ Still w w' := by
  cases hwd : wid size with
  | true => rw [hwd] at hb; exact c_Read_bad w S p base n f h addr size a0 a1 s0 s1 (by simpa using hb)
  | false =>
    have hwd' : decide (size = 1 ∨ size = 2 ∨ size = 4 ∨ size = 8) = false := hwd
    clear hb hwd
    go_enter Try.func15, Try.ntmps15
    go_wp2_with (first
      | (go_at_call 31; refine (c_isWidth _ w).mono ?_; rintro e w1 ⟨rfl, hw1⟩; obtain rfl := hw1.symm; rw [hwd']))
    go_ret2
    exact ⟨rfl, .refl w⟩
theorem c_Write_bad2 (w : World) (S : Nat → Prop) (p : Nat) (base : Int) (n : Nat) (f : Nat → Int) (h : Mem w S p base n f) (addr size v : Int) (a0 : 0 ≤ addr) (a1 : addr < 18446744073709551616) (s0 : -9223372036854775808 ≤ size) (s1 : size ≤ 9223372036854775807) (hb : (wid size && hasB base n addr size) = false) :
    Calls Try.prog 13 #[.pointer (some ⟨p, 0, none⟩), .int .u64 addr, .int .i64 size, .int .u64 v] w fun e w' => e = .returned (.bool false) ∧ Still w w' := by
  cases hwd : wid size with
  | true => rw [hwd] at hb; exact c_Write_bad w S p base n f h addr size v a0 a1 s0 s1 (by simpa using hb)
  | false =>
    have hwd' : decide (size = 1 ∨ size = 2 ∨ size = 4 ∨ size = 8) = false := hwd
    clear hb hwd
    go_enter Try.func13, Try.ntmps13
    go_wp2_with (first
      | (go_at_call 31; refine (c_isWidth _ w).mono ?_; rintro e w1 ⟨rfl, hw1⟩; obtain rfl := hw1.symm; rw [hwd']))
    go_ret
    exact ⟨rfl, .refl w⟩
theorem c_Bytes_bad (w : World) (S : Nat → Prop) (p : Nat) (base : Int) (n : Nat) (f : Nat → Int) (h : Mem w S p base n f) (addr size : Int) (a0 : 0 ≤ addr) (a1 : addr < 18446744073709551616) (s0 : -9223372036854775808 ≤ size) (s1 : size ≤ 9223372036854775807) (hb : hasB base n addr size = false) :
    Calls Try.prog 20 #[.pointer (some ⟨p, 0, none⟩), .int .u64 addr, .int .i64 size] w fun e w' => e = .returned (.tuple #[.slice none 0 0, .bool false]) ∧ Still w w' := by
  go_enter Try.func20, Try.ntmps20
  go_wp2_with (first
    | (go_at_call 10; refine (c_HasM w S p base n f h _ _ a0 a1 s0 s1 false hb).mono ?_; rintro e w1 ⟨rfl, hst⟩))
  go_ret2
  exact ⟨rfl, hst⟩
theorem q_Bytes_bad (w : World) (S : Nat → Prop) (p : Nat) (base : Int) (n : Nat) (f : Nat → Int) (h : RMem w S p base n f) (addr size : Int) (a0 : 0 ≤ addr) (a1 : addr < 18446744073709551616) (s0 : -9223372036854775808 ≤ size) (s1 : size ≤ 9223372036854775807) (hb : hasB base n addr size = false) :
    Calls Try.prog 21 #[.pointer (some ⟨p, 0, none⟩), .int .u64 addr, .int .i64 size] w fun e w' => e = .returned (.tuple #[.slice none 0 0, .bool false]) ∧ Still w w' := by
  go_enter Try.func21, Try.ntmps21
  by_cases q : size < 0
  · go_wp2
    go_ret2
    exact ⟨rfl, .refl w⟩
  · go_wp2_with (first
      | (go_at_call 11; refine (q_HasM w S p base n f h _ _ a0 a1 s0 s1).mono ?_; rintro e w1 ⟨rfl, hst⟩; rw [hb]))
    go_ret2
    exact ⟨rfl, hst⟩
theorem c_Fill_bad (w : World) (S : Nat → Prop) (p : Nat) (base : Int) (n : Nat) (f : Nat → Int) (h : Mem w S p base n f) (addr : Int) (a0 : 0 ≤ addr) (a1 : addr < 18446744073709551616) (ad : Option Addr) (len cap : Nat) (hl : len ≤ 9223372036854775807) (hb : hasB base n addr len = false) :
    Calls Try.prog 17 #[.pointer (some ⟨p, 0, none⟩), .int .u64 addr, .slice ad len cap] w fun e w' => e = .returned (.bool false) ∧ Still w w' := by
  go_enter Try.func17, Try.ntmps17
  go_wp2_with (first
    | (go_at_call 10; refine (c_HasM w S p base n f h _ _ a0 a1 (by omega) (by omega) false hb).mono ?_; rintro e w1 ⟨rfl, hst⟩))
  go_ret
  exact ⟨rfl, hst⟩
theorem q_Fill_bad (w : World) (S : Nat → Prop) (p : Nat) (base : Int) (n : Nat) (f : Nat → Int) (h : RMem w S p base n f) (addr : Int) (a0 : 0 ≤ addr) (a1 : addr < 18446744073709551616) (ad : Option Addr) (len cap : Nat) (hl : len ≤ 9223372036854775807) (hb : hasB base n addr len = false) :
    Calls Try.prog 19 #[.pointer (some ⟨p, 0, none⟩), .int .u64 addr, .slice ad len cap] w fun e w' => e = .returned (.bool false) ∧ Still w w' := by
  go_enter Try.func19, Try.ntmps19
  go_wp2_with (first
    | (go_at_call 11; refine (q_HasM w S p base n f h _ _ a0 a1 (by omega) (by omega)).mono ?_; rintro e w1 ⟨rfl, hst⟩; rw [hb]))
  go_ret
  exact ⟨rfl, hst⟩
end Go.Proofs.Ytioodijiejipiaa
