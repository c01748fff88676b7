/- Package page: one walk. -/
import Derived.Test.YtieoingbinfdiaaPA
import Derived.Test.YtieoingbinfdiaaRE
import Derived.Deep.QuietTactic
import Derived.BigQuiet
namespace Go.Proofs.Ytieoingbinfdiaa
open Go.RowKit
set_option linter.unusedVariables false

/-- a walk, as it stands: its six cells, and what stands behind them -/
def wkL (p : Nat) (addr table level wrong leaf : Int) (tail : List Value) : List Value :=
  .pointer (some ⟨p, 0, none⟩) :: .int .u64 addr :: .int .u64 table :: .int .i64 level :: .int .i64 wrong :: .int .u64 leaf :: tail
def WK (w : World) (b : Nat) (ty : TypeId) (tail : List Value) (p : Nat) (addr table level wrong leaf : Int) : Prop :=
  w.heap[b]? = some (.cells (wkL p addr table level wrong leaf tail).toArray ty (0, 0))
section
variable {w : World} {b : Nat} {ty : TypeId} {tail : List Value} {p : Nat} {addr table level wrong leaf : Int}
theorem WK.c0 (h : WK w b ty tail p addr table level wrong leaf) : w.cell? ⟨b, 0, none⟩ = some (.pointer (some ⟨p, 0, none⟩)) := by rw [cell_of_row w b 0 _ _ _ h]; rfl
theorem WK.c1 (h : WK w b ty tail p addr table level wrong leaf) : w.cell? ⟨b, 1, none⟩ = some (.int .u64 addr) := by rw [cell_of_row w b 1 _ _ _ h]; rfl
theorem WK.c2 (h : WK w b ty tail p addr table level wrong leaf) : w.cell? ⟨b, 2, none⟩ = some (.int .u64 table) := by rw [cell_of_row w b 2 _ _ _ h]; rfl
theorem WK.c3 (h : WK w b ty tail p addr table level wrong leaf) : w.cell? ⟨b, 3, none⟩ = some (.int .i64 level) := by rw [cell_of_row w b 3 _ _ _ h]; rfl
theorem WK.c4 (h : WK w b ty tail p addr table level wrong leaf) : w.cell? ⟨b, 4, none⟩ = some (.int .i64 wrong) := by rw [cell_of_row w b 4 _ _ _ h]; rfl
theorem WK.c5 (h : WK w b ty tail p addr table level wrong leaf) : w.cell? ⟨b, 5, none⟩ = some (.int .u64 leaf) := by rw [cell_of_row w b 5 _ _ _ h]; rfl
theorem WK.fz (h : WK w b ty tail p addr table level wrong leaf) (j : Nat) : w.frozen? ⟨b, j, none⟩ = false := frozen_of_row w b j _ _ h
theorem WK.s2 (h : WK w b ty tail p addr table level wrong leaf) (x : Int) : WK (w.setCell ⟨b, 2, none⟩ (.int .u64 x)) b ty tail p addr x level wrong leaf := by
  unfold WK; rw [heap_setCell_same _ _ 2 _ _ _ h]; simp [wkL]
theorem WK.s3 (h : WK w b ty tail p addr table level wrong leaf) (x : Int) : WK (w.setCell ⟨b, 3, none⟩ (.int .i64 x)) b ty tail p addr table x wrong leaf := by
  unfold WK; rw [heap_setCell_same _ _ 3 _ _ _ h]; simp [wkL]
theorem WK.s5 (h : WK w b ty tail p addr table level wrong leaf) (x : Int) : WK (w.setCell ⟨b, 5, none⟩ (.int .u64 x)) b ty tail p addr table level wrong x := by
  unfold WK; rw [heap_setCell_same _ _ 5 _ _ _ h]; simp [wkL]
theorem WK.below {w' : World} (h : WK w b ty tail p addr table level wrong leaf) (hb : Below w.heap.size w w') : WK w' b ty tail p addr table level wrong leaf := (hb.block b (lt_of_block h)).trans h
theorem WK.drewN (h : WK w b ty tail p addr table level wrong leaf) (m : Nat) : WK (w.drewN m) b ty tail p addr table level wrong leaf := h
theorem WK.lt (h : WK w b ty tail p addr table level wrong leaf) : b < w.heap.size := lt_of_block h
end

theorem c_at (w : World) (b : Nat) (ty : TypeId) (tail : List Value) (p : Nat) (addr table wrong leaf : Int) (k : Nat) (hk : k ≤ 2) (a0 : 0 ≤ addr) (a1 : addr < 18446744073709551616) (t0 : 0 ≤ table) (t1 : table ≤ 4503599627370495)
    (h : WK w b ty tail p addr table k wrong leaf) :
    Calls Try.prog 49 #[.pointer (some ⟨b, 0, none⟩)] w fun r w' => r = .returned (.int .u64 (atF addr k table)) ∧ ∃ m, w' = w.drewN m := by
  have c1 := h.c1
  have c2 := h.c2
  have c3 := h.c3
  clear h
  go_enter Try.func49, Try.ntmps49
  rcases (show k = 0 ∨ k = 1 ∨ k = 2 by omega) with rfl | rfl | rfl
  · go_wp2
    go_quiet (fail)
    go_wp2
    go_ret
    refine ⟨ret_int ?_, _, rfl⟩
    unfold atF; rw [pw0]; omega
  · go_wp2
    go_quiet (fail)
    go_wp2
    go_ret
    refine ⟨ret_int ?_, _, rfl⟩
    unfold atF; rw [pw1]
  · go_wp2
    go_quiet (fail)
    go_wp2
    go_ret
    refine ⟨ret_int ?_, _, rfl⟩
    unfold atF; rw [pw2]
theorem c_pages (w : World) (b : Nat) (ty : TypeId) (tail : List Value) (p : Nat) (addr table wrong leaf : Int) (k : Nat) (hk : k ≤ 2)
    (h : WK w b ty tail p addr table k wrong leaf) (pk : Int) (hpk : pw k = pk) :
    Calls Try.prog 60 #[.pointer (some ⟨b, 0, none⟩)] w fun r w' => r = .returned (.int .u64 pk) ∧ w' = w := by
  have c3 := h.c3
  clear h
  subst hpk
  go_enter Try.func60, Try.ntmps60
  rcases (show k = 0 ∨ k = 1 ∨ k = 2 by omega) with rfl | rfl | rfl
  · go_wp2
    go_ret
    exact ⟨rfl, rfl⟩
  · go_wp2
    go_ret
    exact ⟨rfl, rfl⟩
  · go_wp2
    go_ret
    exact ⟨rfl, rfl⟩
theorem c_Read8 (w : World) (S : Nat → Prop) (p n : Nat) (f : Nat → Int) (h : Mem w S p 0 n f) (a : Int) (a0 : 0 ≤ a) (a1 : a < 18446744073709551616) (v : Int) (ok : Bool) (hv : (rdm n f a).1 = v) (ho : decide ((rdm n f a).2 = 0) = ok) :
    Calls Try.prog 15 #[.pointer (some ⟨p, 0, none⟩), .int .u64 a, .int .i64 8] w fun e w' => e = .returned (.tuple #[.int .u64 v, .bool ok]) ∧ Below w.heap.size w w' := by
  subst hv ho
  by_cases q : a + 8 ≤ 4096 * n
  · have hr : rdm n f a = (nu (fun j => f (a.toNat + j)) 8, 0) := by unfold rdm; rw [if_pos q]
    rw [hr]
    exact c_Read w S p 0 n f h a.toNat 8 (by omega) (by decide) a (by omega)
  · have hr : rdm n f a = (0, 3) := by unfold rdm; rw [if_neg q]
    rw [hr]
    exact (c_Read_bad w S p 0 n f h a 8 a0 a1 (by decide) (by decide) (by simp [hasB]; omega)).mono fun e w' hh => ⟨hh.1, hh.2.below _⟩
theorem c_loadW (w : World) (b : Nat) (ty : TypeId) (tail : List Value) (p : Nat) (addr table level wrong leaf : Int) (h : WK w b ty tail p addr table level wrong leaf)
    (S : Nat → Prop) (n : Nat) (f : Nat → Int) (hm : Mem w S p 0 n f) (a : Int) (a0 : 0 ≤ a) (a1 : a < 18446744073709551616) :
    Calls Try.prog 61 #[.pointer (some ⟨b, 0, none⟩), .int .u64 a] w fun e w' => e = .returned (.tuple #[.int .u64 (rdm n f a).1, .int .i64 (rdm n f a).2]) ∧ Below w.heap.size w w' := by
  have c0 := h.c0
  have HM := hid hm
  clear h hm
  go_enter Try.func61, Try.ntmps61
  by_cases q : a + 8 ≤ 4096 * n
  · have hr : rdm n f a = (nu (fun j => f (a.toNat + j)) 8, 0) := by unfold rdm; rw [if_pos q]
    go_wp2_with (go_at_call 15; refine (c_Read8 w S p n f HM.out a a0 a1 (rdm n f a).1 true rfl (by rw [hr]; rfl)).mono ?_; rintro e w1 ⟨rfl, hb⟩; have HB := hid hb; clear hb)
    go_ret2
    rw [hr]
    exact ⟨rfl, HB.out⟩
  · have hr : rdm n f a = (0, 3) := by unfold rdm; rw [if_neg q]
    go_wp2_with (go_at_call 15; refine (c_Read8 w S p n f HM.out a a0 a1 (rdm n f a).1 false rfl (by rw [hr]; rfl)).mono ?_; rintro e w1 ⟨rfl, hb⟩; have HB := hid hb; clear hb)
    go_ret2
    rw [hr]
    exact ⟨rfl, HB.out⟩
theorem c_stop (w : World) (b : Nat) (ty : TypeId) (tail : List Value) (p : Nat) (addr table wrong leaf : Int) (k : Nat) (hk : k ≤ 2) (h : WK w b ty tail p addr table k wrong leaf) (e : Int) (h0 : 0 ≤ e) (h1 : e < 18446744073709551616) (hz : num e % pw k = 0) :
    Calls Try.prog 65 #[.pointer (some ⟨b, 0, none⟩), .int .u64 e] w fun r w' => r = .returned (.int .i64 0) ∧ WK w' b ty tail p addr table k wrong e ∧ Only (· = b) w w' := by
  have c5 := h.c5
  have z5 := h.fz 5
  have HW := hid h
  clear h
  go_enter Try.func65, Try.ntmps65
  rcases (show k = 0 ∨ k = 1 ∨ k = 2 by omega) with rfl | rfl | rfl
  · rw [pw0] at hz
    go_wp2_with (first
      | (go_at_call 59; refine (c_num e h0 h1 _).mono ?_; rintro r w2 ⟨rfl, rfl⟩)
      | (go_at_call 60; refine (c_pages _ b ty tail p addr table wrong leaf 0 hk HW.out _ pw0).mono ?_; rintro r w2 ⟨rfl, rfl⟩))
    go_ret
    exact ⟨rfl, HW.out.s5 _, (Only.refl (S := (· = b)) _).setCell (.inl rfl) _⟩
  · rw [pw1] at hz
    have hn : 0 ≤ num e := by unfold num; omega
    go_wp2_with (first
      | (go_at_call 59; refine (c_num e h0 h1 _).mono ?_; rintro r w2 ⟨rfl, rfl⟩)
      | (go_at_call 60; refine (c_pages _ b ty tail p addr table wrong leaf 1 hk HW.out _ pw1).mono ?_; rintro r w2 ⟨rfl, rfl⟩))
    go_ret
    exact ⟨rfl, HW.out.s5 _, (Only.refl (S := (· = b)) _).setCell (.inl rfl) _⟩
  · rw [pw2] at hz
    have hn : 0 ≤ num e := by unfold num; omega
    go_wp2_with (first
      | (go_at_call 59; refine (c_num e h0 h1 _).mono ?_; rintro r w2 ⟨rfl, rfl⟩)
      | (go_at_call 60; refine (c_pages _ b ty tail p addr table wrong leaf 2 hk HW.out _ pw2).mono ?_; rintro r w2 ⟨rfl, rfl⟩))
    go_ret
    exact ⟨rfl, HW.out.s5 _, (Only.refl (S := (· = b)) _).setCell (.inl rfl) _⟩
theorem c_stop_bad (w : World) (b : Nat) (ty : TypeId) (tail : List Value) (p : Nat) (addr table wrong leaf : Int) (k : Nat) (hk : k ≤ 2) (h : WK w b ty tail p addr table k wrong leaf) (e : Int) (h0 : 0 ≤ e) (h1 : e < 18446744073709551616) (hz : num e % pw k ≠ 0) :
    Calls Try.prog 65 #[.pointer (some ⟨b, 0, none⟩), .int .u64 e] w fun r w' => r = .returned (.int .i64 wrong) ∧ w' = w := by
  have c4 := h.c4
  have HW := hid h
  clear h
  go_enter Try.func65, Try.ntmps65
  rcases (show k = 0 ∨ k = 1 ∨ k = 2 by omega) with rfl | rfl | rfl
  · rw [pw0] at hz; omega
  · rw [pw1] at hz
    have hn : 0 ≤ num e := by unfold num; omega
    go_wp2_with (first
      | (go_at_call 59; refine (c_num e h0 h1 _).mono ?_; rintro r w2 ⟨rfl, rfl⟩)
      | (go_at_call 60; refine (c_pages _ b ty tail p addr table wrong leaf 1 hk HW.out _ pw1).mono ?_; rintro r w2 ⟨rfl, rfl⟩))
    go_ret
    exact ⟨rfl, rfl⟩
  · rw [pw2] at hz
    have hn : 0 ≤ num e := by unfold num; omega
    go_wp2_with (first
      | (go_at_call 59; refine (c_num e h0 h1 _).mono ?_; rintro r w2 ⟨rfl, rfl⟩)
      | (go_at_call 60; refine (c_pages _ b ty tail p addr table wrong leaf 2 hk HW.out _ pw2).mono ?_; rintro r w2 ⟨rfl, rfl⟩))
    go_ret
    exact ⟨rfl, rfl⟩
/-- what stop says, and the leaf that it keeps -/
def stF (k : Nat) (e wrong : Int) : Int := if num e % pw k ≠ 0 then wrong else 0
def stL (k : Nat) (e : Int) : Int := if num e % pw k ≠ 0 then 0 else e
theorem c_stopC (w : World) (b : Nat) (ty : TypeId) (tail : List Value) (p : Nat) (addr table wrong : Int) (k : Nat) (hk : k ≤ 2) (h : WK w b ty tail p addr table k wrong 0) (e : Int) (h0 : 0 ≤ e) (h1 : e < 18446744073709551616) :
    Calls Try.prog 65 #[.pointer (some ⟨b, 0, none⟩), .int .u64 e] w fun r w' => r = .returned (.int .i64 (stF k e wrong)) ∧ WK w' b ty tail p addr table k wrong (stL k e) ∧ Only (· = b) w w' := by
  by_cases hz : num e % pw k = 0
  · have q := c_stop w b ty tail p addr table wrong 0 k hk h e h0 h1 hz
    unfold stF stL; rw [if_neg (by rw [hz]; decide), if_neg (by rw [hz]; decide)]; exact q
  · unfold stF stL; rw [if_pos hz, if_pos hz]
    exact (c_stop_bad w b ty tail p addr table wrong 0 k hk h e h0 h1 hz).mono fun r w' q => ⟨q.1, by rw [q.2]; exact h, by rw [q.2]; exact .refl w⟩
theorem num_b {e : Int} (h0 : 0 ≤ e) (h1 : e < 18014398509481984) : 0 ≤ num e ∧ num e < 17592186044416 := by unfold num; omega
theorem c_place4 (w : World) (b : Nat) (ty : TypeId) (tail : List Value) (p : Nat) (addr table wrong leaf : Int) (k : Nat) (hk : k ≤ 2) (h : WK w b ty tail p addr table k wrong leaf) (h0 : 0 ≤ leaf) (h1 : leaf < 18014398509481984) (a0 : 0 ≤ addr) (a1 : addr < 18446744073709551616) :
    Calls Try.prog 48 #[.pointer (some ⟨b, 0, none⟩)] w fun r w' => r = .returned (.int .u64 ((num leaf + addr / 4096 % pw k) * 4096 + addr % 4096)) ∧ ∃ m, w' = w.drewN m := by
  have c1 := h.c1
  have c5 := h.c5
  have HW := hid h
  obtain ⟨n0, n1⟩ := num_b h0 h1
  clear h
  go_enter Try.func48, Try.ntmps48
  rcases (show k = 0 ∨ k = 1 ∨ k = 2 by omega) with rfl | rfl | rfl
  · rw [pw0]
    go_wp2_with fail
    go_quiet (first
      | (go_at_call 59; exact Calls.quiet_of_same (c_num leaf h0 (by omega) _))
      | (go_at_call 60; exact Calls.quiet_of_same (c_pages _ b ty tail p addr table wrong leaf 0 hk (HW.out.drewN _) _ pw0)))
    go_wp2
    go_ret
    refine ⟨ret_int ?_, _, rfl⟩
    omega
  · rw [pw1]
    go_wp2_with fail
    go_quiet (first
      | (go_at_call 59; exact Calls.quiet_of_same (c_num leaf h0 (by omega) _))
      | (go_at_call 60; exact Calls.quiet_of_same (c_pages _ b ty tail p addr table wrong leaf 1 hk (HW.out.drewN _) _ pw1)))
    go_wp2
    go_ret
    refine ⟨ret_int ?_, _, rfl⟩
    omega
  · rw [pw2]
    go_wp2_with fail
    go_quiet (first
      | (go_at_call 59; exact Calls.quiet_of_same (c_num leaf h0 (by omega) _))
      | (go_at_call 60; exact Calls.quiet_of_same (c_pages _ b ty tail p addr table wrong leaf 2 hk (HW.out.drewN _) _ pw2)))
    go_wp2
    go_ret
    refine ⟨ret_int ?_, _, rfl⟩
    omega
end Go.Proofs.Ytieoingbinfdiaa
