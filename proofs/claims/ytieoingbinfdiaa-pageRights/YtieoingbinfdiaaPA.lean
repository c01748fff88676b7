/- Package page: entries. -/
import Derived.Test.YtieoingbinfdiaaPM
namespace Go.Proofs.Ytieoingbinfdiaa
open Go.RowKit
set_option linter.unusedVariables false

theorem c_has (e : Int) (h0 : 0 ≤ e) (h1 : e < 18446744073709551616) (m : Nat) (mi : Int) (hm : m < 256) (hmi : mi = m) (w : World) :
    Calls Try.prog 56 #[.int .u64 e, .int .u64 mi] w fun r w' => r = .returned (.bool (hs e m)) ∧ w' = w := by
  subst hmi
  have ha := and_lo e h0 h1 m hm
  go_enter Try.func56, Try.ntmps56
  go_wp2
  go_ret
  refine ⟨ret_bool ?_, rfl⟩
  rw [Bool.eq_iff_iff]; simp [hs]; omega
theorem c_has1 (e : Int) (h0 : 0 ≤ e) (h1 : e < 18446744073709551616) (b : Bool) (hb : hs e 1 = b) (w : World) :
    Calls Try.prog 56 #[.int .u64 e, .int .u64 1] w fun r w' => r = .returned (.bool b) ∧ w' = w := by
  subst hb; exact c_has e h0 h1 1 _ (by decide) rfl w
theorem c_has2 (e : Int) (h0 : 0 ≤ e) (h1 : e < 18446744073709551616) (b : Bool) (hb : hs e 2 = b) (w : World) :
    Calls Try.prog 56 #[.int .u64 e, .int .u64 2] w fun r w' => r = .returned (.bool b) ∧ w' = w := by
  subst hb; exact c_has e h0 h1 2 _ (by decide) rfl w
theorem c_has4 (e : Int) (h0 : 0 ≤ e) (h1 : e < 18446744073709551616) (b : Bool) (hb : hs e 4 = b) (w : World) :
    Calls Try.prog 56 #[.int .u64 e, .int .u64 4] w fun r w' => r = .returned (.bool b) ∧ w' = w := by
  subst hb; exact c_has e h0 h1 4 _ (by decide) rfl w
theorem c_has8 (e : Int) (h0 : 0 ≤ e) (h1 : e < 18446744073709551616) (b : Bool) (hb : hs e 8 = b) (w : World) :
    Calls Try.prog 56 #[.int .u64 e, .int .u64 8] w fun r w' => r = .returned (.bool b) ∧ w' = w := by
  subst hb; exact c_has e h0 h1 8 _ (by decide) rfl w
theorem c_has16 (e : Int) (h0 : 0 ≤ e) (h1 : e < 18446744073709551616) (b : Bool) (hb : hs e 16 = b) (w : World) :
    Calls Try.prog 56 #[.int .u64 e, .int .u64 16] w fun r w' => r = .returned (.bool b) ∧ w' = w := by
  subst hb; exact c_has e h0 h1 16 _ (by decide) rfl w
theorem c_has64 (e : Int) (h0 : 0 ≤ e) (h1 : e < 18446744073709551616) (b : Bool) (hb : hs e 64 = b) (w : World) :
    Calls Try.prog 56 #[.int .u64 e, .int .u64 64] w fun r w' => r = .returned (.bool b) ∧ w' = w := by
  subst hb; exact c_has e h0 h1 64 _ (by decide) rfl w
theorem c_has80 (e : Int) (h0 : 0 ≤ e) (h1 : e < 18446744073709551616) (b : Bool) (hb : hs e 80 = b) (w : World) :
    Calls Try.prog 56 #[.int .u64 e, .int .u64 80] w fun r w' => r = .returned (.bool b) ∧ w' = w := by
  subst hb; exact c_has e h0 h1 80 _ (by decide) rfl w
theorem c_has128 (e : Int) (h0 : 0 ≤ e) (h1 : e < 18446744073709551616) (b : Bool) (hb : hs e 128 = b) (w : World) :
    Calls Try.prog 56 #[.int .u64 e, .int .u64 128] w fun r w' => r = .returned (.bool b) ∧ w' = w := by
  subst hb; exact c_has e h0 h1 128 _ (by decide) rfl w
theorem c_has132 (e : Int) (h0 : 0 ≤ e) (h1 : e < 18446744073709551616) (b : Bool) (hb : hs e 132 = b) (w : World) :
    Calls Try.prog 56 #[.int .u64 e, .int .u64 132] w fun r w' => r = .returned (.bool b) ∧ w' = w := by
  subst hb; exact c_has e h0 h1 132 _ (by decide) rfl w
theorem c_num (e : Int) (h0 : 0 ≤ e) (h1 : e < 18446744073709551616) (w : World) :
    Calls Try.prog 59 #[.int .u64 e] w fun r w' => r = .returned (.int .u64 (num e)) ∧ w' = w := by
  go_enter Try.func59, Try.ntmps59
  go_wp2
  go_ret
  exact ⟨rfl, rfl⟩
theorem c_isLeaf (e : Int) (h0 : 0 ≤ e) (h1 : e < 18446744073709551616) (w : World) :
    Calls Try.prog 64 #[.int .u64 e] w fun r w' => r = .returned (.bool (lf e)) ∧ w' = w := by
  have ha : bits .and .u64 e 10 = _ := and_lo e h0 h1 10 (by decide)
  go_enter Try.func64, Try.ntmps64
  go_wp2
  go_ret
  refine ⟨ret_bool ?_, rfl⟩
  rw [Bool.eq_iff_iff]; simp [lf]
theorem c_perm (e : Int) (h0 : 0 ≤ e) (h1 : e < 18446744073709551616) (w : World) :
    Calls Try.prog 52 #[.int .u64 e] w fun r w' => r = .returned (.int .i64 (pm e)) ∧ w' = w := by
  have ha : bits .and .u64 e 10 = _ := and_lo e h0 h1 10 (by decide)
  have hb : bits .and .u64 e 14 = _ := and_lo e h0 h1 14 (by decide)
  have hl : lo e &&& 10 ≤ 10 := Nat.and_le_right
  have hl2 : lo e &&& 14 ≤ 14 := Nat.and_le_right
  go_enter Try.func52, Try.ntmps52
  cases hd : hs e 128
  · go_wp2_with (go_at_call 56; refine (c_has128 e h0 h1 _ hd _).mono ?_; rintro r w2 ⟨rfl, rfl⟩)
    go_ret
    refine ⟨ret_int ?_, rfl⟩
    unfold pm; rw [hd]; simp only [Bool.false_eq_true, if_false]
  · go_wp2_with (go_at_call 56; refine (c_has128 e h0 h1 _ hd _).mono ?_; rintro r w2 ⟨rfl, rfl⟩)
    go_ret
    refine ⟨ret_int ?_, rfl⟩
    unfold pm; rw [hd]; simp only [if_true]
theorem c_isWrong (e : Int) (h0 : 0 ≤ e) (h1 : e < 18446744073709551616) (w : World) :
    Calls Try.prog 63 #[.int .u64 e] w fun r w' => r = .returned (.bool (wr e)) ∧ w' = w := by
  go_enter Try.func63, Try.ntmps63
  cases b1 : hs e 1
  · go_wp2_with (first
      | (go_at_call 56; (with_reducible refine (c_has1 e h0 h1 _ b1 _).mono ?_); rintro r w2 ⟨rfl, rfl⟩))
    go_ret
    exact ⟨ret_bool (by simp [wr, b1]), rfl⟩
  · cases b4 : hs e 4
    · go_wp2_with (first
        | (go_at_call 56; (with_reducible refine (c_has1 e h0 h1 _ b1 _).mono ?_); rintro r w2 ⟨rfl, rfl⟩)
        | (go_at_call 56; (with_reducible refine (c_has4 e h0 h1 _ b4 _).mono ?_); rintro r w2 ⟨rfl, rfl⟩))
      go_ret
      exact ⟨ret_bool (by rw [Bool.eq_iff_iff]; simp [wr, b1, b4]; omega), rfl⟩
    · cases b2 : hs e 2
      · go_wp2_with (first
          | (go_at_call 56; (with_reducible refine (c_has1 e h0 h1 _ b1 _).mono ?_); rintro r w2 ⟨rfl, rfl⟩)
          | (go_at_call 56; (with_reducible refine (c_has4 e h0 h1 _ b4 _).mono ?_); rintro r w2 ⟨rfl, rfl⟩)
          | (go_at_call 56; (with_reducible refine (c_has2 e h0 h1 _ b2 _).mono ?_); rintro r w2 ⟨rfl, rfl⟩))
        go_ret
        exact ⟨ret_bool (by simp [wr, b1, b4, b2]), rfl⟩
      · go_wp2_with (first
          | (go_at_call 56; (with_reducible refine (c_has1 e h0 h1 _ b1 _).mono ?_); rintro r w2 ⟨rfl, rfl⟩)
          | (go_at_call 56; (with_reducible refine (c_has4 e h0 h1 _ b4 _).mono ?_); rintro r w2 ⟨rfl, rfl⟩)
          | (go_at_call 56; (with_reducible refine (c_has2 e h0 h1 _ b2 _).mono ?_); rintro r w2 ⟨rfl, rfl⟩))
        go_ret
        exact ⟨ret_bool (by rw [Bool.eq_iff_iff]; simp [wr, b1, b4, b2]; omega), rfl⟩
end Go.Proofs.Ytieoingbinfdiaa
