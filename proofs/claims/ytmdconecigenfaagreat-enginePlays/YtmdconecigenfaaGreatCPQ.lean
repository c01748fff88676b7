/- The document's page: entries. -/
import Derived.Test.YtmdconecigenfaaGreatMC3
import Derived.Test.YtmdconecigenfaaGreatMC4
namespace Go.Proofs.YtmdconecigenfaaGreat.C
open Go.RowKit
set_option linter.unusedVariables false
set_option maxRecDepth 100000

def numR (e : Int) : Int := e / 1024 % 17592186044416
theorem numR_eq {e : Int} (h0 : 0 ≤ e) (h : wr e = false) : numR e = num e := by
  have := wr_lt h
  unfold numR num; omega
theorem and_mask44 (x : Int) (h0 : 0 ≤ x) (h1 : x < 18446744073709551616) : bits .and .u64 x 17592186044415 = x % 17592186044416 := by
  obtain ⟨n, rfl⟩ := Int.eq_ofNat_of_zero_le h0
  have h := Nat.and_two_pow_sub_one_eq_mod n 44
  rw [show (17592186044415 : Int) = ((2 ^ 44 - 1 : Nat) : Int) from rfl, bits_and_u64_nat _ _ (by omega) (by decide), h]
  omega
theorem low2 : ∀ k : Fin 256, hsN k.val 1 = decide (k.val % 2 = 1) ∧ hsN k.val 2 = decide (k.val &&& 2 ≠ 0) ∧ hsN k.val 4 = decide (k.val &&& 4 ≠ 0) ∧ hsN k.val 8 = decide (k.val &&& 8 ≠ 0) ∧ hsN k.val 16 = decide (k.val &&& 16 ≠ 0) ∧ hsN k.val 64 = decide (k.val &&& 64 ≠ 0) ∧ hsN k.val 128 = decide (k.val &&& 128 ≠ 0) ∧ hsN k.val 80 = (hsN k.val 16 && hsN k.val 64) ∧ hsN k.val 132 = (hsN k.val 4 && hsN k.val 128) := of_decide_eq_true (by kernel_rfl)
/-- a bit, as the document asks for it -/
theorem bit_of (e : Int) (h0 : 0 ≤ e) (h1 : e < 18446744073709551616) (m : Nat) (hm : m < 256) (mi : Int) (hmi : mi = m) (hb : hsN (lo e) m = decide (lo e &&& m ≠ 0)) : (hs e m = true → (bits .and .u64 e mi == 0) = false ∧ (bits .and .u64 e mi != 0) = true) ∧ (hs e m = false → (bits .and .u64 e mi == 0) = true ∧ (bits .and .u64 e mi != 0) = false) := by
  subst hmi
  have hz : hs e m = decide (lo e &&& m ≠ 0) := hb
  rw [and_lo e h0 h1 m hm, hz]
  constructor
  · intro h
    have h := of_decide_eq_true h
    constructor
    · simp; omega
    · simp; omega
  · intro h
    have h := of_decide_eq_false h
    constructor
    · simp; omega
    · simp; omega
theorem bit_eq (e : Int) (h0 : 0 ≤ e) (h1 : e < 18446744073709551616) : (bits .and .u64 e 2 != 0) = hs e 2 ∧ (bits .and .u64 e 4 != 0) = hs e 4 ∧ (bits .and .u64 e 8 != 0) = hs e 8 ∧ (bits .and .u64 e 16 != 0) = hs e 16 ∧ (bits .and .u64 e 64 != 0) = hs e 64 ∧ (bits .and .u64 e 128 != 0) = hs e 128 ∧ (bits .and .u64 e 10 != 0) = lf e := by
  obtain ⟨l1, l2, l4, l8, l16, l64, l128, _, _⟩ := low2 ⟨lo e, lo_lt e⟩
  have one : ∀ (m : Nat) (mi : Int), m < 256 → mi = m → hsN (lo e) m = decide (lo e &&& m ≠ 0) → (bits .and .u64 e mi != 0) = hs e m := fun m mi hm hmi hb => by
    have q := bit_of e h0 h1 m hm mi hmi hb
    cases h : hs e m
    · exact (q.2 h).2
    · exact (q.1 h).2
  refine ⟨one 2 2 (by decide) rfl l2, one 4 4 (by decide) rfl l4, one 8 8 (by decide) rfl l8, one 16 16 (by decide) rfl l16, one 64 64 (by decide) rfl l64, one 128 128 (by decide) rfl l128, ?_⟩
  rw [show (10 : Int) = ((10 : Nat) : Int) from rfl, and_lo e h0 h1 10 (by decide)]
  unfold lf
  rw [Bool.eq_iff_iff]; simp
theorem odd_eq (e : Int) (h0 : 0 ≤ e) : hs e 1 = decide (e % 2 = 1) := by
  have l1 := (low2 ⟨lo e, lo_lt e⟩).1
  have : hs e 1 = decide (lo e % 2 = 1) := l1
  rw [this]
  unfold lo
  rw [Bool.eq_iff_iff]; simp; omega
theorem bit0_eq (e : Int) (h0 : 0 ≤ e) (h1 : e < 18446744073709551616) : (bits .and .u64 e 2 == 0) = !hs e 2 ∧ (bits .and .u64 e 16 == 0) = !hs e 16 ∧ (bits .and .u64 e 64 == 0) = !hs e 64 ∧ (bits .and .u64 e 10 == 0) = !lf e := by
  obtain ⟨b2, b4, b8, b16, b64, b128, bl⟩ := bit_eq e h0 h1
  have f : ∀ x : Int, (x == 0) = !(x != 0) := fun x => by simp [bne]
  exact ⟨by rw [f, b2], by rw [f, b16], by rw [f, b64], by rw [f, bl]⟩
theorem q_wrong (e : Int) (h0 : 0 ≤ e) (h1 : e < 18446744073709551616) (w : World) :
    Calls Tryz.prog 114 #[.int .u64 e] w fun r w' => r = .returned (.bool (wr e)) ∧ w' = w := by
  have b4 := (bit_eq e h0 h1).2.1
  have b2 := (bit0_eq e h0 h1).1
  have ho := odd_eq e h0
  have HO := hid ho
  clear ho
  obtain ⟨c4, h4⟩ : ∃ c, hs e 4 = c := ⟨_, rfl⟩
  obtain ⟨c2, h2⟩ : ∃ c, hs e 2 = c := ⟨_, rfl⟩
  rw [h4] at b4
  rw [h2] at b2
  have HW : Hid (wr e = (!decide (e % 2 = 1) || (c4 && !c2) || decide (18014398509481984 ≤ e))) := by show _ = _; unfold wr; rw [HO.out, h4, h2]
  clear h4 h2
  go_enter Tryz.func114, Tryz.ntmps114
  cases c4
  · cases c2 <;>
    · go_wp2_with fail
      · go_ret
        have h := ‹e % 2 = 0›
        exact ⟨ret_bool (by rw [HW.out, Bool.eq_iff_iff]; simp <;> omega), rfl⟩
      · go_ret
        have h := ‹¬ e % 2 = 0›
        exact ⟨ret_bool (by rw [HW.out, Bool.eq_iff_iff]; simp <;> omega), rfl⟩
  · cases c2 <;>
    · go_wp2_with fail
      · go_ret
        have h := ‹e % 2 = 0›
        exact ⟨ret_bool (by rw [HW.out, Bool.eq_iff_iff]; simp <;> omega), rfl⟩
      · go_ret
        have h := ‹¬ e % 2 = 0›
        exact ⟨ret_bool (by rw [HW.out, Bool.eq_iff_iff]; simp <;> omega), rfl⟩
theorem q_number (e : Int) (h0 : 0 ≤ e) (h1 : e < 18446744073709551616) (w : World) :
    Calls Tryz.prog 115 #[.int .u64 e] w fun r w' => r = .returned (.int .u64 (numR e)) ∧ w' = w := by
  have hm := and_mask44 (e / 1024) (by omega) (by omega)
  go_enter Tryz.func115, Tryz.ntmps115
  go_wp2
  go_ret
  exact ⟨rfl, rfl⟩
theorem q_misplaced (e : Int) (h0 : 0 ≤ e) (h1 : e < 18446744073709551616) (k : Nat) (hk : k ≤ 2) (w : World) :
    Calls Tryz.prog 116 #[.int .u64 e, .int .i64 k] w fun r w' => r = .returned (.bool (decide (numR e % pw k ≠ 0))) ∧ w' = w := by
  have hn : 0 ≤ numR e := by unfold numR; omega
  have hn2 : numR e < 17592186044416 := by unfold numR; omega
  go_enter Tryz.func116, Tryz.ntmps116
  rcases (show k = 0 ∨ k = 1 ∨ k = 2 by omega) with rfl | rfl | rfl
  · go_wp2_with (go_at_call 115; refine (q_number e h0 h1 _).mono ?_; rintro r w2 ⟨rfl, hw2⟩; obtain rfl := hw2.symm)
    go_ret
    exact ⟨ret_bool (by rw [pw0, Bool.eq_iff_iff]; simp), rfl⟩
  · go_wp2_with (go_at_call 115; refine (q_number e h0 h1 _).mono ?_; rintro r w2 ⟨rfl, hw2⟩; obtain rfl := hw2.symm)
    go_ret
    exact ⟨ret_bool (by rw [pw1, Bool.eq_iff_iff]; simp), rfl⟩
  · go_wp2_with (go_at_call 115; refine (q_number e h0 h1 _).mono ?_; rintro r w2 ⟨rfl, hw2⟩; obtain rfl := hw2.symm)
    go_ret
    exact ⟨ret_bool (by rw [pw2, Bool.eq_iff_iff]; simp), rfl⟩
theorem q_lets (e acc : Int) (h0 : 0 ≤ e) (h1 : e < 18446744073709551616) (w : World) :
    Calls Tryz.prog 117 #[.int .u64 e, .int .i64 acc] w fun r w' => r = .returned (.bool (al e acc)) ∧ w' = w := by
  obtain ⟨b2, b4, b8, _, _, b128, _⟩ := bit_eq e h0 h1
  obtain ⟨_, b16, b64, _⟩ := bit0_eq e h0 h1
  have l80 := (low2 ⟨lo e, lo_lt e⟩).2.2.2.2.2.2.2.1
  have l132 := (low2 ⟨lo e, lo_lt e⟩).2.2.2.2.2.2.2.2
  have HL : Hid (hs e 80 = (hs e 16 && hs e 64) ∧ hs e 132 = (hs e 4 && hs e 128)) := ⟨l80, l132⟩
  clear l80 l132
  go_enter Tryz.func117, Tryz.ntmps117
  cases c16 : hs e 16
  · rw [c16] at b16
    go_wp2_with fail
    go_ret
    exact ⟨ret_bool (by simp [al, HL.out.1, c16]), rfl⟩
  · rw [c16] at b16
    cases c64 : hs e 64
    · rw [c64] at b64
      go_wp2_with fail
      go_ret
      exact ⟨ret_bool (by simp [al, HL.out.1, c64]), rfl⟩
    · rw [c64] at b64
      by_cases a1 : acc = 1
      · subst a1
        go_wp2_with fail
        go_ret
        exact ⟨ret_bool (by simp [al, HL.out.1, c16, c64]), rfl⟩
      · by_cases a2 : acc = 2
        · subst a2
          go_wp2_with fail
          go_ret
          exact ⟨ret_bool (by simp [al, HL.out.1, c16, c64]), rfl⟩
        · by_cases a3 : acc = 3
          · subst a3
            cases c4 : hs e 4
            · rw [c4] at b4
              go_wp2_with fail
              go_ret
              exact ⟨ret_bool (by simp [al, HL.out.2, c4]), rfl⟩
            · rw [c4] at b4
              go_wp2_with fail
              go_ret
              exact ⟨ret_bool (by simp [al, HL.out.1, HL.out.2, c16, c64, c4]), rfl⟩
          · go_wp2_with fail
            go_ret
            exact ⟨ret_bool (by simp [al, a1, a2, a3]), rfl⟩
theorem q_put4 (e addr : Int) (h0 : 0 ≤ e) (h1 : e < 18446744073709551616) (a0 : 0 ≤ addr) (a1 : addr < 18446744073709551616) (k : Nat) (hk : k ≤ 2) (w : World) :
    Calls Tryz.prog 118 #[.agg #[.int .u64 e, .int .i64 k], .int .u64 addr] w fun r w' => r = .returned (.int .u64 (numR e * 4096 + addr % (4096 * pw k))) ∧ Below w.heap.size w w' := by
  have hn : 0 ≤ numR e := by unfold numR; omega
  have hn2 : numR e < 17592186044416 := by unfold numR; omega
  go_enter Tryz.func118, Tryz.ntmps118
  rcases (show k = 0 ∨ k = 1 ∨ k = 2 by omega) with rfl | rfl | rfl
  · go_wp2_with fail
    go_quiet (first
      | (go_at_call 115; exact Calls.quiet_of_same (q_number e h0 h1 _)))
    go_wp2
    go_ret
    exact ⟨ret_int (by rw [pw0]; omega), ((Below.refl _ _).alloc (Nat.le_refl _) _).trans ⟨rfl, rfl, rfl, Nat.le_refl _, fun _ _ => rfl⟩⟩
  · go_wp2_with fail
    go_quiet (first
      | (go_at_call 115; exact Calls.quiet_of_same (q_number e h0 h1 _)))
    go_wp2
    go_ret
    exact ⟨ret_int (by rw [pw1]; omega), ((Below.refl _ _).alloc (Nat.le_refl _) _).trans ⟨rfl, rfl, rfl, Nat.le_refl _, fun _ _ => rfl⟩⟩
  · go_wp2_with fail
    go_quiet (first
      | (go_at_call 115; exact Calls.quiet_of_same (q_number e h0 h1 _)))
    go_wp2
    go_ret
    exact ⟨ret_int (by rw [pw2]; omega), ((Below.refl _ _).alloc (Nat.le_refl _) _).trans ⟨rfl, rfl, rfl, Nat.le_refl _, fun _ _ => rfl⟩⟩
end Go.Proofs.YtmdconecigenfaaGreat.C
