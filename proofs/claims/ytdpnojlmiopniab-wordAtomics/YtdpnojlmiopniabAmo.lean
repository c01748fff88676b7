/- What word.Amo answers, for every fn and size and all words; the world stands. -/
import Derived.Test.YtdpnojlmiopniabWords
namespace Go.Proofs.Ytdpnojlmiopniab
open Go.RowKit
set_option linter.unusedVariables false

theorem am_bd (fn a b : Int) (h0 : 0 ≤ a) (h1 : a ≤ 18446744073709551615) (h2 : 0 ≤ b) (h3 : b ≤ 18446744073709551615) : 0 ≤ am fn a b ∧ am fn a b ≤ 18446744073709551615 := by
  have p1 := wAdd_bd a b
  have p2 : 0 ≤ wXor a b ∧ wXor a b ≤ 18446744073709551615 := bits_bd .xor (by simp) a b h0 h1 h2 h3
  have p3 : 0 ≤ wAnd a b ∧ wAnd a b ≤ 18446744073709551615 := bits_bd .and (by simp) a b h0 h1 h2 h3
  have p4 : 0 ≤ wOr a b ∧ wOr a b ≤ 18446744073709551615 := bits_bd .or (by simp) a b h0 h1 h2 h3
  have q : ∀ c : Bool, (0 ≤ sel c a b ∧ sel c a b ≤ 18446744073709551615) ∧ (0 ≤ sel c b a ∧ sel c b a ≤ 18446744073709551615) := by
    intro c; unfold sel; cases c <;> simp <;> omega
  unfold am
  by_cases e1 : fn = 1
  · rw [if_pos e1]; exact ⟨h2, h3⟩
  rw [if_neg e1]
  by_cases e2 : fn = 2
  · rw [if_pos e2]; exact p1
  rw [if_neg e2]
  by_cases e3 : fn = 3
  · rw [if_pos e3]; exact p2
  rw [if_neg e3]
  by_cases e4 : fn = 4
  · rw [if_pos e4]; exact p3
  rw [if_neg e4]
  by_cases e5 : fn = 5
  · rw [if_pos e5]; exact p4
  rw [if_neg e5]
  by_cases e6 : fn = 6
  · rw [if_pos e6]; exact (q _).1
  rw [if_neg e6]
  by_cases e7 : fn = 7
  · rw [if_pos e7]; exact (q _).2
  rw [if_neg e7]
  by_cases e8 : fn = 8
  · rw [if_pos e8]; exact (q _).1
  rw [if_neg e8]
  by_cases e9 : fn = 9
  · rw [if_pos e9]; exact (q _).2
  rw [if_neg e9]; exact ⟨h0, h1⟩
theorem ato_1 (w : World) :
    Calls Try.prog 16 #[.int .i64 1] w fun e w' => e = .returned (.func (.func 45) #[] #[]) ∧ w' = w := by
  go_enter Try.func16, Try.ntmps16
  go_wp2
  go_ret
  exact ⟨rfl, rfl⟩
theorem am_1 (size a b : Int) (h0 : 0 ≤ a) (h1 : a ≤ 18446744073709551615) (h2 : 0 ≤ b) (h3 : b ≤ 18446744073709551615) (hs : ¬ size = 4) (w : World) :
    Calls Try.prog 13 #[.int .i64 1, .int .i64 size, .int .u64 a, .int .u64 b] w fun e w' => e = .returned (.int .u64 (b)) ∧ w' = w := by
  have hz : (size != 4) = true := by simpa using hs
  go_enter Try.func13, Try.ntmps13
  go_wp2_with (first | (go_at_call 16; refine (ato_1 _).mono ?_; rintro e w' ⟨rfl, rfl⟩) | (go_at_call 45; refine (m_swap _ _ h0 h1 h2 h3 _).mono ?_; rintro e w' ⟨rfl, rfl⟩))
  go_ret
  exact ⟨rfl, rfl⟩
theorem amh_1 (a b : Int) (h0 : 0 ≤ a) (h1 : a ≤ 18446744073709551615) (h2 : 0 ≤ b) (h3 : b ≤ 18446744073709551615) (w : World) :
    Calls Try.prog 13 #[.int .i64 1, .int .i64 4, .int .u64 a, .int .u64 b] w fun e w' => e = .returned (.int .u64 (lo (am 1 (ex a) (ex b)))) ∧ w' = w := by
  have l := ex_bd a
  have r := ex_bd b
  have k : 0 ≤ (ex b) ∧ (ex b) ≤ 18446744073709551615 := am_bd 1 (ex a) (ex b) l.1 l.2 r.1 r.2
  go_enter Try.func13, Try.ntmps13
  go_wp2_with (first | (go_at_call 16; refine (ato_1 _).mono ?_; rintro e w' ⟨rfl, rfl⟩) | (go_at_call 17; refine (m_extended a h0 h1 _).mono ?_; rintro e w' ⟨rfl, rfl⟩) | (go_at_call 17; refine (m_extended b h2 h3 _).mono ?_; rintro e w' ⟨rfl, rfl⟩) | (go_at_call 45; refine (m_swap _ _ l.1 l.2 r.1 r.2 _).mono ?_; rintro e w' ⟨rfl, rfl⟩) | (go_at_call 18; refine (m_half _ k.1 k.2 _).mono ?_; rintro e w' ⟨rfl, rfl⟩))
  go_ret
  exact ⟨rfl, rfl⟩
theorem ato_2 (w : World) :
    Calls Try.prog 16 #[.int .i64 2] w fun e w' => e = .returned (.func (.func 19) #[] #[]) ∧ w' = w := by
  go_enter Try.func16, Try.ntmps16
  go_wp2
  go_ret
  exact ⟨rfl, rfl⟩
theorem am_2 (size a b : Int) (h0 : 0 ≤ a) (h1 : a ≤ 18446744073709551615) (h2 : 0 ≤ b) (h3 : b ≤ 18446744073709551615) (hs : ¬ size = 4) (w : World) :
    Calls Try.prog 13 #[.int .i64 2, .int .i64 size, .int .u64 a, .int .u64 b] w fun e w' => e = .returned (.int .u64 (wAdd a b)) ∧ w' = w := by
  have hz : (size != 4) = true := by simpa using hs
  go_enter Try.func13, Try.ntmps13
  go_wp2_with (first | (go_at_call 16; refine (ato_2 _).mono ?_; rintro e w' ⟨rfl, rfl⟩) | (go_at_call 19; refine (m_add _ _ h0 h1 h2 h3 _).mono ?_; rintro e w' ⟨rfl, rfl⟩))
  go_ret
  exact ⟨rfl, rfl⟩
theorem amh_2 (a b : Int) (h0 : 0 ≤ a) (h1 : a ≤ 18446744073709551615) (h2 : 0 ≤ b) (h3 : b ≤ 18446744073709551615) (w : World) :
    Calls Try.prog 13 #[.int .i64 2, .int .i64 4, .int .u64 a, .int .u64 b] w fun e w' => e = .returned (.int .u64 (lo (am 2 (ex a) (ex b)))) ∧ w' = w := by
  have l := ex_bd a
  have r := ex_bd b
  have k : 0 ≤ wAdd (ex a) (ex b) ∧ wAdd (ex a) (ex b) ≤ 18446744073709551615 := am_bd 2 (ex a) (ex b) l.1 l.2 r.1 r.2
  go_enter Try.func13, Try.ntmps13
  go_wp2_with (first | (go_at_call 16; refine (ato_2 _).mono ?_; rintro e w' ⟨rfl, rfl⟩) | (go_at_call 17; refine (m_extended a h0 h1 _).mono ?_; rintro e w' ⟨rfl, rfl⟩) | (go_at_call 17; refine (m_extended b h2 h3 _).mono ?_; rintro e w' ⟨rfl, rfl⟩) | (go_at_call 19; refine (m_add _ _ l.1 l.2 r.1 r.2 _).mono ?_; rintro e w' ⟨rfl, rfl⟩) | (go_at_call 18; refine (m_half _ k.1 k.2 _).mono ?_; rintro e w' ⟨rfl, rfl⟩))
  go_ret
  exact ⟨rfl, rfl⟩
theorem ato_3 (w : World) :
    Calls Try.prog 16 #[.int .i64 3] w fun e w' => e = .returned (.func (.func 24) #[] #[]) ∧ w' = w := by
  go_enter Try.func16, Try.ntmps16
  go_wp2
  go_ret
  exact ⟨rfl, rfl⟩
theorem am_3 (size a b : Int) (h0 : 0 ≤ a) (h1 : a ≤ 18446744073709551615) (h2 : 0 ≤ b) (h3 : b ≤ 18446744073709551615) (hs : ¬ size = 4) (w : World) :
    Calls Try.prog 13 #[.int .i64 3, .int .i64 size, .int .u64 a, .int .u64 b] w fun e w' => e = .returned (.int .u64 (wXor a b)) ∧ w' = w := by
  have hz : (size != 4) = true := by simpa using hs
  go_enter Try.func13, Try.ntmps13
  go_wp2_with (first | (go_at_call 16; refine (ato_3 _).mono ?_; rintro e w' ⟨rfl, rfl⟩) | (go_at_call 24; refine (m_xor _ _ h0 h1 h2 h3 _).mono ?_; rintro e w' ⟨rfl, rfl⟩))
  go_ret
  exact ⟨rfl, rfl⟩
theorem amh_3 (a b : Int) (h0 : 0 ≤ a) (h1 : a ≤ 18446744073709551615) (h2 : 0 ≤ b) (h3 : b ≤ 18446744073709551615) (w : World) :
    Calls Try.prog 13 #[.int .i64 3, .int .i64 4, .int .u64 a, .int .u64 b] w fun e w' => e = .returned (.int .u64 (lo (am 3 (ex a) (ex b)))) ∧ w' = w := by
  have l := ex_bd a
  have r := ex_bd b
  have k : 0 ≤ wXor (ex a) (ex b) ∧ wXor (ex a) (ex b) ≤ 18446744073709551615 := am_bd 3 (ex a) (ex b) l.1 l.2 r.1 r.2
  go_enter Try.func13, Try.ntmps13
  go_wp2_with (first | (go_at_call 16; refine (ato_3 _).mono ?_; rintro e w' ⟨rfl, rfl⟩) | (go_at_call 17; refine (m_extended a h0 h1 _).mono ?_; rintro e w' ⟨rfl, rfl⟩) | (go_at_call 17; refine (m_extended b h2 h3 _).mono ?_; rintro e w' ⟨rfl, rfl⟩) | (go_at_call 24; refine (m_xor _ _ l.1 l.2 r.1 r.2 _).mono ?_; rintro e w' ⟨rfl, rfl⟩) | (go_at_call 18; refine (m_half _ k.1 k.2 _).mono ?_; rintro e w' ⟨rfl, rfl⟩))
  go_ret
  exact ⟨rfl, rfl⟩
theorem ato_4 (w : World) :
    Calls Try.prog 16 #[.int .i64 4] w fun e w' => e = .returned (.func (.func 28) #[] #[]) ∧ w' = w := by
  go_enter Try.func16, Try.ntmps16
  go_wp2
  go_ret
  exact ⟨rfl, rfl⟩
theorem am_4 (size a b : Int) (h0 : 0 ≤ a) (h1 : a ≤ 18446744073709551615) (h2 : 0 ≤ b) (h3 : b ≤ 18446744073709551615) (hs : ¬ size = 4) (w : World) :
    Calls Try.prog 13 #[.int .i64 4, .int .i64 size, .int .u64 a, .int .u64 b] w fun e w' => e = .returned (.int .u64 (wAnd a b)) ∧ w' = w := by
  have hz : (size != 4) = true := by simpa using hs
  go_enter Try.func13, Try.ntmps13
  go_wp2_with (first | (go_at_call 16; refine (ato_4 _).mono ?_; rintro e w' ⟨rfl, rfl⟩) | (go_at_call 28; refine (m_and _ _ h0 h1 h2 h3 _).mono ?_; rintro e w' ⟨rfl, rfl⟩))
  go_ret
  exact ⟨rfl, rfl⟩
theorem amh_4 (a b : Int) (h0 : 0 ≤ a) (h1 : a ≤ 18446744073709551615) (h2 : 0 ≤ b) (h3 : b ≤ 18446744073709551615) (w : World) :
    Calls Try.prog 13 #[.int .i64 4, .int .i64 4, .int .u64 a, .int .u64 b] w fun e w' => e = .returned (.int .u64 (lo (am 4 (ex a) (ex b)))) ∧ w' = w := by
  have l := ex_bd a
  have r := ex_bd b
  have k : 0 ≤ wAnd (ex a) (ex b) ∧ wAnd (ex a) (ex b) ≤ 18446744073709551615 := am_bd 4 (ex a) (ex b) l.1 l.2 r.1 r.2
  go_enter Try.func13, Try.ntmps13
  go_wp2_with (first | (go_at_call 16; refine (ato_4 _).mono ?_; rintro e w' ⟨rfl, rfl⟩) | (go_at_call 17; refine (m_extended a h0 h1 _).mono ?_; rintro e w' ⟨rfl, rfl⟩) | (go_at_call 17; refine (m_extended b h2 h3 _).mono ?_; rintro e w' ⟨rfl, rfl⟩) | (go_at_call 28; refine (m_and _ _ l.1 l.2 r.1 r.2 _).mono ?_; rintro e w' ⟨rfl, rfl⟩) | (go_at_call 18; refine (m_half _ k.1 k.2 _).mono ?_; rintro e w' ⟨rfl, rfl⟩))
  go_ret
  exact ⟨rfl, rfl⟩
theorem ato_5 (w : World) :
    Calls Try.prog 16 #[.int .i64 5] w fun e w' => e = .returned (.func (.func 27) #[] #[]) ∧ w' = w := by
  go_enter Try.func16, Try.ntmps16
  go_wp2
  go_ret
  exact ⟨rfl, rfl⟩
theorem am_5 (size a b : Int) (h0 : 0 ≤ a) (h1 : a ≤ 18446744073709551615) (h2 : 0 ≤ b) (h3 : b ≤ 18446744073709551615) (hs : ¬ size = 4) (w : World) :
    Calls Try.prog 13 #[.int .i64 5, .int .i64 size, .int .u64 a, .int .u64 b] w fun e w' => e = .returned (.int .u64 (wOr a b)) ∧ w' = w := by
  have hz : (size != 4) = true := by simpa using hs
  go_enter Try.func13, Try.ntmps13
  go_wp2_with (first | (go_at_call 16; refine (ato_5 _).mono ?_; rintro e w' ⟨rfl, rfl⟩) | (go_at_call 27; refine (m_or _ _ h0 h1 h2 h3 _).mono ?_; rintro e w' ⟨rfl, rfl⟩))
  go_ret
  exact ⟨rfl, rfl⟩
theorem amh_5 (a b : Int) (h0 : 0 ≤ a) (h1 : a ≤ 18446744073709551615) (h2 : 0 ≤ b) (h3 : b ≤ 18446744073709551615) (w : World) :
    Calls Try.prog 13 #[.int .i64 5, .int .i64 4, .int .u64 a, .int .u64 b] w fun e w' => e = .returned (.int .u64 (lo (am 5 (ex a) (ex b)))) ∧ w' = w := by
  have l := ex_bd a
  have r := ex_bd b
  have k : 0 ≤ wOr (ex a) (ex b) ∧ wOr (ex a) (ex b) ≤ 18446744073709551615 := am_bd 5 (ex a) (ex b) l.1 l.2 r.1 r.2
  go_enter Try.func13, Try.ntmps13
  go_wp2_with (first | (go_at_call 16; refine (ato_5 _).mono ?_; rintro e w' ⟨rfl, rfl⟩) | (go_at_call 17; refine (m_extended a h0 h1 _).mono ?_; rintro e w' ⟨rfl, rfl⟩) | (go_at_call 17; refine (m_extended b h2 h3 _).mono ?_; rintro e w' ⟨rfl, rfl⟩) | (go_at_call 27; refine (m_or _ _ l.1 l.2 r.1 r.2 _).mono ?_; rintro e w' ⟨rfl, rfl⟩) | (go_at_call 18; refine (m_half _ k.1 k.2 _).mono ?_; rintro e w' ⟨rfl, rfl⟩))
  go_ret
  exact ⟨rfl, rfl⟩
theorem ato_6 (w : World) :
    Calls Try.prog 16 #[.int .i64 6] w fun e w' => e = .returned (.func (.func 46) #[] #[]) ∧ w' = w := by
  go_enter Try.func16, Try.ntmps16
  go_wp2
  go_ret
  exact ⟨rfl, rfl⟩
theorem am_6 (size a b : Int) (h0 : 0 ≤ a) (h1 : a ≤ 18446744073709551615) (h2 : 0 ≤ b) (h3 : b ≤ 18446744073709551615) (hs : ¬ size = 4) (w : World) :
    Calls Try.prog 13 #[.int .i64 6, .int .i64 size, .int .u64 a, .int .u64 b] w fun e w' => e = .returned (.int .u64 (wMin a b)) ∧ w' = w := by
  have hz : (size != 4) = true := by simpa using hs
  go_enter Try.func13, Try.ntmps13
  go_wp2_with (first | (go_at_call 16; refine (ato_6 _).mono ?_; rintro e w' ⟨rfl, rfl⟩) | (go_at_call 46; refine (m_min _ _ h0 h1 h2 h3 _).mono ?_; rintro e w' ⟨rfl, rfl⟩))
  go_ret
  exact ⟨rfl, rfl⟩
theorem amh_6 (a b : Int) (h0 : 0 ≤ a) (h1 : a ≤ 18446744073709551615) (h2 : 0 ≤ b) (h3 : b ≤ 18446744073709551615) (w : World) :
    Calls Try.prog 13 #[.int .i64 6, .int .i64 4, .int .u64 a, .int .u64 b] w fun e w' => e = .returned (.int .u64 (lo (am 6 (ex a) (ex b)))) ∧ w' = w := by
  have l := ex_bd a
  have r := ex_bd b
  have k : 0 ≤ wMin (ex a) (ex b) ∧ wMin (ex a) (ex b) ≤ 18446744073709551615 := am_bd 6 (ex a) (ex b) l.1 l.2 r.1 r.2
  go_enter Try.func13, Try.ntmps13
  go_wp2_with (first | (go_at_call 16; refine (ato_6 _).mono ?_; rintro e w' ⟨rfl, rfl⟩) | (go_at_call 17; refine (m_extended a h0 h1 _).mono ?_; rintro e w' ⟨rfl, rfl⟩) | (go_at_call 17; refine (m_extended b h2 h3 _).mono ?_; rintro e w' ⟨rfl, rfl⟩) | (go_at_call 46; refine (m_min _ _ l.1 l.2 r.1 r.2 _).mono ?_; rintro e w' ⟨rfl, rfl⟩) | (go_at_call 18; refine (m_half _ k.1 k.2 _).mono ?_; rintro e w' ⟨rfl, rfl⟩))
  go_ret
  exact ⟨rfl, rfl⟩
theorem ato_7 (w : World) :
    Calls Try.prog 16 #[.int .i64 7] w fun e w' => e = .returned (.func (.func 47) #[] #[]) ∧ w' = w := by
  go_enter Try.func16, Try.ntmps16
  go_wp2
  go_ret
  exact ⟨rfl, rfl⟩
theorem am_7 (size a b : Int) (h0 : 0 ≤ a) (h1 : a ≤ 18446744073709551615) (h2 : 0 ≤ b) (h3 : b ≤ 18446744073709551615) (hs : ¬ size = 4) (w : World) :
    Calls Try.prog 13 #[.int .i64 7, .int .i64 size, .int .u64 a, .int .u64 b] w fun e w' => e = .returned (.int .u64 (wMax a b)) ∧ w' = w := by
  have hz : (size != 4) = true := by simpa using hs
  go_enter Try.func13, Try.ntmps13
  go_wp2_with (first | (go_at_call 16; refine (ato_7 _).mono ?_; rintro e w' ⟨rfl, rfl⟩) | (go_at_call 47; refine (m_max _ _ h0 h1 h2 h3 _).mono ?_; rintro e w' ⟨rfl, rfl⟩))
  go_ret
  exact ⟨rfl, rfl⟩
theorem amh_7 (a b : Int) (h0 : 0 ≤ a) (h1 : a ≤ 18446744073709551615) (h2 : 0 ≤ b) (h3 : b ≤ 18446744073709551615) (w : World) :
    Calls Try.prog 13 #[.int .i64 7, .int .i64 4, .int .u64 a, .int .u64 b] w fun e w' => e = .returned (.int .u64 (lo (am 7 (ex a) (ex b)))) ∧ w' = w := by
  have l := ex_bd a
  have r := ex_bd b
  have k : 0 ≤ wMax (ex a) (ex b) ∧ wMax (ex a) (ex b) ≤ 18446744073709551615 := am_bd 7 (ex a) (ex b) l.1 l.2 r.1 r.2
  go_enter Try.func13, Try.ntmps13
  go_wp2_with (first | (go_at_call 16; refine (ato_7 _).mono ?_; rintro e w' ⟨rfl, rfl⟩) | (go_at_call 17; refine (m_extended a h0 h1 _).mono ?_; rintro e w' ⟨rfl, rfl⟩) | (go_at_call 17; refine (m_extended b h2 h3 _).mono ?_; rintro e w' ⟨rfl, rfl⟩) | (go_at_call 47; refine (m_max _ _ l.1 l.2 r.1 r.2 _).mono ?_; rintro e w' ⟨rfl, rfl⟩) | (go_at_call 18; refine (m_half _ k.1 k.2 _).mono ?_; rintro e w' ⟨rfl, rfl⟩))
  go_ret
  exact ⟨rfl, rfl⟩
theorem ato_8 (w : World) :
    Calls Try.prog 16 #[.int .i64 8] w fun e w' => e = .returned (.func (.func 48) #[] #[]) ∧ w' = w := by
  go_enter Try.func16, Try.ntmps16
  go_wp2
  go_ret
  exact ⟨rfl, rfl⟩
theorem am_8 (size a b : Int) (h0 : 0 ≤ a) (h1 : a ≤ 18446744073709551615) (h2 : 0 ≤ b) (h3 : b ≤ 18446744073709551615) (hs : ¬ size = 4) (w : World) :
    Calls Try.prog 13 #[.int .i64 8, .int .i64 size, .int .u64 a, .int .u64 b] w fun e w' => e = .returned (.int .u64 (wMinu a b)) ∧ w' = w := by
  have hz : (size != 4) = true := by simpa using hs
  go_enter Try.func13, Try.ntmps13
  go_wp2_with (first | (go_at_call 16; refine (ato_8 _).mono ?_; rintro e w' ⟨rfl, rfl⟩) | (go_at_call 48; refine (m_minu _ _ h0 h1 h2 h3 _).mono ?_; rintro e w' ⟨rfl, rfl⟩))
  go_ret
  exact ⟨rfl, rfl⟩
theorem amh_8 (a b : Int) (h0 : 0 ≤ a) (h1 : a ≤ 18446744073709551615) (h2 : 0 ≤ b) (h3 : b ≤ 18446744073709551615) (w : World) :
    Calls Try.prog 13 #[.int .i64 8, .int .i64 4, .int .u64 a, .int .u64 b] w fun e w' => e = .returned (.int .u64 (lo (am 8 (ex a) (ex b)))) ∧ w' = w := by
  have l := ex_bd a
  have r := ex_bd b
  have k : 0 ≤ wMinu (ex a) (ex b) ∧ wMinu (ex a) (ex b) ≤ 18446744073709551615 := am_bd 8 (ex a) (ex b) l.1 l.2 r.1 r.2
  go_enter Try.func13, Try.ntmps13
  go_wp2_with (first | (go_at_call 16; refine (ato_8 _).mono ?_; rintro e w' ⟨rfl, rfl⟩) | (go_at_call 17; refine (m_extended a h0 h1 _).mono ?_; rintro e w' ⟨rfl, rfl⟩) | (go_at_call 17; refine (m_extended b h2 h3 _).mono ?_; rintro e w' ⟨rfl, rfl⟩) | (go_at_call 48; refine (m_minu _ _ l.1 l.2 r.1 r.2 _).mono ?_; rintro e w' ⟨rfl, rfl⟩) | (go_at_call 18; refine (m_half _ k.1 k.2 _).mono ?_; rintro e w' ⟨rfl, rfl⟩))
  go_ret
  exact ⟨rfl, rfl⟩
theorem ato_9 (w : World) :
    Calls Try.prog 16 #[.int .i64 9] w fun e w' => e = .returned (.func (.func 49) #[] #[]) ∧ w' = w := by
  go_enter Try.func16, Try.ntmps16
  go_wp2
  go_ret
  exact ⟨rfl, rfl⟩
theorem am_9 (size a b : Int) (h0 : 0 ≤ a) (h1 : a ≤ 18446744073709551615) (h2 : 0 ≤ b) (h3 : b ≤ 18446744073709551615) (hs : ¬ size = 4) (w : World) :
    Calls Try.prog 13 #[.int .i64 9, .int .i64 size, .int .u64 a, .int .u64 b] w fun e w' => e = .returned (.int .u64 (wMaxu a b)) ∧ w' = w := by
  have hz : (size != 4) = true := by simpa using hs
  go_enter Try.func13, Try.ntmps13
  go_wp2_with (first | (go_at_call 16; refine (ato_9 _).mono ?_; rintro e w' ⟨rfl, rfl⟩) | (go_at_call 49; refine (m_maxu _ _ h0 h1 h2 h3 _).mono ?_; rintro e w' ⟨rfl, rfl⟩))
  go_ret
  exact ⟨rfl, rfl⟩
theorem amh_9 (a b : Int) (h0 : 0 ≤ a) (h1 : a ≤ 18446744073709551615) (h2 : 0 ≤ b) (h3 : b ≤ 18446744073709551615) (w : World) :
    Calls Try.prog 13 #[.int .i64 9, .int .i64 4, .int .u64 a, .int .u64 b] w fun e w' => e = .returned (.int .u64 (lo (am 9 (ex a) (ex b)))) ∧ w' = w := by
  have l := ex_bd a
  have r := ex_bd b
  have k : 0 ≤ wMaxu (ex a) (ex b) ∧ wMaxu (ex a) (ex b) ≤ 18446744073709551615 := am_bd 9 (ex a) (ex b) l.1 l.2 r.1 r.2
  go_enter Try.func13, Try.ntmps13
  go_wp2_with (first | (go_at_call 16; refine (ato_9 _).mono ?_; rintro e w' ⟨rfl, rfl⟩) | (go_at_call 17; refine (m_extended a h0 h1 _).mono ?_; rintro e w' ⟨rfl, rfl⟩) | (go_at_call 17; refine (m_extended b h2 h3 _).mono ?_; rintro e w' ⟨rfl, rfl⟩) | (go_at_call 49; refine (m_maxu _ _ l.1 l.2 r.1 r.2 _).mono ?_; rintro e w' ⟨rfl, rfl⟩) | (go_at_call 18; refine (m_half _ k.1 k.2 _).mono ?_; rintro e w' ⟨rfl, rfl⟩))
  go_ret
  exact ⟨rfl, rfl⟩
theorem am_none (fn size a b : Int) (h0 : 0 ≤ a) (h1 : a ≤ 18446744073709551615) (h2 : 0 ≤ b) (h3 : b ≤ 18446744073709551615) (hs : ¬ size = 4) (w : World) (e1 : ¬ fn = 1) (e2 : ¬ fn = 2) (e3 : ¬ fn = 3) (e4 : ¬ fn = 4) (e5 : ¬ fn = 5) (e6 : ¬ fn = 6) (e7 : ¬ fn = 7) (e8 : ¬ fn = 8) (e9 : ¬ fn = 9) :
    Calls Try.prog 13 #[.int .i64 fn, .int .i64 size, .int .u64 a, .int .u64 b] w fun e w' => e = .returned (.int .u64 a) ∧ w' = w := by
  have hz : (size != 4) = true := by simpa using hs
  have d1 : (fn == 1) = false := by simpa using e1
  have d2 : (fn == 2) = false := by simpa using e2
  have d3 : (fn == 3) = false := by simpa using e3
  have d4 : (fn == 4) = false := by simpa using e4
  have d5 : (fn == 5) = false := by simpa using e5
  have d6 : (fn == 6) = false := by simpa using e6
  have d7 : (fn == 7) = false := by simpa using e7
  have d8 : (fn == 8) = false := by simpa using e8
  have d9 : (fn == 9) = false := by simpa using e9
  go_enter Try.func13, Try.ntmps13
  go_wp2
  go_ret
  exact ⟨rfl, rfl⟩
theorem ato_none (fn : Int) (w : World) (e1 : ¬ fn = 1) (e2 : ¬ fn = 2) (e3 : ¬ fn = 3) (e4 : ¬ fn = 4) (e5 : ¬ fn = 5) (e6 : ¬ fn = 6) (e7 : ¬ fn = 7) (e8 : ¬ fn = 8) (e9 : ¬ fn = 9) :
    Calls Try.prog 16 #[.int .i64 fn] w fun e w' => e = .returned (.func (.func 50) #[] #[]) ∧ w' = w := by
  have d1 : (fn == 1) = false := by simpa using e1
  have d2 : (fn == 2) = false := by simpa using e2
  have d3 : (fn == 3) = false := by simpa using e3
  have d4 : (fn == 4) = false := by simpa using e4
  have d5 : (fn == 5) = false := by simpa using e5
  have d6 : (fn == 6) = false := by simpa using e6
  have d7 : (fn == 7) = false := by simpa using e7
  have d8 : (fn == 8) = false := by simpa using e8
  have d9 : (fn == 9) = false := by simpa using e9
  go_enter Try.func16, Try.ntmps16
  go_wp2
  go_ret
  exact ⟨rfl, rfl⟩
theorem amh_none (fn a b : Int) (h0 : 0 ≤ a) (h1 : a ≤ 18446744073709551615) (h2 : 0 ≤ b) (h3 : b ≤ 18446744073709551615) (w : World) (e1 : ¬ fn = 1) (e2 : ¬ fn = 2) (e3 : ¬ fn = 3) (e4 : ¬ fn = 4) (e5 : ¬ fn = 5) (e6 : ¬ fn = 6) (e7 : ¬ fn = 7) (e8 : ¬ fn = 8) (e9 : ¬ fn = 9) :
    Calls Try.prog 13 #[.int .i64 fn, .int .i64 4, .int .u64 a, .int .u64 b] w fun e w' => e = .returned (.int .u64 (lo (ex a))) ∧ w' = w := by
  have l := ex_bd a
  have r := ex_bd b
  go_enter Try.func13, Try.ntmps13
  go_wp2_with (first | (go_at_call 16; refine (ato_none fn _ e1 e2 e3 e4 e5 e6 e7 e8 e9).mono ?_; rintro e w' ⟨rfl, rfl⟩) | (go_at_call 50; refine (m_keep _ _ l.1 l.2 r.1 r.2 _).mono ?_; rintro e w' ⟨rfl, rfl⟩) | (go_at_call 17; refine (m_extended a h0 h1 _).mono ?_; rintro e w' ⟨rfl, rfl⟩) | (go_at_call 17; refine (m_extended b h2 h3 _).mono ?_; rintro e w' ⟨rfl, rfl⟩) | (go_at_call 18; refine (m_half _ l.1 l.2 _).mono ?_; rintro e w' ⟨rfl, rfl⟩))
  go_ret
  exact ⟨rfl, rfl⟩
theorem am_off (fn a b : Int) (e1 : ¬ fn = 1) (e2 : ¬ fn = 2) (e3 : ¬ fn = 3) (e4 : ¬ fn = 4) (e5 : ¬ fn = 5) (e6 : ¬ fn = 6) (e7 : ¬ fn = 7) (e8 : ¬ fn = 8) (e9 : ¬ fn = 9) : am fn a b = a := by
  unfold am
  rw [if_neg e1, if_neg e2, if_neg e3, if_neg e4, if_neg e5, if_neg e6, if_neg e7, if_neg e8, if_neg e9]
theorem m_Amo (fn size a b : Int) (h0 : 0 ≤ a) (h1 : a ≤ 18446744073709551615) (h2 : 0 ≤ b) (h3 : b ≤ 18446744073709551615) (w : World) :
    Calls Try.prog 13 #[.int .i64 fn, .int .i64 size, .int .u64 a, .int .u64 b] w fun e w' => e = .returned (.int .u64 (amo fn size a b)) ∧ w' = w := by
  by_cases hs : size = 4
  · subst hs
    by_cases e1 : fn = 1
    · subst e1; exact amh_1 a b h0 h1 h2 h3 w
    by_cases e2 : fn = 2
    · subst e2; exact amh_2 a b h0 h1 h2 h3 w
    by_cases e3 : fn = 3
    · subst e3; exact amh_3 a b h0 h1 h2 h3 w
    by_cases e4 : fn = 4
    · subst e4; exact amh_4 a b h0 h1 h2 h3 w
    by_cases e5 : fn = 5
    · subst e5; exact amh_5 a b h0 h1 h2 h3 w
    by_cases e6 : fn = 6
    · subst e6; exact amh_6 a b h0 h1 h2 h3 w
    by_cases e7 : fn = 7
    · subst e7; exact amh_7 a b h0 h1 h2 h3 w
    by_cases e8 : fn = 8
    · subst e8; exact amh_8 a b h0 h1 h2 h3 w
    by_cases e9 : fn = 9
    · subst e9; exact amh_9 a b h0 h1 h2 h3 w
    unfold amo; rw [if_pos rfl, am_off fn (ex a) (ex b) e1 e2 e3 e4 e5 e6 e7 e8 e9]
    exact amh_none fn a b h0 h1 h2 h3 w e1 e2 e3 e4 e5 e6 e7 e8 e9
  · unfold amo; rw [if_neg hs]
    by_cases e1 : fn = 1
    · subst e1; exact am_1 size a b h0 h1 h2 h3 hs w
    by_cases e2 : fn = 2
    · subst e2; exact am_2 size a b h0 h1 h2 h3 hs w
    by_cases e3 : fn = 3
    · subst e3; exact am_3 size a b h0 h1 h2 h3 hs w
    by_cases e4 : fn = 4
    · subst e4; exact am_4 size a b h0 h1 h2 h3 hs w
    by_cases e5 : fn = 5
    · subst e5; exact am_5 size a b h0 h1 h2 h3 hs w
    by_cases e6 : fn = 6
    · subst e6; exact am_6 size a b h0 h1 h2 h3 hs w
    by_cases e7 : fn = 7
    · subst e7; exact am_7 size a b h0 h1 h2 h3 hs w
    by_cases e8 : fn = 8
    · subst e8; exact am_8 size a b h0 h1 h2 h3 hs w
    by_cases e9 : fn = 9
    · subst e9; exact am_9 size a b h0 h1 h2 h3 hs w
    rw [am_off fn a b e1 e2 e3 e4 e5 e6 e7 e8 e9]
    exact am_none fn size a b h0 h1 h2 h3 hs w e1 e2 e3 e4 e5 e6 e7 e8 e9
end Go.Proofs.Ytdpnojlmiopniab
