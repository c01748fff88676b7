/- The document's page: what a leaf of the first stage allows. -/
import Derived.Test.YtlfdokkopgmfjaaGreatDoorMC5
namespace Go.Proofs.YtlfdokkopgmfjaaGreatDoor.C
open Go.RowKit
set_option linter.unusedVariables false
set_option maxRecDepth 100000
set_option maxHeartbeats 4000000 in
theorem q_first (e : Int) (v : EnvV) (acc : Int) (h0 : 0 ≤ e) (h1 : e < 18446744073709551616) (w : World) :
    Calls Tryz.prog 81 #[.int .u64 e, .agg #[.int .u64 v.satp, .int .u64 v.root, .bool v.user, .bool v.sum, .bool v.mxr], .int .i64 acc] w fun r w' => r = .returned (.bool (fa e v acc)) ∧ Below w.heap.size w w' := by
  obtain ⟨b2, b4, b8, b16, b64, b128, _⟩ := bit_eq e h0 h1
  have l132 := (low2 ⟨lo e, lo_lt e⟩).2.2.2.2.2.2.2.2
  have hl : hs e 132 = (hs e 4 && hs e 128) := l132
  have HL := hid hl
  clear l132 hl
  obtain ⟨sp, rt, us, su, mx⟩ := v
  go_enter Tryz.func81, Tryz.ntmps81
  cases c16 : hs e 16 <;> rw [c16] at b16 <;> cases us <;> cases su
  · by_cases a1 : acc = 1
    · subst a1
      cases c8 : hs e 8 <;> rw [c8] at b8
      · go_wp2_with fail
        go_ret
        have hl := HL.out
        exact ⟨ret_bool (by simp [fa, bel, alf, *]), (Below.refl _ _).alloc (Nat.le_refl _) _⟩
      · go_wp2_with fail
        go_ret
        have hl := HL.out
        exact ⟨ret_bool (by simp [fa, bel, alf, *]), (Below.refl _ _).alloc (Nat.le_refl _) _⟩
    · by_cases a2 : acc = 2
      · subst a2
        cases c2 : hs e 2 <;> rw [c2] at b2
        · cases mx
          · go_wp2_with fail
            go_ret
            have hl := HL.out
            exact ⟨ret_bool (by simp [fa, bel, alf, *]), (Below.refl _ _).alloc (Nat.le_refl _) _⟩
          · cases c8 : hs e 8 <;> rw [c8] at b8
            · go_wp2_with fail
              go_ret
              have hl := HL.out
              exact ⟨ret_bool (by simp [fa, bel, alf, *]), (Below.refl _ _).alloc (Nat.le_refl _) _⟩
            · go_wp2_with fail
              go_ret
              have hl := HL.out
              exact ⟨ret_bool (by simp [fa, bel, alf, *]), (Below.refl _ _).alloc (Nat.le_refl _) _⟩
        · go_wp2_with fail
          go_ret
          have hl := HL.out
          exact ⟨ret_bool (by simp [fa, bel, alf, *]), (Below.refl _ _).alloc (Nat.le_refl _) _⟩
      · by_cases a3 : acc = 3
        · subst a3
          cases c4 : hs e 4 <;> rw [c4] at b4
          · go_wp2_with fail
            go_ret
            have hl := HL.out
            exact ⟨ret_bool (by simp [fa, bel, alf, *]), (Below.refl _ _).alloc (Nat.le_refl _) _⟩
          · cases c128 : hs e 128 <;> rw [c128] at b128
            · go_wp2_with fail
              go_ret
              have hl := HL.out
              exact ⟨ret_bool (by simp [fa, bel, alf, *]), (Below.refl _ _).alloc (Nat.le_refl _) _⟩
            · go_wp2_with fail
              go_ret
              have hl := HL.out
              exact ⟨ret_bool (by simp [fa, bel, alf, *]), (Below.refl _ _).alloc (Nat.le_refl _) _⟩
        · go_wp2_with fail
          go_ret
          have hl := HL.out
          exact ⟨ret_bool (by simp [fa, bel, alf, *]), (Below.refl _ _).alloc (Nat.le_refl _) _⟩
  · by_cases a1 : acc = 1
    · subst a1
      cases c8 : hs e 8 <;> rw [c8] at b8
      · go_wp2_with fail
        go_ret
        have hl := HL.out
        exact ⟨ret_bool (by simp [fa, bel, alf, *]), (Below.refl _ _).alloc (Nat.le_refl _) _⟩
      · go_wp2_with fail
        go_ret
        have hl := HL.out
        exact ⟨ret_bool (by simp [fa, bel, alf, *]), (Below.refl _ _).alloc (Nat.le_refl _) _⟩
    · by_cases a2 : acc = 2
      · subst a2
        cases c2 : hs e 2 <;> rw [c2] at b2
        · cases mx
          · go_wp2_with fail
            go_ret
            have hl := HL.out
            exact ⟨ret_bool (by simp [fa, bel, alf, *]), (Below.refl _ _).alloc (Nat.le_refl _) _⟩
          · cases c8 : hs e 8 <;> rw [c8] at b8
            · go_wp2_with fail
              go_ret
              have hl := HL.out
              exact ⟨ret_bool (by simp [fa, bel, alf, *]), (Below.refl _ _).alloc (Nat.le_refl _) _⟩
            · go_wp2_with fail
              go_ret
              have hl := HL.out
              exact ⟨ret_bool (by simp [fa, bel, alf, *]), (Below.refl _ _).alloc (Nat.le_refl _) _⟩
        · go_wp2_with fail
          go_ret
          have hl := HL.out
          exact ⟨ret_bool (by simp [fa, bel, alf, *]), (Below.refl _ _).alloc (Nat.le_refl _) _⟩
      · by_cases a3 : acc = 3
        · subst a3
          cases c4 : hs e 4 <;> rw [c4] at b4
          · go_wp2_with fail
            go_ret
            have hl := HL.out
            exact ⟨ret_bool (by simp [fa, bel, alf, *]), (Below.refl _ _).alloc (Nat.le_refl _) _⟩
          · cases c128 : hs e 128 <;> rw [c128] at b128
            · go_wp2_with fail
              go_ret
              have hl := HL.out
              exact ⟨ret_bool (by simp [fa, bel, alf, *]), (Below.refl _ _).alloc (Nat.le_refl _) _⟩
            · go_wp2_with fail
              go_ret
              have hl := HL.out
              exact ⟨ret_bool (by simp [fa, bel, alf, *]), (Below.refl _ _).alloc (Nat.le_refl _) _⟩
        · go_wp2_with fail
          go_ret
          have hl := HL.out
          exact ⟨ret_bool (by simp [fa, bel, alf, *]), (Below.refl _ _).alloc (Nat.le_refl _) _⟩
  · by_cases a1 : acc = 1
    · subst a1
      cases c8 : hs e 8 <;> rw [c8] at b8
      · go_wp2_with fail
        go_ret
        have hl := HL.out
        exact ⟨ret_bool (by simp [fa, bel, alf, *]), (Below.refl _ _).alloc (Nat.le_refl _) _⟩
      · go_wp2_with fail
        go_ret
        have hl := HL.out
        exact ⟨ret_bool (by simp [fa, bel, alf, *]), (Below.refl _ _).alloc (Nat.le_refl _) _⟩
    · by_cases a2 : acc = 2
      · subst a2
        cases c2 : hs e 2 <;> rw [c2] at b2
        · cases mx
          · go_wp2_with fail
            go_ret
            have hl := HL.out
            exact ⟨ret_bool (by simp [fa, bel, alf, *]), (Below.refl _ _).alloc (Nat.le_refl _) _⟩
          · cases c8 : hs e 8 <;> rw [c8] at b8
            · go_wp2_with fail
              go_ret
              have hl := HL.out
              exact ⟨ret_bool (by simp [fa, bel, alf, *]), (Below.refl _ _).alloc (Nat.le_refl _) _⟩
            · go_wp2_with fail
              go_ret
              have hl := HL.out
              exact ⟨ret_bool (by simp [fa, bel, alf, *]), (Below.refl _ _).alloc (Nat.le_refl _) _⟩
        · go_wp2_with fail
          go_ret
          have hl := HL.out
          exact ⟨ret_bool (by simp [fa, bel, alf, *]), (Below.refl _ _).alloc (Nat.le_refl _) _⟩
      · by_cases a3 : acc = 3
        · subst a3
          cases c4 : hs e 4 <;> rw [c4] at b4
          · go_wp2_with fail
            go_ret
            have hl := HL.out
            exact ⟨ret_bool (by simp [fa, bel, alf, *]), (Below.refl _ _).alloc (Nat.le_refl _) _⟩
          · cases c128 : hs e 128 <;> rw [c128] at b128
            · go_wp2_with fail
              go_ret
              have hl := HL.out
              exact ⟨ret_bool (by simp [fa, bel, alf, *]), (Below.refl _ _).alloc (Nat.le_refl _) _⟩
            · go_wp2_with fail
              go_ret
              have hl := HL.out
              exact ⟨ret_bool (by simp [fa, bel, alf, *]), (Below.refl _ _).alloc (Nat.le_refl _) _⟩
        · go_wp2_with fail
          go_ret
          have hl := HL.out
          exact ⟨ret_bool (by simp [fa, bel, alf, *]), (Below.refl _ _).alloc (Nat.le_refl _) _⟩
  · by_cases a1 : acc = 1
    · subst a1
      cases c8 : hs e 8 <;> rw [c8] at b8
      · go_wp2_with fail
        go_ret
        have hl := HL.out
        exact ⟨ret_bool (by simp [fa, bel, alf, *]), (Below.refl _ _).alloc (Nat.le_refl _) _⟩
      · go_wp2_with fail
        go_ret
        have hl := HL.out
        exact ⟨ret_bool (by simp [fa, bel, alf, *]), (Below.refl _ _).alloc (Nat.le_refl _) _⟩
    · by_cases a2 : acc = 2
      · subst a2
        cases c2 : hs e 2 <;> rw [c2] at b2
        · cases mx
          · go_wp2_with fail
            go_ret
            have hl := HL.out
            exact ⟨ret_bool (by simp [fa, bel, alf, *]), (Below.refl _ _).alloc (Nat.le_refl _) _⟩
          · cases c8 : hs e 8 <;> rw [c8] at b8
            · go_wp2_with fail
              go_ret
              have hl := HL.out
              exact ⟨ret_bool (by simp [fa, bel, alf, *]), (Below.refl _ _).alloc (Nat.le_refl _) _⟩
            · go_wp2_with fail
              go_ret
              have hl := HL.out
              exact ⟨ret_bool (by simp [fa, bel, alf, *]), (Below.refl _ _).alloc (Nat.le_refl _) _⟩
        · go_wp2_with fail
          go_ret
          have hl := HL.out
          exact ⟨ret_bool (by simp [fa, bel, alf, *]), (Below.refl _ _).alloc (Nat.le_refl _) _⟩
      · by_cases a3 : acc = 3
        · subst a3
          cases c4 : hs e 4 <;> rw [c4] at b4
          · go_wp2_with fail
            go_ret
            have hl := HL.out
            exact ⟨ret_bool (by simp [fa, bel, alf, *]), (Below.refl _ _).alloc (Nat.le_refl _) _⟩
          · cases c128 : hs e 128 <;> rw [c128] at b128
            · go_wp2_with fail
              go_ret
              have hl := HL.out
              exact ⟨ret_bool (by simp [fa, bel, alf, *]), (Below.refl _ _).alloc (Nat.le_refl _) _⟩
            · go_wp2_with fail
              go_ret
              have hl := HL.out
              exact ⟨ret_bool (by simp [fa, bel, alf, *]), (Below.refl _ _).alloc (Nat.le_refl _) _⟩
        · go_wp2_with fail
          go_ret
          have hl := HL.out
          exact ⟨ret_bool (by simp [fa, bel, alf, *]), (Below.refl _ _).alloc (Nat.le_refl _) _⟩
  · by_cases a1 : acc = 1
    · subst a1
      cases c8 : hs e 8 <;> rw [c8] at b8
      · go_wp2_with fail
        go_ret
        have hl := HL.out
        exact ⟨ret_bool (by simp [fa, bel, alf, *]), (Below.refl _ _).alloc (Nat.le_refl _) _⟩
      · go_wp2_with fail
        go_ret
        have hl := HL.out
        exact ⟨ret_bool (by simp [fa, bel, alf, *]), (Below.refl _ _).alloc (Nat.le_refl _) _⟩
    · by_cases a2 : acc = 2
      · subst a2
        cases c2 : hs e 2 <;> rw [c2] at b2
        · cases mx
          · go_wp2_with fail
            go_ret
            have hl := HL.out
            exact ⟨ret_bool (by simp [fa, bel, alf, *]), (Below.refl _ _).alloc (Nat.le_refl _) _⟩
          · cases c8 : hs e 8 <;> rw [c8] at b8
            · go_wp2_with fail
              go_ret
              have hl := HL.out
              exact ⟨ret_bool (by simp [fa, bel, alf, *]), (Below.refl _ _).alloc (Nat.le_refl _) _⟩
            · go_wp2_with fail
              go_ret
              have hl := HL.out
              exact ⟨ret_bool (by simp [fa, bel, alf, *]), (Below.refl _ _).alloc (Nat.le_refl _) _⟩
        · go_wp2_with fail
          go_ret
          have hl := HL.out
          exact ⟨ret_bool (by simp [fa, bel, alf, *]), (Below.refl _ _).alloc (Nat.le_refl _) _⟩
      · by_cases a3 : acc = 3
        · subst a3
          cases c4 : hs e 4 <;> rw [c4] at b4
          · go_wp2_with fail
            go_ret
            have hl := HL.out
            exact ⟨ret_bool (by simp [fa, bel, alf, *]), (Below.refl _ _).alloc (Nat.le_refl _) _⟩
          · cases c128 : hs e 128 <;> rw [c128] at b128
            · go_wp2_with fail
              go_ret
              have hl := HL.out
              exact ⟨ret_bool (by simp [fa, bel, alf, *]), (Below.refl _ _).alloc (Nat.le_refl _) _⟩
            · go_wp2_with fail
              go_ret
              have hl := HL.out
              exact ⟨ret_bool (by simp [fa, bel, alf, *]), (Below.refl _ _).alloc (Nat.le_refl _) _⟩
        · go_wp2_with fail
          go_ret
          have hl := HL.out
          exact ⟨ret_bool (by simp [fa, bel, alf, *]), (Below.refl _ _).alloc (Nat.le_refl _) _⟩
  · by_cases a1 : acc = 1
    · subst a1
      cases c8 : hs e 8 <;> rw [c8] at b8
      · go_wp2_with fail
        go_ret
        have hl := HL.out
        exact ⟨ret_bool (by simp [fa, bel, alf, *]), (Below.refl _ _).alloc (Nat.le_refl _) _⟩
      · go_wp2_with fail
        go_ret
        have hl := HL.out
        exact ⟨ret_bool (by simp [fa, bel, alf, *]), (Below.refl _ _).alloc (Nat.le_refl _) _⟩
    · by_cases a2 : acc = 2
      · subst a2
        cases c2 : hs e 2 <;> rw [c2] at b2
        · cases mx
          · go_wp2_with fail
            go_ret
            have hl := HL.out
            exact ⟨ret_bool (by simp [fa, bel, alf, *]), (Below.refl _ _).alloc (Nat.le_refl _) _⟩
          · cases c8 : hs e 8 <;> rw [c8] at b8
            · go_wp2_with fail
              go_ret
              have hl := HL.out
              exact ⟨ret_bool (by simp [fa, bel, alf, *]), (Below.refl _ _).alloc (Nat.le_refl _) _⟩
            · go_wp2_with fail
              go_ret
              have hl := HL.out
              exact ⟨ret_bool (by simp [fa, bel, alf, *]), (Below.refl _ _).alloc (Nat.le_refl _) _⟩
        · go_wp2_with fail
          go_ret
          have hl := HL.out
          exact ⟨ret_bool (by simp [fa, bel, alf, *]), (Below.refl _ _).alloc (Nat.le_refl _) _⟩
      · by_cases a3 : acc = 3
        · subst a3
          cases c4 : hs e 4 <;> rw [c4] at b4
          · go_wp2_with fail
            go_ret
            have hl := HL.out
            exact ⟨ret_bool (by simp [fa, bel, alf, *]), (Below.refl _ _).alloc (Nat.le_refl _) _⟩
          · cases c128 : hs e 128 <;> rw [c128] at b128
            · go_wp2_with fail
              go_ret
              have hl := HL.out
              exact ⟨ret_bool (by simp [fa, bel, alf, *]), (Below.refl _ _).alloc (Nat.le_refl _) _⟩
            · go_wp2_with fail
              go_ret
              have hl := HL.out
              exact ⟨ret_bool (by simp [fa, bel, alf, *]), (Below.refl _ _).alloc (Nat.le_refl _) _⟩
        · go_wp2_with fail
          go_ret
          have hl := HL.out
          exact ⟨ret_bool (by simp [fa, bel, alf, *]), (Below.refl _ _).alloc (Nat.le_refl _) _⟩
  · by_cases a1 : acc = 1
    · subst a1
      cases c8 : hs e 8 <;> rw [c8] at b8
      · go_wp2_with fail
        go_ret
        have hl := HL.out
        exact ⟨ret_bool (by simp [fa, bel, alf, *]), (Below.refl _ _).alloc (Nat.le_refl _) _⟩
      · go_wp2_with fail
        go_ret
        have hl := HL.out
        exact ⟨ret_bool (by simp [fa, bel, alf, *]), (Below.refl _ _).alloc (Nat.le_refl _) _⟩
    · by_cases a2 : acc = 2
      · subst a2
        cases c2 : hs e 2 <;> rw [c2] at b2
        · cases mx
          · go_wp2_with fail
            go_ret
            have hl := HL.out
            exact ⟨ret_bool (by simp [fa, bel, alf, *]), (Below.refl _ _).alloc (Nat.le_refl _) _⟩
          · cases c8 : hs e 8 <;> rw [c8] at b8
            · go_wp2_with fail
              go_ret
              have hl := HL.out
              exact ⟨ret_bool (by simp [fa, bel, alf, *]), (Below.refl _ _).alloc (Nat.le_refl _) _⟩
            · go_wp2_with fail
              go_ret
              have hl := HL.out
              exact ⟨ret_bool (by simp [fa, bel, alf, *]), (Below.refl _ _).alloc (Nat.le_refl _) _⟩
        · go_wp2_with fail
          go_ret
          have hl := HL.out
          exact ⟨ret_bool (by simp [fa, bel, alf, *]), (Below.refl _ _).alloc (Nat.le_refl _) _⟩
      · by_cases a3 : acc = 3
        · subst a3
          cases c4 : hs e 4 <;> rw [c4] at b4
          · go_wp2_with fail
            go_ret
            have hl := HL.out
            exact ⟨ret_bool (by simp [fa, bel, alf, *]), (Below.refl _ _).alloc (Nat.le_refl _) _⟩
          · cases c128 : hs e 128 <;> rw [c128] at b128
            · go_wp2_with fail
              go_ret
              have hl := HL.out
              exact ⟨ret_bool (by simp [fa, bel, alf, *]), (Below.refl _ _).alloc (Nat.le_refl _) _⟩
            · go_wp2_with fail
              go_ret
              have hl := HL.out
              exact ⟨ret_bool (by simp [fa, bel, alf, *]), (Below.refl _ _).alloc (Nat.le_refl _) _⟩
        · go_wp2_with fail
          go_ret
          have hl := HL.out
          exact ⟨ret_bool (by simp [fa, bel, alf, *]), (Below.refl _ _).alloc (Nat.le_refl _) _⟩
  · by_cases a1 : acc = 1
    · subst a1
      cases c8 : hs e 8 <;> rw [c8] at b8
      · go_wp2_with fail
        go_ret
        have hl := HL.out
        exact ⟨ret_bool (by simp [fa, bel, alf, *]), (Below.refl _ _).alloc (Nat.le_refl _) _⟩
      · go_wp2_with fail
        go_ret
        have hl := HL.out
        exact ⟨ret_bool (by simp [fa, bel, alf, *]), (Below.refl _ _).alloc (Nat.le_refl _) _⟩
    · by_cases a2 : acc = 2
      · subst a2
        cases c2 : hs e 2 <;> rw [c2] at b2
        · cases mx
          · go_wp2_with fail
            go_ret
            have hl := HL.out
            exact ⟨ret_bool (by simp [fa, bel, alf, *]), (Below.refl _ _).alloc (Nat.le_refl _) _⟩
          · cases c8 : hs e 8 <;> rw [c8] at b8
            · go_wp2_with fail
              go_ret
              have hl := HL.out
              exact ⟨ret_bool (by simp [fa, bel, alf, *]), (Below.refl _ _).alloc (Nat.le_refl _) _⟩
            · go_wp2_with fail
              go_ret
              have hl := HL.out
              exact ⟨ret_bool (by simp [fa, bel, alf, *]), (Below.refl _ _).alloc (Nat.le_refl _) _⟩
        · go_wp2_with fail
          go_ret
          have hl := HL.out
          exact ⟨ret_bool (by simp [fa, bel, alf, *]), (Below.refl _ _).alloc (Nat.le_refl _) _⟩
      · by_cases a3 : acc = 3
        · subst a3
          cases c4 : hs e 4 <;> rw [c4] at b4
          · go_wp2_with fail
            go_ret
            have hl := HL.out
            exact ⟨ret_bool (by simp [fa, bel, alf, *]), (Below.refl _ _).alloc (Nat.le_refl _) _⟩
          · cases c128 : hs e 128 <;> rw [c128] at b128
            · go_wp2_with fail
              go_ret
              have hl := HL.out
              exact ⟨ret_bool (by simp [fa, bel, alf, *]), (Below.refl _ _).alloc (Nat.le_refl _) _⟩
            · go_wp2_with fail
              go_ret
              have hl := HL.out
              exact ⟨ret_bool (by simp [fa, bel, alf, *]), (Below.refl _ _).alloc (Nat.le_refl _) _⟩
        · go_wp2_with fail
          go_ret
          have hl := HL.out
          exact ⟨ret_bool (by simp [fa, bel, alf, *]), (Below.refl _ _).alloc (Nat.le_refl _) _⟩
end Go.Proofs.YtlfdokkopgmfjaaGreatDoor.C
