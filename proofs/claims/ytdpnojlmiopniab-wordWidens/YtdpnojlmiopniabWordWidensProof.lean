/- For every word and every size, extending once more turns nothing, signed and unsigned part only above the bytes and only where the highest bit is 1, and Addw of 0 is an extension: WordWidens returns true. No condition. -/
import Derived.Test.YtdpnojlmiopniabRows
import Derived.WalkKit
import Derived.ProofKit
import Derived.OpenShut
import Derived.Test.YtdpnojlmiopniabLawMath
import Derived.Test.YtdpnojlmiopniabExt
import Derived.Test.YtdpnojlmiopniabAwake
namespace Go.Proofs.Ytdpnojlmiopniab.wordWidens
open Go.ChangeShapes Go.WideShapes Go.ChangeAt Go.RowKit
set_option linter.unusedVariables false      -- a walk need not use every 'w<i>' (that an integer argument fits its kind)

theorem own : ownKnob Try.prog.godebug = none := by kernel_rfl

theorem ex_tt (v n : Int) : ext v n true = exs v n := by unfold ext; rw [if_pos rfl]
theorem ex_ff (v n : Int) : ext v n false = exz v n := by unfold ext; rw [if_neg (by decide)]
theorem exs_bd (v n : Int) (hn : n = 1 ∨ n = 2 ∨ n = 4) : 0 ≤ ext v n true ∧ ext v n true ≤ 18446744073709551615 := by
  rw [ex_tt]; unfold exs; rcases hn with rfl | rfl | rfl <;> simp <;> omega
theorem exz_bd (v n : Int) (hn : n = 1 ∨ n = 2 ∨ n = 4) : 0 ≤ ext v n false ∧ ext v n false ≤ 4294967295 := by
  rw [ex_ff]; unfold exz; rcases hn with rfl | rfl | rfl <;> simp <;> omega
theorem x_tt (v n : Int) (hn : n = 1 ∨ n = 2 ∨ n = 4) : ext (ext v n true) n true = ext v n true := by
  simp only [ex_tt]; unfold exs; rcases hn with rfl | rfl | rfl <;> simp <;> omega
theorem x_ff (v n : Int) (hn : n = 1 ∨ n = 2 ∨ n = 4) : ext (ext v n false) n false = ext v n false := by
  simp only [ex_ff]; unfold exz; rcases hn with rfl | rfl | rfl <;> simp
theorem x_tf (v n : Int) (hn : n = 1 ∨ n = 2 ∨ n = 4) : ext (ext v n true) n false = ext v n false := by
  simp only [ex_ff, ex_tt]; unfold exz exs; rcases hn with rfl | rfl | rfl <;> simp <;> omega
theorem x_ft (v n : Int) (hn : n = 1 ∨ n = 2 ∨ n = 4) : ext (ext v n false) n true = ext v n true := by
  simp only [ex_ff, ex_tt]; unfold exz exs; rcases hn with rfl | rfl | rfl <;> simp
theorem x_add (v : Int) : alu 19 v 0 = ext v 4 true := by
  rw [ex_tt, exs4]; show ex (wAdd v 0) = ex v
  unfold wAdd; rw [ex_mod, Int.add_zero]
theorem hi1 (v : Int) : (ext v 1 true == ext v 1 false) = !(v / 128 % 2 == 1) := by
  rw [ex_ff, ex_tt]; unfold exz exs; simp; rw [Bool.eq_iff_iff]; simp; omega
theorem hi2 (v : Int) : (ext v 2 true == ext v 2 false) = !(v / 32768 % 2 == 1) := by
  rw [ex_ff, ex_tt]; unfold exz exs; simp; rw [Bool.eq_iff_iff]; simp; omega
theorem hi4 (v : Int) : (ext v 4 true == ext v 4 false) = !(v / 2147483648 % 2 == 1) := by
  rw [ex_ff, ex_tt]; unfold exz exs; simp; rw [Bool.eq_iff_iff]; simp; omega
theorem lt1 (v : Int) : ext v 1 false < 256 := by rw [ex_ff]; unfold exz; simp; omega
theorem lt2 (v : Int) : ext v 2 false < 65536 := by rw [ex_ff]; unfold exz; simp; omega
theorem lt4 (v : Int) : ext v 4 false < 4294967296 := by rw [ex_ff]; unfold exz; simp; omega

/-! ### STEP 1: THE WALK: the Go text returns true. 'Grown w w'': the world has at most new blocks (Derived/RowKit3.lean). Part the cases AHEAD of 'go_enter' where a test parts the walk; take each callee by a contract of your own. -/
set_option maxHeartbeats 4000000 in
theorem walk (a0 : Int) (a1 : Int) (w0 : (Lit.int .u64 a0).wf = true) (w1 : (Lit.int .i64 a1).wf = true) (w : World) :
    Calls Try.prog 8 #[.int .u64 a0, .int .i64 a1] w fun e w' => e = .returned (.bool true) ∧ Grown w w' := by
  obtain ⟨h0, h1⟩ := bounds_u64 w0
  have hr : a1.tmod 3 = 0 ∨ a1.tmod 3 = 1 ∨ a1.tmod 3 = 2 ∨ a1.tmod 3 = -1 ∨ a1.tmod 3 = -2 := by
    have := Int.tmod_lt_of_pos a1 (by decide : (0 : Int) < 3)
    have := Int.lt_tmod_of_pos a1 (by decide : (0 : Int) < 3)
    omega
  have q0 := x_add a0
  rcases hr with hr | hr | hr | hr | hr
  · have hn : (1 : Int) = 1 ∨ (1 : Int) = 2 ∨ (1 : Int) = 4 := by omega
    have k1 := exs_bd a0 1 hn
    have k2 := exz_bd a0 1 hn
    have q1 := x_tt a0 1 hn
    have q2 := x_ff a0 1 hn
    have q3 := x_tf a0 1 hn
    have q4 := x_ft a0 1 hn
    have q5 := hi1 a0
    have q6 := lt1 a0
    clear hn
    cases hh : (a0 / 128 % 2 == 1)
    all_goals
      rw [hh] at q5
      go_enter Try.func8, Try.ntmps8
      go_wp2_with (first | (go_at_call 11; refine (m_Extend _ _ _ ?_ ?_ _).mono ?_; omega; omega; rintro e w' ⟨rfl, rfl⟩) | (go_at_call 10; refine (m_Alu _ _ _ ?_ ?_ ?_ ?_ _).mono ?_; omega; omega; omega; omega; rintro e w' ⟨rfl, rfl⟩) | (go_at_call 9; refine (m_awake _).mono ?_; rintro e w' ⟨rfl, rfl⟩))
      go_ret
      exact ⟨rfl, by repeat (first | exact Grown.refl _ | apply Grown.drew | apply Grown.alloc)⟩
  · have hn : (2 : Int) = 1 ∨ (2 : Int) = 2 ∨ (2 : Int) = 4 := by omega
    have k1 := exs_bd a0 2 hn
    have k2 := exz_bd a0 2 hn
    have q1 := x_tt a0 2 hn
    have q2 := x_ff a0 2 hn
    have q3 := x_tf a0 2 hn
    have q4 := x_ft a0 2 hn
    have q5 := hi2 a0
    have q6 := lt2 a0
    clear hn
    cases hh : (a0 / 32768 % 2 == 1)
    all_goals
      rw [hh] at q5
      go_enter Try.func8, Try.ntmps8
      go_wp2_with (first | (go_at_call 11; refine (m_Extend _ _ _ ?_ ?_ _).mono ?_; omega; omega; rintro e w' ⟨rfl, rfl⟩) | (go_at_call 10; refine (m_Alu _ _ _ ?_ ?_ ?_ ?_ _).mono ?_; omega; omega; omega; omega; rintro e w' ⟨rfl, rfl⟩) | (go_at_call 9; refine (m_awake _).mono ?_; rintro e w' ⟨rfl, rfl⟩))
      go_ret
      exact ⟨rfl, by repeat (first | exact Grown.refl _ | apply Grown.drew | apply Grown.alloc)⟩
  · have hn : (4 : Int) = 1 ∨ (4 : Int) = 2 ∨ (4 : Int) = 4 := by omega
    have k1 := exs_bd a0 4 hn
    have k2 := exz_bd a0 4 hn
    have q1 := x_tt a0 4 hn
    have q2 := x_ff a0 4 hn
    have q3 := x_tf a0 4 hn
    have q4 := x_ft a0 4 hn
    have q5 := hi4 a0
    have q6 := lt4 a0
    clear hn
    cases hh : (a0 / 2147483648 % 2 == 1)
    all_goals
      rw [hh] at q5
      go_enter Try.func8, Try.ntmps8
      go_wp2_with (first | (go_at_call 11; refine (m_Extend _ _ _ ?_ ?_ _).mono ?_; omega; omega; rintro e w' ⟨rfl, rfl⟩) | (go_at_call 10; refine (m_Alu _ _ _ ?_ ?_ ?_ ?_ _).mono ?_; omega; omega; omega; omega; rintro e w' ⟨rfl, rfl⟩) | (go_at_call 9; refine (m_awake _).mono ?_; rintro e w' ⟨rfl, rfl⟩))
      go_ret
      exact ⟨rfl, by repeat (first | exact Grown.refl _ | apply Grown.drew | apply Grown.alloc)⟩
  · have hn : (4 : Int) = 1 ∨ (4 : Int) = 2 ∨ (4 : Int) = 4 := by omega
    have k1 := exs_bd a0 4 hn
    have k2 := exz_bd a0 4 hn
    have q1 := x_tt a0 4 hn
    have q2 := x_ff a0 4 hn
    have q3 := x_tf a0 4 hn
    have q4 := x_ft a0 4 hn
    have q5 := hi4 a0
    have q6 := lt4 a0
    clear hn
    cases hh : (a0 / 2147483648 % 2 == 1)
    all_goals
      rw [hh] at q5
      go_enter Try.func8, Try.ntmps8
      go_wp2_with (first | (go_at_call 11; refine (m_Extend _ _ _ ?_ ?_ _).mono ?_; omega; omega; rintro e w' ⟨rfl, rfl⟩) | (go_at_call 10; refine (m_Alu _ _ _ ?_ ?_ ?_ ?_ _).mono ?_; omega; omega; omega; omega; rintro e w' ⟨rfl, rfl⟩) | (go_at_call 9; refine (m_awake _).mono ?_; rintro e w' ⟨rfl, rfl⟩))
      go_ret
      exact ⟨rfl, by repeat (first | exact Grown.refl _ | apply Grown.drew | apply Grown.alloc)⟩
  · have hn : (2 : Int) = 1 ∨ (2 : Int) = 2 ∨ (2 : Int) = 4 := by omega
    have k1 := exs_bd a0 2 hn
    have k2 := exz_bd a0 2 hn
    have q1 := x_tt a0 2 hn
    have q2 := x_ff a0 2 hn
    have q3 := x_tf a0 2 hn
    have q4 := x_ft a0 2 hn
    have q5 := hi2 a0
    have q6 := lt2 a0
    clear hn
    cases hh : (a0 / 32768 % 2 == 1)
    all_goals
      rw [hh] at q5
      go_enter Try.func8, Try.ntmps8
      go_wp2_with (first | (go_at_call 11; refine (m_Extend _ _ _ ?_ ?_ _).mono ?_; omega; omega; rintro e w' ⟨rfl, rfl⟩) | (go_at_call 10; refine (m_Alu _ _ _ ?_ ?_ ?_ ?_ _).mono ?_; omega; omega; omega; omega; rintro e w' ⟨rfl, rfl⟩) | (go_at_call 9; refine (m_awake _).mono ?_; rintro e w' ⟨rfl, rfl⟩))
      go_ret
      exact ⟨rfl, by repeat (first | exact Grown.refl _ | apply Grown.drew | apply Grown.alloc)⟩

/-! ### THE ROW's STEP: WRITTEN OUT: LEAVE IT -/
set_option maxRecDepth 100000 in
theorem lifted (os : Os) (started : os.Started) (H : Type) (enc : TypeId × Value → H) :
    ReturnsInHanded {} Try.checked os 8 .any (Rows.wordWidensSpec.pre6 enc Try.prog Try.f8 Rows.wordWidensRow.domain false) (Rows.wordWidensSpec.post enc Try.prog Try.f8 false true false false) := by
  refine returnsInHanded_of_change (C := Try.checked) own started (by kernel_rfl) Try.func8
    (ChangeSpec.witness6 (enc := enc) (C := Try.checked) false ⟨#[], #[.int .u64 0, .int .i64 0], []⟩ 8 (by kernel_rfl) (by kernel_rfl) (by kernel_rfl) (by kernel_rfl)) ?_
  intro W base args ds gs before hval0 hW hcnd _
  have hval : ∀ (j : Nat) t v, Try.f8.params[j]? = some t → args[j]? = some v → Value.okWide Try.prog W .any base t v := hval0
  have hW' := hW
  obtain ⟨p, q, hA0, hV, rfl, hfz, hnd⟩ := hW
  have hA : DataW.TrodAll enc Try.prog W 0 (fun _ => true) true Try.f8.params.toList args.toList ds p := hA0
  rw [Try.params8] at hA hval
  obtain ⟨v0, vs0, d0, ds0, p0, q0, hargs, rfl, rfl, h0, r0⟩ := trodAll_cons hA
  obtain ⟨v1, vs1, d1, ds1, p1, q1, rfl, rfl, rfl, h1, r1⟩ := trodAll_cons r0
  obtain ⟨rfl, rfl, rfl⟩ := trodAll_nil r1
  obtain rfl : args = #[v0, v1] := by cases args; simp_all
  obtain ⟨rfl, rfl⟩ := trodVars_none hV
  obtain ⟨a0, rfl, rfl, rfl, w0⟩ := open_int Try.underlying22 (hval 0 22 v0 rfl rfl) h0
  obtain ⟨a1, rfl, rfl, rfl, w1⟩ := open_int Try.underlying3 (hval 1 3 v1 rfl rfl) h1
  clear hA0 hval0
  simp only [List.append_nil] at hW'
  refine (walk a0 a1 w0 w1 W).mono fun e W' ⟨he, hg⟩ => ?_
  subst he
  exact ⟨_, rfl, post_of_same (pa := []) (pv := []) hW' (fun _ _ _ => (trodAll_cons_mk (shut_bool Try.underlying4 _) trodAll_mk0)) (fun sp _ => (trodAll_cons_mk (shut_int Try.underlying22 w0) (trodAll_cons_mk (shut_int Try.underlying3 w1) trodAll_mk0))) (fun _ _ => rfl) rfl
    (hg.frame _) hg.2.1 (ok_one (by kernel_rfl) rfl (okWide_bool_mk Try.underlying4 _))⟩

theorem over : Rows.wordWidensRow.holds Try.pinned (OpenSpec.ofChange Rows.wordWidensSpec) :=
  OpenClaim.holds_of_wide 8 Try.f8 rfl rfl rfl rfl rfl rfl rfl ⟨rfl, rfl, rfl, rfl, rfl⟩ rfl rfl rfl rfl rfl (by kernel_rfl) Try.func8 (by kernel_rfl)
    (of_decide_eq_true (by kernel_rfl)) (by unfold Func.isWrapper; first | (rw [if_pos (by decide +kernel)]; kernel_rfl) | (rw [if_neg (by decide +kernel)]; exact ⟨rfl, rfl⟩))
    (fun os started H enc _ => lifted os started H enc)

/-- ████ THE STATEMENT ████ -/
theorem proved : Rows.WordWidensSaid :=
  over
#print axioms proved
end Go.Proofs.Ytdpnojlmiopniab.wordWidens
