/- For every two words, what an atomic stores is one of its operands, or their sum, or made bit by bit, the minimum and the maximum are the two operands in order, and halves stay halves and hang on the low halves alone: WordAtomics returns true. No condition. -/
import Derived.Test.YtdpnojlmiopniabRows
import Derived.WalkKit
import Derived.ProofKit
import Derived.OpenShut
import Derived.Test.YtdpnojlmiopniabLawMath
import Derived.Test.YtdpnojlmiopniabBran
import Derived.Test.YtdpnojlmiopniabAwake
namespace Go.Proofs.Ytdpnojlmiopniab.wordAtomics
open Go.ChangeShapes Go.WideShapes Go.ChangeAt Go.RowKit
set_option linter.unusedVariables false      -- a walk need not use every 'w<i>' (that an integer argument fits its kind)

theorem own : ownKnob Try.prog.godebug = none := by kernel_rfl

theorem amo8 (fn a b : Int) : amo fn 8 a b = am fn a b := by unfold amo; rw [if_neg (by decide)]
theorem amo8_bd (fn a b : Int) (h0 : 0 ≤ a) (h1 : a ≤ 18446744073709551615) (h2 : 0 ≤ b) (h3 : b ≤ 18446744073709551615) : 0 ≤ amo fn 8 a b ∧ amo fn 8 a b ≤ 18446744073709551615 := by
  rw [amo8]; exact am_bd fn a b h0 h1 h2 h3

/-! ### STEP 1: THE WALK: the Go text returns true. 'Grown w w'': the world has at most new blocks (Derived/RowKit3.lean). Part the cases AHEAD of 'go_enter' where a test parts the walk; take each callee by a contract of your own. -/
set_option maxHeartbeats 1000000 in
theorem walk (a0 : Int) (a1 : Int) (w0 : (Lit.int .u64 a0).wf = true) (w1 : (Lit.int .u64 a1).wf = true) (w : World) :
    Calls Try.prog 7 #[.int .u64 a0, .int .u64 a1] w fun e w' => e = .returned (.bool true) ∧ Grown w w' := by
  obtain ⟨h0, h1⟩ := bounds_u64 w0
  obtain ⟨h2, h3⟩ := bounds_u64 w1
  have q1 : amo 1 8 a0 a1 = a1 := by rw [amo8]; rfl
  have q2 : amo 2 8 a0 a1 = IntKind.u64.wrap (a0 + a1) := by rw [amo8, IntKind.wrap_u64]; rfl
  have q3 : bits .xor .u64 (amo 3 8 a0 a1) a1 = a0 := by rw [amo8]; exact t_xor a0 a1 h0 h1 h2 h3
  have q4 : IntKind.u64.wrap (amo 4 8 a0 a1 + amo 5 8 a0 a1) = IntKind.u64.wrap (a0 + a1) := by
    rw [amo8, amo8]; exact congrArg IntKind.u64.wrap (t_and_or a0 a1 h0 h1 h2 h3)
  have q5 : IntKind.u64.wrap (amo 6 8 a0 a1 + amo 7 8 a0 a1) = IntKind.u64.wrap (a0 + a1) := by
    rw [amo8, amo8]; exact congrArg IntKind.u64.wrap (t_minmax a0 a1)
  have q6 : IntKind.u64.wrap (amo 8 8 a0 a1 + amo 9 8 a0 a1) = IntKind.u64.wrap (a0 + a1) := by
    rw [amo8, amo8]; exact congrArg IntKind.u64.wrap (t_minmaxu a0 a1)
  have q7 : br 3 (amo 7 8 a0 a1) (amo 6 8 a0 a1) = false := by rw [amo8, amo8]; exact t_ord a0 a1
  have q8 : br 5 (amo 9 8 a0 a1) (amo 8 8 a0 a1) = false := by rw [amo8, amo8]; exact t_ordu a0 a1
  have k6 := amo8_bd 6 a0 a1 h0 h1 h2 h3
  have k7 := amo8_bd 7 a0 a1 h0 h1 h2 h3
  have k8 := amo8_bd 8 a0 a1 h0 h1 h2 h3
  have k9 := amo8_bd 9 a0 a1 h0 h1 h2 h3
  go_enter Try.func7, Try.ntmps7
  go_wp2_with (first | (go_at_call 13; refine (m_Amo _ _ _ _ ?_ ?_ ?_ ?_ _).mono ?_; omega; omega; omega; omega; rintro e w' ⟨rfl, rfl⟩) | (go_at_call 12; refine (m_Branch _ _ _ ?_ ?_ ?_ ?_ _).mono ?_; omega; omega; omega; omega; rintro e w' ⟨rfl, rfl⟩))
  go_loop [5] (fun i => ∃ k : Int, 1 ≤ k ∧ k ≤ 10 ∧ i = .int .i64 k) (fun i => (10 - intOf i).toNat)
  case atStart => exact ⟨1, by omega, by omega, rfl⟩
  case round =>
    obtain ⟨k, hk, hk', rfl⟩ := hrel
    by_cases hlt : k ≤ 9
    · have ks := t_small k a0 a1
      have ke := t_half k a0 a1
      have kd : decide (4294967296 ≤ amo k 4 a0 a1) = false := by simp; omega
      go_wp2_with (go_at_call 13; refine (m_Amo _ _ _ _ ?_ ?_ ?_ ?_ _).mono ?_; omega; omega; omega; omega; rintro e w' ⟨rfl, rfl⟩)
      go_round
      case rel => exact ⟨k + 1, by omega, by omega, rfl⟩
      case measure => simp [intOf]; omega
    · go_wp2_with (go_at_call 9; refine (m_awake _).mono ?_; rintro e w' ⟨rfl, rfl⟩)
      go_ret
      exact ⟨rfl, Grown.refl _⟩

/-! ### THE ROW's STEP: WRITTEN OUT: LEAVE IT -/
set_option maxRecDepth 100000 in
theorem lifted (os : Os) (started : os.Started) (H : Type) (enc : TypeId × Value → H) :
    ReturnsInHanded {} Try.checked os 7 .any (Rows.wordAtomicsSpec.pre6 enc Try.prog Try.f7 Rows.wordAtomicsRow.domain false) (Rows.wordAtomicsSpec.post enc Try.prog Try.f7 false true false false) := by
  refine returnsInHanded_of_change (C := Try.checked) own started (by kernel_rfl) Try.func7
    (ChangeSpec.witness6 (enc := enc) (C := Try.checked) false ⟨#[], #[.int .u64 0, .int .u64 0], []⟩ 8 (by kernel_rfl) (by kernel_rfl) (by kernel_rfl) (by kernel_rfl)) ?_
  intro W base args ds gs before hval0 hW hcnd _
  have hval : ∀ (j : Nat) t v, Try.f7.params[j]? = some t → args[j]? = some v → Value.okWide Try.prog W .any base t v := hval0
  have hW' := hW
  obtain ⟨p, q, hA0, hV, rfl, hfz, hnd⟩ := hW
  have hA : DataW.TrodAll enc Try.prog W 0 (fun _ => true) true Try.f7.params.toList args.toList ds p := hA0
  rw [Try.params7] at hA hval
  obtain ⟨v0, vs0, d0, ds0, p0, q0, hargs, rfl, rfl, h0, r0⟩ := trodAll_cons hA
  obtain ⟨v1, vs1, d1, ds1, p1, q1, rfl, rfl, rfl, h1, r1⟩ := trodAll_cons r0
  obtain ⟨rfl, rfl, rfl⟩ := trodAll_nil r1
  obtain rfl : args = #[v0, v1] := by cases args; simp_all
  obtain ⟨rfl, rfl⟩ := trodVars_none hV
  obtain ⟨a0, rfl, rfl, rfl, w0⟩ := open_int Try.underlying22 (hval 0 22 v0 rfl rfl) h0
  obtain ⟨a1, rfl, rfl, rfl, w1⟩ := open_int Try.underlying22 (hval 1 22 v1 rfl rfl) h1
  clear hA0 hval0
  simp only [List.append_nil] at hW'
  refine (walk a0 a1 w0 w1 W).mono fun e W' ⟨he, hg⟩ => ?_
  subst he
  exact ⟨_, rfl, post_of_same (pa := []) (pv := []) hW' (fun _ _ _ => (trodAll_cons_mk (shut_bool Try.underlying4 _) trodAll_mk0)) (fun sp _ => (trodAll_cons_mk (shut_int Try.underlying22 w0) (trodAll_cons_mk (shut_int Try.underlying22 w1) trodAll_mk0))) (fun _ _ => rfl) rfl
    (hg.frame _) hg.2.1 (ok_one (by kernel_rfl) rfl (okWide_bool_mk Try.underlying4 _))⟩

theorem over : Rows.wordAtomicsRow.holds Try.pinned (OpenSpec.ofChange Rows.wordAtomicsSpec) :=
  OpenClaim.holds_of_wide 7 Try.f7 rfl rfl rfl rfl rfl rfl rfl ⟨rfl, rfl, rfl, rfl, rfl⟩ rfl rfl rfl rfl rfl (by kernel_rfl) Try.func7 (by kernel_rfl)
    (of_decide_eq_true (by kernel_rfl)) (by unfold Func.isWrapper; first | (rw [if_pos (by decide +kernel)]; kernel_rfl) | (rw [if_neg (by decide +kernel)]; exact ⟨rfl, rfl⟩))
    (fun os started H enc _ => lifted os started H enc)

/-- ████ THE STATEMENT ████ -/
theorem proved : Rows.WordAtomicsSaid :=
  over
#print axioms proved
end Go.Proofs.Ytdpnojlmiopniab.wordAtomics
