/- For every three words, the low and high words of a product by a sum are the sums of the products' low and high words with what is carried, and the high words with signs are those without, less what the signs take away: WordProducts returns true. No condition. -/
import Derived.Test.YtdpnojlmiopniabRows
import Derived.WalkKit
import Derived.ProofKit
import Derived.OpenShut
import Derived.Test.YtdpnojlmiopniabLawMath
import Derived.Test.YtdpnojlmiopniabAwake
namespace Go.Proofs.Ytdpnojlmiopniab.wordProducts
open Go.ChangeShapes Go.WideShapes Go.ChangeAt Go.RowKit
set_option linter.unusedVariables false      -- a walk need not use every 'w<i>' (that an integer argument fits its kind)

theorem own : ownKnob Try.prog.godebug = none := by kernel_rfl

/-! ### STEP 1: THE WALK: the Go text returns true. 'Grown w w'': the world has at most new blocks (Derived/RowKit3.lean). Part the cases AHEAD of 'go_enter' where a test parts the walk; take each callee by a contract of your own. -/
set_option maxHeartbeats 4000000 in
theorem walk (a0 : Int) (a1 : Int) (a2 : Int) (w0 : (Lit.int .u64 a0).wf = true) (w1 : (Lit.int .u64 a1).wf = true) (w2 : (Lit.int .u64 a2).wf = true) (w : World) :
    Calls Try.prog 3 #[.int .u64 a0, .int .u64 a1, .int .u64 a2] w fun e w' => e = .returned (.bool true) ∧ Grown w w' := by
  obtain ⟨h0, h1⟩ := bounds_u64 w0
  obtain ⟨h2, h3⟩ := bounds_u64 w1
  obtain ⟨h4, h5⟩ := bounds_u64 w2
  by_cases ho : 18446744073709551615 < a1 + a2
  · have hw : IntKind.u64.wrap (a1 + a2) < a1 := by rw [IntKind.wrap_u64]; omega
    go_enter Try.func3, Try.ntmps3
    go_wp2_with (first | (go_at_call 10; refine (m_Alu _ _ _ ?_ ?_ ?_ ?_ _).mono ?_; omega; omega; omega; omega; rintro e w' ⟨rfl, rfl⟩) | (go_at_call 9; refine (m_awake _).mono ?_; rintro e w' ⟨rfl, rfl⟩))
    go_ret
    exact ⟨rfl, Grown.refl _⟩
  have ho' : a1 + a2 ≤ 18446744073709551615 := by omega
  clear ho
  have kh := mulhu_bd a0 (a1 + a2) h0 h1 (by omega) ho'
  have kb : 0 ≤ alu 14 a0 (a1 + a2) ∧ alu 14 a0 (a1 + a2) ≤ 18446744073709551614 := kh
  clear kh
  have qL : IntKind.u64.wrap (alu 11 a0 a1 + alu 11 a0 a2) = alu 11 a0 (a1 + a2) := by rw [IntKind.wrap_u64]; exact p_low a0 a1 a2
  have qH : Hid (∀ k : Int, k = (if alu 11 a0 (a1 + a2) < alu 11 a0 a1 then 1 else 0) → ((alu 14 a0 a1 + alu 14 a0 a2) % 18446744073709551616 + k) % 18446744073709551616 = alu 14 a0 (a1 + a2)) := by
    have : ∀ k : Int, k = (if alu 11 a0 (a1 + a2) < alu 11 a0 a1 then 1 else 0) → ((alu 14 a0 a1 + alu 14 a0 a2) % 18446744073709551616 + k) % 18446744073709551616 = alu 14 a0 (a1 + a2) := by
      intro k hk
      refine p_high a0 a1 a2 h0 h1 h2 h4 ho' k ?_
      rw [hk]
      have e := p_low a0 a1 a2
      show (if wMul a0 (a1 + a2) < wMul a0 a1 then (1 : Int) else 0) = _
      rw [e]
    exact this
  cases n : ngv a0 <;> cases m : ngv a1
  case false.false =>
    have n' := ngv_f n
    have m' := ngv_f m
    have q13 : alu 13 a0 a1 = alu 14 a0 a1 := (hsu_p a0 a1 h0 h1 h2 h3 n).symm
    have q12 : alu 12 a0 a1 = alu 14 a0 a1 := by rw [← q13]; exact (mh_p a0 a1 m).symm
    by_cases hc : alu 11 a0 (a1 + a2) < alu 11 a0 a1
    · have q14 : IntKind.u64.wrap (IntKind.u64.wrap (alu 14 a0 a1 + alu 14 a0 a2) + 1) = alu 14 a0 (a1 + a2) := by
        simp only [IntKind.wrap_u64]; exact qH.out 1 (by rw [if_pos hc])
      go_enter Try.func3, Try.ntmps3
      go_wp2_with (first | (go_at_call 10; refine (m_Alu _ _ _ ?_ ?_ ?_ ?_ _).mono ?_; omega; omega; omega; omega; rintro e w' ⟨rfl, rfl⟩) | (go_at_call 9; refine (m_awake _).mono ?_; rintro e w' ⟨rfl, rfl⟩))
      go_ret
      exact ⟨rfl, Grown.refl _⟩
    · have q14 : IntKind.u64.wrap (alu 14 a0 a1 + alu 14 a0 a2) = alu 14 a0 (a1 + a2) := by
        have := qH.out 0 (by rw [if_neg hc]); simp only [IntKind.wrap_u64]; omega
      go_enter Try.func3, Try.ntmps3
      go_wp2_with (first | (go_at_call 10; refine (m_Alu _ _ _ ?_ ?_ ?_ ?_ _).mono ?_; omega; omega; omega; omega; rintro e w' ⟨rfl, rfl⟩) | (go_at_call 9; refine (m_awake _).mono ?_; rintro e w' ⟨rfl, rfl⟩))
      go_ret
      exact ⟨rfl, Grown.refl _⟩
  case false.true =>
    have n' := ngv_f n
    have m' := ngv_t m
    have q13 : alu 13 a0 a1 = alu 14 a0 a1 := (hsu_p a0 a1 h0 h1 h2 h3 n).symm
    have q12 : IntKind.u64.wrap (alu 14 a0 a1 - a0) = alu 12 a0 a1 := by rw [← q13, IntKind.wrap_u64]; exact mh_n a0 a1 m
    by_cases hc : alu 11 a0 (a1 + a2) < alu 11 a0 a1
    · have q14 : IntKind.u64.wrap (IntKind.u64.wrap (alu 14 a0 a1 + alu 14 a0 a2) + 1) = alu 14 a0 (a1 + a2) := by
        simp only [IntKind.wrap_u64]; exact qH.out 1 (by rw [if_pos hc])
      go_enter Try.func3, Try.ntmps3
      go_wp2_with (first | (go_at_call 10; refine (m_Alu _ _ _ ?_ ?_ ?_ ?_ _).mono ?_; omega; omega; omega; omega; rintro e w' ⟨rfl, rfl⟩) | (go_at_call 9; refine (m_awake _).mono ?_; rintro e w' ⟨rfl, rfl⟩))
      go_ret
      exact ⟨rfl, Grown.refl _⟩
    · have q14 : IntKind.u64.wrap (alu 14 a0 a1 + alu 14 a0 a2) = alu 14 a0 (a1 + a2) := by
        have := qH.out 0 (by rw [if_neg hc]); simp only [IntKind.wrap_u64]; omega
      go_enter Try.func3, Try.ntmps3
      go_wp2_with (first | (go_at_call 10; refine (m_Alu _ _ _ ?_ ?_ ?_ ?_ _).mono ?_; omega; omega; omega; omega; rintro e w' ⟨rfl, rfl⟩) | (go_at_call 9; refine (m_awake _).mono ?_; rintro e w' ⟨rfl, rfl⟩))
      go_ret
      exact ⟨rfl, Grown.refl _⟩
  case true.false =>
    have n' := ngv_t n
    have m' := ngv_f m
    have q13 : IntKind.u64.wrap (alu 14 a0 a1 - a1) = alu 13 a0 a1 := by rw [IntKind.wrap_u64]; exact hsu_n a0 a1 n
    have q12 : alu 12 a0 a1 = alu 13 a0 a1 := (mh_p a0 a1 m).symm
    by_cases hc : alu 11 a0 (a1 + a2) < alu 11 a0 a1
    · have q14 : IntKind.u64.wrap (IntKind.u64.wrap (alu 14 a0 a1 + alu 14 a0 a2) + 1) = alu 14 a0 (a1 + a2) := by
        simp only [IntKind.wrap_u64]; exact qH.out 1 (by rw [if_pos hc])
      go_enter Try.func3, Try.ntmps3
      go_wp2_with (first | (go_at_call 10; refine (m_Alu _ _ _ ?_ ?_ ?_ ?_ _).mono ?_; omega; omega; omega; omega; rintro e w' ⟨rfl, rfl⟩) | (go_at_call 9; refine (m_awake _).mono ?_; rintro e w' ⟨rfl, rfl⟩))
      go_ret
      exact ⟨rfl, Grown.refl _⟩
    · have q14 : IntKind.u64.wrap (alu 14 a0 a1 + alu 14 a0 a2) = alu 14 a0 (a1 + a2) := by
        have := qH.out 0 (by rw [if_neg hc]); simp only [IntKind.wrap_u64]; omega
      go_enter Try.func3, Try.ntmps3
      go_wp2_with (first | (go_at_call 10; refine (m_Alu _ _ _ ?_ ?_ ?_ ?_ _).mono ?_; omega; omega; omega; omega; rintro e w' ⟨rfl, rfl⟩) | (go_at_call 9; refine (m_awake _).mono ?_; rintro e w' ⟨rfl, rfl⟩))
      go_ret
      exact ⟨rfl, Grown.refl _⟩
  case true.true =>
    have n' := ngv_t n
    have m' := ngv_t m
    have q13 : IntKind.u64.wrap (alu 14 a0 a1 - a1) = alu 13 a0 a1 := by rw [IntKind.wrap_u64]; exact hsu_n a0 a1 n
    have q12 : IntKind.u64.wrap (alu 13 a0 a1 - a0) = alu 12 a0 a1 := by rw [IntKind.wrap_u64]; exact mh_n a0 a1 m
    by_cases hc : alu 11 a0 (a1 + a2) < alu 11 a0 a1
    · have q14 : IntKind.u64.wrap (IntKind.u64.wrap (alu 14 a0 a1 + alu 14 a0 a2) + 1) = alu 14 a0 (a1 + a2) := by
        simp only [IntKind.wrap_u64]; exact qH.out 1 (by rw [if_pos hc])
      go_enter Try.func3, Try.ntmps3
      go_wp2_with (first | (go_at_call 10; refine (m_Alu _ _ _ ?_ ?_ ?_ ?_ _).mono ?_; omega; omega; omega; omega; rintro e w' ⟨rfl, rfl⟩) | (go_at_call 9; refine (m_awake _).mono ?_; rintro e w' ⟨rfl, rfl⟩))
      go_ret
      exact ⟨rfl, Grown.refl _⟩
    · have q14 : IntKind.u64.wrap (alu 14 a0 a1 + alu 14 a0 a2) = alu 14 a0 (a1 + a2) := by
        have := qH.out 0 (by rw [if_neg hc]); simp only [IntKind.wrap_u64]; omega
      go_enter Try.func3, Try.ntmps3
      go_wp2_with (first | (go_at_call 10; refine (m_Alu _ _ _ ?_ ?_ ?_ ?_ _).mono ?_; omega; omega; omega; omega; rintro e w' ⟨rfl, rfl⟩) | (go_at_call 9; refine (m_awake _).mono ?_; rintro e w' ⟨rfl, rfl⟩))
      go_ret
      exact ⟨rfl, Grown.refl _⟩

/-! ### THE ROW's STEP: WRITTEN OUT: LEAVE IT -/
set_option maxRecDepth 100000 in
theorem lifted (os : Os) (started : os.Started) (H : Type) (enc : TypeId × Value → H) :
    ReturnsInHanded {} Try.checked os 3 .any (Rows.wordProductsSpec.pre6 enc Try.prog Try.f3 Rows.wordProductsRow.domain false) (Rows.wordProductsSpec.post enc Try.prog Try.f3 false true false false) := by
  refine returnsInHanded_of_change (C := Try.checked) own started (by kernel_rfl) Try.func3
    (ChangeSpec.witness6 (enc := enc) (C := Try.checked) false ⟨#[], #[.int .u64 0, .int .u64 0, .int .u64 0], []⟩ 8 (by kernel_rfl) (by kernel_rfl) (by kernel_rfl) (by kernel_rfl)) ?_
  intro W base args ds gs before hval0 hW hcnd _
  have hval : ∀ (j : Nat) t v, Try.f3.params[j]? = some t → args[j]? = some v → Value.okWide Try.prog W .any base t v := hval0
  have hW' := hW
  obtain ⟨p, q, hA0, hV, rfl, hfz, hnd⟩ := hW
  have hA : DataW.TrodAll enc Try.prog W 0 (fun _ => true) true Try.f3.params.toList args.toList ds p := hA0
  rw [Try.params3] at hA hval
  obtain ⟨v0, vs0, d0, ds0, p0, q0, hargs, rfl, rfl, h0, r0⟩ := trodAll_cons hA
  obtain ⟨v1, vs1, d1, ds1, p1, q1, rfl, rfl, rfl, h1, r1⟩ := trodAll_cons r0
  obtain ⟨v2, vs2, d2, ds2, p2, q2, rfl, rfl, rfl, h2, r2⟩ := trodAll_cons r1
  obtain ⟨rfl, rfl, rfl⟩ := trodAll_nil r2
  obtain rfl : args = #[v0, v1, v2] := by cases args; simp_all
  obtain ⟨rfl, rfl⟩ := trodVars_none hV
  obtain ⟨a0, rfl, rfl, rfl, w0⟩ := open_int Try.underlying22 (hval 0 22 v0 rfl rfl) h0
  obtain ⟨a1, rfl, rfl, rfl, w1⟩ := open_int Try.underlying22 (hval 1 22 v1 rfl rfl) h1
  obtain ⟨a2, rfl, rfl, rfl, w2⟩ := open_int Try.underlying22 (hval 2 22 v2 rfl rfl) h2
  clear hA0 hval0
  simp only [List.append_nil] at hW'
  refine (walk a0 a1 a2 w0 w1 w2 W).mono fun e W' ⟨he, hg⟩ => ?_
  subst he
  exact ⟨_, rfl, post_of_same (pa := []) (pv := []) hW' (fun _ _ _ => (trodAll_cons_mk (shut_bool Try.underlying4 _) trodAll_mk0)) (fun sp _ => (trodAll_cons_mk (shut_int Try.underlying22 w0) (trodAll_cons_mk (shut_int Try.underlying22 w1) (trodAll_cons_mk (shut_int Try.underlying22 w2) trodAll_mk0)))) (fun _ _ => rfl) rfl
    (hg.frame _) hg.2.1 (ok_one (by kernel_rfl) rfl (okWide_bool_mk Try.underlying4 _))⟩

theorem over : Rows.wordProductsRow.holds Try.pinned (OpenSpec.ofChange Rows.wordProductsSpec) :=
  OpenClaim.holds_of_wide 3 Try.f3 rfl rfl rfl rfl rfl rfl rfl ⟨rfl, rfl, rfl, rfl, rfl⟩ rfl rfl rfl rfl rfl (by kernel_rfl) Try.func3 (by kernel_rfl)
    (of_decide_eq_true (by kernel_rfl)) (by unfold Func.isWrapper; first | (rw [if_pos (by decide +kernel)]; kernel_rfl) | (rw [if_neg (by decide +kernel)]; exact ⟨rfl, rfl⟩))
    (fun os started H enc _ => lifted os started H enc)

/-- ████ THE STATEMENT ████ -/
theorem proved : Rows.WordProductsSaid :=
  over
#print axioms proved
end Go.Proofs.Ytdpnojlmiopniab.wordProducts
