/- For every two words, quotients times the divisor, and the rests, make the dividend again, with and without signs, of words and of halves, and by 0 the answers are all ones and the dividend: WordDivides returns true. No condition. -/
import Derived.Test.YtdpnojlmiopniaaRows
import Derived.WalkKit
import Derived.ProofKit
import Derived.OpenShut
import Derived.Test.YtdpnojlmiopniaaLawMath
import Derived.Test.YtdpnojlmiopniaaAwake
namespace Go.Proofs.Ytdpnojlmiopniaa.wordDivides
open Go.ChangeShapes Go.WideShapes Go.ChangeAt Go.RowKit
set_option linter.unusedVariables false      -- a walk need not use every 'w<i>' (that an integer argument fits its kind)

theorem own : ownKnob Try.prog.godebug = none := by kernel_rfl

theorem zero_div (a : Int) : alu 15 a 0 = 18446744073709551615 := by show wDiv a 0 = _; unfold wDiv; rw [if_pos rfl]
theorem zero_divu (a : Int) : alu 16 a 0 = 18446744073709551615 := by show wDivu a 0 = _; unfold wDivu; rw [if_pos rfl]
theorem zero_rem (a : Int) : alu 17 a 0 = a := by show wRem a 0 = _; unfold wRem; rw [if_pos rfl]
theorem zero_remu (a : Int) : alu 18 a 0 = a := by show wRemu a 0 = _; unfold wRemu; rw [if_pos rfl]
theorem sum_of {p r x : Int} (h : (p % 4294967296 + r % 4294967296) % 4294967296 = x) : (p + r) % 4294967296 = x := by omega

/-! ### STEP 1: THE WALK: the Go text returns true. 'Grown w w'': the world has at most new blocks (Derived/RowKit3.lean). Part the cases AHEAD of 'go_enter' where a test parts the walk; take each callee by a contract of your own. -/
theorem walk (a0 : Int) (a1 : Int) (w0 : (Lit.int .u64 a0).wf = true) (w1 : (Lit.int .u64 a1).wf = true) (w : World) :
    Calls Try.prog 8 #[.int .u64 a0, .int .u64 a1] w fun e w' => e = .returned (.bool true) ∧ Grown w w' := by
  obtain ⟨h0, h1⟩ := bounds_u64 w0
  obtain ⟨h2, h3⟩ := bounds_u64 w1
  by_cases hb : a1 = 0
  · subst hb
    have q1 := zero_div a0
    have q2 := zero_divu a0
    have q3 := zero_rem a0
    have q4 := zero_remu a0
    go_enter Try.func8, Try.ntmps8
    go_wp2_with (first | (go_at_call 9; refine (m_Alu _ _ _ ?_ ?_ ?_ ?_ _).mono ?_; omega; omega; omega; omega; rintro e w' ⟨rfl, rfl⟩) | (go_at_call 11; refine (m_awake _).mono ?_; rintro e w' ⟨rfl, rfl⟩))
    go_ret
    exact ⟨rfl, Grown.refl _⟩
  have hz : (a1 == 0) = false := by simpa using hb
  have q1 : IntKind.u64.wrap (IntKind.u64.wrap (alu 15 a0 a1 * a1) + alu 17 a0 a1) = a0 := by
    simp only [IntKind.wrap_u64]; exact d_signed a0 a1 h0 h1 h2 h3 hb
  have q2 : IntKind.u64.wrap (IntKind.u64.wrap (alu 16 a0 a1 * a1) + alu 18 a0 a1) = a0 := by
    simp only [IntKind.wrap_u64]; exact d_unsigned a0 a1 h0 h1 h2 h3 hb
  have q3 : alu 18 a0 a1 < a1 := d_less a0 a1 h2 hb
  have q4 : decide (a1 ≤ alu 18 a0 a1) = false := by simp; omega
  by_cases hl : a1 % 4294967296 = 0
  · have hy : (a1 % 4294967296 == 0) = true := by simpa using hl
    clear hl
    go_enter Try.func8, Try.ntmps8
    go_wp2_with (first | (go_at_call 9; refine (m_Alu _ _ _ ?_ ?_ ?_ ?_ _).mono ?_; omega; omega; omega; omega; rintro e w' ⟨rfl, rfl⟩) | (go_at_call 11; refine (m_awake _).mono ?_; rintro e w' ⟨rfl, rfl⟩))
    go_ret
    exact ⟨rfl, Grown.refl _⟩
  · have hy : (a1 % 4294967296 == 0) = false := by simpa using hl
    have q5 : (alu 25 a0 a1 % 4294967296 * (a1 % 4294967296) + alu 27 a0 a1) % 4294967296 = a0 % 4294967296 := sum_of (d_signedw a0 a1 hl)
    have q6 : (alu 26 a0 a1 % 4294967296 * (a1 % 4294967296) + alu 28 a0 a1) % 4294967296 = a0 % 4294967296 := sum_of (d_unsignedw a0 a1 hl)
    go_enter Try.func8, Try.ntmps8
    go_wp2_with (first | (go_at_call 9; refine (m_Alu _ _ _ ?_ ?_ ?_ ?_ _).mono ?_; omega; omega; omega; omega; rintro e w' ⟨rfl, rfl⟩) | (go_at_call 11; refine (m_awake _).mono ?_; rintro e w' ⟨rfl, rfl⟩))
    go_ret
    exact ⟨rfl, Grown.refl _⟩

/-! ### THE ROW's STEP: WRITTEN OUT: LEAVE IT -/
set_option maxRecDepth 100000 in
theorem lifted (os : Os) (started : os.Started) (H : Type) (enc : TypeId × Value → H) :
    ReturnsInHanded {} Try.checked os 8 .any (Rows.wordDividesSpec.pre6 enc Try.prog Try.f8 Rows.wordDividesRow.domain false) (Rows.wordDividesSpec.post enc Try.prog Try.f8 false true false false) := by
  refine returnsInHanded_of_change (C := Try.checked) own started (by kernel_rfl) Try.func8
    (ChangeSpec.witness6 (enc := enc) (C := Try.checked) false ⟨#[], #[.int .u64 0, .int .u64 0], []⟩ 8 (by kernel_rfl) (by kernel_rfl) (by kernel_rfl) (by kernel_rfl)) ?_
  intro W base args ds gs before hval0 hW hcnd _
  have hval : ∀ (j : Nat) t v, Try.f8.params[j]? = some t → args[j]? = some v → Value.okWide Try.prog W .any base t v := hval0
  have hW' := hW
  obtain ⟨p, q, hA0, hV, rfl, hfz, hnd⟩ := hW
  have hA : DataW.TrodAll enc Try.prog W 0 (fun _ => true) true Try.f8.params.toList args.toList ds p := hA0
  rw [Try.params8] at hA hval
  obtain ⟨v0, vs0, d0, ds0, p0, q0, hargs, rfl, rfl, h0, r0⟩ := trodAll_cons hA
  obtain ⟨v1, vs1, d1, ds1, p1, q1, rfl, rfl, rfl, h1, r1⟩ := trodAll_cons r0
  obtain ⟨rfl, rfl, rfl⟩ := trodAll_nil r1
  obtain rfl : args = #[v0, v1] := by cases args; simp_all
  obtain ⟨rfl, rfl⟩ := trodVars_none hV
  obtain ⟨a0, rfl, rfl, rfl, w0⟩ := open_int Try.underlying22 (hval 0 22 v0 rfl rfl) h0
  obtain ⟨a1, rfl, rfl, rfl, w1⟩ := open_int Try.underlying22 (hval 1 22 v1 rfl rfl) h1
  clear hA0 hval0
  simp only [List.append_nil] at hW'
  refine (walk a0 a1 w0 w1 W).mono fun e W' ⟨he, hg⟩ => ?_
  subst he
  exact ⟨_, rfl, post_of_same (pa := []) (pv := []) hW' (fun _ _ _ => (trodAll_cons_mk (shut_bool Try.underlying4 _) trodAll_mk0)) (fun sp _ => (trodAll_cons_mk (shut_int Try.underlying22 w0) (trodAll_cons_mk (shut_int Try.underlying22 w1) trodAll_mk0))) (fun _ _ => rfl) rfl
    (hg.frame _) hg.2.1 (ok_one (by kernel_rfl) rfl (okWide_bool_mk Try.underlying4 _))⟩

theorem over : Rows.wordDividesRow.holds Try.pinned (OpenSpec.ofChange Rows.wordDividesSpec) :=
  OpenClaim.holds_of_wide 8 Try.f8 rfl rfl rfl rfl rfl rfl rfl ⟨rfl, rfl, rfl, rfl, rfl⟩ rfl rfl rfl rfl rfl (by kernel_rfl) Try.func8 (by kernel_rfl)
    (of_decide_eq_true (by kernel_rfl)) (by unfold Func.isWrapper; first | (rw [if_pos (by decide +kernel)]; kernel_rfl) | (rw [if_neg (by decide +kernel)]; exact ⟨rfl, rfl⟩))
    (fun os started H enc _ => lifted os started H enc)

/-- ████ THE STATEMENT ████ -/
theorem proved : Rows.WordDividesSaid :=
  over
#print axioms proved
end Go.Proofs.Ytdpnojlmiopniaa.wordDivides
