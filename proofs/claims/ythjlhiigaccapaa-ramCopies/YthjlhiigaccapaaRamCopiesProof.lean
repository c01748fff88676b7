/- For every three lists of numbers: a copy has the same bytes, and what is written into one of the two is not seen in the other: RamCopies returns true. No condition. -/
import Derived.Test.YthjlhiigaccapaaRO
import Derived.Test.YthjlhiigaccapaaROI
import Derived.Test.YthjlhiigaccapaaRCO
namespace Go.Proofs.Ythjlhiigaccapaa
open Go.ChangeShapes Go.WideShapes Go.ChangeAt Go.RowKit
set_option linter.unusedVariables false

set_option maxRecDepth 100000 in
theorem ramCopies_lifted (os : Os) (started : os.Started) (H : Type) (enc : TypeId × Value → H) :
    ReturnsInHanded {} Try.checked os 7 .any (Rows.ramCopiesSpec.pre6 enc Try.prog Try.f7 Rows.ramCopiesRow.domain false) (Rows.ramCopiesSpec.post enc Try.prog Try.f7 false true false false) := by
  refine returnsInHanded_of_change_sized (C := Try.checked) own started (by kernel_rfl) Try.func7
    (ChangeSpec.witness6 (enc := enc) (C := Try.checked) false ⟨#[], #[.slice none 0 0, .slice none 0 0, .slice none 0 0], []⟩ 8 (by kernel_rfl) (by kernel_rfl) (by kernel_rfl) (by kernel_rfl)) ?_
  intro W base args ds gs before hval0 hW hcnd hsz0 _
  have hsz : (DataW.weightsEach Try.prog (Try.f7.params.toList ++ Rows.ramCopiesSpec.plain.varTypes Try.prog) (ds ++ gs)).all (· ≤ reachBytes) = true := hsz0
  clear hsz0
  have hval : ∀ (j : Nat) t v, Try.f7.params[j]? = some t → args[j]? = some v → Value.okWide Try.prog W .any base t v := hval0
  have hW' := hW
  obtain ⟨p, q, hA0, hV, rfl, hfz, hnd⟩ := hW
  have hA : DataW.TrodAll enc Try.prog W 0 (fun _ => true) true Try.f7.params.toList args.toList ds p := hA0
  rw [Try.params7] at hA hval hsz
  obtain ⟨v0, vs0, d0, ds0, p0, q0, hargs, rfl, rfl, h0, r0⟩ := trodAll_cons hA
  obtain ⟨v1, vs1, d1, ds1, p1, q1, rfl, rfl, rfl, h1, r1⟩ := trodAll_cons r0
  obtain ⟨v2, vs2, d2, ds2, p2, q2, rfl, rfl, rfl, h2, r2⟩ := trodAll_cons r1
  obtain ⟨rfl, rfl, rfl⟩ := trodAll_nil r2
  obtain rfl : args = #[v0, v1, v2] := by cases args; simp_all
  obtain ⟨rfl, rfl⟩ := trodVars_none hV
  clear hA0 hval0
  simp only [List.append_nil] at hW'
  have hlt0 : ∀ x ∈ p0, x.block < W.heap.size := fun x hx => by simpa using hW'.lt x (by simp [hx])
  obtain ⟨ad0, la0, cap0, ar0, aa0, rfl, hl0, hm0, hw0, hc0⟩ := open_nums u_sint u_int cells_int (hval 0 54 v0 rfl rfl) h0 hlt0
  have hlt1 : ∀ x ∈ p1, x.block < W.heap.size := fun x hx => by simpa using hW'.lt x (by simp [hx])
  obtain ⟨ad1, la1, cap1, ar1, aa1, rfl, hl1, hm1, hw1, hc1⟩ := open_nums u_su64 u_u64 cells_u64 (hval 1 61 v1 rfl rfl) h1 hlt1
  have hlt2 : ∀ x ∈ p2, x.block < W.heap.size := fun x hx => by simpa using hW'.lt x (by simp [hx])
  obtain ⟨ad2, la2, cap2, ar2, aa2, rfl, hl2, hm2, hw2, hc2⟩ := open_nums u_sint u_int cells_int (hval 2 54 v2 rfl rfl) h2 hlt2
  have walk : Calls Try.prog 7 #[.slice ad0 la0 cap0, .slice ad1 la1 cap1, .slice ad2 la2 cap2] W fun e w' => e = .returned (.bool true) ∧ Below W.heap.size W w' := by
    have har0 : ∀ j, -9223372036854775808 ≤ ar0 j ∧ ar0 j ≤ 9223372036854775807 := fun j => by
      rcases hw0 j with q | q
      · omega
      · exact bounds_i64 q
    have har1 : ∀ j, 0 ≤ ar1 j ∧ ar1 j < 18446744073709551616 := fun j => by
      rcases hw1 j with q | q
      · omega
      · have := bounds_u64 q; omega
    have har2 : ∀ j, -9223372036854775808 ≤ ar2 j ∧ ar2 j ≤ 9223372036854775807 := fun j => by
      rcases hw2 j with q | q
      · omega
      · exact bounds_i64 q
    exact w_RamCopies W ad0 la0 cap0 ar0 har0 (by omega) aa0 hc0 ad1 la1 cap1 ar1 har1 (by omega) aa1 hc1 ad2 la2 cap2 ar2 har2 (by omega) aa2 hc2
  refine walk.mono fun e W' ⟨he, hg⟩ => ?_
  subst he
  have hg2 := Below.trod laidOut_prog (by kernel_rfl) (of_decide_eq_true (by kernel_rfl)) h2 hg hlt2
  have hg1 := Below.trod laidOut_prog (by kernel_rfl) (of_decide_eq_true (by kernel_rfl)) h1 hg hlt1
  have hg0 := Below.trod laidOut_prog (by kernel_rfl) (of_decide_eq_true (by kernel_rfl)) h0 hg hlt0
  exact ⟨_, rfl, _, _, _, [], (p0 ++ (p1 ++ (p2 ++ []))), [], hW', trodAll_cons_mk (shut_bool Try.underlying4 _) trodAll_mk0, (trodAll_cons_mk hg0 (trodAll_cons_mk hg1 (trodAll_cons_mk hg2 trodAll_mk0))), rfl, hg.frame _, fun h => by cases h⟩
theorem ramCopies_holds : Rows.RamCopiesSaid :=
  OpenClaim.holds_of_wide 7 Try.f7 rfl rfl rfl rfl rfl rfl rfl ⟨rfl, rfl, rfl, rfl, rfl⟩ rfl rfl rfl rfl rfl (by kernel_rfl) Try.func7 (by kernel_rfl)
    (of_decide_eq_true (by kernel_rfl)) (by unfold Func.isWrapper; first | (rw [if_pos (by decide +kernel)]; kernel_rfl) | (rw [if_neg (by decide +kernel)]; exact ⟨rfl, rfl⟩))
    (fun os started H enc _ => ramCopies_lifted os started H enc)
#print axioms ramCopies_holds
end Go.Proofs.Ythjlhiigaccapaa
