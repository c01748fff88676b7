/- What a translation comes to hangs on the entries that it reads: PageEntries answers true. -/
import Derived.Test.YtfoafgbhelgjcaaMC2
import Derived.Test.YtfoafgbhelgjcaaCPO
import Derived.Test.YtfoafgbhelgjcaaCPOL
import Derived.Test.YtfoafgbhelgjcaaCPEW
namespace Go.Proofs.Ytfoafgbhelgjcaa
open Go.Proofs.Ytfoafgbhelgjcaa.C
open Go.ChangeShapes Go.WideShapes Go.ChangeAt Go.RowKit
set_option linter.unusedVariables false
set_option maxRecDepth 100000

set_option maxRecDepth 100000 in
theorem pageEntries_lifted (os : Os) (started : os.Started) (H : Type) (enc : TypeId × Value → H) :
    ReturnsInHanded {} Try.checked os 15 .any (Rows.pageEntriesSpec.pre6 enc Try.prog Try.f15 Rows.pageEntriesRow.domain false) (Rows.pageEntriesSpec.post enc Try.prog Try.f15 false true false false) := by
  refine returnsInHanded_of_change_sized (C := Try.checked) own started (by kernel_rfl) Try.func15
    (ChangeSpec.witness6 (enc := enc) (C := Try.checked) false ⟨#[], #[.agg #[.slice none 0 0, .int .u64 0, .int .u64 0, .bool false, .bool false, .bool false], .int .u64 0, .int .i64 0, .slice none 0 0], []⟩ 8 (by kernel_rfl) (by kernel_rfl) (by kernel_rfl) (by kernel_rfl)) ?_
  intro W base args ds gs before hval0 hW hcnd hsz0 _
  have hsz : (DataW.weightsEach Try.prog (Try.f15.params.toList ++ Rows.pageEntriesSpec.plain.varTypes Try.prog) (ds ++ gs)).all (· ≤ reachBytes) = true := hsz0
  clear hsz0
  have hval : ∀ (j : Nat) t v, Try.f15.params[j]? = some t → args[j]? = some v → Value.okWide Try.prog W .any base t v := hval0
  have hW' := hW
  obtain ⟨p, q, hA0, hV, rfl, hfz, hnd⟩ := hW
  have hA : DataW.TrodAll enc Try.prog W 0 (fun _ => true) true Try.f15.params.toList args.toList ds p := hA0
  rw [Try.params15] at hA hval hsz
  obtain ⟨v0, vs0, d0, ds0, p0, q0, hargs, rfl, rfl, h0, r0⟩ := trodAll_cons hA
  obtain ⟨v1, vs1, d1, ds1, p1, q1, rfl, rfl, rfl, h1, r1⟩ := trodAll_cons r0
  obtain ⟨v2, vs2, d2, ds2, p2, q2, rfl, rfl, rfl, h2, r2⟩ := trodAll_cons r1
  obtain ⟨v3, vs3, d3, ds3, p3, q3, rfl, rfl, rfl, h3, r3⟩ := trodAll_cons r2
  obtain ⟨rfl, rfl, rfl⟩ := trodAll_nil r3
  obtain rfl : args = #[v0, v1, v2, v3] := by cases args; simp_all
  obtain ⟨rfl, rfl⟩ := trodVars_none hV
  obtain ⟨a1, rfl, rfl, rfl, w1⟩ := open_int Try.underlying35 (hval 1 35 v1 rfl rfl) h1
  obtain ⟨a2, rfl, rfl, rfl, w2⟩ := open_int Try.underlying3 (hval 2 3 v2 rfl rfl) h2
  clear hA0 hval0
  simp only [List.append_nil] at hW'
  have hlt0 : ∀ x ∈ p0, x.block < W.heap.size := fun x hx => by simpa using hW'.lt x (by simp [hx])
  obtain ⟨ad0, la0, cap0, ab0, ao0, X0, sa0, ro0, us0, su0, mx0, rfl, hX0, ⟨s0, s0'⟩, t0, t0'⟩ := open_case (hval 0 85 v0 rfl rfl) h0 hlt0
  obtain ⟨b1, b1'⟩ := bounds_u64 w1
  obtain ⟨b2, b2'⟩ := bounds_i64 w2
  have hlt3 : ∀ x ∈ p3, x.block < W.heap.size := fun x hx => by simpa using hW'.lt x (by simp [hx])
  obtain ⟨ad3, la3, cap3, ab3, ao3, X3, rfl, hX3⟩ := open_list (hval 3 22 v3 rfl rfl) h3 hlt3
  have walk : Calls Try.prog 15 #[.agg #[.slice ad0 la0 cap0, .int .u64 sa0, .int .u64 ro0, .bool us0, .bool su0, .bool mx0], .int .u64 a1, .int .i64 a2, .slice ad3 la3 cap3] W fun e w' => e = .returned (.bool true) ∧ Below W.heap.size W w' := w_PageEntries W ad0 la0 cap0 ab0 ao0 X0 hX0 sa0 ro0 us0 su0 mx0 s0 s0' t0 t0' a1 b1 (by omega) a2 b2 b2' ad3 la3 cap3 ab3 ao3 X3 hX3 (case_len h0 (fun n hn => by have h := List.all_eq_true.1 hsz n (DataW.weights_mem_each (j := 0) rfl rfl n hn); simpa using h))
  refine walk.mono fun e W' ⟨he, hg⟩ => ?_
  subst he
  have hg3 := Below.trod laidOut_prog (by kernel_rfl) (of_decide_eq_true (by kernel_rfl)) h3 hg hlt3
  have hg0 := Below.trod laidOut_prog (by kernel_rfl) (of_decide_eq_true (by kernel_rfl)) h0 hg hlt0
  exact ⟨_, rfl, _, _, _, [], (p0 ++ ([] ++ ([] ++ (p3 ++ [])))), [], hW', trodAll_cons_mk (shut_bool Try.underlying4 _) trodAll_mk0, (trodAll_cons_mk hg0 (trodAll_cons_mk (shut_int Try.underlying35 w1) (trodAll_cons_mk (shut_int Try.underlying3 w2) (trodAll_cons_mk hg3 trodAll_mk0)))), rfl, hg.frame _, fun h => by cases h⟩
theorem pageEntries_holds : Rows.PageEntriesSaid :=
  OpenClaim.holds_of_wide 15 Try.f15 rfl rfl rfl rfl rfl rfl rfl ⟨rfl, rfl, rfl, rfl, rfl⟩ rfl rfl rfl rfl rfl (by kernel_rfl) Try.func15 (by kernel_rfl)
    (of_decide_eq_true (by kernel_rfl)) (by unfold Func.isWrapper; first | (rw [if_pos (by decide +kernel)]; kernel_rfl) | (rw [if_neg (by decide +kernel)]; exact ⟨rfl, rfl⟩))
    (fun os started H enc _ => pageEntries_lifted os started H enc)
#print axioms pageEntries_holds
end Go.Proofs.Ytfoafgbhelgjcaa
