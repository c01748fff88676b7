/- Devices know nothing of one another: whatever the cells, both roots and both lists of accesses are, what one device's accesses come to is the same whatever another one does in between: the statement's function answers true (no condition). -/
import Derived.Test.YtfoafgbhelgjcaaRows
import Derived.Test.YtfoafgbhelgjcaaChecked
import Derived.Test.YtfoafgbhelgjcaaMC2
import Derived.Test.YtfoafgbhelgjcaaIV
namespace Go.Proofs.Ytfoafgbhelgjcaa
open Go.ChangeShapes Go.WideShapes Go.ChangeAt Go.RowKit

set_option linter.unusedVariables false

set_option maxRecDepth 100000 in
theorem iommuAlone_lifted (os : Os) (started : os.Started) (H : Type) (enc : TypeId × Value → H) :
    ReturnsInHanded {} Try.checked os 5 .any (Rows.iommuAloneSpec.pre6 enc Try.prog Try.f5 Rows.iommuAloneRow.domain false) (Rows.iommuAloneSpec.post enc Try.prog Try.f5 false true false false) := by
  refine returnsInHanded_of_change_sized (C := Try.checked) C.own started (by kernel_rfl) Try.func5
    (ChangeSpec.witness6 (enc := enc) (C := Try.checked) false ⟨#[], #[.slice none 0 0, .int .u64 0, .int .u64 0, .slice none 0 0, .slice none 0 0], []⟩ 8 (by kernel_rfl) (by kernel_rfl) (by kernel_rfl) (by kernel_rfl)) ?_
  intro W base args ds gs before hval0 hW hcnd hsz0 _
  have hsz : (DataW.weightsEach Try.prog (Try.f5.params.toList ++ Rows.iommuAloneSpec.plain.varTypes Try.prog) (ds ++ gs)).all (· ≤ reachBytes) = true := hsz0
  clear hsz0
  have hval : ∀ (j : Nat) t v, Try.f5.params[j]? = some t → args[j]? = some v → Value.okWide Try.prog W .any base t v := hval0
  have hW' := hW
  obtain ⟨p, q, hA0, hV, rfl, hfz, hnd⟩ := hW
  have hA : DataW.TrodAll enc Try.prog W 0 (fun _ => true) true Try.f5.params.toList args.toList ds p := hA0
  rw [Try.params5] at hA hval hsz
  obtain ⟨v0, vs0, d0, ds0, p0, q0, hargs, rfl, rfl, h0, r0⟩ := trodAll_cons hA
  obtain ⟨v1, vs1, d1, ds1, p1, q1, rfl, rfl, rfl, h1, r1⟩ := trodAll_cons r0
  obtain ⟨v2, vs2, d2, ds2, p2, q2, rfl, rfl, rfl, h2, r2⟩ := trodAll_cons r1
  obtain ⟨v3, vs3, d3, ds3, p3, q3, rfl, rfl, rfl, h3, r3⟩ := trodAll_cons r2
  obtain ⟨v4, vs4, d4, ds4, p4, q4, rfl, rfl, rfl, h4, r4⟩ := trodAll_cons r3
  obtain ⟨rfl, rfl, rfl⟩ := trodAll_nil r4
  obtain rfl : args = #[v0, v1, v2, v3, v4] := by cases args; simp_all
  obtain ⟨rfl, rfl⟩ := trodVars_none hV
  obtain ⟨a1, rfl, rfl, rfl, w1⟩ := open_int Try.underlying35 (hval 1 35 v1 rfl rfl) h1
  obtain ⟨a2, rfl, rfl, rfl, w2⟩ := open_int Try.underlying35 (hval 2 35 v2 rfl rfl) h2
  clear hA0 hval0
  simp only [List.append_nil] at hW'
  have hlt0 : ∀ x ∈ p0, x.block < W.heap.size := fun x hx => by simpa using hW'.lt x (by simp [hx])
  obtain ⟨ad0, la0, cap0, ab0, ao0, X0, rfl, hX0⟩ := C.open_list (hval 0 22 v0 rfl rfl) h0 hlt0
  obtain ⟨b1, b1'⟩ := bounds_u64 w1
  obtain ⟨b2, b2'⟩ := bounds_u64 w2
  have hlt3 : ∀ x ∈ p3, x.block < W.heap.size := fun x hx => by simpa using hW'.lt x (by simp [hx])
  obtain ⟨ad3, la3, cap3, ab3, ao3, X3, rfl, hX3⟩ := open_ops (hval 3 23 v3 rfl rfl) h3 hlt3
  have hlt4 : ∀ x ∈ p4, x.block < W.heap.size := fun x hx => by simpa using hW'.lt x (by simp [hx])
  obtain ⟨ad4, la4, cap4, ab4, ao4, X4, rfl, hX4⟩ := open_ops (hval 4 23 v4 rfl rfl) h4 hlt4
  have walk : Calls Try.prog 5 #[.slice ad0 la0 cap0, .int .u64 a1, .int .u64 a2, .slice ad3 la3 cap3, .slice ad4 la4 cap4] W fun e w' => e = .returned (.bool true) ∧ Below W.heap.size W w' := w_IommuAlone W ad0 la0 cap0 ab0 ao0 X0 hX0 a1 b1 (by omega) a2 b2 (by omega) ad3 la3 cap3 ab3 ao3 X3 hX3 ad4 la4 cap4 ab4 ao4 X4 hX4
  refine walk.mono fun e W' ⟨he, hg⟩ => ?_
  subst he
  have hg4 := Below.trod C.laidOut_prog (by kernel_rfl) (of_decide_eq_true (by kernel_rfl)) h4 hg hlt4
  have hg3 := Below.trod C.laidOut_prog (by kernel_rfl) (of_decide_eq_true (by kernel_rfl)) h3 hg hlt3
  have hg0 := Below.trod C.laidOut_prog (by kernel_rfl) (of_decide_eq_true (by kernel_rfl)) h0 hg hlt0
  exact ⟨_, rfl, _, _, _, [], (p0 ++ ([] ++ ([] ++ (p3 ++ (p4 ++ []))))), [], hW', trodAll_cons_mk (shut_bool Try.underlying4 _) trodAll_mk0, (trodAll_cons_mk hg0 (trodAll_cons_mk (shut_int Try.underlying35 w1) (trodAll_cons_mk (shut_int Try.underlying35 w2) (trodAll_cons_mk hg3 (trodAll_cons_mk hg4 trodAll_mk0))))), rfl, hg.frame _, fun h => by cases h⟩
theorem iommuAlone_holds : Rows.IommuAloneSaid :=
  OpenClaim.holds_of_wide 5 Try.f5 rfl rfl rfl rfl rfl rfl rfl ⟨rfl, rfl, rfl, rfl, rfl⟩ rfl rfl rfl rfl rfl (by kernel_rfl) Try.func5 (by kernel_rfl)
    (of_decide_eq_true (by kernel_rfl)) (by unfold Func.isWrapper; first | (rw [if_pos (by decide +kernel)]; kernel_rfl) | (rw [if_neg (by decide +kernel)]; exact ⟨rfl, rfl⟩))
    (fun os started H enc _ => iommuAlone_lifted os started H enc)
#print axioms iommuAlone_holds
end Go.Proofs.Ytfoafgbhelgjcaa
