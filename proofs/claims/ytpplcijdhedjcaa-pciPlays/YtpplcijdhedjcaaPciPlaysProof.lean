/- PciPlays: for all kinds and scripts, the bus answers each call of the script as the document's bus does, and each slot reads the same in the end; no condition. -/
import Derived.Test.YtpplcijdhedjcaaRows
import Derived.Test.YtpplcijdhedjcaaChecked
import Derived.Test.YtpplcijdhedjcaaMC2
import Derived.Test.YtpplcijdhedjcaaMK1
namespace Go.Proofs.Ytpplcijdhedjcaa
open Go.ChangeShapes Go.WideShapes Go.ChangeAt Go.RowKit

set_option linter.unusedVariables false

set_option maxRecDepth 100000 in
theorem pciPlays_lifted (os : Os) (started : os.Started) (H : Type) (enc : TypeId × Value → H) :
    ReturnsInHanded {} Try.checked os 3 .any (Rows.pciPlaysSpec.pre6 enc Try.prog Try.f3 Rows.pciPlaysRow.domain false) (Rows.pciPlaysSpec.post enc Try.prog Try.f3 false true false false) := by
  refine returnsInHanded_of_change_sized (C := Try.checked) C.own started (by kernel_rfl) Try.func3
    (ChangeSpec.witness6 (enc := enc) (C := Try.checked) false ⟨#[], #[.slice none 0 0, .slice none 0 0], []⟩ 8 (by kernel_rfl) (by kernel_rfl) (by kernel_rfl) (by kernel_rfl)) ?_
  intro W base args ds gs before hval0 hW hcnd hsz0 _
  have hsz : (DataW.weightsEach Try.prog (Try.f3.params.toList ++ Rows.pciPlaysSpec.plain.varTypes Try.prog) (ds ++ gs)).all (· ≤ reachBytes) = true := hsz0
  clear hsz0
  have hval : ∀ (j : Nat) t v, Try.f3.params[j]? = some t → args[j]? = some v → Value.okWide Try.prog W .any base t v := hval0
  have hW' := hW
  obtain ⟨p, q, hA0, hV, rfl, hfz, hnd⟩ := hW
  have hA : DataW.TrodAll enc Try.prog W 0 (fun _ => true) true Try.f3.params.toList args.toList ds p := hA0
  rw [Try.params3] at hA hval hsz
  obtain ⟨v0, vs0, d0, ds0, p0, q0, hargs, rfl, rfl, h0, r0⟩ := trodAll_cons hA
  obtain ⟨v1, vs1, d1, ds1, p1, q1, rfl, rfl, rfl, h1, r1⟩ := trodAll_cons r0
  obtain ⟨rfl, rfl, rfl⟩ := trodAll_nil r1
  obtain rfl : args = #[v0, v1] := by cases args; simp_all
  obtain ⟨rfl, rfl⟩ := trodVars_none hV
  clear hA0 hval0
  simp only [List.append_nil] at hW'
  have hlt0 : ∀ x ∈ p0, x.block < W.heap.size := fun x hx => by simpa using hW'.lt x (by simp [hx])
  obtain ⟨ad0, la0, cap0, ab0, ao0, X0, rfl, hX0⟩ := open_ints (hval 0 22 v0 rfl rfl) h0 hlt0
  have hlt1 : ∀ x ∈ p1, x.block < W.heap.size := fun x hx => by simpa using hW'.lt x (by simp [hx])
  obtain ⟨ad1, la1, cap1, ab1, ao1, X1, rfl, hX1⟩ := open_pops (hval 1 23 v1 rfl rfl) h1 hlt1
  have walk : Calls Try.prog 3 #[.slice ad0 la0 cap0, .slice ad1 la1 cap1] W fun e w' => e = .returned (.bool true) ∧ Below W.heap.size W w' := w_PciPlays W ad0 la0 cap0 ab0 ao0 X0 hX0 ad1 la1 cap1 ab1 ao1 X1 hX1 (ints_ln h0 (fun n hn => by have h := List.all_eq_true.1 hsz n (DataW.weights_mem_each (j := 0) rfl rfl n hn); simpa using h))
  refine walk.mono fun e W' ⟨he, hg⟩ => ?_
  subst he
  have hg1 := Below.trod C.laidOut_prog (by kernel_rfl) (of_decide_eq_true (by kernel_rfl)) h1 hg hlt1
  have hg0 := Below.trod C.laidOut_prog (by kernel_rfl) (of_decide_eq_true (by kernel_rfl)) h0 hg hlt0
  exact ⟨_, rfl, _, _, _, [], (p0 ++ (p1 ++ [])), [], hW', trodAll_cons_mk (shut_bool Try.underlying4 _) trodAll_mk0, (trodAll_cons_mk hg0 (trodAll_cons_mk hg1 trodAll_mk0)), rfl, hg.frame _, fun h => by cases h⟩
theorem pciPlays_holds : Rows.PciPlaysSaid :=
  OpenClaim.holds_of_wide 3 Try.f3 rfl rfl rfl rfl rfl rfl rfl ⟨rfl, rfl, rfl, rfl, rfl⟩ rfl rfl rfl rfl rfl (by kernel_rfl) Try.func3 (by kernel_rfl)
    (of_decide_eq_true (by kernel_rfl)) (by unfold Func.isWrapper; first | (rw [if_pos (by decide +kernel)]; kernel_rfl) | (rw [if_neg (by decide +kernel)]; exact ⟨rfl, rfl⟩))
    (fun os started H enc _ => pciPlays_lifted os started H enc)
#print axioms pciPlays_holds
end Go.Proofs.Ytpplcijdhedjcaa
