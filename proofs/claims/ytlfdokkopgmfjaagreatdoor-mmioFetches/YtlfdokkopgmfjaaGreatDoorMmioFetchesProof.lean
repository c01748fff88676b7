/- For every case (a memory of 1 to 8 frames anywhere, bytes at its beginning, cells in it, a root, a hart): the instruction that the hart stands at is fetched as the document fetches it, by both stages' tables, compressed or not, or not at all; both memories stay the same, and the document's named answer is given: MmioFetches returns true. No condition; the package's tables are tied to the program's text. -/
import Derived.Test.YtlfdokkopgmfjaaGreatDoorMH7
import Derived.Test.YtlfdokkopgmfjaaGreatDoorMH8
import Derived.Test.YtlfdokkopgmfjaaGreatDoorMH9
import Derived.Test.YtlfdokkopgmfjaaGreatDoorCards
import Derived.Test.YtlfdokkopgmfjaaGreatDoorTie
import Derived.SevenTiedAt
namespace Go.Proofs.YtlfdokkopgmfjaaGreatDoor
open Go.ChangeShapes Go.WideShapes Go.ChangeAt Go.RowKit
set_option linter.unusedVariables false
set_option maxRecDepth 100000 in
theorem mmioFetches_lifted (os : Os) (started : os.Started) (H : Type) (enc : TypeId × Value → H) :
    ReturnsInHanded {} Tryz.checked os 3 .any (fun w args => (Rows.mmioFetchesSpec.pre enc Tryz.prog Tryz.f3 [] false w args ∧ laidMetH Tryz.prog laidL w) ∧ sizedMet enc Tryz.prog Tryz.f3 (OpenSpec.ofChange Rows.mmioFetchesSpec) false w args)
      (Rows.mmioFetchesSpec.post enc Tryz.prog Tryz.f3 false true false false) := by
  refine returnsInHanded_of_change_and (C := Tryz.checked) (X := fun w _ => laidMetH Tryz.prog laidL w) (fun _ _ _ hh h => h.of_heap hh) own started (by kernel_rfl) Tryz.func3
    (ChangeSpec.witness_shaped (enc := enc) (C := Tryz.checked) (os := os) (X := fun w _ => laidMetH Tryz.prog laidL w) false (World.doorLaid Tryz.prog 64 os) #[.agg (kca 0 0 (.slice none 0 0) (.slice none 0 0) 0 HV.zero)] 8 rfl (World.shaped_of_RefB (by kernel_rfl) (by kernel_rfl)) (by kernel_rfl) (by kernel_rfl) (by kernel_rfl) (door_met os _)) ?_
  intro W base args ds gs before hval0 hW _ _ hL _
  have hval : ∀ (j : Nat) t v, Tryz.f3.params[j]? = some t → args[j]? = some v → Value.okWide Tryz.prog W .any base t v := hval0
  have hW' := hW
  obtain ⟨p, q, hA0, hV, rfl, hfz, hnd⟩ := hW
  have hA : DataW.TrodAll enc Tryz.prog W 0 (fun _ => true) true Tryz.f3.params.toList args.toList ds p := hA0
  rw [Tryz.params3] at hA hval
  obtain ⟨v0, vs0, d0, ds0, p0, q0, hargs, rfl, rfl, h0, r0⟩ := trodAll_cons hA
  obtain ⟨rfl, rfl, rfl⟩ := trodAll_nil r0
  obtain rfl : args = #[v0] := by cases args; simp_all
  obtain ⟨rfl, rfl⟩ := trodVars_none hV
  clear hA0
  simp only [List.append_nil] at hW'
  have hlt0 : ∀ x ∈ p0, x.block < W.heap.size := fun x hx => by simpa using hW'.lt x (by simp [hx])
  obtain ⟨z0, z1, ad0, la0, cap0, ab0, ao0, A, ad, la, cap, ab, ao, X, z4, a0, rfl, kA, kC, k0, k1, k4, kok⟩ := open_kca (hval 0 29 v0 rfl rfl) h0 hlt0
  refine (w_MmioFetches W z0 z1 ad0 la0 cap0 ab0 ao0 A kA ad la cap ab ao X kC k0 k1 z4 k4 a0 kok (G_of hL)).mono fun e W' ⟨he, hg⟩ => ?_
  subst he
  exact ⟨_, rfl, _, _, _, [], _, [], hW', trodAll_cons_mk (shut_bool Tryz.underlying4 _) trodAll_mk0, trodAll_cons_mk (Below.trod laidOut_prog (by kernel_rfl) (of_decide_eq_true (by kernel_rfl)) h0 hg hlt0) trodAll_mk0, rfl, hg.frame _, fun h => by cases h⟩
theorem mmioFetches_over : Rows.MmioFetchesSaid :=
  OpenClaim.holds_of_wide 3 Tryz.f3 rfl rfl rfl rfl rfl rfl rfl ⟨rfl, rfl, rfl, rfl, rfl⟩ rfl rfl rfl rfl rfl mmioFetches_fn Tryz.func3 mmioFetches_closed
    mmioFetches_inst (by unfold Func.isWrapper; first | (rw [if_pos (by decide +kernel)]; kernel_rfl) | (rw [if_neg (by decide +kernel)]; exact ⟨rfl, rfl⟩))
    (fun os started H enc _ => mmioFetches_lifted os started H enc)
theorem mmioFetches_card : Rows.MmioFetchesCardSaid :=
  Claim7.holds_tied_plain_at .later [] [.data, .data, .data, .data, .data, .data, .data, .data, .data, .data, .data] true (true, "b518844aa68c88e4dd03b1b51cdad5eb9b6ba3949926baa271627549b2555a00") true
    mmioFetches_over (fun _ h => by cases h) (by kernel_rfl) (fun _ h => by cases h) mmioFetches_row_tie rfl ⟨rfl, rfl⟩ card_main rfl
    (fun f fn hf hfn => by
      obtain rfl : f = 3 := Option.some.inj (mmioFetches_fn.symm.trans hf) |>.symm
      obtain rfl : fn = Tryz.f3 := (Option.some.inj (Tryz.func3.symm.trans hfn)).symm
      exact ⟨card_looks, fun j t ht => by
        rw [Tryz.params3] at ht
        have hm : t ∈ [29] := by simpa using Array.mem_of_getElem? ht
        have hall : ([29].all fun u => !Tryz.prog.wantsStandIn u) = true := by kernel_rfl
        exact (show Tryz.prog.wantsStandIn t = false by simpa using List.all_eq_true.1 hall t hm)⟩)
    mmioFetches_go
#print axioms mmioFetches_card
end Go.Proofs.YtlfdokkopgmfjaaGreatDoor
