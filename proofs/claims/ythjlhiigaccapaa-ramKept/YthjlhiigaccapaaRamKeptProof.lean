/- For every place and every list of bytes: bytes that are handed in stay, spare room too, and are not kept; bytes that are told are new memory: RamKept returns true. No condition. -/
import Derived.Test.YthjlhiigaccapaaRO
import Derived.Test.YthjlhiigaccapaaROK
import Derived.Test.YthjlhiigaccapaaRKW
import Derived.Test.YthjlhiigaccapaaRKX
namespace Go.Proofs.Ythjlhiigaccapaa
open Go.ChangeShapes Go.WideShapes Go.ChangeAt Go.RowKit
set_option linter.unusedVariables false

set_option maxRecDepth 100000 in
theorem ramKept_lifted (os : Os) (started : os.Started) (H : Type) (enc : TypeId × Value → H) :
    ReturnsInHanded {} Try.checked os 5 .any (Rows.ramKeptSpec.pre6 enc Try.prog Try.f5 Rows.ramKeptRow.domain false) (Rows.ramKeptSpec.post enc Try.prog Try.f5 false true false false) := by
  refine returnsInHanded_of_change_sized (C := Try.checked) own started (by kernel_rfl) Try.func5
    (ChangeSpec.witness6 (enc := enc) (C := Try.checked) false ⟨#[], #[.int .i64 0, .slice none 0 0], []⟩ 8 (by kernel_rfl) (by kernel_rfl) (by kernel_rfl) (by kernel_rfl)) ?_
  intro W base args ds gs before hval0 hW hcnd hsz0 _
  have hsz : (DataW.weightsEach Try.prog (Try.f5.params.toList ++ Rows.ramKeptSpec.plain.varTypes Try.prog) (ds ++ gs)).all (· ≤ reachBytes) = true := hsz0
  clear hsz0
  have hval : ∀ (j : Nat) t v, Try.f5.params[j]? = some t → args[j]? = some v → Value.okWide Try.prog W .any base t v := hval0
  have hW' := hW
  obtain ⟨p, q, hA0, hV, rfl, hfz, hnd⟩ := hW
  have hA : DataW.TrodAll enc Try.prog W 0 (fun _ => true) true Try.f5.params.toList args.toList ds p := hA0
  rw [Try.params5] at hA hval hsz
  obtain ⟨v0, vs0, d0, ds0, p0, q0, hargs, rfl, rfl, h0, r0⟩ := trodAll_cons hA
  obtain ⟨v1, vs1, d1, ds1, p1, q1, rfl, rfl, rfl, h1, r1⟩ := trodAll_cons r0
  obtain ⟨rfl, rfl, rfl⟩ := trodAll_nil r1
  obtain rfl : args = #[v0, v1] := by cases args; simp_all
  obtain ⟨rfl, rfl⟩ := trodVars_none hV
  obtain ⟨a0, rfl, rfl, rfl, w0⟩ := open_int Try.underlying3 (hval 0 3 v0 rfl rfl) h0
  clear hA0 hval0
  simp only [List.append_nil] at hW'
  obtain ⟨b0, b0'⟩ := bounds_i64 w0
  have hlt1 : ∀ x ∈ p1, x.block < W.heap.size := fun x hx => by simpa using hW'.lt x (by simp [hx])
  obtain ⟨ad1, la1, cap1, ar1, aa1, rfl, hl1, hm1, hw1, hc1⟩ := open_nums u_su8 u_u8 cells_u8 (hval 1 35 v1 rfl rfl) h1 hlt1
  have walk : Calls Try.prog 5 #[.int .i64 a0, .slice ad1 la1 cap1] W fun e w' => e = .returned (.bool true) ∧ Below W.heap.size W w' := by
    have har : ∀ j, 0 ≤ ar1 j ∧ ar1 j < 256 := fun j => by
      rcases hw1 j with q | q
      · omega
      · have := bounds_u8 q; omega
    rcases Nat.lt_or_ge 4096 la1 with q | q
    · exact w_RamKept1 W a0 b0 b0' ad1 la1 cap1 ar1 har hl1 hm1 (open_none h1) q aa1 hc1
    · exact w_RamKept0 W a0 b0 b0' ad1 la1 cap1 ar1 har hl1 hm1 (open_none h1) q aa1 hc1
  refine walk.mono fun e W' ⟨he, hg⟩ => ?_
  subst he
  have hg1 := Below.trod laidOut_prog (by kernel_rfl) (of_decide_eq_true (by kernel_rfl)) h1 hg hlt1
  exact ⟨_, rfl, _, _, _, [], ([] ++ (p1 ++ [])), [], hW', trodAll_cons_mk (shut_bool Try.underlying4 _) trodAll_mk0, (trodAll_cons_mk (shut_int Try.underlying3 w0) (trodAll_cons_mk hg1 trodAll_mk0)), rfl, hg.frame _, fun h => by cases h⟩
theorem ramKept_holds : Rows.RamKeptSaid :=
  OpenClaim.holds_of_wide 5 Try.f5 rfl rfl rfl rfl rfl rfl rfl ⟨rfl, rfl, rfl, rfl, rfl⟩ rfl rfl rfl rfl rfl (by kernel_rfl) Try.func5 (by kernel_rfl)
    (of_decide_eq_true (by kernel_rfl)) (by unfold Func.isWrapper; first | (rw [if_pos (by decide +kernel)]; kernel_rfl) | (rw [if_neg (by decide +kernel)]; exact ⟨rfl, rfl⟩))
    (fun os started H enc _ => ramKept_lifted os started H enc)
#print axioms ramKept_holds
end Go.Proofs.Ythjlhiigaccapaa
