/- For every place, size, number and list of bytes: a number that is written is read by its bytes, the lowest first, and no byte beside it is turned: RamBytes returns true. No condition. -/
import Derived.Test.YthjlhiigaccapaaRO
import Derived.Test.YthjlhiigaccapaaRZB0
import Derived.Test.YthjlhiigaccapaaRZB1
namespace Go.Proofs.Ythjlhiigaccapaa
open Go.ChangeShapes Go.WideShapes Go.ChangeAt Go.RowKit
set_option linter.unusedVariables false

set_option maxRecDepth 100000 in
theorem ramBytes_lifted (os : Os) (started : os.Started) (H : Type) (enc : TypeId × Value → H) :
    ReturnsInHanded {} Try.checked os 4 .any (Rows.ramBytesSpec.pre6 enc Try.prog Try.f4 Rows.ramBytesRow.domain false) (Rows.ramBytesSpec.post enc Try.prog Try.f4 false true false false) := by
  refine returnsInHanded_of_change (C := Try.checked) own started (by kernel_rfl) Try.func4
    (ChangeSpec.witness6 (enc := enc) (C := Try.checked) false ⟨#[], #[.int .i64 0, .int .i64 0, .int .u64 0, .slice none 0 0], []⟩ 8 (by kernel_rfl) (by kernel_rfl) (by kernel_rfl) (by kernel_rfl)) ?_
  intro W base args ds gs before hval0 hW hcnd _
  have hval : ∀ (j : Nat) t v, Try.f4.params[j]? = some t → args[j]? = some v → Value.okWide Try.prog W .any base t v := hval0
  have hW' := hW
  obtain ⟨p, q, hA0, hV, rfl, hfz, hnd⟩ := hW
  have hA : DataW.TrodAll enc Try.prog W 0 (fun _ => true) true Try.f4.params.toList args.toList ds p := hA0
  rw [Try.params4] at hA hval
  obtain ⟨v0, vs0, d0, ds0, p0, q0, hargs, rfl, rfl, h0, r0⟩ := trodAll_cons hA
  obtain ⟨v1, vs1, d1, ds1, p1, q1, rfl, rfl, rfl, h1, r1⟩ := trodAll_cons r0
  obtain ⟨v2, vs2, d2, ds2, p2, q2, rfl, rfl, rfl, h2, r2⟩ := trodAll_cons r1
  obtain ⟨v3, vs3, d3, ds3, p3, q3, rfl, rfl, rfl, h3, r3⟩ := trodAll_cons r2
  obtain ⟨rfl, rfl, rfl⟩ := trodAll_nil r3
  obtain rfl : args = #[v0, v1, v2, v3] := by cases args; simp_all
  obtain ⟨rfl, rfl⟩ := trodVars_none hV
  obtain ⟨a0, rfl, rfl, rfl, w0⟩ := open_int Try.underlying3 (hval 0 3 v0 rfl rfl) h0
  obtain ⟨a1, rfl, rfl, rfl, w1⟩ := open_int Try.underlying3 (hval 1 3 v1 rfl rfl) h1
  obtain ⟨a2, rfl, rfl, rfl, w2⟩ := open_int Try.underlying22 (hval 2 22 v2 rfl rfl) h2
  clear hA0 hval0
  simp only [List.append_nil] at hW'
  have hlt : ∀ x ∈ p3, x.block < W.heap.size := fun x hx => by simpa using hW'.lt x (by simpa using hx)
  obtain ⟨ad, la, cap, ar, aa, rfl, hl, hm, hw, hc⟩ := open_nums u_su8 u_u8 cells_u8 (hval 3 35 v3 rfl rfl) h3 hlt
  obtain ⟨b0, b0'⟩ := bounds_i64 w0
  obtain ⟨b1, b1'⟩ := bounds_i64 w1
  obtain ⟨b2, b2'⟩ := bounds_u64 w2
  have har : ∀ j, 0 ≤ ar j ∧ ar j < 256 := fun j => by
    rcases hw j with q | q
    · omega
    · have := bounds_u8 q; omega
  have walk : Calls Try.prog 4 #[.int .i64 a0, .int .i64 a1, .int .u64 a2, .slice ad la cap] W fun e w' => e = .returned (.bool true) ∧ Below W.heap.size W w' := by
    rcases Nat.eq_zero_or_pos la with rfl | q
    · exact w_RamBytes0 W a0 a1 a2 b0 b0' b1 b1' b2 (by omega) ad cap ar har
    · exact w_RamBytes1 W a0 a1 a2 b0 b0' b1 b1' b2 (by omega) ad la cap ar har (by omega) q aa hc
  refine walk.mono fun e W' ⟨he, hg⟩ => ?_
  subst he
  have hargs' := Below.trod laidOut_prog (by kernel_rfl) (of_decide_eq_true (by kernel_rfl)) h3 hg hlt
  exact ⟨_, rfl, _, _, _, [], [] ++ ([] ++ ([] ++ (p3 ++ []))), [], hW', trodAll_cons_mk (shut_bool Try.underlying4 _) trodAll_mk0, trodAll_cons_mk (shut_int Try.underlying3 w0) (trodAll_cons_mk (shut_int Try.underlying3 w1) (trodAll_cons_mk (shut_int Try.underlying22 w2) (trodAll_cons_mk hargs' trodAll_mk0))), rfl, hg.frame _, fun h => by cases h⟩
theorem ramBytes_holds : Rows.RamBytesSaid :=
  OpenClaim.holds_of_wide 4 Try.f4 rfl rfl rfl rfl rfl rfl rfl ⟨rfl, rfl, rfl, rfl, rfl⟩ rfl rfl rfl rfl rfl (by kernel_rfl) Try.func4 (by kernel_rfl)
    (of_decide_eq_true (by kernel_rfl)) (by unfold Func.isWrapper; first | (rw [if_pos (by decide +kernel)]; kernel_rfl) | (rw [if_neg (by decide +kernel)]; exact ⟨rfl, rfl⟩))
    (fun os started H enc _ => ramBytes_lifted os started H enc)
#print axioms ramBytes_holds
end Go.Proofs.Ythjlhiigaccapaa
