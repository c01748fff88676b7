/- Any script of reads, writes, fills, copies over a memory anywhere answers as bytes do, and leaves just these bytes: RamPlays answers true. No condition. -/
import Derived.Test.YtioodijiejipiaaRO
import Derived.Test.YtioodijiejipiaaRPO
import Derived.Test.YtioodijiejipiaaRPX
namespace Go.Proofs.Ytioodijiejipiaa
open Go.ChangeShapes Go.WideShapes Go.ChangeAt Go.RowKit
set_option linter.unusedVariables false

theorem w_RamPlays (w : World) (base frames : Int) (b0 : 0 ≤ base) (ad : Option Addr) (la cap : Nat) (aa : Addr) (X : Nat → OpV) (hlc : la ≤ cap) (hcm : cap ≤ 9223372036854775807) (hsl : 0 < la → ad = some aa ∧ aa.block < w.heap.size) (hX : ∀ i, i < la → OpOk w (X i) ∧ ∀ j u, (X i).cells[j]? = some u → w.cell? (aa.add (i * 6 + j)) = some u)
    (hla : la * 16 + 16 ≤ 140737488355328) (hbs : ∀ i, i < la → (X i).bl ≤ 140737488355328) :
    Calls Try.prog 3 #[.int .u64 base, .int .i64 frames, .slice ad la cap] w fun e w' => e = .returned (.bool true) ∧ Below w.heap.size w w' := by
  cases hb : newB base frames with
  | false => exact w_RamPlays_bad w base frames b0 hb _
  | true =>
    have h := of_decide_eq_true hb
    obtain ⟨n, rfl⟩ : ∃ n : Nat, frames = n := ⟨frames.toNat, by omega⟩
    exact w_RamPlays_good w base n b0 h.2.2.2 h.2.2.1 (by omega) (by omega) ad la cap aa X hlc hcm hsl hX hla hbs
set_option maxRecDepth 100000 in
theorem ramPlays_lifted (os : Os) (started : os.Started) (H : Type) (enc : TypeId × Value → H) :
    ReturnsInHanded {} Try.checked os 3 .any (Rows.ramPlaysSpec.pre6 enc Try.prog Try.f3 Rows.ramPlaysRow.domain false) (Rows.ramPlaysSpec.post enc Try.prog Try.f3 false true false false) := by
  refine returnsInHanded_of_change_sized (C := Try.checked) own started (by kernel_rfl) Try.func3
    (ChangeSpec.witness6 (enc := enc) (C := Try.checked) false ⟨#[], #[.int .u64 0, .int .i64 0, .slice none 0 0], []⟩ 8 (by kernel_rfl) (by kernel_rfl) (by kernel_rfl) (by kernel_rfl)) ?_
  intro W base args ds gs before hval0 hW hcnd hsz0 _
  have hsz : (DataW.weightsEach Try.prog (Try.f3.params.toList ++ Rows.ramPlaysSpec.plain.varTypes Try.prog) (ds ++ gs)).all (· ≤ reachBytes) = true := hsz0
  clear hsz0
  have hval : ∀ (j : Nat) t v, Try.f3.params[j]? = some t → args[j]? = some v → Value.okWide Try.prog W .any base t v := hval0
  have hW' := hW
  obtain ⟨p, q, hA0, hV, rfl, hfz, hnd⟩ := hW
  have hA : DataW.TrodAll enc Try.prog W 0 (fun _ => true) true Try.f3.params.toList args.toList ds p := hA0
  rw [Try.params3] at hA hval hsz
  obtain ⟨v0, vs0, d0, ds0, p0, q0, hargs, rfl, rfl, h0, r0⟩ := trodAll_cons hA
  obtain ⟨v1, vs1, d1, ds1, p1, q1, rfl, rfl, rfl, h1, r1⟩ := trodAll_cons r0
  obtain ⟨v2, vs2, d2, ds2, p2, q2, rfl, rfl, rfl, h2, r2⟩ := trodAll_cons r1
  obtain ⟨rfl, rfl, rfl⟩ := trodAll_nil r2
  obtain rfl : args = #[v0, v1, v2] := by cases args; simp_all
  obtain ⟨rfl, rfl⟩ := trodVars_none hV
  obtain ⟨a0, rfl, rfl, rfl, w0⟩ := open_int Try.underlying22 (hval 0 22 v0 rfl rfl) h0
  obtain ⟨a1, rfl, rfl, rfl, w1⟩ := open_int Try.underlying3 (hval 1 3 v1 rfl rfl) h1
  clear hA0 hval0
  simp only [List.append_nil] at hW'
  obtain ⟨b0, b0'⟩ := bounds_u64 w0
  have hsO : Try.prog.underlying 23 = some (.slice 37) := by kernel_rfl
  have hlt2 : ∀ x ∈ p2, x.block < W.heap.size := fun x hx => by simpa using hW'.lt x (by simp [hx])
  obtain ⟨ad, la, cap, aa, X, rfl, hlc, hcm, hsl, hX⟩ := open_ops hsO (hval 2 23 v2 rfl rfl) h2 hlt2
  obtain ⟨hla, hby⟩ := script_len hsO h2 (fun n hn => by have h := List.all_eq_true.1 hsz n (DataW.weights_mem_each (j := 2) rfl rfl n hn); simpa using h)
  have walk : Calls Try.prog 3 #[.int .u64 a0, .int .i64 a1, .slice ad la cap] W fun e w' => e = .returned (.bool true) ∧ Below W.heap.size W w' := w_RamPlays W a0 a1 b0 ad la cap aa X hlc hcm hsl hX hla (fun i hi => hby aa (hsl (by omega)).1 i hi _ _ _ ((hX i hi).2 5 _ rfl))
  refine walk.mono fun e W' ⟨he, hg⟩ => ?_
  subst he
  have hg2 := Below.trod laidOut_prog (by kernel_rfl) (of_decide_eq_true (by kernel_rfl)) h2 hg hlt2
  exact ⟨_, rfl, _, _, _, [], ([] ++ ([] ++ (p2 ++ []))), [], hW', trodAll_cons_mk (shut_bool Try.underlying4 _) trodAll_mk0, (trodAll_cons_mk (shut_int Try.underlying22 w0) (trodAll_cons_mk (shut_int Try.underlying3 w1) (trodAll_cons_mk hg2 trodAll_mk0))), rfl, hg.frame _, fun h => by cases h⟩
theorem ramPlays_holds : Rows.RamPlaysSaid :=
  OpenClaim.holds_of_wide 3 Try.f3 rfl rfl rfl rfl rfl rfl rfl ⟨rfl, rfl, rfl, rfl, rfl⟩ rfl rfl rfl rfl rfl (by kernel_rfl) Try.func3 (by kernel_rfl)
    (of_decide_eq_true (by kernel_rfl)) (by unfold Func.isWrapper; first | (rw [if_pos (by decide +kernel)]; kernel_rfl) | (rw [if_neg (by decide +kernel)]; exact ⟨rfl, rfl⟩))
    (fun os started H enc _ => ramPlays_lifted os started H enc)
#print axioms ramPlays_holds
end Go.Proofs.Ytioodijiejipiaa
