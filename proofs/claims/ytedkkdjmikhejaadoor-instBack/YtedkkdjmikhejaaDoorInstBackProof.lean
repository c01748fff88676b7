/- For every instruction, also one that may not be, and every word of 32 bits: what Encode writes Decode reads as that instruction, and what Decode reads Encode writes as a word that is read the same: InstBack returns true. No condition; the package's tables are tied to the program's text. -/
import Derived.Test.YtedkkdjmikhejaaDoorIWB
import Derived.Test.YtedkkdjmikhejaaDoorCards
import Derived.Test.YtedkkdjmikhejaaDoorTie
import Derived.SevenTiedAt
namespace Go.Proofs.YtedkkdjmikhejaaDoor
open Go.ChangeShapes Go.WideShapes Go.ChangeAt Go.RowKit
set_option linter.unusedVariables false

theorem laidOut_prog : laidOutB Tryd.prog = true := by kernel_rfl
theorem cells_inst : Tryd.prog.cellsOf 23 = 8 := by kernel_rfl
theorem cells_int : Tryd.prog.cellsOf 3 = 1 := by kernel_rfl
theorem cells_bool : Tryd.prog.cellsOf 4 = 1 := by kernel_rfl
theorem array8 {α : Type} {cs : Array α} (h : cs.size = 8) : ∃ c0 c1 c2 c3 c4 c5 c6 c7, cs = #[c0, c1, c2, c3, c4, c5, c6, c7] := by
  obtain ⟨l⟩ := cs
  match l, h with
  | [c0, c1, c2, c3, c4, c5, c6, c7], _ => exact ⟨c0, c1, c2, c3, c4, c5, c6, c7, rfl⟩
theorem fld {k : Nat} {t : TypeId} (h : ((Tryd.prog.fieldsOf 23)[k]?).map (fun f => (f.type, f.offset)) = some (t, k)) : ∃ f, (Tryd.prog.fieldsOf 23)[k]? = some f ∧ f.type = t ∧ f.offset = k := by
  cases hq : (Tryd.prog.fieldsOf 23)[k]? with
  | none => rw [hq] at h; cases h
  | some f => rw [hq] at h; simp at h; exact ⟨f, rfl, h.1, h.2⟩
theorem open_inst {H : Type} {enc : TypeId × Value → H} {W : World} {r : Reach} {b base : Nat} {sp : Nat → Bool} {held : Bool} {v : Value} {d : DataW H} {p : List MemPlace} (hv : Value.okWide Tryd.prog W r b 23 v) (h : DataW.Trod enc Tryd.prog W base sp held 23 v d p) : ∃ i : I, v = i.v := by
  obtain ⟨cs, rfl, hsz⟩ := okWide_struct under_inst hv
  obtain ⟨c0, c1, c2, c3, c4, c5, c6, c7, rfl⟩ := array8 (hsz.trans cells_inst)
  obtain ⟨fuel, hf⟩ := h
  obtain ⟨xs, n, _, _, _, hlen, hfs⟩ := DataW.trod_struct under_inst hf
  have hl8 : xs.length = 8 := by rw [hlen]; kernel_rfl
  have hint : ∀ k, k < 7 → ((Tryd.prog.fieldsOf 23)[k]?).map (fun f => (f.type, f.offset)) = some (3, k) → ∃ z, ((Value.agg #[c0, c1, c2, c3, c4, c5, c6, c7]).cells.toList.drop k).take 1 = [.int .i64 z] := by
    intro k hk hm
    obtain ⟨f, e1, e2, e3⟩ := fld hm
    have q := hfs k f e1
    rw [e2, e3, cells_int] at q
    obtain ⟨y, hy⟩ : ∃ y, xs[k]? = some y := ⟨xs[k]'(by omega), List.getElem?_eq_getElem (by omega)⟩
    rw [hy] at q
    obtain ⟨z, hz, _, _⟩ := DataW.trod_int Tryd.underlying3 q
    exact ⟨z, hz⟩
  obtain ⟨z0, q0⟩ := hint 0 (by omega) (by kernel_rfl)
  obtain ⟨z1, q1⟩ := hint 1 (by omega) (by kernel_rfl)
  obtain ⟨z2, q2⟩ := hint 2 (by omega) (by kernel_rfl)
  obtain ⟨z3, q3⟩ := hint 3 (by omega) (by kernel_rfl)
  obtain ⟨z4, q4⟩ := hint 4 (by omega) (by kernel_rfl)
  obtain ⟨z5, q5⟩ := hint 5 (by omega) (by kernel_rfl)
  obtain ⟨z6, q6⟩ := hint 6 (by omega) (by kernel_rfl)
  obtain ⟨g, q7⟩ : ∃ g, ((Value.agg #[c0, c1, c2, c3, c4, c5, c6, c7]).cells.toList.drop 7).take 1 = [.bool g] := by
    obtain ⟨f, e1, e2, e3⟩ := fld (k := 7) (t := 4) (by kernel_rfl)
    have q := hfs 7 f e1
    rw [e2, e3, cells_bool] at q
    obtain ⟨y, hy⟩ : ∃ y, xs[7]? = some y := ⟨xs[7]'(by omega), List.getElem?_eq_getElem (by omega)⟩
    rw [hy] at q
    obtain ⟨z, hz, _⟩ := DataW.trod_bool Tryd.underlying4 q
    exact ⟨z, hz⟩
  simp [Value.cells] at q0 q1 q2 q3 q4 q5 q6 q7
  subst q0 q1 q2 q3 q4 q5 q6 q7
  exact ⟨⟨z0, z1, z2, z3, z4, z5, z6, g⟩, rfl⟩
set_option maxRecDepth 100000 in
theorem instBack_lifted (os : Os) (started : os.Started) (H : Type) (enc : TypeId × Value → H) :
    ReturnsInHanded {} Tryd.checked os 3 .any (fun w args => (Rows.instBackSpec.pre enc Tryd.prog Tryd.f3 [] false w args ∧ laidMetH Tryd.prog laidL w) ∧ sizedMet enc Tryd.prog Tryd.f3 (OpenSpec.ofChange Rows.instBackSpec) false w args)
      (Rows.instBackSpec.post enc Tryd.prog Tryd.f3 false true false false) := by
  refine returnsInHanded_of_change_and (C := Tryd.checked) (X := fun w _ => laidMetH Tryd.prog laidL w) (fun _ _ _ hh h => h.of_heap hh) own started (by kernel_rfl) Tryd.func3
    (ChangeSpec.witness_shaped (enc := enc) (C := Tryd.checked) (os := os) (X := fun w _ => laidMetH Tryd.prog laidL w) false (World.doorLaid Tryd.prog 64 os) #[.agg #[.int .i64 0, .int .i64 0, .int .i64 0, .int .i64 0, .int .i64 0, .int .i64 0, .int .i64 0, .bool false], .int .u32 0] 8 rfl (World.shaped_of_RefB (by kernel_rfl) (by kernel_rfl)) (by kernel_rfl) (by kernel_rfl) (by kernel_rfl) (door_met os _)) ?_
  intro W base args ds gs before hval0 hW _ _ hL _
  have hval : ∀ (j : Nat) t v, Tryd.f3.params[j]? = some t → args[j]? = some v → Value.okWide Tryd.prog W .any base t v := hval0
  have hW' := hW
  obtain ⟨p, q, hA0, hV, rfl, hfz, hnd⟩ := hW
  have hA : DataW.TrodAll enc Tryd.prog W 0 (fun _ => true) true Tryd.f3.params.toList args.toList ds p := hA0
  rw [Tryd.params3] at hA hval
  obtain ⟨v0, vs0, d0, ds0, p0, q0, hargs, rfl, rfl, h0, r0⟩ := trodAll_cons hA
  obtain ⟨v1, vs1, d1, ds1, p1, q1, rfl, rfl, rfl, h1, r1⟩ := trodAll_cons r0
  obtain ⟨rfl, rfl, rfl⟩ := trodAll_nil r1
  obtain rfl : args = #[v0, v1] := by cases args; simp_all
  obtain ⟨rfl, rfl⟩ := trodVars_none hV
  obtain ⟨i, rfl⟩ := open_inst (hval 0 23 v0 rfl rfl) h0
  obtain ⟨a1, rfl, rfl, rfl, w1⟩ := open_int Tryd.underlying24 (hval 1 24 v1 rfl rfl) h1
  clear hA0 hval0
  simp only [List.append_nil] at hW'
  obtain ⟨b0, b1⟩ := bounds_u32 w1
  have hlt : ∀ x ∈ p0, x.block < W.heap.size := fun x hx => by simpa using hW'.lt x hx
  refine (bw i a1 b0 (by omega) W (G_of hL)).mono fun e W' ⟨he, hg⟩ => ?_
  subst he
  have hargs' := Below.trod laidOut_prog (by kernel_rfl) (of_decide_eq_true (by kernel_rfl)) h0 hg hlt
  exact ⟨_, rfl, _, _, _, [], p0 ++ ([] ++ []), [], hW', trodAll_cons_mk (shut_bool Tryd.underlying4 _) trodAll_mk0, trodAll_cons_mk hargs' (trodAll_cons_mk (shut_int Tryd.underlying24 w1) trodAll_mk0), rfl, hg.frame _, fun h => by cases h⟩
theorem instBack_over : Rows.InstBackSaid :=
  OpenClaim.holds_of_wide 3 Tryd.f3 rfl rfl rfl rfl rfl rfl rfl ⟨rfl, rfl, rfl, rfl, rfl⟩ rfl rfl rfl rfl rfl (by kernel_rfl) Tryd.func3 (by kernel_rfl)
    (of_decide_eq_true (by kernel_rfl)) (by unfold Func.isWrapper; first | (rw [if_pos (by decide +kernel)]; kernel_rfl) | (rw [if_neg (by decide +kernel)]; exact ⟨rfl, rfl⟩))
    (fun os started H enc _ => instBack_lifted os started H enc)
theorem instBack_card : Rows.InstBackCardSaid :=
  Claim7.holds_tied_plain_at .later [] [.data, .data, .data, .data, .data, .data, .data, .data, .data, .data, .data] true (true, "b49a5b7f3cf7f269bb4f8e1920728c5ac7366f9266b348eab1871c7d8605673e") false
    instBack_over (fun _ h => by cases h) (by kernel_rfl) (fun _ h => by cases h) instBack_row_tie rfl ⟨rfl, rfl⟩ (by kernel_rfl) rfl
    (fun f fn hf hfn => by
      obtain rfl : f = 3 := Option.some.inj ((show Tryd.prog.funcNamed "citadel/citadellaw02.InstBack" = some 3 by kernel_rfl).symm.trans hf) |>.symm
      obtain rfl : fn = Tryd.f3 := (Option.some.inj (Tryd.func3.symm.trans hfn)).symm
      exact ⟨by kernel_rfl, fun j t ht => by
        rw [Tryd.params3] at ht
        have hm : t ∈ [23, 24] := by simpa using Array.mem_of_getElem? ht
        have hall : ([23, 24].all fun u => !Tryd.prog.wantsStandIn u) = true := by kernel_rfl
        exact (show Tryd.prog.wantsStandIn t = false by simpa using List.all_eq_true.1 hall t hm)⟩)
    (by kernel_rfl)
#print axioms instBack_card
end Go.Proofs.YtedkkdjmikhejaaDoor
