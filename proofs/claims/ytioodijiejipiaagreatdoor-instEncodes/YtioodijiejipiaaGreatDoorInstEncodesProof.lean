/- For every instruction, also one that may not be: the program writes it as the word that the document's own table says, or neither writes it: InstEncodes returns true. No condition; the package's tables are tied to the program's text. -/
import Derived.Test.YtioodijiejipiaaGreatDoorIWE
import Derived.Test.YtioodijiejipiaaGreatDoorCards
import Derived.Test.YtioodijiejipiaaGreatDoorTie
import Derived.SevenTiedAt
namespace Go.Proofs.YtioodijiejipiaaGreatDoor
open Go.ChangeShapes Go.WideShapes Go.ChangeAt Go.RowKit
set_option linter.unusedVariables false

theorem laidOut_prog : laidOutB Tryz.prog = true := by kernel_rfl
theorem cells_inst : Tryz.prog.cellsOf 24 = 8 := by kernel_rfl
theorem cells_int : Tryz.prog.cellsOf 3 = 1 := by kernel_rfl
theorem cells_bool : Tryz.prog.cellsOf 4 = 1 := by kernel_rfl
theorem array8 {α : Type} {cs : Array α} (h : cs.size = 8) : ∃ c0 c1 c2 c3 c4 c5 c6 c7, cs = #[c0, c1, c2, c3, c4, c5, c6, c7] := by
  obtain ⟨l⟩ := cs
  match l, h with
  | [c0, c1, c2, c3, c4, c5, c6, c7], _ => exact ⟨c0, c1, c2, c3, c4, c5, c6, c7, rfl⟩
theorem fld {k : Nat} {t : TypeId} (h : ((Tryz.prog.fieldsOf 24)[k]?).map (fun f => (f.type, f.offset)) = some (t, k)) : ∃ f, (Tryz.prog.fieldsOf 24)[k]? = some f ∧ f.type = t ∧ f.offset = k := by
  cases hq : (Tryz.prog.fieldsOf 24)[k]? with
  | none => rw [hq] at h; cases h
  | some f => rw [hq] at h; simp at h; exact ⟨f, rfl, h.1, h.2⟩
theorem open_inst {H : Type} {enc : TypeId × Value → H} {W : World} {r : Reach} {b base : Nat} {sp : Nat → Bool} {held : Bool} {v : Value} {d : DataW H} {p : List MemPlace} (hv : Value.okWide Tryz.prog W r b 24 v) (h : DataW.Trod enc Tryz.prog W base sp held 24 v d p) : ∃ i : I, v = i.v := by
  obtain ⟨cs, rfl, hsz⟩ := okWide_struct under_inst hv
  obtain ⟨c0, c1, c2, c3, c4, c5, c6, c7, rfl⟩ := array8 (hsz.trans cells_inst)
  obtain ⟨fuel, hf⟩ := h
  obtain ⟨xs, n, _, _, _, hlen, hfs⟩ := DataW.trod_struct under_inst hf
  have hl8 : xs.length = 8 := by rw [hlen]; kernel_rfl
  have hint : ∀ k, k < 7 → ((Tryz.prog.fieldsOf 24)[k]?).map (fun f => (f.type, f.offset)) = some (3, k) → ∃ z, ((Value.agg #[c0, c1, c2, c3, c4, c5, c6, c7]).cells.toList.drop k).take 1 = [.int .i64 z] := by
    intro k hk hm
    obtain ⟨f, e1, e2, e3⟩ := fld hm
    have q := hfs k f e1
    rw [e2, e3, cells_int] at q
    obtain ⟨y, hy⟩ : ∃ y, xs[k]? = some y := ⟨xs[k]'(by omega), List.getElem?_eq_getElem (by omega)⟩
    rw [hy] at q
    obtain ⟨z, hz, _, _⟩ := DataW.trod_int Tryz.underlying3 q
    exact ⟨z, hz⟩
  obtain ⟨z0, q0⟩ := hint 0 (by omega) (by kernel_rfl)
  obtain ⟨z1, q1⟩ := hint 1 (by omega) (by kernel_rfl)
  obtain ⟨z2, q2⟩ := hint 2 (by omega) (by kernel_rfl)
  obtain ⟨z3, q3⟩ := hint 3 (by omega) (by kernel_rfl)
  obtain ⟨z4, q4⟩ := hint 4 (by omega) (by kernel_rfl)
  obtain ⟨z5, q5⟩ := hint 5 (by omega) (by kernel_rfl)
  obtain ⟨z6, q6⟩ := hint 6 (by omega) (by kernel_rfl)
  obtain ⟨g, q7⟩ : ∃ g, ((Value.agg #[c0, c1, c2, c3, c4, c5, c6, c7]).cells.toList.drop 7).take 1 = [.bool g] := by
    obtain ⟨f, e1, e2, e3⟩ := fld (k := 7) (t := 4) (by kernel_rfl)
    have q := hfs 7 f e1
    rw [e2, e3, cells_bool] at q
    obtain ⟨y, hy⟩ : ∃ y, xs[7]? = some y := ⟨xs[7]'(by omega), List.getElem?_eq_getElem (by omega)⟩
    rw [hy] at q
    obtain ⟨z, hz, _⟩ := DataW.trod_bool Tryz.underlying4 q
    exact ⟨z, hz⟩
  simp [Value.cells] at q0 q1 q2 q3 q4 q5 q6 q7
  subst q0 q1 q2 q3 q4 q5 q6 q7
  exact ⟨⟨z0, z1, z2, z3, z4, z5, z6, g⟩, rfl⟩
set_option maxRecDepth 100000 in
theorem instEncodes_lifted (os : Os) (started : os.Started) (H : Type) (enc : TypeId × Value → H) :
    ReturnsInHanded {} Tryz.checked os 4 .any (fun w args => (Rows.instEncodesSpec.pre enc Tryz.prog Tryz.f4 [] false w args ∧ laidMetH Tryz.prog laidL w) ∧ sizedMet enc Tryz.prog Tryz.f4 (OpenSpec.ofChange Rows.instEncodesSpec) false w args)
      (Rows.instEncodesSpec.post enc Tryz.prog Tryz.f4 false true false false) := by
  refine returnsInHanded_of_change_and (C := Tryz.checked) (X := fun w _ => laidMetH Tryz.prog laidL w) (fun _ _ _ hh h => h.of_heap hh) own started (by kernel_rfl) Tryz.func4
    (ChangeSpec.witness_shaped (enc := enc) (C := Tryz.checked) (os := os) (X := fun w _ => laidMetH Tryz.prog laidL w) false (World.doorLaid Tryz.prog 64 os) #[.agg #[.int .i64 0, .int .i64 0, .int .i64 0, .int .i64 0, .int .i64 0, .int .i64 0, .int .i64 0, .bool false]] 8 rfl (World.shaped_of_RefB (by kernel_rfl) (by kernel_rfl)) (by kernel_rfl) (by kernel_rfl) (by kernel_rfl) (door_met os _)) ?_
  intro W base args ds gs before hval0 hW _ _ hL _
  have hval : ∀ (j : Nat) t v, Tryz.f4.params[j]? = some t → args[j]? = some v → Value.okWide Tryz.prog W .any base t v := hval0
  have hW' := hW
  obtain ⟨p, q, hA0, hV, rfl, hfz, hnd⟩ := hW
  have hA : DataW.TrodAll enc Tryz.prog W 0 (fun _ => true) true Tryz.f4.params.toList args.toList ds p := hA0
  rw [Tryz.params4] at hA hval
  obtain ⟨v0, vs0, d0, ds0, p0, q0, hargs, rfl, rfl, h0, r0⟩ := trodAll_cons hA
  obtain ⟨rfl, rfl, rfl⟩ := trodAll_nil r0
  obtain rfl : args = #[v0] := by cases args; simp_all
  obtain ⟨rfl, rfl⟩ := trodVars_none hV
  obtain ⟨i, rfl⟩ := open_inst (hval 0 24 v0 rfl rfl) h0
  clear hA0 hval0
  simp only [List.append_nil] at hW'
  have hlt : ∀ x ∈ p0, x.block < W.heap.size := fun x hx => by simpa using hW'.lt x hx
  refine (ew i W (G_of hL)).mono fun e W' ⟨he, hg⟩ => ?_
  subst he
  have hargs' := Below.trod laidOut_prog (by kernel_rfl) (of_decide_eq_true (by kernel_rfl)) h0 hg hlt
  exact ⟨_, rfl, _, _, _, [], p0 ++ [], [], hW', trodAll_cons_mk (shut_bool Tryz.underlying4 _) trodAll_mk0, trodAll_cons_mk hargs' trodAll_mk0, rfl, hg.frame _, fun h => by cases h⟩
theorem instEncodes_over : Rows.InstEncodesSaid :=
  OpenClaim.holds_of_wide 4 Tryz.f4 rfl rfl rfl rfl rfl rfl rfl ⟨rfl, rfl, rfl, rfl, rfl⟩ rfl rfl rfl rfl rfl (by kernel_rfl) Tryz.func4 (by kernel_rfl)
    (of_decide_eq_true (by kernel_rfl)) (by unfold Func.isWrapper; first | (rw [if_pos (by decide +kernel)]; kernel_rfl) | (rw [if_neg (by decide +kernel)]; exact ⟨rfl, rfl⟩))
    (fun os started H enc _ => instEncodes_lifted os started H enc)
theorem instEncodes_card : Rows.InstEncodesCardSaid :=
  Claim7.holds_tied_plain_at .later [] [.data, .data, .data, .data, .data, .data, .data, .data, .data, .data, .data] true (true, "4905e99f4f83ef0a03cc8300245cbc5b55dd1850aff0dd3f66ba2fb75d829303") false
    instEncodes_over (fun _ h => by cases h) (by kernel_rfl) (fun _ h => by cases h) instEncodes_row_tie rfl ⟨rfl, rfl⟩ (by kernel_rfl) rfl
    (fun f fn hf hfn => by
      obtain rfl : f = 4 := Option.some.inj ((show Tryz.prog.funcNamed "citadel/citadellaw02.InstEncodes" = some 4 by kernel_rfl).symm.trans hf) |>.symm
      obtain rfl : fn = Tryz.f4 := (Option.some.inj (Tryz.func4.symm.trans hfn)).symm
      exact ⟨by kernel_rfl, fun j t ht => by
        rw [Tryz.params4] at ht
        have hm : t ∈ [24] := by simpa using Array.mem_of_getElem? ht
        have hall : ([24].all fun u => !Tryz.prog.wantsStandIn u) = true := by kernel_rfl
        exact (show Tryz.prog.wantsStandIn t = false by simpa using List.all_eq_true.1 hall t hm)⟩)
    (by kernel_rfl)
#print axioms instEncodes_card
end Go.Proofs.YtioodijiejipiaaGreatDoor
