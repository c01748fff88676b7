/- The document's IOMMU: where messages go, a list that grows. -/
import Derived.Test.YtmdconecigenfaaGreatMK1
import Derived.Test.YtmdconecigenfaaGreatETQ
import Derived.BigRegion
namespace Go.Proofs.YtmdconecigenfaaGreat
open Go.RowKit
open C (Only hid Mem Still ret_int ret_bool put byt nu RMem hasB)
set_option linter.unusedVariables false
set_option maxRecDepth 100000

/-- where a device's message of an index goes -/
structure MV where
  d : Int
  i : Int
  g : Int
  q : Int
def MV.cs (x : MV) : List Value := [.int .i64 x.d, .int .u64 x.i, .int .i64 x.g, .int .i64 x.q]
theorem MV.one (x : MV) : ∀ u ∈ x.cs, u.oneCell' = true := by
  intro u hu
  simp [MV.cs] at hu
  rcases hu with rfl | rfl | rfl | rfl <;> rfl
def mflat : List MV → List Value
  | [] => []
  | x :: l => x.cs ++ mflat l
theorem mflat_append (a b : List MV) : mflat (a ++ b) = mflat a ++ mflat b := by
  induction a with
  | nil => rfl
  | cons x a ih => simp [mflat, ih]
theorem mflat_one (x : MV) : mflat [x] = x.cs := by simp [mflat]
theorem mflat_get (l : List MV) (i : Nat) (x : MV) (h : l[i]? = some x) (j : Nat) (hj : j < 4) : (mflat l)[i * 4 + j]? = x.cs[j]? := by
  induction l generalizing i with
  | nil => simp at h
  | cons y l ih =>
    cases i with
    | zero =>
      simp at h
      subst h
      rw [mflat, List.getElem?_append_left (by show _ < 4; omega)]
      congr 1; omega
    | succ i =>
      rw [mflat, List.getElem?_append_right (by show 4 ≤ _; omega), ← ih i (by simpa using h)]
      congr 1
      show _ - 4 = _
      omega
theorem info_m : (Tryz.prog.info? 201).map (fun i => (i.zero, i.size, i.bytes)) = some (some (.agg #[.int .i64 0, .int .u64 0, .int .i64 0, .int .i64 0]), 4, 32) := by kernel_rfl
theorem u_sM : Tryz.prog.underlying 60 = some (.slice 201) := by kernel_rfl
/-- a list of them in memory of its own -/
def Ms (w : World) (base : Nat) (v : Value) (L : List MV) : Prop := w.ownsRow base 201 4 v L.length (mflat L)
section
variable {w w' : World} {base : Nat} {v : Value} {L : List MV}
theorem Ms.nil (w : World) (base : Nat) : Ms w base (.slice none 0 0) [] := World.ownsRow_nil w base _ _
theorem Ms.lt (h : Ms w base v L) {k : Nat} (hk : v.ownBlock = some k) : base ≤ k ∧ k < w.heap.size := World.ownsRow.lt h k hk
theorem Ms.only {S : Nat → Prop} (h : Ms w base v L) (ho : Only S w w') (hd : ∀ k, v.ownBlock = some k → ¬ S k) : Ms w' base v L :=
  ⟨h.1, h.2.imp id fun ⟨g, cap, cur, e, hb, hg, rest⟩ => ⟨g, cap, cur, e, hb, ho.old hg (hd g (by rw [e]; rfl)), rest⟩⟩
theorem Ms.below (h : Ms w base v L) (hb : Below w.heap.size w w') : Ms w' base v L := h.only (S := fun _ => False) (.ofBelow hb) (fun _ _ z => z)
theorem Ms.block (h : Ms w base v L) {k : Nat} (hk : v.ownBlock = some k) : ∃ cur, w.heap[k]? = some (.cells cur 201 (0, 0)) := by
  rcases h.2 with ⟨rfl, _⟩ | ⟨g, cap, cur, rfl, hbg, hg, _⟩
  · cases hk
  · obtain rfl : g = k := by simpa [Value.ownBlock] using hk
    exact ⟨cur, hg⟩
theorem Ms.rd (h : Ms w base v L) : ∃ ad cap, v = .slice ad L.length cap ∧ ∀ i x, L[i]? = some x → ∃ g, ad = some ⟨g, 0, none⟩ ∧ g < w.heap.size ∧ w.cell? ⟨g, i * 4, none⟩ = some (.int .i64 x.d) ∧ w.cell? ⟨g, i * 4 + 1, none⟩ = some (.int .u64 x.i) ∧ w.cell? ⟨g, i * 4 + 2, none⟩ = some (.int .i64 x.g) ∧ w.cell? ⟨g, i * 4 + 3, none⟩ = some (.int .i64 x.q) := by
  rcases h.2 with ⟨rfl, hn⟩ | ⟨g, cap, cur, rfl, hbg, hg, hnc, hcm, hcs, ht⟩
  · obtain rfl : L = [] := List.eq_nil_of_length_eq_zero hn
    exact ⟨none, 0, rfl, fun i x hx => by simp at hx⟩
  · refine ⟨_, cap, rfl, fun i x hx => ⟨g, rfl, lt_of_block hg, ?_⟩⟩
    have hi : i < L.length := (List.getElem?_eq_some_iff.1 hx).1
    have e : ∀ j, j < 4 → w.cell? ⟨g, i * 4 + j, none⟩ = x.cs[j]? := fun j hj => by
      rw [cell_of_row w g _ _ _ _ hg, ← mflat_get L i x hx j hj, ← ht, List.getElem?_take, if_pos (by omega)]
      simp
    exact ⟨e 0 (by decide), e 1 (by decide), e 2 (by decide), e 3 (by decide)⟩
end
theorem step_pushM {ops : Array Oper} {o : Oper} {a : Act} {w : World} {K : Act → World → Prop} {Q : Exit → Act → World → Prop} {EE : Prop} (hgd : o.guard = none) (s x : Operand)
    (ho : o.op = .call { callee := .builtin .append, args := #[s, x], argTypes := #[60, 60] })
    (base : Nat) (v : Value) (M : List MV) (hs : a.eval s = v) (hown : Ms w base v M) (h64 : M.length ≤ 2199023255552) (b m : Nat) (y : MV) (hx : a.eval x = .slice (some ⟨b, 0, none⟩) 1 m) (hy : ∀ j u, y.cs[j]? = some u → w.cell? ⟨b, j, none⟩ = some u) (hb : base ≤ w.heap.size)
    (h : ∀ v' w', Ms w' base v' (M ++ [y]) → w.grownBy w' v.ownBlock → K (a.put o.dst v') w') : if Region.wanted o (yielded ops a.tmps) = true then Oper.wp Tryz.prog o a w K Q else EE := by
  obtain ⟨i0, hi, hz0, hz1, hz2⟩ := info_parts info_m
  refine E.step_append_own hgd s x 60 ho base 201 i0 (.agg #[.int .i64 0, .int .u64 0, .int .i64 0, .int .i64 0]) 4 32 u_sM hi hz0 hz1 hz2 rfl (by decide) v M.length (mflat M) hs hown ⟨b, 0, none⟩ 1 m y.cs hx rfl (fun j u hj => by rw [C.addr_add, Nat.zero_add]; exact hy j u hj) y.one (by unfold maxLen; omega) (by omega) hb ?_
  intro v' w' h1 h2
  refine h v' w' ?_ h2
  unfold Ms
  rw [mflat_append, mflat_one, List.length_append]
  exact h1
theorem k_Remap_bad (w : World) (b : Nat) (d i g z : Int) (h : isDev d = false ∨ 32 ≤ i) : Calls Tryz.prog 71 #[.pointer (some ⟨b, 0, none⟩), .int .i64 d, .int .u64 i, .agg #[.int .i64 g, .int .i64 z]] w fun e w' => e = .returned (.int .i64 1) ∧ Below w.heap.size w w' := by
  cases hd : isDev d
  · clear h
    go_enter Tryz.func71, Tryz.ntmps71
    go_wp2_with ((go_at_call 95; refine (k_none _ d false hd).mono ?_; rintro e w2 ⟨rfl, hw2⟩; obtain rfl := hw2.symm))
    go_ret
    exact ⟨rfl, (Below.refl _ _).alloc (Nat.le_refl _) _⟩
  · have hi : (31 < i) = True := by have := h.resolve_left (by rw [hd]; decide); simp; omega
    clear h
    go_enter Tryz.func71, Tryz.ntmps71
    go_wp2_with ((go_at_call 95; refine (k_none _ d true hd).mono ?_; rintro e w2 ⟨rfl, hw2⟩; obtain rfl := hw2.symm))
    go_ret
    exact ⟨rfl, (Below.refl _ _).alloc (Nat.le_refl _) _⟩
theorem k_Remap (w : World) (b q r : Nat) (v : UV) (mv : Value) (h : Ru w b q r v mv) (base : Nat) (L : List MV) (hm : Ms w base mv L) (hl : L.length ≤ 2199023255552) (hbs : base ≤ w.heap.size) (d i g z : Int) (hd : isDev d = true) (i1 : i < 32) :
    Calls Tryz.prog 71 #[.pointer (some ⟨b, 0, none⟩), .int .i64 d, .int .u64 i, .agg #[.int .i64 g, .int .i64 z]] w fun e w' => e = .returned (.int .i64 0) ∧ ∃ mv', Ru w' b q r v mv' ∧ Ms w' base mv' (L ++ [⟨d, i, g, z⟩]) ∧ Only (fun k => k = b ∨ mv.ownBlock = some k) w w' := by
  have hi : (31 < i) = False := by simp; omega
  obtain ⟨ad, cap, rfl, -⟩ := hm.rd
  have HU := hid h
  have HM := hid hm
  have hlt := h.lt
  have hne : ¬ (Value.slice ad L.length cap).ownBlock = some b := fun e => by
    obtain ⟨cur, hc⟩ := hm.block e
    unfold Ru at h
    rw [h] at hc
    simp at hc
  have HN := hid hne
  clear h hm hne
  go_enter Tryz.func71, Tryz.ntmps71
  go_wp2_with ((go_at_call 95; refine (k_none _ d true hd).mono ?_; rintro e w2 ⟨rfl, hw2⟩; obtain rfl := hw2.symm))
  obtain ⟨wa, hwa⟩ : ∃ wa, w.alloc (.cells #[.int .i64 g, .int .i64 z] 50) = wa := ⟨_, rfl⟩
  have HBa : Hid (Below w.heap.size w wa) := hwa ▸ (Below.refl _ _).alloc (Nat.le_refl _) _
  have y0 : wa.cell? ⟨w.heap.size, 0, none⟩ = some (.int .i64 g) := by rw [← hwa]; simp
  have y1 : wa.cell? ⟨w.heap.size, 1, none⟩ = some (.int .i64 z) := by rw [← hwa]; simp
  have hsz : wa.heap.size = w.heap.size + 1 := by rw [← hwa]; simp
  rw [hwa]
  clear hwa
  have HUa := hid (HU.out.below HBa.out)
  have HMa := hid (HM.out.below HBa.out)
  have q1 := HUa.out.c10
  have q2 := HUa.out.z 10
  have hq2 := HUa.out.lt
  go_region_law (refine step_pushM rfl (.tmp 19) (.tmp 24) rfl base (.slice ad L.length cap) L (by go_simp) ((HMa.out.below ((Below.refl _ _).alloc (Nat.le_refl _) _)).below (Below.refl _ _).drew) hl wa.heap.size 1 ⟨d, i, g, z⟩ (by go_simp) (by
      intro j u hj
      unfold MV.cs at hj
      match j, hj with
      | 0, hj => simp at hj; subst hj; simp
      | 1, hj => simp at hj; subst hj; simp
      | 2, hj => simp at hj; subst hj; simp
      | 3, hj => simp at hj; subst hj; simp) (by simp; omega) ?_; intro v3 w3 he3 hg3; have HE3 := hid he3; have HO3 := hid (E.grown_only hg3); obtain ⟨ad3, cap3, rfl, -⟩ := he3.rd; have HP3 := hid (HO3.out.old ((Below.heap_alloc wa.drew _ _ hq2).trans HUa.out) HN.out); have v1' : w3.cell? ⟨b, 10, none⟩ = some (.slice ad L.length cap) := (by rw [cell_of_row w3 _ 10 _ _ _ HP3.out]; rfl); have v2' : w3.frozen? ⟨b, 10, none⟩ = false := frozen_of_row w3 _ 10 _ _ HP3.out; clear he3 hg3)
  all_goals
    go_wp2
    go_ret
    refine ⟨rfl, _, ?_, (HE3.out.only (only1 w3 b 10 _) (fun k hk z => ?_)), ?_⟩
    · exact Ru.set (w := w3) (v := v) (mv := .slice ad L.length cap) HP3.out 10 _ (by simp [RU])
    · obtain ⟨cur, hc⟩ := HE3.out.block hk
      subst z
      rw [HP3.out] at hc
      simp at hc
    · exact ((Only.ofBelow HBa.out).trans' (((Only.refl wa).alloc _).drew.trans (HO3.out.mono (T := fun k => k = b ∨ (Value.slice ad L.length cap).ownBlock = some k) (fun k _ z => .inr z))) (fun k hk z => z)).setCell (p := ⟨b, 10, none⟩) (.inl (.inl rfl)) _
end Go.Proofs.YtmdconecigenfaaGreat
