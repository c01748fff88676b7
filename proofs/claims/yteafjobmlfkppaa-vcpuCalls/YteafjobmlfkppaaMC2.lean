/- What the statements share: Place, SameBytes, awake. -/
import Derived.Test.YteafjobmlfkppaaMC1
import Derived.Test.YteafjobmlfkppaaRows
import Derived.OpenShut
import Derived.SizedLaws
namespace Go.Proofs.Yteafjobmlfkppaa.C
open Go.RowKit
set_option linter.unusedVariables false
set_option maxRecDepth 100000

theorem tmod_place (z n : Int) (hn : 0 < n) : (z.tmod n < 0 → z.tmod n + n = z % n) ∧ (¬ z.tmod n < 0 → z.tmod n = z % n) := by
  have h0 := Int.emod_nonneg z (by omega : n ≠ 0)
  have h1 := Int.emod_lt_of_pos z hn
  rw [Int.tmod_eq_emod]
  split
  · omega
  · have : ((n.natAbs : Nat) : Int) = n := by omega
    constructor
    · intro _; omega
    · intro q; exfalso; omega
theorem c_Place (z n : Int) (n0 : 0 < n) (n1 : n ≤ 4611686018427387904) (z0 : -9223372036854775808 ≤ z) (z1 : z ≤ 9223372036854775807) (w : World) :
    Calls Try.prog 26 #[.int .i64 z, .int .i64 n] w fun e w' => e = .returned (.int .i64 (z % n)) ∧ w' = w := by
  obtain ⟨ht, hf⟩ := tmod_place z n n0
  have HT := hid (ht)
  have HF := hid (hf)
  have hlo := Int.lt_tmod_of_pos z n0
  have hhi := Int.tmod_lt_of_pos z n0
  clear ht hf
  have hnz : n ≠ 0 := by omega
  have hnm : n ≠ -1 := by omega
  go_enter Try.func26, Try.ntmps26
  by_cases q : z.tmod n < 0
  · go_wp2
    go_ret
    exact ⟨ret_int (HT.out q), rfl⟩
  · go_wp2
    go_ret
    exact ⟨ret_int (HF.out q), rfl⟩
/-- a slice of bytes as it stands: n of them, f 0 and so on -/
def Sl (w : World) (v : Value) (n : Nat) (f : Nat → Int) : Prop := ∃ ad cap, v = .slice ad n cap ∧ n ≤ cap ∧ ∃ a : Addr, 0 < n → ad = some a ∧ a.block < w.heap.size ∧ ∀ j, j < n → w.cell? (a.add j) = some (.int .u8 (f j))
theorem Sl.still {w w' : World} {v : Value} {n : Nat} {f : Nat → Int} (h : Sl w v n f) (hs : Still w w') : Sl w' v n f := by
  obtain ⟨ad, cap, rfl, hc, a, hh⟩ := h
  exact ⟨ad, cap, rfl, hc, a, fun q => ⟨(hh q).1, by rw [hs.heap]; exact (hh q).2.1, fun j hj => by rw [hs.cell]; exact (hh q).2.2 j hj⟩⟩
theorem add_block (a : Addr) (j : Nat) : (a.add j).block = a.block := by unfold Addr.add; split <;> rfl
theorem Sl.only {w w' : World} {v : Value} {n : Nat} {f : Nat → Int} (h : Sl w v n f) {T : Nat → Prop} (ho : Only T w w') (hd : ∀ k, k < w.heap.size → (∀ ad c, v = .slice (some ad) n c → ad.block = k → ¬ T k)) : Sl w' v n f := by
  obtain ⟨ad, cap, rfl, hc, a, hh⟩ := h
  refine ⟨ad, cap, rfl, hc, a, fun q => ?_⟩
  obtain ⟨e, hl, hcell⟩ := hh q
  refine ⟨e, Nat.lt_of_lt_of_le hl ho.size, fun j hj => ?_⟩
  rw [← hcell j hj]
  exact World.cell?_of_block (w := w) (by rw [add_block]; exact ho.block _ hl (hd _ hl a cap (by rw [e]) rfl))
theorem Sl.below {w w' : World} {v : Value} {n : Nat} {f : Nat → Int} (h : Sl w v n f) (hb : Below w.heap.size w w') : Sl w' v n f := h.only (T := fun _ => False) (.ofBelow hb) fun _ _ _ _ _ _ q => q
theorem Sl.row {w : World} {b n : Nat} {f : Nat → Int} {t : TypeId} (h : w.heap[b]? = some (.cells (row f 0 n).toArray t (0, 0))) : Sl w (.slice (some ⟨b, 0, none⟩) n n) n f :=
  ⟨_, n, rfl, Nat.le_refl _, ⟨b, 0, none⟩, fun _ => ⟨rfl, lt_of_block h, fun j hj => by rw [addr_add, Nat.zero_add, row_cell h j hj, Nat.zero_add]⟩⟩
theorem c_SameBytes (w : World) (n : Nat) (hn : n ≤ 9223372036854775807) (u v : Value) (f g : Nat → Int) (hu : Sl w u n f) (hv : Sl w v n g) (hfg : ∀ j, j < n → f j = g j) :
    Calls Try.prog 24 #[u, v] w fun e w' => e = .returned (.bool true) ∧ Still w w' := by
  obtain ⟨ad, cap, rfl, hc, a, hh⟩ := hu
  obtain ⟨ad', cap', rfl, hc', a', hh'⟩ := hv
  have H1 := hid (hh)
  have H2 := hid (hh')
  have H3 := hid (hfg)
  clear hh hh' hfg
  go_enter Try.func24, Try.ntmps24
  go_wp2
  go_loopw [5] (fun i wr => ∃ k : Nat, k ≤ n ∧ i = .int .i64 k ∧ Still w wr) (fun i _ => n - (intOf i).toNat)
  case atStart => exact ⟨0, by omega, rfl, .refl w⟩
  case round =>
    obtain ⟨k, hk, rfl, hst⟩ := hrel
    by_cases hlt : k < n
    · obtain ⟨rfl, _, c1⟩ := H1.out (by omega)
      obtain ⟨rfl, _, c2⟩ := H2.out (by omega)
      have k1 : wr.cell? (a.add k) = some (.int .u8 (g k)) := by rw [hst.cell, c1 k hlt, H3.out k hlt]
      have k2 : wr.cell? (a'.add k) = some (.int .u8 (g k)) := by rw [hst.cell, c2 k hlt]
      have HS := hid (hst)
      clear c1 c2 hst
      go_wp2
      go_region
      go_wp2
      go_roundw
      case rel => exact ⟨k + 1, by omega, by go_num, HS.out.drew⟩
      case measure => simp [intOf]; omega
    · obtain rfl : k = n := by omega
      go_wp2
      go_ret
      exact ⟨rfl, hst⟩
end Go.Proofs.Yteafjobmlfkppaa.C
namespace Go.Proofs.Yteafjobmlfkppaa.C
open Go.ChangeShapes Go.WideShapes Go.ChangeAt Go.RowKit
set_option linter.unusedVariables false
set_option maxRecDepth 100000

set_option maxRecDepth 100000 in
theorem own : ownKnob Try.prog.godebug = none := by kernel_rfl
set_option maxRecDepth 100000 in
theorem laidOut_prog : laidOutB Try.prog = true := by kernel_rfl
theorem cells_u8 : Try.prog.cellsOf 5 = 1 := by kernel_rfl
theorem u_u8 : Try.prog.underlying 5 = some (.int .u8) := by kernel_rfl
set_option maxRecDepth 100000 in
/-- a list of numbers, as it stands -/
theorem open_nums {H : Type} {enc : TypeId × Value → H} {W : World} {k : IntKind} {t e : TypeId} {base : Nat} {r : Reach} {b : Nat} {v : Value} {d : DataW H} {p : List MemPlace} (ht : Try.prog.underlying t = some (.slice e)) (he : Try.prog.underlying e = some (.int k)) (hc : Try.prog.cellsOf e = 1)
    (hv : Value.okWide Try.prog W r b t v) (h : DataW.Trod enc Try.prog W base (fun _ => true) true t v d p) (hlt : ∀ x ∈ p, x.block < W.heap.size) :
    ∃ (ad : Option Addr) (la cap : Nat) (ar : Nat → Int) (aa : Addr), v = .slice ad la cap ∧ la ≤ cap ∧ cap ≤ 9223372036854775807 ∧ (∀ j, ar j = 0 ∨ (Lit.int k (ar j)).wf = true) ∧ (0 < la → ad = some aa ∧ aa.block < W.heap.size ∧ ∀ j, j < la → W.cell? (aa.add j) = some (.int k (ar j))) := by
  obtain ⟨a0, len, cap, rfl⟩ := okWide_slice ht hv
  obtain ⟨fuel, hf⟩ := h
  rcases open_ints ht he hc hf with ⟨hcs, hx⟩ | ⟨a, len', cap', zs, hcs, _, hl, hm, hz, hx, hcell, hwz⟩
  · simp [Value.cells] at hcs
    obtain ⟨rfl, rfl, rfl⟩ := hcs
    exact ⟨none, 0, 0, fun _ => 0, ⟨0, 0, none⟩, rfl, Nat.le_refl _, by decide, fun _ => .inl rfl, fun q => absurd q (by decide)⟩
  · simp [Value.cells] at hcs
    obtain ⟨rfl, rfl, rfl⟩ := hcs
    simp only [Prod.mk.injEq] at hx
    obtain ⟨rfl, rfl⟩ := hx
    simp only [if_true] at hz
    refine ⟨some a, len, cap, fun j => zs.getD j 0, a, rfl, hl, by simpa [maxLen] using hm, fun j => ?_, fun q => ⟨rfl, ?_, fun j hj => hcell j (by omega)⟩⟩
    · rcases Nat.lt_or_ge j zs.length with q | q
      · right; simp only [List.getD, List.getElem?_eq_getElem q, Option.getD_some]; exact hwz _ (List.getElem_mem _)
      · left; simp [List.getD, List.getElem?_eq_none q]
    · obtain ⟨b, off, spot⟩ := a
      have hspot : spot = none := by simpa [Addr.add] using World.cell?_spot (hcell 0 (by omega))
      subst hspot
      exact hlt (.cell b off) (MemPlace.mem_row.2 ⟨0, by omega, by simp⟩)
end Go.Proofs.Yteafjobmlfkppaa.C
