/- What the statements share: Place, SameBytes, awake. -/
import Derived.Test.YtjkihlpckgaggaaGreatMC1
import Derived.Test.YtjkihlpckgaggaaGreatRows
import Derived.OpenShut
import Derived.SizedLaws
import Derived.Laws.Cover3
import Derived.BigRegion
namespace Go.Proofs.YtjkihlpckgaggaaGreat.C
open Go.RowKit
set_option linter.unusedVariables false
set_option maxRecDepth 100000

theorem tmod_place (z n : Int) (hn : 0 < n) : (z.tmod n < 0 → z.tmod n + n = z % n) ∧ (¬ z.tmod n < 0 → z.tmod n = z % n) := by
  have h0 := Int.emod_nonneg z (by omega : n ≠ 0)
  have h1 := Int.emod_lt_of_pos z hn
  rw [Int.tmod_eq_emod]
  split
  · omega
  · have : ((n.natAbs : Nat) : Int) = n := by omega
    constructor
    · intro _; omega
    · intro q; exfalso; omega
theorem c_Place (z n : Int) (n0 : 0 < n) (n1 : n ≤ 4611686018427387904) (z0 : -9223372036854775808 ≤ z) (z1 : z ≤ 9223372036854775807) (w : World) :
    Calls Tryz.prog 12 #[.int .i64 z, .int .i64 n] w fun e w' => e = .returned (.int .i64 (z % n)) ∧ w' = w := by
  obtain ⟨ht, hf⟩ := tmod_place z n n0
  have HT := hid (ht)
  have HF := hid (hf)
  have hlo := Int.lt_tmod_of_pos z n0
  have hhi := Int.tmod_lt_of_pos z n0
  clear ht hf
  have hnz : n ≠ 0 := by omega
  have hnm : n ≠ -1 := by omega
  go_enter Tryz.func12, Tryz.ntmps12
  by_cases q : z.tmod n < 0
  · go_wp2
    go_ret
    exact ⟨ret_int (HT.out q), rfl⟩
  · go_wp2
    go_ret
    exact ⟨ret_int (HF.out q), rfl⟩
/-- a slice of bytes as it stands: n of them, f 0 and so on -/
def Sl (w : World) (v : Value) (n : Nat) (f : Nat → Int) : Prop := ∃ ad cap, v = .slice ad n cap ∧ n ≤ cap ∧ ∃ a : Addr, 0 < n → ad = some a ∧ a.block < w.heap.size ∧ ∀ j, j < n → w.cell? (a.add j) = some (.int .u8 (f j))
theorem Sl.still {w w' : World} {v : Value} {n : Nat} {f : Nat → Int} (h : Sl w v n f) (hs : Still w w') : Sl w' v n f := by
  obtain ⟨ad, cap, rfl, hc, a, hh⟩ := h
  exact ⟨ad, cap, rfl, hc, a, fun q => ⟨(hh q).1, by rw [hs.heap]; exact (hh q).2.1, fun j hj => by rw [hs.cell]; exact (hh q).2.2 j hj⟩⟩
theorem add_block (a : Addr) (j : Nat) : (a.add j).block = a.block := by unfold Addr.add; split <;> rfl
theorem Sl.only {w w' : World} {v : Value} {n : Nat} {f : Nat → Int} (h : Sl w v n f) {T : Nat → Prop} (ho : Only T w w') (hd : ∀ k, k < w.heap.size → (∀ ad c, v = .slice (some ad) n c → ad.block = k → ¬ T k)) : Sl w' v n f := by
  obtain ⟨ad, cap, rfl, hc, a, hh⟩ := h
  refine ⟨ad, cap, rfl, hc, a, fun q => ?_⟩
  obtain ⟨e, hl, hcell⟩ := hh q
  refine ⟨e, Nat.lt_of_lt_of_le hl ho.size, fun j hj => ?_⟩
  rw [← hcell j hj]
  exact World.cell?_of_block (w := w) (by rw [add_block]; exact ho.block _ hl (hd _ hl a cap (by rw [e]) rfl))
theorem Sl.below {w w' : World} {v : Value} {n : Nat} {f : Nat → Int} (h : Sl w v n f) (hb : Below w.heap.size w w') : Sl w' v n f := h.only (T := fun _ => False) (.ofBelow hb) fun _ _ _ _ _ _ q => q
theorem Sl.row {w : World} {b n : Nat} {f : Nat → Int} {t : TypeId} (h : w.heap[b]? = some (.cells (row f 0 n).toArray t (0, 0))) : Sl w (.slice (some ⟨b, 0, none⟩) n n) n f :=
  ⟨_, n, rfl, Nat.le_refl _, ⟨b, 0, none⟩, fun _ => ⟨rfl, lt_of_block h, fun j hj => by rw [addr_add, Nat.zero_add, row_cell h j hj, Nat.zero_add]⟩⟩
end Go.Proofs.YtjkihlpckgaggaaGreat.C
namespace Go.Proofs.YtjkihlpckgaggaaGreat.C
open Go.ChangeShapes Go.WideShapes Go.ChangeAt Go.RowKit
set_option linter.unusedVariables false
set_option maxRecDepth 100000

set_option maxRecDepth 100000 in
theorem own : ownKnob Tryz.prog.godebug = none := by kernel_rfl
set_option maxRecDepth 100000 in
theorem laidOut_prog : laidOutB Tryz.prog = true := by kernel_rfl
theorem cells_u8 : Tryz.prog.cellsOf 5 = 1 := by kernel_rfl
theorem u_u8 : Tryz.prog.underlying 5 = some (.int .u8) := by kernel_rfl
set_option maxRecDepth 100000 in
/-- a list of numbers, as it stands -/
theorem open_nums {H : Type} {enc : TypeId × Value → H} {W : World} {k : IntKind} {t e : TypeId} {base : Nat} {r : Reach} {b : Nat} {v : Value} {d : DataW H} {p : List MemPlace} (ht : Tryz.prog.underlying t = some (.slice e)) (he : Tryz.prog.underlying e = some (.int k)) (hc : Tryz.prog.cellsOf e = 1)
    (hv : Value.okWide Tryz.prog W r b t v) (h : DataW.Trod enc Tryz.prog W base (fun _ => true) true t v d p) (hlt : ∀ x ∈ p, x.block < W.heap.size) :
    ∃ (ad : Option Addr) (la cap : Nat) (ar : Nat → Int) (aa : Addr), v = .slice ad la cap ∧ la ≤ cap ∧ cap ≤ 9223372036854775807 ∧ (∀ j, ar j = 0 ∨ (Lit.int k (ar j)).wf = true) ∧ (0 < la → ad = some aa ∧ aa.block < W.heap.size ∧ ∀ j, j < la → W.cell? (aa.add j) = some (.int k (ar j))) := by
  obtain ⟨a0, len, cap, rfl⟩ := okWide_slice ht hv
  obtain ⟨fuel, hf⟩ := h
  rcases open_ints ht he hc hf with ⟨hcs, hx⟩ | ⟨a, len', cap', zs, hcs, _, hl, hm, hz, hx, hcell, hwz⟩
  · simp [Value.cells] at hcs
    obtain ⟨rfl, rfl, rfl⟩ := hcs
    exact ⟨none, 0, 0, fun _ => 0, ⟨0, 0, none⟩, rfl, Nat.le_refl _, by decide, fun _ => .inl rfl, fun q => absurd q (by decide)⟩
  · simp [Value.cells] at hcs
    obtain ⟨rfl, rfl, rfl⟩ := hcs
    simp only [Prod.mk.injEq] at hx
    obtain ⟨rfl, rfl⟩ := hx
    simp only [if_true] at hz
    refine ⟨some a, len, cap, fun j => zs.getD j 0, a, rfl, hl, by simpa [maxLen] using hm, fun j => ?_, fun q => ⟨rfl, ?_, fun j hj => hcell j (by omega)⟩⟩
    · rcases Nat.lt_or_ge j zs.length with q | q
      · right; simp only [List.getD, List.getElem?_eq_getElem q, Option.getD_some]; exact hwz _ (List.getElem_mem _)
      · left; simp [List.getD, List.getElem?_eq_none q]
    · obtain ⟨b, off, spot⟩ := a
      have hspot : spot = none := by simpa [Addr.add] using World.cell?_spot (hcell 0 (by omega))
      subst hspot
      exact hlt (.cell b off) (MemPlace.mem_row.2 ⟨0, by omega, by simp⟩)
end Go.Proofs.YtjkihlpckgaggaaGreat.C
namespace Go.Proofs.YtjkihlpckgaggaaGreat.C
open Go.RowKit
set_option linter.unusedVariables false
set_option maxRecDepth 100000

def fv : Option (Nat × Nat) → Value
  | none => .slice none 0 0
  | some (h, c) => .slice (some ⟨h, 0, none⟩) 4096 c
def FootQ (p g : Nat) (hs : List (Option (Nat × Nat))) (k : Nat) : Prop := k = p ∨ k = g ∨ ∃ (i : Nat) (c : Nat), hs[i]? = some (some (k, c))
structure QM (w : World) (p g : Nat) (base : Int) (hs : List (Option (Nat × Nat))) (f : Nat → Int) : Prop where
  top : w.heap[p]? = some (.cells #[.int .u64 base, .int .i64 hs.length, .slice (some ⟨g, 0, none⟩) hs.length hs.length] 162 (0, 0))
  tab : w.heap[g]? = some (.cells (hs.map fv).toArray 23 (0, 0))
  bare : ∀ i : Nat, hs[i]? = some none → ∀ j, j < 4096 → f (4096 * i + j) = 0
  full : ∀ (i h c : Nat), hs[i]? = some (some (h, c)) → 4096 ≤ c ∧ ∃ cur : Array Value, w.heap[h]? = some (.cells cur 5 (0, 0)) ∧ ∀ j, j < 4096 → cur[j]? = some (.int .u8 (f (4096 * i + j)))
  inj : ∀ (i j h c c' : Nat), hs[i]? = some (some (h, c)) → hs[j]? = some (some (h, c')) → i = j
  byt : ∀ j, 0 ≤ f j ∧ f j < 256
  base0 : 0 ≤ base
  base1 : base ≤ 4503599627370496
  len0 : 0 < hs.length
  len1 : hs.length ≤ 1024
def RMem (w : World) (T : Nat → Prop) (p : Nat) (base : Int) (n : Nat) (f : Nat → Int) : Prop := ∃ g hs, QM w p g base hs f ∧ hs.length = n ∧ ∀ k, T k ↔ FootQ p g hs k
theorem QM.lt {w : World} {p g : Nat} {base : Int} {hs : List (Option (Nat × Nat))} {f : Nat → Int} (h : QM w p g base hs f) {k : Nat} (hk : FootQ p g hs k) : k < w.heap.size := by
  rcases hk with rfl | rfl | ⟨i, c, hi⟩
  · exact lt_of_block h.top
  · exact lt_of_block h.tab
  · obtain ⟨_, cur, hg, _⟩ := h.full i k c hi
    exact lt_of_block hg
theorem QM.only {w w' : World} {p g : Nat} {base : Int} {hs : List (Option (Nat × Nat))} {f : Nat → Int} (h : QM w p g base hs f) {T : Nat → Prop} (ho : Only T w w') (hd : ∀ k, FootQ p g hs k → ¬ T k) : QM w' p g base hs f :=
  ⟨ho.old h.top (hd _ (.inl rfl)), ho.old h.tab (hd _ (.inr (.inl rfl))), h.bare, fun i k c hk => by
    obtain ⟨q, cur, hg, hc⟩ := h.full i k c hk
    exact ⟨q, cur, ho.old hg (hd _ (.inr (.inr ⟨i, c, hk⟩))), hc⟩, h.inj, h.byt, h.base0, h.base1, h.len0, h.len1⟩
theorem RMem.lt {w : World} {S : Nat → Prop} {p : Nat} {base : Int} {n : Nat} {f : Nat → Int} (h : RMem w S p base n f) {k : Nat} (hk : S k) : k < w.heap.size := by
  obtain ⟨g, hs, hr, _, hS⟩ := h
  exact hr.lt ((hS k).1 hk)
theorem RMem.only {w w' : World} {S : Nat → Prop} {p : Nat} {base : Int} {n : Nat} {f : Nat → Int} (h : RMem w S p base n f) {T : Nat → Prop} (ho : Only T w w') (hd : ∀ k, S k → ¬ T k) : RMem w' S p base n f := by
  obtain ⟨g, hs, hr, hl, hS⟩ := h
  exact ⟨g, hs, hr.only ho fun k hk => hd k ((hS k).2 hk), hl, hS⟩
theorem RMem.below {w w' : World} {S : Nat → Prop} {p : Nat} {base : Int} {n : Nat} {f : Nat → Int} (h : RMem w S p base n f) (hb : Below w.heap.size w w') : RMem w' S p base n f :=
  h.only (T := fun _ => False) (.ofBelow hb) fun _ _ q => q
theorem QM.cell0 {w : World} {p g : Nat} {base : Int} {hs : List (Option (Nat × Nat))} {f : Nat → Int} (h : QM w p g base hs f) : w.cell? ⟨p, 0, none⟩ = some (.int .u64 base) := by rw [cell_of_row w p 0 _ _ _ h.top]; rfl
theorem QM.cell1 {w : World} {p g : Nat} {base : Int} {hs : List (Option (Nat × Nat))} {f : Nat → Int} (h : QM w p g base hs f) : w.cell? ⟨p, 1, none⟩ = some (.int .i64 hs.length) := by rw [cell_of_row w p 1 _ _ _ h.top]; rfl
theorem QM.cell2 {w : World} {p g : Nat} {base : Int} {hs : List (Option (Nat × Nat))} {f : Nat → Int} (h : QM w p g base hs f) : w.cell? ⟨p, 2, none⟩ = some (.slice (some ⟨g, 0, none⟩) hs.length hs.length) := by rw [cell_of_row w p 2 _ _ _ h.top]; rfl
theorem QM.cellT {w : World} {p g : Nat} {base : Int} {hs : List (Option (Nat × Nat))} {f : Nat → Int} (h : QM w p g base hs f) (i : Nat) (x : Option (Nat × Nat)) (hi : hs[i]? = some x) : w.cell? ⟨g, i, none⟩ = some (fv x) := by rw [cell_of_row w g i _ _ _ h.tab]; simp [hi]
theorem QM.cellB {w : World} {p g : Nat} {base : Int} {hs : List (Option (Nat × Nat))} {f : Nat → Int} (h : QM w p g base hs f) (i hh c : Nat) (hi : hs[i]? = some (some (hh, c))) (j : Nat) (hj : j < 4096) : w.cell? ⟨hh, j, none⟩ = some (.int .u8 (f (4096 * i + j))) ∧ w.frozen? ⟨hh, j, none⟩ = false := by
  obtain ⟨_, cur, hg, hc⟩ := h.full i hh c hi
  exact ⟨by rw [cell_of_row w hh j _ _ _ hg]; exact hc j hj, frozen_of_row w hh j _ _ hg⟩
theorem q_right (z : Int) (w : World) : Calls Tryz.prog 60 #[.int .i64 z] w fun e w' => e = .returned (.bool (decide (z = 1 ∨ z = 2 ∨ z = 4 ∨ z = 8))) ∧ w' = w := by
  go_enter Tryz.func60, Tryz.ntmps60
  by_cases h1 : z = 1
  · subst h1; go_wp2; go_ret; exact ⟨rfl, rfl⟩
  · by_cases h2 : z = 2
    · subst h2; go_wp2; go_ret; exact ⟨rfl, rfl⟩
    · by_cases h4 : z = 4
      · subst h4; go_wp2; go_ret; exact ⟨rfl, rfl⟩
      · have e1 : decide (z = 1 ∨ z = 2 ∨ z = 4 ∨ z = 8) = decide (z = 8) := by simp [h1, h2, h4]
        rw [e1]
        go_wp2
        go_ret
        exact ⟨ret_bool (by rw [Bool.eq_iff_iff]; simp; omega), rfl⟩
theorem q_Has (w : World) (p g : Nat) (base : Int) (hs : List (Option (Nat × Nat))) (f : Nat → Int) (h : QM w p g base hs f) (addr size : Int) (a0 : 0 ≤ addr) (a1 : addr < 18446744073709551616) (s0 : -9223372036854775808 ≤ size) (s1 : size ≤ 9223372036854775807) :
    Calls Tryz.prog 61 #[.pointer (some ⟨p, 0, none⟩), .int .u64 addr, .int .i64 size] w fun e w' => e = .returned (.bool (hasB base hs.length addr size)) ∧ Still w w' := by
  have c0 := h.cell0
  have c1 := h.cell1
  have h0 := h.base0
  have h1 := h.base1
  have l0 := h.len0
  have l1 := h.len1
  go_enter Tryz.func61, Tryz.ntmps61
  by_cases q0 : size < 0
  · go_wp2
    go_ret
    exact ⟨ret_bool (by simp [hasB]; omega), .refl w⟩
  · by_cases q1 : addr < base
    · go_wp2
      go_ret
      exact ⟨ret_bool (by simp [hasB]; omega), .refl w⟩
    · by_cases q2 : addr - base ≤ (hs.length : Int) * 4096
      · by_cases q3 : size ≤ (hs.length : Int) * 4096 - (addr - base)
        · go_wp2
          go_ret
          exact ⟨ret_bool (by rw [Bool.eq_iff_iff]; simp [hasB]; omega), .refl w⟩
        · go_wp2
          go_ret
          exact ⟨ret_bool (by rw [Bool.eq_iff_iff]; simp [hasB]; omega), .refl w⟩
      · go_wp2
        go_ret
        exact ⟨ret_bool (by rw [Bool.eq_iff_iff]; simp [hasB]; omega), .refl w⟩
theorem eq_nil (w : World) (a : Option Addr) (l c : Nat) : (binOp .eql 23 (.slice a l c) (.slice none 0 0)).run Tryz.prog w = .ok (.bool a.isNone) w := by
  have h := run_equal_slice_nil (P := Tryz.prog) w 23 5 a l c u_su8
  simp [binOp, h]
theorem ne_nil (w : World) (a : Option Addr) (l c : Nat) : (binOp .neq 23 (.slice a l c) (.slice none 0 0)).run Tryz.prog w = .ok (.bool (!a.isNone)) w := run_neq_slice_nil (P := Tryz.prog) w 23 5 a l c u_su8
theorem q_get (w : World) (p g : Nat) (base : Int) (hs : List (Option (Nat × Nat))) (f : Nat → Int) (h : QM w p g base hs f) (off : Nat) (ho : off < 4096 * hs.length) (addr : Int) (ha : addr = base + off) :
    Calls Tryz.prog 189 #[.pointer (some ⟨p, 0, none⟩), .int .u64 addr] w fun e w' => e = .returned (.int .u8 (f off)) ∧ w' = w := by
  subst ha
  have c0 := h.cell0
  have c2 := h.cell2
  have h0 := h.base0
  have h1 := h.base1
  have l1 := h.len1
  obtain ⟨q, m, hm, hqm⟩ : ∃ q m : Nat, m < 4096 ∧ off = 4096 * q + m := ⟨off / 4096, off % 4096, Nat.mod_lt _ (by decide), (Nat.div_add_mod _ _).symm⟩
  subst hqm
  have hq : q < hs.length := by omega
  have e1 : (base + ((4096 * q + m : Nat) : Int) - base) = ((4096 * q + m : Nat) : Int) := by omega
  have e2 : ((4096 * q + m : Nat) : Int) / 4096 = (q : Int) := by omega
  have e3 : ((4096 * q + m : Nat) : Int) % 4096 = (m : Int) := by omega
  generalize hA : (4096 * q + m : Nat) = A at *
  obtain ⟨x, hx⟩ : ∃ x, hs[q]? = some x := ⟨_, List.getElem?_eq_getElem hq⟩
  have cT := h.cellT _ x hx
  cases x with
  | none =>
    have hz := h.bare _ hx m hm
    rw [hA] at hz
    simp only [fv] at cT
    have hnil := eq_nil
    clear h hA
    go_enter Tryz.func189, Tryz.ntmps189
    go_wp2
    go_ret
    exact ⟨ret_int hz.symm, rfl⟩
  | some hc =>
    obtain ⟨hh, c⟩ := hc
    simp only [fv] at cT
    have cB := (h.cellB _ _ _ hx m hm).1
    rw [hA] at cB
    have hnil := eq_nil
    clear h hA
    go_enter Tryz.func189, Tryz.ntmps189
    go_wp2
    go_ret
    exact ⟨rfl, rfl⟩
end Go.Proofs.YtjkihlpckgaggaaGreat.C
namespace Go.Proofs.YtjkihlpckgaggaaGreat.C
open Go.RowKit
set_option linter.unusedVariables false
set_option maxRecDepth 100000

theorem put1_byt {f : Nat → Int} (hf : ∀ j, 0 ≤ f j ∧ f j < 256) (off : Nat) (x : Int) (x0 : 0 ≤ x) (x1 : x < 256) (j : Nat) : 0 ≤ put f off 1 (fun _ => x) j ∧ put f off 1 (fun _ => x) j < 256 := by
  unfold put
  split
  · exact ⟨x0, x1⟩
  · exact hf j
theorem QM.putOld {w : World} {p g : Nat} {base : Int} {hs : List (Option (Nat × Nat))} {f : Nat → Int} (h : QM w p g base hs f) {q hh c m : Nat} (hq : hs[q]? = some (some (hh, c))) (hm : m < 4096) (x : Int) (x0 : 0 ≤ x) (x1 : x < 256) :
    QM (w.setCell ⟨hh, m, none⟩ (.int .u8 x)) p g base hs (put f (4096 * q + m) 1 fun _ => x) := by
  obtain ⟨hc, cur, hg, hcur⟩ := h.full q hh c hq
  have hph : p ≠ hh := by rintro rfl; have := h.top; rw [hg] at this; simp at this
  have hgh : g ≠ hh := by rintro rfl; have := h.tab; rw [hg] at this; simp at this
  have hold : ∀ k, k ≠ hh → (w.setCell ⟨hh, m, none⟩ (.int .u8 x)).heap[k]? = w.heap[k]? := fun k hk => Below.heap_setCell _ _ _ k hk
  refine ⟨(hold p hph).trans h.top, (hold g hgh).trans h.tab, ?_, ?_, h.inj, put1_byt h.byt _ x x0 x1, h.base0, h.base1, h.len0, h.len1⟩
  · intro i hi j hj
    have : i ≠ q := by rintro rfl; rw [hq] at hi; cases hi
    rw [put_out _ _ _ _ _ (by omega)]
    exact h.bare i hi j hj
  · intro i h' c' hi
    by_cases e : i = q
    · subst e
      obtain ⟨rfl, rfl⟩ : hh = h' ∧ c = c' := by rw [hq] at hi; simpa using hi
      refine ⟨hc, _, heap_setCell_same w hh m cur _ _ hg, fun j hj => ?_⟩
      have hl : m < cur.size := (Array.getElem?_eq_some_iff.1 (hcur m hm)).1
      by_cases e : m = j
      · subst e; rw [put_in' _ _ _ _ _ (by omega) (by omega)]; simp [hl]
      · rw [put_out _ _ _ _ _ (by omega), Array.getElem?_setIfInBounds_ne (h := e)]; exact hcur j hj
    · have e' : h' ≠ hh := by rintro rfl; exact e (h.inj i q h' c' c hi hq)
      obtain ⟨hc', cur', hg', hcur'⟩ := h.full i h' c' hi
      exact ⟨hc', cur', (hold h' e').trans hg', fun j hj => by rw [put_out _ _ _ _ _ (by omega)]; exact hcur' j hj⟩
theorem QM.putNew {w W : World} {p g : Nat} {base : Int} {hs : List (Option (Nat × Nat))} {f : Nat → Int} (h : QM w p g base hs f) {q m : Nat} (hq : hs[q]? = some none) (hm : m < 4096) (x : Int) (x0 : 0 ≤ x) (x1 : x < 256)
    (ht : W.heap[g]? = some (.cells ((hs.set q (some (w.heap.size, 4096))).map fv).toArray 23 (0, 0))) (hn : W.heap[w.heap.size]? = some (.cells ((row (fun _ => 0) 0 4096).set m (.int .u8 x)).toArray 5 (0, 0)))
    (hold : ∀ k, k < w.heap.size → k ≠ g → W.heap[k]? = w.heap[k]?) : QM W p g base (hs.set q (some (w.heap.size, 4096))) (put f (4096 * q + m) 1 fun _ => x) := by
  have hil : q < hs.length := by
    rcases Nat.lt_or_ge q hs.length with e | e
    · exact e
    · rw [List.getElem?_eq_none e] at hq; cases hq
  have hpg : p ≠ g := by rintro rfl; have := h.top; rw [h.tab] at this; simp at this
  refine ⟨?_, ht, ?_, ?_, ?_, put1_byt h.byt _ x x0 x1, h.base0, h.base1, by simpa using h.len0, by simpa using h.len1⟩
  · rw [hold p (lt_of_block h.top) hpg, List.length_set]; exact h.top
  · intro i hi j hj
    by_cases e : i = q
    · subst e; rw [List.getElem?_set_self hil] at hi; cases hi
    · rw [List.getElem?_set_ne (by omega)] at hi
      rw [put_out _ _ _ _ _ (by omega)]; exact h.bare i hi j hj
  · intro i h' c' hi
    by_cases e : i = q
    · subst e
      rw [List.getElem?_set_self hil] at hi
      obtain ⟨rfl, rfl⟩ : w.heap.size = h' ∧ 4096 = c' := by simpa using hi
      refine ⟨Nat.le_refl _, _, hn, fun j hj => ?_⟩
      rw [← List.setIfInBounds_toArray, set_row _ _ _ _ _ hm]
      have := row_get (put (fun _ => 0) (0 + m) 1 fun _ => x) 0 4096 j hj
      rw [List.getElem?_toArray, this, Nat.zero_add, Nat.zero_add]
      by_cases e : j = m
      · subst e; rw [put_in' _ _ _ _ _ (by omega) (by omega), put_in' _ _ _ _ _ (by omega) (by omega)]
      · rw [put_out (fun _ => 0) _ _ _ _ (by omega), put_out f _ _ _ _ (by omega), h.bare i hq j hj]
    · rw [List.getElem?_set_ne (by omega)] at hi
      obtain ⟨hc', cur', hg', hcur'⟩ := h.full i h' c' hi
      exact ⟨hc', cur', (hold h' (lt_of_block hg') (by rintro rfl; rw [h.tab] at hg'; simp at hg')).trans hg', fun j hj => by rw [put_out _ _ _ _ _ (by omega)]; exact hcur' j hj⟩
  · intro i j h' c c' hi hj
    by_cases e : i = q <;> by_cases e' : j = q
    · omega
    · subst e
      rw [List.getElem?_set_self hil] at hi
      rw [List.getElem?_set_ne (by omega)] at hj
      obtain ⟨_, _, hg', _⟩ := h.full j h' c' hj
      have := lt_of_block hg'
      simp at hi; omega
    · subst e'
      rw [List.getElem?_set_self hil] at hj
      rw [List.getElem?_set_ne (by omega)] at hi
      obtain ⟨_, _, hg', _⟩ := h.full i h' c hi
      have := lt_of_block hg'
      simp at hj; omega
    · rw [List.getElem?_set_ne (by omega)] at hi hj
      exact h.inj i j h' c c' hi hj
theorem run_makeB (w : World) (n : Nat) (hn : n ≤ 281474976710656) : (Instr.makeSlice 23 (.int .i64 (n : Int)) (.int .i64 (n : Int))).run Tryz.prog w = .ok (.slice (some ⟨w.heap.size, 0, none⟩) n n) (w.alloc (.cells (row (fun _ => 0) 0 n).toArray 5)) := by
  obtain ⟨i, hi1, hz, hs, hb⟩ := info_parts info_u8
  have hr := run_make (P := Tryz.prog) w 23 5 i _ u_su8 hi1 hz .i64 .i64 n n (by omega) (by omega) (by rw [hb]; omega) (by omega)
  have hcs : madeCells (Value.int .u8 0).cells ((n : Int).toNat * i.size) = (row (fun _ => 0) 0 n).toArray := by
    rw [← rowz, hs]
    apply Array.ext'
    simpa [Value.cells] using toList_madeCells_one (.int .u8 0) n
  rw [hcs] at hr
  simpa using hr
theorem run_make4 (w : World) : (Instr.makeSlice 23 (.int .i64 4096) (.int .i64 4096)).run Tryz.prog w = .ok (.slice (some ⟨w.heap.size, 0, none⟩) 4096 4096) (w.alloc (.cells (row (fun _ => 0) 0 4096).toArray 5)) := run_makeB w 4096 (by decide)
theorem QM.drew {w : World} {p g : Nat} {base : Int} {hs : List (Option (Nat × Nat))} {f : Nat → Int} (h : QM w p g base hs f) : QM w.drew p g base hs f := h.only (T := fun _ => False) (Only.refl w).drew fun _ _ q => q
theorem fv_set (hs : List (Option (Nat × Nat))) (q h c : Nat) : (hs.map fv).toArray.setIfInBounds q (fv (some (h, c))) = ((hs.set q (some (h, c))).map fv).toArray := by simp [List.map_set]
set_option maxHeartbeats 1000000 in
theorem q_put (w : World) (T : Nat → Prop) (p : Nat) (base : Int) (n : Nat) (f : Nat → Int) (h : RMem w T p base n f) (off : Nat) (ho : off < 4096 * n) (addr : Int) (ha : addr = base + off) (x : Int) (x0 : 0 ≤ x) (x1 : x < 256) :
    Calls Tryz.prog 62 #[.pointer (some ⟨p, 0, none⟩), .int .u64 addr, .int .u8 x] w fun e w' => ∃ T', e = .returned (.tuple #[]) ∧ RMem w' T' p base n (put f off 1 fun _ => x) ∧ Only T w w' ∧ ∀ k, T' k → T k ∨ w.heap.size ≤ k := by
  subst ha
  obtain ⟨g, hs, h, rfl, hT⟩ := h
  have c0 := h.cell0
  have c2 := h.cell2
  have h0 := h.base0
  have h1 := h.base1
  have l1 := h.len1
  obtain ⟨q, m, hm, hqm⟩ : ∃ q m : Nat, m < 4096 ∧ off = 4096 * q + m := ⟨off / 4096, off % 4096, Nat.mod_lt _ (by decide), (Nat.div_add_mod _ _).symm⟩
  subst hqm
  have hq : q < hs.length := by omega
  have e1 : (base + ((4096 * q + m : Nat) : Int) - base) = ((4096 * q + m : Nat) : Int) := by omega
  have e2 : ((4096 * q + m : Nat) : Int) / 4096 = (q : Int) := by omega
  have e3 : ((4096 * q + m : Nat) : Int) % 4096 = (m : Int) := by omega
  obtain ⟨y, hy⟩ : ∃ y, hs[q]? = some y := ⟨_, List.getElem?_eq_getElem hq⟩
  have cT := h.cellT _ y hy
  have fT : w.frozen? ⟨g, q, none⟩ = false := frozen_of_row w g q _ _ h.tab
  have hpg : p ≠ g := by rintro rfl; have := h.top; rw [h.tab] at this; simp at this
  have hgl := lt_of_block h.tab
  have hpl := lt_of_block h.top
  have hnil := eq_nil
  cases y with
  | some hc =>
    obtain ⟨hh, c⟩ := hc
    simp only [fv] at cT
    obtain ⟨cB, fB⟩ := h.cellB _ _ _ hy m hm
    have HP := hid (h.putOld hy hm x x0 x1)
    generalize hA : (4096 * q + m : Nat) = A at *
    clear h hA
    go_enter Tryz.func62, Tryz.ntmps62
    go_wp2
    go_end0
    exact ⟨FootQ p g hs, rfl, ⟨g, hs, HP.out, rfl, fun k => Iff.rfl⟩, (Only.refl w).setCell (p := ⟨hh, m, none⟩) (.inl ((hT _).2 (.inr (.inr ⟨q, c, hy⟩)))) _, fun k hk => .inl ((hT k).2 hk)⟩
  | none =>
    simp only [fv] at cT
    have k1 : (w.setCell ⟨g, q, none⟩ (.slice (some ⟨w.heap.size, 0, none⟩) 4096 4096)).cell? ⟨p, 2, none⟩ = some (.slice (some ⟨g, 0, none⟩) hs.length hs.length) := by
      rw [World.cell?_setCell_other _ _ _ _ (by intro e; cases e; exact hpg rfl)]; exact c2
    have k2 : (w.setCell ⟨g, q, none⟩ (.slice (some ⟨w.heap.size, 0, none⟩) 4096 4096)).cell? ⟨g, q, none⟩ = some (.slice (some ⟨w.heap.size, 0, none⟩) 4096 4096) := World.cell?_setCell_same _ _ _ cT
    have k3 : (row (fun _ => 0) 0 4096).toArray[m]? = some (.int .u8 0) := by have := row_get (fun _ => 0) 0 4096 m hm; simpa using this
    have hmk := run_make4
    generalize hA : (4096 * q + m : Nat) = A at *
    have HH := hid h
    have HA := hid hA
    clear h hA
    go_enter Tryz.func62, Tryz.ntmps62
    go_wp2
    go_region
    go_wp2
    go_end0
    have hsz : (w.setCell ⟨g, q, none⟩ (.slice (some ⟨w.heap.size, 0, none⟩) 4096 4096)).heap.size = w.heap.size := by simp [World.setCell]
    have ht : ∀ o, ((w.setCell ⟨g, q, none⟩ (.slice (some ⟨w.heap.size, 0, none⟩) 4096 4096)).alloc o).heap[g]? = some (.cells ((hs.set q (some (w.heap.size, 4096))).map fv).toArray 23 (0, 0)) := fun o => by
      rw [Below.heap_alloc _ _ _ (by rw [hsz]; exact hgl), heap_setCell_same _ _ q _ _ _ HH.out.tab, ← fv_set]
      rfl
    have hn : ∀ o, ((w.setCell ⟨g, q, none⟩ (.slice (some ⟨w.heap.size, 0, none⟩) 4096 4096)).alloc o).heap[w.heap.size]? = some o := fun o => by
      have := heap_alloc_new (w.setCell ⟨g, q, none⟩ (.slice (some ⟨w.heap.size, 0, none⟩) 4096 4096)) o
      rwa [hsz] at this
    have hold : ∀ o k, k < w.heap.size → k ≠ g → ((w.setCell ⟨g, q, none⟩ (.slice (some ⟨w.heap.size, 0, none⟩) 4096 4096)).alloc o).heap[k]? = w.heap[k]? := fun o k hk hne => (Below.heap_alloc _ _ k (by rw [hsz]; exact hk)).trans (Below.heap_setCell _ _ _ k hne)
    have HQ := QM.putNew HH.out hy hm x x0 x1 (ht (.cells ((row (fun _ => 0) 0 4096).set m (.int .u8 x)).toArray 5)) (hn _) (hold _)
    rw [HA.out] at HQ
    refine ⟨FootQ p g (hs.set q (some (w.heap.size, 4096))), rfl, ⟨g, hs.set q (some (w.heap.size, 4096)), HQ.drew, List.length_set, fun k => Iff.rfl⟩, (((Only.refl w).setCell (p := ⟨g, q, none⟩) (.inl ((hT _).2 (.inr (.inl rfl)))) _).alloc _).drew, ?_⟩
    rintro k (rfl | rfl | ⟨j, c, hj⟩)
    · exact .inl ((hT _).2 (.inl rfl))
    · exact .inl ((hT _).2 (.inr (.inl rfl)))
    · by_cases e : j = q
      · subst e; rw [List.getElem?_set_self hq] at hj; simp at hj; exact .inr (by omega)
      · rw [List.getElem?_set_ne (by omega)] at hj; exact .inl ((hT _).2 (.inr (.inr ⟨j, c, hj⟩)))
end Go.Proofs.YtjkihlpckgaggaaGreat.C
namespace Go.Proofs.YtjkihlpckgaggaaGreat.C
open Go.RowKit
set_option linter.unusedVariables false
set_option maxRecDepth 100000

/-- what stands in the list behind k rounds -/
def fillB (ar : Nat → Int) (la k : Nat) : Nat → Int := put (fun _ => 0) 0 k (fun j => ar (j % la))
theorem fillB_step (ar : Nat → Int) (la k : Nat) (hk : k < 8192) : (row (fillB ar la k) 0 8192).toArray.setIfInBounds k (.int .u8 (ar (k % la))) = (row (fillB ar la (k + 1)) 0 8192).toArray := by
  rw [set_row _ _ _ _ _ hk, Nat.zero_add]
  have := put_more (fun _ => 0) 0 k 1 (fun j => ar (j % la))
  have e : row (put (fillB ar la k) k 1 fun _ => ar (k % la)) 0 8192 = row (fillB ar la (k + 1)) 0 8192 := by
    unfold fillB
    rw [← this]
    apply row_congr
    intro j hj
    simp only [Nat.zero_add]
    by_cases q : j = k
    · subst q; rw [put_in' _ _ _ _ _ (by omega) (by omega), put_in' _ _ _ _ _ (by omega) (by omega)]; simp
    · rw [put_out _ _ _ _ _ (by omega), put_out _ _ 1 _ _ (by omega)]
  rw [e]
theorem fillB_b (ar : Nat → Int) (har : ∀ j, 0 ≤ ar j ∧ ar j < 256) (la k j : Nat) : 0 ≤ fillB ar la k j ∧ fillB ar la k j < 256 := by
  unfold fillB put
  split
  · exact har _
  · exact ⟨Int.le_refl _, show (0 : Int) < 256 by decide⟩
theorem put_step (A B : Nat → Int) (a k : Nat) (x : Int) (hx : x = B k) : put (put A a k B) (a + k) 1 (fun _ => x) = put A a (k + 1) B := by
  rw [← put_more A a k 1 B]
  funext j
  by_cases q : j = a + k
  · subst q; rw [put_in' _ _ _ _ _ (by omega) (by omega), put_in' _ _ _ _ _ (by omega) (by omega), hx]; simp
  · rw [put_out _ _ _ _ _ (by omega), put_out _ _ 1 _ _ (by omega)]
theorem put_step0 (A B : Nat → Int) (a : Nat) (x : Int) (hx : x = B 0) : put (put A a 0 B) a 1 (fun _ => x) = put A a (0 + 1) B := put_step A B a 0 x hx
theorem nu_byt (v : Int) (v0 : 0 ≤ v) : ∀ k, nu (byt v) k = v % 256 ^ k
  | 0 => by simp [nu]
  | k + 1 => by
    show nu (byt v) k + byt v k * 256 ^ k = _
    rw [nu_byt v v0 k]
    obtain ⟨m, rfl⟩ := Int.eq_ofNat_of_zero_le v0
    have e : ∀ i : Nat, (256 : Int) ^ i = ((256 ^ i : Nat) : Int) := fun i => (Int.natCast_pow 256 i).symm
    unfold byt
    rw [e k, e (k + 1)]
    have := Nat.mod_mul (x := m) (a := 256 ^ k) (b := 256)
    rw [Nat.pow_succ]
    have h1 : ((m : Int) % ((256 ^ k : Nat) : Int)) = ((m % 256 ^ k : Nat) : Int) := (Int.natCast_emod m (256 ^ k)).symm
    have h2 : ((m : Int) / ((256 ^ k : Nat) : Int)) = ((m / 256 ^ k : Nat) : Int) := (Int.natCast_ediv m (256 ^ k)).symm
    have h3 : ((m : Int) % ((256 ^ k * 256 : Nat) : Int)) = ((m % (256 ^ k * 256) : Nat) : Int) := (Int.natCast_emod m _).symm
    have h4 : ((m / 256 ^ k : Nat) : Int) % 256 = ((m / 256 ^ k % 256 : Nat) : Int) := (Int.natCast_emod _ 256).symm
    rw [h1, h2, h3, h4, ← Int.natCast_mul, ← Int.natCast_add, this, Nat.mul_comm (256 ^ k)]
theorem same_at (A B : Nat → Int) (a n j : Nat) (hj : j < 8192) : (fun i => put (put (fun _ => 0) 0 8192 A) a n B (0 + i)) j = put A a n B j := by
  simp only [Nat.zero_add]
  unfold put
  split
  · rfl
  · rw [if_pos (by omega)]; rfl
end Go.Proofs.YtjkihlpckgaggaaGreat.C
namespace Go.Proofs.YtjkihlpckgaggaaGreat.C
open Go.RowKit
set_option linter.unusedVariables false
set_option maxRecDepth 100000

theorem q_HasM (w : World) (S : Nat → Prop) (p : Nat) (base : Int) (n : Nat) (f : Nat → Int) (h : RMem w S p base n f) (addr size : Int) (a0 : 0 ≤ addr) (a1 : addr < 18446744073709551616) (s0 : -9223372036854775808 ≤ size) (s1 : size ≤ 9223372036854775807) :
    Calls Tryz.prog 61 #[.pointer (some ⟨p, 0, none⟩), .int .u64 addr, .int .i64 size] w fun e w' => e = .returned (.bool (hasB base n addr size)) ∧ Still w w' := by
  obtain ⟨g, hs, hr, rfl, hS⟩ := h
  exact q_Has w p g base hs f hr addr size a0 a1 s0 s1
theorem q_getM (w : World) (S : Nat → Prop) (p : Nat) (base : Int) (n : Nat) (f : Nat → Int) (h : RMem w S p base n f) (off : Nat) (ho : off < 4096 * n) (addr : Int) (ha : addr = base + off) :
    Calls Tryz.prog 189 #[.pointer (some ⟨p, 0, none⟩), .int .u64 addr] w fun e w' => e = .returned (.int .u8 (f off)) ∧ w' = w := by
  obtain ⟨g, hs, hr, rfl, hS⟩ := h
  exact q_get w p g base hs f hr off ho addr ha
theorem RMem.nums {w : World} {S : Nat → Prop} {p : Nat} {base : Int} {n : Nat} {f : Nat → Int} (h : RMem w S p base n f) : 0 ≤ base ∧ base ≤ 4503599627370496 ∧ 0 < n ∧ n ≤ 1024 := by
  obtain ⟨g, hs, hr, rfl, _⟩ := h
  exact ⟨hr.base0, hr.base1, hr.len0, hr.len1⟩
theorem RMem.byt {w : World} {S : Nat → Prop} {p : Nat} {base : Int} {n : Nat} {f : Nat → Int} (h : RMem w S p base n f) (j : Nat) : 0 ≤ f j ∧ f j < 256 := by
  obtain ⟨g, hs, hr, _, _⟩ := h
  exact hr.byt j
theorem nu_shift (b : Nat → Int) : ∀ m, nu b (m + 1) = b 0 + 256 * nu (fun j => b (1 + j)) m
  | 0 => by simp [nu]
  | m + 1 => by
    have ih := nu_shift b m
    show nu b (m + 1) + b (m + 1) * 256 ^ (m + 1) = b 0 + 256 * (nu (fun j => b (1 + j)) m + b (1 + m) * 256 ^ m)
    rw [ih, Int.pow_succ, Nat.add_comm 1 m, Int.mul_add, ← Int.add_assoc]
    congr 1
    ac_rfl
theorem nu_small (b : Nat → Int) (hb : ∀ j, 0 ≤ b j ∧ b j < 256) (k : Nat) (hk : k ≤ 7) : 0 ≤ nu b k ∧ nu b k < 72057594037927936 := by
  have h := nu_lt b hb k
  have : (256 : Int) ^ k ≤ 72057594037927936 := by
    rcases (show k = 0 ∨ k = 1 ∨ k = 2 ∨ k = 3 ∨ k = 4 ∨ k = 5 ∨ k = 6 ∨ k = 7 by omega) with rfl | rfl | rfl | rfl | rfl | rfl | rfl | rfl <;> decide
  omega
set_option maxHeartbeats 1000000 in
theorem q_Read (w : World) (S : Nat → Prop) (p : Nat) (base : Int) (n : Nat) (f : Nat → Int) (h : RMem w S p base n f) (off size : Nat) (hl : off + size ≤ 4096 * n) (hw : size = 1 ∨ size = 2 ∨ size = 4 ∨ size = 8) (addr : Int) (ha : addr = base + off) :
    Calls Tryz.prog 182 #[.pointer (some ⟨p, 0, none⟩), .int .u64 addr, .int .i64 size] w fun e w' => e = .returned (.tuple #[.int .u64 (nu (fun j => f (off + j)) size), .bool true]) ∧ Still w w' := by
  subst ha
  obtain ⟨b0, b1, l0, l1⟩ := h.nums
  have hh := hasB_of (base := base) hl
  have hwd : decide ((size : Int) = 1 ∨ (size : Int) = 2 ∨ (size : Int) = 4 ∨ (size : Int) = 8) = true := by simp; omega
  have hs8 : 0 < size ∧ size ≤ 8 := by omega
  have HR := hid h
  clear hw h
  go_enter Tryz.func182, Tryz.ntmps182
  go_wp2_with (first
    | (go_at_call 60; refine (q_right _ w).mono ?_; rintro e w1 ⟨rfl, hw1⟩; obtain rfl := hw1.symm; rw [hwd])
    | (go_at_call 61; refine (q_HasM w S p base n f HR.out _ _ (by omega) (by omega) (by omega) (by omega)).mono ?_; rintro e w1 ⟨rfl, hst⟩; rw [hh]; have HST := hid hst; clear hst))
  go_loop [8, 9] (fun v i => ∃ m : Nat, m ≤ size ∧ i = .int .i64 ((m : Int) - 1) ∧ v = .int .u64 (nu (fun j => f (off + m + j)) (size - m))) (fun _ i => (intOf i + 1).toNat)
  case atStart => exact ⟨size, Nat.le_refl _, rfl, by rw [Nat.sub_self]; rfl⟩
  case round =>
    obtain ⟨m, hm, rfl, rfl⟩ := hrel
    by_cases hlt : 0 < m
    · obtain ⟨k, rfl⟩ : ∃ k, m = k + 1 := ⟨m - 1, by omega⟩
      have e0 : ((k + 1 : Nat) : Int) - 1 = (k : Int) := by omega
      obtain ⟨V, hV⟩ : ∃ V, nu (fun j => f (off + (k + 1) + j)) (size - (k + 1)) = V := ⟨_, rfl⟩
      have hVb := nu_small (fun j => f (off + (k + 1) + j)) (fun j => HR.out.byt _) (size - (k + 1)) (by omega)
      rw [hV] at hVb
      have HV := hid hV
      have hx := HR.out.byt (off + k)
      obtain ⟨X, hX⟩ : ∃ X, f (off + k) = X := ⟨_, rfl⟩
      rw [hX] at hx
      have HX := hid hX
      have HN : Hid (V * 256 + X = nu (fun j => f (off + k + j)) (size - k)) := by
        show _ = _
        have e1 : size - k = (size - (k + 1)) + 1 := by omega
        have e3 : (fun j => f (off + (k + 1) + j)) = fun j => f (off + k + (1 + j)) := by funext j; congr 1; omega
        rw [e3] at hV
        rw [e1, nu_shift]
        show _ = f (off + k) + 256 * nu (fun j => f (off + k + (1 + j))) (size - (k + 1))
        rw [hV, hX]; omega
      rw [hV, e0]
      clear hV hX
      go_wp2_with (first
        | (go_at_call 189; refine (q_getM w1 S p base n f (HR.out.below (HST.out.below _)) (off + k) (by omega) _ (by omega)).mono ?_; rintro e w2 ⟨rfl, hw2⟩; obtain rfl := hw2.symm; rw [HX.out]))
      go_round
      case rel => exact ⟨k, by omega, by go_num, congrArg (Value.int .u64) HN.out⟩
      case measure => simp [intOf]
    · obtain rfl : m = 0 := by omega
      go_wp2
      go_ret2
      exact ⟨by simp, HST.out⟩
theorem div_pow (v : Int) (k : Nat) : v / 256 ^ k / 256 = v / 256 ^ (k + 1) := by rw [Int.pow_succ, Int.ediv_ediv_of_nonneg (Int.pow_nonneg (by decide))]
theorem div_b (v : Int) (v0 : 0 ≤ v) (v1 : v < 18446744073709551616) (k : Nat) : 0 ≤ v / 256 ^ k ∧ v / 256 ^ k < 18446744073709551616 := by
  have hp : (0 : Int) < 256 ^ k := Int.pow_pos (by decide)
  exact ⟨Int.ediv_nonneg v0 (by omega), Int.lt_of_le_of_lt (Int.ediv_le_self _ v0) v1⟩
set_option maxHeartbeats 1000000 in
theorem q_Write (w : World) (S : Nat → Prop) (p : Nat) (base : Int) (n : Nat) (f : Nat → Int) (h : RMem w S p base n f) (off size : Nat) (hl : off + size ≤ 4096 * n) (hw : size = 1 ∨ size = 2 ∨ size = 4 ∨ size = 8) (addr : Int) (ha : addr = base + off) (v : Int) (v0 : 0 ≤ v) (v1 : v < 18446744073709551616) :
    Calls Tryz.prog 46 #[.pointer (some ⟨p, 0, none⟩), .int .u64 addr, .int .i64 size, .int .u64 v] w fun e w' => ∃ S', e = .returned (.bool true) ∧ RMem w' S' p base n (put f off size (byt v)) ∧ Only S w w' ∧ ∀ k, S' k → S k ∨ w.heap.size ≤ k := by
  subst ha
  obtain ⟨b0, b1, l0, l1⟩ := h.nums
  have hh := hasB_of (base := base) hl
  have hwd : decide ((size : Int) = 1 ∨ (size : Int) = 2 ∨ (size : Int) = 4 ∨ (size : Int) = 8) = true := by simp; omega
  have hs8 : 0 < size ∧ size ≤ 8 := by omega
  have HR := hid h
  clear hw h
  go_enter Tryz.func46, Tryz.ntmps46
  go_wp2_with (first
    | (go_at_call 60; refine (q_right _ w).mono ?_; rintro e w1 ⟨rfl, hw1⟩; obtain rfl := hw1.symm; rw [hwd])
    | (go_at_call 61; refine (q_HasM w S p base n f HR.out _ _ (by omega) (by omega) (by omega) (by omega)).mono ?_; rintro e w1 ⟨rfl, hst⟩; rw [hh]; have HST := hid hst; clear hst))
  go_loopw [3, 9] (fun x i wr => ∃ (k : Nat) (S' : Nat → Prop), k ≤ size ∧ i = .int .i64 k ∧ x = .int .u64 (v / 256 ^ k) ∧ RMem wr S' p base n (put f off k (byt v)) ∧ Only S w wr ∧ ∀ k, S' k → S k ∨ w.heap.size ≤ k) (fun _ i _ => size - (intOf i).toNat)
  case atStart => exact ⟨0, S, by omega, rfl, by simp, by rw [put_zero]; exact HR.out.below (HST.out.below _), HST.out.only, fun k q => .inl q⟩
  case round =>
    obtain ⟨k, S', hk, rfl, rfl, hr, ho, hS⟩ := hrel
    have HR2 := hid hr
    have HO := hid ho
    have HS := hid hS
    clear hr ho hS
    obtain ⟨V, hV⟩ : ∃ V, v / 256 ^ k = V := ⟨_, rfl⟩
    have hVb := div_b v v0 v1 k
    have HVn : Hid (v / 256 ^ (k + 1) = V / 256) := by show _ = _; rw [← hV, div_pow]
    have HVb : Hid (V % 256 = byt v k) := by show _ = _; rw [← hV]; rfl
    rw [hV] at hVb ⊢
    clear hV
    by_cases hlt : k < size
    · go_wp2_with (first
        | (go_at_call 62; refine (q_put wr S' p base n _ HR2.out (off + k) (by omega) _ (by omega) (V % 256) (by omega) (by omega)).mono ?_; rintro e w2 ⟨S2, rfl, hm, ho, hS2⟩; rw [put_step _ _ _ _ _ HVb.out] at hm; have HM2 := hid hm; have HO2 := hid ho; have HS2 := hid hS2; clear hm ho hS2))
      go_roundw
      case rel => exact ⟨k + 1, S2, by omega, by go_num, by rw [HVn.out], HM2.out, HO.out.trans' HO2.out (fun i hi q => by
          rcases HS.out i q with q | q
          · exact q
          · omega), fun i q => by
          rcases HS2.out i q with q | q
          · exact HS.out i q
          · exact .inr (Nat.le_trans HO.out.size q)⟩
      case measure => simp [intOf]; omega
    · obtain rfl : k = size := by omega
      go_wp2
      go_ret
      exact ⟨S', rfl, HR2.out, HO.out, HS.out⟩
end Go.Proofs.YtjkihlpckgaggaaGreat.C
namespace Go.Proofs.YtjkihlpckgaggaaGreat.C
open Go.RowKit
set_option linter.unusedVariables false
set_option maxRecDepth 100000

theorem c_Read_bad (w : World) (S : Nat → Prop) (p : Nat) (base : Int) (n : Nat) (f : Nat → Int) (h : Mem w S p base n f) (addr size : Int) (a0 : 0 ≤ addr) (a1 : addr < 18446744073709551616) (s0 : -9223372036854775808 ≤ size) (s1 : size ≤ 9223372036854775807) (hb : hasB base n addr size = false) :
    Calls Tryz.prog 192 #[.pointer (some ⟨p, 0, none⟩), .int .u64 addr, .int .i64 size] w fun e w' => e = .returned (.tuple #[.int .u64 0, .bool false]) ∧ Still w w' := by
  obtain ⟨g, hs, hr, rfl, hS⟩ := h
  go_enter Tryz.func192, Tryz.ntmps192
  cases hwd : decide (size = 1 ∨ size = 2 ∨ size = 4 ∨ size = 8) with
  | false =>
    go_wp2_with (first
      | (go_at_call 56; refine (c_isWidth _ w).mono ?_; rintro e w1 ⟨rfl, hw1⟩; obtain rfl := hw1.symm; rw [hwd]))
    go_ret2
    exact ⟨rfl, .refl w⟩
  | true =>
    go_wp2_with (first
      | (go_at_call 56; refine (c_isWidth _ w).mono ?_; rintro e w1 ⟨rfl, hw1⟩; obtain rfl := hw1.symm; rw [hwd])
      | (go_at_call 57; refine (c_Has w p g base hs f hr _ _ a0 a1 s0 s1).mono ?_; rintro e w1 ⟨rfl, hst⟩; rw [hb]))
    go_ret2
    exact ⟨rfl, hst⟩
theorem c_Write_bad (w : World) (S : Nat → Prop) (p : Nat) (base : Int) (n : Nat) (f : Nat → Int) (h : Mem w S p base n f) (addr size v : Int) (a0 : 0 ≤ addr) (a1 : addr < 18446744073709551616) (s0 : -9223372036854775808 ≤ size) (s1 : size ≤ 9223372036854775807) (hb : hasB base n addr size = false) :
    Calls Tryz.prog 45 #[.pointer (some ⟨p, 0, none⟩), .int .u64 addr, .int .i64 size, .int .u64 v] w fun e w' => e = .returned (.bool false) ∧ Still w w' := by
  obtain ⟨g, hs, hr, rfl, hS⟩ := h
  go_enter Tryz.func45, Tryz.ntmps45
  cases hwd : decide (size = 1 ∨ size = 2 ∨ size = 4 ∨ size = 8) with
  | false =>
    go_wp2_with (first
      | (go_at_call 56; refine (c_isWidth _ w).mono ?_; rintro e w1 ⟨rfl, hw1⟩; obtain rfl := hw1.symm; rw [hwd]))
    go_ret
    exact ⟨rfl, .refl w⟩
  | true =>
    go_wp2_with (first
      | (go_at_call 56; refine (c_isWidth _ w).mono ?_; rintro e w1 ⟨rfl, hw1⟩; obtain rfl := hw1.symm; rw [hwd])
      | (go_at_call 57; refine (c_Has w p g base hs f hr _ _ a0 a1 s0 s1).mono ?_; rintro e w1 ⟨rfl, hst⟩; rw [hb]))
    go_ret
    exact ⟨rfl, hst⟩
theorem c_HasM (w : World) (S : Nat → Prop) (p : Nat) (base : Int) (n : Nat) (f : Nat → Int) (h : Mem w S p base n f) (addr size : Int) (a0 : 0 ≤ addr) (a1 : addr < 18446744073709551616) (s0 : -9223372036854775808 ≤ size) (s1 : size ≤ 9223372036854775807) (r : Bool) (hb : hasB base n addr size = r) :
    Calls Tryz.prog 57 #[.pointer (some ⟨p, 0, none⟩), .int .u64 addr, .int .i64 size] w fun e w' => e = .returned (.bool r) ∧ Still w w' := by
  obtain ⟨g, hs, hr, rfl, hS⟩ := h
  rw [← hb]
  exact c_Has w p g base hs f hr addr size a0 a1 s0 s1
end Go.Proofs.YtjkihlpckgaggaaGreat.C
namespace Go.Proofs.YtjkihlpckgaggaaGreat.C
open Go.RowKit
set_option linter.unusedVariables false
set_option maxRecDepth 100000

theorem u_ssu8 : Tryz.prog.underlying 160 = some (.slice 23) := by kernel_rfl
theorem info_su8 : (Tryz.prog.info? 23).map (fun i => (i.zero, i.size, i.bytes)) = some (some (.slice none 0 0), 1, 24) := by kernel_rfl
theorem map_fv (n : Nat) : (List.replicate n (Value.slice none 0 0)).toArray = ((List.replicate n (none : Option (Nat × Nat))).map fv).toArray := by simp [fv]
theorem q_New (w : World) (base : Int) (n : Nat) (b0 : 0 ≤ base) (b1 : base ≤ 4503599627370496) (bm : base % 4096 = 0) (n0 : 0 < n) (n1 : n ≤ 1024) :
    Calls Tryz.prog 29 #[.int .u64 base, .int .i64 n] w fun e w' => ∃ p S, e = .returned (.tuple #[.pointer (some ⟨p, 0, none⟩), .int .i64 0]) ∧ RMem w' S p base n (fun _ => 0) ∧ Below w.heap.size w w' ∧ ∀ k, S k → w.heap.size ≤ k := by
  go_enter Tryz.func29, Tryz.ntmps29
  go_wp2_with (at_make; refine wpList_makes _ rfl _ _ 160 rfl 23 _ 24 u_ssu8 info_su8 rfl n rfl rfl (by omega) (by omega) _ (map_fv n) ?_)
  go_ret2
  refine ⟨w.heap.size + 1, FootQ (w.heap.size + 1) w.heap.size (List.replicate n none), by simp, ⟨w.heap.size, List.replicate n none, ⟨?_, ?_, fun i _ j _ => rfl, fun i h c hi => ?_, fun i j h c c' hi _ => ?_, fun j => by simp, b0, b1, by simpa using n0, by simpa using n1⟩, by simp, fun k => Iff.rfl⟩, ?_, ?_⟩
  · rw [heap_alloc2_new]; simp
  · rw [heap_alloc2_old]; simp
  · rw [List.getElem?_replicate] at hi; split at hi <;> simp at hi
  · rw [List.getElem?_replicate] at hi; split at hi <;> simp at hi
  · exact ((Below.refl _ _).alloc (Nat.le_refl _) _).alloc (by simp) _
  · rintro k (rfl | rfl | ⟨i, c, hi⟩)
    · omega
    · omega
    · rw [List.getElem?_replicate] at hi; split at hi <;> simp at hi
/-- a base and a number of frames that are a memory's -/
def newB (base n : Int) : Bool := decide (1 ≤ n ∧ n ≤ 1024 ∧ base % 4096 = 0 ∧ base ≤ 4503599627370496)
theorem c_New_bad (w : World) (base n : Int) (b0 : 0 ≤ base) (hb : newB base n = false) :
    Calls Tryz.prog 28 #[.int .u64 base, .int .i64 n] w fun e w' => e = .returned (.tuple #[.pointer none, .int .i64 1]) ∧ w' = w := by
  have hb' : ¬ (1 ≤ n ∧ n ≤ 1024 ∧ base % 4096 = 0 ∧ base ≤ 4503599627370496) := of_decide_eq_false hb
  clear hb
  go_enter Tryz.func28, Tryz.ntmps28
  by_cases q1 : n < 1
  · go_wp2
    go_ret2
    exact ⟨rfl, rfl⟩
  · by_cases q2 : 1024 < n
    · go_wp2
      go_ret2
      exact ⟨rfl, rfl⟩
    · by_cases q3 : base % 4096 = 0
      · have q4 : 4503599627370496 < base := by omega
        go_wp2
        go_ret2
        exact ⟨rfl, rfl⟩
      · go_wp2
        go_ret2
        exact ⟨rfl, rfl⟩
theorem q_New_bad (w : World) (base n : Int) (b0 : 0 ≤ base) (hb : newB base n = false) :
    Calls Tryz.prog 29 #[.int .u64 base, .int .i64 n] w fun e w' => e = .returned (.tuple #[.pointer none, .int .i64 1]) ∧ w' = w := by
  have hb' : ¬ (1 ≤ n ∧ n ≤ 1024 ∧ base % 4096 = 0 ∧ base ≤ 4503599627370496) := of_decide_eq_false hb
  clear hb
  go_enter Tryz.func29, Tryz.ntmps29
  by_cases q1 : n < 1
  · go_wp2
    go_ret2
    exact ⟨rfl, rfl⟩
  · by_cases q2 : 1024 < n
    · go_wp2
      go_ret2
      exact ⟨rfl, rfl⟩
    · by_cases q3 : base % 4096 = 0
      · have q4 : 4503599627370496 < base := by omega
        go_wp2
        go_ret2
        exact ⟨rfl, rfl⟩
      · go_wp2
        go_ret2
        exact ⟨rfl, rfl⟩
theorem QM.clear {w : World} {p g : Nat} {base : Int} {hs : List (Option (Nat × Nat))} {f : Nat → Int} (h : QM w p g base hs f) (i : Nat) (hil : i < hs.length) :
    QM (w.setCell ⟨g, i, none⟩ (.slice none 0 0)) p g base (hs.set i none) (put f (4096 * i) 4096 fun _ => 0) := by
  have hpg : p ≠ g := by rintro rfl; have := h.top; rw [h.tab] at this; simp at this
  have hold : ∀ k, k ≠ g → (w.setCell ⟨g, i, none⟩ (.slice none 0 0)).heap[k]? = w.heap[k]? := fun k hkg => Below.heap_setCell _ _ _ k hkg
  refine ⟨?_, ?_, ?_, ?_, ?_, ?_, h.base0, h.base1, by simpa using h.len0, by simpa using h.len1⟩
  · rw [hold p hpg, List.length_set]; exact h.top
  · rw [heap_setCell_same _ g i _ _ _ h.tab]
    congr 2
    simp [List.map_set, fv]
  · intro j hj k hk
    by_cases e : j = i
    · subst e; rw [put_in _ _ _ _ _ hk]
    · rw [List.getElem?_set_ne (by omega)] at hj; rw [put_out _ _ _ _ _ (by omega)]; exact h.bare j hj k hk
  · intro j hh c hj
    by_cases e : j = i
    · subst e; rw [List.getElem?_set_self hil] at hj; cases hj
    · rw [List.getElem?_set_ne (by omega)] at hj
      obtain ⟨hc, cur, hg, hcur⟩ := h.full j hh c hj
      exact ⟨hc, cur, (hold hh (by rintro rfl; rw [h.tab] at hg; simp at hg)).trans hg, fun k hk => by rw [put_out _ _ _ _ _ (by omega)]; exact hcur k hk⟩
  · intro j k hh c c' hj hk
    by_cases e : j = i
    · subst e; rw [List.getElem?_set_self hil] at hj; cases hj
    · by_cases e' : k = i
      · subst e'; rw [List.getElem?_set_self hil] at hk; cases hk
      · rw [List.getElem?_set_ne (by omega)] at hj hk
        exact h.inj j k hh c c' hj hk
  · intro j
    unfold put
    split
    · exact ⟨Int.le_refl _, show (0 : Int) < 256 by decide⟩
    · exact h.byt j
theorem q_Read_bad (w : World) (S : Nat → Prop) (p : Nat) (base : Int) (n : Nat) (f : Nat → Int) (h : RMem w S p base n f) (addr size : Int) (a0 : 0 ≤ addr) (a1 : addr < 18446744073709551616) (s0 : -9223372036854775808 ≤ size) (s1 : size ≤ 9223372036854775807) (hb : (wid size && hasB base n addr size) = false) :
    Calls Tryz.prog 182 #[.pointer (some ⟨p, 0, none⟩), .int .u64 addr, .int .i64 size] w fun e w' => e = .returned (.tuple #[.int .u64 0, .bool false]) ∧ Still w w' := by
  go_enter Tryz.func182, Tryz.ntmps182
  cases hwd : decide (size = 1 ∨ size = 2 ∨ size = 4 ∨ size = 8) with
  | false =>
    clear hb
    go_wp2_with (first
      | (go_at_call 60; refine (q_right _ w).mono ?_; rintro e w1 ⟨rfl, hw1⟩; obtain rfl := hw1.symm; rw [hwd]))
    go_ret2
    exact ⟨rfl, .refl w⟩
  | true =>
    have hb2 : hasB base n addr size = false := by
      have : wid size = true := hwd
      rw [this] at hb; simpa using hb
    clear hb
    go_wp2_with (first
      | (go_at_call 60; refine (q_right _ w).mono ?_; rintro e w1 ⟨rfl, hw1⟩; obtain rfl := hw1.symm; rw [hwd])
      | (go_at_call 61; refine (q_HasM w S p base n f h _ _ a0 a1 s0 s1).mono ?_; rintro e w1 ⟨rfl, hst⟩; rw [hb2]))
    go_ret2
    exact ⟨rfl, hst⟩
theorem q_Write_bad (w : World) (S : Nat → Prop) (p : Nat) (base : Int) (n : Nat) (f : Nat → Int) (h : RMem w S p base n f) (addr size v : Int) (a0 : 0 ≤ addr) (a1 : addr < 18446744073709551616) (s0 : -9223372036854775808 ≤ size) (s1 : size ≤ 9223372036854775807) (hb : (wid size && hasB base n addr size) = false) :
    Calls Tryz.prog 46 #[.pointer (some ⟨p, 0, none⟩), .int .u64 addr, .int .i64 size, .int .u64 v] w fun e w' => e = .returned (.bool false) ∧ Still w w' := by
  go_enter Tryz.func46, Tryz.ntmps46
  cases hwd : decide (size = 1 ∨ size = 2 ∨ size = 4 ∨ size = 8) with
  | false =>
    clear hb
    go_wp2_with (first
      | (go_at_call 60; refine (q_right _ w).mono ?_; rintro e w1 ⟨rfl, hw1⟩; obtain rfl := hw1.symm; rw [hwd]))
    go_ret
    exact ⟨rfl, .refl w⟩
  | true =>
    have hb2 : hasB base n addr size = false := by
      have : wid size = true := hwd
      rw [this] at hb; simpa using hb
    clear hb
    go_wp2_with (first
      | (go_at_call 60; refine (q_right _ w).mono ?_; rintro e w1 ⟨rfl, hw1⟩; obtain rfl := hw1.symm; rw [hwd])
      | (go_at_call 61; refine (q_HasM w S p base n f h _ _ a0 a1 s0 s1).mono ?_; rintro e w1 ⟨rfl, hst⟩; rw [hb2]))
    go_ret
    exact ⟨rfl, hst⟩
theorem c_Read_bad2 (w : World) (S : Nat → Prop) (p : Nat) (base : Int) (n : Nat) (f : Nat → Int) (h : Mem w S p base n f) (addr size : Int) (a0 : 0 ≤ addr) (a1 : addr < 18446744073709551616) (s0 : -9223372036854775808 ≤ size) (s1 : size ≤ 9223372036854775807) (hb : (wid size && hasB base n addr size) = false) :
    Calls Tryz.prog 192 #[.pointer (some ⟨p, 0, none⟩), .int .u64 addr, .int .i64 size] w fun e w' => e = .returned (.tuple #[.int .u64 0, .bool false]) ∧ Still w w' := by
  cases hwd : wid size with
  | true => rw [hwd] at hb; exact c_Read_bad w S p base n f h addr size a0 a1 s0 s1 (by simpa using hb)
  | false =>
    have hwd' : decide (size = 1 ∨ size = 2 ∨ size = 4 ∨ size = 8) = false := hwd
    clear hb hwd
    go_enter Tryz.func192, Tryz.ntmps192
    go_wp2_with (first
      | (go_at_call 56; refine (c_isWidth _ w).mono ?_; rintro e w1 ⟨rfl, hw1⟩; obtain rfl := hw1.symm; rw [hwd']))
    go_ret2
    exact ⟨rfl, .refl w⟩
theorem c_Write_bad2 (w : World) (S : Nat → Prop) (p : Nat) (base : Int) (n : Nat) (f : Nat → Int) (h : Mem w S p base n f) (addr size v : Int) (a0 : 0 ≤ addr) (a1 : addr < 18446744073709551616) (s0 : -9223372036854775808 ≤ size) (s1 : size ≤ 9223372036854775807) (hb : (wid size && hasB base n addr size) = false) :
    Calls Tryz.prog 45 #[.pointer (some ⟨p, 0, none⟩), .int .u64 addr, .int .i64 size, .int .u64 v] w fun e w' => e = .returned (.bool false) ∧ Still w w' := by
  cases hwd : wid size with
  | true => rw [hwd] at hb; exact c_Write_bad w S p base n f h addr size v a0 a1 s0 s1 (by simpa using hb)
  | false =>
    have hwd' : decide (size = 1 ∨ size = 2 ∨ size = 4 ∨ size = 8) = false := hwd
    clear hb hwd
    go_enter Tryz.func45, Tryz.ntmps45
    go_wp2_with (first
      | (go_at_call 56; refine (c_isWidth _ w).mono ?_; rintro e w1 ⟨rfl, hw1⟩; obtain rfl := hw1.symm; rw [hwd']))
    go_ret
    exact ⟨rfl, .refl w⟩
end Go.Proofs.YtjkihlpckgaggaaGreat.C
namespace Go.Proofs.YtjkihlpckgaggaaGreat.C
open Go.RowKit
set_option linter.unusedVariables false
set_option maxRecDepth 100000

theorem own_some {w : World} {base : Nat} {e : TypeId} {v : Value} {n : Nat} {xs : List Value} (h : w.ownsRow base e 1 v n xs) (hn : 0 < n) : ∃ g cap cur, v = .slice (some ⟨g, 0, none⟩) n cap ∧ base ≤ g ∧ w.heap[g]? = some (.cells cur e (0, 0)) ∧ n ≤ cap ∧ cur.toList.take n = xs := by
  rcases h.2 with ⟨_, h0⟩ | ⟨g, cap, cur, rfl, hg, hh, hle, _, _, ht⟩
  · omega
  · exact ⟨g, cap, cur, rfl, hg, hh, hle, by simpa using ht⟩
theorem step_append_own {P : Program} {w : World} {ops : Array Oper} {o : Oper} {a : Act} {K : Act → World → Prop} {Q : Exit → Act → World → Prop} {E : Prop} (hgd : o.guard = none) (s x : Operand) (t : TypeId)
    (ho : o.op = .call { callee := .builtin .append, args := #[s, x], argTypes := #[t, t] })
    (base : Nat) (e : TypeId) (i : TypeInfo) (z : Value) (size bytes : Nat) (ht : P.underlying t = some (.slice e)) (hi : P.info? e = some i) (hz : i.zero = some z)
    (hsize : i.size = size) (hby : i.bytes = bytes) (hzs : z.cells.size = size) (hsz : 0 < size)
    (v : Value) (n : Nat) (xs : List Value) (hs : a.eval s = v) (hown : w.ownsRow base e size v n xs)
    (ad : Addr) (m c : Nat) (news : List Value) (hx : a.eval x = .slice (some ad) m c) (hl : news.length = m * size) (hnews : ∀ j u, news[j]? = some u → w.cell? (ad.add j) = some u) (h1 : ∀ u ∈ news, u.oneCell' = true)
    (h63 : n + m ≤ maxLen) (hbytes : (n + m) * bytes ≤ 140737488355328) (hbase : base ≤ w.heap.size)
    (h : ∀ v' w', w'.ownsRow base e size v' (n + m) (xs ++ news) → w.grownBy w' v.ownBlock → K (a.put o.dst v') w') :
    if Region.wanted o (yielded ops a.tmps) = true then Oper.wp P o a w K Q else E := by
  have hw : Region.wanted o (yielded ops a.tmps) = true := by simp [Region.wanted, hgd]
  rw [if_pos hw]
  exact wp_append_own w s x t ho base e i z size bytes ht hi hz hsize hby hzs hsz v n xs hs hown ad m c news hx hl hnews h1 h63 hbytes hbase fun v' w' h2 h3 _ => h v' w' h2 h3
theorem take_get2 {cur : Array Value} {f : Nat → Int} {s n : Nat} (h : cur.toList.take (0 + n) = [] ++ row f s n) (j : Nat) (hj : j < n) : cur[j]? = some (.int .u8 (f (s + j))) := by
  have := row_get f s n j hj
  rw [Nat.zero_add, List.nil_append] at h
  rw [← h, List.getElem?_take_of_lt hj] at this
  simpa using this
theorem grown_only {w w2 : World} (h : w.drew.grownBy w2 none) : Only (fun _ => False) w w2 := ⟨h.os, h.tape, h.output, h.size, fun k hk _ => h.block k hk (by simp)⟩
/-- how far a copy has come: k frames -/
structure QPC (w wr : World) (base : Int) (hs : List (Option (Nat × Nat))) (f : Nat → Int) (k : Nat) (hs' : List (Option (Nat × Nat))) : Prop where
  top : wr.heap[w.heap.size + 1]? = some (.cells #[.int .u64 base, .int .i64 hs.length, .slice (some ⟨w.heap.size, 0, none⟩) hs.length hs.length] 162 (0, 0))
  tab : wr.heap[w.heap.size]? = some (.cells (hs'.map fv).toArray 23 (0, 0))
  len : hs'.length = hs.length
  bare : ∀ i : Nat, i < k → hs'[i]? = some none → hs[i]? = some none
  full : ∀ (i h c : Nat), hs'[i]? = some (some (h, c)) → i < k ∧ w.heap.size + 1 < h ∧ 4096 ≤ c ∧ ∃ cur : Array Value, wr.heap[h]? = some (.cells cur 5 (0, 0)) ∧ ∀ j, j < 4096 → cur[j]? = some (.int .u8 (f (4096 * i + j)))
  inj : ∀ (i j h c c' : Nat), hs'[i]? = some (some (h, c)) → hs'[j]? = some (some (h, c')) → i = j
  below : Below w.heap.size w wr
theorem QPC.bareStep {w wr : World} {base : Int} {hs : List (Option (Nat × Nat))} {f : Nat → Int} {k : Nat} {hs' : List (Option (Nat × Nat))} (h : QPC w wr base hs f k hs') (hk : hs[k]? = some none) : QPC w wr base hs f (k + 1) hs' :=
  ⟨h.top, h.tab, h.len, fun i hi q => by
    by_cases e : i = k
    · subst e; exact hk
    · exact h.bare i (by omega) q, fun i hh c q => ⟨by have := (h.full i hh c q).1; omega, (h.full i hh c q).2⟩, h.inj, h.below⟩
theorem QPC.fullStep {w wr w2 : World} {base : Int} {hs : List (Option (Nat × Nat))} {f : Nat → Int} {k : Nat} {hs' : List (Option (Nat × Nat))} (h : QPC w wr base hs f k hs') (hk : k < hs.length) {g2 c2 : Nat} {cur : Array Value} (hg : w2.heap[g2]? = some (.cells cur 5 (0, 0))) (hgw : wr.heap.size ≤ g2) (hc2 : 4096 ≤ c2)
    (hcur : ∀ j, j < 4096 → cur[j]? = some (.int .u8 (f (4096 * k + j)))) (ho : Only (fun _ => False) wr w2) : QPC w (w2.setCell ⟨w.heap.size, k, none⟩ (.slice (some ⟨g2, 0, none⟩) 4096 c2)) base hs f (k + 1) (hs'.set k (some (g2, c2))) := by
  have hk' : k < hs'.length := by rw [h.len]; exact hk
  have hgl := lt_of_block h.tab
  have htl := lt_of_block h.top
  have hold : ∀ j o, wr.heap[j]? = some o → j ≠ w.heap.size → (w2.setCell ⟨w.heap.size, k, none⟩ (.slice (some ⟨g2, 0, none⟩) 4096 c2)).heap[j]? = some o := fun j o hj hne => (Below.heap_setCell _ _ _ j hne).trans (ho.old hj fun q => q)
  refine ⟨hold _ _ h.top (by omega), ?_, by simpa using h.len, ?_, ?_, ?_, ?_⟩
  · rw [heap_setCell_same _ _ k _ _ _ (ho.old h.tab fun q => q), ← fv_set]
    rfl
  · intro i hi q
    by_cases e : i = k
    · subst e; rw [List.getElem?_set_self hk'] at q; cases q
    · rw [List.getElem?_set_ne (by omega)] at q; exact h.bare i (by omega) q
  · intro i hh c q
    by_cases e : i = k
    · subst e
      rw [List.getElem?_set_self hk'] at q
      obtain ⟨rfl, rfl⟩ : g2 = hh ∧ c2 = c := by simpa using q
      exact ⟨by omega, by omega, hc2, cur, (Below.heap_setCell _ _ _ _ (by show g2 ≠ w.heap.size; omega)).trans hg, hcur⟩
    · rw [List.getElem?_set_ne (by omega)] at q
      obtain ⟨a, b, c', cur', hg', hc'⟩ := h.full i hh c q
      exact ⟨by omega, b, c', cur', hold _ _ hg' (by omega), hc'⟩
  · intro i j hh c c' hi hj
    by_cases e : i = k <;> by_cases e' : j = k
    · omega
    · subst e
      rw [List.getElem?_set_self hk'] at hi
      rw [List.getElem?_set_ne (by omega)] at hj
      obtain ⟨_, _, _, _, hg', _⟩ := h.full j hh c' hj
      have := lt_of_block hg'
      simp at hi; omega
    · subst e'
      rw [List.getElem?_set_self hk'] at hj
      rw [List.getElem?_set_ne (by omega)] at hi
      obtain ⟨_, _, _, _, hg', _⟩ := h.full i hh c hi
      have := lt_of_block hg'
      simp at hj; omega
    · rw [List.getElem?_set_ne (by omega)] at hi hj
      exact h.inj i j hh c c' hi hj
  · exact (h.below.trans (ho.below _ h.below.size (fun _ q => q.elim))).setCell (p := ⟨w.heap.size, k, none⟩) (Nat.le_refl _) _
theorem run_makeT (w : World) (n : Nat) (hn : n ≤ 1024) : (Instr.makeSlice 160 (.int .i64 (n : Int)) (.int .i64 (n : Int))).run Tryz.prog w = .ok (.slice (some ⟨w.heap.size, 0, none⟩) n n) (w.alloc (.cells ((List.replicate n (none : Option (Nat × Nat))).map fv).toArray 23)) := by
  obtain ⟨i, hi1, hz, hs, hb⟩ := info_parts info_su8
  have hr := run_make (P := Tryz.prog) w 160 23 i _ u_ssu8 hi1 hz .i64 .i64 n n (by omega) (by omega) (by rw [hb]; omega) (by omega)
  have hcs : madeCells (Value.slice none 0 0).cells ((n : Int).toNat * i.size) = ((List.replicate n (none : Option (Nat × Nat))).map fv).toArray := by
    rw [← map_fv, hs]
    apply Array.ext'
    simpa [Value.cells] using toList_madeCells_one (.slice none 0 0) n
  rw [hcs] at hr
  simpa using hr
end Go.Proofs.YtjkihlpckgaggaaGreat.C
