/- The reference's memory: a byte is written. -/
import Derived.Test.YtioodijiejipiaaQA
namespace Go.Proofs.Ytioodijiejipiaa
open Go.RowKit
set_option linter.unusedVariables false

theorem put1_byt {f : Nat → Int} (hf : ∀ j, 0 ≤ f j ∧ f j < 256) (off : Nat) (x : Int) (x0 : 0 ≤ x) (x1 : x < 256) (j : Nat) : 0 ≤ put f off 1 (fun _ => x) j ∧ put f off 1 (fun _ => x) j < 256 := by
  unfold put
  split
  · exact ⟨x0, x1⟩
  · exact hf j
theorem QM.putOld {w : World} {p g : Nat} {base : Int} {hs : List (Option (Nat × Nat))} {f : Nat → Int} (h : QM w p g base hs f) {q hh c m : Nat} (hq : hs[q]? = some (some (hh, c))) (hm : m < 4096) (x : Int) (x0 : 0 ≤ x) (x1 : x < 256) :
    QM (w.setCell ⟨hh, m, none⟩ (.int .u8 x)) p g base hs (put f (4096 * q + m) 1 fun _ => x) := by
  obtain ⟨hc, cur, hg, hcur⟩ := h.full q hh c hq
  have hph : p ≠ hh := by rintro rfl; have := h.top; rw [hg] at this; simp at this
  have hgh : g ≠ hh := by rintro rfl; have := h.tab; rw [hg] at this; simp at this
  have hold : ∀ k, k ≠ hh → (w.setCell ⟨hh, m, none⟩ (.int .u8 x)).heap[k]? = w.heap[k]? := fun k hk => Below.heap_setCell _ _ _ k hk
  refine ⟨(hold p hph).trans h.top, (hold g hgh).trans h.tab, ?_, ?_, h.inj, put1_byt h.byt _ x x0 x1, h.base0, h.base1, h.len0, h.len1⟩
  · intro i hi j hj
    have : i ≠ q := by rintro rfl; rw [hq] at hi; cases hi
    rw [put_out _ _ _ _ _ (by omega)]
    exact h.bare i hi j hj
  · intro i h' c' hi
    by_cases e : i = q
    · subst e
      obtain ⟨rfl, rfl⟩ : hh = h' ∧ c = c' := by rw [hq] at hi; simpa using hi
      refine ⟨hc, _, heap_setCell_same w hh m cur _ _ hg, fun j hj => ?_⟩
      have hl : m < cur.size := (Array.getElem?_eq_some_iff.1 (hcur m hm)).1
      by_cases e : m = j
      · subst e; rw [put_in' _ _ _ _ _ (by omega) (by omega)]; simp [hl]
      · rw [put_out _ _ _ _ _ (by omega), Array.getElem?_setIfInBounds_ne (h := e)]; exact hcur j hj
    · have e' : h' ≠ hh := by rintro rfl; exact e (h.inj i q h' c' c hi hq)
      obtain ⟨hc', cur', hg', hcur'⟩ := h.full i h' c' hi
      exact ⟨hc', cur', (hold h' e').trans hg', fun j hj => by rw [put_out _ _ _ _ _ (by omega)]; exact hcur' j hj⟩
theorem QM.putNew {w W : World} {p g : Nat} {base : Int} {hs : List (Option (Nat × Nat))} {f : Nat → Int} (h : QM w p g base hs f) {q m : Nat} (hq : hs[q]? = some none) (hm : m < 4096) (x : Int) (x0 : 0 ≤ x) (x1 : x < 256)
    (ht : W.heap[g]? = some (.cells ((hs.set q (some (w.heap.size, 4096))).map fv).toArray 35 (0, 0))) (hn : W.heap[w.heap.size]? = some (.cells ((row (fun _ => 0) 0 4096).set m (.int .u8 x)).toArray 5 (0, 0)))
    (hold : ∀ k, k < w.heap.size → k ≠ g → W.heap[k]? = w.heap[k]?) : QM W p g base (hs.set q (some (w.heap.size, 4096))) (put f (4096 * q + m) 1 fun _ => x) := by
  have hil : q < hs.length := by
    rcases Nat.lt_or_ge q hs.length with e | e
    · exact e
    · rw [List.getElem?_eq_none e] at hq; cases hq
  have hpg : p ≠ g := by rintro rfl; have := h.top; rw [h.tab] at this; simp at this
  refine ⟨?_, ht, ?_, ?_, ?_, put1_byt h.byt _ x x0 x1, h.base0, h.base1, by simpa using h.len0, by simpa using h.len1⟩
  · rw [hold p (lt_of_block h.top) hpg, List.length_set]; exact h.top
  · intro i hi j hj
    by_cases e : i = q
    · subst e; rw [List.getElem?_set_self hil] at hi; cases hi
    · rw [List.getElem?_set_ne (by omega)] at hi
      rw [put_out _ _ _ _ _ (by omega)]; exact h.bare i hi j hj
  · intro i h' c' hi
    by_cases e : i = q
    · subst e
      rw [List.getElem?_set_self hil] at hi
      obtain ⟨rfl, rfl⟩ : w.heap.size = h' ∧ 4096 = c' := by simpa using hi
      refine ⟨Nat.le_refl _, _, hn, fun j hj => ?_⟩
      rw [← List.setIfInBounds_toArray, set_row _ _ _ _ _ hm]
      have := row_get (put (fun _ => 0) (0 + m) 1 fun _ => x) 0 4096 j hj
      rw [List.getElem?_toArray, this, Nat.zero_add, Nat.zero_add]
      by_cases e : j = m
      · subst e; rw [put_in' _ _ _ _ _ (by omega) (by omega), put_in' _ _ _ _ _ (by omega) (by omega)]
      · rw [put_out (fun _ => 0) _ _ _ _ (by omega), put_out f _ _ _ _ (by omega), h.bare i hq j hj]
    · rw [List.getElem?_set_ne (by omega)] at hi
      obtain ⟨hc', cur', hg', hcur'⟩ := h.full i h' c' hi
      exact ⟨hc', cur', (hold h' (lt_of_block hg') (by rintro rfl; rw [h.tab] at hg'; simp at hg')).trans hg', fun j hj => by rw [put_out _ _ _ _ _ (by omega)]; exact hcur' j hj⟩
  · intro i j h' c c' hi hj
    by_cases e : i = q <;> by_cases e' : j = q
    · omega
    · subst e
      rw [List.getElem?_set_self hil] at hi
      rw [List.getElem?_set_ne (by omega)] at hj
      obtain ⟨_, _, hg', _⟩ := h.full j h' c' hj
      have := lt_of_block hg'
      simp at hi; omega
    · subst e'
      rw [List.getElem?_set_self hil] at hj
      rw [List.getElem?_set_ne (by omega)] at hi
      obtain ⟨_, _, hg', _⟩ := h.full i h' c hi
      have := lt_of_block hg'
      simp at hj; omega
    · rw [List.getElem?_set_ne (by omega)] at hi hj
      exact h.inj i j h' c c' hi hj
theorem run_makeB (w : World) (n : Nat) (hn : n ≤ 281474976710656) : (Instr.makeSlice 35 (.int .i64 (n : Int)) (.int .i64 (n : Int))).run Try.prog w = .ok (.slice (some ⟨w.heap.size, 0, none⟩) n n) (w.alloc (.cells (row (fun _ => 0) 0 n).toArray 5)) := by
  obtain ⟨i, hi1, hz, hs, hb⟩ := info_parts info_u8
  have hr := run_make (P := Try.prog) w 35 5 i _ u_su8 hi1 hz .i64 .i64 n n (by omega) (by omega) (by rw [hb]; omega) (by omega)
  have hcs : madeCells (Value.int .u8 0).cells ((n : Int).toNat * i.size) = (row (fun _ => 0) 0 n).toArray := by
    rw [← rowz, hs]
    apply Array.ext'
    simpa [Value.cells] using toList_madeCells_one (.int .u8 0) n
  rw [hcs] at hr
  simpa using hr
theorem run_make4 (w : World) : (Instr.makeSlice 35 (.int .i64 4096) (.int .i64 4096)).run Try.prog w = .ok (.slice (some ⟨w.heap.size, 0, none⟩) 4096 4096) (w.alloc (.cells (row (fun _ => 0) 0 4096).toArray 5)) := run_makeB w 4096 (by decide)
theorem QM.drew {w : World} {p g : Nat} {base : Int} {hs : List (Option (Nat × Nat))} {f : Nat → Int} (h : QM w p g base hs f) : QM w.drew p g base hs f := h.only (T := fun _ => False) (Only.refl w).drew fun _ _ q => q
theorem fv_set (hs : List (Option (Nat × Nat))) (q h c : Nat) : (hs.map fv).toArray.setIfInBounds q (fv (some (h, c))) = ((hs.set q (some (h, c))).map fv).toArray := by simp [List.map_set]
set_option maxHeartbeats 1000000 in
theorem q_put (w : World) (T : Nat → Prop) (p : Nat) (base : Int) (n : Nat) (f : Nat → Int) (h : RMem w T p base n f) (off : Nat) (ho : off < 4096 * n) (addr : Int) (ha : addr = base + off) (x : Int) (x0 : 0 ≤ x) (x1 : x < 256) :
    Calls Try.prog 35 #[.pointer (some ⟨p, 0, none⟩), .int .u64 addr, .int .u8 x] w fun e w' => ∃ T', e = .returned (.tuple #[]) ∧ RMem w' T' p base n (put f off 1 fun _ => x) ∧ Only T w w' ∧ ∀ k, T' k → T k ∨ w.heap.size ≤ k := by
  subst ha
  obtain ⟨g, hs, h, rfl, hT⟩ := h
  have c0 := h.cell0
  have c2 := h.cell2
  have h0 := h.base0
  have h1 := h.base1
  have l1 := h.len1
  obtain ⟨q, m, hm, hqm⟩ : ∃ q m : Nat, m < 4096 ∧ off = 4096 * q + m := ⟨off / 4096, off % 4096, Nat.mod_lt _ (by decide), (Nat.div_add_mod _ _).symm⟩
  subst hqm
  have hq : q < hs.length := by omega
  have e1 : (base + ((4096 * q + m : Nat) : Int) - base) = ((4096 * q + m : Nat) : Int) := by omega
  have e2 : ((4096 * q + m : Nat) : Int) / 4096 = (q : Int) := by omega
  have e3 : ((4096 * q + m : Nat) : Int) % 4096 = (m : Int) := by omega
  obtain ⟨y, hy⟩ : ∃ y, hs[q]? = some y := ⟨_, List.getElem?_eq_getElem hq⟩
  have cT := h.cellT _ y hy
  have fT : w.frozen? ⟨g, q, none⟩ = false := frozen_of_row w g q _ _ h.tab
  have hpg : p ≠ g := by rintro rfl; have := h.top; rw [h.tab] at this; simp at this
  have hgl := lt_of_block h.tab
  have hpl := lt_of_block h.top
  have hnil := eq_nil
  cases y with
  | some hc =>
    obtain ⟨hh, c⟩ := hc
    simp only [fv] at cT
    obtain ⟨cB, fB⟩ := h.cellB _ _ _ hy m hm
    have HP := hid (h.putOld hy hm x x0 x1)
    generalize hA : (4096 * q + m : Nat) = A at *
    clear h hA
    go_enter Try.func35, Try.ntmps35
    go_wp2
    go_end0
    exact ⟨FootQ p g hs, rfl, ⟨g, hs, HP.out, rfl, fun k => Iff.rfl⟩, (Only.refl w).setCell (p := ⟨hh, m, none⟩) (.inl ((hT _).2 (.inr (.inr ⟨q, c, hy⟩)))) _, fun k hk => .inl ((hT k).2 hk)⟩
  | none =>
    simp only [fv] at cT
    have k1 : (w.setCell ⟨g, q, none⟩ (.slice (some ⟨w.heap.size, 0, none⟩) 4096 4096)).cell? ⟨p, 2, none⟩ = some (.slice (some ⟨g, 0, none⟩) hs.length hs.length) := by
      rw [World.cell?_setCell_other _ _ _ _ (by intro e; cases e; exact hpg rfl)]; exact c2
    have k2 : (w.setCell ⟨g, q, none⟩ (.slice (some ⟨w.heap.size, 0, none⟩) 4096 4096)).cell? ⟨g, q, none⟩ = some (.slice (some ⟨w.heap.size, 0, none⟩) 4096 4096) := World.cell?_setCell_same _ _ _ cT
    have k3 : (row (fun _ => 0) 0 4096).toArray[m]? = some (.int .u8 0) := by have := row_get (fun _ => 0) 0 4096 m hm; simpa using this
    have hmk := run_make4
    generalize hA : (4096 * q + m : Nat) = A at *
    have HH := hid h
    have HA := hid hA
    clear h hA
    go_enter Try.func35, Try.ntmps35
    go_wp2
    go_region
    go_wp2
    go_end0
    have hsz : (w.setCell ⟨g, q, none⟩ (.slice (some ⟨w.heap.size, 0, none⟩) 4096 4096)).heap.size = w.heap.size := by simp [World.setCell]
    have ht : ∀ o, ((w.setCell ⟨g, q, none⟩ (.slice (some ⟨w.heap.size, 0, none⟩) 4096 4096)).alloc o).heap[g]? = some (.cells ((hs.set q (some (w.heap.size, 4096))).map fv).toArray 35 (0, 0)) := fun o => by
      rw [Below.heap_alloc _ _ _ (by rw [hsz]; exact hgl), heap_setCell_same _ _ q _ _ _ HH.out.tab, ← fv_set]
      rfl
    have hn : ∀ o, ((w.setCell ⟨g, q, none⟩ (.slice (some ⟨w.heap.size, 0, none⟩) 4096 4096)).alloc o).heap[w.heap.size]? = some o := fun o => by
      have := heap_alloc_new (w.setCell ⟨g, q, none⟩ (.slice (some ⟨w.heap.size, 0, none⟩) 4096 4096)) o
      rwa [hsz] at this
    have hold : ∀ o k, k < w.heap.size → k ≠ g → ((w.setCell ⟨g, q, none⟩ (.slice (some ⟨w.heap.size, 0, none⟩) 4096 4096)).alloc o).heap[k]? = w.heap[k]? := fun o k hk hne => (Below.heap_alloc _ _ k (by rw [hsz]; exact hk)).trans (Below.heap_setCell _ _ _ k hne)
    have HQ := QM.putNew HH.out hy hm x x0 x1 (ht (.cells ((row (fun _ => 0) 0 4096).set m (.int .u8 x)).toArray 5)) (hn _) (hold _)
    rw [HA.out] at HQ
    refine ⟨FootQ p g (hs.set q (some (w.heap.size, 4096))), rfl, ⟨g, hs.set q (some (w.heap.size, 4096)), HQ.drew, List.length_set, fun k => Iff.rfl⟩, (((Only.refl w).setCell (p := ⟨g, q, none⟩) (.inl ((hT _).2 (.inr (.inl rfl)))) _).alloc _).drew, ?_⟩
    rintro k (rfl | rfl | ⟨j, c, hj⟩)
    · exact .inl ((hT _).2 (.inl rfl))
    · exact .inl ((hT _).2 (.inr (.inl rfl)))
    · by_cases e : j = q
      · subst e; rw [List.getElem?_set_self hq] at hj; simp at hj; exact .inr (by omega)
      · rw [List.getElem?_set_ne (by omega)] at hj; exact .inl ((hT _).2 (.inr (.inr ⟨j, c, hj⟩)))
end Go.Proofs.Ytioodijiejipiaa
