/- A register is found, with its part. -/
import Derived.Test.YtajnjmjogaacpaaGreatXD
namespace Go.Proofs.YtajnjmjogaacpaaGreat
open Go.RowKit Go.ChangeMaps Go.MapKept
open C (Only hid)
set_option linter.unusedVariables false
set_option maxRecDepth 100000

theorem sx_func (P : Program) (w : World) (a : Addr) (m : Mode) (fn : Fn) (x y : Array Value) : (store a (.func fn x y) m).run P w = stored P w a (.func fn x y) m := run_store P w a _ m rfl
theorem sx_nilFunc (P : Program) (w : World) (a : Addr) (m : Mode) : (store a .nilFunc m).run P w = stored P w a .nilFunc m := run_store P w a _ m rfl
theorem eR_form (e k : Nat) : ∃ f p g q, eR e k = .agg #[.func (.func f) #[.pointer (some p)] #[], .func (.func g) #[.pointer (some q)] #[]] := by
  unfold eR; split <;> exact ⟨_, _, _, _, rfl⟩
theorem set_map {w : World} {M : Nat} {es : Array MapEntry} {c : Nat} (h : w.heap[M]? = some (.map es c)) (p : Addr) (x : Value) : (w.setCell p x).heap[M]? = some (.map es c) := by
  unfold World.setCell
  simp only [Array.getElem?_modify]
  split
  · rw [h]; rfl
  · exact h
theorem Eg.setC {w : World} {e : Nat} {v : EV} (h : Eg w e v) (n k : Nat) (x : Value) (hn : n ≠ e) : Eg (w.setCell ⟨n, k, none⟩ x) e v := by
  rcases h with h | ⟨M, h, es, c, k1, k2⟩
  · exact .inl ((setCell_other_block w n k x e (fun q => hn q.symm)).trans h)
  · exact .inr ⟨M, (setCell_other_block w n k x e (fun q => hn q.symm)).trans h, es, c, set_map k1 _ _, k2⟩
theorem Eg.drew {w : World} {e : Nat} {v : EV} (h : Eg w e v) : Eg w.drew e v := h
theorem sz2 (w : World) (a b : Obj) : ((w.alloc a).alloc b).heap.size = w.heap.size + 2 := by simp
theorem h2a (w : World) (a b : Obj) : ((w.alloc a).alloc b).heap[w.heap.size]? = some a := (heap_alloc_old _ _ (by simp)).trans (heap_alloc_new w a)
theorem h2b (w : World) (a b : Obj) : ((w.alloc a).alloc b).heap[w.heap.size + 1]? = some b := by
  have := heap_alloc_new (w.alloc a) b
  simpa using this
theorem c_row {w : World} {n : Nat} {a b : Value} {t : TypeId} (h : w.heap[n]? = some (.cells #[a, b] t (0, 0))) : w.cell? ⟨n, 0, none⟩ = some a ∧ w.cell? ⟨n, 1, none⟩ = some b ∧ (∀ k, w.frozen? ⟨n, k, none⟩ = false) ∧ n < w.heap.size :=
  ⟨cell_of_row w n 0 _ _ _ h, cell_of_row w n 1 _ _ _ h, fun k => frozen_of_row w n k _ _ h, lt_of_block h⟩
set_option maxHeartbeats 1000000 in
theorem x_find_bad (w : World) (e : Nat) (off size : Int) (o0 : 0 ≤ off) (o1 : off < 18446744073709551616) (s b : Int) (hc : cutF off size = (s, b, false)) :
    Calls Tryz.prog 23 #[.pointer (some ⟨e, 0, none⟩), .int .u64 off, .int .i64 size] w fun r w' => r = .returned (.tuple #[.agg #[.nilFunc, .nilFunc], .agg #[.int .u64 0, .int .u64 0], .bool false]) ∧ Below w.heap.size w w' := by
  have h1 := sx_nilFunc Tryz.prog
  have hb0 : Below w.heap.size w ((w.alloc (.cells #[.nilFunc, .nilFunc] 106)).alloc (.cells #[.int .u64 0, .int .u64 0] 108)) := by (repeat (first | (with_reducible exact Below.refl _ _) | (with_reducible assumption) | refine Below.setCell ?_ (by first | exact Nat.le_refl _ | simp | (simp; omega)) _ | refine Below.alloc ?_ (by first | exact Nat.le_refl _ | simp | (simp; omega)) _ | refine below_dn ?_ _ | refine below_setRow ?_ (by first | exact Nat.le_refl _ | simp | (simp; omega)) _))
  have HB0 := hid hb0
  clear hb0
  go_enter Tryz.func23, Tryz.ntmps23
  go_wp2_with (go_at_call 38; refine (x_cut _ off size o0 o1 s b false hc).mono ?_; rintro r w1 ⟨rfl, hb⟩; have HB := hid (HB0.out.trans (hb.mono (by rw [sz2]; omega))); obtain ⟨y0, y1, yf, yl⟩ := c_row ((hb.block _ (by rw [sz2]; omega)).trans (h2a w _ _)); obtain ⟨z0, z1, zf, zl⟩ := c_row ((hb.block _ (by rw [sz2]; omega)).trans (h2b w _ _)); clear hb)
  refine bodyPost_ret (v := .tuple #[.agg #[.nilFunc, .nilFunc], .agg #[.int .u64 0, .int .u64 0], .bool false]) (by simp [results, Tryz.results23, go_sem, y0, y1, z0, z1, yl, zl]) rfl ⟨rfl, ?_⟩
  have HB' := HB.out
  have hsz := HB'.size
  exact ((((HB'.setCell (Nat.le_refl _) _).setCell (Nat.le_refl _) _).setCell (Nat.le_succ _) _).setCell (Nat.le_succ _) _).alloc (by simpa using hsz) _
set_option maxHeartbeats 1000000 in
theorem x_find (w : World) (e : Nat) (v : EV) (h : Eg w e v) (off size : Int) (o0 : 0 ≤ off) (o1 : off < 18446744073709551616) (s b : Int) (hc : cutF off size = (s, b, true)) (k : Nat) (hk : k < 7) (x : Int) (hx : x = 8 * (k : Int)) (hxo : off - off % 8 = x) :
    Calls Tryz.prog 23 #[.pointer (some ⟨e, 0, none⟩), .int .u64 off, .int .i64 size] w fun r w' => r = .returned (.tuple #[eR e k, .agg #[.int .u64 s, .int .u64 b], .bool true]) ∧ Eg w' e v ∧ Only (· = e) w w' := by
  obtain ⟨f, p, g, q, hR⟩ := eR_form e k
  have hel := h.lt
  have HE := hid h
  have HX := hid hx
  clear h hx
  have h1 := sx_nilFunc Tryz.prog
  have h2 := sx_func Tryz.prog
  have hb0 : Below w.heap.size w ((w.alloc (.cells #[.nilFunc, .nilFunc] 106)).alloc (.cells #[.int .u64 0, .int .u64 0] 108)) := by (repeat (first | (with_reducible exact Below.refl _ _) | (with_reducible assumption) | refine Below.setCell ?_ (by first | exact Nat.le_refl _ | simp | (simp; omega)) _ | refine Below.alloc ?_ (by first | exact Nat.le_refl _ | simp | (simp; omega)) _ | refine below_dn ?_ _ | refine below_setRow ?_ (by first | exact Nat.le_refl _ | simp | (simp; omega)) _))
  have HB0 := hid hb0
  clear hb0
  go_enter Tryz.func23, Tryz.ntmps23
  go_wp2_with (first
    | (go_at_call 38; refine (x_cut _ off size o0 o1 s b true hc).mono ?_; rintro r w1 ⟨rfl, hb⟩; have HB := hid (HB0.out.trans (hb.mono (by rw [sz2]; omega))); have HY := hid ((hb.block _ (by rw [sz2]; omega)).trans (h2a w _ _)); have HZ := hid ((hb.block _ (by rw [sz2]; omega)).trans (h2b w _ _)); have yl := lt_of_block HY.out; have zl := lt_of_block HZ.out; clear hb)
    | (go_at_call 39; refine (k_Do e _ v ((HE.out.below HB.out).below ((Below.refl _ _).alloc (Nat.le_refl _) _))).mono ?_; rintro r w2 ⟨rfl, ⟨M, m1, m2⟩, m3⟩; have HM := hid m2; have HO := hid m3; have HC := hid m1; have km : w2.cell? ⟨e, 13, none⟩ = some (.map (some M)) := cell_of_row w2 e 13 _ _ _ m1; have lk : (Instr.lookup 100 (.map (some M)) (.int .u64 x) true).run Tryz.prog w2 = .ok (.tuple #[.agg #[.func (.func f) #[.pointer (some p)] #[], .func (.func g) #[.pointer (some q)] #[]], .bool true]) w2 := (by rw [← hR]; exact look_u m2 k hk x HX.out); have hs2 := m3.size; have HY2 := hid (m3.old ((heap_alloc_old _ _ yl).trans HY.out) (by omega)); have HZ2 := hid (m3.old ((heap_alloc_old _ _ zl).trans HZ.out) (by omega)); have HP2 := hid (m3.old (heap_alloc_new w1 _) (by omega)); obtain ⟨y0, y1, yf, yl2⟩ := c_row HY2.out; obtain ⟨z0, z1, zf, zl2⟩ := c_row HZ2.out; obtain ⟨p0, p1, pf, pl2⟩ := c_row HP2.out; clear m1 m2 m3))
  have hn1 : w.heap.size ≠ e := by omega
  have hn2 : w.heap.size + 1 ≠ e := by omega
  have hs1 := HB.out.size
  obtain ⟨wa, hwa⟩ : ∃ wa, w2.alloc (.cells #[.func (.func f) #[.pointer (some p)] #[], .func (.func g) #[.pointer (some q)] #[]] 106) = wa := ⟨_, rfl⟩
  have bw : Below w2.heap.size w2 wa := hwa ▸ (Below.refl _ _).alloc (Nat.le_refl _) _
  have E2 : Hid (Eg wa e v) := (show Eg w2 e v from .inr ⟨M, HC.out, HM.out⟩).below bw
  have O2 : Hid (Only (· = e) w wa) := ((C.Only.ofBelow HB.out).trans (((Only.refl _).alloc _).trans HO.out)).trans (.ofBelow bw)
  have HR := hid hR
  clear y0 y1 yf yl2 z0 z1 zf zl2 p0 p1 pf pl2
  obtain ⟨y0, y1, yf, yl2⟩ := c_row ((bw.block _ (lt_of_block HY2.out)).trans HY2.out)
  obtain ⟨z0, z1, zf, zl2⟩ := c_row ((bw.block _ (lt_of_block HZ2.out)).trans HZ2.out)
  obtain ⟨p0, p1, pf, pl2⟩ := c_row ((bw.block _ (lt_of_block HP2.out)).trans HP2.out)
  obtain ⟨r0, r1, rf, rl2⟩ := c_row (show wa.heap[w2.heap.size]? = _ from hwa ▸ heap_alloc_new w2 _)
  rw [hwa]
  have d1 : w1.heap.size ≠ w.heap.size := by omega
  have d2 : w1.heap.size ≠ w.heap.size + 1 := by omega
  have d3 : w2.heap.size ≠ w.heap.size := by simp at hs2; omega
  have d4 : w2.heap.size ≠ w.heap.size + 1 := by simp at hs2; omega
  clear HC HM HO HB0 HB HY HZ HY2 HZ2 HP2 HE HX hR lk km yl zl hs2 hwa bw
  go_region
  all_goals go_wp2
  all_goals refine bodyPost_ret (v := .tuple #[.agg #[.func (.func f) #[.pointer (some p)] #[], .func (.func g) #[.pointer (some q)] #[]], .agg #[.int .u64 s, .int .u64 b], .bool true]) (by simp [results, Tryz.results23, go_sem, y0, y1, z0, z1]) rfl ⟨by rw [HR.out], ?_, ?_⟩
  · exact (((E2.out.setC _ _ _ hn1).setC _ _ _ hn1).setC _ _ _ hn2).setC _ _ _ hn2
  · exact ((((O2.out.setCell (.inr (Nat.le_refl _)) _).setCell (.inr (Nat.le_refl _)) _).setCell (.inr (Nat.le_succ _)) _).setCell (.inr (Nat.le_succ _)) _).drew
set_option maxHeartbeats 1000000 in
theorem x_find_none (w : World) (e : Nat) (v : EV) (h : Eg w e v) (off size : Int) (o0 : 0 ≤ off) (o1 : off < 18446744073709551616) (s b : Int) (hc : cutF off size = (s, b, true)) (x : Int) (hx : ∀ i : Nat, i < 7 → x ≠ 8 * (i : Int)) (hxo : off - off % 8 = x) :
    Calls Tryz.prog 23 #[.pointer (some ⟨e, 0, none⟩), .int .u64 off, .int .i64 size] w fun r w' => r = .returned (.tuple #[.agg #[.nilFunc, .nilFunc], .agg #[.int .u64 s, .int .u64 b], .bool false]) ∧ Eg w' e v ∧ Only (· = e) w w' := by
  have hel := h.lt
  have HE := hid h
  have HX := hid hx
  clear h hx
  have h1 := sx_nilFunc Tryz.prog
  have h2 := sx_func Tryz.prog
  have hb0 : Below w.heap.size w ((w.alloc (.cells #[.nilFunc, .nilFunc] 106)).alloc (.cells #[.int .u64 0, .int .u64 0] 108)) := by (repeat (first | (with_reducible exact Below.refl _ _) | (with_reducible assumption) | refine Below.setCell ?_ (by first | exact Nat.le_refl _ | simp | (simp; omega)) _ | refine Below.alloc ?_ (by first | exact Nat.le_refl _ | simp | (simp; omega)) _ | refine below_dn ?_ _ | refine below_setRow ?_ (by first | exact Nat.le_refl _ | simp | (simp; omega)) _))
  have HB0 := hid hb0
  clear hb0
  go_enter Tryz.func23, Tryz.ntmps23
  go_wp2_with (first
    | (go_at_call 38; refine (x_cut _ off size o0 o1 s b true hc).mono ?_; rintro r w1 ⟨rfl, hb⟩; have HB := hid (HB0.out.trans (hb.mono (by rw [sz2]; omega))); have HY := hid ((hb.block _ (by rw [sz2]; omega)).trans (h2a w _ _)); have HZ := hid ((hb.block _ (by rw [sz2]; omega)).trans (h2b w _ _)); have yl := lt_of_block HY.out; have zl := lt_of_block HZ.out; clear hb)
    | (go_at_call 39; refine (k_Do e _ v ((HE.out.below HB.out).below ((Below.refl _ _).alloc (Nat.le_refl _) _))).mono ?_; rintro r w2 ⟨rfl, ⟨M, m1, m2⟩, m3⟩; have HM := hid m2; have HO := hid m3; have HC := hid m1; have km : w2.cell? ⟨e, 13, none⟩ = some (.map (some M)) := cell_of_row w2 e 13 _ _ _ m1; have lk : (Instr.lookup 100 (.map (some M)) (.int .u64 x) true).run Tryz.prog w2 = .ok (.tuple #[.agg #[.nilFunc, .nilFunc], .bool false]) w2 := look_m m2 x HX.out; have hs2 := m3.size; have HY2 := hid (m3.old ((heap_alloc_old _ _ yl).trans HY.out) (by omega)); have HZ2 := hid (m3.old ((heap_alloc_old _ _ zl).trans HZ.out) (by omega)); have HP2 := hid (m3.old (heap_alloc_new w1 _) (by omega)); obtain ⟨y0, y1, yf, yl2⟩ := c_row HY2.out; obtain ⟨z0, z1, zf, zl2⟩ := c_row HZ2.out; obtain ⟨p0, p1, pf, pl2⟩ := c_row HP2.out; clear m1 m2 m3))
  have hn1 : w.heap.size ≠ e := by omega
  have hn2 : w.heap.size + 1 ≠ e := by omega
  have hs1 := HB.out.size
  obtain ⟨wa, hwa⟩ : ∃ wa, w2.alloc (.cells #[.nilFunc, .nilFunc] 106) = wa := ⟨_, rfl⟩
  have bw : Below w2.heap.size w2 wa := hwa ▸ (Below.refl _ _).alloc (Nat.le_refl _) _
  have E2 : Hid (Eg wa e v) := (show Eg w2 e v from .inr ⟨M, HC.out, HM.out⟩).below bw
  have O2 : Hid (Only (· = e) w wa) := ((C.Only.ofBelow HB.out).trans (((Only.refl _).alloc _).trans HO.out)).trans (.ofBelow bw)
  clear y0 y1 yf yl2 z0 z1 zf zl2 p0 p1 pf pl2
  obtain ⟨y0, y1, yf, yl2⟩ := c_row ((bw.block _ (lt_of_block HY2.out)).trans HY2.out)
  obtain ⟨z0, z1, zf, zl2⟩ := c_row ((bw.block _ (lt_of_block HZ2.out)).trans HZ2.out)
  obtain ⟨p0, p1, pf, pl2⟩ := c_row ((bw.block _ (lt_of_block HP2.out)).trans HP2.out)
  obtain ⟨r0, r1, rf, rl2⟩ := c_row (show wa.heap[w2.heap.size]? = _ from hwa ▸ heap_alloc_new w2 _)
  rw [hwa]
  have d1 : w1.heap.size ≠ w.heap.size := by omega
  have d2 : w1.heap.size ≠ w.heap.size + 1 := by omega
  have d3 : w2.heap.size ≠ w.heap.size := by simp at hs2; omega
  have d4 : w2.heap.size ≠ w.heap.size + 1 := by simp at hs2; omega
  clear HC HM HO HB0 HB HY HZ HY2 HZ2 HP2 HE HX lk km yl zl hs2 hwa bw
  go_region
  all_goals go_wp2
  all_goals refine bodyPost_ret (v := .tuple #[.agg #[.nilFunc, .nilFunc], .agg #[.int .u64 s, .int .u64 b], .bool false]) (by simp [results, Tryz.results23, go_sem, y0, y1, z0, z1]) rfl ⟨rfl, ?_, ?_⟩
  · exact (((E2.out.setC _ _ _ hn1).setC _ _ _ hn1).setC _ _ _ hn2).setC _ _ _ hn2
  · exact ((((O2.out.setCell (.inr (Nat.le_refl _)) _).setCell (.inr (Nat.le_refl _)) _).setCell (.inr (Nat.le_succ _)) _).setCell (.inr (Nat.le_succ _)) _).drew
end Go.Proofs.YtajnjmjogaacpaaGreat
