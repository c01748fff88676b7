/- A TLB: Put. -/
import Derived.Test.YtgenjhcpcjhpmaaTE
namespace Go.Proofs.Ytgenjhcpcjhpmaa
open Go.RowKit
set_option linter.unusedVariables false

theorem Only.rw {S : Nat → Prop} {a w : World} (h : Only S a w) {k : Nat} {Z : List TV} (hk : Rw a k Z) (hs : ¬ S k) : Rw w k Z := h.old hk hs
theorem cells1 {w : World} {b : Nat} {x : TV} (h : Rw w b [x]) : w.cell? ⟨b, 0, none⟩ = some (.int .i64 x.v) ∧ w.cell? ⟨b, 1, none⟩ = some (.int .u64 x.p) ∧ w.cell? ⟨b, 2, none⟩ = some (.int .u64 x.f) ∧ w.cell? ⟨b, 3, none⟩ = some (.int .i64 x.r) := by
  have := h.cs (i := 0) (x := x) rfl
  simpa using this
theorem drewN_heap (w : World) (n : Nat) : (w.drewN n).heap = w.heap := by
  first | rfl | (induction n with | zero => rfl | succ n ih => exact ih)
theorem drewN_still (w : World) (n : Nat) : Still w (w.drewN n) := by
  first | exact ⟨rfl, rfl, rfl, rfl⟩ | (induction n with | zero => exact Still.refl w | succ n ih => exact ih.drew)
theorem TM.drewN {w : World} {p g room : Nat} {L : List TV} (h : TM w p g room L) (n : Nat) : TM (w.drewN n) p g room L := h.below ((drewN_still w n).below _)
theorem Rw.drewN {w : World} {g : Nat} {Z : List TV} (h : Rw w g Z) (n : Nat) : Rw (w.drewN n) g Z := h.below ((drewN_still w n).below _)
set_option maxHeartbeats 2000000 in
theorem c_Put (w : World) (p g room : Nat) (L : List TV) (h : TM w p g room L) (e : TV) : Calls Try.prog 10 #[.pointer (some ⟨p, 0, none⟩), e.ag] w fun r w' => r = .returned (.tuple #[]) ∧ TM w' p g room (pu room L e) ∧ Only (Ft p g) w w' := by
  have hpl := h.lt (.inl rfl)
  have hgl := h.lt (.inr rfl)
  have h64 := h.r1
  have h00 := h.r0
  have H : Hid (TM (w.alloc (.cells #[.int .i64 e.v, .int .u64 e.p, .int .u64 e.f, .int .i64 e.r] 33)) p g room L) := h.below ((Below.refl _ _).alloc (Nat.le_refl _) _)
  have HE : Hid (Rw (w.alloc (.cells #[.int .i64 e.v, .int .u64 e.p, .int .u64 e.f, .int .i64 e.r] 33)) w.heap.size [e]) := by show _ = _; rw [heap_alloc_new]; rfl
  have HN : Hid (¬ Ft p g w.heap.size) := by rintro (q | q) <;> omega
  clear h
  by_cases hf : (fp L e.v e.p).length = room
  · have HFU : Hid (pu room L e = ev (fp L e.v e.p) ++ [e]) := by show _ = _; unfold pu; rw [if_pos hf]
    obtain ⟨y, hy⟩ : ∃ y, (fp L e.v e.p)[0]? = some y := ⟨_, List.getElem?_eq_getElem (by omega)⟩
    have HEV : Hid (ev (fp L e.v e.p) = fp (fp L e.v e.p) y.v y.p) := by
      show _ = _
      generalize fp L e.v e.p = M at hy
      cases M with
      | nil => simp at hy
      | cons z M => simp at hy; subst hy; rfl
    have HLT : Hid ((ev (fp L e.v e.p)).length < room) := by have := ev_lt (M := fp L e.v e.p) (by omega); show _ < _; omega
    have HY := hid hy
    generalize hM : fp L e.v e.p = M at *
    have HMM := hid hM
    clear hy hM
    go_enter Try.func10, Try.ntmps10
    go_wp2_with (go_at_call 18; refine (c_FlushPage _ p g room L H.out e.v e.p).mono ?_; rintro r w1 ⟨rfl, hm, ho⟩; rw [HMM.out] at hm; have HM1 := hid hm; have HO1 := hid ho; have HE1 := hid (ho.rw HE.out HN.out); have k0 := hm.c0; have k1 := hm.c1; rw [hf] at k1; clear hm ho)
    go_quiet (fail)
    go_wp2_with (go_at_call 14; refine (c_Evict _ p g room M (HM1.out.drewN _) 0 y HY.out 0 rfl).mono ?_; rintro r w2 ⟨rfl, hm, ho⟩; rw [← HEV.out] at hm; have HM2 := hid hm; have HO2 := hid ho; have HE2 := hid (ho.rw (HE1.out.drewN _) HN.out); have q1 := hm.c1; have q2 := hm.z 1; obtain ⟨y0, y1, y2, y3⟩ := cells1 HE2.out; clear hm ho)
    obtain ⟨Z, hZ, hl, ht⟩ := HM2.out.row
    have HZ := hid hZ
    have HT := hid ht
    have hlt := HLT.out
    have hb2 := HE2.out.lt
    clear hZ ht
    have HP2 := hid (HM2.out.top)
    have hp2 := lt_of_block HP2.out
    go_region_law (refine step_append rfl (.tmp 26) (.tmp 28) rfl g (ev M).length room Z (by go_simp) ((Below.heap_alloc w2.drew _ _ HZ.out.lt).trans HZ.out) (by omega) (by omega) w2.heap.size 1 e (by go_simp) (by
        intro j u hj
        unfold TV.cs at hj
        match j, hj with
        | 0, hj => simp at hj; subst hj; simp
        | 1, hj => simp at hj; subst hj; simp
        | 2, hj => simp at hj; subst hj; simp
        | 3, hj => simp at hj; subst hj; simp) ?_; intro w3 hY3 ho3; have HY3 := hid hY3; have HO3 := hid ho3; have u1 := hid (ho3.old ((Below.heap_alloc w2.drew _ _ (lt_of_block HP2.out)).trans HP2.out) (TM.ne HM2.out)); have v1 : w3.cell? ⟨p, 1, none⟩ = some (.slice (some ⟨g, 0, none⟩) (ev M).length room) := (by rw [cell_of_row w3 _ 1 _ _ _ u1.out]; rfl); have v2 : w3.frozen? ⟨p, 1, none⟩ = false := frozen_of_row w3 _ 1 _ _ u1.out; clear hY3 ho3)
    all_goals
      go_returns
      rw [HFU.out]
      refine ⟨rfl, TM.push (w := (w2.alloc _).drew) (Z := Z) (TM.below HM2.out (((Below.refl _ _).alloc (Nat.le_refl _) _).drew)) hlt (HZ.out.below (((Below.refl _ _).alloc (Nat.le_refl _) _).drew)) hl HT.out HY3.out HO3.out, ?_⟩
      exact ((((Only.refl w).alloc _).trans HO1.out).trans ((drewN_still w1 nq).only.trans HO2.out)).trans' (((Only.refl w2).alloc _).drew.trans (HO3.out.mono (T := (· = g)) fun _ _ q => q)) (fun _ _ q => .inr q) |>.setCell (.inl (.inl rfl)) _
  · have HFU : Hid (pu room L e = fp L e.v e.p ++ [e]) := by show _ = _; unfold pu; rw [if_neg hf]
    have hle := fp_le L e.v e.p
    have hln := H.out.len
    generalize hM : fp L e.v e.p = M at *
    have HMM := hid hM
    clear hM
    have hlt : M.length < room := by omega
    go_enter Try.func10, Try.ntmps10
    go_wp2_with (go_at_call 18; refine (c_FlushPage _ p g room L H.out e.v e.p).mono ?_; rintro r w1 ⟨rfl, hm, ho⟩; rw [HMM.out] at hm; have HM1 := hid hm; have HO1 := hid ho; have HE1 := hid (ho.rw HE.out HN.out); have k0 := hm.c0; have k1 := hm.c1; have k2 := hm.z 1; obtain ⟨y0, y1, y2, y3⟩ := cells1 HE1.out; clear hm ho)
    go_quiet (fail)
    go_wp2_with fail
    obtain ⟨w2, hw2⟩ : ∃ w2, w2 = w1.drewN nq := ⟨_, rfl⟩
    have HM2 : Hid (TM w2 p g room M) := by rw [hw2]; exact HM1.out.drewN nq
    have HO2 : Hid (Only (Ft p g) w1 w2) := by rw [hw2]; exact (drewN_still w1 nq).only
    have HE2 : Hid (Rw w2 w.heap.size [e]) := by rw [hw2]; exact HE1.out.drewN nq
    rw [← hw2]
    have q1 := HM2.out.c1
    have q2 := HM2.out.z 1
    clear hw2 k0 k1 k2 y0 y1 y2 y3
    obtain ⟨y0, y1, y2, y3⟩ := cells1 HE2.out
    obtain ⟨Z, hZ, hl, ht⟩ := HM2.out.row
    have HZ := hid hZ
    have HT := hid ht
    have hb2 := HE2.out.lt
    clear hZ ht
    have HP2 := hid (HM2.out.top)
    have hp2 := lt_of_block HP2.out
    go_region_law (refine step_append rfl (.tmp 26) (.tmp 28) rfl g M.length room Z (by go_simp) ((Below.heap_alloc w2.drew _ _ HZ.out.lt).trans HZ.out) (by omega) (by omega) w2.heap.size 1 e (by go_simp) (by
        intro j u hj
        unfold TV.cs at hj
        match j, hj with
        | 0, hj => simp at hj; subst hj; simp
        | 1, hj => simp at hj; subst hj; simp
        | 2, hj => simp at hj; subst hj; simp
        | 3, hj => simp at hj; subst hj; simp) ?_; intro w3 hY3 ho3; have HY3 := hid hY3; have HO3 := hid ho3; have u1 := hid (ho3.old ((Below.heap_alloc w2.drew _ _ (lt_of_block HP2.out)).trans HP2.out) (TM.ne HM2.out)); have v1 : w3.cell? ⟨p, 1, none⟩ = some (.slice (some ⟨g, 0, none⟩) M.length room) := (by rw [cell_of_row w3 _ 1 _ _ _ u1.out]; rfl); have v2 : w3.frozen? ⟨p, 1, none⟩ = false := frozen_of_row w3 _ 1 _ _ u1.out; clear hY3 ho3)
    all_goals
      go_returns
      rw [HFU.out]
      refine ⟨rfl, TM.push (w := (w2.alloc _).drew) (Z := Z) (TM.below HM2.out (((Below.refl _ _).alloc (Nat.le_refl _) _).drew)) hlt (HZ.out.below (((Below.refl _ _).alloc (Nat.le_refl _) _).drew)) hl HT.out HY3.out HO3.out, ?_⟩
      exact ((((Only.refl w).alloc _).trans HO1.out).trans (HO2.out)).trans' (((Only.refl w2).alloc _).drew.trans (HO3.out.mono (T := (· = g)) fun _ _ q => q)) (fun _ _ q => .inr q) |>.setCell (.inl (.inl rfl)) _
end Go.Proofs.Ytgenjhcpcjhpmaa
