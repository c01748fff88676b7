/- keep and leave. -/
import Derived.Test.YtgenjhcpcjhpmaaTB
namespace Go.Proofs.Ytgenjhcpcjhpmaa
open Go.RowKit
set_option linter.unusedVariables false

theorem take_succ_filter (Z : List TV) (K : TV → Bool) (i : Nat) (x : TV) (h : Z[i]? = some x) : (Z.take (i + 1)).filter K = (Z.take i).filter K ++ (if K x = true then [x] else []) := by
  rw [List.take_add_one, h, List.filter_append]
  simp [List.filter_cons]
theorem filter_le (Z : List TV) (K : TV → Bool) (i : Nat) : ((Z.take i).filter K).length ≤ i := Nat.le_trans (List.length_filter_le _ _) (by simp; omega)
set_option maxHeartbeats 1000000 in
theorem c_keep (w : World) (g n room : Nat) (Z : List TV) (hZ : Rw w g Z) (hl : Z.length = room) (hn : n ≤ room) (h64 : room ≤ 64) (N : FuncId) (caps : Array Value) (K : TV → Bool)
    (e0 : ∀ args w, (callFunc N args).run Try.prog w = .ok (.enter N args) w)
    (hK : ∀ wr x, Only (· = g) w wr → Calls Try.prog N (#[x.ag] ++ caps) wr fun e w' => e = .returned (.bool (K x)) ∧ Below wr.heap.size wr w') :
    Calls Try.prog 30 #[.slice (some ⟨g, 0, none⟩) n room, .func (.func N) #[] caps] w fun e w' => e = .returned (.slice (some ⟨g, 0, none⟩) ((Z.take n).filter K).length room) ∧ Only (· = g) w w' ∧ ∃ Z', Rw w' g Z' ∧ Z'.length = room ∧ Z'.take ((Z.take n).filter K).length = (Z.take n).filter K := by
  have HZ := hid hZ
  have HK := hid hK
  clear hZ hK
  go_enter Try.func30, Try.ntmps30
  go_wp2_with fail
  go_loopw [5, 12] (fun s i wr => ∃ (k : Nat) (Y : List TV), k ≤ n ∧ i = .int .i64 k ∧ s = .slice (some ⟨g, 0, none⟩) ((Z.take k).filter K).length room ∧ Rw wr g Y ∧ Y.length = room ∧ Y.take ((Z.take k).filter K).length = (Z.take k).filter K ∧ (∀ j, k ≤ j → Y[j]? = Z[j]?) ∧ Only (· = g) w wr) (fun _ i _ => n - (intOf i).toNat)
  case atStart => exact ⟨0, Z, by omega, rfl, by simp, HZ.out, hl, by simp, fun _ _ => rfl, Only.refl w⟩
  case round =>
    obtain ⟨k, Y, hk, rfl, rfl, hY, hYl, hYt, hYr, ho⟩ := hrel
    have HY := hid hY
    have HYt := hid hYt
    have HYr := hid hYr
    have HO := hid ho
    have hfl := filter_le Z K k
    have HF := hid hfl
    obtain ⟨m, hm⟩ : ∃ m, ((Z.take k).filter K).length = m := ⟨_, rfl⟩
    rw [hm] at HYt hfl ⊢
    have HMm := hid hm
    clear hY hYt hYr ho hm HF
    by_cases hlt : k < n
    · obtain ⟨x, hx⟩ : ∃ x, Z[k]? = some x := ⟨_, List.getElem?_eq_getElem (by omega)⟩
      have HX := hid hx
      obtain ⟨x0, x1, x2, x3⟩ := HY.out.cs ((HYr.out k (Nat.le_refl _)).trans hx)
      have HS := hid (take_succ_filter Z K k x hx)
      clear hx
      cases hb : K x
      · go_wp2_with (refine (HK.out _ x (HO.out.alloc _)).mono ?_; rintro e w1 ⟨rfl, hb1⟩; have HB1 := hid hb1; clear hb1)
        go_roundw
        case rel =>
          have e1 : (Z.take (k + 1)).filter K = (Z.take k).filter K := by rw [HS.out, hb]; simp
          exact ⟨k + 1, Y, by omega, by go_num, by rw [e1, HMm.out], (show Rw (wr.alloc _) g Y from (Below.heap_alloc wr _ _ HY.out.lt).trans HY.out).below HB1.out, hYl, by rw [e1, HMm.out]; exact HYt.out, fun j hj => HYr.out j (by omega), (HO.out.alloc _).trans (.ofBelow HB1.out)⟩
        case measure => simp [intOf]; omega
      · have HA : Hid (∀ w1, Below (wr.alloc (Obj.cells x.cs.toArray 33)).heap.size (wr.alloc (Obj.cells x.cs.toArray 33)) w1 → Rw w1 wr.heap.size [x]) := fun w1 hb1 => (hb1.block _ (by simp)).trans (by unfold TV.cs; rw [heap_alloc_new]; simp [flat, TV.cs])
        go_wp2_with (first
          | (refine (HK.out _ x (HO.out.alloc _)).mono ?_; rintro e w1 ⟨rfl, hb1⟩; have HB1 := hid hb1; have HR := hid (HA.out w1 hb1); obtain ⟨y0, y1, y2, y3⟩ := Rw.cs HR.out (i := 0) (x := x) rfl; simp only [Nat.zero_mul, Nat.zero_add] at y0 y1 y2 y3; have HY1 := hid ((show Rw (wr.alloc _) g Y from (Below.heap_alloc wr _ _ HY.out.lt).trans HY.out).below hb1); clear hb1)
          | (at_builtin; refine wpL_append rfl _ _ rfl g m room Y rfl ((Below.heap_alloc w1 _ _ HY1.out.lt).trans HY1.out) (by omega) (by omega) w1.heap.size 1 x rfl (by
              intro j u hj
              unfold TV.cs at hj
              match j, hj with
              | 0, hj => simp at hj; subst hj; simp
              | 1, hj => simp at hj; subst hj; simp
              | 2, hj => simp at hj; subst hj; simp
              | 3, hj => simp at hj; subst hj; simp) ?_; intro w2 hY2 ho2; have HY2 := hid hY2; have HO2 := hid ho2; clear hY2 ho2))
        go_roundw
        case rel =>
          have e1 : (Z.take (k + 1)).filter K = (Z.take k).filter K ++ [x] := by rw [HS.out, hb]; simp
          have e2 : ((Z.take (k + 1)).filter K).length = m + 1 := by rw [e1, List.length_append, HMm.out]; rfl
          refine ⟨k + 1, Y.set m x, by omega, by go_num, by rw [e2], HY2.out, by simpa using hYl, ?_, fun j hj => ?_, ?_⟩
          · rw [e2, e1, ← HYt.out, List.take_add_one, List.getElem?_set_self (by omega), List.take_set_of_le (Nat.le_refl _)]; rfl
          · rw [List.getElem?_set_ne (by omega)]; exact HYr.out j (by omega)
          · exact ((HO.out.alloc _).trans (.ofBelow HB1.out)).trans ((Only.refl (S := (· = g)) w1).alloc _ |>.trans HO2.out)
        case measure => simp [intOf]; omega
    · obtain rfl : k = n := by omega
      by_cases hrm : room = m
      · obtain rfl := hrm
        obtain rfl : k = room := by omega
        have hr0 : (Builtin.clear_ #[43] 0 #[.slice (some ⟨g, 0, none⟩) 0 0]).run Try.prog wr = .ok (.tuple #[]) wr := by simp [Builtin.clear_, run_underlying u_sT]
        go_wp2_with fail
        go_ret
        exact ⟨by rw [HMm.out]; rfl, HO.out, Y, HY.out, hYl, by rw [HMm.out, HYt.out]⟩
      · obtain ⟨w2, hr, ho2, Z2, h1, h2, h3⟩ := run_clear wr g m (k - m) (room - m) Y HY.out (by omega) 0
        have HO2 := hid ho2
        have HZ2 := hid h1
        have HL2 := hid h2
        have HT2 := hid h3
        clear ho2 h1 h2 h3
        go_wp2_with fail
        go_ret
        refine ⟨by rw [HMm.out]; rfl, HO.out.trans HO2.out, Z2, HZ2.out, by rw [HL2.out, hYl], by rw [HMm.out, HT2.out, HYt.out]⟩

/-- a TLB as it stands: its struct at p, its row at g -/
structure TM (w : World) (p g room : Nat) (L : List TV) : Prop where
  top : w.heap[p]? = some (.cells #[.int .i64 room, .slice (some ⟨g, 0, none⟩) L.length room] 52 (0, 0))
  row : ∃ Z, Rw w g Z ∧ Z.length = room ∧ Z.take L.length = L
  len : L.length ≤ room
  r0 : 0 < room
  r1 : room ≤ 64
abbrev Ft (p g : Nat) : Nat → Prop := fun k => k = p ∨ k = g
section
variable {w : World} {p g room : Nat} {L : List TV}
theorem TM.lt (h : TM w p g room L) {k : Nat} (hk : Ft p g k) : k < w.heap.size := by
  obtain ⟨Z, hZ, _⟩ := h.row
  rcases hk with rfl | rfl
  · exact lt_of_block h.top
  · exact hZ.lt
theorem TM.ne (h : TM w p g room L) : p ≠ g := by
  obtain ⟨Z, hZ, _⟩ := h.row
  rintro rfl
  have := h.top.symm.trans hZ
  simp at this
theorem TM.only {w' : World} (h : TM w p g room L) {S : Nat → Prop} (ho : Only S w w') (hd : ∀ k, Ft p g k → ¬ S k) : TM w' p g room L := by
  obtain ⟨Z, hZ, h1, h2⟩ := h.row
  exact ⟨ho.old h.top (hd _ (.inl rfl)), ⟨Z, ho.old hZ (hd _ (.inr rfl)), h1, h2⟩, h.len, h.r0, h.r1⟩
theorem TM.below {w' : World} (h : TM w p g room L) (hb : Below w.heap.size w w') : TM w' p g room L := h.only (S := fun _ => False) (.ofBelow hb) fun _ _ q => q
theorem TM.c0 (h : TM w p g room L) : w.cell? ⟨p, 0, none⟩ = some (.int .i64 room) := by rw [cell_of_row w _ 0 _ _ _ h.top]; rfl
theorem TM.c1 (h : TM w p g room L) : w.cell? ⟨p, 1, none⟩ = some (.slice (some ⟨g, 0, none⟩) L.length room) := by rw [cell_of_row w _ 1 _ _ _ h.top]; rfl
theorem TM.z (h : TM w p g room L) (j : Nat) : w.frozen? ⟨p, j, none⟩ = false := frozen_of_row w p j _ _ h.top
end
theorem c_leave (w : World) (p g room : Nat) (L : List TV) (h : TM w p g room L) (N : FuncId) (caps : Array Value) (K : TV → Bool)
    (e0 : ∀ args w, (callFunc N args).run Try.prog w = .ok (.enter N args) w)
    (hK : ∀ wr x, Only (· = g) w wr → Calls Try.prog N (#[x.ag] ++ caps) wr fun e w' => e = .returned (.bool (K x)) ∧ Below wr.heap.size wr w') :
    Calls Try.prog 25 #[.pointer (some ⟨p, 0, none⟩), .func (.func N) #[] caps] w fun e w' => e = .returned (.tuple #[]) ∧ TM w' p g room (L.filter K) ∧ Only (Ft p g) w w' := by
  have hne := h.ne
  obtain ⟨Z, hZ, hl, ht⟩ := h.row
  have c1 := h.c1
  have H := hid h
  have HZ := hid hZ
  have HT := hid ht
  have HKK := hid hK
  have hn := h.len
  have h64 := h.r1
  clear h hZ ht hK
  go_enter Try.func25, Try.ntmps25
  go_wp2_with (go_at_call 30; refine (c_keep _ g L.length room Z HZ.out hl hn h64 N caps K e0 HKK.out).mono ?_; rintro e w1 ⟨rfl, ho, Z', hZ', hl', ht'⟩; have HO := hid ho; have HZ' := hid hZ'; have HL' := hid hl'; have HT' := hid ht'; have hp1 := hid (HO.out.old H.out.top hne); have k1 : w1.cell? ⟨p, 1, none⟩ = some (.slice (some ⟨g, 0, none⟩) L.length room) := (by rw [cell_of_row w1 _ 1 _ _ _ hp1.out]; rfl); have z1 : w1.frozen? ⟨p, 1, none⟩ = false := frozen_of_row w1 _ 1 _ _ hp1.out; clear ho hZ' hl' ht')
  go_returns
  rw [HT.out] at HT'
  refine ⟨rfl, ⟨?_, ⟨Z', (Below.heap_setCell w1 ⟨p, 1, none⟩ _ g (Ne.symm hne)).trans HZ'.out, HL'.out, HT'.out⟩, Nat.le_trans (List.length_filter_le _ _) hn, H.out.r0, h64⟩, ?_⟩
  · rw [heap_setCell_same _ _ 1 _ _ _ hp1.out, HT.out]; rfl
  · exact (HO.out.mono fun k _ q => .inr q).setCell (.inl (.inl rfl)) _
end Go.Proofs.Ytgenjhcpcjhpmaa
