/- A UART: In, send, tellLine, tellCause, Irq. -/
import Derived.Test.YtjkihlpckgaggaaGreatMH2
import Derived.Lib.SliceRun
import Derived.Laws.Cover3
import Derived.Test.YtjkihlpckgaggaaGreatProg
import Derived.Test.YtjkihlpckgaggaaGreatMC1
import Derived.Deep.Cut
import Derived.Great.BuildSlice
import Derived.Laws.AppendOwn
import Derived.Deep.DeepCutAuto
import Derived.Deep.CutBlock
namespace Go.Proofs.YtjkihlpckgaggaaGreat.L
open Go.RowKit
open C (Only hid Still ret_bool ret_int)
set_option linter.unusedVariables false
set_option maxRecDepth 100000

def UV.inn (v : UV) (x : Int) : UV := if v.q.length = 16 then { v with ov := true } else { v with q := v.q ++ [x] }
def UV.lin (v : UV) : Int := 96 + (if 0 < v.q.length then 1 else 0) + (if v.ov then 2 else 0)
def UV.tca (v : UV) : Int := if v.h 2 = 0 then v.cau else v.cau + 192
def UV.tcv (v : UV) : UV := if v.cau = 2 then { v with em := false } else v
theorem or_192 : ∀ c : Fin 7, bits BinOp.or IntKind.u8 (c.val : Int) 192 = (c.val : Int) + 192 := by decide +kernel
theorem cau_in (v : UV) : 0 ≤ v.cau ∧ v.cau < 7 := by
  unfold UV.cau
  split <;> (try split) <;> (try split) <;> decide
section
variable {w : World} {p : Nat} {a b : Value} {v : UV} {F : Nat → Prop}
/-- a cell of the block itself is stored -/
theorem Uo.one (h : Uo w p a b v) (hF : ∀ x, F x ↔ x = p ∨ Ug a x ∨ Ug b x) (k : Nat) (u : Value) (v' : UV) (ok : UOk v') (hq : v'.q = v.q) (hs : v'.s = v.s) (hc : (v.cells a b).setIfInBounds k u = v'.cells a b) : ∃ F', Ux (w.setCell ⟨p, k, none⟩ u) F' p v' ∧ Tn w (w.setCell ⟨p, k, none⟩ u) F F' :=
  Ux.mk hF (h.put k u v' hq hs hc) ok ((only_c w p k u).mono fun x _ z => .inl z) (fun k hk => .inl hk) fun k hk => .inl hk
end
theorem u_In (w : World) (F : Nat → Prop) (p : Nat) (v : UV) (x : Int) (h : Ux w F p v) (hx : Byt x) : Calls Tryz.prog 213 #[.pointer (some ⟨p, 0, none⟩), .int .u8 x] w fun e w' => e = .returned (.tuple #[]) ∧ ∃ F', Ux w' F' p (v.inn x) ∧ Tn w w' F F' := by
  obtain ⟨a, b, h1, ok, hF⟩ := h
  have c0 := h1.c0
  have z0 := h1.fz 0
  have c12 := h1.c12
  have z12 := h1.fz 12
  obtain ⟨ad, cp, rfl⟩ := own_form h1.q
  have hl := ok.l
  have H := hid h1
  have OK := hid ok
  have HF := hid hF
  have HX := hid hx
  clear h1 ok hF hx
  by_cases q : v.q.length = 16
  · have e1 : v.inn x = { v with ov := true } := by unfold UV.inn; rw [if_pos q]
    rw [e1]
    go_enter Tryz.func213, Tryz.ntmps213
    go_wp2
    go_returns
    exact ⟨rfl, H.out.one HF.out 12 _ { v with ov := true } ⟨OK.out.h, OK.out.d, OK.out.l, OK.out.q, OK.out.s⟩ rfl rfl rfl⟩
  · have e1 : v.inn x = { v with q := v.q ++ [x] } := by unfold UV.inn; rw [if_neg q]
    rw [e1]
    obtain ⟨i0, hi0, hz0, hz1, hz2⟩ := info_parts info_u8
    have HN := hid (one_cell w (.int .u8 x) 5)
    have HL := hid (own_below H.out.q ((Below.refl _ _).alloc (Nat.le_refl _) (.cells #[.int .u8 x] 5)))
    have hltp := lt_of_block H.out.top
    have HZ : Hid (∀ w3, (w.alloc (.cells #[.int .u8 x] 5)).grownBy w3 (Value.slice ad v.q.length cp).ownBlock → w3.heap[p]? = w.heap[p]? ∧ Only (Ug (.slice ad v.q.length cp)) w w3) := fun w3 hg =>
      ⟨(grew hg).block p hltp fun z => own_ne H.out.q H.out.top (by decide) p z rfl, grew hg⟩
    go_enter Tryz.func213, Tryz.ntmps213
    go_wp2_with (at_builtin; refine wpList_append_blk _ (.tmp 17) (.tmp 19) 23 rfl 5 i0 (.int .u8 0) 1 1 u_su8 hi0 hz0 hz1 hz2 rfl (by decide) (.slice ad v.q.length cp) v.q.length (bys v.q) rfl HL.out ⟨w.heap.size, 0, none⟩ 1 1 [.int .u8 x] rfl rfl HN.out (by intro u hu; simp at hu; subst hu; rfl) (show v.q.length + 1 ≤ 9223372036854775807 by omega) (by omega) rfl ?_; intro u' w3 hown hgrow hblk; obtain ⟨ad2, cp2, rfl⟩ := own_form hown; have HO3 := hid hown; have HG3 := hid (HZ.out w3 hgrow); have HB3 := hid hblk; have y4 : w3.cell? ⟨p, 0, none⟩ = some (.slice ad v.q.length cp) := (World.cell?_of_block (w := w) HG3.out.1).trans c0; have y8 : w3.frozen? ⟨p, 0, none⟩ = false := (World.frozen?_of_block (w := w) HG3.out.1).trans z0; clear hown hgrow hblk)
    go_returns
    refine ⟨rfl, ?_⟩
    have o3 := HO3.out
    rw [bys_app] at o3
    have hb : ∀ k, Ug (.slice ad2 (v.q.length + 1) cp2) k → Ug (.slice ad v.q.length cp) k ∨ w.heap.size ≤ k := fun k hk => (HB3.out k hk).imp id fun z => by simp at z; omega
    exact Ux.mk HF.out (H.out.newq _ (v.q ++ [x]) (by simpa using o3) HG3.out.2 hb) ⟨OK.out.h, OK.out.d, by simp; omega, fun y hy => by
      rcases List.mem_append.1 hy with z | z
      · exact OK.out.q y z
      · rw [List.mem_singleton.1 z]; exact HX.out, OK.out.s⟩ ((HG3.out.2.mono fun k _ z => .inr (.inl z)).setCell (.inl (.inl rfl)) _) hb fun k hk => .inl hk
theorem u_send (w : World) (F : Nat → Prop) (p : Nat) (v : UV) (x : Int) (h : Ux w F p v) (hx : Byt x) (hs : v.s.length < 140737488355328) : Calls Tryz.prog 220 #[.pointer (some ⟨p, 0, none⟩), .int .u8 x] w fun e w' => e = .returned (.tuple #[]) ∧ ∃ F', Ux w' F' p { v with s := v.s ++ [x], em := true } ∧ Tn w w' F F' := by
  obtain ⟨a, b, h1, ok, hF⟩ := h
  have c0 := h1.c1
  have z0 := h1.fz 1
  have c13 := h1.c13
  have z13 := h1.fz 13
  obtain ⟨ad, cp, rfl⟩ := own_form h1.s
  have H := hid h1
  have OK := hid ok
  have HF := hid hF
  have HX := hid hx
  clear h1 ok hF hx
  obtain ⟨i0, hi0, hz0, hz1, hz2⟩ := info_parts info_u8
  have HN := hid (one_cell w (.int .u8 x) 5)
  have HL := hid (own_below H.out.s ((Below.refl _ _).alloc (Nat.le_refl _) (.cells #[.int .u8 x] 5)))
  have hltp := lt_of_block H.out.top
  have HZ : Hid (∀ w3, (w.alloc (.cells #[.int .u8 x] 5)).grownBy w3 (Value.slice ad v.s.length cp).ownBlock → w3.heap[p]? = w.heap[p]? ∧ Only (Ug (.slice ad v.s.length cp)) w w3) := fun w3 hg =>
    ⟨(grew hg).block p hltp fun z => own_ne H.out.s H.out.top (by decide) p z rfl, grew hg⟩
  go_enter Tryz.func220, Tryz.ntmps220
  go_wp2_with (at_builtin; refine wpList_append_blk _ (.tmp 8) (.tmp 10) 23 rfl 5 i0 (.int .u8 0) 1 1 u_su8 hi0 hz0 hz1 hz2 rfl (by decide) (.slice ad v.s.length cp) v.s.length (bys v.s) rfl HL.out ⟨w.heap.size, 0, none⟩ 1 1 [.int .u8 x] rfl rfl HN.out (by intro u hu; simp at hu; subst hu; rfl) (show v.s.length + 1 ≤ 9223372036854775807 by omega) (by omega) rfl ?_; intro u' w3 hown hgrow hblk; obtain ⟨ad2, cp2, rfl⟩ := own_form hown; have HO3 := hid hown; have HG3 := hid (HZ.out w3 hgrow); have HB3 := hid hblk; have y4 : w3.cell? ⟨p, 1, none⟩ = some (.slice ad v.s.length cp) := (World.cell?_of_block (w := w) HG3.out.1).trans c0; have y8 : w3.frozen? ⟨p, 1, none⟩ = false := (World.frozen?_of_block (w := w) HG3.out.1).trans z0; have y9 : w3.cell? ⟨p, 13, none⟩ = some (.bool v.em) := (World.cell?_of_block (w := w) HG3.out.1).trans c13; have y10 : w3.frozen? ⟨p, 13, none⟩ = false := (World.frozen?_of_block (w := w) HG3.out.1).trans z13; clear hown hgrow hblk)
  go_returns
  refine ⟨rfl, ?_⟩
  have o3 := HO3.out
  rw [bys_app] at o3
  have hb : ∀ k, Ug (.slice ad2 (v.s.length + 1) cp2) k → Ug (.slice ad v.s.length cp) k ∨ w.heap.size ≤ k := fun k hk => (HB3.out k hk).imp id fun z => by simp at z; omega
  have h2 := H.out.news _ (v.s ++ [x]) (by simpa using o3) HG3.out.2 hb
  exact Ux.mk HF.out (h2.put 13 (.bool true) { v with s := v.s ++ [x], em := true } rfl rfl rfl) ⟨OK.out.h, OK.out.d, OK.out.l, OK.out.q, fun y hy => by
      rcases List.mem_append.1 hy with z | z
      · exact OK.out.s y z
      · rw [List.mem_singleton.1 z]; exact HX.out⟩ (((HG3.out.2.mono fun k _ z => .inr (.inr z)).setCell (.inl (.inl rfl)) _).setCell (.inl (.inl rfl)) _) (fun k hk => .inl hk) hb
theorem u_tellLine (w : World) (F : Nat → Prop) (p : Nat) (v : UV) (h : Ux w F p v) : Calls Tryz.prog 219 #[.pointer (some ⟨p, 0, none⟩)] w fun e w' => e = .returned (.int .u8 v.lin) ∧ ∃ F', Ux w' F' p { v with ov := false } ∧ Tn w w' F F' := by
  obtain ⟨a, b, h1, ok, hF⟩ := h
  have c0 := h1.c0
  have c12 := h1.c12
  have z12 := h1.fz 12
  obtain ⟨ad, cp, rfl⟩ := own_form h1.q
  have HP := hid (h1.one hF 12 (.bool false) { v with ov := false } ⟨ok.h, ok.d, ok.l, ok.q, ok.s⟩ rfl rfl rfl)
  have hl := ok.l
  have HC : Hid (v.lin = 96 + (if 0 < v.q.length then 1 else 0) + (if v.ov then 2 else 0)) := rfl
  clear h1 ok hF
  generalize v.lin = c at *
  cases e : v.ov <;> rw [e] at c12 HC <;> by_cases hn : 0 < v.q.length <;>
  (go_enter Tryz.func219, Tryz.ntmps219
   go_wp2
   go_ret
   refine ⟨ret_int ?_, HP.out⟩
   rw [HC.out]
   simp [hn]
   first | done | decide)
theorem u_tellCause (w : World) (F : Nat → Prop) (p : Nat) (v : UV) (h : Ux w F p v) : Calls Tryz.prog 218 #[.pointer (some ⟨p, 0, none⟩)] w fun e w' => e = .returned (.int .u8 v.tca) ∧ ∃ F', Ux w' F' p v.tcv ∧ Tn w w' F F' := by
  obtain ⟨a, b, h1, ok, hF⟩ := h
  have hc := u_cause w p a b v h1 ok
  have c4 := h1.c4
  have c13 := h1.c13
  have z13 := h1.fz 13
  obtain ⟨b0, b1⟩ := cau_in v
  have HO : Hid (bits BinOp.or IntKind.u8 v.cau 192 = v.cau + 192) := by
    have := or_192 ⟨v.cau.toNat, by omega⟩
    simp only [Int.toNat_of_nonneg b0] at this
    exact this
  have HT : Hid (v.tca = if v.h 2 = 0 then v.cau else v.cau + 192) := rfl
  generalize v.tca = c at *
  by_cases q : v.cau = 2
  · have e1 : v.tcv = { v with em := false } := by unfold UV.tcv; rw [if_pos q]
    rw [e1]
    have HP := hid (h1.one hF 13 (.bool false) { v with em := false } ⟨ok.h, ok.d, ok.l, ok.q, ok.s⟩ rfl rfl rfl)
    clear h1 ok hF
    by_cases r : v.h 2 = 0 <;>
    (go_enter Tryz.func218, Tryz.ntmps218
     go_wp2_with (go_at_call 70; refine hc.mono ?_; rintro e w' ⟨rfl, hw⟩; obtain rfl := hw.symm)
     go_ret
     refine ⟨ret_int ?_, HP.out⟩
     rw [HT.out]
     have := HO.out
     simp_all)
  · have e1 : v.tcv = v := by unfold UV.tcv; rw [if_neg q]
    rw [e1]
    have HP : Hid (∃ F', Ux w F' p v ∧ Tn w w F F') := ⟨F, ⟨a, b, h1, ok, hF⟩, .refl w F⟩
    clear h1 ok hF
    by_cases r : v.h 2 = 0 <;>
    (go_enter Tryz.func218, Tryz.ntmps218
     go_wp2_with (go_at_call 70; refine hc.mono ?_; rintro e w' ⟨rfl, hw⟩; obtain rfl := hw.symm)
     go_ret
     refine ⟨ret_int ?_, HP.out⟩
     rw [HT.out]
     have := HO.out
     simp_all)
theorem u_Irq (w : World) (F : Nat → Prop) (p : Nat) (v : UV) (h : Ux w F p v) : Calls Tryz.prog 53 #[.pointer (some ⟨p, 0, none⟩)] w fun e w' => e = .returned (.bool (v.cau != 1)) ∧ w' = w := by
  obtain ⟨a, b, h1, ok, hF⟩ := h
  have hc := u_cause w p a b v h1 ok
  obtain ⟨b0, b1⟩ := cau_in v
  clear h1 ok hF
  generalize v.cau = c at *
  go_enter Tryz.func53, Tryz.ntmps53
  go_wp2_with (go_at_call 70; refine hc.mono ?_; rintro e w' ⟨rfl, hw⟩; obtain rfl := hw.symm)
  go_ret
  exact ⟨rfl, rfl⟩
end Go.Proofs.YtjkihlpckgaggaaGreat.L
namespace Go.Proofs.YtjkihlpckgaggaaGreat.L
open Go.RowKit
open C (Only hid Still ret_bool ret_int)
set_option linter.unusedVariables false
set_option maxRecDepth 100000

/-- cells stored one after another: the block behind it -/
theorem cells_put (g : Nat) (t : TypeId) : ∀ (vs : List Value) (o : Nat) (w : World) (cur : Array Value), w.heap[g]? = some (.cells cur t (0, 0)) → o + vs.length ≤ cur.size →
    ∃ cur', (w.setCells g o vs).heap[g]? = some (.cells cur' t (0, 0)) ∧ cur'.size = cur.size ∧ (∀ j, j < o → cur'[j]? = cur[j]?) ∧ (∀ j, j < vs.length → cur'[o + j]? = vs[j]?) ∧ (∀ j, o + vs.length ≤ j → cur'[j]? = cur[j]?) ∧ Only (· = g) w (w.setCells g o vs)
  | [], o, w, cur, h, _ => ⟨cur, h, rfl, fun _ _ => rfl, fun j hj => by simp at hj, fun _ _ => rfl, .refl w⟩
  | v :: r, o, w, cur, h, hl => by
    simp only [List.length_cons] at hl
    obtain ⟨cur', h1, h2, h3, h4, h5, h6⟩ := cells_put g t r (o + 1) (w.setCell ⟨g, o, none⟩ v) (cur.setIfInBounds o v) (setRowB w g o _ _ _ _ h rfl) (by simp; omega)
    refine ⟨cur', h1, by rw [h2]; simp, fun j hj => ?_, fun j hj => ?_, fun j hj => ?_, (only_c w g o v).trans h6⟩
    · rw [h3 j (by omega), Array.getElem?_setIfInBounds, if_neg (by omega)]
    · rcases Nat.eq_zero_or_pos j with z | z
      · subst z
        rw [Nat.add_zero, h3 o (by omega), Array.getElem?_setIfInBounds, if_pos rfl, if_pos (by omega)]
        rfl
      · obtain ⟨i, rfl⟩ : ∃ i, j = i + 1 := ⟨j - 1, by omega⟩
        rw [show o + (i + 1) = o + 1 + i by omega, h4 i (by simp at hj; omega)]
        rfl
    · simp only [List.length_cons] at hj
      rw [h5 j (by omega), Array.getElem?_setIfInBounds, if_neg (by omega)]
theorem zero_u8 (w : World) : (zeroValue 5).run Tryz.prog w = .ok (.int .u8 0) w := Tryz.zeroValue5 w
theorem l_Delete (w : World) (g n cap : Nat) (cur : Array Value) (x : Int) (l : List Int) (hg : w.heap[g]? = some (.cells cur 5 (0, 0))) (hs : cur.size = cap) (hn : n = l.length + 1) (hc : n ≤ cap) (hm : cap ≤ 9223372036854775807) (ht : cur.toList.take n = bys (x :: l)) :
    Calls Tryz.prog 100 #[.slice (some ⟨g, 0, none⟩) n cap, .int .i64 0, .int .i64 1] w fun e w' => e = .returned (.slice (some ⟨g, 0, none⟩) (n - 1) cap) ∧ w'.ownsRow 0 5 1 (.slice (some ⟨g, 0, none⟩) (n - 1) cap) l.length (bys l) ∧ Only (· = g) w w' := by
  obtain ⟨i0, hi0, hz0, hz1, hz2⟩ := info_parts info_u8
  have hget : ∀ j, j < n → cur[j]? = (bys (x :: l))[j]? := fun j hj => by
    rw [← ht, List.getElem?_take_of_lt hj]; simp
  obtain ⟨cu1, k1, k2, k3, k4, k5, k6⟩ := cells_put g 5 (bys l) 0 w.drew cur hg (by rw [bys_len]; omega)
  obtain ⟨W1, hW1⟩ : ∃ W1, W1 = w.drew.setCells g (0 + 0 * 1) (bys l) := ⟨_, rfl⟩
  have hW1' : W1 = w.drew.setCells g 0 (bys l) := hW1
  rw [← hW1'] at k1 k6
  obtain ⟨cu2, m1, m2, m3, m4, m5, m6⟩ := cells_put g 5 [.int .u8 0] (n - 1) W1 cu1 k1 (by simp; omega)
  have hcell : ∀ (W : World) (c : Array Value), W.heap[g]? = some (.cells c 5 (0, 0)) → ∀ j, j < c.size → (W.cell? ⟨g, j, none⟩).isSome = true ∧ W.frozen? ⟨g, j, none⟩ = false := fun W c hW j hj => by
    refine ⟨?_, frozen_of_row W g j _ _ hW⟩
    rw [cell_of_row W g j _ _ _ hW]
    simp [hj]
  have hcl : ∀ ty, (Builtin.clear_ #[23] ty #[.slice (some ⟨g, n - 1, none⟩) 1 (cap - (n - 1))]).run Tryz.prog W1 = .ok (.tuple #[]) (W1.setCells g (n - 1) (List.replicate 1 (.int .u8 0))) := fun ty =>
    Lib.run_clear_slice W1 _ _ ty _ u_su8 zero_u8 rfl rfl g (n - 1) 1 _ (by omega) (fun j hj => (hcell W1 cu1 k1 _ (by omega)).1) (fun j hj => (hcell W1 cu1 k1 _ (by omega)).2)
  obtain ⟨A, hA, hsrc⟩ : ∃ A : Addr, (if cap = 1 then some (⟨g, 0, none⟩ : Addr) else some ⟨g, 1, none⟩) = some A ∧ Hid (∀ t u, (bys l)[t]? = some u → w.drew.cell? (A.add t) = some u) := by
    by_cases h : cap = 1
    · refine ⟨⟨g, 0, none⟩, by simp [h], fun t u hu => ?_⟩
      have h0 : (bys l).length = 0 := by rw [bys_len]; omega
      rw [List.length_eq_zero_iff.1 h0] at hu
      simp at hu
    · refine ⟨⟨g, 1, none⟩, by simp [h], fun t u hu => ?_⟩
      have ht' : t < l.length := by
        have := (List.getElem?_eq_some_iff.1 hu).1
        rwa [bys_len] at this
      rw [C.addr_add]
      show w.cell? _ = _
      rw [cell_of_row w g _ _ _ _ hg, hget _ (by omega), Nat.add_comm]
      exact hu
  have s1 : Hid ((bys l).length = l.length * 1) := by rw [bys_len, Nat.mul_one]; rfl
  have s3 : Hid (∀ t, t < (bys l).length → (w.drew.cell? ⟨g, 0 + 0 * 1 + t, none⟩).isSome = true ∧ w.drew.frozen? ⟨g, 0 + 0 * 1 + t, none⟩ = false) := fun t h => by
    rw [bys_len] at h
    have := hcell w cur hg (0 + 0 * 1 + t) (by omega)
    exact this
  have hW : Hid (W1 = w.drew.setCells g (0 + 0 * 1) (bys l)) := hW1
  have HE : Hid (((W1.setCells g (n - 1) [.int .u8 0]).ownsRow 0 5 1 (.slice (some ⟨g, 0, none⟩) (n - 1) cap) l.length (bys l)) ∧ Only (· = g) w (W1.setCells g (n - 1) [.int .u8 0])) := by
    refine ⟨⟨by rw [bys_len]; omega, .inr ⟨g, cap, cu2, by rw [hn]; rfl, Nat.zero_le _, m1, by omega, hm, by rw [m2, k2]; omega, ?_⟩⟩, (show Only (· = g) w W1 from ⟨k6.os, k6.tape, k6.output, k6.size, k6.block⟩).trans m6⟩
    apply List.ext_getElem?
    intro j
    rcases Nat.lt_or_ge j l.length with z | z
    · rw [List.getElem?_take_of_lt (by omega), Array.getElem?_toList, m3 j (by omega)]
      have := k4 j (by rw [bys_len]; exact z)
      rwa [Nat.zero_add] at this
    · rw [List.getElem?_eq_none (by simp; omega), List.getElem?_eq_none (by rw [bys_len]; omega)]
  subst hn
  simp only [Nat.add_sub_cancel] at *
  have h1l : (1 : Int) ≤ (l.length : Int) + 1 := by omega
  clear hW1 hW1' k1 k2 k3 k4 k5 k6 m1 m2 m3 m4 m5 m6 hcell hget ht hg
  go_enter Tryz.func100, Tryz.ntmps100
  go_wp2_with fail
  go_region_law (refine step_append_room rfl (.tmp 22) (.tmp 25) 23 rfl 5 i0 1 u_su8 hi0 hz1 g 0 0 cap (by simp [Act.eval, Act.put]) A l.length (cap - 1) (bys l) (by simp [Act.eval, Act.put]) s1.out hsrc.out (bys_one l) (by omega) s3.out ?_; rw [← hW.out])
  go_wp2
  go_ret
  exact ⟨rfl, HE.out.1, HE.out.2⟩
theorem own_head {w : World} {u : Value} {x : Int} {l : List Int} (h : w.ownsRow 0 5 1 u (l.length + 1) (bys (x :: l))) : ∃ g cap cur, u = .slice (some ⟨g, 0, none⟩) (l.length + 1) cap ∧ w.heap[g]? = some (.cells cur 5 (0, 0)) ∧ cur.size = cap ∧ l.length + 1 ≤ cap ∧ cap ≤ 9223372036854775807 ∧ cur.toList.take (l.length + 1) = bys (x :: l) := by
  rcases h.2 with ⟨_, z⟩ | ⟨g, cap, cur, h1, h2, h3, h4, h5, h6, h7⟩
  · omega
  · exact ⟨g, cap, cur, h1, h3, by omega, h4, h5, by simpa using h7⟩
def UV.nxt (v : UV) : Int × UV := match v.q with | [] => (0, v) | x :: l => (x, { v with q := l })
theorem u_next (w : World) (F : Nat → Prop) (p : Nat) (v : UV) (h : Ux w F p v) : Calls Tryz.prog 217 #[.pointer (some ⟨p, 0, none⟩)] w fun e w' => e = .returned (.int .u8 v.nxt.1) ∧ ∃ F', Ux w' F' p v.nxt.2 ∧ Tn w w' F F' := by
  obtain ⟨a, b, h1, ok, hF⟩ := h
  have c0 := h1.c0
  have z0 := h1.fz 0
  have H := hid h1
  have OK := hid ok
  have HF := hid hF
  have hl := ok.l
  cases e : v.q with
  | nil =>
    have e1 : v.nxt = (0, v) := by unfold UV.nxt; rw [e]
    rw [e1]
    obtain ⟨ad, cp, rfl⟩ := own_form h1.q
    rw [e] at c0
    clear h1 ok hF
    go_enter Tryz.func217, Tryz.ntmps217
    go_wp2
    go_ret
    exact ⟨rfl, F, ⟨_, b, H.out, OK.out, HF.out⟩, .refl w F⟩
  | cons x l =>
    have e1 : v.nxt = (x, { v with q := l }) := by unfold UV.nxt; rw [e]
    rw [e1]
    have hq := h1.q
    rw [e] at hq hl
    obtain ⟨g, cap, cur, rfl, hg, hs, hc, hm, ht⟩ := own_head hq
    have hD := l_Delete w g (l.length + 1) cap cur x l hg hs rfl hc hm ht
    have cg : w.cell? ⟨g, 0, none⟩ = some (.int .u8 x) := by
      rw [cell_of_row w g 0 _ _ _ hg]
      have : (cur.toList.take (l.length + 1))[0]? = some (.int .u8 x) := by rw [ht]; rfl
      rw [List.getElem?_take_of_lt (by omega)] at this
      simpa using this
    have hgp : g ≠ p := own_ne hq h1.top (by decide) g rfl
    have HZ : Hid (∀ w3, Only (· = g) w w3 → w3.heap[p]? = w.heap[p]?) := fun w3 ho => ho.block p (lt_of_block h1.top) fun z => hgp z.symm
    simp only [Nat.add_sub_cancel] at hD
    have hl1 : l.length + 1 ≤ 9223372036854775807 := by omega
    clear h1 ok hF hq hg ht hs
    go_enter Tryz.func217, Tryz.ntmps217
    go_wp2_with (go_at_call 100; refine hD.mono ?_; rintro r w2 ⟨rfl, hown, ho⟩; have HO := hid hown; have HT := hid ho; have y4 : w2.cell? ⟨p, 0, none⟩ = some (.slice (some ⟨g, 0, none⟩) (l.length + 1) cap) := (World.cell?_of_block (w := w) (HZ.out w2 ho)).trans (by simpa [e] using c0); have y8 : w2.frozen? ⟨p, 0, none⟩ = false := (World.frozen?_of_block (w := w) (HZ.out w2 ho)).trans z0; clear hown ho)
    go_ret
    refine ⟨rfl, ?_⟩
    have hg1 : Only (Ug (.slice (some ⟨g, 0, none⟩) (l.length + 1) cap)) w w2 := HT.out.mono fun k _ z => by subst z; rfl
    exact Ux.mk HF.out (H.out.newq (.slice (some ⟨g, 0, none⟩) l.length cap) l HO.out hg1 fun k hk => .inl hk) ⟨OK.out.h, OK.out.d, by have := hl; simp at this; show l.length ≤ 16; omega, fun y hy => OK.out.q y (by rw [e]; exact List.mem_cons_of_mem _ hy), OK.out.s⟩ ((hg1.mono fun k _ z => .inr (.inl z)).setCell (.inl (.inl rfl)) _) (fun k hk => .inl hk) fun k hk => .inl hk
theorem eq_nilB (w : World) (a : Option Addr) (l c : Nat) : (binOp .eql 23 (.slice a l c) (.slice none 0 0)).run Tryz.prog w = .ok (.bool a.isNone) w := by
  simp only [binOp]
  simp [run_equal_slice_nil w 23 5 a l c u_su8]
theorem l_Clone (w : World) (u : Value) (l : List Int) (hu : w.ownsRow 0 5 1 u l.length (bys l)) (hn : l.length ≤ 140737488355328) : Calls Tryz.prog 66 #[u] w fun r w' => ∃ v, r = .returned v ∧ w'.ownsRow 0 5 1 v l.length (bys l) ∧ Below w.heap.size w w' := by
  obtain ⟨i0, hi, hz0, hz1, hz2⟩ := info_parts info_u8
  have hne := eq_nilB
  have hlen := hu.1
  rcases hu.2 with ⟨rfl, h0⟩ | ⟨g, cap, cur, rfl, -, hg, hc, hcm, hcs, ht⟩
  · have HU := hid hu
    clear hu hlen
    go_enter Tryz.func66, Tryz.ntmps66
    go_wp2
    go_ret
    exact ⟨_, rfl, HU.out, .refl _ _⟩
  · have HC : Hid (∀ (o : Obj) j x, (bys l)[j]? = some x → (w.alloc o).cell? ((⟨g, 0, none⟩ : Addr).add j) = some x) := fun o j x hx => by
      rw [C.addr_add, Nat.zero_add, cell_of_row (w.alloc o) g j _ _ _ ((Below.heap_alloc w _ _ (lt_of_block hg)).trans hg)]
      rw [← ht, List.getElem?_take] at hx
      split at hx
      · simpa using hx
      · cases hx
    have H1 := hid (bys_one l)
    clear hu hg ht
    go_enter Tryz.func66, Tryz.ntmps66
    go_wp2_with (at_builtin; refine wpList_append_own _ rfl _ _ 23 rfl w.heap.size 5 i0 (.int .u8 0) 1 1 u_su8 hi hz0 hz1 hz2 rfl (by decide) _ 0 [] rfl (World.ownsRow_lit w #[] 0 (Nat.le_refl _) (by decide) rfl) ⟨g, 0, none⟩ l.length cap (bys l) rfl (by omega) (HC.out _) H1.out (by unfold maxLen; omega) (by omega) (by simp) ?_; intro v' w2 hown hgrow _; have HO3 := hid hown; have HG3 := hid hgrow; clear hown hgrow)
    go_ret
    have e1 := HO3.out
    rw [Nat.zero_add, List.nil_append] at e1
    refine ⟨v', rfl, ⟨e1.1, e1.2.imp id fun ⟨g', cap', cur', q1, q2, q3⟩ => ⟨g', cap', cur', q1, Nat.zero_le _, q3⟩⟩, ((Below.refl _ _).alloc (Nat.le_refl _) _).grown HG3.out (by simp) (fun r q => ?_)⟩
    obtain rfl : w.heap.size = r := by simpa [Value.ownBlock, Act.eval] using q
    exact Nat.le_refl _
end Go.Proofs.YtjkihlpckgaggaaGreat.L
namespace Go.Proofs.YtjkihlpckgaggaaGreat.L
open Go.RowKit
open C (Only hid Still ret_bool ret_int)
set_option linter.unusedVariables false
set_option maxRecDepth 100000

def up1 (f : Nat → Int) (i : Nat) (x : Int) : Nat → Int := fun j => if j = i then x else f j
theorem up1_byt {f : Nat → Int} (h : ∀ i, Byt (f i)) (i : Nat) {x : Int} (hx : Byt x) : ∀ j, Byt (up1 f i x j) := fun j => by
  unfold up1
  split
  · exact hx
  · exact h j
def UV.rd (v : UV) (o : Int) : Int × UV :=
  if o = 0 then (if v.lat then (v.d 0, v) else v.nxt) else if o = 1 then ((if v.lat then v.d 1 else v.h 1), v) else if o = 2 then (v.tca, v.tcv) else if o = 3 then (v.h 3, v) else if o = 4 then (v.h 4, v)
  else if o = 5 then (v.lin, { v with ov := false }) else if o = 6 then (176, v) else if o = 7 then (v.h 7, v) else (0, v)
def UV.wr (v : UV) (o x : Int) : UV :=
  if o = 0 then (if v.lat then { v with d := up1 v.d 0 x } else { v with s := v.s ++ [x], em := true })
  else if o = 1 then (if v.lat then { v with d := up1 v.d 1 x } else { v with h := up1 v.h 1 (x % 16), em := v.em || (bt x 2 && !bt (v.h 1) 2) })
  else if o = 2 then (if bt x 2 then { v with h := up1 v.h 2 (x % 2), q := [] } else { v with h := up1 v.h 2 (x % 2) })
  else if o = 3 then { v with h := up1 v.h 3 x } else if o = 4 then { v with h := up1 v.h 4 (x % 32) } else if o = 7 then { v with h := up1 v.h 7 x } else v
set_option maxHeartbeats 4000000 in
theorem u_Read (w : World) (F : Nat → Prop) (p : Nat) (v : UV) (o : Int) (h : Ux w F p v) (o0 : 0 ≤ o) (o1 : o < 18446744073709551616) : Calls Tryz.prog 214 #[.pointer (some ⟨p, 0, none⟩), .int .u64 o] w fun e w' => e = .returned (.int .u8 (v.rd o).1) ∧ ∃ F', Ux w' F' p (v.rd o).2 ∧ Tn w w' F F' := by
  have H0 : Hid (∃ F', Ux w F' p v ∧ Tn w w F F') := ⟨F, h, .refl w F⟩
  have hN := u_next w F p v h
  have hT := u_tellCause w F p v h
  have hL := u_tellLine w F p v h
  obtain ⟨a, b, h1, ok, hF⟩ := h
  have hl := u_latched w p a b v h1 ok
  have c3 := h1.c3
  have c5 := h1.c5
  have c6 := h1.c6
  have c9 := h1.c9
  have c10 := h1.c10
  have c11 := h1.c11
  clear h1 ok hF
  by_cases q0 : o = 0
  · subst q0
    have e1 : v.rd 0 = if v.lat then (v.d 0, v) else v.nxt := rfl
    rw [e1]
    clear e1
    cases e : v.lat <;> rw [e] at hl
    · rw [if_neg (by decide)]
      go_enter Tryz.func214, Tryz.ntmps214
      go_wp2_with (first | (go_at_call 216; refine hl.mono ?_; rintro e w' ⟨rfl, hw⟩; obtain rfl := hw.symm) | (go_at_call 217; refine hN.mono ?_; rintro e w' ⟨rfl, hw⟩; have HW := hid hw; clear hw))
      go_ret
      exact ⟨rfl, HW.out⟩
    · rw [if_pos rfl]
      go_enter Tryz.func214, Tryz.ntmps214
      go_wp2_with (first | (go_at_call 216; refine hl.mono ?_; rintro e w' ⟨rfl, hw⟩; obtain rfl := hw.symm))
      go_ret
      exact ⟨rfl, H0.out⟩
  by_cases q1 : o = 1
  · subst q1
    have e1 : v.rd 1 = ((if v.lat then v.d 1 else v.h 1), v) := rfl
    rw [e1]
    clear e1
    cases e : v.lat <;> rw [e] at hl
    · rw [if_neg (by decide)]
      go_enter Tryz.func214, Tryz.ntmps214
      go_wp2_with (first | (go_at_call 216; refine hl.mono ?_; rintro e w' ⟨rfl, hw⟩; obtain rfl := hw.symm))
      go_ret
      exact ⟨rfl, H0.out⟩
    · rw [if_pos rfl]
      go_enter Tryz.func214, Tryz.ntmps214
      go_wp2_with (first | (go_at_call 216; refine hl.mono ?_; rintro e w' ⟨rfl, hw⟩; obtain rfl := hw.symm))
      go_ret
      exact ⟨rfl, H0.out⟩
  by_cases q2 : o = 2
  · subst q2
    have e1 : v.rd 2 = (v.tca, v.tcv) := rfl
    rw [e1]
    go_enter Tryz.func214, Tryz.ntmps214
    go_wp2_with (first | (go_at_call 218; refine hT.mono ?_; rintro e w' ⟨rfl, hw⟩; have HW := hid hw; clear hw))
    go_ret
    exact ⟨rfl, HW.out⟩
  by_cases q3 : o = 3
  · subst q3
    have e1 : v.rd 3 = (v.h 3, v) := rfl
    rw [e1]
    go_enter Tryz.func214, Tryz.ntmps214
    go_wp2
    go_ret
    exact ⟨rfl, H0.out⟩
  by_cases q4 : o = 4
  · subst q4
    have e1 : v.rd 4 = (v.h 4, v) := rfl
    rw [e1]
    go_enter Tryz.func214, Tryz.ntmps214
    go_wp2
    go_ret
    exact ⟨rfl, H0.out⟩
  by_cases q5 : o = 5
  · subst q5
    have e1 : v.rd 5 = (v.lin, { v with ov := false }) := rfl
    rw [e1]
    go_enter Tryz.func214, Tryz.ntmps214
    go_wp2_with (first | (go_at_call 219; refine hL.mono ?_; rintro e w' ⟨rfl, hw⟩; have HW := hid hw; clear hw))
    go_ret
    exact ⟨rfl, HW.out⟩
  by_cases q6 : o = 6
  · subst q6
    have e1 : v.rd 6 = (176, v) := rfl
    rw [e1]
    go_enter Tryz.func214, Tryz.ntmps214
    go_wp2
    go_ret
    exact ⟨rfl, H0.out⟩
  by_cases q7 : o = 7
  · subst q7
    have e1 : v.rd 7 = (v.h 7, v) := rfl
    rw [e1]
    go_enter Tryz.func214, Tryz.ntmps214
    go_wp2
    go_ret
    exact ⟨rfl, H0.out⟩
  have e1 : v.rd o = (0, v) := by unfold UV.rd; rw [if_neg q0, if_neg q1, if_neg q2, if_neg q3, if_neg q4, if_neg q5, if_neg q6, if_neg q7]
  rw [e1]
  go_enter Tryz.func214, Tryz.ntmps214
  go_wp2
  go_ret
  exact ⟨rfl, H0.out⟩
end Go.Proofs.YtjkihlpckgaggaaGreat.L
namespace Go.Proofs.YtjkihlpckgaggaaGreat.L
open Go.RowKit
open C (Only hid Still ret_bool ret_int)
set_option linter.unusedVariables false
set_option maxRecDepth 100000

theorem and_1 : ∀ x : Fin 256, bits BinOp.and IntKind.u8 (x.val : Int) 1 = (x.val : Int) % 2 := by decide +kernel
theorem and_31 : ∀ x : Fin 256, bits BinOp.and IntKind.u8 (x.val : Int) 31 = (x.val : Int) % 32 := by decide +kernel
theorem and_15 : ∀ x : Fin 256, bits BinOp.and IntKind.u8 (x.val : Int) 15 = (x.val : Int) % 16 := by decide +kernel
theorem and_n2a : ∀ (x : Fin 16) (y : Fin 256), (bits BinOp.and IntKind.u8 (bits BinOp.andNot IntKind.u8 (x.val : Int) (y.val : Int)) 2 != 0) = (bt (x.val : Int) 2 && !bt (y.val : Int) 2) := by decide +kernel
theorem and_n2b : ∀ x : Fin 256, bt ((x.val : Int) % 16) 2 = bt (x.val : Int) 2 := by decide +kernel
theorem byt_fin {x : Int} (h : Byt x) : ∃ y : Fin 256, x = (y.val : Int) := ⟨⟨x.toNat, by have := h.1; have := h.2; omega⟩, by have := h.1; simp; omega⟩
theorem byt_2 {x : Int} (h : Byt x) : Byt (x % 2) := ⟨by omega, by omega⟩
theorem byt_16 {x : Int} (h : Byt x) : Byt (x % 16) := ⟨by omega, by omega⟩
theorem byt_32 {x : Int} (h : Byt x) : Byt (x % 32) := ⟨by omega, by omega⟩
theorem a1 {x : Int} (h : Byt x) : bits BinOp.and IntKind.u8 x 1 = x % 2 := by obtain ⟨y, rfl⟩ := byt_fin h; exact and_1 y
theorem a15 {x : Int} (h : Byt x) : bits BinOp.and IntKind.u8 x 15 = x % 16 := by obtain ⟨y, rfl⟩ := byt_fin h; exact and_15 y
theorem a31 {x : Int} (h : Byt x) : bits BinOp.and IntKind.u8 x 31 = x % 32 := by obtain ⟨y, rfl⟩ := byt_fin h; exact and_31 y
theorem a31' {x : Int} (h : Byt x) : bits BinOp.and IntKind.u8 (x % 16) 31 = x % 16 := by
  rw [a31 (byt_16 h)]
  omega
theorem an2 {x y : Int} (h : Byt x) (k : Byt y) : (bits BinOp.and IntKind.u8 (bits BinOp.andNot IntKind.u8 (x % 16) y) 2 != 0) = (bt x 2 && !bt y 2) := by
  obtain ⟨a, rfl⟩ := byt_fin h
  obtain ⟨b, rfl⟩ := byt_fin k
  rw [← and_n2b a]
  have := and_n2a ⟨a.val % 16, by omega⟩ b
  simpa using this
set_option maxHeartbeats 4000000 in
theorem u_Write (w : World) (F : Nat → Prop) (p : Nat) (v : UV) (o x : Int) (h : Ux w F p v) (o0 : 0 ≤ o) (o1 : o < 18446744073709551616) (hx : Byt x) (hs : v.s.length < 140737488355328) : Calls Tryz.prog 215 #[.pointer (some ⟨p, 0, none⟩), .int .u64 o, .int .u8 x] w fun e w' => e = .returned (.tuple #[]) ∧ ∃ F', Ux w' F' p (v.wr o x) ∧ Tn w w' F F' := by
  have H0 : Hid (∃ F', Ux w F' p v ∧ Tn w w F F') := ⟨F, h, .refl w F⟩
  have hN := u_send w F p v x h hx hs
  obtain ⟨a, b, h1, ok, hF⟩ := h
  have hl := u_latched w p a b v h1 ok
  have H := hid h1
  have OK := hid ok
  have HF := hid hF
  have HX := hid hx
  obtain ⟨x0, x1⟩ := hx
  have kx1 := a1 HX.out
  have kx15 := a15 HX.out
  have kx31 := a31 HX.out
  have kx16 := a31' HX.out
  have kn2 := an2 HX.out (ok.h 1)
  have c0 := h1.c0
  have c3 := h1.c3
  have c4 := h1.c4
  have c5 := h1.c5
  have c6 := h1.c6
  have c9 := h1.c9
  have c10 := h1.c10
  have c11 := h1.c11
  have c13 := h1.c13
  have z0 := h1.fz 0
  have z3 := h1.fz 3
  have z4 := h1.fz 4
  have z5 := h1.fz 5
  have z6 := h1.fz 6
  have z9 := h1.fz 9
  have z10 := h1.fz 10
  have z11 := h1.fz 11
  have z13 := h1.fz 13
  obtain ⟨y0, y1⟩ := ok.h 1
  clear h1 ok hF
  by_cases q0 : o = 0
  · subst q0
    have e1 : v.wr 0 x = if v.lat then { v with d := up1 v.d 0 x } else { v with s := v.s ++ [x], em := true } := rfl
    rw [e1]
    clear e1
    cases e : v.lat <;> rw [e] at hl
    · rw [if_neg (by decide)]
      go_enter Tryz.func215, Tryz.ntmps215
      go_wp2_with (first | (go_at_call 216; refine hl.mono ?_; rintro e w' ⟨rfl, hw⟩; obtain rfl := hw.symm) | (go_at_call 220; refine hN.mono ?_; rintro e w' ⟨rfl, hw⟩; have HW := hid hw; clear hw))
      go_returns
      exact ⟨rfl, HW.out⟩
    · rw [if_pos rfl]
      go_enter Tryz.func215, Tryz.ntmps215
      go_wp2_with (first | (go_at_call 216; refine hl.mono ?_; rintro e w' ⟨rfl, hw⟩; obtain rfl := hw.symm))
      go_returns
      exact ⟨rfl, H.out.one HF.out 10 _ { v with d := up1 v.d 0 x } ⟨OK.out.h, up1_byt OK.out.d 0 HX.out, OK.out.l, OK.out.q, OK.out.s⟩ rfl rfl rfl⟩
  by_cases q1 : o = 1
  · subst q1
    have e1 : v.wr 1 x = if v.lat then { v with d := up1 v.d 1 x } else { v with h := up1 v.h 1 (x % 16), em := v.em || (bt x 2 && !bt (v.h 1) 2) } := rfl
    rw [e1]
    clear e1
    cases e : v.lat <;> rw [e] at hl
    · rw [if_neg (by decide)]
      have HE : Hid (∀ m, m = (v.em || (bt x 2 && !bt (v.h 1) 2)) → ∃ F', Ux ((w.setCell ⟨p, 13, none⟩ (.bool m)).setCell ⟨p, 3, none⟩ (.int .u8 (x % 16))) F' p { v with h := up1 v.h 1 (x % 16), em := v.em || (bt x 2 && !bt (v.h 1) 2) } ∧ Tn w ((w.setCell ⟨p, 13, none⟩ (.bool m)).setCell ⟨p, 3, none⟩ (.int .u8 (x % 16))) F F') := fun m hm => by
        subst hm
        exact Ux.mk HF.out ((H.out.put 13 (.bool (v.em || (bt x 2 && !bt (v.h 1) 2))) { v with em := v.em || (bt x 2 && !bt (v.h 1) 2) } rfl rfl rfl).put 3 (.int .u8 (x % 16)) { v with h := up1 v.h 1 (x % 16), em := v.em || (bt x 2 && !bt (v.h 1) 2) } rfl rfl rfl) ⟨up1_byt OK.out.h 1 (byt_16 HX.out), OK.out.d, OK.out.l, OK.out.q, OK.out.s⟩ (((only_c w p 13 _).mono fun x _ z => .inl z).setCell (.inl (.inl rfl)) _) (fun k hk => .inl hk) fun k hk => .inl hk
      generalize (bt x 2 && !bt (v.h 1) 2) = n at *
      cases e2 : v.em <;> rw [e2] at c13
      · have HE2 := hid (HE.out n (by rw [e2]; rfl))
        rw [e2] at HE2
        clear HE
        go_enter Tryz.func215, Tryz.ntmps215
        go_wp2_with (first | (go_at_call 216; refine hl.mono ?_; rintro e w' ⟨rfl, hw⟩; obtain rfl := hw.symm))
        go_returns
        exact ⟨rfl, HE2.out⟩
      · have HE2 := hid (HE.out true (by rw [e2]; rfl))
        rw [e2] at HE2
        clear HE
        go_enter Tryz.func215, Tryz.ntmps215
        go_wp2_with (first | (go_at_call 216; refine hl.mono ?_; rintro e w' ⟨rfl, hw⟩; obtain rfl := hw.symm))
        go_returns
        exact ⟨rfl, HE2.out⟩
    · rw [if_pos rfl]
      go_enter Tryz.func215, Tryz.ntmps215
      go_wp2_with (first | (go_at_call 216; refine hl.mono ?_; rintro e w' ⟨rfl, hw⟩; obtain rfl := hw.symm))
      go_returns
      exact ⟨rfl, H.out.one HF.out 11 _ { v with d := up1 v.d 1 x } ⟨OK.out.h, up1_byt OK.out.d 1 HX.out, OK.out.l, OK.out.q, OK.out.s⟩ rfl rfl rfl⟩
  by_cases q2 : o = 2
  · subst q2
    have e1 : v.wr 2 x = if bt x 2 then { v with h := up1 v.h 2 (x % 2), q := [] } else { v with h := up1 v.h 2 (x % 2) } := rfl
    rw [e1]
    clear e1
    have hp := H.out.put 4 (.int .u8 (x % 2)) { v with h := up1 v.h 2 (x % 2) } rfl rfl rfl
    have o1 : Only (fun x => x = p ∨ Ug a x ∨ Ug b x) w (w.setCell ⟨p, 4, none⟩ (.int .u8 (x % 2))) := (only_c w p 4 _).mono fun x _ z => .inl z
    have ok1 : UOk { v with h := up1 v.h 2 (x % 2) } := ⟨up1_byt OK.out.h 2 (byt_2 HX.out), OK.out.d, OK.out.l, OK.out.q, OK.out.s⟩
    cases e : bt x 2
    · have HP := hid (Ux.mk HF.out hp ok1 o1 (fun k hk => .inl hk) fun k hk => .inl hk)
      rw [if_neg (by decide)]
      have e3 : (bits BinOp.and IntKind.u8 x 2 != 0) = false := e
      clear hp o1 ok1 e
      go_enter Tryz.func215, Tryz.ntmps215
      go_wp2
      go_returns
      exact ⟨rfl, HP.out⟩
    · have HP := hid (Ux.mk HF.out (hp.newq (w1 := w.setCell ⟨p, 4, none⟩ (.int .u8 (x % 2))) (.slice none 0 0) [] ⟨rfl, .inl ⟨rfl, rfl⟩⟩ (.refl _) fun k hk => (by cases hk)) ⟨ok1.h, ok1.d, Nat.zero_le _, fun x hx => (by cases hx), ok1.s⟩ (o1.setCell (.inl (.inl rfl)) _) (fun k hk => (by cases hk)) fun k hk => .inl hk)
      rw [if_pos rfl]
      have e3 : (bits BinOp.and IntKind.u8 x 2 != 0) = true := e
      clear hp o1 ok1 e
      go_enter Tryz.func215, Tryz.ntmps215
      go_wp2
      go_returns
      exact ⟨rfl, HP.out⟩
  by_cases q3 : o = 3
  · subst q3
    have e1 : v.wr 3 x = { v with h := up1 v.h 3 x } := rfl
    rw [e1]
    go_enter Tryz.func215, Tryz.ntmps215
    go_wp2
    go_returns
    exact ⟨rfl, H.out.one HF.out 5 _ { v with h := up1 v.h 3 x } ⟨up1_byt OK.out.h 3 HX.out, OK.out.d, OK.out.l, OK.out.q, OK.out.s⟩ rfl rfl rfl⟩
  by_cases q4 : o = 4
  · subst q4
    have e1 : v.wr 4 x = { v with h := up1 v.h 4 (x % 32) } := rfl
    rw [e1]
    go_enter Tryz.func215, Tryz.ntmps215
    go_wp2
    go_returns
    exact ⟨rfl, H.out.one HF.out 6 _ { v with h := up1 v.h 4 (x % 32) } ⟨up1_byt OK.out.h 4 (byt_32 HX.out), OK.out.d, OK.out.l, OK.out.q, OK.out.s⟩ rfl rfl rfl⟩
  by_cases q7 : o = 7
  · subst q7
    have e1 : v.wr 7 x = { v with h := up1 v.h 7 x } := rfl
    rw [e1]
    go_enter Tryz.func215, Tryz.ntmps215
    go_wp2
    go_returns
    exact ⟨rfl, H.out.one HF.out 9 _ { v with h := up1 v.h 7 x } ⟨up1_byt OK.out.h 7 HX.out, OK.out.d, OK.out.l, OK.out.q, OK.out.s⟩ rfl rfl rfl⟩
  have e1 : v.wr o x = v := by unfold UV.wr; rw [if_neg q0, if_neg q1, if_neg q2, if_neg q3, if_neg q4, if_neg q7]
  rw [e1]
  go_enter Tryz.func215, Tryz.ntmps215
  go_wp2
  go_returns
  exact ⟨rfl, H0.out⟩
end Go.Proofs.YtjkihlpckgaggaaGreat.L
namespace Go.Proofs.YtjkihlpckgaggaaGreat.L
open Go.RowKit
open C (Only hid Still ret_bool ret_int)
set_option linter.unusedVariables false
set_option maxRecDepth 100000

/-- what is read, and the controller behind it -/
def IV.rd (v : IV) (o s : Int) : Int × Bool × IV :=
  if (fdN v.n o s).2.2 = false then (0, false, v) else if (fdN v.n o s).1 = 4096 then (v.le (fdN v.n o s).2.1.toNat, true, v) else if (fdN v.n o s).1 = 8192 then (v.src (fdN v.n o s).2.1.toNat, true, v.clm (fdN v.n o s).2.1.toNat) else (v.up, true, v)
def IV.cmp (v : IV) (k : Nat) (x : Int) : IV := { v with cl := upN v.cl k (anN (v.cl k) (bitN (x % 4294967296))) }
def IV.let (v : IV) (k : Nat) (x : Int) : IV := { v with le := upN v.le k ((x % 4294967296).toNat &&& 4294967294) }
def IV.wr (v : IV) (o s x : Int) : Bool × IV :=
  if (fdN v.n o s).2.2 = false then (false, v) else if (fdN v.n o s).1 = 4096 then (true, v.let (fdN v.n o s).2.1.toNat x) else if (fdN v.n o s).1 = 8192 then (true, v.cmp (fdN v.n o s).2.1.toNat x) else (false, v)
/-- what find comes to -/
theorem fd_cases (n : Nat) (n1 : 1 ≤ n) (o s : Int) (o0 : 0 ≤ o) : (fdN n o s).2.2 = false ∨ (∃ k : Nat, k < n ∧ (fdN n o s = (4096, (k : Int), true) ∨ fdN n o s = (8192, (k : Int), true))) ∨ fdN n o s = (0, 0, true) := by
  unfold fdN
  by_cases q : s ≠ 4 ∨ o % 4096 % 4 ≠ 0
  · rw [if_pos q]; exact .inl rfl
  · rw [if_neg q]
    by_cases q0 : o - o % 4096 = 0
    · rw [if_pos q0]
      by_cases r : o % 4096 / 4 = 0
      · right; right; rw [r]; rfl
      · left; simpa using r
    · rw [if_neg q0]
      by_cases q1 : o - o % 4096 = 4096 ∨ o - o % 4096 = 8192
      · rw [if_pos q1]
        by_cases r : o % 4096 / 4 < n
        · right; left
          refine ⟨(o % 4096 / 4).toNat, by omega, ?_⟩
          rcases q1 with z | z
          · left; rw [z]; simp; omega
          · right; rw [z]; simp; omega
        · left; simpa using r
      · rw [if_neg q1]; exact .inl rfl
theorem i_Read (w : World) (F : Nat → Prop) (p : Nat) (v : IV) (h : Ix w F p v) (o s : Int) (o0 : 0 ≤ o) (o1 : o < 18446744073709551616) (s0 : -9223372036854775808 ≤ s) (s1 : s ≤ 9223372036854775807) :
    Calls Tryz.prog 225 #[.pointer (some ⟨p, 0, none⟩), .int .u64 o, .int .i64 s] w fun e w' => e = .returned (.tuple #[.int .u64 (v.rd o s).1, .bool (v.rd o s).2.1]) ∧ Ix w' F p (v.rd o s).2.2 ∧ Only F w w' := by
  have HX := hid h
  obtain ⟨g, h1, ok, hF⟩ := h
  have hf := i_find w p g v h1 ok o s o0 o1 s0 s1
  have n2 := ok.n2
  have H := hid h1
  have OK := hid ok
  rcases fd_cases v.n ok.n1 o s o0 with q | ⟨k, hk, q | q⟩ | q
  · have e : v.rd o s = (0, false, v) := by unfold IV.rd; rw [if_pos q]
    rw [e]
    rw [q] at hf
    generalize (fdN v.n o s).1 = a at *
    generalize (fdN v.n o s).2.1 = b at *
    clear h1 ok hF
    go_enter Tryz.func225, Tryz.ntmps225
    go_wp2_with (go_at_call 227; refine hf.mono ?_; rintro e w1 ⟨rfl, hw⟩; have HW := hid hw; clear hw)
    go_returns
    exact ⟨rfl, HX.out.below HW.out, .ofBelow HW.out⟩
  · have e : v.rd o s = ((v.le k : Int), true, v) := by unfold IV.rd; rw [q]; rfl
    rw [e]
    rw [q] at hf
    have l1 : (v.le k : Int) < 4294967296 := by have := ok.le k; omega
    have l0 : (0 : Int) ≤ v.le k := by omega
    have HE : Hid (∀ w1, Below w.heap.size w w1 → w1.cell? ⟨p, 2, none⟩ = some (.slice (some ⟨g, 0, none⟩) v.n v.n) ∧ w1.cell? ⟨g, k * 2, none⟩ = some (.int .u32 (v.le k))) := fun w1 hb => ⟨(H.out.below hb).c2, (H.out.below hb).ce k hk⟩
    have hk' : (k : Int) < v.n := by omega
    clear h1 ok hF e q
    generalize (v.le k : Int) = L at *
    go_enter Tryz.func225, Tryz.ntmps225
    go_wp2_with (go_at_call 227; refine hf.mono ?_; rintro e w1 ⟨rfl, hw⟩; have HW := hid hw; obtain ⟨d1, d2⟩ := HE.out w1 hw; clear hw)
    go_returns
    exact ⟨rfl, HX.out.below HW.out, .ofBelow HW.out⟩
  · have e : v.rd o s = ((v.src k : Int), true, v.clm k) := by unfold IV.rd; rw [q]; rfl
    rw [e]
    rw [q] at hf
    have s32 : v.src k < 32 := by
      rcases lowest_spec (v.opn k) with z | z
      · unfold IV.src; omega
      · unfold IV.src; omega
    have l1 : (v.src k : Int) < 32 := by omega
    have l0 : (0 : Int) ≤ v.src k := by omega
    have HC : Hid (∀ w1, Below w.heap.size w w1 → Calls Tryz.prog 228 #[.pointer (some ⟨p, 0, none⟩), .int .i64 k] w1 fun e w' => e = .returned (.int .i64 (v.src k)) ∧ Ix w' F p (v.clm k) ∧ Only F w1 w') := fun w1 hb => i_claim w1 F p v (HX.out.below hb) k hk
    clear h1 ok hF e q s32
    generalize v.clm k = vc at *
    generalize (v.src k : Int) = L at *
    go_enter Tryz.func225, Tryz.ntmps225
    go_wp2_with (first | (go_at_call 227; refine hf.mono ?_; rintro e w1 ⟨rfl, hw⟩; have HW := hid hw; have hc := HC.out w1 hw; clear hw) | (go_at_call 228; refine hc.mono ?_; rintro e w2 ⟨rfl, hx, ho⟩; have HX2 := hid hx; have HO2 := hid ho; clear hx ho))
    go_returns
    exact ⟨rfl, HX2.out, (Only.ofBelow HW.out).trans HO2.out⟩
  · have e : v.rd o s = ((v.up : Int), true, v) := by unfold IV.rd; rw [q]; rfl
    rw [e]
    rw [q] at hf
    have l1 : (v.up : Int) < 4294967296 := by have : v.up < 4294967296 := or_lt ok.lv ok.pu; omega
    have l0 : (0 : Int) ≤ v.up := by omega
    have HC : Hid (∀ w1, Below w.heap.size w w1 → Calls Tryz.prog 54 #[.pointer (some ⟨p, 0, none⟩)] w1 fun e w' => e = .returned (.int .u32 v.up) ∧ Below w1.heap.size w1 w') := fun w1 hb => i_up (H.out.below hb) OK.out
    clear h1 ok hF e q
    generalize (v.up : Int) = L at *
    go_enter Tryz.func225, Tryz.ntmps225
    go_wp2_with (first | (go_at_call 227; refine hf.mono ?_; rintro e w1 ⟨rfl, hw⟩; have HW := hid hw; have hc := HC.out w1 hw; clear hw) | (go_at_call 54; refine hc.mono ?_; rintro e w2 ⟨rfl, hx⟩; have HX2 := hid hx; clear hx))
    go_returns
    have hb := HW.out.trans (HX2.out.mono HW.out.size)
    exact ⟨rfl, HX.out.below hb, .ofBelow hb⟩
theorem Ix.ofIo {w : World} {F : Nat → Prop} {p g : Nat} {v : IV} (h : Io w p g v) (ok : IOk v) (hF : ∀ x, F x ↔ x = p ∨ x = g) : Ix w F p v := ⟨g, h, ok, hF⟩
theorem IOk.cmp {v : IV} (ok : IOk v) (k : Nat) (x : Int) : IOk (v.cmp k x) := ⟨ok.lv, ok.pu, ok.le, upN_lt ok.cl k (anN_lt _ _ (ok.cl k)), ok.l0, ok.p0, ok.n1, ok.n2⟩
theorem IOk.let {v : IV} (ok : IOk v) (k : Nat) (x : Int) : IOk (v.let k x) := ⟨ok.lv, ok.pu, upN_lt ok.le k (and_lt (by omega)), ok.cl, ok.l0, ok.p0, ok.n1, ok.n2⟩
theorem i_Write (w : World) (F : Nat → Prop) (p : Nat) (v : IV) (h : Ix w F p v) (o s x : Int) (o0 : 0 ≤ o) (o1 : o < 18446744073709551616) (s0 : -9223372036854775808 ≤ s) (s1 : s ≤ 9223372036854775807) (x0 : 0 ≤ x) (x1 : x < 18446744073709551616) :
    Calls Tryz.prog 226 #[.pointer (some ⟨p, 0, none⟩), .int .u64 o, .int .i64 s, .int .u64 x] w fun e w' => e = .returned (.bool (v.wr o s x).1) ∧ Ix w' F p (v.wr o s x).2 ∧ Only F w w' := by
  have HX := hid h
  obtain ⟨g, h1, ok, hF⟩ := h
  have hf := i_find w p g v h1 ok o s o0 o1 s0 s1
  have n2 := ok.n2
  have H := hid h1
  have OK := hid ok
  have HF := hid hF
  rcases fd_cases v.n ok.n1 o s o0 with q | ⟨k, hk, q | q⟩ | q
  · have e : v.wr o s x = (false, v) := by unfold IV.wr; rw [if_pos q]
    rw [e]
    rw [q] at hf
    generalize (fdN v.n o s).1 = a at *
    generalize (fdN v.n o s).2.1 = b at *
    clear h1 ok hF
    go_enter Tryz.func226, Tryz.ntmps226
    go_wp2_with (go_at_call 227; refine hf.mono ?_; rintro e w1 ⟨rfl, hw⟩; have HW := hid hw; clear hw)
    go_ret
    exact ⟨rfl, HX.out.below HW.out, .ofBelow HW.out⟩
  · have e : v.wr o s x = (true, v.let k x) := by unfold IV.wr; rw [q]; rfl
    rw [e]
    rw [q] at hf
    have HE : Hid (∀ w1, Below w.heap.size w w1 → w1.cell? ⟨p, 2, none⟩ = some (.slice (some ⟨g, 0, none⟩) v.n v.n) ∧ w1.cell? ⟨g, k * 2, none⟩ = some (.int .u32 (v.le k)) ∧ w1.frozen? ⟨g, k * 2, none⟩ = false) := fun w1 hb => ⟨(H.out.below hb).c2, (H.out.below hb).ce k hk, (H.out.below hb).fg _⟩
    have hk' : (k : Int) < v.n := by omega
    have ea : bits BinOp.and IntKind.u32 (x % 4294967296) 4294967294 = (((x % 4294967296).toNat &&& 4294967294 : Nat) : Int) := u32_and _ _ (by omega) (by omega) (by decide) (by decide)
    have ec : v.let k x = { v with le := upN v.le k ((x % 4294967296).toNat &&& 4294967294) } := rfl
    have HC := hid ec
    have OC := hid (ok.let k x)
    clear h1 ok hF e q ec
    generalize v.let k x = vl at *
    generalize hL : (((x % 4294967296).toNat &&& 4294967294 : Nat) : Int) = L at *
    go_enter Tryz.func226, Tryz.ntmps226
    go_wp2_with (go_at_call 227; refine hf.mono ?_; rintro e w1 ⟨rfl, hw⟩; have HW := hid hw; obtain ⟨d1, d2, d3⟩ := HE.out w1 hw; clear hw)
    go_ret
    refine ⟨rfl, ⟨g, ?_, OC.out, HF.out⟩, (Only.ofBelow HW.out).setCell (.inl ((HF.out g).2 (.inr rfl))) _⟩
    rw [← hL, HC.out]
    exact (H.out.below HW.out).pute k _
  · have e : v.wr o s x = (true, v.cmp k x) := by unfold IV.wr; rw [q]; rfl
    rw [e]
    rw [q] at hf
    have HE : Hid (∀ w1, Below w.heap.size w w1 → w1.cell? ⟨p, 2, none⟩ = some (.slice (some ⟨g, 0, none⟩) v.n v.n) ∧ w1.cell? ⟨g, k * 2 + 1, none⟩ = some (.int .u32 (v.cl k)) ∧ w1.frozen? ⟨g, k * 2 + 1, none⟩ = false) := fun w1 hb => ⟨(H.out.below hb).c2, (H.out.below hb).cc k hk, (H.out.below hb).fg _⟩
    have hk' : (k : Int) < v.n := by omega
    have hb := c_bit (x % 4294967296) (by omega) (by omega)
    have y0 : 0 ≤ x % 4294967296 := by omega
    have y1 : x % 4294967296 < 4294967296 := by omega
    have ea : bits BinOp.andNot IntKind.u32 (v.cl k : Int) (bitN (x % 4294967296) : Int) = (anN (v.cl k) (bitN (x % 4294967296)) : Int) := u32_andNot_nat _ _ (ok.cl k) (bitN_lt _)
    have ec : v.cmp k x = { v with cl := upN v.cl k (anN (v.cl k) (bitN (x % 4294967296))) } := rfl
    have HC := hid ec
    have OC := hid (ok.cmp k x)
    have b0 : (0 : Int) ≤ (bitN (x % 4294967296) : Int) := by omega
    have b1 : (bitN (x % 4294967296) : Int) < 4294967296 := by have := bitN_lt (x % 4294967296); omega
    clear h1 ok hF e q ec
    generalize v.cmp k x = vl at *
    generalize hL : (anN (v.cl k) (bitN (x % 4294967296)) : Int) = L at *
    generalize (bitN (x % 4294967296) : Int) = B at *
    go_enter Tryz.func226, Tryz.ntmps226
    go_upto_region 9 with (go_at_call 227; refine hf.mono ?_; rintro e w1 ⟨rfl, hw⟩; have HW := hid hw; obtain ⟨d1, d2, d3⟩ := HE.out w1 hw; clear hw)
    refine wp_region_last_lit (by simp) (by kernel_rfl) (by kernel_rfl) (by kernel_rfl) ?_
    simp only [List.dropLast, List.getLast]
    repeat (go_big_quiet_step (first | (go_at_call 52; exact Calls.quiet_of_same (hb _))))
    refine wpQuiet_nil ?_
    intro _ hwq
    obtain ⟨nq, hwq⟩ := hwq
    subst hwq
    go_wp2
    go_ret
    refine ⟨rfl, ⟨g, ?_, OC.out, HF.out⟩, ((Only.ofBelow HW.out).trans (Only.ofBelow (dnB w1 _))).setCell (.inl ((HF.out g).2 (.inr rfl))) _⟩
    rw [← hL, HC.out]
    exact ((H.out.below HW.out).dn _).putc k _
  · have e : v.wr o s x = (false, v) := by unfold IV.wr; rw [q]; rfl
    rw [e]
    rw [q] at hf
    clear h1 ok hF e q
    go_enter Tryz.func226, Tryz.ntmps226
    go_wp2_with (first | (go_at_call 227; refine hf.mono ?_; rintro e w1 ⟨rfl, hw⟩; have HW := hid hw; clear hw))
    go_ret
    exact ⟨rfl, HX.out.below HW.out, .ofBelow HW.out⟩
theorem info_line : (Tryz.prog.info? 208).map (fun i => (i.zero, i.size, i.bytes)) = some (some (.agg #[.int .u32 0, .int .u32 0]), 2, 8) := by kernel_rfl
theorem u_sline : Tryz.prog.underlying 153 = some (.slice 208) := by kernel_rfl
theorem madeL (n : Nat) : madeCells (Value.agg #[.int .u32 0, .int .u32 0]).cells (n * 2) = (lic (fun _ => 0) (fun _ => 0) n).toArray := by
  apply Array.ext
  · rw [size_madeCells]; simp [lic]
  · intro j h1 h2
    rw [size_madeCells] at h1
    have a := lic_at (fun _ => 0) (fun _ => 0) n j h1
    have b : (lic (fun _ => 0) (fun _ => 0) n).toArray[j]? = some (li1 (fun _ => 0) (fun _ => 0) j) := by simpa using a
    rw [Array.getElem?_eq_getElem h2] at b
    rw [Option.some.inj b]
    have e : (Value.agg #[.int .u32 0, .int .u32 0]).cells = #[.int .u32 0, .int .u32 0] := by rfl
    simp only [madeCells, Array.getElem_map, Array.getElem_range, e]
    unfold li1
    rcases Nat.mod_two_eq_zero_or_one j with q | q
    · simp [q]
    · simp [q]
def iv0 (n : Nat) : IV := ⟨0, 0, n, fun _ => 0, fun _ => 0⟩
theorem iok0 (n : Nat) (h1 : 1 ≤ n) (h2 : n ≤ 64) : IOk (iv0 n) := ⟨by show 0 < _; decide, by show 0 < _; decide, fun _ => by show 0 < _; decide, fun _ => by show 0 < _; decide, Nat.zero_testBit 0, Nat.zero_testBit 0, h1, h2⟩
theorem i_New (w : World) (n : Nat) (h1 : 1 ≤ n) (h2 : n ≤ 64) : Calls Tryz.prog 31 #[.int .i64 n] w fun e w' => e = .returned (.tuple #[.pointer (some ⟨w.heap.size + 1, 0, none⟩), .int .i64 0]) ∧ (∃ F, Ix w' F (w.heap.size + 1) (iv0 n) ∧ ∀ x, F x → w.heap.size ≤ x) ∧ Below w.heap.size w w' := by
  go_enter Tryz.func31, Tryz.ntmps31
  go_wp2_with (at_make; refine wpList_made _ rfl _ _ 153 rfl 208 _ 2 8 u_sline info_line n rfl rfl (by omega) (by omega) _ (madeL n) ?_)
  go_returns
  have e1 : ((w.alloc (.cells (lic (fun _ => 0) (fun _ => 0) n).toArray 208)).alloc (.cells ((iv0 n).cells w.heap.size) 155)).heap[w.heap.size]? = some (.cells (lic (fun _ => 0) (fun _ => 0) n).toArray 208 (0, 0)) := (Below.heap_alloc (w.alloc _) _ _ (by simp)).trans (heap_alloc_new w _)
  have e2 := heap_alloc_new (w.alloc (.cells (lic (fun _ => 0) (fun _ => 0) n).toArray 208)) (.cells ((iv0 n).cells w.heap.size) 155)
  rw [show (w.alloc (.cells (lic (fun _ => 0) (fun _ => 0) n).toArray 208)).heap.size = w.heap.size + 1 by simp] at e2
  exact ⟨rfl, ⟨fun x => x = w.heap.size + 1 ∨ x = w.heap.size, ⟨w.heap.size, ⟨e2, e1⟩, iok0 n h1 h2, fun x => Iff.rfl⟩, fun x z => by omega⟩, ((Below.refl _ _).alloc (Nat.le_refl _) _).alloc (by simp) _⟩
theorem i_New_bad (w : World) (n : Int) (n0 : -9223372036854775808 ≤ n) (n1 : n ≤ 9223372036854775807) (h : n < 1 ∨ 64 < n) : Calls Tryz.prog 31 #[.int .i64 n] w fun e w' => e = .returned (.tuple #[.pointer none, .int .i64 1]) ∧ w' = w := by
  by_cases q : n < 1
  · go_enter Tryz.func31, Tryz.ntmps31
    go_wp2
    go_returns
    exact ⟨rfl, rfl⟩
  · have q2 : 64 < n := by omega
    go_enter Tryz.func31, Tryz.ntmps31
    go_wp2
    go_returns
    exact ⟨rfl, rfl⟩
end Go.Proofs.YtjkihlpckgaggaaGreat.L
namespace Go.Proofs.YtjkihlpckgaggaaGreat
open Go.RowKit
open C (Only hid)
set_option linter.unusedVariables false
set_option maxRecDepth 100000

theorem wpAny_inv {P : Program} {md : Region.Mode} {ops : Array Oper} {Q : Exit → Act → World → Prop} (J : Array Bool → Act → World → Prop)
    (step : ∀ listed a w, J listed a w → ∀ i ∈ Region.ready md ops listed, wpOp P ops Q i (J (listed.setIfInBounds i true)) a w)
    (fin : ∀ listed a w, J listed a w → Region.ready md ops listed = [] → Q .normal a w) :
    ∀ (fuel : Nat) (listed : Array Bool) (a : Act) (w : World), listed.toList.count false ≤ fuel → J listed a w → wpAny P md ops Q fuel listed a w := by
  intro fuel
  have key : ∀ (listed : Array Bool) (i : Nat), i ∈ Region.ready md ops listed → (listed.setIfInBounds i true).toList.count false + 1 = listed.toList.count false := by
    intro listed i hi
    have h0 := (mem_ready.1 hi).1
    have hlt : i < listed.size := by
      rcases Nat.lt_or_ge i listed.size with h | h
      · exact h
      · simp [Array.getElem?_eq_none h] at h0
    have hv : listed.toList[i]'(by simpa using hlt) = false := by simpa [hlt] using h0
    have hpos : 0 < listed.toList.count false := List.count_pos_iff.2 (by rw [← hv]; exact List.getElem_mem _)
    rw [Array.toList_setIfInBounds, List.count_set (by simpa using hlt), hv]
    have : ∀ c : Nat, 0 < c → c - (if (false == false) = true then 1 else 0) + (if (true == false) = true then 1 else 0) + 1 = c := by intro c hc; simp; omega
    exact this _ hpos
  induction fuel with
  | zero =>
    intro listed a w hc hJ
    have hr : Region.ready md ops listed = [] := by
      cases h : Region.ready md ops listed with
      | nil => rfl
      | cons i r => have := key listed i (by rw [h]; simp); omega
    exact ⟨hr, fin _ _ _ hJ hr⟩
  | succ fuel ih =>
    intro listed a w hc hJ
    refine ⟨fun h => fin _ _ _ hJ h, fun i hi => ?_⟩
    have := key listed i hi
    exact wpOp_mono (fun a' w' h' => ih _ a' w' (by omega) h') (step _ _ _ hJ i hi)
/-- no two operations have one slot -/
def ndB (ops : Array Oper) : Bool := (List.range ops.size).all fun j => (List.range ops.size).all fun k => j == k || (match ops[j]?, ops[k]? with | some o, some p => o.dst.isNone || o.dst != p.dst | _, _ => true)
theorem ndB_spec {ops : Array Oper} (h : ndB ops = true) {j k : Nat} {o p : Oper} {d : Nat} (hj : ops[j]? = some o) (hk : ops[k]? = some p) (ho : o.dst = some d) (hp : p.dst = some d) : j = k := by
  unfold ndB at h
  have hjl : j < ops.size := (Array.getElem?_eq_some_iff.1 hj).1
  have hkl : k < ops.size := (Array.getElem?_eq_some_iff.1 hk).1
  have := List.all_eq_true.1 (List.all_eq_true.1 h j (by simpa using hjl)) k (by simpa using hkl)
  simp only [hj, hk, ho, hp] at this
  simpa using this
structure FrQ (ops : Array Oper) (vt : Nat → Value) (t0 : Array Value) (listed : Array Bool) (a : Act) : Prop where
  df : a.defers = []
  sz : a.tmps.size = t0.size
  ls : listed.size = ops.size
  keep : ∀ d, (ops.toList.all fun o => o.dst != some d) = true → a.tmps[d]? = t0[d]?
  val : ∀ j o d, ops[j]? = some o → o.dst = some d → listed.getD j false = true → a.tmps[d]? = some (vt d)
section
variable {ops : Array Oper} {vt : Nat → Value} {t0 : Array Value} {listed : Array Bool} {a : Act}
theorem FrQ.start (hs : listed = Array.replicate ops.size false) : FrQ ops vt t0 listed ⟨t0, []⟩ := by
  subst hs
  refine ⟨rfl, rfl, by simp, fun _ _ => rfl, fun j o d hj _ hl => ?_⟩
  have hjl : j < ops.size := (Array.getElem?_eq_some_iff.1 hj).1
  simp [hjl] at hl
theorem getD_set (l : Array Bool) (j k : Nat) (hj : j < l.size) : (l.setIfInBounds j true).getD k false = if k = j then true else l.getD k false := by
  by_cases e : k = j
  · subst e; simp [hj]
  · rw [if_neg e]
    simp only [Array.getD_eq_getD_getElem?, Array.getElem?_setIfInBounds]
    rw [if_neg (fun q => e q.symm)]
theorem FrQ.put (h : FrQ ops vt t0 listed a) (hn : ndB ops = true) {j : Nat} {o : Oper} {d : Nat} {v : Value} (ho : ops[j]? = some o) (hd : o.dst = some d) (hv : v = vt d) (hdl : d < t0.size) : FrQ ops vt t0 (listed.setIfInBounds j true) (a.put o.dst v) := by
  have hjl : j < listed.size := by rw [h.ls]; exact (Array.getElem?_eq_some_iff.1 ho).1
  subst hv
  rw [hd]
  refine ⟨h.df, by simp [Act.put, h.sz], by simp [h.ls], fun k hk => ?_, fun i p k hi hp hl => ?_⟩
  · have : k ≠ d := fun q => by
      subst q
      have := List.all_eq_true.1 hk o (by have := Array.mem_of_getElem? ho; exact Array.mem_toList_iff.2 this)
      simp [hd] at this
    simp only [Act.put, Array.getElem?_setIfInBounds]
    rw [if_neg (fun q => this q.symm)]
    exact h.keep k hk
  · rw [getD_set _ _ _ hjl] at hl
    simp only [Act.put, Array.getElem?_setIfInBounds]
    by_cases e : d = k
    · subst e
      rw [if_pos rfl, if_pos (by rw [h.sz]; exact hdl)]
    · rw [if_neg e]
      have : i ≠ j := fun q => by subst q; rw [ho] at hi; cases hi; rw [hd] at hp; exact e (Option.some.inj hp)
      rw [if_neg this] at hl
      exact h.val i p k hi hp hl
theorem FrQ.skip (h : FrQ ops vt t0 listed a) {j : Nat} {o : Oper} (ho : ops[j]? = some o) (hd : o.dst = none) (v : Value) : FrQ ops vt t0 (listed.setIfInBounds j true) (a.put o.dst v) := by
  have hjl : j < listed.size := by rw [h.ls]; exact (Array.getElem?_eq_some_iff.1 ho).1
  rw [hd]
  refine ⟨h.df, h.sz, by simp [h.ls], h.keep, fun i p k hi hp hl => ?_⟩
  rw [getD_set _ _ _ hjl] at hl
  have : i ≠ j := fun q => by subst q; rw [ho] at hi; cases hi; rw [hd] at hp; cases hp
  rw [if_neg this] at hl
  exact h.val i p k hi hp hl
theorem FrQ.ev (h : FrQ ops vt t0 listed a) {i : Nat} {o : Oper} {d : Nat} (hi : ops[i]? = some o) (hd : o.dst = some d) (hl : listed.getD i false = true) : a.tmps[d]?.getD undef = vt d := by
  simp only [h.val i o d hi hd hl, Option.getD_some]
theorem FrQ.base (h : FrQ ops vt t0 listed a) (d : Nat) (hd : (ops.toList.all fun o => o.dst != some d) = true) {v : Value} (hv : t0[d]? = some v) : a.tmps[d]?.getD undef = v := by
  simp only [h.keep d hd, hv, Option.getD_some]
end
/-- what an operation waits for has been done -/
theorem he_all {listed : Array Bool} {after : Array Edge} (he : ∀ e ∈ after, Region.binds .any e = true → listed.getD e.on false = true) (n : Nat) (hc : ((List.range n).all fun i => after.any fun e => e.on == i && Region.binds .any e) = true) (i : Nat) (hi : i < n) : listed.getD i false = true := by
  have := List.all_eq_true.1 hc i (by simpa using hi)
  obtain ⟨e, h1, h2⟩ := Array.any_eq_true'.1 this
  simp only [Bool.and_eq_true, beq_iff_eq] at h2
  rw [← h2.1]
  exact he e h1 h2.2
theorem wp_q {P : Program} {ops : Array Oper} {Q : Exit → Act → World → Prop} {i : Nat} {o : Oper} {K : Act → World → Prop} {a : Act} {w w' : World} {v : Value} (ho : ops[i]? = some o) (hg : o.guard = none) (hr : (execOp a.eval o).run P w = .ok (.value v) w') (h : K (a.put o.dst v) w') : wpOp P ops Q i K a w := by
  refine wpOp_step ho fun K' hK => ?_
  rw [if_pos (by simp [Region.wanted, hg])]
  unfold Oper.wp
  rw [hr]
  exact hK _ _ h
theorem wp_s {P : Program} {ops : Array Oper} {Q : Exit → Act → World → Prop} {i : Nat} {o : Oper} {K : Act → World → Prop} {a : Act} {w w' : World} (ho : ops[i]? = some o) (hg : o.guard = none) (hr : (execOp a.eval o).run P w = .ok .skip w') (h : K (a.put o.dst undef) w') : wpOp P ops Q i K a w := by
  refine wpOp_step ho fun K' hK => ?_
  rw [if_pos (by simp [Region.wanted, hg])]
  unfold Oper.wp
  rw [hr]
  exact hK _ _ h
theorem wpAny_fq {P : Program} {ops : Array Oper} {Q : Exit → Act → World → Prop} {t0 : Array Value} {w : World} (vt : Nat → Value) (V : Array Bool → World → Prop)
    (step : ∀ listed a w, FrQ ops vt t0 listed a ∧ V listed w → ∀ i ∈ Region.ready .any ops listed, wpOp P ops Q i (fun a' w' => FrQ ops vt t0 (listed.setIfInBounds i true) a' ∧ V (listed.setIfInBounds i true) w') a w)
    (fin : ∀ listed a w, FrQ ops vt t0 listed a ∧ V listed w → Region.ready .any ops listed = [] → Q .normal a w) (start : V (Array.replicate ops.size false) w) :
    wpAny P .any ops Q ops.size (Array.replicate ops.size false) ⟨t0, []⟩ w :=
  wpAny_inv (fun listed fr wr => FrQ ops vt t0 listed fr ∧ V listed wr) step fin _ _ _ _ (by simp) ⟨FrQ.start rfl, start⟩
theorem getD_tf {l : Array Bool} {j : Nat} (hj : j < l.size) (h : l.getD j true = false) : l.getD j false = false := by simp [hj] at h ⊢; exact h
theorem allDone {ops : Array Oper} {listed : Array Bool} (hr : Region.ready .any ops listed = []) (hs : listed.size = ops.size) (hc : ((List.range ops.size).all fun j => (match ops[j]? with | some o => o.after.all fun e => decide (e.on < j) | none => true)) = true) : ∀ j, j < ops.size → listed.getD j false = true := by
  intro j
  induction j using Nat.strongRecOn with
  | _ j ih =>
    intro hj
    have h1 := List.all_eq_true.1 hc j (by simpa using hj)
    cases z : listed.getD j false with
    | true => rfl
    | false =>
      exfalso
      have hjo : ops[j]? = some ops[j] := by simp [hj]
      rw [hjo] at h1
      have : j ∈ Region.ready .any ops listed := by
        refine mem_ready.2 ⟨?_, ops[j], hjo, fun e he _ => ?_⟩
        · have hjl : j < listed.size := by rw [hs]; exact hj
          simp [hjl] at z ⊢
          exact z
        · have := Array.all_eq_true_iff_forall_mem.1 h1 e he
          have hlt : e.on < j := by simpa using this
          exact ih e.on hlt (Nat.lt_trans hlt hj)
      rw [hr] at this
      cases this
def fillF (vt : Nat → Value) (t : Array Value) (o : Oper) : Array Value := match o.dst with | some d => t.setIfInBounds d (vt d) | none => t
theorem fillF_size (vt : Nat → Value) (t : Array Value) (o : Oper) : (fillF vt t o).size = t.size := by unfold fillF; split <;> simp
theorem fill_get (vt : Nat → Value) (d : Nat) : ∀ (l : List Oper) (t : Array Value), d < t.size → (l.foldl (fillF vt) t)[d]? = if (l.any fun o => o.dst == some d) = true then some (vt d) else t[d]?
  | [], t, hd => by simp
  | o :: l, t, hd => by
    rw [List.foldl_cons, fill_get vt d l _ (by rw [fillF_size]; exact hd), List.any_cons]
    by_cases h1 : (l.any fun o => o.dst == some d) = true
    · rw [if_pos h1, if_pos (by rw [h1, Bool.or_true])]
    · rw [if_neg h1]
      unfold fillF
      cases ho : o.dst with
      | none => rw [if_neg (by simpa using h1)]
      | some e =>
        by_cases e1 : e = d
        · subst e1
          rw [if_pos (by simp)]
          simp [hd]
        · rw [if_neg (by simp [e1]; simpa using h1)]
          simp only [Array.getElem?_setIfInBounds, if_neg e1]
theorem fill_size (vt : Nat → Value) : ∀ (l : List Oper) (t : Array Value), (l.foldl (fillF vt) t).size = t.size
  | [], t => rfl
  | o :: l, t => by rw [List.foldl_cons, fill_size vt l, fillF_size]
theorem FrQ.full {ops : Array Oper} {vt : Nat → Value} {t0 : Array Value} {listed : Array Bool} {a : Act} (h : FrQ ops vt t0 listed a) (hl : ∀ j, j < ops.size → listed.getD j false = true) : a = ⟨ops.toList.foldl (fillF vt) t0, []⟩ := by
  obtain ⟨t, df⟩ := a
  obtain rfl : df = [] := h.df
  have hs : t.size = t0.size := h.sz
  congr 1
  apply Array.ext_getElem?
  intro d
  by_cases hd : d < t0.size
  · rw [fill_get vt d _ _ hd]
    by_cases h1 : (ops.toList.any fun o => o.dst == some d) = true
    · rw [if_pos h1]
      obtain ⟨o, ho, hod⟩ := List.any_eq_true.1 h1
      obtain ⟨j, hj, hjo⟩ := List.getElem_of_mem ho
      have hjl : j < ops.size := by simpa using hj
      exact h.val j o d (by rw [← hjo]; simp [hjl]) (by simpa using hod) (hl j hjl)
    · rw [if_neg h1]
      refine h.keep d (List.all_eq_true.2 fun o ho => ?_)
      have : ¬ (o.dst == some d) = true := fun z => h1 (List.any_eq_true.2 ⟨o, ho, z⟩)
      simpa [bne] using this
  · rw [Array.getElem?_eq_none (by show t.size ≤ d; omega), Array.getElem?_eq_none (by rw [fill_size]; omega)]
/-- a call, then another one: as far as both are done -/
structure VP (w0 : World) (Md Fn : World → Prop) (z y : Nat) (listed : Array Bool) (w : World) : Prop where
  c0 : listed.getD z false = false → w = w0
  c1 : listed.getD z false = true → listed.getD y false = false → Md w
  c2 : listed.getD y false = true → Fn w ∧ listed.getD z false = true
section
variable {w0 w w' : World} {Md Fn : World → Prop} {z y : Nat} {listed : Array Bool}
theorem VP.q (h : VP w0 Md Fn z y listed w) {j : Nat} (hj : j < listed.size) (n1 : z ≠ j) (n2 : y ≠ j) : VP w0 Md Fn z y (listed.setIfInBounds j true) w :=
  ⟨fun a => h.c0 (by rwa [getD_set _ _ _ hj, if_neg n1] at a), fun a b => h.c1 (by rwa [getD_set _ _ _ hj, if_neg n1] at a) (by rwa [getD_set _ _ _ hj, if_neg n2] at b), fun a => by
    rw [getD_set _ _ _ hj, if_neg n2] at a
    rw [getD_set _ _ _ hj, if_neg n1]
    exact h.c2 a⟩
theorem VP.atz (h : VP w0 Md Fn z y listed w) (hl : listed.getD z false = false) : w = w0 ∧ listed.getD y false = false :=
  ⟨h.c0 hl, by cases e : listed.getD y false; rfl; have := (h.c2 e).2; rw [hl] at this; cases this⟩
theorem VP.doz (hj : z < listed.size) (hzy : y ≠ z) (hy : listed.getD y false = false) (hm : Md w') : VP w0 Md Fn z y (listed.setIfInBounds z true) w' :=
  ⟨fun a => (by rw [getD_set _ _ _ hj, if_pos rfl] at a; cases a), fun _ _ => hm, fun a => (by rw [getD_set _ _ _ hj, if_neg hzy, hy] at a; cases a)⟩
theorem VP.doy (hj : y < listed.size) (hzy : z ≠ y) (hz : listed.getD z false = true) (hm : Fn w') : VP w0 Md Fn z y (listed.setIfInBounds y true) w' :=
  ⟨fun a => (by rw [getD_set _ _ _ hj, if_neg hzy, hz] at a; cases a), fun _ a => (by rw [getD_set _ _ _ hj, if_pos rfl] at a; cases a), fun _ => ⟨hm, by rw [getD_set _ _ _ hj, if_neg hzy]; exact hz⟩⟩
end
/-- a call of 2 arguments as a step -/
theorem wp_c2 {P : Program} {ops : Array Oper} {Q : Exit → Act → World → Prop} {i : Nat} {o : Oper} {K : Act → World → Prop} {a : Act} {w : World} (ho : ops[i]? = some o) (hg : o.guard = none) (f : FuncId) (x y : Operand) (ts : Array TypeId) (hop : o.op = .call { callee := .value (.func f), args := #[x, y], argTypes := ts }) (vx vy : Value) (hx : a.eval x = vx) (hy : a.eval y = vy) (hnf : (callFunc f #[vx, vy]).run P w = .ok (.enter f #[vx, vy]) w) {R : Ending → World → Prop} (hc : Calls P f #[vx, vy] w R)
    (h : ∀ e w', R e w' → ∃ v, e = .returned v ∧ K (a.put o.dst v) w') : wpOp P ops Q i K a w := by
  refine wpOp_step ho fun K' hK => ?_
  rw [if_pos (by simp [Region.wanted, hg])]
  have he : (execOp a.eval o).run P w = .ok (.enter f #[vx, vy]) w := by
    have hf : a.eval (.func f) = .func (.func f) #[] #[] := rfl
    simp [execOp, hop, resolve, invoke, Deferred.ofValue, hf, hx, hy, hnf]
  unfold Oper.wp
  rw [he, Oper.upon_enter]
  refine hc.mono fun e w' hR => ?_
  obtain ⟨v, rfl, hk⟩ := h e w' hR
  exact hK _ _ hk
/-- a call of 4 arguments as a step -/
theorem wp_c4 {P : Program} {ops : Array Oper} {Q : Exit → Act → World → Prop} {i : Nat} {o : Oper} {K : Act → World → Prop} {a : Act} {w : World} (ho : ops[i]? = some o) (hg : o.guard = none) (f : FuncId) (x y z t : Operand) (ts : Array TypeId) (hop : o.op = .call { callee := .value (.func f), args := #[x, y, z, t], argTypes := ts }) (vx vy vz vt : Value) (hx : a.eval x = vx) (hy : a.eval y = vy) (hz : a.eval z = vz) (ht : a.eval t = vt) (hnf : (callFunc f #[vx, vy, vz, vt]).run P w = .ok (.enter f #[vx, vy, vz, vt]) w) {R : Ending → World → Prop} (hc : Calls P f #[vx, vy, vz, vt] w R)
    (h : ∀ e w', R e w' → ∃ v, e = .returned v ∧ K (a.put o.dst v) w') : wpOp P ops Q i K a w := by
  refine wpOp_step ho fun K' hK => ?_
  rw [if_pos (by simp [Region.wanted, hg])]
  have he : (execOp a.eval o).run P w = .ok (.enter f #[vx, vy, vz, vt]) w := by
    have hf : a.eval (.func f) = .func (.func f) #[] #[] := rfl
    simp [execOp, hop, resolve, invoke, Deferred.ofValue, hf, hx, hy, hz, ht, hnf]
  unfold Oper.wp
  rw [he, Oper.upon_enter]
  refine hc.mono fun e w' hR => ?_
  obtain ⟨v, rfl, hk⟩ := h e w' hR
  exact hK _ _ hk
/-- what holds in the three worlds holds at each step -/
theorem VP.all {w0 w : World} {Md Fn : World → Prop} {z y : Nat} {listed : Array Bool} (h : VP w0 Md Fn z y listed w) {K : World → Prop} (k0 : K w0) (k1 : ∀ w, Md w → K w) (k2 : ∀ w, Fn w → K w) : K w := by
  cases ey : listed.getD y false
  · cases ez : listed.getD z false
    · rw [h.c0 ez]; exact k0
    · exact k1 _ (h.c1 ez ey)
  · exact k2 _ (h.c2 ey).1
theorem FrQ.swap {ops : Array Oper} {vt vt' : Nat → Value} {t0 : Array Value} {listed : Array Bool} {a : Act} (h : FrQ ops vt t0 listed a) (hv : ∀ j o d, ops[j]? = some o → o.dst = some d → listed.getD j false = true → vt d = vt' d) : FrQ ops vt' t0 listed a :=
  ⟨h.df, h.sz, h.ls, h.keep, fun j o d h1 h2 h3 => by rw [← hv j o d h1 h2 h3]; exact h.val j o d h1 h2 h3⟩
/-- a value that is told only when it is made -/
theorem wpAny_fx {α : Type} {P : Program} {ops : Array Oper} {Q : Exit → Act → World → Prop} {t0 : Array Value} {w : World} (vt : α → Nat → Value) (V : α → Array Bool → World → Prop)
    (step : ∀ listed a w x, FrQ ops (vt x) t0 listed a → V x listed w → ∀ i ∈ Region.ready .any ops listed, wpOp P ops Q i (fun a' w' => ∃ y, FrQ ops (vt y) t0 (listed.setIfInBounds i true) a' ∧ V y (listed.setIfInBounds i true) w') a w)
    (fin : ∀ listed a w x, FrQ ops (vt x) t0 listed a → V x listed w → Region.ready .any ops listed = [] → Q .normal a w) (x0 : α) (start : V x0 (Array.replicate ops.size false) w) :
    wpAny P .any ops Q ops.size (Array.replicate ops.size false) ⟨t0, []⟩ w :=
  wpAny_inv (fun listed fr wr => ∃ x, FrQ ops (vt x) t0 listed fr ∧ V x listed wr) (fun l a w ⟨x, h1, h2⟩ i hi => step l a w x h1 h2 i hi) (fun l a w ⟨x, h1, h2⟩ hr => fin l a w x h1 h2 hr) _ _ _ _ (by simp) ⟨x0, FrQ.start rfl, start⟩
/-- one call that turns something; what holds behind it stays -/
structure VX (w0 : World) (M : World → Prop) (z : Nat) (listed : Array Bool) (w : World) : Prop where
  c0 : listed.getD z false = false → w = w0
  c1 : listed.getD z false = true → M w
theorem VX.q {w0 w w' : World} {M : World → Prop} {z : Nat} {listed : Array Bool} (h : VX w0 M z listed w) {j : Nat} (hj : j < listed.size) (n1 : z ≠ j) (hw : w' = w ∨ (listed.getD z false = true ∧ M w')) : VX w0 M z (listed.setIfInBounds j true) w' := by
  refine ⟨fun a => ?_, fun a => ?_⟩
  · rw [getD_set _ _ _ hj, if_neg n1] at a
    rcases hw with e | ⟨e, _⟩
    · rw [e]; exact h.c0 a
    · rw [a] at e; cases e
  · rw [getD_set _ _ _ hj, if_neg n1] at a
    rcases hw with e | ⟨_, e⟩
    · rw [e]; exact h.c1 a
    · exact e
theorem VX.doz {w0 w' : World} {M : World → Prop} {z : Nat} {listed : Array Bool} (hj : z < listed.size) (hm : M w') : VX w0 M z (listed.setIfInBounds z true) w' :=
  ⟨fun a => (by rw [getD_set _ _ _ hj, if_pos rfl] at a; cases a), fun _ => hm⟩
structure VY (w0 : World) (M : World → Prop) (z : Nat) (B : List Nat) (listed : Array Bool) (w : World) : Prop where
  c0 : listed.getD z false = false → w = w0
  c1 : listed.getD z false = true → M w
  cb : ∀ k ∈ B, listed.getD k false = true → listed.getD z false = true
theorem VY.q {w0 w w' : World} {M : World → Prop} {z : Nat} {B : List Nat} {listed : Array Bool} (h : VY w0 M z B listed w) {j : Nat} (hj : j < listed.size) (n1 : z ≠ j) (hB : j ∈ B → listed.getD z false = true) (hw : w' = w ∨ (listed.getD z false = true ∧ M w')) : VY w0 M z B (listed.setIfInBounds j true) w' := by
  refine ⟨fun a => ?_, fun a => ?_, fun k hk a => ?_⟩
  · rw [getD_set _ _ _ hj, if_neg n1] at a
    rcases hw with e | ⟨e, _⟩
    · rw [e]; exact h.c0 a
    · rw [a] at e; cases e
  · rw [getD_set _ _ _ hj, if_neg n1] at a
    rcases hw with e | ⟨_, e⟩
    · rw [e]; exact h.c1 a
    · exact e
  · rw [getD_set _ _ _ hj, if_neg n1]
    by_cases e : k = j
    · subst e; exact hB hk
    · rw [getD_set _ _ _ hj, if_neg e] at a
      exact h.cb k hk a
theorem VY.doz {w0 w' : World} {M : World → Prop} {z : Nat} {B : List Nat} {listed : Array Bool} (hj : z < listed.size) (hm : M w') : VY w0 M z B (listed.setIfInBounds z true) w' :=
  ⟨fun a => (by rw [getD_set _ _ _ hj, if_pos rfl] at a; cases a), fun _ => hm, fun _ _ _ => by rw [getD_set _ _ _ hj, if_pos rfl]⟩
theorem wp_c1 {P : Program} {ops : Array Oper} {Q : Exit → Act → World → Prop} {i : Nat} {o : Oper} {K : Act → World → Prop} {a : Act} {w : World} (ho : ops[i]? = some o) (hg : o.guard = none) (f : FuncId) (x : Operand) (ts : Array TypeId) (hop : o.op = .call { callee := .value (.func f), args := #[x], argTypes := ts }) (vx : Value) (hx : a.eval x = vx) (hnf : (callFunc f #[vx]).run P w = .ok (.enter f #[vx]) w) {R : Ending → World → Prop} (hc : Calls P f #[vx] w R)
    (h : ∀ e w', R e w' → ∃ v, e = .returned v ∧ K (a.put o.dst v) w') : wpOp P ops Q i K a w := by
  refine wpOp_step ho fun K' hK => ?_
  rw [if_pos (by simp [Region.wanted, hg])]
  have he : (execOp a.eval o).run P w = .ok (.enter f #[vx]) w := by
    have hf : a.eval (.func f) = .func (.func f) #[] #[] := rfl
    simp [execOp, hop, resolve, invoke, Deferred.ofValue, hf, hx, hnf]
  unfold Oper.wp
  rw [he, Oper.upon_enter]
  refine hc.mono fun e w' hR => ?_
  obtain ⟨v, rfl, hk⟩ := h e w' hR
  exact hK _ _ hk
/-- a call of no argument under a guard that holds -/
theorem wp_c0w {P : Program} {ops : Array Oper} {Q : Exit → Act → World → Prop} {i : Nat} {o : Oper} {K : Act → World → Prop} {a : Act} {w : World} (ho : ops[i]? = some o) (hw : Region.wanted o (yielded ops a.tmps) = true) (f : FuncId) (ts : Array TypeId) (hop : o.op = .call { callee := .value (.func f), args := #[], argTypes := ts }) (hnf : (callFunc f #[]).run P w = .ok (.enter f #[]) w) {R : Ending → World → Prop} (hc : Calls P f #[] w R)
    (h : ∀ e w', R e w' → ∃ v, e = .returned v ∧ K (a.put o.dst v) w') : wpOp P ops Q i K a w := by
  refine wpOp_step ho fun K' hK => ?_
  rw [if_pos hw]
  have he : (execOp a.eval o).run P w = .ok (.enter f #[]) w := by
    have hf : a.eval (.func f) = .func (.func f) #[] #[] := rfl
    simp [execOp, hop, resolve, invoke, Deferred.ofValue, hf, hnf]
  unfold Oper.wp
  rw [he, Oper.upon_enter]
  refine hc.mono fun e w' hR => ?_
  obtain ⟨v, rfl, hk⟩ := h e w' hR
  exact hK _ _ hk
/-- operations that turn something, one behind the other: as far as they are done -/
def VS {α : Type} (z : List Nat) (M : Nat → α → World → Prop) (x : α) (listed : Array Bool) (w : World) : Prop := ∃ s : Nat, (∀ i k, z[i]? = some k → listed.getD k false = decide (i < s)) ∧ M s x w
section
variable {α : Type} {z : List Nat} {M : Nat → α → World → Prop} {x y : α} {listed : Array Bool} {w w' : World}
theorem VS.start {n : Nat} (h : M 0 x w) : VS z M x (Array.replicate n false) w := ⟨0, fun i k hk => by
  have : (Array.replicate n false).getD k false = false := by
    simp only [Array.getD_eq_getD_getElem?, Array.getElem?_replicate]
    split <;> rfl
  rw [this]; simp, h⟩
theorem VS.q (h : VS z M x listed w) {j : Nat} (hj : j < listed.size) (n1 : z.contains j = false) : VS z M x (listed.setIfInBounds j true) w := by
  obtain ⟨s, h1, h2⟩ := h
  refine ⟨s, fun i k hk => ?_, h2⟩
  rw [getD_set _ _ _ hj, if_neg ?_]
  · exact h1 i k hk
  · rintro rfl
    have : z.contains k = true := List.contains_iff_mem.2 (List.mem_of_getElem? hk)
    rw [n1] at this; cases this
theorem VS.mono (h : VS z M x listed w) (hm : ∀ s, M s x w → M s y w') : VS z M y listed w' := by
  obtain ⟨s, h1, h2⟩ := h
  exact ⟨s, h1, hm s h2⟩
/-- the one that comes now: just what is ahead of it is done -/
theorem VS.at (h : VS z M x listed w) (i : Nat) {k : Nat} (hk : z[i]? = some k) (hl : listed.getD k false = false) (hp : ∀ j, i = j + 1 → ∃ m, z[j]? = some m ∧ listed.getD m false = true) : M i x w := by
  obtain ⟨s, h1, h2⟩ := h
  have a := h1 i k hk
  rw [hl] at a
  have a' : ¬ i < s := by simpa using a.symm
  have : s = i := by
    cases i with
    | zero => omega
    | succ j =>
      obtain ⟨m, b1, b2⟩ := hp j rfl
      have b := h1 j m b1
      rw [b2] at b
      have : j < s := by simpa using b.symm
      omega
  rw [← this]; exact h2
theorem VS.go (h : VS z M x listed w) (i : Nat) {k : Nat} (hj : k < listed.size) (hk : z[i]? = some k) (hl : listed.getD k false = false) (hp : ∀ j, i = j + 1 → ∃ m, z[j]? = some m ∧ listed.getD m false = true) (hn : ∀ a, z[a]? = some k → a = i) (hm : M (i + 1) y w') : VS z M y (listed.setIfInBounds k true) w' := by
  obtain ⟨s, h1, h2⟩ := h
  have a := h1 i k hk
  rw [hl] at a
  have a' : ¬ i < s := by simpa using a.symm
  have hs : s = i := by
    cases i with
    | zero => omega
    | succ j =>
      obtain ⟨m, b1, b2⟩ := hp j rfl
      have b := h1 j m b1
      rw [b2] at b
      have : j < s := by simpa using b.symm
      omega
  subst hs
  refine ⟨s + 1, fun a b hb => ?_, hm⟩
  rw [getD_set _ _ _ hj]
  by_cases e : b = k
  · subst e
    rw [if_pos rfl, hn a hb]; simp
  · rw [if_neg e, h1 a b hb]
    have : a ≠ s := fun q => by subst q; rw [hk] at hb; exact e (Option.some.inj hb).symm
    by_cases q : a < s
    · have : a < s + 1 := by omega
      simp [q, this]
    · have : ¬ a < s + 1 := by omega
      simp [q, this]
theorem VS.end (h : VS z M x listed w) (i : Nat) {k : Nat} (hk : z[i]? = some k) (hl : listed.getD k false = true) (hz : ∀ s, i < s → M s x w → M (i + 1) x w) : M (i + 1) x w := by
  obtain ⟨s, h1, h2⟩ := h
  have a := h1 i k hk
  rw [hl] at a
  have a' : i < s := by simpa using a.symm
  exact hz s a' h2
end
/-- the same, with an operation L that waits for those below B -/
def VL {α : Type} (z : List Nat) (L B : Nat) (M : Nat → α → World → Prop) (x : α) (listed : Array Bool) (w : World) : Prop := VS z M x listed w ∧ (listed.getD L false = true → ∀ j, j < B → listed.getD j false = true)
section
variable {α : Type} {z : List Nat} {L B : Nat} {M : Nat → α → World → Prop} {x y : α} {listed : Array Bool} {w w' : World}
theorem VL.start {n : Nat} (h : M 0 x w) : VL z L B M x (Array.replicate n false) w := ⟨.start h, fun a => by
  have : (Array.replicate n false).getD L false = false := by
    simp only [Array.getD_eq_getD_getElem?, Array.getElem?_replicate]
    split <;> rfl
  rw [this] at a; cases a⟩
theorem VL.not (h : VL z L B M x listed w) {j : Nat} (hl : listed.getD j false = false) (hj : j < B) : listed.getD L false = false := by
  cases e : listed.getD L false
  · rfl
  · have := h.2 e j hj; rw [hl] at this; cases this
theorem VL.keep (h : VL z L B M x listed w) {j : Nat} (hs : j < listed.size) (hj : j ≠ L) : (listed.setIfInBounds j true).getD L false = true → ∀ i, i < B → (listed.setIfInBounds j true).getD i false = true := fun a i hi => by
  rw [getD_set _ _ _ hs, if_neg (fun q => hj q.symm)] at a
  rw [getD_set _ _ _ hs]
  split
  · rfl
  · exact h.2 a i hi
theorem VL.q (h : VL z L B M x listed w) {j : Nat} (hs : j < listed.size) (n1 : z.contains j = false) (hj : j ≠ L) : VL z L B M x (listed.setIfInBounds j true) w := ⟨h.1.q hs n1, h.keep hs hj⟩
theorem VL.go (h : VL z L B M x listed w) (i : Nat) {k : Nat} (hj : k < listed.size) (hk : z[i]? = some k) (hl : listed.getD k false = false) (hp : ∀ j, i = j + 1 → ∃ m, z[j]? = some m ∧ listed.getD m false = true) (hn : ∀ a, z[a]? = some k → a = i) (hm : M (i + 1) y w') (hL : k ≠ L) : VL z L B M y (listed.setIfInBounds k true) w' := ⟨h.1.go i hj hk hl hp hn hm, h.keep hj hL⟩
theorem VL.last (h : VL z L B M x listed w) (i : Nat) (hj : L < listed.size) (hk : z[i]? = some L) (hl : listed.getD L false = false) (hp : ∀ j, i = j + 1 → ∃ m, z[j]? = some m ∧ listed.getD m false = true) (hn : ∀ a, z[a]? = some L → a = i) (hm : M (i + 1) y w') (ha : ∀ j, j < B → listed.getD j false = true) : VL z L B M y (listed.setIfInBounds L true) w' := ⟨h.1.go i hj hk hl hp hn hm, fun _ j hj' => by
  rw [getD_set _ _ _ hj]
  split
  · rfl
  · exact ha j hj'⟩
/-- ahead of the last: which stages there may be -/
theorem VL.upto (h : VL z L B M x listed w) (i : Nat) (hk : z[i]? = some L) {j : Nat} (hl : listed.getD j false = false) (hj : j < B) {C : Prop} (hc : ∀ s, s ≤ i → M s x w → C) : C := by
  have := h.not hl hj
  obtain ⟨⟨s, h1, h2⟩, -⟩ := h
  have a := h1 i L hk
  rw [this] at a
  exact hc s (Nat.le_of_not_lt (by simpa using a.symm)) h2
end
/-- buildSlice as a step -/
theorem wp_bs {P : Program} {ops : Array Oper} {Q : Exit → Act → World → Prop} {i : Nat} {o : Oper} {K : Act → World → Prop} {a : Act} {w : World} (ho : ops[i]? = some o) (hg : o.guard = none) (t e : TypeId) (len : Nat) (parts : Array (Nat × Operand)) (hop : o.op = .buildSlice t len parts)
    (cells : Array Value) (ie : TypeInfo) (z : Value)
    (hu : P.underlying t = some (.slice e)) (hie : P.info? e = some ie) (hz : ie.zero = some z) (hsmall : ¬ len * ie.size > 2 ^ 24) (hpos : ¬ len * ie.size = 0)
    (hf : Instr.fill (fun i => some (i * ie.size, ie.size)) ((Array.range (len * ie.size)).map (z.cells[· % z.cells.size]!)) (parts.map fun (i, x) => (i, a.eval x)).toList = some cells)
    (h : K (a.put o.dst (.slice (some ⟨w.heap.size, 0, none⟩) len len)) (w.alloc (.cells cells e))) : wpOp P ops Q i K a w := by
  refine wpOp_step ho fun K' hK => ?_
  rw [if_pos (by simp [Region.wanted, hg])]
  exact wp_buildSlice t e len parts hop cells ie z hu hie hz hsmall hpos hf (hK _ _ h)

structure FrK (ops : Array Oper) (vt : Nat → Value) (t0 : Array Value) (listed : Array Bool) (a : Act) : Prop where
  q : FrQ ops vt t0 listed a
  old : ∀ j o d, ops[j]? = some o → o.dst = some d → listed.getD j false = false → a.tmps[d]? = t0[d]?
section
variable {ops : Array Oper} {vt : Nat → Value} {t0 : Array Value} {listed : Array Bool} {a : Act}
theorem FrK.start (hs : listed = Array.replicate ops.size false) : FrK ops vt t0 listed ⟨t0, []⟩ := ⟨.start hs, fun _ _ _ _ _ _ => rfl⟩
theorem FrK.put (h : FrK ops vt t0 listed a) (hn : ndB ops = true) {j : Nat} {o : Oper} {d : Nat} {v : Value} (ho : ops[j]? = some o) (hd : o.dst = some d) (hv : v = vt d) (hdl : d < t0.size) : FrK ops vt t0 (listed.setIfInBounds j true) (a.put o.dst v) := by
  refine ⟨h.q.put hn ho hd hv hdl, fun i p k hi hp hl => ?_⟩
  have hjl : j < listed.size := by rw [h.q.ls]; exact (Array.getElem?_eq_some_iff.1 ho).1
  rw [getD_set _ _ _ hjl] at hl
  have hne : i ≠ j := fun e => by rw [if_pos e] at hl; cases hl
  rw [if_neg hne] at hl
  have hdk : d ≠ k := fun e => by subst e; exact hne (ndB_spec hn hi ho hp hd)
  rw [hd]
  simp only [Act.put, Array.getElem?_setIfInBounds]
  rw [if_neg hdk]
  exact h.old i p k hi hp hl
theorem FrK.ev (h : FrK ops vt t0 listed a) {i : Nat} {o : Oper} {d : Nat} (hi : ops[i]? = some o) (hd : o.dst = some d) (hl : listed.getD i false = true) : a.tmps[d]?.getD undef = vt d := h.q.ev hi hd hl
theorem FrK.base (h : FrK ops vt t0 listed a) (d : Nat) (hd : (ops.toList.all fun o => o.dst != some d) = true) {v : Value} (hv : t0[d]? = some v) : a.tmps[d]?.getD undef = v := h.q.base d hd hv
theorem FrK.full (h : FrK ops vt t0 listed a) (hl : ∀ j, j < ops.size → listed.getD j false = true) : a = ⟨ops.toList.foldl (fillF vt) t0, []⟩ := h.q.full hl
end
theorem wpAny_fk {α : Type} {P : Program} {ops : Array Oper} {Q : Exit → Act → World → Prop} {t0 : Array Value} {w : World} (vt : α → Nat → Value) (V : α → Array Bool → World → Prop)
    (step : ∀ listed a w x, FrK ops (vt x) t0 listed a → V x listed w → ∀ i ∈ Region.ready .any ops listed, wpOp P ops Q i (fun a' w' => ∃ y, FrK ops (vt y) t0 (listed.setIfInBounds i true) a' ∧ V y (listed.setIfInBounds i true) w') a w)
    (fin : ∀ listed a w x, FrK ops (vt x) t0 listed a → V x listed w → Region.ready .any ops listed = [] → Q .normal a w) (x0 : α) (start : V x0 (Array.replicate ops.size false) w) :
    wpAny P .any ops Q ops.size (Array.replicate ops.size false) ⟨t0, []⟩ w :=
  wpAny_inv (fun listed fr wr => ∃ x, FrK ops (vt x) t0 listed fr ∧ V x listed wr) (fun l a w ⟨x, h1, h2⟩ i hi => step l a w x h1 h2 i hi) (fun l a w ⟨x, h1, h2⟩ hr => fin l a w x h1 h2 hr) _ _ _ _ (by simp) ⟨x0, FrK.start rfl, start⟩
theorem wp_qw {P : Program} {ops : Array Oper} {Q : Exit → Act → World → Prop} {i : Nat} {o : Oper} {K : Act → World → Prop} {a : Act} {w w' : World} {v : Value} (ho : ops[i]? = some o) (hw : Region.wanted o (yielded ops a.tmps) = true) (hr : (execOp a.eval o).run P w = .ok (.value v) w') (h : K (a.put o.dst v) w') : wpOp P ops Q i K a w := by
  refine wpOp_step ho fun K' hK => ?_
  rw [if_pos hw]
  unfold Oper.wp
  rw [hr]
  exact hK _ _ h
/-- a call of five arguments under a guard that holds -/
theorem wp_c5w {P : Program} {ops : Array Oper} {Q : Exit → Act → World → Prop} {i : Nat} {o : Oper} {K : Act → World → Prop} {a : Act} {w : World} (ho : ops[i]? = some o) (hw : Region.wanted o (yielded ops a.tmps) = true) (f : FuncId) (x y z t s : Operand) (ts : Array TypeId) (hop : o.op = .call { callee := .value (.func f), args := #[x, y, z, t, s], argTypes := ts }) (vx vy vz vt vs : Value) (hx : a.eval x = vx) (hy : a.eval y = vy) (hz : a.eval z = vz) (ht : a.eval t = vt) (hs : a.eval s = vs) (hnf : (callFunc f #[vx, vy, vz, vt, vs]).run P w = .ok (.enter f #[vx, vy, vz, vt, vs]) w) {R : Ending → World → Prop} (hc : Calls P f #[vx, vy, vz, vt, vs] w R)
    (h : ∀ e w', R e w' → ∃ v, e = .returned v ∧ K (a.put o.dst v) w') : wpOp P ops Q i K a w := by
  refine wpOp_step ho fun K' hK => ?_
  rw [if_pos hw]
  have he : (execOp a.eval o).run P w = .ok (.enter f #[vx, vy, vz, vt, vs]) w := by
    have hf : a.eval (.func f) = .func (.func f) #[] #[] := rfl
    simp [execOp, hop, resolve, invoke, Deferred.ofValue, hf, hx, hy, hz, ht, hs, hnf]
  unfold Oper.wp
  rw [he, Oper.upon_enter]
  refine hc.mono fun e w' hR => ?_
  obtain ⟨v, rfl, hk⟩ := h e w' hR
  exact hK _ _ hk
/-- the last operation, which turns nothing -/
theorem VL.lq {α : Type} {z : List Nat} {L B : Nat} {M : Nat → α → World → Prop} {x : α} {listed : Array Bool} {w : World} (h : VL z L B M x listed w) (hs : L < listed.size) (n1 : z.contains L = false) (ha : ∀ j, j < B → listed.getD j false = true) : VL z L B M x (listed.setIfInBounds L true) w := ⟨h.1.q hs n1, fun _ j hj' => by
  rw [getD_set _ _ _ hs]
  split
  · rfl
  · exact ha j hj'⟩
section
variable {P : Program} (w : World) {o : Oper} {a : Act} {Q : Exit → Act → World → Prop} (s x : Operand) (t : TypeId)
    (ho : o.op = .call { callee := .builtin .append, args := #[s, x], argTypes := #[t, t] })
    (e : TypeId) (i : TypeInfo) (z : Value) (size bytes : Nat) (ht : P.underlying t = some (.slice e)) (hi : P.info? e = some i) (hz : i.zero = some z)
    (hsize : i.size = size) (hby : i.bytes = bytes) (hzs : z.cells.size = size) (hsz : 0 < size)
    (v : Value) (n : Nat) (xs : List Value) (hs : a.eval s = v) (hown : w.ownsRow 0 e size v n xs)
    (ad : Addr) (m c : Nat) (news : List Value) (hx : a.eval x = .slice (some ad) m c) (hl : news.length = m * size) (hnews : ∀ j u, news[j]? = some u → w.cell? (ad.add j) = some u) (h1 : ∀ u ∈ news, u.oneCell' = true)
    (h63 : n + m ≤ maxLen) (hbytes : (n + m) * bytes ≤ 140737488355328)
include ho ht hi hz hsize hby hzs hsz hs hown hx hl hnews h1 h63 hbytes
/-- append: the list's block is the elder one or a new one -/
theorem wp_append_blk {K : Act → World → Prop} (h : ∀ v' w', w'.ownsRow 0 e size v' (n + m) (xs ++ news) → w.grownBy w' v.ownBlock → (∀ k, v'.ownBlock = some k → v.ownBlock = some k ∨ w.heap.size ≤ k) → K (a.put o.dst v') w') : o.wp P a w K Q := by
  obtain ⟨v', w', hr, h2, h3, h4⟩ := run_append_own (P := P) w 0 t o.type e i z size bytes ht hi hz hsize hby hzs hsz v n xs hown ad m c news hl hnews h1 h63 hbytes (Nat.zero_le _)
  have hb : ∀ k, v'.ownBlock = some k → v.ownBlock = some k ∨ w.heap.size ≤ k := by
    rcases hown.2 with ⟨rfl, rfl⟩ | ⟨g, cap, cur, rfl, hbg, hg, hnc, hcm, hcs, htake⟩
    · obtain ⟨v2, w2, hr2, h22, -, -⟩ := run_append_own (P := P) w w.heap.size t o.type e i z size bytes ht hi hz hsize hby hzs hsz (.slice none 0 0) 0 xs ⟨hown.1, .inl ⟨rfl, rfl⟩⟩ ad m c news hl hnews h1 h63 hbytes (Nat.le_refl _)
      rw [hr] at hr2
      injection hr2 with e1 e2
      subst e1
      exact fun k hk => .inr (h22.lt k hk).1
    · subst hsize
      by_cases hroom : n + m ≤ cap
      · have hfit : n * i.size + news.length ≤ cur.size := by rw [hl, hcs, ← Nat.add_mul]; exact Nat.mul_le_mul_right _ hroom
        have hr2 := run_append_room (P := P) w t o.type e i ht hi g n cap cur hg ad m c news hl hnews h1 hroom hfit
        rw [hr] at hr2
        injection hr2 with e1 e2
        subst e1
        exact fun k hk => .inl hk
      · have holds : ∀ j u, xs[j]? = some u → w.cell? ((⟨g, 0, none⟩ : Addr).add j) = some u := hown.cells (g := g) rfl
        have hr2 := run_append_grow (P := P) w t o.type e i z ht hi hz ⟨g, 0, none⟩ n cap xs hown.1 holds ad m c news hl hnews (by omega) (by simp only [maxLen] at h63; omega) (growslice_fits (by omega) (by rw [hby]; exact hbytes))
        rw [hr] at hr2
        injection hr2 with e1 e2
        subst e1
        exact fun k hk => .inr (by simp [Value.ownBlock] at hk; omega)
  unfold Oper.wp execOp
  simp only [ho, resolve, invoke, builtin, Sem.run_bind, Sem.run_pure, Result.andThen_ok, List.map_toArray, List.map_cons, List.map_nil, hs, hx, hr]
  exact h v' w' h2 h3 hb
theorem wpList_append_blk {ops : Array Oper} {rest : List Oper} (hgd : o.guard = none) (h : ∀ v' w', w'.ownsRow 0 e size v' (n + m) (xs ++ news) → w.grownBy w' v.ownBlock → (∀ k, v'.ownBlock = some k → v.ownBlock = some k ∨ w.heap.size ≤ k) → wpList P ops Q rest (a.put o.dst v') w') : wpList P ops Q (o :: rest) a w :=
  wpList_plain hgd fun _ hK => wp_append_blk w s x t ho e i z size bytes ht hi hz hsize hby hzs hsz v n xs hs hown ad m c news hx hl hnews h1 h63 hbytes fun v' w' h2 h3 h4 => hK _ _ (h v' w' h2 h3 h4)
theorem step_append_blk {ops : Array Oper} {K : Act → World → Prop} {E : Prop} (hgd : o.guard = none) (h : ∀ v' w', w'.ownsRow 0 e size v' (n + m) (xs ++ news) → w.grownBy w' v.ownBlock → (∀ k, v'.ownBlock = some k → v.ownBlock = some k ∨ w.heap.size ≤ k) → K (a.put o.dst v') w') :
    if Region.wanted o (yielded ops a.tmps) = true then Oper.wp P o a w K Q else E := by
  have hw : Region.wanted o (yielded ops a.tmps) = true := by simp [Region.wanted, hgd]
  rw [if_pos hw]
  exact wp_append_blk w s x t ho e i z size bytes ht hi hz hsize hby hzs hsz v n xs hs hown ad m c news hx hl hnews h1 h63 hbytes h
end
/-- the block of a list -/
def Ug (u : Value) (k : Nat) : Prop := u.ownBlock = some k
theorem grown_ug {w w' : World} {u : Value} (hg : w.grownBy w' u.ownBlock) : Only (Ug u) w w' := ⟨hg.os, hg.tape, hg.output, hg.size, fun k hk hs => hg.block k hk fun e => hs e.symm⟩
theorem own_only {w w' : World} {e : TypeId} {size : Nat} {u : Value} {n : Nat} {xs : List Value} (h : w.ownsRow 0 e size u n xs) {T : Nat → Prop} (ho : Only T w w') (hd : ∀ k, Ug u k → ¬ T k) : w'.ownsRow 0 e size u n xs := by
  refine ⟨h.1, ?_⟩
  rcases h.2 with z | ⟨g, cap, cur, h1, h2, h3, h4⟩
  · exact .inl z
  · exact .inr ⟨g, cap, cur, h1, h2, ho.old h3 (hd g (by rw [h1]; rfl)), h4⟩
theorem own_form {w : World} {e : TypeId} {u : Value} {n : Nat} {xs : List Value} (h : w.ownsRow 0 e 1 u n xs) : ∃ ad c, u = .slice ad n c := by
  rcases h.2 with ⟨h1, h2⟩ | ⟨g, cap, cur, h1, h2⟩
  · exact ⟨none, 0, by rw [h1, h2]⟩
  · exact ⟨_, cap, h1⟩
theorem own_typ {w : World} {e : TypeId} {size : Nat} {u : Value} {n : Nat} {xs : List Value} (h : w.ownsRow 0 e size u n xs) {k : Nat} (hk : Ug u k) : ∃ cur, w.heap[k]? = some (.cells cur e (0, 0)) := by
  rcases h.2 with ⟨z, -⟩ | ⟨g, cap, cur, h1, h2, h3, h4⟩
  · rw [z] at hk; cases hk
  · rw [h1] at hk
    have : g = k := by simpa [Ug, Value.ownBlock] using hk
    exact ⟨cur, this ▸ h3⟩
theorem wp_st {P : Program} {ops : Array Oper} {Q : Exit → Act → World → Prop} {i : Nat} {o : Oper} {K : Act → World → Prop} {a : Act} {w : World} (ho : ops[i]? = some o) (hg : o.guard = none) (ty : TypeId) (x y : Operand) (hop : o.op = .store ty x y) (g : Nat) (cells : Array Value) (hx : a.eval x = .pointer (some ⟨g, 0, none⟩)) (hy : a.eval y = .agg cells) (t : TypeId) (old : Array Value) (hgg : w.heap[g]? = some (.cells old t (0, 0))) (hi : (P.info? ty).map (·.size) = some cells.size) (hold : old.size = cells.size) (h1 : cells.all (·.oneCell') = true) (h : K (a.put o.dst undef) (w.setRow g cells)) : wpOp P ops Q i K a w := by
  refine wpOp_step ho fun K' hK => ?_
  rw [if_pos (by simp [Region.wanted, hg])]
  exact wp_store_row ty x y hop g cells hx hy t old hgg hi hold h1 (hK _ _ h)
theorem wp_qb {P : Program} {ops : Array Oper} {Q : Exit → Act → World → Prop} {i : Nat} {o : Oper} {K : Act → World → Prop} {a : Act} {w w' : World} {v : Value} (ho : ops[i]? = some o) (hg : o.guard = none) (hr : (execOp a.eval o).run P w = .ok (.value v) w') (h : K (a.put o.dst v) w') : wpOp P ops Q i K a w := by
  refine wpOp_step ho fun K' hK => ?_
  rw [if_pos (by simp [Region.wanted, hg])]
  unfold Oper.wp
  rw [hr]
  exact hK _ _ h
theorem wtd {ops : Array Oper} {a : Act} {o oj : Oper} {j d : Nat} {b : Bool} (hg : o.guard = some (j, b)) (hj : ops[j]? = some oj) (hd : oj.dst = some d) (hv : a.tmps[d]? = some (.bool b)) : Region.wanted o (yielded ops a.tmps) = true := by
  simp [Region.wanted, hg, yielded, hj, hd, hv]
theorem wtn {ops : Array Oper} {a : Act} {o oj : Oper} {j d : Nat} {b c : Bool} (hg : o.guard = some (j, b)) (hj : ops[j]? = some oj) (hd : oj.dst = some d) (hv : a.tmps[d]? = some (.bool c)) (hn : c ≠ b) : Region.wanted o (yielded ops a.tmps) = false := by
  simp [Region.wanted, hg, yielded, hj, hd, hv, hn]
/-- an operation that is not wanted -/
theorem wp_sk {P : Program} {ops : Array Oper} {Q : Exit → Act → World → Prop} {i : Nat} {o : Oper} {K : Act → World → Prop} {a : Act} {w : World} (ho : ops[i]? = some o) (hw : Region.wanted o (yielded ops a.tmps) = false) (h : K (a.put o.dst undef) w) : wpOp P ops Q i K a w := by
  refine wpOp_step ho fun K' hK => ?_
  rw [if_neg (by simp [hw])]
  exact hK _ _ h
def Cl (ops : Array Oper) (listed : Array Bool) : Prop := ∀ i o, ops[i]? = some o → listed.getD i false = true → ∀ e ∈ o.after, Region.binds .any e = true → listed.getD e.on false = true
theorem Cl.start (ops : Array Oper) (n : Nat) : Cl ops (Array.replicate n false) := fun i o _ hl => by
  have : (Array.replicate n false).getD i false = false := by
    simp only [Array.getD_eq_getD_getElem?, Array.getElem?_replicate]
    split <;> rfl
  rw [this] at hl; cases hl
theorem Cl.set {ops : Array Oper} {listed : Array Bool} (h : Cl ops listed) {i : Nat} {o : Oper} (hs : i < listed.size) (ho : ops[i]? = some o) (he : ∀ e ∈ o.after, Region.binds .any e = true → listed.getD e.on false = true) : Cl ops (listed.setIfInBounds i true) := fun k o' ho' hl e hm hb => by
  rw [getD_set _ _ _ hs]
  split
  · rfl
  · rw [getD_set _ _ _ hs] at hl
    by_cases z : k = i
    · subst z
      rw [ho] at ho'
      cases ho'
      exact he e hm hb
    · rw [if_neg z] at hl
      exact h k o' ho' hl e hm hb
/-- the last one waits, one behind the other, for all -/
def lastB (ops : Array Oper) (n : Nat) : Bool := (List.range n).all fun j => (List.range (n + 1)).any fun i => decide (j < i) && (match ops[i]? with | some o => o.after.any fun e => e.on == j && Region.binds .any e | none => false)
theorem Cl.all {ops : Array Oper} {listed : Array Bool} (h : Cl ops listed) {n : Nat} (hc : lastB ops n = true) (hn : listed.getD n false = true) : ∀ d j, j + d = n → listed.getD j false = true := by
  intro d
  induction d using Nat.strongRecOn with
  | ind d ih =>
    intro j hj
    by_cases z : d = 0
    · subst z
      obtain rfl : j = n := by omega
      exact hn
    · have h1 := List.all_eq_true.1 hc j (by simp; omega)
      obtain ⟨i, hi, h2⟩ := List.any_eq_true.1 h1
      simp only [List.mem_range] at hi
      rw [Bool.and_eq_true] at h2
      obtain ⟨h3, h4⟩ := h2
      have hji : j < i := of_decide_eq_true h3
      have hli := ih (n - i) (by omega) i (by omega)
      cases ho : ops[i]? with
      | none => rw [ho] at h4; cases h4
      | some o =>
        rw [ho] at h4
        obtain ⟨e, hm, he⟩ := Array.any_eq_true'.1 h4
        simp only [Bool.and_eq_true, beq_iff_eq] at he
        have := h i o ho hli e hm he.2
        rwa [he.1] at this
/-- a region that draws: frame by slots, values that are told when they are made, what was waited for is done -/
theorem wpAny_fz {α : Type} {P : Program} {ops : Array Oper} {Q : Exit → Act → World → Prop} {t0 : Array Value} {w : World} (vt : α → Nat → Value) (V : α → Array Bool → World → Prop)
    (step : ∀ listed a w x, FrK ops (vt x) t0 listed a → V x listed w → Cl ops listed → ∀ i ∈ Region.ready .any ops listed, wpOp P ops Q i (fun a' w' => ∃ y, FrK ops (vt y) t0 (listed.setIfInBounds i true) a' ∧ V y (listed.setIfInBounds i true) w') a w)
    (fin : ∀ listed a w x, FrK ops (vt x) t0 listed a → V x listed w → Region.ready .any ops listed = [] → Q .normal a w) (x0 : α) (start : V x0 (Array.replicate ops.size false) w) :
    wpAny P .any ops Q ops.size (Array.replicate ops.size false) ⟨t0, []⟩ w :=
  wpAny_inv (fun listed fr wr => ∃ x, FrK ops (vt x) t0 listed fr ∧ V x listed wr ∧ Cl ops listed) (fun l a w ⟨x, h1, h2, h3⟩ i hi => by
    obtain ⟨hl, o, ho, he⟩ := mem_ready.1 hi
    have hjl : i < l.size := by rw [h1.q.ls]; exact (Array.getElem?_eq_some_iff.1 ho).1
    exact wpOp_mono (fun a' w' ⟨y, h4, h5⟩ => ⟨y, h4, h5, h3.set hjl ho he⟩) (step l a w x h1 h2 h3 i hi)) (fun l a w ⟨x, h1, h2, _⟩ hr => fin l a w x h1 h2 hr) _ _ _ _ (by simp) ⟨x0, FrK.start rfl, start, Cl.start _ _⟩
theorem FrK.skip {ops : Array Oper} {vt : Nat → Value} {t0 : Array Value} {listed : Array Bool} {a : Act} (h : FrK ops vt t0 listed a) {j : Nat} {o : Oper} (ho : ops[j]? = some o) (hd : o.dst = none) (v : Value) : FrK ops vt t0 (listed.setIfInBounds j true) (a.put o.dst v) := by
  refine ⟨h.q.skip ho hd v, fun i p k hi hp hl => ?_⟩
  have hjl : j < listed.size := by rw [h.q.ls]; exact (Array.getElem?_eq_some_iff.1 ho).1
  rw [getD_set _ _ _ hjl] at hl
  have hne : i ≠ j := fun e => by rw [if_pos e] at hl; cases hl
  rw [if_neg hne] at hl
  rw [hd]
  exact h.old i p k hi hp hl
theorem FrK.swap {ops : Array Oper} {vt vt' : Nat → Value} {t0 : Array Value} {listed : Array Bool} {a : Act} (h : FrK ops vt t0 listed a) (hv : ∀ j o d, ops[j]? = some o → o.dst = some d → listed.getD j false = true → vt d = vt' d) : FrK ops vt' t0 listed a := ⟨h.q.swap hv, h.old⟩
end Go.Proofs.YtjkihlpckgaggaaGreat
