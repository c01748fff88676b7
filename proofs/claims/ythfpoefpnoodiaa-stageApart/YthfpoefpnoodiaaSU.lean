/- Rights that are turned. -/
import Derived.Test.YthfpoefpnoodiaaSQ
import Derived.Test.YthfpoefpnoodiaaSGU
namespace Go.Proofs.Ythfpoefpnoodiaa
open Go.RowKit
open C (Only hid Mem RMem Still ret_bool ret_int put byt rd8 lo nu c_Place gst rdmB)
set_option linter.unusedVariables false
set_option maxRecDepth 100000

section
variable (w : World) (F : Nat → Prop) (u : Value) (q pl : Nat) (s : SV) (v : PV) (f : Nat → Int) (vm : Int) (h : SPs w F u q pl s v f vm)
include h
/-- an entry of level 0 is written: the space with it -/
theorem r_store (p fr pm : Nat) (hq : s.k0 (p / 512) ≠ 0) (hp : pm = 0 ∨ okP pm ∧ fr < v.n ∧ v.o fr ≠ -1) (hf : fr ≤ 1024) (w1 : World) (hb : Below w.heap.size w w1) : Calls Try.prog 81 #[.pointer (some ⟨q, 0, none⟩), .int .u64 (v.b + (lfO s p : Nat)), .int .u64 (lE v.b fr pm)] w1 fun r w' => r = .returned (.tuple #[]) ∧ ∃ F', SPs w' F' u q pl (s.leaf p fr pm) v (w8 f (lfO s p) (lE v.b fr pm)) vm ∧ Only F w w' ∧ ∀ k, F' k → F k ∨ w.heap.size ≤ k := by
  have h1 := h.below hb
  have hk := (h.iv.k0lt hq).1
  have n2 := h.iv.ba.n2
  have lb := lE_b (t := fr) (pm := pm) h.iv.ba.b0 h.iv.ba.b1 hf (hp.imp id (·.1))
  have hi := h.iv.mkl (p := p) hq hp hf
  refine (x_store w1 F q pl v f h1.pl h1.sq.c0 (lfO s p) (by unfold lfO; omega) _ rfl _ lb.1 lb.2).mono ?_
  rintro r w2 ⟨rfl, F2, k1, k2, k3⟩
  have z := hb.size
  exact ⟨rfl, F2, ⟨k1, h1.sq.only k2 h1.nq, own_only h1.ls k2 fun k hk => (h1.nu hk).1, hi⟩, (Only.ofBelow hb).trans k2, fun k hk => (k3 k hk).imp id fun y => by omega⟩
theorem x_Protect (p pm : Nat) (hp : s.pp p ≠ 0) (hpm : okP pm) : Calls Try.prog 24 #[.pointer (some ⟨q, 0, none⟩), .int .u64 p, .int .i64 pm] w fun r w' => r = .returned (.int .i64 0) ∧ ∃ F', SPs w' F' u q pl (s.leaf p (s.pf p) pm) v (w8 f (lfO s p) (lE v.b (s.pf p) pm)) vm ∧ Only F w w' ∧ ∀ k, F' k → F k ∨ w.heap.size ≤ k := by
  obtain ⟨hq, hk, hf, ho⟩ := h.iv.ap p hp
  have n2 := h.iv.ba.n2
  have b0 := h.iv.ba.b0
  have b1 := h.iv.ba.b1
  have lb := lE_b (t := s.pf p) (pm := s.pp p) b0 b1 (by omega) (.inr hk)
  have hn := c_number _ lb.1 lb.2
  rw [num_l _ _ _ hk] at hn
  have hl := c_leafAt (v.b / 4096 + s.pf p) (by omega) (by omega) pm hpm
  rw [lE_of v.b (s.pf p) pm hpm] at hl
  have hlt := h.iv.pplt hp
  exact t_prot_yes w q p pm _ _ _ _ (fun w' => ∃ F', SPs w' F' u q pl (s.leaf p (s.pf p) pm) v (w8 f (lfO s p) (lE v.b (s.pf p) pm)) vm ∧ Only F w w' ∧ ∀ k, F' k → F k ∨ w.heap.size ≤ k) (by unfold okP at hpm; omega) (by unfold okP at hpm; omega) (by omega) (by unfold okP at hpm; unfold okPb; simp; omega) (r_leaf_yes w F u q pl s v f vm h p hp) (fun w1 hb => r_store w F u q pl s v f vm h p (s.pf p) pm hq (.inr ⟨hpm, hf, ho⟩) (by omega) w1 hb) hn hl
theorem x_Unmap (p : Nat) (hp : s.pp p ≠ 0) : Calls Try.prog 23 #[.pointer (some ⟨q, 0, none⟩), .int .u64 p] w fun r w' => r = .returned (.tuple #[.int .i64 (s.pf p : Nat), .int .i64 0]) ∧ ∃ F', SPs w' F' u q pl (s.leaf p 0 0) v (w8 f (lfO s p) 0) vm ∧ Only F w w' ∧ ∀ k, F' k → F k ∨ w.heap.size ≤ k := by
  obtain ⟨hq, hk, hf, ho⟩ := h.iv.ap p hp
  have n2 := h.iv.ba.n2
  have b0 := h.iv.ba.b0
  have b1 := h.iv.ba.b1
  have lb := lE_b (t := s.pf p) (pm := s.pp p) b0 b1 (by omega) (.inr hk)
  have hn := c_number _ lb.1 lb.2
  rw [num_l _ _ _ hk] at hn
  have hs := fun w1 hb => r_store w F u q pl s v f vm h p 0 0 hq (.inl rfl) (by decide) w1 hb
  rw [show lE v.b 0 0 = 0 from rfl] at hs
  refine (t_unmap_yes w q (s.pf p) p _ _ _ (fun w' => ∃ F', SPs w' F' u q pl (s.leaf p 0 0) v (w8 f (lfO s p) 0) vm ∧ Only F w w' ∧ ∀ k, F' k → F k ∨ w.heap.size ≤ k) (r_leaf_yes w F u q pl s v f vm h p hp) hs hn (fun w1 n hQ => by obtain ⟨F', k1, -, -⟩ := hQ; exact r_frameOf (w1.drewN n) F' u q pl _ v _ vm (k1.below (below_dn (Below.refl _ _) n)) (s.pf p) (by omega) _ rfl)).mono ?_
  rintro r w' ⟨rfl, w2, n, ⟨F', k1, k2, k3⟩, rfl⟩
  exact ⟨rfl, F', k1.below (below_dn (Below.refl _ _) n), k2.trans (.ofBelow (below_dn (Below.refl _ _) n)), k3⟩
theorem x_TakeS (x : Int) (hx : may x = true) (hx1 : 1 ≤ x) (hc : 0 < cnt v.o 0 v.n) : Calls Try.prog 26 #[.pointer (some ⟨pl, 0, none⟩), .int .i64 x] w fun r w' => r = .returned (.tuple #[.int .i64 (ff v.o v.n : Nat), .int .i64 0]) ∧ SPs w' F u q pl s (v.own (ff v.o v.n) x) f vm ∧ Only F w w' := by
  have := x_Take w F pl v f h.pl x
  rw [tk_free v x hx hc] at this
  obtain ⟨h1, h2⟩ := cnt_pos hc
  refine this.mono ?_
  rintro r w' ⟨rfl, k1, k2⟩
  exact ⟨rfl, h.turn k1 k2 rfl rfl (h.iv.own h1 h2 (.inl hx1) (fun e => by omega)), k2⟩
end
theorem r_WriteAny (w : World) (F : Nat → Prop) (u : Value) (q pl : Nat) (s : SV) (v : PV) (f : Nat → Int) (vm : Int) (h : SPs w F u q pl s v f vm) (a : Int) (a0 : 0 ≤ a) (a1 : a < 18446744073709551616) (n : Nat) (hn : wdt n = true) (x : Int) (x0 : 0 ≤ x) (x1 : x < 18446744073709551616) (b : Bool) (hb : (∀ j, j < n → pgOk s 4 ((a.toNat + j) / 4096) = true) ↔ b = true) :
    Calls Try.prog 25 #[.pointer (some ⟨q, 0, none⟩), .int .u64 a, .int .i64 n, .int .u64 x] w fun r w' => r = .returned (.bool b) ∧ ∃ F' f', SPs w' F' u q pl s v f' vm ∧ f' = (if b = true then wG s f a.toNat x n else f) ∧ Only F w w' ∧ ∀ k, F' k → F k ∨ w.heap.size ≤ k := by
  cases hbc : b
  · have hp := x_places w F u q pl s v f vm h a a0 a1 n hn 4 (.inr rfl) false (by rw [← hbc]; exact hb)
    refine (t_write_no w q a n x (hp.mono fun r w' hQ => ⟨⟨hQ.1.choose, hQ.1.choose_spec.1⟩, hQ.2⟩)).mono ?_
    rintro r w' ⟨rfl, h2⟩
    exact ⟨rfl, F, f, h.below h2, rfl, .ofBelow h2, fun _ z => .inl z⟩
  · refine (x_Write w F u q pl s v f vm h a a0 a1 n hn x x0 x1 (hb.2 hbc)).mono ?_
    rintro r w' ⟨rfl, F', h1, h2, h3⟩
    exact ⟨rfl, F', _, h1, rfl, h2, h3⟩
theorem leaf_pp (s : SV) (p fr pm : Nat) : (s.leaf p fr pm).pp p = pm := upd_same s.pp p pm
theorem leaf_pf (s : SV) (p fr pm : Nat) : (s.leaf p fr pm).pf p = fr := upd_same s.pf p fr
theorem leaf_ppo (s : SV) (p fr pm x : Nat) (h : x ≠ p) : (s.leaf p fr pm).pp x = s.pp x := upd_other s.pp p pm x h
theorem leaf_pfo (s : SV) (p fr pm x : Nat) (h : x ≠ p) : (s.leaf p fr pm).pf x = s.pf x := upd_other s.pf p fr x h
theorem and_i64 : ∀ n c : Fin 16, bits .and .i64 ((n : Nat) : Int) ((c : Nat) : Int) = (((n : Nat) &&& (c : Nat) : Nat) : Int) := by decide +kernel
theorem okP_lt {p : Nat} (h : okP p) : p < 16 := by unfold okP at h; omega
theorem okR_w {p : Nat} (h : okP p) : okR 4 p = decide (p &&& 4 ≠ 0) := by
  rcases h with h | h | h | h | h <;> subst h <;> rfl
def pmT (j : Nat) : Nat := if j = 0 then 2 else if j = 1 then 6 else if j = 2 then 8 else if j = 3 then 10 else 14
theorem pmT_ok (j : Nat) : okP (pmT j) := by unfold pmT okP; split <;> (try split) <;> (try split) <;> (try split) <;> omega
theorem pmT_at (j : Nat) (hj : j < 5) : (#[Value.int .i64 2, .int .i64 6, .int .i64 8, .int .i64 10, .int .i64 14] : Array Value)[j]? = some (.int .i64 (pmT j : Nat)) := by
  rcases j with _ | _ | _ | _ | _ | j
  · rfl
  · rfl
  · rfl
  · rfl
  · rfl
  · omega
theorem ff_sp2 (m : Nat) : ff (spV m).o 16 = 3 := by kernel_rfl
theorem cnt_sp2 (m : Nat) : cnt (spV m).o 0 16 = 13 := by kernel_rfl
theorem cnt_sp3 (m : Nat) : cnt ((spV m).own 3 1).o 0 16 = 12 := by kernel_rfl
set_option maxHeartbeats 4000000 in
theorem w_StageRights (W : World) (a0 : Int) (b0 : -9223372036854775808 ≤ a0) (b0' : a0 ≤ 9223372036854775807) (a1 : Int) (b1 : -9223372036854775808 ≤ a1) (b1' : a1 ≤ 9223372036854775807) (x : Int) (x0 : 0 ≤ x) (x1 : x < 18446744073709551616) :
    Calls Try.prog 10 #[.int .i64 a0, .int .i64 a1, .int .u64 x] W fun r w' => r = .returned (.bool true) ∧ Below W.heap.size W w' := by
  have hS := l_spacesL W
  have hP0 := c_Place a0 5 (by decide) (by decide) b0 b0'
  have hP1 := c_Place a1 5 (by decide) (by decide) b1 b1'
  obtain ⟨j0, hj0⟩ : ∃ j : Nat, (j : Int) = a0 % 5 := ⟨(a0 % 5).toNat, by omega⟩
  obtain ⟨j1, hj1⟩ : ∃ j : Nat, (j : Int) = a1 % 5 := ⟨(a1 % 5).toNat, by omega⟩
  rw [← hj0] at hP0
  rw [← hj1] at hP1
  have k0 : j0 < 5 := by omega
  have k1 : j1 < 5 := by omega
  clear hj0 hj1 b0 b0' b1 b1'
  go_enter Try.func10, Try.ntmps10
  go_upto_region 2 with (go_at_call 49; refine hS.mono ?_; rintro r w1 ⟨qa, qb, p, m, dm, F, ua, ub, rfl, h1⟩; have H1 := hid h1; clear h1)
  obtain ⟨wa, hwa⟩ : ∃ wa, wa = w1.alloc (.cells #[.pointer (some ⟨m, 0, none⟩), .pointer (some ⟨dm, 0, none⟩)] 31) := ⟨_, rfl⟩
  have HBa : Hid (Below w1.heap.size w1 wa) := hwa ▸ (Below.refl _ _).alloc (Nat.le_refl _) _
  have HTa : Hid (wa.heap[w1.heap.size]? = some (.cells #[.pointer (some ⟨m, 0, none⟩), .pointer (some ⟨dm, 0, none⟩)] 31 (0, 0))) := hwa ▸ heap_alloc_new w1 _
  rw [← hwa]
  clear hwa hS
  have H2 := hid (H1.out.below HBa.out)
  have hT := x_TakeS wa F ua qa p (s0 1) (spV m) spF 1 H2.out.a 1 rfl (by decide) (by rw [show (spV m).n = 16 from rfl, cnt_sp2]; decide)
  rw [show (spV m).n = 16 from rfl, ff_sp2] at hT
  have hT' : Calls Try.prog 26 #[.pointer (some ⟨p, 0, none⟩), .int .i64 1] wa fun r w' => r = .returned (.tuple #[.int .i64 3, .int .i64 0]) ∧ SPs w' F ua qa p (s0 1) ((spV m).own 3 1) spF 1 ∧ Only F wa w' := hT
  clear hT
  go_upto_region 6 with (go_at_call 26; refine hT'.mono ?_; rintro r w2 ⟨rfl, h1, h2⟩; have H3 := hid h1; have H4 := hid h2; clear h1 h2)
  obtain ⟨wb, hwb⟩ : ∃ wb, wb = w2.alloc (.cells #[.int .i64 2, .int .i64 6, .int .i64 8, .int .i64 10, .int .i64 14] 3) := ⟨_, rfl⟩
  have HBb : Hid (Below w2.heap.size w2 wb) := hwb ▸ (Below.refl _ _).alloc (Nat.le_refl _) _
  have HPb : Hid (wb.heap[w2.heap.size]? = some (.cells #[.int .i64 2, .int .i64 6, .int .i64 8, .int .i64 10, .int .i64 14] 3 (0, 0))) := hwb ▸ heap_alloc_new w2 _
  rw [← hwb]
  clear hwb hT'
  have HT2 := hid (H4.out.old HTa.out (H2.out.a.pl.ne HTa.out rfl))
  have HTb := hid ((HBb.out.block _ (lt_of_block HT2.out)).trans HT2.out)
  have H5 := hid (H3.out.below HBb.out)
  have cp0 : wb.cell? ⟨w2.heap.size, j0, none⟩ = some (.int .i64 (pmT j0 : Nat)) := (cell_of_row wb _ j0 _ _ _ HPb.out).trans (pmT_at j0 k0)
  have cp1 : wb.cell? ⟨w2.heap.size, j1, none⟩ = some (.int .i64 (pmT j1 : Nat)) := (cell_of_row wb _ j1 _ _ _ HPb.out).trans (pmT_at j1 k1)
  have T0 : Hid True := trivial
  go_upto_region 8 with (first
    | (go_at_call 21; have t := T0; clear t T0; refine (hP0 _).mono ?_; rintro r w3 ⟨rfl, hw⟩; obtain rfl := hw.symm)
    | (go_at_call 21; refine (hP1 _).mono ?_; rintro r w3 ⟨rfl, hw⟩; obtain rfl := hw.symm))
  have okx := pmT_ok j0
  have oky := pmT_ok j1
  generalize pmT j0 = px at okx ⊢
  generalize pmT j1 = py at oky ⊢
  clear cp0 cp1 hP0 hP1 k0 k1
  have hM := x_Map wb F ua qa p (s0 1) ((spV m).own 3 1) spF 1 H5.out 524288 3 px (by decide) (show 3 < 16 by decide) okx rfl (by show dnL (s0 1) 524288 ≤ cnt _ 0 16; rw [cnt_sp3]; decide) (fun a ha => absurd rfl ha) (.inl (show (1 : Int) ≤ 1 by decide))
  have hpp := map_pp ⟨s0 1, (spV m).own 3 1, spF⟩ 524288 3 px
  have hvv := map_v ⟨s0 1, (spV m).own 3 1, spF⟩ 524288 3 px
  generalize TX.map ⟨s0 1, (spV m).own 3 1, spF⟩ 524288 3 px = X at hM hpp hvv
  have HPP : Hid (X.s.pp 524288 = px ∧ X.s.pf 524288 = 3 ∧ X.s.pp 524289 = 0) := by
    rw [hpp.1, hpp.2]
    exact ⟨upd_same _ _ _, upd_same _ _ _, upd_other _ _ _ _ (by decide)⟩
  have HVV : Hid (X.v.b = 0 ∧ X.v.m = m ∧ X.s.r = 1 ∧ X.v.n = 16) := ⟨hvv.2.1, hvv.2.2.1, hvv.2.2.2.2.2.2, hvv.1⟩
  have hM' : Calls Try.prog 22 #[.pointer (some ⟨qa, 0, none⟩), .int .u64 524288, .int .i64 3, .int .i64 px] wb fun r w' => r = .returned (.int .i64 0) ∧ ∃ F' u', SPs w' F' u' qa p X.s X.v X.f 1 ∧ Only (Ar F ua qa) wb w' ∧ ∀ k, Ar F' u' qa k → Ar F ua qa k ∨ wb.heap.size ≤ k := hM
  have hPr : ∀ w' F' u', SPs w' F' u' qa p X.s X.v X.f 1 → Calls Try.prog 24 #[.pointer (some ⟨qa, 0, none⟩), .int .u64 524288, .int .i64 py] w' fun r w2 => r = .returned (.int .i64 0) ∧ ∃ F2, SPs w2 F2 u' qa p (X.s.leaf 524288 3 py) X.v (w8 X.f (lfO X.s 524288) (lE X.v.b 3 py)) 1 ∧ Only F' w' w2 ∧ ∀ k, F2 k → F' k ∨ w'.heap.size ≤ k := fun w' F' u' hs => by
    have := x_Protect w' F' u' qa p X.s X.v X.f 1 hs 524288 py (by rw [HPP.out.1]; unfold okP at okx; omega) oky
    rw [HPP.out.2.1] at this
    exact this
  have HPr := hid hPr
  have HNt : Hid (¬ Ar F ua qa w1.heap.size) := fun z => by have := H1.out.a.lt z; omega
  clear hM hpp hvv hPr
  go_upto_region 10 with (first
    | (go_at_call 22; refine hM'.mono ?_; rintro r w4 ⟨rfl, F4, u4, h1, h2, h3⟩; have H6 := hid h1; have H7 := hid h2; have H8 := hid h3; have hp4 := HPr.out w4 F4 u4 h1; have HT4 := hid (h2.old HTb.out HNt.out); clear h1 h2 h3)
    | (go_at_call 24; refine hp4.mono ?_; rintro r w5 ⟨rfl, F5, h1, h2, h3⟩; have H9 := hid h1; have H10 := hid h2; have H11 := hid h3; have HT5 := hid (h2.old HT4.out (H6.out.pl.ne HT4.out rfl)); clear h1 h2 h3))
  clear hM' hp4
  have HS5 : Hid ((X.s.leaf 524288 3 py).pp 524288 = py ∧ (X.s.leaf 524288 3 py).pf 524288 = 3 ∧ (X.s.leaf 524288 3 py).pp 524289 = 0 ∧ (X.s.leaf 524288 3 py).r = 1) := ⟨leaf_pp _ _ _ _, leaf_pf _ _ _ _, (leaf_ppo _ _ _ _ _ (by decide)).trans HPP.out.2.2, HVV.out.2.2.1⟩
  generalize X.s.leaf 524288 3 py = sY at H9 HS5
  generalize w8 X.f (lfO X.s 524288) (lE X.v.b 3 py) = fY at H9
  generalize X.v = vY at H9 HVV
  have hyz : py ≠ 0 := by unfold okP at oky; omega
  have hF := r_Find_yes w5 F5 u4 qa p sY vY fY 1 H9.out 524288 (by rw [HS5.out.1]; exact hyz)
  rw [HS5.out.1, HS5.out.2.1] at hF
  have hF' : Calls Try.prog 16 #[.pointer (some ⟨qa, 0, none⟩), .int .u64 524288] w5 fun r w' => r = .returned (.tuple #[.agg #[.int .u64 524288, .int .i64 3, .int .i64 py], .bool true]) ∧ Below w5.heap.size w5 w' := hF
  clear hF
  go_upto_region 11 with (go_at_call 16; refine hF'.mono ?_; rintro r w6 ⟨rfl, h1⟩; have H12 := hid h1; clear h1)
  obtain ⟨wc, hwc⟩ : ∃ wc, wc = w6.alloc (.cells #[.int .u64 524288, .int .i64 3, .int .i64 py] 41) := ⟨_, rfl⟩
  have HBc : Hid (Below w5.heap.size w5 wc) := hwc ▸ H12.out.alloc H12.out.size _
  have HPc : Hid (wc.heap[w6.heap.size]? = some (.cells #[.int .u64 524288, .int .i64 3, .int .i64 py] 41 (0, 0))) := hwc ▸ heap_alloc_new w6 _
  rw [← hwc]
  clear hwc hF'
  have p0 : wc.cell? ⟨w6.heap.size, 0, none⟩ = some (.int .u64 524288) := cell_of_row wc _ 0 _ _ _ HPc.out
  have p1 : wc.cell? ⟨w6.heap.size, 1, none⟩ = some (.int .i64 3) := cell_of_row wc _ 1 _ _ _ HPc.out
  have p2 : wc.cell? ⟨w6.heap.size, 2, none⟩ = some (.int .i64 py) := cell_of_row wc _ 2 _ _ _ HPc.out
  have heq := run_eqPg 524288 3 py
  have H13 := hid (H9.out.below HBc.out)
  have HTc := hid ((HBc.out.block _ (lt_of_block HT5.out)).trans HT5.out)
  have hW := r_WriteAny wc F5 u4 qa p sY vY fY 1 H13.out 2147483648 (by decide) (by decide) 8 rfl x x0 x1 (decide (py &&& 4 ≠ 0)) (by
    have e : ∀ j, j < 8 → ((2147483648 : Int).toNat + j) / 4096 = 524288 := fun j hj => by omega
    constructor
    · intro z
      have := z 0 (by decide)
      rw [e 0 (by decide)] at this
      unfold pgOk at this
      rw [HS5.out.1, okR_w oky] at this
      simp at this
      simpa using this.2
    · intro z j hj
      rw [e j hj]
      unfold pgOk
      rw [HS5.out.1, okR_w oky, z, decide_eq_true hyz]
      rfl)
  have hW' : Calls Try.prog 25 #[.pointer (some ⟨qa, 0, none⟩), .int .u64 2147483648, .int .i64 8, .int .u64 x] wc fun r w' => r = .returned (.bool (decide (py &&& 4 ≠ 0))) ∧ ∃ F' f', SPs w' F' u4 qa p sY vY f' 1 ∧ Only F5 wc w' ∧ ∀ k, F' k → F5 k ∨ wc.heap.size ≤ k := hW.mono fun r w' ⟨h1, F', f', h2, h3, h4, h5⟩ => ⟨h1, F', f', h2, h4, h5⟩
  have ha4 := and_i64 ⟨py, okP_lt oky⟩ ⟨4, by decide⟩
  have ha8 := and_i64 ⟨py, okP_lt oky⟩ ⟨8, by decide⟩
  have ha2 := and_i64 ⟨py, okP_lt oky⟩ ⟨2, by decide⟩
  have hb4 : bits .and .i64 (py : Int) 4 = ((py &&& 4 : Nat) : Int) := ha4
  have hb8 : bits .and .i64 (py : Int) 8 = ((py &&& 8 : Nat) : Int) := ha8
  have hb2 : bits .and .i64 (py : Int) 2 = ((py &&& 2 : Nat) : Int) := ha2
  have hd4 : (((py &&& 4 : Nat) : Int) != 0) = decide (py &&& 4 ≠ 0) := by rw [Bool.eq_iff_iff, bne_iff_ne]; simp
  clear hW ha4 ha8 ha2
  go_upto_region 13 with (go_at_call 25; refine hW'.mono ?_; rintro r w7 ⟨rfl, F7, f7, h1, h2, h3⟩; have H14 := hid h1; have H15 := hid h2; have H16 := hid h3; have HT7 := hid (h2.old HTc.out (H13.out.pl.ne HTc.out rfl)); clear h1 h2 h3)
  go_wp2_with fail
  go_loopw [19, 20, 21, 22, 23] (fun i a1 a2 a3 a4 wr => ∃ k : Nat, 1 ≤ k ∧ k ≤ 4 ∧ i = .int .i64 k ∧ Hid (Below w7.heap.size w7 wr)) (fun i a1 a2 a3 a4 _ => 4 - (intOf i).toNat)
  case atStart => exact ⟨1, by decide, by decide, rfl, Below.refl _ _⟩
  case round =>
    obtain ⟨k, k1, k4, rfl, hb⟩ := hrel
    rcases (show k = 1 ∨ k = 2 ∨ k = 3 ∨ k = 4 by omega) with rfl | rfl | rfl | rfl
    · go_upto_region 17 with fail
      obtain ⟨wd, hwd⟩ : ∃ wd, wd = wr.alloc (.cells #[.int .i64 0, .int .i64 8, .int .i64 2, .int .i64 4] 3) := ⟨_, rfl⟩
      have HBd : Hid (Below w7.heap.size w7 wd) := hwd ▸ hb.out.alloc hb.out.size _
      rw [← hwd]
      clear hwd
      have H17 := hid (H14.out.below HBd.out)
      have ct : wd.cell? ⟨w1.heap.size, 0, none⟩ = some (.pointer (some ⟨m, 0, none⟩)) := cell_of_row wd _ 0 _ _ _ ((HBd.out.block _ (lt_of_block HT7.out)).trans HT7.out)
      have hRt : ∀ n, Calls Try.prog 30 #[.pointer (some ⟨qa, 0, none⟩)] (wd.drewN n) fun r w' => r = .returned (.int .u64 1) ∧ w' = wd.drewN n := fun n => by
        have := x_Root (wd.drewN n) F7 u4 qa p sY vY f7 1 (H17.out.below (below_dn (Below.refl _ _) n))
        rw [HVV.out.1, HS5.out.2.2.2] at this
        exact this
      by_cases hz : py &&& 8 = 0
      · have hg := gst_no H17.out.iv 2147483656 1 (by decide) (.inr (by rw [show ((2147483656 : Int) / 4096).toNat = 524288 from rfl, HS5.out.1]; unfold lets; simp [hz]))
        have hG' : ∀ n, Calls Try.prog 29 #[.pointer (some ⟨m, 0, none⟩), .int .u64 1, .int .u64 2147483656, .int .i64 1] (wd.drewN n) fun r w' => r = .returned (.tuple #[.int .u64 0, .int .i64 0, .int .i64 2]) ∧ Below wd.heap.size wd w' := fun n => by
          have := r_Guest (wd.drewN n) F7 u4 qa p sY vY f7 1 (H17.out.below (below_dn (Below.refl _ _) n)) 2147483656 1 (by decide) (by decide) 0 0 2 hg
          rw [HVV.out.1, HVV.out.2.1, HS5.out.2.2.2] at this
          exact this.mono fun r w' hQ => ⟨hQ.1, (below_dn (Below.refl _ _) n).trans hQ.2⟩
        rw [hz] at hb8
        clear hg hz hd4
        refine wp_region_mid_dn 5 (by kernel_rfl) (by kernel_rfl) (by kernel_rfl) (by decide) (by kernel_rfl) ?_
        simp only [List.take, List.drop]
        repeat (go_big_quiet_step (first | (go_at_call 30; exact Calls.quiet_of_same (hRt _))))
        refine wpQuiet_nil ?_
        intro _ hwq
        obtain ⟨nq, hwq⟩ := hwq
        subst hwq
        refine wpOp_step rfl (fun K hK => ?_)
        go_simp
        refine (hG' nq).mono ?_
        rintro e w8 ⟨rfl, h1⟩
        refine hK _ _ ?_
        have HB8 : Hid (Below w7.heap.size w7 w8) := HBd.out.trans (h1.mono HBd.out.size)
        clear hK h1
        go_simp
        repeat (go_big_quiet_step (fail))
        refine wpQuiet_nil ?_
        intro nr
        go_wp2_with fail
        go_roundw
        case rel => exact ⟨2, by decide, by decide, rfl, below_dn HB8.out _⟩
        case measure => first | (simp [intOf]; done) | (simp [intOf]; omega)
      · have hl : lets py 1 = true := by unfold lets; simp [hz]
        have hg := gst_yes H17.out.iv 2147483656 1 (by decide) (by rw [show ((2147483656 : Int) / 4096).toNat = 524288 from rfl, HS5.out.1]; exact hyz) (by rw [show ((2147483656 : Int) / 4096).toNat = 524288 from rfl, HS5.out.1]; exact hl)
        rw [show ((2147483656 : Int) / 4096).toNat = 524288 from rfl, HS5.out.1, HS5.out.2.1] at hg
        have hG' : ∀ n, Calls Try.prog 29 #[.pointer (some ⟨m, 0, none⟩), .int .u64 1, .int .u64 2147483656, .int .i64 1] (wd.drewN n) fun r w' => r = .returned (.tuple #[.int .u64 12296, .int .i64 py, .int .i64 0]) ∧ Below wd.heap.size wd w' := fun n => by
          have := r_Guest (wd.drewN n) F7 u4 qa p sY vY f7 1 (H17.out.below (below_dn (Below.refl _ _) n)) 2147483656 1 (by decide) (by decide) 12296 py 0 (by rw [hg, HVV.out.1]; rfl)
          rw [HVV.out.1, HVV.out.2.1, HS5.out.2.2.2] at this
          exact this.mono fun r w' hQ => ⟨hQ.1, (below_dn (Below.refl _ _) n).trans hQ.2⟩
        have hq : (((py &&& 8 : Nat) : Int) != 0) = true := by rw [bne_iff_ne]; omega
        clear hg hl hz hd4
        refine wp_region_mid_dn 5 (by kernel_rfl) (by kernel_rfl) (by kernel_rfl) (by decide) (by kernel_rfl) ?_
        simp only [List.take, List.drop]
        repeat (go_big_quiet_step (first | (go_at_call 30; exact Calls.quiet_of_same (hRt _))))
        refine wpQuiet_nil ?_
        intro _ hwq
        obtain ⟨nq, hwq⟩ := hwq
        subst hwq
        refine wpOp_step rfl (fun K hK => ?_)
        go_simp
        refine (hG' nq).mono ?_
        rintro e w8 ⟨rfl, h1⟩
        refine hK _ _ ?_
        have HB8 : Hid (Below w7.heap.size w7 w8) := HBd.out.trans (h1.mono HBd.out.size)
        clear hK h1
        go_simp
        repeat (go_big_quiet_step (fail))
        refine wpQuiet_nil ?_
        intro nr
        go_wp2_with fail
        go_roundw
        case rel => exact ⟨2, by decide, by decide, rfl, below_dn HB8.out _⟩
        case measure => first | (simp [intOf]; done) | (simp [intOf]; omega)
    · go_upto_region 17 with fail
      obtain ⟨wd, hwd⟩ : ∃ wd, wd = wr.alloc (.cells #[.int .i64 0, .int .i64 8, .int .i64 2, .int .i64 4] 3) := ⟨_, rfl⟩
      have HBd : Hid (Below w7.heap.size w7 wd) := hwd ▸ hb.out.alloc hb.out.size _
      rw [← hwd]
      clear hwd
      have H17 := hid (H14.out.below HBd.out)
      have ct : wd.cell? ⟨w1.heap.size, 0, none⟩ = some (.pointer (some ⟨m, 0, none⟩)) := cell_of_row wd _ 0 _ _ _ ((HBd.out.block _ (lt_of_block HT7.out)).trans HT7.out)
      have hRt : ∀ n, Calls Try.prog 30 #[.pointer (some ⟨qa, 0, none⟩)] (wd.drewN n) fun r w' => r = .returned (.int .u64 1) ∧ w' = wd.drewN n := fun n => by
        have := x_Root (wd.drewN n) F7 u4 qa p sY vY f7 1 (H17.out.below (below_dn (Below.refl _ _) n))
        rw [HVV.out.1, HS5.out.2.2.2] at this
        exact this
      by_cases hz : py &&& 2 = 0
      · have hg := gst_no H17.out.iv 2147483656 2 (by decide) (.inr (by rw [show ((2147483656 : Int) / 4096).toNat = 524288 from rfl, HS5.out.1]; unfold lets; simp [hz]))
        have hG' : ∀ n, Calls Try.prog 29 #[.pointer (some ⟨m, 0, none⟩), .int .u64 1, .int .u64 2147483656, .int .i64 2] (wd.drewN n) fun r w' => r = .returned (.tuple #[.int .u64 0, .int .i64 0, .int .i64 2]) ∧ Below wd.heap.size wd w' := fun n => by
          have := r_Guest (wd.drewN n) F7 u4 qa p sY vY f7 1 (H17.out.below (below_dn (Below.refl _ _) n)) 2147483656 2 (by decide) (by decide) 0 0 2 hg
          rw [HVV.out.1, HVV.out.2.1, HS5.out.2.2.2] at this
          exact this.mono fun r w' hQ => ⟨hQ.1, (below_dn (Below.refl _ _) n).trans hQ.2⟩
        rw [hz] at hb2
        clear hg hz hd4
        refine wp_region_mid_dn 5 (by kernel_rfl) (by kernel_rfl) (by kernel_rfl) (by decide) (by kernel_rfl) ?_
        simp only [List.take, List.drop]
        repeat (go_big_quiet_step (first | (go_at_call 30; exact Calls.quiet_of_same (hRt _))))
        refine wpQuiet_nil ?_
        intro _ hwq
        obtain ⟨nq, hwq⟩ := hwq
        subst hwq
        refine wpOp_step rfl (fun K hK => ?_)
        go_simp
        refine (hG' nq).mono ?_
        rintro e w8 ⟨rfl, h1⟩
        refine hK _ _ ?_
        have HB8 : Hid (Below w7.heap.size w7 w8) := HBd.out.trans (h1.mono HBd.out.size)
        clear hK h1
        go_simp
        repeat (go_big_quiet_step (fail))
        refine wpQuiet_nil ?_
        intro nr
        go_wp2_with fail
        go_roundw
        case rel => exact ⟨3, by decide, by decide, rfl, below_dn HB8.out _⟩
        case measure => first | (simp [intOf]; done) | (simp [intOf]; omega)
      · have hl : lets py 2 = true := by unfold lets; simp [hz]
        have hg := gst_yes H17.out.iv 2147483656 2 (by decide) (by rw [show ((2147483656 : Int) / 4096).toNat = 524288 from rfl, HS5.out.1]; exact hyz) (by rw [show ((2147483656 : Int) / 4096).toNat = 524288 from rfl, HS5.out.1]; exact hl)
        rw [show ((2147483656 : Int) / 4096).toNat = 524288 from rfl, HS5.out.1, HS5.out.2.1] at hg
        have hG' : ∀ n, Calls Try.prog 29 #[.pointer (some ⟨m, 0, none⟩), .int .u64 1, .int .u64 2147483656, .int .i64 2] (wd.drewN n) fun r w' => r = .returned (.tuple #[.int .u64 12296, .int .i64 py, .int .i64 0]) ∧ Below wd.heap.size wd w' := fun n => by
          have := r_Guest (wd.drewN n) F7 u4 qa p sY vY f7 1 (H17.out.below (below_dn (Below.refl _ _) n)) 2147483656 2 (by decide) (by decide) 12296 py 0 (by rw [hg, HVV.out.1]; rfl)
          rw [HVV.out.1, HVV.out.2.1, HS5.out.2.2.2] at this
          exact this.mono fun r w' hQ => ⟨hQ.1, (below_dn (Below.refl _ _) n).trans hQ.2⟩
        have hq : (((py &&& 2 : Nat) : Int) != 0) = true := by rw [bne_iff_ne]; omega
        clear hg hl hz hd4
        refine wp_region_mid_dn 5 (by kernel_rfl) (by kernel_rfl) (by kernel_rfl) (by decide) (by kernel_rfl) ?_
        simp only [List.take, List.drop]
        repeat (go_big_quiet_step (first | (go_at_call 30; exact Calls.quiet_of_same (hRt _))))
        refine wpQuiet_nil ?_
        intro _ hwq
        obtain ⟨nq, hwq⟩ := hwq
        subst hwq
        refine wpOp_step rfl (fun K hK => ?_)
        go_simp
        refine (hG' nq).mono ?_
        rintro e w8 ⟨rfl, h1⟩
        refine hK _ _ ?_
        have HB8 : Hid (Below w7.heap.size w7 w8) := HBd.out.trans (h1.mono HBd.out.size)
        clear hK h1
        go_simp
        repeat (go_big_quiet_step (fail))
        refine wpQuiet_nil ?_
        intro nr
        go_wp2_with fail
        go_roundw
        case rel => exact ⟨3, by decide, by decide, rfl, below_dn HB8.out _⟩
        case measure => first | (simp [intOf]; done) | (simp [intOf]; omega)
    · go_upto_region 17 with fail
      obtain ⟨wd, hwd⟩ : ∃ wd, wd = wr.alloc (.cells #[.int .i64 0, .int .i64 8, .int .i64 2, .int .i64 4] 3) := ⟨_, rfl⟩
      have HBd : Hid (Below w7.heap.size w7 wd) := hwd ▸ hb.out.alloc hb.out.size _
      rw [← hwd]
      clear hwd
      have H17 := hid (H14.out.below HBd.out)
      have ct : wd.cell? ⟨w1.heap.size, 0, none⟩ = some (.pointer (some ⟨m, 0, none⟩)) := cell_of_row wd _ 0 _ _ _ ((HBd.out.block _ (lt_of_block HT7.out)).trans HT7.out)
      have hRt : ∀ n, Calls Try.prog 30 #[.pointer (some ⟨qa, 0, none⟩)] (wd.drewN n) fun r w' => r = .returned (.int .u64 1) ∧ w' = wd.drewN n := fun n => by
        have := x_Root (wd.drewN n) F7 u4 qa p sY vY f7 1 (H17.out.below (below_dn (Below.refl _ _) n))
        rw [HVV.out.1, HS5.out.2.2.2] at this
        exact this
      by_cases hz : py &&& 4 = 0
      · have hg := gst_no H17.out.iv 2147483656 3 (by decide) (.inr (by rw [show ((2147483656 : Int) / 4096).toNat = 524288 from rfl, HS5.out.1]; unfold lets; simp [hz]))
        have hG' : ∀ n, Calls Try.prog 29 #[.pointer (some ⟨m, 0, none⟩), .int .u64 1, .int .u64 2147483656, .int .i64 3] (wd.drewN n) fun r w' => r = .returned (.tuple #[.int .u64 0, .int .i64 0, .int .i64 2]) ∧ Below wd.heap.size wd w' := fun n => by
          have := r_Guest (wd.drewN n) F7 u4 qa p sY vY f7 1 (H17.out.below (below_dn (Below.refl _ _) n)) 2147483656 3 (by decide) (by decide) 0 0 2 hg
          rw [HVV.out.1, HVV.out.2.1, HS5.out.2.2.2] at this
          exact this.mono fun r w' hQ => ⟨hQ.1, (below_dn (Below.refl _ _) n).trans hQ.2⟩
        rw [hz] at hb4
        clear hg hz hd4
        refine wp_region_mid_dn 5 (by kernel_rfl) (by kernel_rfl) (by kernel_rfl) (by decide) (by kernel_rfl) ?_
        simp only [List.take, List.drop]
        repeat (go_big_quiet_step (first | (go_at_call 30; exact Calls.quiet_of_same (hRt _))))
        refine wpQuiet_nil ?_
        intro _ hwq
        obtain ⟨nq, hwq⟩ := hwq
        subst hwq
        refine wpOp_step rfl (fun K hK => ?_)
        go_simp
        refine (hG' nq).mono ?_
        rintro e w8 ⟨rfl, h1⟩
        refine hK _ _ ?_
        have HB8 : Hid (Below w7.heap.size w7 w8) := HBd.out.trans (h1.mono HBd.out.size)
        clear hK h1
        go_simp
        repeat (go_big_quiet_step (fail))
        refine wpQuiet_nil ?_
        intro nr
        go_wp2_with fail
        go_roundw
        case rel => exact ⟨4, by decide, by decide, rfl, below_dn HB8.out _⟩
        case measure => first | (simp [intOf]; done) | (simp [intOf]; omega)
      · have hl : lets py 3 = true := by unfold lets; simp [hz]
        have hg := gst_yes H17.out.iv 2147483656 3 (by decide) (by rw [show ((2147483656 : Int) / 4096).toNat = 524288 from rfl, HS5.out.1]; exact hyz) (by rw [show ((2147483656 : Int) / 4096).toNat = 524288 from rfl, HS5.out.1]; exact hl)
        rw [show ((2147483656 : Int) / 4096).toNat = 524288 from rfl, HS5.out.1, HS5.out.2.1] at hg
        have hG' : ∀ n, Calls Try.prog 29 #[.pointer (some ⟨m, 0, none⟩), .int .u64 1, .int .u64 2147483656, .int .i64 3] (wd.drewN n) fun r w' => r = .returned (.tuple #[.int .u64 12296, .int .i64 py, .int .i64 0]) ∧ Below wd.heap.size wd w' := fun n => by
          have := r_Guest (wd.drewN n) F7 u4 qa p sY vY f7 1 (H17.out.below (below_dn (Below.refl _ _) n)) 2147483656 3 (by decide) (by decide) 12296 py 0 (by rw [hg, HVV.out.1]; rfl)
          rw [HVV.out.1, HVV.out.2.1, HS5.out.2.2.2] at this
          exact this.mono fun r w' hQ => ⟨hQ.1, (below_dn (Below.refl _ _) n).trans hQ.2⟩
        have hq : (((py &&& 4 : Nat) : Int) != 0) = true := by rw [bne_iff_ne]; omega
        clear hg hl hz hd4
        refine wp_region_mid_dn 5 (by kernel_rfl) (by kernel_rfl) (by kernel_rfl) (by decide) (by kernel_rfl) ?_
        simp only [List.take, List.drop]
        repeat (go_big_quiet_step (first | (go_at_call 30; exact Calls.quiet_of_same (hRt _))))
        refine wpQuiet_nil ?_
        intro _ hwq
        obtain ⟨nq, hwq⟩ := hwq
        subst hwq
        refine wpOp_step rfl (fun K hK => ?_)
        go_simp
        refine (hG' nq).mono ?_
        rintro e w8 ⟨rfl, h1⟩
        refine hK _ _ ?_
        have HB8 : Hid (Below w7.heap.size w7 w8) := HBd.out.trans (h1.mono HBd.out.size)
        clear hK h1
        go_simp
        repeat (go_big_quiet_step (fail))
        refine wpQuiet_nil ?_
        intro nr
        go_wp2_with fail
        go_roundw
        case rel => exact ⟨4, by decide, by decide, rfl, below_dn HB8.out _⟩
        case measure => first | (simp [intOf]; done) | (simp [intOf]; omega)
    · have H17 := hid (H14.out.below hb.out)
      have hPn := t_prot_no wr qa 524289 py (by have := okP_lt oky; omega) (by have := okP_lt oky; omega) (by decide) (by unfold okP at oky; unfold okPb; simp; omega) (r_leaf_no wr F7 u4 qa p sY vY f7 1 H17.out 524289 (by decide) HS5.out.2.2.1)
      have hPa := fun w => t_prot_arg w qa 524288 0 (by decide) (by decide) rfl
      go_wp2_with (first
        | (go_at_call 24; ((with_reducible refine hPn.mono ?_); rintro r w8 ⟨rfl, h1⟩; have HB8 : Hid (Below w7.heap.size w7 w8) := hb.out.trans (h1.mono hb.out.size); have hAw := l_awake10 w8; clear h1))
        | (go_at_call 24; ((with_reducible refine (hPa _).mono ?_); rintro r w9 ⟨rfl, hw⟩; obtain rfl := hw.symm))
        | (go_at_call 13; refine hAw.mono ?_; rintro r w9 ⟨rfl, h1⟩; have HB9 := hid h1; clear h1))
      go_ret
      have e1 : Below W.heap.size W wa := H1.out.new.trans (HBa.out.mono H1.out.new.size)
      have e2 : Below W.heap.size W w2 := e1.trans (H4.out.below _ e1.size fun k hk => H1.out.own k (.inl (.inl hk)))
      have e3 : Below W.heap.size W wb := e2.trans (HBb.out.mono e2.size)
      have e4 : Below W.heap.size W w4 := e3.trans (H7.out.below _ e3.size fun k hk => H1.out.own k (.inl hk))
      have f4 : ∀ k, F4 k → W.heap.size ≤ k := fun k hk => (H8.out k (.inl hk)).elim (fun z => H1.out.own k (.inl z)) fun z => Nat.le_trans e3.size z
      have e5 : Below W.heap.size W w5 := e4.trans (H10.out.below _ e4.size f4)
      have f5 : ∀ k, F5 k → W.heap.size ≤ k := fun k hk => (H11.out k hk).elim (f4 k) fun z => Nat.le_trans e4.size z
      have e6 : Below W.heap.size W wc := e5.trans (HBc.out.mono e5.size)
      have e7 : Below W.heap.size W w7 := e6.trans (H15.out.below _ e6.size f5)
      have e8 : Below W.heap.size W w8 := e7.trans (HB8.out.mono e7.size)
      exact ⟨rfl, e8.trans (HB9.out.mono e8.size)⟩
end Go.Proofs.Ythfpoefpnoodiaa
