/- Two spaces over one memory of 16 frames. -/
import Derived.Test.YtekkjalfiogenaaMH8
import Derived.BigRegion
namespace Go.Proofs.Ytekkjalfiogenaa
open Go.RowKit
open C (Only hid Mem RMem Still ret_bool ret_int put byt rd8 lo and_lo nu c_Place)
set_option linter.unusedVariables false
set_option maxRecDepth 100000

/-- both spaces, and the pool that they share -/
structure TwS (W w : World) (F : Nat → Prop) (ua ub : Value) (qa qb p : Nat) (sa sb : SV) (v : PV) (f : Nat → Int) (va vb : Int) : Prop where
  a : SPs w F ua qa p sa v f va
  b : SPs w F ub qb p sb v f vb
  q : qa ≠ qb
  u : ∀ k, Ug ua k → ¬ Ug ub k
  new : Below W.heap.size W w
  own : ∀ k, Ar F ua qa k ∨ Ar F ub qb k → W.heap.size ≤ k
section
variable {W w w' : World} {F F' : Nat → Prop} {ua ub ua' : Value} {qa qb p : Nat} {sa sb sa' : SV} {v v' : PV} {f f' : Nat → Int} {va vb : Int}
/-- the first has turned, with the pool -/
theorem TwS.turn (h : TwS W w F ua ub qa qb p sa sb v f va vb) (hp : SPs w' F' ua' qa p sa' v' f' va) (ho : Only (Ar F ua qa) w w') (ha : ∀ k, Ar F' ua' qa k → Ar F ua qa k ∨ w.heap.size ≤ k) (hm : v'.m = v.m) (hb : v'.b = v.b) (hi : Inv sb v' f') : TwS W w' F' ua' ub qa qb p sa' sb v' f' va vb := by
  have nq : ¬ Ar F ua qa qb := fun z => by
    rcases z with z | z | z
    · exact h.b.nq z
    · exact h.q z.symm
    · obtain ⟨cur, hy⟩ := own_typ h.a.ls z
      have := h.b.sq; unfold Sq at this; rw [hy] at this; simp at this
  have nu : ∀ k, Ug ub k → ¬ Ar F ua qa k := fun k hk z => by
    rcases z with z | z | z
    · exact (h.b.nu hk).1 z
    · subst z
      obtain ⟨cur, hy⟩ := own_typ h.b.ls hk
      have := h.a.sq; unfold Sq at this; rw [hy] at this; simp at this
    · exact h.u k z hk
  have z0 := h.new.size
  refine ⟨hp, ⟨hp.pl, ?_, own_only h.b.ls ho nu, hi⟩, h.q, fun k hk hb' => ?_, h.new.trans (ho.below _ z0 fun k hk => h.own k (.inl hk)), fun k hk => ?_⟩
  · have := h.b.sq.only ho nq
    unfold Sq at this ⊢
    rw [hm, hb]
    exact this
  · rcases ha k (.inr (.inr hk)) with z | z
    · exact nu k hb' z
    · have := h.b.lt (.inr (.inr hb')); omega
  · rcases hk with hk | hk | hk | hk
    · exact (ha k hk).elim (fun z => h.own k (.inl z)) fun z => Nat.le_trans z0 z
    · exact (ha k (.inl hk)).elim (fun z => h.own k (.inl z)) fun z => Nat.le_trans z0 z
    · exact h.own k (.inr (.inr (.inl hk)))
    · exact h.own k (.inr (.inr (.inr hk)))
theorem TwS.swap (h : TwS W w F ua ub qa qb p sa sb v f va vb) : TwS W w F ub ua qb qa p sb sa v f vb va := ⟨h.b, h.a, h.q.symm, fun k hk hk' => h.u k hk' hk, h.new, fun k hk => h.own k hk.symm⟩
theorem TwS.below (h : TwS W w F ua ub qa qb p sa sb v f va vb) (hb : Below w.heap.size w w') : TwS W w' F ua ub qa qb p sa sb v f va vb :=
  h.turn (h.a.below hb) (.ofBelow hb) (fun _ z => .inl z) rfl rfl h.b.iv
end
def spV (m : Nat) : PV := (((v0 m 0 1 1 16).own 1 (-1))).own 2 (-1)
def spF : Nat → Int := clr (clr (fun _ => 0) 1) 2
theorem ff_sp (m : Nat) : ff ((v0 m 0 1 1 16).own 1 (-1)).o 16 = 2 := by kernel_rfl
theorem cnt_sp (m : Nat) : cnt ((v0 m 0 1 1 16).own 1 (-1)).o 0 16 = 14 := by kernel_rfl
/-- both are made -/
theorem l_two (W w : World) (F : Nat → Prop) (p m : Nat) (h : Pool w F p (v0 m 0 1 1 16) (fun _ => 0)) (hn : Below W.heap.size W w) (ho : ∀ k, F k → W.heap.size ≤ k) :
    Calls Try.prog 30 #[.pointer (some ⟨m, 0, none⟩), .pointer (some ⟨p, 0, none⟩), .int .i64 1] w fun r w1 => ∃ qa F1, r = .returned (.tuple #[.pointer (some ⟨qa, 0, none⟩), .int .i64 0]) ∧ Only F w w1 ∧
      Calls Try.prog 30 #[.pointer (some ⟨m, 0, none⟩), .pointer (some ⟨p, 0, none⟩), .int .i64 2] w1 fun r w2 => ∃ qb F' ua ub, r = .returned (.tuple #[.pointer (some ⟨qb, 0, none⟩), .int .i64 0]) ∧ TwS W w2 F' ua ub qa qb p (s0 1) (s0 2) (spV m) spF 1 2 ∧ Only F1 w1 w2 ∧ ∀ x c t, w1.heap[x]? = some (.cells c t (0, 0)) → tyF t = false → ¬ F1 x := by
  have ba : Bas (v0 m 0 1 1 16) := bas_v0 m 0 1 16 (by decide) (by decide) (by decide) (by decide)
  have h1 := x_sNew w F p (v0 m 0 1 1 16) (fun _ => 0) h ba 1 rfl (cnt_v0 m 0 1 1 16 (by decide))
  rw [show (v0 m 0 1 1 16).n = 16 from rfl, ff_v0 m 0 1 1 16 (by decide)] at h1
  refine h1.mono ?_
  rintro r w1 ⟨qa, F1, ua, rfl, a1, a2, a3⟩
  refine ⟨qa, F1, rfl, a2, ?_⟩
  have hc : 0 < cnt ((v0 m 0 1 1 16).own 1 (-1)).o 0 16 := by rw [cnt_sp]; decide
  have h2 := x_sNew w1 F1 p ((v0 m 0 1 1 16).own 1 (-1)) (clr (fun _ => 0) 1) a1.pl (ba.own 1 (-1)) 2 rfl hc
  rw [show ((v0 m 0 1 1 16).own 1 (-1)).n = 16 from rfl, ff_sp] at h2
  refine h2.mono ?_
  rintro r w2 ⟨qb, F2, ub, rfl, b1, b2, b3⟩
  have z0 := hn.size
  have z1 := a2.size
  have ho1 : ∀ k, Ar F1 ua qa k → W.heap.size ≤ k := fun k hk => (a3 k hk).elim (ho k) fun z => by omega
  have hi : Inv (s0 1) (spV m) spF := by
    have i1 := a1.iv.own (t := 2) (x := -1) (show 2 < 16 by decide) rfl (.inr rfl) (fun _ a ha => absurd rfl ha)
    refine i1.keep fun x hx j hj => clr_fr _ _ _ (fun e => ?_) _ hj
    subst e
    exact hx rfl
  have hA := a1.turn (F' := F2) b1.pl b2 rfl rfl hi
  have nb : ∀ k, Ar F2 ub qb k → F1 k ∨ w1.heap.size ≤ k := b3
  refine ⟨qb, F2, ua, ub, rfl, ⟨hA, b1, fun e => ?_, fun k hk hk' => ?_, ?_, fun k hk => ?_⟩, b2, fun x c t hx ht => a1.pl.ne hx ht⟩
  · rcases nb qb (.inr (.inl rfl)) with z | z
    · exact a1.nq (e ▸ z)
    · have := a1.lt (.inr (.inl rfl)); omega
  · rcases nb k (.inr (.inr hk')) with z | z
    · exact (a1.nu hk).1 z
    · have := a1.lt (.inr (.inr hk)); omega
  · exact hn.trans ((a2.below _ z0 ho).trans (b2.below _ (by omega) fun k hk => ho1 k (.inl hk)))
  · rcases hk with hk | hk
    · rcases hk with hk | hk | hk
      · exact (nb k (.inl hk)).elim (fun z => ho1 k (.inl z)) fun z => by omega
      · exact ho1 k (.inr (.inl hk))
      · exact ho1 k (.inr (.inr hk))
    · exact (nb k hk).elim (fun z => ho1 k (.inl z)) fun z => by omega
theorem u_two : Try.prog.underlying 31 = some (.struct (Try.prog.fieldsOf 31)) := by kernel_rfl
theorem s_two : (Try.prog.info? 31).map (·.size) = some 2 := by kernel_rfl
set_option maxHeartbeats 2000000 in
theorem l_spacesL (w : World) : Calls Try.prog 25 #[] w fun r w' => ∃ qa qb p m dm F ua ub, r = .returned (.tuple #[.pointer (some ⟨qa, 0, none⟩), .pointer (some ⟨qb, 0, none⟩), .pointer (some ⟨p, 0, none⟩), .agg #[.pointer (some ⟨m, 0, none⟩), .pointer (some ⟨dm, 0, none⟩)], .bool true]) ∧ TwS w w' F ua ub qa qb p (s0 1) (s0 2) (spV m) spF 1 2 := by
  obtain ⟨wa, hwa⟩ : ∃ wa, wa = w.alloc (.cells #[.pointer none, .pointer none] 31) := ⟨_, rfl⟩
  have HWA : Hid (Below w.heap.size w wa) := hwa ▸ (Below.refl _ _).alloc (Nat.le_refl _) _
  have HA : Hid (wa.heap[w.heap.size]? = some (.cells #[.pointer none, .pointer none] 31 (0, 0))) := hwa ▸ heap_alloc_new w _
  have hM := l_Mem10 wa 0 (by decide) (by decide) (by decide) 16 (by decide) (by decide) 16 rfl
  go_enter Try.func25, Try.ntmps25
  go_upto_region 1 with fail
  rw [← hwa]
  clear hwa
  go_upto_region 2 with (go_at_call 27; refine hM.mono ?_; rintro r w1 ⟨m, dm, S, T, rfl, h1, h2, h3, h4⟩; have H1 := hid h1; have H3 := hid h3; have H4 := hid h4; clear h1 h2 h3 h4)
  obtain ⟨wb, hwb2⟩ : ∃ wb, wb = w1.alloc (.cells #[.pointer (some ⟨m, 0, none⟩), .pointer (some ⟨dm, 0, none⟩)] 31) := ⟨_, rfl⟩
  have HBB : Hid (Below w1.heap.size w1 wb) := hwb2 ▸ (Below.refl _ _).alloc (Nat.le_refl _) _
  have HT : Hid (wb.heap[w1.heap.size]? = some (.cells #[.pointer (some ⟨m, 0, none⟩), .pointer (some ⟨dm, 0, none⟩)] 31 (0, 0))) := hwb2 ▸ heap_alloc_new w1 _
  have HO : Hid (wb.heap[w.heap.size]? = some (.cells #[.pointer none, .pointer none] 31 (0, 0))) := ((HBB.out.block _ (lt_of_block ((H3.out.block _ (lt_of_block HA.out)).trans HA.out))).trans (H3.out.block _ (lt_of_block HA.out))).trans HA.out
  rw [← hwb2]
  clear hwb2
  have za := HWA.out.size
  have zb := H3.out.size
  have zc := HBB.out.size
  have HWB : Hid (Below w.heap.size w wb) := HWA.out.trans ((H3.out.trans (HBB.out.mono zb)).mono za)
  have hP := x_New 0 wb S m 16 _ (H1.out.below HBB.out) 1 1 (by decide) (by decide) (by decide)
  have hP' : Calls Try.prog 28 #[.pointer (some ⟨m, 0, none⟩), .int .i64 1, .int .i64 1] wb fun e w' => ∃ p F, e = .returned (.tuple #[.pointer (some ⟨p, 0, none⟩), .int .i64 0]) ∧ Pool w' F p (v0 m 0 1 1 16) (fun _ => 0) ∧ Below wb.heap.size wb w' ∧ ∀ k, F k → S k ∨ wb.heap.size ≤ k := hP
  clear hP
  have t0 : wb.cell? ⟨w1.heap.size, 0, none⟩ = some (.pointer (some ⟨m, 0, none⟩)) := cell_of_row wb _ 0 _ _ _ HT.out
  go_upto_region 7 with (go_at_call 28; refine hP'.mono ?_; rintro r w3 ⟨p, F, rfl, h1, h2, h3⟩; have H5 := hid h1; have H6 := hid h2; have H7 := hid h3; have HT3 := hid ((h2.block _ (lt_of_block HT.out)).trans HT.out); have HO3 := hid ((h2.block _ (lt_of_block HO.out)).trans HO.out); have t1 : w3.cell? ⟨w1.heap.size, 0, none⟩ = some (.pointer (some ⟨m, 0, none⟩)) := cell_of_row w3 _ 0 _ _ _ HT3.out; clear h1 h2 h3)
  clear t0 hP'
  have hT2 := l_two w w3 F p m H5.out (HWB.out.trans (H6.out.mono (by omega))) fun k hk => (H7.out k hk).elim (fun z => by have := H4.out k (.inl z); omega) fun z => by omega
  go_upto_region 8 with (go_at_call 30; refine hT2.mono ?_; rintro r w4 ⟨qa, F1, rfl, h1, h2⟩; have hD := h2; have HT4 := hid (h1.old HT3.out (H5.out.ne HT3.out rfl)); have HO4 := hid (h1.old HO3.out (H5.out.ne HO3.out rfl)); have t2 : w4.cell? ⟨w1.heap.size, 0, none⟩ = some (.pointer (some ⟨m, 0, none⟩)) := cell_of_row w4 _ 0 _ _ _ HT4.out; clear h1 h2)
  clear t1 hT2
  go_upto_region 9 with (go_at_call 30; refine hD.mono ?_; rintro r w5 ⟨qb, F', ua, ub, rfl, h1, h2, h3⟩; have H8 := hid h1; have HT5 := hid (h2.old HT4.out (h3 _ _ _ HT4.out rfl)); have HO5 := hid (h2.old HO4.out (h3 _ _ _ HO4.out rfl)); have t3 : w5.cell? ⟨w1.heap.size, 0, none⟩ = some (.pointer (some ⟨m, 0, none⟩)) := cell_of_row w5 _ 0 _ _ _ HT5.out; have t4 : w5.cell? ⟨w1.heap.size, 1, none⟩ = some (.pointer (some ⟨dm, 0, none⟩)) := cell_of_row w5 _ 1 _ _ _ HT5.out; clear h1 h2 h3)
  clear t2 hD
  have c0 : w5.cell? ⟨w.heap.size, 0, none⟩ = some (.pointer none) := cell_of_row w5 _ 0 _ _ _ HO5.out
  have c1 : w5.cell? ⟨w.heap.size, 1, none⟩ = some (.pointer none) := cell_of_row w5 _ 1 _ _ _ HO5.out
  have z0 : w5.frozen? ⟨w.heap.size, 0, none⟩ = false := frozen_of_row w5 _ 0 _ _ HO5.out
  have z1 : w5.frozen? ⟨w.heap.size, 1, none⟩ = false := frozen_of_row w5 _ 1 _ _ HO5.out
  go_region
  go_wp2_with fail
  have r1 := setRowB w5 w.heap.size 0 _ _ _ (.pointer (some ⟨m, 0, none⟩)) HO5.out rfl
  have r2 := setRowB _ w.heap.size 1 _ _ _ (.pointer (some ⟨dm, 0, none⟩)) r1 rfl
  obtain ⟨w6, hw6⟩ : ∃ w6, w6 = ((w5.setCell ⟨w.heap.size, 0, none⟩ (.pointer (some ⟨m, 0, none⟩))).setCell ⟨w.heap.size, 1, none⟩ (.pointer (some ⟨dm, 0, none⟩))).drew := ⟨_, rfl⟩
  have r3 : w6.heap[w.heap.size]? = some (.cells #[.pointer (some ⟨m, 0, none⟩), .pointer (some ⟨dm, 0, none⟩)] 31 (0, 0)) := by rw [hw6]; exact r2
  have ho : Only (· = w.heap.size) w5 w6 := by rw [hw6]; exact (((Only.refl (S := (· = w.heap.size)) w5).setCell (.inl rfl) _).setCell (.inl rfl) _).drew
  rw [← hw6]
  clear hw6 r1 r2
  have v0' : w6.cell? ⟨w.heap.size, 0, none⟩ = some (.pointer (some ⟨m, 0, none⟩)) := cell_of_row w6 _ 0 _ _ _ r3
  have v1' : w6.cell? ⟨w.heap.size, 1, none⟩ = some (.pointer (some ⟨dm, 0, none⟩)) := cell_of_row w6 _ 1 _ _ _ r3
  have nb : ∀ (u : Value) (q : Nat) (s : SV) (vm : Int), SPs w5 F' u q p s (spV m) spF vm → ∀ k, Ar F' u q k → ¬ (k = w.heap.size) := fun u q s vm h k hk e => by
    subst e
    rcases hk with z | z | z
    · exact h.pl.ne HO5.out rfl z
    · have := h.sq; unfold Sq at this; rw [← z, HO5.out] at this; simp at this
    · obtain ⟨cur, hk'⟩ := own_typ h.ls z; rw [HO5.out] at hk'; simp at hk'
  refine bodyPost_ret (v := .tuple #[.pointer (some ⟨qa, 0, none⟩), .pointer (some ⟨qb, 0, none⟩), .pointer (some ⟨p, 0, none⟩), .agg #[.pointer (some ⟨m, 0, none⟩), .pointer (some ⟨dm, 0, none⟩)], .bool true]) (by simp [results, Try.results25, go_sem, v0', v1']) rfl ⟨qa, qb, p, m, dm, F', ua, ub, rfl, ⟨H8.out.a.only ho (nb _ _ _ _ H8.out.a), H8.out.b.only ho (nb _ _ _ _ H8.out.b), H8.out.q, H8.out.u, H8.out.new.trans (ho.below _ H8.out.new.size fun k hk => by subst hk; exact Nat.le_refl _), H8.out.own⟩⟩
end Go.Proofs.Ytekkjalfiogenaa
