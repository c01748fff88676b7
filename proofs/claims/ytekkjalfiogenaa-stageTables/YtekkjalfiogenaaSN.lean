/- New of the law: both spaces over one memory. -/
import Derived.Test.YtekkjalfiogenaaMH7
namespace Go.Proofs.Ytekkjalfiogenaa
open Go.RowKit
open C (Only hid Mem RMem Still ret_bool ret_int put byt rd8 lo and_lo nu TwB Cl c_MemoryB c_Place)
set_option linter.unusedVariables false
set_option maxRecDepth 100000

/-- both pools are made -/
theorem l_pools (W w : World) (S T : Nat → Prop) (m dm : Nat) (b : Int) (n : Nat) (n0 : 1 < n) (hm : Mem w S m b n (fun _ => 0)) (hr : RMem w T dm b n (fun _ => 0)) (hn : Below W.heap.size W w) (ho : ∀ k, S k ∨ T k → W.heap.size ≤ k) :
    Calls Try.prog 28 #[.pointer (some ⟨m, 0, none⟩), .int .i64 1, .int .i64 2] w fun r w1 => ∃ p, r = .returned (.tuple #[.pointer (some ⟨p, 0, none⟩), .int .i64 0]) ∧ Below w.heap.size w w1 ∧
      Calls Try.prog 29 #[.pointer (some ⟨dm, 0, none⟩), .int .i64 1, .int .i64 2] w1 fun r w2 => ∃ pd F G, r = .returned (.tuple #[.pointer (some ⟨pd, 0, none⟩), .int .i64 0]) ∧ PP W w2 F p G pd dm (v0 m b 1 2 n) (fun _ => 0) ∧ Below w1.heap.size w1 w2 := by
  refine (x_New b w S m n _ hm 1 2 (by decide) (by decide) (by omega)).mono ?_
  rintro r w1 ⟨p, F, rfl, h1, h2, h3⟩
  refine ⟨p, rfl, h2, (z_New b w1 T m dm n _ (hr.below h2) 1 2 (by decide) (by decide) (by omega)).mono ?_⟩
  rintro r w2 ⟨pd, G, rfl, k1, k2, k3⟩
  have z1 := hn.size
  have z2 := h2.size
  refine ⟨pd, F, G, rfl, ⟨h1.below k2, k1, hn.trans ((h2.trans (k2.mono z2)).mono z1), fun k hk => ?_⟩, k2⟩
  rcases hk with hk | hk
  · exact (h3 k hk).elim (fun z => ho k (.inl z)) fun z => by omega
  · exact (k3 k hk).elim (fun z => ho k (.inr z)) fun z => by omega
/-- both spaces are made -/
theorem l_spaces (W w : World) (F G : Nat → Prop) (p pd dm : Nat) (v : PV) (f : Nat → Int) (h : PP W w F p G pd dm v f) (ba : Bas v) (vm : Int) (hv : vmOk vm = true) (hc : 0 < cnt v.o 0 v.n) (hty : ∀ k, F k → ¬ G k) :
    Calls Try.prog 30 #[.pointer (some ⟨v.m, 0, none⟩), .pointer (some ⟨p, 0, none⟩), .int .i64 vm] w fun r w1 => ∃ q, r = .returned (.tuple #[.pointer (some ⟨q, 0, none⟩), .int .i64 0]) ∧ Only F w w1 ∧
      Calls Try.prog 31 #[.pointer (some ⟨dm, 0, none⟩), .pointer (some ⟨pd, 0, none⟩), .int .i64 vm] w1 fun r w2 => ∃ qd F' u G' ud, r = .returned (.tuple #[.pointer (some ⟨qd, 0, none⟩), .int .i64 0]) ∧ OB W w2 F' u q p G' ud (.slice none 0 0) qd pd dm (s0 (ff v.o v.n)) (v.own (ff v.o v.n) (-1)) (clr f (ff v.o v.n)) (s0 (ff v.o v.n)) (v.own (ff v.o v.n) (-1)) (clr f (ff v.o v.n)) vm [] ∧ Only G w1 w2 := by
  refine (x_sNew w F p v f h.pl ba vm hv hc).mono ?_
  rintro r w1 ⟨q, F1, u1, rfl, h1, h2, h3⟩
  have hdp : DPool w1 G pd dm v f := h.dp.only h2 fun k hk z => hty k z hk
  refine ⟨q, rfl, h2, (d_New w1 G pd dm v f hdp ba vm hv hc).mono ?_⟩
  rintro r w2 ⟨qd, G2, ud, rfl, k1, k2, k3, k4, k5⟩
  have z0 := h.new.size
  have z1 := h2.size
  have nG : ∀ k, Ar F1 u1 q k → ¬ G k := fun k hk z => by
    rcases h3 k hk with y | y
    · exact hty k y z
    · have := h.dp.lt z; omega
  refine ⟨qd, F1, u1, G2, ud, rfl, ⟨h1.only k2 nG, k1, fun k hk => ⟨fun z => ?_, fun z => ?_⟩, ?_, fun k hk => ?_⟩, k2⟩
  · rcases k3 k z with y | y
    · exact nG k (.inr (.inr hk)) y
    · have := h1.lt (.inr (.inr hk)); omega
  · have := k5 k z
    have := h1.lt (.inr (.inr hk)); omega
  · exact h.new.trans ((h2.below _ z0 fun k hk => h.own k (.inl hk)).trans (k2.below _ (by omega) fun k hk => h.own k (.inr hk)))
  · rcases hk with hk | hk | hk | hk | hk
    · exact (h3 k hk).elim (fun y => h.own k (.inl y)) fun y => by omega
    · exact (k3 k hk).elim (fun y => h.own k (.inr y)) fun y => by omega
    · omega
    · have := k5 k hk; omega
    · cases hk
theorem PP.dj {W w : World} {F G : Nat → Prop} {p pd dm : Nat} {v : PV} {f : Nat → Int} (h : PP W w F p G pd dm v f) : ∀ k, F k → ¬ G k := fun k hk hg => by
  obtain ⟨c, t, h1, h2⟩ := h.pl.ty hk
  obtain ⟨c', t', h3, h4⟩ := h.dp.ty hg
  rw [h1] at h3
  simp at h3
  have := ty_no2 t (by rw [h2]; rfl)
  rw [h3.2, h4] at this
  cases this
theorem wpL_storeOn {ops : Array Oper} {rest : List Oper} {d : Option Nat} {ty : TypeId} {x y : Operand} {pos : String} {after : Array Edge} {Q : Exit → Act → World → Prop} {a : Act} {w : World} (g : Nat) (hx : a.eval x = .pointer (some ⟨g, 0, none⟩)) (c0 c1 c2 c3 c4 c5 : Option Addr) (hy : a.eval y = .agg #[.pointer c0, .pointer c1, .pointer c2, .pointer c3, .pointer c4, .pointer c5]) (z0 z1 z2 z3 z4 z5 : Value)
    (hg : w.heap[g]? = some (.cells #[z0, z1, z2, z3, z4, z5] 33 (0, 0))) (hK : wpList Try.prog ops Q rest (a.put d undef) (w.setRow g #[.pointer c0, .pointer c1, .pointer c2, .pointer c3, .pointer c4, .pointer c5])) :
    wpList Try.prog ops Q ({ dst := d, op := Op.store 33 x y, type := ty, pos := pos, after := after, guard := none } :: rest) a w :=
  wpList_store_row rfl 33 x y rfl g _ hx hy 33 _ hg s_on rfl (by rw [Array.all_eq_true_iff_forall_mem]; intro v hv; simp at hv; rcases hv with rfl | rfl | rfl | rfl | rfl | rfl <;> rfl) hK
set_option maxHeartbeats 2000000 in
theorem l_New10 (W w : World) (h0 : Below W.heap.size W w) (base frames vm : Int) (b0 : 0 ≤ base) (b1 : base < 18446744073709551616) (f0 : -9223372036854775808 ≤ frames) (f1 : frames ≤ 9223372036854775807) (hv : vmOk vm = true) (n : Nat) (hn : (n : Int) = 4 + frames % 12) (b : Int) (hb : b = base % 1099511627776 / 4096 * 4096) :
    Calls Try.prog 6 #[.int .u64 base, .int .i64 frames, .int .i64 vm] w fun r w' => ∃ q qd p pd m dm F u G ud, r = .returned (.tuple #[onv q qd p pd m dm, .bool true]) ∧ OB W w' F u q p G ud (.slice none 0 0) qd pd dm (s0 1) ((v0 m b 1 2 n).own 1 (-1)) (clr (fun _ => 0) 1) (s0 1) ((v0 m b 1 2 n).own 1 (-1)) (clr (fun _ => 0) 1) vm [] := by
  have hP := c_Place frames 12 (by decide) (by decide) f0 f1
  have hwb : IntKind.u64.wrap (base % 1099511627776 / 4096 * 4096) = b := by rw [IntKind.wrap_u64, hb]; omega
  have hb' : base % 1099511627776 / 4096 * 4096 = b := hb.symm
  have hn' : 4 + frames % 12 = (n : Int) := hn.symm
  have HB0 : Hid (0 ≤ b ∧ b ≤ 1099511627776 ∧ b % 4096 = 0) := by show _ ∧ _; omega
  have HN0 : Hid (4 ≤ n ∧ n ≤ 15) := by show _ ∧ _; omega
  have hz := h0.size
  have H0 := hid h0
  obtain ⟨wa, hwa⟩ : ∃ wa, wa = w.alloc (.cells #[.pointer none, .pointer none, .pointer none, .pointer none, .pointer none, .pointer none] 33) := ⟨_, rfl⟩
  have HWA : Hid (Below w.heap.size w wa) := hwa ▸ (Below.refl _ _).alloc (Nat.le_refl _) _
  have HA : Hid (wa.heap[w.heap.size]? = some (.cells #[.pointer none, .pointer none, .pointer none, .pointer none, .pointer none, .pointer none] 33 (0, 0))) := hwa ▸ heap_alloc_new w _
  have hM := l_Mem10 wa b HB0.out.1 HB0.out.2.1 HB0.out.2.2 n (by have := HN0.out; omega) (by have := HN0.out; omega) (n : Int) rfl
  clear h0 hb hn
  go_enter Try.func6, Try.ntmps6
  go_upto_region 1 with fail
  rw [← hwa]
  clear hwa
  go_upto_region 2 with (first
    | (go_at_call 15; refine (hP _).mono ?_; rintro r w1 ⟨rfl, hw⟩; obtain rfl := hw.symm)
    | (go_at_call 27; refine hM.mono ?_; rintro r w1 ⟨m, dm, S, T, rfl, h1, h2, h3, h4⟩; have H1 := hid h1; have H2 := hid h2; have H3 := hid h3; have H4 := hid h4; clear h1 h2 h3 h4))
  obtain ⟨wb, hwb2⟩ : ∃ wb, wb = w1.alloc (.cells #[.pointer (some ⟨m, 0, none⟩), .pointer (some ⟨dm, 0, none⟩)] 31) := ⟨_, rfl⟩
  have HBB : Hid (Below w1.heap.size w1 wb) := hwb2 ▸ (Below.refl _ _).alloc (Nat.le_refl _) _
  have HT : Hid (wb.heap[w1.heap.size]? = some (.cells #[.pointer (some ⟨m, 0, none⟩), .pointer (some ⟨dm, 0, none⟩)] 31 (0, 0))) := hwb2 ▸ heap_alloc_new w1 _
  have HO : Hid (wb.heap[w.heap.size]? = some (.cells #[.pointer none, .pointer none, .pointer none, .pointer none, .pointer none, .pointer none] 33 (0, 0))) := ((HBB.out.block _ (lt_of_block ((H3.out.block _ (lt_of_block HA.out)).trans HA.out))).trans (H3.out.block _ (lt_of_block HA.out))).trans HA.out
  rw [← hwb2]
  clear hwb2
  have za := HWA.out.size
  have zb := H3.out.size
  have zc := HBB.out.size
  have HWB : Hid (Below W.heap.size W wb) := H0.out.trans ((HWA.out.trans ((H3.out.trans (HBB.out.mono zb)).mono za)).mono hz)
  have hPP := l_pools W wb S T m dm b n (by have := HN0.out; omega) (H1.out.below HBB.out) (H2.out.below HBB.out) HWB.out fun k hk => by have := H4.out k hk; omega
  have t0 : wb.cell? ⟨w1.heap.size, 0, none⟩ = some (.pointer (some ⟨m, 0, none⟩)) := cell_of_row wb _ 0 _ _ _ HT.out
  go_upto_region 5 with (go_at_call 28; refine hPP.mono ?_; rintro r w3 ⟨p, rfl, h1, h2⟩; have H5 := hid h1; have hD := h2; have HT3 : Hid (w3.heap[w1.heap.size]? = some (.cells #[.pointer (some ⟨m, 0, none⟩), .pointer (some ⟨dm, 0, none⟩)] 31 (0, 0))) := (h1.block _ (lt_of_block HT.out)).trans HT.out; have HO3 : Hid (w3.heap[w.heap.size]? = some (.cells #[.pointer none, .pointer none, .pointer none, .pointer none, .pointer none, .pointer none] 33 (0, 0))) := (h1.block _ (lt_of_block HO.out)).trans HO.out; have t1 : w3.cell? ⟨w1.heap.size, 1, none⟩ = some (.pointer (some ⟨dm, 0, none⟩)) := cell_of_row w3 _ 1 _ _ _ HT3.out; clear h1 h2)
  clear t0 hPP
  go_upto_region 8 with (go_at_call 29; refine hD.mono ?_; rintro r w4 ⟨pd, F, G, rfl, h1, h2⟩; have H6 := hid h1; have HT4 : Hid (w4.heap[w1.heap.size]? = some (.cells #[.pointer (some ⟨m, 0, none⟩), .pointer (some ⟨dm, 0, none⟩)] 31 (0, 0))) := (h2.block _ (lt_of_block HT3.out)).trans HT3.out; have HO4 : Hid (w4.heap[w.heap.size]? = some (.cells #[.pointer none, .pointer none, .pointer none, .pointer none, .pointer none, .pointer none] 33 (0, 0))) := (h2.block _ (lt_of_block HO3.out)).trans HO3.out; have t2 : w4.cell? ⟨w1.heap.size, 0, none⟩ = some (.pointer (some ⟨m, 0, none⟩)) := cell_of_row w4 _ 0 _ _ _ HT4.out; clear h1 h2)
  clear t1 hD
  have hSS := l_spaces W w4 F G p pd dm (v0 m b 1 2 n) (fun _ => 0) H6.out (bas_v0 m b 2 n HB0.out.2.2 HB0.out.1 HB0.out.2.1 (by have := HN0.out; omega)) vm hv (cnt_v0 m b 1 2 n (by have := HN0.out; omega)) H6.out.dj
  rw [show (v0 m b 1 2 n).n = n from rfl, ff_v0 m b 1 2 n (by have := HN0.out; omega)] at hSS
  go_upto_region 9 with (go_at_call 30; refine hSS.mono ?_; rintro r w5 ⟨q, rfl, h1, h2⟩; have hD2 := h2; have HT5 : Hid (w5.heap[w1.heap.size]? = some (.cells #[.pointer (some ⟨m, 0, none⟩), .pointer (some ⟨dm, 0, none⟩)] 31 (0, 0))) := h1.old HT4.out (H6.out.pl.ne HT4.out rfl); have HO5 : Hid (w5.heap[w.heap.size]? = some (.cells #[.pointer none, .pointer none, .pointer none, .pointer none, .pointer none, .pointer none] 33 (0, 0))) := h1.old HO4.out (H6.out.pl.ne HO4.out rfl); have t3 : w5.cell? ⟨w1.heap.size, 1, none⟩ = some (.pointer (some ⟨dm, 0, none⟩)) := cell_of_row w5 _ 1 _ _ _ HT5.out; clear h1 h2)
  clear t2 hSS
  go_upto_region 10 with (go_at_call 31; refine hD2.mono ?_; rintro r w6 ⟨qd, F', u, G', ud, rfl, h1, h2⟩; have H7 := hid h1; have HT6 : Hid (w6.heap[w1.heap.size]? = some (.cells #[.pointer (some ⟨m, 0, none⟩), .pointer (some ⟨dm, 0, none⟩)] 31 (0, 0))) := h2.old HT5.out (H6.out.dp.ne HT4.out rfl); have HO6 : Hid (w6.heap[w.heap.size]? = some (.cells #[.pointer none, .pointer none, .pointer none, .pointer none, .pointer none, .pointer none] 33 (0, 0))) := h2.old HO5.out (H6.out.dp.ne HO4.out rfl); have t4 : w6.cell? ⟨w1.heap.size, 0, none⟩ = some (.pointer (some ⟨m, 0, none⟩)) := cell_of_row w6 _ 0 _ _ _ HT6.out; have t5 : w6.cell? ⟨w1.heap.size, 1, none⟩ = some (.pointer (some ⟨dm, 0, none⟩)) := cell_of_row w6 _ 1 _ _ _ HT6.out; clear h1 h2)
  clear t3 hD2
  go_wp2_with ((with_reducible refine wpL_storeOn w.heap.size ?_ (some ⟨q, 0, none⟩) (some ⟨qd, 0, none⟩) (some ⟨p, 0, none⟩) (some ⟨pd, 0, none⟩) (some ⟨m, 0, none⟩) (some ⟨dm, 0, none⟩) ?_ (.pointer none) (.pointer none) (.pointer none) (.pointer none) (.pointer none) (.pointer none) HO6.out ?_); rfl; rfl)
  have nb : ∀ k, Ar F' u q k → k ≠ w.heap.size := fun k hk e => by
    subst e
    rcases hk with z | z | z
    · exact H7.out.sp.pl.ne HO6.out rfl z
    · have := H7.out.sp.sq; unfold Sq at this; rw [← z, HO6.out] at this; simp at this
    · obtain ⟨cur, hk'⟩ := own_typ H7.out.sp.ls z; rw [HO6.out] at hk'; simp at hk'
  have nd : ∀ k, Dr G' ud (.slice none 0 0) qd k → k ≠ w.heap.size := fun k hk e => by
    subst e
    rcases hk with z | z | z | z
    · exact H7.out.ds.dp.ne HO6.out rfl z
    · have := H7.out.ds.top; rw [← z, HO6.out] at this; simp at this
    · obtain ⟨cur, hk'⟩ := own_typ H7.out.ds.fr z; rw [HO6.out] at hk'; simp at hk'
    · cases z
  have ho : Only (· = w.heap.size) w6 (w6.setRow w.heap.size #[.pointer (some ⟨q, 0, none⟩), .pointer (some ⟨qd, 0, none⟩), .pointer (some ⟨p, 0, none⟩), .pointer (some ⟨pd, 0, none⟩), .pointer (some ⟨m, 0, none⟩), .pointer (some ⟨dm, 0, none⟩)]) := (Only.refl (S := (· = w.heap.size)) w6).setRow (.inl rfl) _
  exact bodyPost_ret_by (results_pair (fn := Try.f6) rfl _ _ w.heap.size 33 #[.pointer (some ⟨q, 0, none⟩), .pointer (some ⟨qd, 0, none⟩), .pointer (some ⟨p, 0, none⟩), .pointer (some ⟨pd, 0, none⟩), .pointer (some ⟨m, 0, none⟩), .pointer (some ⟨dm, 0, none⟩)] (0, 0) _ rfl (setRow_heap _ w.heap.size _ _ _ _ HO6.out) u_on rfl s_on _ rfl) rfl ⟨q, qd, p, pd, m, dm, F', u, G', ud, rfl, ⟨H7.out.sp.only ho nb, H7.out.ds.only ho nd, H7.out.dj, H7.out.new.trans (ho.below _ H7.out.new.size fun k hk => by subst hk; exact hz), H7.out.own⟩⟩
end Go.Proofs.Ytekkjalfiogenaa
