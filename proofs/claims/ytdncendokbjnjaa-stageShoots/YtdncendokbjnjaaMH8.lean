/- Two spaces that know nothing of one another: what one maps leaves the other as it was. -/
import Derived.Test.YtdncendokbjnjaaSW
import Derived.Test.YtdncendokbjnjaaMH6
import Derived.Test.YtdncendokbjnjaaMC5
import Derived.Test.YtdncendokbjnjaaMH7
import Derived.Deep.Cut
namespace Go.Proofs.Ytdncendokbjnjaa
open Go.RowKit
open C (Only hid Mem RMem Still ret_bool ret_int put byt rd8 lo nu c_Place gst rdmB)
set_option linter.unusedVariables false
set_option maxRecDepth 100000

/-- another space over the same memory -/
structure Oth (x : TX) (sb : SV) : Prop where
  iv : Inv sb x.v x.f
  ow : Ow sb x.v
  dj : ∀ y, x.s.tg y ≠ 0 → sb.tg y = 0
theorem Ow.own {s : SV} {v : PV} (h : Ow s v) {t : Nat} {x : Int} (h0 : v.o t = 0) : Ow s (v.own t x) := fun p hp => by
  have := h p hp
  show 1 ≤ upd v.o t x _
  rw [upd_other _ _ _ _ (fun e => by rw [e, h0] at this; omega)]
  exact this
section
variable {x : TX} {sb : SV} {p : Nat}
/-- a table in frame t, entered in a frame y of the first space's -/
theorem Oth.grow (h : Oth x sb) {t y i : Nat} {e : Int} {s' : SV} (ht : t < x.v.n) (h0 : x.v.o t = 0) (hy : x.s.tg y ≠ 0) (hi : i < 512) (hs : ∀ z, s'.tg z ≠ 0 → z = t ∨ x.s.tg z ≠ 0) : Oth ⟨s', x.v.own t (-1), w8 (clr x.f t) (4096 * y + 8 * i) e⟩ sb := by
  have hw := h.ow
  have i1 := h.iv.own ht h0 (x := -1) (.inr rfl) fun _ a ha e => by have := hw a ha; rw [e, h0] at this; omega
  have t0 := h.iv.notab (t := t) (by omega)
  have y0 := h.dj y hy
  refine ⟨i1.keep fun z hz j hj => ?_, hw.own h0, fun z hz => ?_⟩
  · have n1 : z ≠ y := fun e => hz (by rw [e]; exact y0)
    have n2 : z ≠ t := fun e => hz (by rw [e]; exact t0)
    show w8 (clr x.f t) (4096 * y + 8 * i) e (4096 * z + j) = _
    rw [w8_fr _ _ _ hi _ _ n1 _ hj, clr_fr _ _ _ n2 _ hj]
  · rcases hs z hz with e | e
    · subst e; exact t0
    · exact h.dj z e
theorem Oth.up1 (h : Oth x sb) (hi : Inv x.s x.v x.f) (hp : p < 134217728) (hc : x.s.k1 (p / 262144) = 0 → 0 < cnt x.v.o 0 x.v.n) : Oth (x.up1 p) sb := by
  by_cases hz : x.s.k1 (p / 262144) = 0
  · obtain ⟨h1, h2⟩ := cnt_pos (hc hz)
    rw [TX.up1_yes hz]
    refine h.grow h1 h2 (by rw [hi.root]; decide) (by omega) fun z hz' => ?_
    have hz2 : upd x.s.tg _ _ z ≠ 0 := hz'
    by_cases e : z = ff x.v.o x.v.n
    · exact .inl e
    · rw [upd_other _ _ _ _ e] at hz2; exact .inr hz2
  · rw [TX.up1_no hz]; exact h
theorem Oth.up0 (h : Oth x sb) (hi : Inv x.s x.v x.f) (hk : x.s.k1 (p / 262144) ≠ 0) (hc : x.s.k0 (p / 512) = 0 → 0 < cnt x.v.o 0 x.v.n) : Oth (x.up0 p) sb := by
  by_cases hz : x.s.k0 (p / 512) = 0
  · obtain ⟨h1, h2⟩ := cnt_pos (hc hz)
    rw [TX.up0_yes hz]
    refine h.grow h1 h2 (by have := (hi.a1 _ hk).2; omega) (Nat.mod_lt _ (by decide)) fun z hz' => ?_
    have hz2 : upd x.s.tg _ _ z ≠ 0 := hz'
    by_cases e : z = ff x.v.o x.v.n
    · exact .inl e
    · rw [upd_other _ _ _ _ e] at hz2; exact .inr hz2
  · rw [TX.up0_no hz]; exact h
theorem Oth.lf (h : Oth x sb) (hi : Inv x.s x.v x.f) (hk : x.s.k0 (p / 512) ≠ 0) (fr pm : Nat) : Oth (x.lf p fr pm) sb := by
  have y0 := h.dj _ (show x.s.tg (x.s.k0 (p / 512)) ≠ 0 by have := (hi.a0 _ hk).2; omega)
  refine ⟨h.iv.keep fun z hz j hj => ?_, h.ow, h.dj⟩
  have n1 : z ≠ x.s.k0 (p / 512) := fun e => hz (by rw [e]; exact y0)
  exact w8_fr _ _ _ (Nat.mod_lt _ (by decide)) _ _ n1 _ hj
/-- a page is mapped in the first -/
theorem Oth.map (h : Oth x sb) (hi : Inv x.s x.v x.f) (ok : x.v.Ok) (how : Ow x.s x.v) (hp : p < 134217728) (hc : dnL x.s p ≤ cnt x.v.o 0 x.v.n) (fr pm : Nat) : Oth (x.map p fr pm) sb := by
  unfold TX.map
  by_cases h1 : x.s.k1 (p / 262144) = 0
  · have hd : dnL x.s p = 2 := by unfold dnL; rw [if_pos h1]
    have hcp : 0 < cnt x.v.o 0 x.v.n := by omega
    obtain ⟨i1, -, d1, -⟩ := TX.step1 hi ok (how.ne hcp) hp h1 hcp
    have o1 := h.up1 hi hp (fun _ => hcp)
    have ok1 := ok.mon hcp
    have cn := own_cnt hcp
    rw [TX.up1_yes h1] at o1 ⊢
    obtain ⟨k1, k0, -⟩ := dnL_1 d1
    have hcp1 : 0 < cnt (x.v.own (ff x.v.o x.v.n) (-1)).o 0 (x.v.own (ff x.v.o x.v.n) (-1)).n := by show 0 < cnt _ 0 x.v.n; omega
    have how1 : Ow (x.s.add1 (p / 262144) (ff x.v.o x.v.n)) (x.v.own (ff x.v.o x.v.n) (-1)) := fun a ha => (how.own (cnt_pos hcp).2 a ha)
    have o0 := o1.up0 (p := p) i1 k1 (fun _ => hcp1)
    obtain ⟨i0, -, d0, -⟩ := TX.step0 (x := ⟨x.s.add1 (p / 262144) (ff x.v.o x.v.n), x.v.own (ff x.v.o x.v.n) (-1), w8 (clr x.f (ff x.v.o x.v.n)) (4096 * x.s.r + 8 * (p / 262144)) (tE x.v.b (ff x.v.o x.v.n))⟩) i1 ok1 (how1.ne hcp1) hp k1 k0 hcp1
    rw [TX.up0_yes (x := ⟨x.s.add1 (p / 262144) (ff x.v.o x.v.n), x.v.own (ff x.v.o x.v.n) (-1), w8 (clr x.f (ff x.v.o x.v.n)) (4096 * x.s.r + 8 * (p / 262144)) (tE x.v.b (ff x.v.o x.v.n))⟩) k0] at o0 ⊢
    exact o0.lf i0 (dnL_0 d0).2.1 fr pm
  · rw [TX.up1_no h1]
    by_cases h0 : x.s.k0 (p / 512) = 0
    · have hd : dnL x.s p = 1 := by unfold dnL; rw [if_neg h1, if_pos h0]
      have hcp : 0 < cnt x.v.o 0 x.v.n := by omega
      obtain ⟨i0, -, d0, -⟩ := TX.step0 hi ok (how.ne hcp) hp h1 h0 hcp
      have o0 := h.up0 (p := p) hi h1 (fun _ => hcp)
      rw [TX.up0_yes h0] at o0 ⊢
      exact o0.lf i0 (dnL_0 d0).2.1 fr pm
    · rw [TX.up0_no h0]; exact h.lf hi h0 fr pm
end
/-- whose the mapped frames are, and that the tables are apart -/
structure Apt (sa sb : SV) (v : PV) (ga gb : Int) : Prop where
  oa : ∀ p, sa.pp p ≠ 0 → v.o (sa.pf p) = ga
  ob : ∀ p, sb.pp p ≠ 0 → v.o (sb.pf p) = gb
  dj : ∀ y, sa.tg y ≠ 0 → sb.tg y = 0
theorem Apt.swap {sa sb : SV} {v : PV} {ga gb : Int} (h : Apt sa sb v ga gb) : Apt sb sa v gb ga := ⟨h.ob, h.oa, fun y hy => by
  rcases Nat.eq_zero_or_pos (sa.tg y) with z | z
  · exact z
  · exact absurd (h.dj y (by omega)) hy⟩
/-- what a pool keeps -/
structure Vs (v v' : PV) : Prop where
  m : v'.m = v.m
  b : v'.b = v.b
  n : v'.n = v.n
  o : ∀ y, y < v.n → v.o y ≠ 0 → v'.o y = v.o y
theorem Vs.refl (v : PV) : Vs v v := ⟨rfl, rfl, rfl, fun _ _ _ => rfl⟩
theorem Vs.trans {a b c : PV} (h : Vs a b) (k : Vs b c) : Vs a c := ⟨k.m.trans h.m, k.b.trans h.b, k.n.trans h.n, fun y hy ho => (k.o y (by rw [h.n]; exact hy) (by rw [h.o y hy ho]; exact ho)).trans (h.o y hy ho)⟩
theorem tw_Map (W w : World) (F : Nat → Prop) (ua ub : Value) (qa qb pl : Nat) (sa sb : SV) (v : PV) (f : Nat → Int) (va vb ga gb : Int) (h : TwS W w F ua ub qa qb pl sa sb v f va vb) (ap : Apt sa sb v ga gb) (g1 : 1 ≤ ga) (g2 : 1 ≤ gb) (p fr : Nat) (hp : p < 134217728) (hfr : fr < v.n) (hof : v.o fr = ga) :
    Calls Try.prog 17 #[.pointer (some ⟨qa, 0, none⟩), .int .u64 p, .int .i64 fr, .int .i64 6] w fun r w' => (∃ c, r = .returned (.int .i64 c)) ∧ ∃ F' ua' sa' v' f', TwS W w' F' ua' ub qa qb pl sa' sb v' f' va vb ∧ Apt sa' sb v' ga gb ∧ Vs v v' ∧ sa'.r = sa.r ∧ Only (Ar F ua qa) w w' ∧ ∀ k, Ar F' ua' qa k → Ar F ua qa k ∨ w.heap.size ≤ k := by
  have ok6 : okP 6 := .inr (.inl rfl)
  have harg : (decide ((p : Int) < 134217728) && decide (0 ≤ (fr : Int)) && decide ((fr : Int) < (v.n : Int)) && okPb ((6 : Nat) : Int)) = true := by
    rw [decide_eq_true (show (p : Int) < 134217728 by omega), decide_eq_true (show (0 : Int) ≤ fr by omega), decide_eq_true (show (fr : Int) < v.n by omega)]; rfl
  have keep : ∀ w', Below w.heap.size w w' → ∃ F' ua' sa' v' f', TwS W w' F' ua' ub qa qb pl sa' sb v' f' va vb ∧ Apt sa' sb v' ga gb ∧ Vs v v' ∧ sa'.r = sa.r ∧ Only (Ar F ua qa) w w' ∧ ∀ k, Ar F' ua' qa k → Ar F ua qa k ∨ w.heap.size ≤ k := fun w' hb => ⟨F, ua, sa, v, f, h.below hb, ap, Vs.refl v, rfl, .ofBelow hb, fun _ z => .inl z⟩
  by_cases hm : sa.pp p = 0
  · by_cases hc : dnL sa p ≤ cnt v.o 0 v.n
    · have how : Ow sa v := fun a ha => by rw [ap.oa a ha]; exact g1
      refine (x_Map w F ua qa pl sa v f va h.a p fr 6 hp hfr ok6 hm hc how (.inl (by rw [hof]; exact g1))).mono ?_
      rintro r w' ⟨rfl, F', u', k1, k2, k3⟩
      have hO := Oth.map (x := ⟨sa, v, f⟩) (sb := sb) ⟨h.b.iv, fun a ha => by show 1 ≤ v.o _; rw [ap.ob a ha]; exact g2, ap.dj⟩ h.a.iv h.a.pl.ok how hp hc fr 6
      have hv := map_v ⟨sa, v, f⟩ p fr 6
      have hpp := map_pp ⟨sa, v, f⟩ p fr 6
      have ho := map_o ⟨sa, v, f⟩ p fr 6
      refine ⟨⟨0, rfl⟩, F', u', _, _, _, h.turn k1 k2 k3 hv.2.2.1 hv.2.1 hO.iv, ⟨fun a ha => ?_, fun a ha => ?_, hO.dj⟩, ⟨hv.2.2.1, hv.2.1, hv.1, fun y hy h0 => ho y hy h0⟩, hv.2.2.2.2.2.2, k2, k3⟩
      · rw [hpp.1] at ha
        rw [hpp.2]
        by_cases e : a = p
        · rw [e, upd_same, ho fr hfr (by show v.o fr ≠ 0; omega)]; exact hof
        · rw [upd_other _ _ _ _ e] at ha
          have h5 := ap.oa a ha
          have h6 := (h.a.iv.ap a ha).2.2.1
          rw [upd_other _ _ _ _ e, ho _ h6 (by show v.o _ ≠ 0; rw [h5]; omega)]
          exact h5
      · have h5 := ap.ob a ha
        have h6 := (h.b.iv.ap a ha).2.2.1
        rw [ho _ h6 (by show v.o _ ≠ 0; rw [h5]; omega)]
        exact h5
    · have hL := r_leaf_no w F ua qa pl sa v f va h.a (p : Int) (by omega) hm
      have hT := t_map_full w qa v.m v.n pl (cnt v.o 0 v.n) (dnL sa p) (p : Int) (fr : Int) ((6 : Nat) : Int) (v.b + (dnO sa p : Nat)) (by omega) (by decide) (by decide) h.a.sq.c0 (r_Frames w F ua qa pl sa v f va h.a) harg hL (fun w1 hb => ⟨r_down w1 F ua qa pl sa v f va (h.a.below hb) p hp, (h.a.below hb).sq.c2, r_Count w1 F ua qa pl sa v f va (h.a.below hb) 0⟩)
      exact hT.mono fun r w' hQ => ⟨⟨10, hQ.1⟩, keep w' hQ.2⟩
  · have hT := t_map_mapped w qa v.m v.n (p : Int) (fr : Int) ((6 : Nat) : Int) _ _ (by decide) (by decide) h.a.sq.c0 (r_Frames w F ua qa pl sa v f va h.a) harg (r_leaf_yes w F ua qa pl sa v f va h.a p hm)
    exact hT.mono fun r w' hQ => ⟨⟨20, hQ.1⟩, keep w' hQ.2⟩
end Go.Proofs.Ytdncendokbjnjaa
namespace Go.Proofs.Ytdncendokbjnjaa
open Go.RowKit
open C (Only hid Mem RMem Still ret_bool ret_int put byt rd8 lo nu c_Place gst rdmB Sl)
set_option linter.unusedVariables false
set_option maxRecDepth 100000

/-- a frame's owner has changed by a guest's take: both spaces stand -/
theorem tw_Take (W w : World) (F : Nat → Prop) (ua ub : Value) (qa qb pl : Nat) (sa sb : SV) (v : PV) (f : Nat → Int) (va vb : Int) (h : TwS W w F ua ub qa qb pl sa sb v f va vb) (x : Int) (hx : may x = true) (hx1 : 1 ≤ x) (hc : 0 < cnt v.o 0 v.n) :
    Calls Try.prog 21 #[.pointer (some ⟨pl, 0, none⟩), .int .i64 x] w fun r w' => r = .returned (.tuple #[.int .i64 (ff v.o v.n : Nat), .int .i64 0]) ∧ TwS W w' F ua ub qa qb pl sa sb (v.own (ff v.o v.n) x) f va vb ∧ Only F w w' := by
  refine (x_TakeS w F ua qa pl sa v f va h.a x hx hx1 hc).mono ?_
  rintro r w' ⟨rfl, k1, k2⟩
  obtain ⟨h1, h2⟩ := cnt_pos hc
  exact ⟨rfl, h.turn k1 (k2.mono fun k _ hk => .inl hk) (fun _ z => .inl z) rfl rfl (h.b.iv.own h1 h2 (.inl hx1) fun e => by omega), k2⟩
/-- the owners when k pairs have been taken -/
def vk (m : Nat) : Nat → PV
  | 0 => spV m
  | k + 1 => ((vk m k).own (3 + 2 * k) 1).own (4 + 2 * k) 2
theorem vk_n (m k : Nat) : (vk m k).n = 16 ∧ (vk m k).m = m ∧ (vk m k).b = 0 := by
  induction k with
  | zero => exact ⟨rfl, rfl, rfl⟩
  | succ k ih => exact ih
theorem vk_ff0 (m : Nat) : ff (vk m 0).o 16 = 3 ∧ ff (vk m 1).o 16 = 5 ∧ ff (vk m 2).o 16 = 7 := by refine ⟨?_, ?_, ?_⟩ <;> kernel_rfl
theorem vk_ff1 (m : Nat) : ff ((vk m 0).own 3 1).o 16 = 4 ∧ ff ((vk m 1).own 5 1).o 16 = 6 ∧ ff ((vk m 2).own 7 1).o 16 = 8 := by refine ⟨?_, ?_, ?_⟩ <;> kernel_rfl
theorem vk_c0 (m : Nat) : cnt (vk m 0).o 0 16 = 13 ∧ cnt (vk m 1).o 0 16 = 11 ∧ cnt (vk m 2).o 0 16 = 9 := by refine ⟨?_, ?_, ?_⟩ <;> kernel_rfl
theorem vk_c1 (m : Nat) : cnt ((vk m 0).own 3 1).o 0 16 = 12 ∧ cnt ((vk m 1).own 5 1).o 0 16 = 10 ∧ cnt ((vk m 2).own 7 1).o 0 16 = 8 := by refine ⟨?_, ?_, ?_⟩ <;> kernel_rfl
/-- both takes of a round -/
theorem tw_pair (W w : World) (F : Nat → Prop) (ua ub : Value) (qa qb pl m k : Nat) (sa sb : SV) (f : Nat → Int) (h : TwS W w F ua ub qa qb pl sa sb (vk m k) f 1 2) (hk : k < 3) :
    Calls Try.prog 21 #[.pointer (some ⟨pl, 0, none⟩), .int .i64 1] w fun r w1 => r = .returned (.tuple #[.int .i64 ((3 + 2 * k : Nat) : Int), .int .i64 0]) ∧ Only F w w1 ∧
      Calls Try.prog 21 #[.pointer (some ⟨pl, 0, none⟩), .int .i64 2] w1 fun r w2 => r = .returned (.tuple #[.int .i64 ((4 + 2 * k : Nat) : Int), .int .i64 0]) ∧ TwS W w2 F ua ub qa qb pl sa sb (vk m (k + 1)) f 1 2 ∧ Only F w1 w2 := by
  have hn := (vk_n m k).1
  have c0 : 0 < cnt (vk m k).o 0 16 ∧ ff (vk m k).o 16 = 3 + 2 * k := by
    have h1 := vk_c0 m
    have h2 := vk_ff0 m
    rcases (show k = 0 ∨ k = 1 ∨ k = 2 by omega) with rfl | rfl | rfl
    · exact ⟨by rw [h1.1]; decide, h2.1⟩
    · exact ⟨by rw [h1.2.1]; decide, h2.2.1⟩
    · exact ⟨by rw [h1.2.2]; decide, h2.2.2⟩
  have c1 : 0 < cnt ((vk m k).own (3 + 2 * k) 1).o 0 16 ∧ ff ((vk m k).own (3 + 2 * k) 1).o 16 = 4 + 2 * k := by
    have h1 := vk_c1 m
    have h2 := vk_ff1 m
    rcases (show k = 0 ∨ k = 1 ∨ k = 2 by omega) with rfl | rfl | rfl
    · exact ⟨by rw [h1.1]; decide, h2.1⟩
    · exact ⟨by rw [h1.2.1]; decide, h2.2.1⟩
    · exact ⟨by rw [h1.2.2]; decide, h2.2.2⟩
  have h1 := tw_Take W w F ua ub qa qb pl sa sb (vk m k) f 1 2 h 1 rfl (by decide) (by rw [hn]; exact c0.1)
  rw [hn, c0.2] at h1
  refine h1.mono ?_
  rintro r w1 ⟨rfl, k1, k2⟩
  have h2 := tw_Take W w1 F ua ub qa qb pl sa sb ((vk m k).own (3 + 2 * k) 1) f 1 2 k1 2 rfl (by decide) (by show 0 < cnt _ 0 (vk m k).n; rw [hn]; exact c1.1)
  rw [show ((vk m k).own (3 + 2 * k) 1).n = 16 from hn, c1.2] at h2
  exact ⟨rfl, k2, h2⟩
theorem vk_o (m : Nat) : (∀ i, i < 3 → (vk m 3).o (3 + 2 * i) = 1) ∧ (∀ i, i < 3 → (vk m 3).o (4 + 2 * i) = 2) := by
  refine ⟨fun i hi => ?_, fun i hi => ?_⟩ <;> rcases (show i = 0 ∨ i = 1 ∨ i = 2 by omega) with rfl | rfl | rfl <;> rfl
/-- what a guest's number turns: frames that are not mapped stay -/
theorem wG_far (s : SV) (f : Nat → Int) (a : Nat) (x : Int) (y : Nat) : ∀ n, (∀ i, i < n → s.pf ((a + i) / 4096) ≠ y) → ∀ j, j < 4096 → wG s f a x n (4096 * y + j) = f (4096 * y + j)
  | 0, _, j, hj => rfl
  | n + 1, h, j, hj => by
    show put (wG s f a x n) (po s (a + n)) 1 _ (4096 * y + j) = _
    rw [C.put_out _ _ _ _ _ (by have := h n (by omega); unfold po; omega)]
    exact wG_far s f a x y n (fun i hi => h i (by omega)) j hj
end Go.Proofs.Ytdncendokbjnjaa
namespace Go.Proofs.Ytdncendokbjnjaa
open Go.RowKit
open C (Only hid Mem RMem Still ret_bool ret_int c_Place)
set_option linter.unusedVariables false
set_option maxRecDepth 100000

theorem info_pR : (Try.prog.info? 82).map (fun i => (i.zero, i.size, i.bytes)) = some (some (.pointer none), 1, 8) := by kernel_rfl
theorem u_spR : Try.prog.underlying 78 = some (.slice 82) := by kernel_rfl
/-- as far as k harts have their TLBs -/
structure Sk (W w : World) (p g h : Nat) (u : Value) (k : Nat) (P G : Nat → Nat) (q gh : Nat) (uu : Value) (Q : Nat → Nat) : Prop where
  sh : Sh w p g h (fun _ => 0)
  ts : Ts W w u k P G (fun _ => []) 8
  new : Below W.heap.size W w
  hs : Hs w q gh h (fun _ => .slice none 0 0) (fun _ => [])
  rl : w.ownsRow W.heap.size 82 1 uu k (ptrs Q k)
  rm : ∀ i, i < k → E.RM w (Q i) 8 (.slice none 0 0) []
  qi : ∀ i j, i < k → j < k → Q i = Q j → i = j
  qw : ∀ i, i < k → W.heap.size ≤ Q i
theorem ug_own {w : World} {base : Nat} {e : TypeId} {u : Value} {n : Nat} {xs : List Value} (h : w.ownsRow base e 1 u n xs) {x : Nat} (hx : Ug u x) : base ≤ x := by
  obtain ⟨ad, cp, rfl, had⟩ := own_sliceS h
  cases ad with
  | none => cases hx
  | some a =>
    have h5 := had a rfl
    have h6 : a.block = x := by simpa [Ug, Value.ownBlock] using hx
    omega
theorem upd_nil {L : Nat → List E.TV} (k : Nat) (h : L = fun _ => []) : upd L k [] = fun _ => [] := by
  funext i
  unfold upd
  split
  · rfl
  · rw [h]
/-- one hart more -/
theorem Sk.add {W w w2 w3 w4 w5 : World} {p g h k q gh tp tg tq : Nat} {u u' uu uu' : Value} {P G Q : Nat → Nat} (S : Sk W w p g h u k P G q gh uu Q) (b2 : Below w.heap.size w w2) (ht : E.TM w2 tp tg 8 []) (hge : ∀ x, E.Ft tp tg x → w.heap.size ≤ x) (b3 : Below w2.heap.size w2 w3) (hr : E.RM w3 tq 8 (.slice none 0 0) []) (hq : tq = w2.heap.size)
    (o4 : Only (Ug u) w3 w4) (own4 : w4.ownsRow W.heap.size 79 1 u' (k + 1) (ptrs P k ++ [.pointer (some ⟨tp, 0, none⟩)])) (o5 : Only (Ug uu) w4 w5) (own5 : w5.ownsRow W.heap.size 82 1 uu' (k + 1) (ptrs Q k ++ [.pointer (some ⟨tq, 0, none⟩)])) : Sk W w5 p g h u' (k + 1) (upd P k tp) (upd G k tg) q gh uu' (upd Q k tq) := by
  have s2 := b2.size
  have s3 := b3.size
  have s4 := o4.size
  have zW := S.new.size
  have b23 : Below w.heap.size w w3 := b2.trans (b3.mono s2)
  have nu : ∀ x c t, w.heap[x]? = some (.cells c t (0, 0)) → t ≠ 79 → ¬ Ug u x := fun x c t hc hn z => by
    obtain ⟨c', hc'⟩ := own_typ (own_zero S.ts.ls) z
    rw [hc] at hc'; simp at hc'; exact hn hc'.2
  have nuu : ∀ x c t, w.heap[x]? = some (.cells c t (0, 0)) → t ≠ 82 → ¬ Ug uu x := fun x c t hc hn z => by
    obtain ⟨c', hc'⟩ := own_typ (own_zero S.rl) z
    rw [hc] at hc'; simp at hc'; exact hn hc'.2
  have lu : ∀ x, Ug u x → x < w.heap.size := fun x z => by obtain ⟨c, hc⟩ := own_typ (own_zero S.ts.ls) z; exact lt_of_block hc
  have luu : ∀ x, Ug uu x → x < w.heap.size := fun x z => by obtain ⟨c, hc⟩ := own_typ (own_zero S.rl) z; exact lt_of_block hc
  have o45 : Only (fun x => Ug u x ∨ Ug uu x) w3 w5 := (o4.mono fun x _ hx => .inl hx).trans (o5.mono fun x _ hx => .inr hx)
  have ts4 := S.ts.add b23 (ht.below b3) hge zW o4 own4
  rw [upd_nil k rfl] at ts4
  have no : ∀ x c t, w.heap[x]? = some (.cells c t (0, 0)) → t ≠ 79 → t ≠ 82 → ¬ (Ug u x ∨ Ug uu x) := fun x c t hc h1 h2 z => z.elim (nu x c t hc h1) (nuu x c t hc h2)
  have hs3 := S.hs.below b23
  have sh3 := S.sh.below b23
  refine ⟨sh3.only o45 (no _ _ _ S.sh.top (by decide) (by decide)) (no _ _ _ S.sh.tab (by decide) (by decide)), ⟨own_onlyB ts4.ls o5 fun x hx z => ?_, fun i hi => (ts4.tm i hi).only o5 fun x hx z => ?_, ts4.pi, ts4.gi, ts4.ge⟩, (S.new.trans (b23.mono zW)).trans (o45.below _ (by omega) fun x hx => hx.elim (ug_own S.ts.ls) (ug_own S.rl)), hs3.only o45 (fun x c t hc z => ?_), ?_, fun i hi => ?_, fun i j hi hj e => ?_, fun i hi => ?_⟩
  · obtain ⟨c, hc⟩ := own_typ (own_zero ts4.ls) hx
    obtain ⟨c', hc'⟩ := own_typ (own_only (own_below (own_zero S.rl) b23) o4 fun y hy hz => by
      obtain ⟨a, ha⟩ := own_typ (own_zero S.rl) hy
      exact nu _ _ _ ha (by decide) hz) z
    rw [hc] at hc'; simp at hc'
  · obtain ⟨c', hc'⟩ := own_typ (own_only (own_below (own_zero S.rl) b23) o4 fun y hy hz => by
      obtain ⟨a, ha⟩ := own_typ (own_zero S.rl) hy
      exact nu _ _ _ ha (by decide) hz) z
    rcases hx with e | e
    · have := (ts4.tm i hi).top; rw [← e, hc'] at this; simp at this
    · obtain ⟨Z, h2, -, -⟩ := (ts4.tm i hi).row
      unfold E.Rw at h2
      rw [← e, hc'] at h2; simp at h2
  · rcases z with z | z
    · obtain ⟨c', hc'⟩ := own_typ (own_below (own_zero S.ts.ls) b23) z
      rw [hc] at hc'; simp at hc'; obtain ⟨-, rfl⟩ := hc'; exact ⟨by decide, by decide, by decide⟩
    · obtain ⟨c', hc'⟩ := own_typ (own_below (own_zero S.rl) b23) z
      rw [hc] at hc'; simp at hc'; obtain ⟨-, rfl⟩ := hc'; exact ⟨by decide, by decide, by decide⟩
  · rw [ptrs_add, upd_same, ptrs_congr (P := upd Q k tq) (P' := Q) (k := k) fun i hi => upd_other _ _ _ _ (by omega)]
    exact own5
  · by_cases e : i = k
    · rw [e, upd_same]
      exact hr.only o45 (fun z => z.elim (fun z => by have := lu _ z; omega) fun z => by have := luu _ z; omega) fun x hx => by cases hx
    · rw [upd_other _ _ _ _ e]
      have hm := S.rm i (by omega)
      exact (hm.below b23).only o45 (no _ _ _ hm.top (by decide) (by decide)) fun x hx => by cases hx
  · have lq : ∀ i, i < k → Q i < w.heap.size := fun i hi => (S.rm i hi).lt
    by_cases e1 : i = k
    · by_cases e2 : j = k
      · omega
      · rw [e1, upd_same, upd_other _ _ _ _ e2] at e
        have := lq j (by omega); omega
    · by_cases e2 : j = k
      · rw [e2, upd_same, upd_other _ _ _ _ e1] at e
        have := lq i (by omega); omega
      · rw [upd_other _ _ _ _ e1, upd_other _ _ _ _ e2] at e
        exact S.qi i j (by omega) (by omega) e
  · by_cases e1 : i = k
    · rw [e1, upd_same]; omega
    · rw [upd_other _ _ _ _ e1]; exact S.qw i (by omega)
theorem Sk.fin {W w : World} {p g h q gh : Nat} {u uu : Value} {P G Q : Nat → Nat} (S : Sk W w p g h u h P G q gh uu Q) (pw : W.heap.size ≤ p) (gw : W.heap.size ≤ g) (ghw : W.heap.size ≤ gh) : Sb W w p g h (fun _ => 0) u P G (fun _ => []) q gh (fun _ => .slice none 0 0) uu Q (fun _ => .slice none 0 0) :=
  
  have e : (fun _ : Nat => ([] : List Nat)) = fun i => vl ((fun _ => 0) i) 16 := funext fun _ => vl_zero.symm
  ⟨⟨S.sh, S.ts, S.new, pw, gw⟩, e ▸ S.hs, own_zero S.rl, S.rm, S.qi, fun _ _ _ _ z => (by cases z), fun _ _ => ⟨E.Nd.nil, Nat.zero_le _⟩, ghw, S.qw, fun _ => rfl⟩
end Go.Proofs.Ytdncendokbjnjaa
namespace Go.Proofs.Ytdncendokbjnjaa
open Go.RowKit
open C (Only hid Mem RMem Still ret_bool ret_int)
set_option linter.unusedVariables false
set_option maxRecDepth 100000

def az (d : Nat → Nat) : Nat → Bool
  | 0 => true
  | m + 1 => az d m && decide (d m = 0)
theorem az_iff (d : Nat → Nat) : ∀ m, (∀ i, i < m → d i = 0) ↔ az d m = true
  | 0 => ⟨fun _ => rfl, fun _ i hi => by omega⟩
  | m + 1 => by
    have ih := az_iff d m
    unfold az
    rw [Bool.and_eq_true, decide_eq_true_iff, ← ih]
    exact ⟨fun h => ⟨fun i hi => h i (by omega), h m (by omega)⟩, fun h i hi => by
      by_cases e : i = m
      · rw [e]; exact h.2
      · exact h.1 i (by omega)⟩
section
variable {W w w' : World} {p g h : Nat} {d : Nat → Nat} {u uu : Value} {P G Q : Nat → Nat} {L : Nat → List E.TV} {q gh : Nat} {V VV : Nat → Value}
/-- a list's length is 0 just where nothing is due -/
theorem Sb.len0 (S : Sb W w p g h d u P G L q gh V uu Q VV) (i : Nat) : (vl (d i) 16).length = 0 ↔ d i = 0 := by
  rw [List.length_eq_zero_iff]
  exact vl_nil (S.f.sh.dl i) (S.ev i)
theorem Sb.idle (S : Sb W w p g h d u P G L q gh V uu Q VV) : Calls Try.prog 40 #[.pointer (some ⟨p, 0, none⟩)] w fun r w' => r = .returned (.bool (az d h)) ∧ w' = w :=
  sh_Idle w p g h d S.f.sh (az d h) (az_iff d h)
/-- what a hart is due, of both, alike -/
theorem sb_Due (S : Sb W w p g h d u P G L q gh V uu Q VV) (i : Nat) (hi : i < h) : Calls Try.prog 39 #[.pointer (some ⟨p, 0, none⟩), .int .i64 i] w fun r w1 => ∃ x, r = .returned x ∧ Below w.heap.size w w1 ∧ Calls Try.prog 38 #[x, V i] w1 fun r w2 => r = .returned (.bool true) ∧ Sb W w2 p g h d u P G L q gh V uu Q VV := by
  refine (sh_Due w p g h d S.f.sh i hi).mono ?_
  rintro r w1 ⟨x, rfl, k1, k2⟩
  refine ⟨x, rfl, k2, (l_SameInts w1 (vl (d i) 16) (vl_len _ 16) _ 0 x (V i) k1 ((S.hs.below k2).ls i hi)).mono ?_⟩
  rintro r w2 ⟨rfl, hs⟩
  exact ⟨rfl, (S.below k2).below (hs.below _)⟩
/-- of what is no hart: nothing -/
theorem sb_DueNo (S : Sb W w p g h d u P G L q gh V uu Q VV) (x : Int) (hx : x < 0 ∨ (h : Int) ≤ x) : Calls Try.prog 39 #[.pointer (some ⟨p, 0, none⟩), .int .i64 x] w fun r w1 => r = .returned (.slice none 0 0) ∧ w1 = w ∧ Calls Try.prog 38 #[.slice none 0 0, .slice none 0 0] w1 fun r w2 => r = .returned (.bool true) ∧ Sb W w2 p g h d u P G L q gh V uu Q VV := by
  refine (sh_Due_no w p g h d S.f.sh x (by simp; omega)).mono ?_
  rintro r w1 ⟨rfl, rfl⟩
  refine ⟨rfl, rfl, (l_SameInts w1 [] (Nat.zero_le _) 0 0 _ _ (World.ownsRow_nil _ _ _ _) (World.ownsRow_nil _ _ _ _)).mono ?_⟩
  rintro r w2 ⟨rfl, hs⟩
  exact ⟨rfl, S.below (hs.below _)⟩
/-- both TLBs of a hart hold the same -/
theorem sb_Entries (S : Sb W w p g h d u P G L q gh V uu Q VV) (i : Nat) (hi : i < h) : Calls Try.prog 37 #[.pointer (some ⟨P i, 0, none⟩)] w fun r w1 => ∃ x, r = .returned x ∧ Below w.heap.size w w1 ∧ Calls Try.prog 36 #[x, VV i] w1 fun r w2 => r = .returned (.bool true) ∧ Sb W w2 p g h d u P G L q gh V uu Q VV := by
  refine (E.c_Entries w (P i) (G i) 8 (L i) (S.f.ts.tm i hi)).mono ?_
  rintro r w1 ⟨x, rfl, k1, k2⟩
  refine ⟨x, rfl, k2, (E.c_Same w1 x (VV i) (L i) k1.rd ((S.rm i hi).below k2).es.rd (by have := (S.nd i hi).2; omega)).mono ?_⟩
  rintro r w2 ⟨rfl, hs⟩
  exact ⟨rfl, (S.below k2).below (hs.below _)⟩
end
end Go.Proofs.Ytdncendokbjnjaa
namespace Go.Proofs.Ytdncendokbjnjaa
open Go.RowKit
open C (Only hid)
set_option linter.unusedVariables false
set_option maxRecDepth 100000

/-- no two operations have one slot -/
def ndB (ops : Array Oper) : Bool := (List.range ops.size).all fun j => (List.range ops.size).all fun k => j == k || (match ops[j]?, ops[k]? with | some o, some p => o.dst.isNone || o.dst != p.dst | _, _ => true)
theorem ndB_spec {ops : Array Oper} (h : ndB ops = true) {j k : Nat} {o p : Oper} {d : Nat} (hj : ops[j]? = some o) (hk : ops[k]? = some p) (ho : o.dst = some d) (hp : p.dst = some d) : j = k := by
  unfold ndB at h
  have hjl : j < ops.size := (Array.getElem?_eq_some_iff.1 hj).1
  have hkl : k < ops.size := (Array.getElem?_eq_some_iff.1 hk).1
  have := List.all_eq_true.1 (List.all_eq_true.1 h j (by simpa using hjl)) k (by simpa using hkl)
  simp only [hj, hk, ho, hp] at this
  simpa using this
structure FrQ (ops : Array Oper) (vt : Nat → Value) (t0 : Array Value) (listed : Array Bool) (a : Act) : Prop where
  df : a.defers = []
  sz : a.tmps.size = t0.size
  ls : listed.size = ops.size
  keep : ∀ d, (ops.toList.all fun o => o.dst != some d) = true → a.tmps[d]? = t0[d]?
  val : ∀ j o d, ops[j]? = some o → o.dst = some d → listed.getD j false = true → a.tmps[d]? = some (vt d)
section
variable {ops : Array Oper} {vt : Nat → Value} {t0 : Array Value} {listed : Array Bool} {a : Act}
theorem FrQ.start (hs : listed = Array.replicate ops.size false) : FrQ ops vt t0 listed ⟨t0, []⟩ := by
  subst hs
  refine ⟨rfl, rfl, by simp, fun _ _ => rfl, fun j o d hj _ hl => ?_⟩
  have hjl : j < ops.size := (Array.getElem?_eq_some_iff.1 hj).1
  simp [hjl] at hl
theorem getD_set (l : Array Bool) (j k : Nat) (hj : j < l.size) : (l.setIfInBounds j true).getD k false = if k = j then true else l.getD k false := by
  by_cases e : k = j
  · subst e; simp [hj]
  · rw [if_neg e]
    simp only [Array.getD_eq_getD_getElem?, Array.getElem?_setIfInBounds]
    rw [if_neg (fun q => e q.symm)]
theorem FrQ.put (h : FrQ ops vt t0 listed a) (hn : ndB ops = true) {j : Nat} {o : Oper} {d : Nat} {v : Value} (ho : ops[j]? = some o) (hd : o.dst = some d) (hv : v = vt d) (hdl : d < t0.size) : FrQ ops vt t0 (listed.setIfInBounds j true) (a.put o.dst v) := by
  have hjl : j < listed.size := by rw [h.ls]; exact (Array.getElem?_eq_some_iff.1 ho).1
  subst hv
  rw [hd]
  refine ⟨h.df, by simp [Act.put, h.sz], by simp [h.ls], fun k hk => ?_, fun i p k hi hp hl => ?_⟩
  · have : k ≠ d := fun q => by
      subst q
      have := List.all_eq_true.1 hk o (by have := Array.mem_of_getElem? ho; exact Array.mem_toList_iff.2 this)
      simp [hd] at this
    simp only [Act.put, Array.getElem?_setIfInBounds]
    rw [if_neg (fun q => this q.symm)]
    exact h.keep k hk
  · rw [getD_set _ _ _ hjl] at hl
    simp only [Act.put, Array.getElem?_setIfInBounds]
    by_cases e : d = k
    · subst e
      rw [if_pos rfl, if_pos (by rw [h.sz]; exact hdl)]
    · rw [if_neg e]
      have : i ≠ j := fun q => by subst q; rw [ho] at hi; cases hi; rw [hd] at hp; exact e (Option.some.inj hp)
      rw [if_neg this] at hl
      exact h.val i p k hi hp hl
theorem FrQ.skip (h : FrQ ops vt t0 listed a) {j : Nat} {o : Oper} (ho : ops[j]? = some o) (hd : o.dst = none) (v : Value) : FrQ ops vt t0 (listed.setIfInBounds j true) (a.put o.dst v) := by
  have hjl : j < listed.size := by rw [h.ls]; exact (Array.getElem?_eq_some_iff.1 ho).1
  rw [hd]
  refine ⟨h.df, h.sz, by simp [h.ls], h.keep, fun i p k hi hp hl => ?_⟩
  rw [getD_set _ _ _ hjl] at hl
  have : i ≠ j := fun q => by subst q; rw [ho] at hi; cases hi; rw [hd] at hp; cases hp
  rw [if_neg this] at hl
  exact h.val i p k hi hp hl
theorem FrQ.ev (h : FrQ ops vt t0 listed a) {i : Nat} {o : Oper} {d : Nat} (hi : ops[i]? = some o) (hd : o.dst = some d) (hl : listed.getD i false = true) : a.tmps[d]?.getD undef = vt d := by
  simp only [h.val i o d hi hd hl, Option.getD_some]
theorem FrQ.base (h : FrQ ops vt t0 listed a) (d : Nat) (hd : (ops.toList.all fun o => o.dst != some d) = true) {v : Value} (hv : t0[d]? = some v) : a.tmps[d]?.getD undef = v := by
  simp only [h.keep d hd, hv, Option.getD_some]
end
/-- what an operation waits for has been done -/
theorem he_all {listed : Array Bool} {after : Array Edge} (he : ∀ e ∈ after, Region.binds .any e = true → listed.getD e.on false = true) (n : Nat) (hc : ((List.range n).all fun i => after.any fun e => e.on == i && Region.binds .any e) = true) (i : Nat) (hi : i < n) : listed.getD i false = true := by
  have := List.all_eq_true.1 hc i (by simpa using hi)
  obtain ⟨e, h1, h2⟩ := Array.any_eq_true'.1 this
  simp only [Bool.and_eq_true, beq_iff_eq] at h2
  rw [← h2.1]
  exact he e h1 h2.2
theorem wp_q {P : Program} {ops : Array Oper} {Q : Exit → Act → World → Prop} {i : Nat} {o : Oper} {K : Act → World → Prop} {a : Act} {w w' : World} {v : Value} (ho : ops[i]? = some o) (hg : o.guard = none) (hr : (execOp a.eval o).run P w = .ok (.value v) w') (h : K (a.put o.dst v) w') : wpOp P ops Q i K a w := by
  refine wpOp_step ho fun K' hK => ?_
  rw [if_pos (by simp [Region.wanted, hg])]
  unfold Oper.wp
  rw [hr]
  exact hK _ _ h
theorem wp_s {P : Program} {ops : Array Oper} {Q : Exit → Act → World → Prop} {i : Nat} {o : Oper} {K : Act → World → Prop} {a : Act} {w w' : World} (ho : ops[i]? = some o) (hg : o.guard = none) (hr : (execOp a.eval o).run P w = .ok .skip w') (h : K (a.put o.dst undef) w') : wpOp P ops Q i K a w := by
  refine wpOp_step ho fun K' hK => ?_
  rw [if_pos (by simp [Region.wanted, hg])]
  unfold Oper.wp
  rw [hr]
  exact hK _ _ h
theorem wpAny_fq {P : Program} {ops : Array Oper} {Q : Exit → Act → World → Prop} {t0 : Array Value} {w : World} (vt : Nat → Value) (V : Array Bool → World → Prop)
    (step : ∀ listed a w, FrQ ops vt t0 listed a ∧ V listed w → ∀ i ∈ Region.ready .any ops listed, wpOp P ops Q i (fun a' w' => FrQ ops vt t0 (listed.setIfInBounds i true) a' ∧ V (listed.setIfInBounds i true) w') a w)
    (fin : ∀ listed a w, FrQ ops vt t0 listed a ∧ V listed w → Region.ready .any ops listed = [] → Q .normal a w) (start : V (Array.replicate ops.size false) w) :
    wpAny P .any ops Q ops.size (Array.replicate ops.size false) ⟨t0, []⟩ w :=
  C.wpAny_inv (fun listed fr wr => FrQ ops vt t0 listed fr ∧ V listed wr) step fin _ _ _ _ (by simp) ⟨FrQ.start rfl, start⟩
theorem getD_tf {l : Array Bool} {j : Nat} (hj : j < l.size) (h : l.getD j true = false) : l.getD j false = false := by simp [hj] at h ⊢; exact h
theorem allDone {ops : Array Oper} {listed : Array Bool} (hr : Region.ready .any ops listed = []) (hs : listed.size = ops.size) (hc : ((List.range ops.size).all fun j => (match ops[j]? with | some o => o.after.all fun e => decide (e.on < j) | none => true)) = true) : ∀ j, j < ops.size → listed.getD j false = true := by
  intro j
  induction j using Nat.strongRecOn with
  | _ j ih =>
    intro hj
    have h1 := List.all_eq_true.1 hc j (by simpa using hj)
    cases z : listed.getD j false with
    | true => rfl
    | false =>
      exfalso
      have hjo : ops[j]? = some ops[j] := by simp [hj]
      rw [hjo] at h1
      have : j ∈ Region.ready .any ops listed := by
        refine mem_ready.2 ⟨?_, ops[j], hjo, fun e he _ => ?_⟩
        · have hjl : j < listed.size := by rw [hs]; exact hj
          simp [hjl] at z ⊢
          exact z
        · have := Array.all_eq_true_iff_forall_mem.1 h1 e he
          have hlt : e.on < j := by simpa using this
          exact ih e.on hlt (Nat.lt_trans hlt hj)
      rw [hr] at this
      cases this
def fillF (vt : Nat → Value) (t : Array Value) (o : Oper) : Array Value := match o.dst with | some d => t.setIfInBounds d (vt d) | none => t
theorem fillF_size (vt : Nat → Value) (t : Array Value) (o : Oper) : (fillF vt t o).size = t.size := by unfold fillF; split <;> simp
theorem fill_get (vt : Nat → Value) (d : Nat) : ∀ (l : List Oper) (t : Array Value), d < t.size → (l.foldl (fillF vt) t)[d]? = if (l.any fun o => o.dst == some d) = true then some (vt d) else t[d]?
  | [], t, hd => by simp
  | o :: l, t, hd => by
    rw [List.foldl_cons, fill_get vt d l _ (by rw [fillF_size]; exact hd), List.any_cons]
    by_cases h1 : (l.any fun o => o.dst == some d) = true
    · rw [if_pos h1, if_pos (by rw [h1, Bool.or_true])]
    · rw [if_neg h1]
      unfold fillF
      cases ho : o.dst with
      | none => rw [if_neg (by simpa using h1)]
      | some e =>
        by_cases e1 : e = d
        · subst e1
          rw [if_pos (by simp)]
          simp [hd]
        · rw [if_neg (by simp [e1]; simpa using h1)]
          simp only [Array.getElem?_setIfInBounds, if_neg e1]
theorem fill_size (vt : Nat → Value) : ∀ (l : List Oper) (t : Array Value), (l.foldl (fillF vt) t).size = t.size
  | [], t => rfl
  | o :: l, t => by rw [List.foldl_cons, fill_size vt l, fillF_size]
theorem FrQ.full {ops : Array Oper} {vt : Nat → Value} {t0 : Array Value} {listed : Array Bool} {a : Act} (h : FrQ ops vt t0 listed a) (hl : ∀ j, j < ops.size → listed.getD j false = true) : a = ⟨ops.toList.foldl (fillF vt) t0, []⟩ := by
  obtain ⟨t, df⟩ := a
  obtain rfl : df = [] := h.df
  have hs : t.size = t0.size := h.sz
  congr 1
  apply Array.ext_getElem?
  intro d
  by_cases hd : d < t0.size
  · rw [fill_get vt d _ _ hd]
    by_cases h1 : (ops.toList.any fun o => o.dst == some d) = true
    · rw [if_pos h1]
      obtain ⟨o, ho, hod⟩ := List.any_eq_true.1 h1
      obtain ⟨j, hj, hjo⟩ := List.getElem_of_mem ho
      have hjl : j < ops.size := by simpa using hj
      exact h.val j o d (by rw [← hjo]; simp [hjl]) (by simpa using hod) (hl j hjl)
    · rw [if_neg h1]
      refine h.keep d (List.all_eq_true.2 fun o ho => ?_)
      have : ¬ (o.dst == some d) = true := fun z => h1 (List.any_eq_true.2 ⟨o, ho, z⟩)
      simpa [bne] using this
  · rw [Array.getElem?_eq_none (by show t.size ≤ d; omega), Array.getElem?_eq_none (by rw [fill_size]; omega)]
/-- a call, then another one: as far as both are done -/
structure VP (w0 : World) (Md Fn : World → Prop) (z y : Nat) (listed : Array Bool) (w : World) : Prop where
  c0 : listed.getD z false = false → w = w0
  c1 : listed.getD z false = true → listed.getD y false = false → Md w
  c2 : listed.getD y false = true → Fn w ∧ listed.getD z false = true
section
variable {w0 w w' : World} {Md Fn : World → Prop} {z y : Nat} {listed : Array Bool}
theorem VP.q (h : VP w0 Md Fn z y listed w) {j : Nat} (hj : j < listed.size) (n1 : z ≠ j) (n2 : y ≠ j) : VP w0 Md Fn z y (listed.setIfInBounds j true) w :=
  ⟨fun a => h.c0 (by rwa [getD_set _ _ _ hj, if_neg n1] at a), fun a b => h.c1 (by rwa [getD_set _ _ _ hj, if_neg n1] at a) (by rwa [getD_set _ _ _ hj, if_neg n2] at b), fun a => by
    rw [getD_set _ _ _ hj, if_neg n2] at a
    rw [getD_set _ _ _ hj, if_neg n1]
    exact h.c2 a⟩
theorem VP.atz (h : VP w0 Md Fn z y listed w) (hl : listed.getD z false = false) : w = w0 ∧ listed.getD y false = false :=
  ⟨h.c0 hl, by cases e : listed.getD y false; rfl; have := (h.c2 e).2; rw [hl] at this; cases this⟩
theorem VP.doz (hj : z < listed.size) (hzy : y ≠ z) (hy : listed.getD y false = false) (hm : Md w') : VP w0 Md Fn z y (listed.setIfInBounds z true) w' :=
  ⟨fun a => (by rw [getD_set _ _ _ hj, if_pos rfl] at a; cases a), fun _ _ => hm, fun a => (by rw [getD_set _ _ _ hj, if_neg hzy, hy] at a; cases a)⟩
theorem VP.doy (hj : y < listed.size) (hzy : z ≠ y) (hz : listed.getD z false = true) (hm : Fn w') : VP w0 Md Fn z y (listed.setIfInBounds y true) w' :=
  ⟨fun a => (by rw [getD_set _ _ _ hj, if_neg hzy, hz] at a; cases a), fun _ a => (by rw [getD_set _ _ _ hj, if_pos rfl] at a; cases a), fun _ => ⟨hm, by rw [getD_set _ _ _ hj, if_neg hzy]; exact hz⟩⟩
end
/-- a call of three arguments as a step -/
theorem wp_c3 {P : Program} {ops : Array Oper} {Q : Exit → Act → World → Prop} {i : Nat} {o : Oper} {K : Act → World → Prop} {a : Act} {w : World} (ho : ops[i]? = some o) (hg : o.guard = none) (f : FuncId) (x y z : Operand) (ts : Array TypeId) (hop : o.op = .call { callee := .value (.func f), args := #[x, y, z], argTypes := ts }) (vx vy vz : Value) (hx : a.eval x = vx) (hy : a.eval y = vy) (hz : a.eval z = vz) (hnf : (callFunc f #[vx, vy, vz]).run P w = .ok (.enter f #[vx, vy, vz]) w) {R : Ending → World → Prop} (hc : Calls P f #[vx, vy, vz] w R)
    (h : ∀ e w', R e w' → ∃ v, e = .returned v ∧ K (a.put o.dst v) w') : wpOp P ops Q i K a w := by
  refine wpOp_step ho fun K' hK => ?_
  exact C.step_call3 (by simp [Region.wanted, hg]) f x y z ts hop vx vy vz hx hy hz hnf hc fun e w' hR => by
    obtain ⟨v, hv, hk⟩ := h e w' hR
    exact ⟨v, hv, hK _ _ hk⟩
theorem FrQ.swap {ops : Array Oper} {vt vt' : Nat → Value} {t0 : Array Value} {listed : Array Bool} {a : Act} (h : FrQ ops vt t0 listed a) (hv : ∀ j o d, ops[j]? = some o → o.dst = some d → listed.getD j false = true → vt d = vt' d) : FrQ ops vt' t0 listed a :=
  ⟨h.df, h.sz, h.ls, h.keep, fun j o d h1 h2 h3 => by rw [← hv j o d h1 h2 h3]; exact h.val j o d h1 h2 h3⟩
/-- a value that is told only when it is made -/
theorem wpAny_fx {α : Type} {P : Program} {ops : Array Oper} {Q : Exit → Act → World → Prop} {t0 : Array Value} {w : World} (vt : α → Nat → Value) (V : α → Array Bool → World → Prop)
    (step : ∀ listed a w x, FrQ ops (vt x) t0 listed a → V x listed w → ∀ i ∈ Region.ready .any ops listed, wpOp P ops Q i (fun a' w' => ∃ y, FrQ ops (vt y) t0 (listed.setIfInBounds i true) a' ∧ V y (listed.setIfInBounds i true) w') a w)
    (fin : ∀ listed a w x, FrQ ops (vt x) t0 listed a → V x listed w → Region.ready .any ops listed = [] → Q .normal a w) (x0 : α) (start : V x0 (Array.replicate ops.size false) w) :
    wpAny P .any ops Q ops.size (Array.replicate ops.size false) ⟨t0, []⟩ w :=
  C.wpAny_inv (fun listed fr wr => ∃ x, FrQ ops (vt x) t0 listed fr ∧ V x listed wr) (fun l a w ⟨x, h1, h2⟩ i hi => step l a w x h1 h2 i hi) (fun l a w ⟨x, h1, h2⟩ hr => fin l a w x h1 h2 hr) _ _ _ _ (by simp) ⟨x0, FrQ.start rfl, start⟩
theorem wp_c1 {P : Program} {ops : Array Oper} {Q : Exit → Act → World → Prop} {i : Nat} {o : Oper} {K : Act → World → Prop} {a : Act} {w : World} (ho : ops[i]? = some o) (hg : o.guard = none) (f : FuncId) (x : Operand) (ts : Array TypeId) (hop : o.op = .call { callee := .value (.func f), args := #[x], argTypes := ts }) (vx : Value) (hx : a.eval x = vx) (hnf : (callFunc f #[vx]).run P w = .ok (.enter f #[vx]) w) {R : Ending → World → Prop} (hc : Calls P f #[vx] w R)
    (h : ∀ e w', R e w' → ∃ v, e = .returned v ∧ K (a.put o.dst v) w') : wpOp P ops Q i K a w := by
  refine wpOp_step ho fun K' hK => ?_
  rw [if_pos (by simp [Region.wanted, hg])]
  have he : (execOp a.eval o).run P w = .ok (.enter f #[vx]) w := by
    have hf : a.eval (.func f) = .func (.func f) #[] #[] := rfl
    simp [execOp, hop, resolve, invoke, Deferred.ofValue, hf, hx, hnf]
  unfold Oper.wp
  rw [he, Oper.upon_enter]
  refine hc.mono fun e w' hR => ?_
  obtain ⟨v, rfl, hk⟩ := h e w' hR
  exact hK _ _ hk
/-- a call of 2 arguments as a step -/
theorem wp_c2 {P : Program} {ops : Array Oper} {Q : Exit → Act → World → Prop} {i : Nat} {o : Oper} {K : Act → World → Prop} {a : Act} {w : World} (ho : ops[i]? = some o) (hg : o.guard = none) (f : FuncId) (x y : Operand) (ts : Array TypeId) (hop : o.op = .call { callee := .value (.func f), args := #[x, y], argTypes := ts }) (vx vy : Value) (hx : a.eval x = vx) (hy : a.eval y = vy) (hnf : (callFunc f #[vx, vy]).run P w = .ok (.enter f #[vx, vy]) w) {R : Ending → World → Prop} (hc : Calls P f #[vx, vy] w R)
    (h : ∀ e w', R e w' → ∃ v, e = .returned v ∧ K (a.put o.dst v) w') : wpOp P ops Q i K a w := by
  refine wpOp_step ho fun K' hK => ?_
  rw [if_pos (by simp [Region.wanted, hg])]
  have he : (execOp a.eval o).run P w = .ok (.enter f #[vx, vy]) w := by
    have hf : a.eval (.func f) = .func (.func f) #[] #[] := rfl
    simp [execOp, hop, resolve, invoke, Deferred.ofValue, hf, hx, hy, hnf]
  unfold Oper.wp
  rw [he, Oper.upon_enter]
  refine hc.mono fun e w' hR => ?_
  obtain ⟨v, rfl, hk⟩ := h e w' hR
  exact hK _ _ hk
/-- what holds in the three worlds holds at each step -/
theorem VP.all {w0 w : World} {Md Fn : World → Prop} {z y : Nat} {listed : Array Bool} (h : VP w0 Md Fn z y listed w) {K : World → Prop} (k0 : K w0) (k1 : ∀ w, Md w → K w) (k2 : ∀ w, Fn w → K w) : K w := by
  cases ey : listed.getD y false
  · cases ez : listed.getD z false
    · rw [h.c0 ez]; exact k0
    · exact k1 _ (h.c1 ez ey)
  · exact k2 _ (h.c2 ey).1
end Go.Proofs.Ytdncendokbjnjaa
