/- Two spaces that know nothing of one another: what one maps leaves the other as it was. -/
import Derived.Test.YthfpoefpnoodiaaSW
import Derived.Test.YthfpoefpnoodiaaMH6
import Derived.Test.YthfpoefpnoodiaaCRC
namespace Go.Proofs.Ythfpoefpnoodiaa
open Go.RowKit
open C (Only hid Mem RMem Still ret_bool ret_int put byt rd8 lo nu c_Place gst rdmB)
set_option linter.unusedVariables false
set_option maxRecDepth 100000

/-- another space over the same memory -/
structure Oth (x : TX) (sb : SV) : Prop where
  iv : Inv sb x.v x.f
  ow : Ow sb x.v
  dj : ∀ y, x.s.tg y ≠ 0 → sb.tg y = 0
theorem Ow.own {s : SV} {v : PV} (h : Ow s v) {t : Nat} {x : Int} (h0 : v.o t = 0) : Ow s (v.own t x) := fun p hp => by
  have := h p hp
  show 1 ≤ upd v.o t x _
  rw [upd_other _ _ _ _ (fun e => by rw [e, h0] at this; omega)]
  exact this
section
variable {x : TX} {sb : SV} {p : Nat}
/-- a table in frame t, entered in a frame y of the first space's -/
theorem Oth.grow (h : Oth x sb) {t y i : Nat} {e : Int} {s' : SV} (ht : t < x.v.n) (h0 : x.v.o t = 0) (hy : x.s.tg y ≠ 0) (hi : i < 512) (hs : ∀ z, s'.tg z ≠ 0 → z = t ∨ x.s.tg z ≠ 0) : Oth ⟨s', x.v.own t (-1), w8 (clr x.f t) (4096 * y + 8 * i) e⟩ sb := by
  have hw := h.ow
  have i1 := h.iv.own ht h0 (x := -1) (.inr rfl) fun _ a ha e => by have := hw a ha; rw [e, h0] at this; omega
  have t0 := h.iv.notab (t := t) (by omega)
  have y0 := h.dj y hy
  refine ⟨i1.keep fun z hz j hj => ?_, hw.own h0, fun z hz => ?_⟩
  · have n1 : z ≠ y := fun e => hz (by rw [e]; exact y0)
    have n2 : z ≠ t := fun e => hz (by rw [e]; exact t0)
    show w8 (clr x.f t) (4096 * y + 8 * i) e (4096 * z + j) = _
    rw [w8_fr _ _ _ hi _ _ n1 _ hj, clr_fr _ _ _ n2 _ hj]
  · rcases hs z hz with e | e
    · subst e; exact t0
    · exact h.dj z e
theorem Oth.up1 (h : Oth x sb) (hi : Inv x.s x.v x.f) (hp : p < 134217728) (hc : x.s.k1 (p / 262144) = 0 → 0 < cnt x.v.o 0 x.v.n) : Oth (x.up1 p) sb := by
  by_cases hz : x.s.k1 (p / 262144) = 0
  · obtain ⟨h1, h2⟩ := cnt_pos (hc hz)
    rw [TX.up1_yes hz]
    refine h.grow h1 h2 (by rw [hi.root]; decide) (by omega) fun z hz' => ?_
    have hz2 : upd x.s.tg _ _ z ≠ 0 := hz'
    by_cases e : z = ff x.v.o x.v.n
    · exact .inl e
    · rw [upd_other _ _ _ _ e] at hz2; exact .inr hz2
  · rw [TX.up1_no hz]; exact h
theorem Oth.up0 (h : Oth x sb) (hi : Inv x.s x.v x.f) (hk : x.s.k1 (p / 262144) ≠ 0) (hc : x.s.k0 (p / 512) = 0 → 0 < cnt x.v.o 0 x.v.n) : Oth (x.up0 p) sb := by
  by_cases hz : x.s.k0 (p / 512) = 0
  · obtain ⟨h1, h2⟩ := cnt_pos (hc hz)
    rw [TX.up0_yes hz]
    refine h.grow h1 h2 (by have := (hi.a1 _ hk).2; omega) (Nat.mod_lt _ (by decide)) fun z hz' => ?_
    have hz2 : upd x.s.tg _ _ z ≠ 0 := hz'
    by_cases e : z = ff x.v.o x.v.n
    · exact .inl e
    · rw [upd_other _ _ _ _ e] at hz2; exact .inr hz2
  · rw [TX.up0_no hz]; exact h
theorem Oth.lf (h : Oth x sb) (hi : Inv x.s x.v x.f) (hk : x.s.k0 (p / 512) ≠ 0) (fr pm : Nat) : Oth (x.lf p fr pm) sb := by
  have y0 := h.dj _ (show x.s.tg (x.s.k0 (p / 512)) ≠ 0 by have := (hi.a0 _ hk).2; omega)
  refine ⟨h.iv.keep fun z hz j hj => ?_, h.ow, h.dj⟩
  have n1 : z ≠ x.s.k0 (p / 512) := fun e => hz (by rw [e]; exact y0)
  exact w8_fr _ _ _ (Nat.mod_lt _ (by decide)) _ _ n1 _ hj
/-- a page is mapped in the first -/
theorem Oth.map (h : Oth x sb) (hi : Inv x.s x.v x.f) (ok : x.v.Ok) (how : Ow x.s x.v) (hp : p < 134217728) (hc : dnL x.s p ≤ cnt x.v.o 0 x.v.n) (fr pm : Nat) : Oth (x.map p fr pm) sb := by
  unfold TX.map
  by_cases h1 : x.s.k1 (p / 262144) = 0
  · have hd : dnL x.s p = 2 := by unfold dnL; rw [if_pos h1]
    have hcp : 0 < cnt x.v.o 0 x.v.n := by omega
    obtain ⟨i1, -, d1, -⟩ := TX.step1 hi ok (how.ne hcp) hp h1 hcp
    have o1 := h.up1 hi hp (fun _ => hcp)
    have ok1 := ok.mon hcp
    have cn := own_cnt hcp
    rw [TX.up1_yes h1] at o1 ⊢
    obtain ⟨k1, k0, -⟩ := dnL_1 d1
    have hcp1 : 0 < cnt (x.v.own (ff x.v.o x.v.n) (-1)).o 0 (x.v.own (ff x.v.o x.v.n) (-1)).n := by show 0 < cnt _ 0 x.v.n; omega
    have how1 : Ow (x.s.add1 (p / 262144) (ff x.v.o x.v.n)) (x.v.own (ff x.v.o x.v.n) (-1)) := fun a ha => (how.own (cnt_pos hcp).2 a ha)
    have o0 := o1.up0 (p := p) i1 k1 (fun _ => hcp1)
    obtain ⟨i0, -, d0, -⟩ := TX.step0 (x := ⟨x.s.add1 (p / 262144) (ff x.v.o x.v.n), x.v.own (ff x.v.o x.v.n) (-1), w8 (clr x.f (ff x.v.o x.v.n)) (4096 * x.s.r + 8 * (p / 262144)) (tE x.v.b (ff x.v.o x.v.n))⟩) i1 ok1 (how1.ne hcp1) hp k1 k0 hcp1
    rw [TX.up0_yes (x := ⟨x.s.add1 (p / 262144) (ff x.v.o x.v.n), x.v.own (ff x.v.o x.v.n) (-1), w8 (clr x.f (ff x.v.o x.v.n)) (4096 * x.s.r + 8 * (p / 262144)) (tE x.v.b (ff x.v.o x.v.n))⟩) k0] at o0 ⊢
    exact o0.lf i0 (dnL_0 d0).2.1 fr pm
  · rw [TX.up1_no h1]
    by_cases h0 : x.s.k0 (p / 512) = 0
    · have hd : dnL x.s p = 1 := by unfold dnL; rw [if_neg h1, if_pos h0]
      have hcp : 0 < cnt x.v.o 0 x.v.n := by omega
      obtain ⟨i0, -, d0, -⟩ := TX.step0 hi ok (how.ne hcp) hp h1 h0 hcp
      have o0 := h.up0 (p := p) hi h1 (fun _ => hcp)
      rw [TX.up0_yes h0] at o0 ⊢
      exact o0.lf i0 (dnL_0 d0).2.1 fr pm
    · rw [TX.up0_no h0]; exact h.lf hi h0 fr pm
end
/-- whose the mapped frames are, and that the tables are apart -/
structure Apt (sa sb : SV) (v : PV) (ga gb : Int) : Prop where
  oa : ∀ p, sa.pp p ≠ 0 → v.o (sa.pf p) = ga
  ob : ∀ p, sb.pp p ≠ 0 → v.o (sb.pf p) = gb
  dj : ∀ y, sa.tg y ≠ 0 → sb.tg y = 0
theorem Apt.swap {sa sb : SV} {v : PV} {ga gb : Int} (h : Apt sa sb v ga gb) : Apt sb sa v gb ga := ⟨h.ob, h.oa, fun y hy => by
  rcases Nat.eq_zero_or_pos (sa.tg y) with z | z
  · exact z
  · exact absurd (h.dj y (by omega)) hy⟩
/-- what a pool keeps -/
structure Vs (v v' : PV) : Prop where
  m : v'.m = v.m
  b : v'.b = v.b
  n : v'.n = v.n
  o : ∀ y, y < v.n → v.o y ≠ 0 → v'.o y = v.o y
theorem Vs.refl (v : PV) : Vs v v := ⟨rfl, rfl, rfl, fun _ _ _ => rfl⟩
theorem Vs.trans {a b c : PV} (h : Vs a b) (k : Vs b c) : Vs a c := ⟨k.m.trans h.m, k.b.trans h.b, k.n.trans h.n, fun y hy ho => (k.o y (by rw [h.n]; exact hy) (by rw [h.o y hy ho]; exact ho)).trans (h.o y hy ho)⟩
theorem tw_Map (W w : World) (F : Nat → Prop) (ua ub : Value) (qa qb pl : Nat) (sa sb : SV) (v : PV) (f : Nat → Int) (va vb ga gb : Int) (h : TwS W w F ua ub qa qb pl sa sb v f va vb) (ap : Apt sa sb v ga gb) (g1 : 1 ≤ ga) (g2 : 1 ≤ gb) (p fr : Nat) (hp : p < 134217728) (hfr : fr < v.n) (hof : v.o fr = ga) :
    Calls Try.prog 22 #[.pointer (some ⟨qa, 0, none⟩), .int .u64 p, .int .i64 fr, .int .i64 6] w fun r w' => (∃ c, r = .returned (.int .i64 c)) ∧ ∃ F' ua' sa' v' f', TwS W w' F' ua' ub qa qb pl sa' sb v' f' va vb ∧ Apt sa' sb v' ga gb ∧ Vs v v' ∧ sa'.r = sa.r ∧ Only (Ar F ua qa) w w' ∧ ∀ k, Ar F' ua' qa k → Ar F ua qa k ∨ w.heap.size ≤ k := by
  have ok6 : okP 6 := .inr (.inl rfl)
  have harg : (decide ((p : Int) < 134217728) && decide (0 ≤ (fr : Int)) && decide ((fr : Int) < (v.n : Int)) && okPb ((6 : Nat) : Int)) = true := by
    rw [decide_eq_true (show (p : Int) < 134217728 by omega), decide_eq_true (show (0 : Int) ≤ fr by omega), decide_eq_true (show (fr : Int) < v.n by omega)]; rfl
  have keep : ∀ w', Below w.heap.size w w' → ∃ F' ua' sa' v' f', TwS W w' F' ua' ub qa qb pl sa' sb v' f' va vb ∧ Apt sa' sb v' ga gb ∧ Vs v v' ∧ sa'.r = sa.r ∧ Only (Ar F ua qa) w w' ∧ ∀ k, Ar F' ua' qa k → Ar F ua qa k ∨ w.heap.size ≤ k := fun w' hb => ⟨F, ua, sa, v, f, h.below hb, ap, Vs.refl v, rfl, .ofBelow hb, fun _ z => .inl z⟩
  by_cases hm : sa.pp p = 0
  · by_cases hc : dnL sa p ≤ cnt v.o 0 v.n
    · have how : Ow sa v := fun a ha => by rw [ap.oa a ha]; exact g1
      refine (x_Map w F ua qa pl sa v f va h.a p fr 6 hp hfr ok6 hm hc how (.inl (by rw [hof]; exact g1))).mono ?_
      rintro r w' ⟨rfl, F', u', k1, k2, k3⟩
      have hO := Oth.map (x := ⟨sa, v, f⟩) (sb := sb) ⟨h.b.iv, fun a ha => by show 1 ≤ v.o _; rw [ap.ob a ha]; exact g2, ap.dj⟩ h.a.iv h.a.pl.ok how hp hc fr 6
      have hv := map_v ⟨sa, v, f⟩ p fr 6
      have hpp := map_pp ⟨sa, v, f⟩ p fr 6
      have ho := map_o ⟨sa, v, f⟩ p fr 6
      refine ⟨⟨0, rfl⟩, F', u', _, _, _, h.turn k1 k2 k3 hv.2.2.1 hv.2.1 hO.iv, ⟨fun a ha => ?_, fun a ha => ?_, hO.dj⟩, ⟨hv.2.2.1, hv.2.1, hv.1, fun y hy h0 => ho y hy h0⟩, hv.2.2.2.2.2.2, k2, k3⟩
      · rw [hpp.1] at ha
        rw [hpp.2]
        by_cases e : a = p
        · rw [e, upd_same, ho fr hfr (by show v.o fr ≠ 0; omega)]; exact hof
        · rw [upd_other _ _ _ _ e] at ha
          have h5 := ap.oa a ha
          have h6 := (h.a.iv.ap a ha).2.2.1
          rw [upd_other _ _ _ _ e, ho _ h6 (by show v.o _ ≠ 0; rw [h5]; omega)]
          exact h5
      · have h5 := ap.ob a ha
        have h6 := (h.b.iv.ap a ha).2.2.1
        rw [ho _ h6 (by show v.o _ ≠ 0; rw [h5]; omega)]
        exact h5
    · have hL := r_leaf_no w F ua qa pl sa v f va h.a (p : Int) (by omega) hm
      have hT := t_map_full w qa v.m v.n pl (cnt v.o 0 v.n) (dnL sa p) (p : Int) (fr : Int) ((6 : Nat) : Int) (v.b + (dnO sa p : Nat)) (by omega) (by decide) (by decide) h.a.sq.c0 (r_Frames w F ua qa pl sa v f va h.a) harg hL (fun w1 hb => ⟨r_down w1 F ua qa pl sa v f va (h.a.below hb) p hp, (h.a.below hb).sq.c2, r_Count w1 F ua qa pl sa v f va (h.a.below hb) 0⟩)
      exact hT.mono fun r w' hQ => ⟨⟨10, hQ.1⟩, keep w' hQ.2⟩
  · have hT := t_map_mapped w qa v.m v.n (p : Int) (fr : Int) ((6 : Nat) : Int) _ _ (by decide) (by decide) h.a.sq.c0 (r_Frames w F ua qa pl sa v f va h.a) harg (r_leaf_yes w F ua qa pl sa v f va h.a p hm)
    exact hT.mono fun r w' hQ => ⟨⟨20, hQ.1⟩, keep w' hQ.2⟩
end Go.Proofs.Ythfpoefpnoodiaa
namespace Go.Proofs.Ythfpoefpnoodiaa
open Go.RowKit
open C (Only hid Mem RMem Still ret_bool ret_int put byt rd8 lo nu c_Place gst rdmB Sl)
set_option linter.unusedVariables false
set_option maxRecDepth 100000

/-- a frame's owner has changed by a guest's take: both spaces stand -/
theorem tw_Take (W w : World) (F : Nat → Prop) (ua ub : Value) (qa qb pl : Nat) (sa sb : SV) (v : PV) (f : Nat → Int) (va vb : Int) (h : TwS W w F ua ub qa qb pl sa sb v f va vb) (x : Int) (hx : may x = true) (hx1 : 1 ≤ x) (hc : 0 < cnt v.o 0 v.n) :
    Calls Try.prog 26 #[.pointer (some ⟨pl, 0, none⟩), .int .i64 x] w fun r w' => r = .returned (.tuple #[.int .i64 (ff v.o v.n : Nat), .int .i64 0]) ∧ TwS W w' F ua ub qa qb pl sa sb (v.own (ff v.o v.n) x) f va vb ∧ Only F w w' := by
  refine (x_TakeS w F ua qa pl sa v f va h.a x hx hx1 hc).mono ?_
  rintro r w' ⟨rfl, k1, k2⟩
  obtain ⟨h1, h2⟩ := cnt_pos hc
  exact ⟨rfl, h.turn k1 (k2.mono fun k _ hk => .inl hk) (fun _ z => .inl z) rfl rfl (h.b.iv.own h1 h2 (.inl hx1) fun e => by omega), k2⟩
/-- the law's own lists of frames -/
structure OwL (w : World) (go b0 b1 c0 c1 : Nat) : Prop where
  top : w.heap[go]? = some (.cells #[.slice (some ⟨b0, 0, none⟩) 3 c0, .slice (some ⟨b1, 0, none⟩) 3 c1] 113 (0, 0))
  l0 : ∃ cur, w.heap[b0]? = some (.cells cur 3 (0, 0)) ∧ ∀ i, i < 3 → cur[i]? = some (.int .i64 ((3 + 2 * i : Nat) : Int))
  l1 : ∃ cur, w.heap[b1]? = some (.cells cur 3 (0, 0)) ∧ ∀ i, i < 3 → cur[i]? = some (.int .i64 ((4 + 2 * i : Nat) : Int))
  le0 : 3 ≤ c0
  le1 : 3 ≤ c1
theorem OwL.only {w w' : World} {go b0 b1 c0 c1 : Nat} (h : OwL w go b0 b1 c0 c1) {T : Nat → Prop} (ho : Only T w w') (h1 : ¬ T go) (h2 : ¬ T b0) (h3 : ¬ T b1) : OwL w' go b0 b1 c0 c1 := by
  obtain ⟨cur0, a0, a1⟩ := h.l0
  obtain ⟨cur1, a2, a3⟩ := h.l1
  exact ⟨ho.old h.top h1, ⟨cur0, ho.old a0 h2, a1⟩, ⟨cur1, ho.old a2 h3, a3⟩, h.le0, h.le1⟩
theorem OwL.below {w w' : World} {go b0 b1 c0 c1 : Nat} (h : OwL w go b0 b1 c0 c1) (hb : Below w.heap.size w w') : OwL w' go b0 b1 c0 c1 := h.only (T := fun _ => False) (.ofBelow hb) (fun z => z) (fun z => z) fun z => z
theorem OwL.c (w : World) {go b0 b1 c0 c1 : Nat} (h : OwL w go b0 b1 c0 c1) : w.cell? ⟨go, 0, none⟩ = some (.slice (some ⟨b0, 0, none⟩) 3 c0) ∧ w.cell? ⟨go, 1, none⟩ = some (.slice (some ⟨b1, 0, none⟩) 3 c1) ∧ (∀ i, i < 3 → w.cell? ⟨b0, i, none⟩ = some (.int .i64 ((3 + 2 * i : Nat) : Int))) ∧ ∀ i, i < 3 → w.cell? ⟨b1, i, none⟩ = some (.int .i64 ((4 + 2 * i : Nat) : Int)) := by
  obtain ⟨cur0, a0, a1⟩ := h.l0
  obtain ⟨cur1, a2, a3⟩ := h.l1
  exact ⟨cell_of_row w go 0 _ _ _ h.top, cell_of_row w go 1 _ _ _ h.top, fun i hi => (cell_of_row w b0 i _ _ _ a0).trans (a1 i hi), fun i hi => (cell_of_row w b1 i _ _ _ a2).trans (a3 i hi)⟩
/-- the owners when k pairs have been taken -/
def vk (m : Nat) : Nat → PV
  | 0 => spV m
  | k + 1 => ((vk m k).own (3 + 2 * k) 1).own (4 + 2 * k) 2
theorem vk_n (m k : Nat) : (vk m k).n = 16 ∧ (vk m k).m = m ∧ (vk m k).b = 0 := by
  induction k with
  | zero => exact ⟨rfl, rfl, rfl⟩
  | succ k ih => exact ih
theorem vk_ff0 (m : Nat) : ff (vk m 0).o 16 = 3 ∧ ff (vk m 1).o 16 = 5 ∧ ff (vk m 2).o 16 = 7 := by refine ⟨?_, ?_, ?_⟩ <;> kernel_rfl
theorem vk_ff1 (m : Nat) : ff ((vk m 0).own 3 1).o 16 = 4 ∧ ff ((vk m 1).own 5 1).o 16 = 6 ∧ ff ((vk m 2).own 7 1).o 16 = 8 := by refine ⟨?_, ?_, ?_⟩ <;> kernel_rfl
theorem vk_c0 (m : Nat) : cnt (vk m 0).o 0 16 = 13 ∧ cnt (vk m 1).o 0 16 = 11 ∧ cnt (vk m 2).o 0 16 = 9 := by refine ⟨?_, ?_, ?_⟩ <;> kernel_rfl
theorem vk_c1 (m : Nat) : cnt ((vk m 0).own 3 1).o 0 16 = 12 ∧ cnt ((vk m 1).own 5 1).o 0 16 = 10 ∧ cnt ((vk m 2).own 7 1).o 0 16 = 8 := by refine ⟨?_, ?_, ?_⟩ <;> kernel_rfl
/-- both takes of a round -/
theorem tw_pair (W w : World) (F : Nat → Prop) (ua ub : Value) (qa qb pl m k : Nat) (sa sb : SV) (f : Nat → Int) (h : TwS W w F ua ub qa qb pl sa sb (vk m k) f 1 2) (hk : k < 3) :
    Calls Try.prog 26 #[.pointer (some ⟨pl, 0, none⟩), .int .i64 1] w fun r w1 => r = .returned (.tuple #[.int .i64 ((3 + 2 * k : Nat) : Int), .int .i64 0]) ∧ Only F w w1 ∧
      Calls Try.prog 26 #[.pointer (some ⟨pl, 0, none⟩), .int .i64 2] w1 fun r w2 => r = .returned (.tuple #[.int .i64 ((4 + 2 * k : Nat) : Int), .int .i64 0]) ∧ TwS W w2 F ua ub qa qb pl sa sb (vk m (k + 1)) f 1 2 ∧ Only F w1 w2 := by
  have hn := (vk_n m k).1
  have c0 : 0 < cnt (vk m k).o 0 16 ∧ ff (vk m k).o 16 = 3 + 2 * k := by
    have h1 := vk_c0 m
    have h2 := vk_ff0 m
    rcases (show k = 0 ∨ k = 1 ∨ k = 2 by omega) with rfl | rfl | rfl
    · exact ⟨by rw [h1.1]; decide, h2.1⟩
    · exact ⟨by rw [h1.2.1]; decide, h2.2.1⟩
    · exact ⟨by rw [h1.2.2]; decide, h2.2.2⟩
  have c1 : 0 < cnt ((vk m k).own (3 + 2 * k) 1).o 0 16 ∧ ff ((vk m k).own (3 + 2 * k) 1).o 16 = 4 + 2 * k := by
    have h1 := vk_c1 m
    have h2 := vk_ff1 m
    rcases (show k = 0 ∨ k = 1 ∨ k = 2 by omega) with rfl | rfl | rfl
    · exact ⟨by rw [h1.1]; decide, h2.1⟩
    · exact ⟨by rw [h1.2.1]; decide, h2.2.1⟩
    · exact ⟨by rw [h1.2.2]; decide, h2.2.2⟩
  have h1 := tw_Take W w F ua ub qa qb pl sa sb (vk m k) f 1 2 h 1 rfl (by decide) (by rw [hn]; exact c0.1)
  rw [hn, c0.2] at h1
  refine h1.mono ?_
  rintro r w1 ⟨rfl, k1, k2⟩
  have h2 := tw_Take W w1 F ua ub qa qb pl sa sb ((vk m k).own (3 + 2 * k) 1) f 1 2 k1 2 rfl (by decide) (by show 0 < cnt _ 0 (vk m k).n; rw [hn]; exact c1.1)
  rw [show ((vk m k).own (3 + 2 * k) 1).n = 16 from hn, c1.2] at h2
  exact ⟨rfl, k2, h2⟩
theorem vk_o (m : Nat) : (∀ i, i < 3 → (vk m 3).o (3 + 2 * i) = 1) ∧ (∀ i, i < 3 → (vk m 3).o (4 + 2 * i) = 2) := by
  refine ⟨fun i hi => ?_, fun i hi => ?_⟩ <;> rcases (show i = 0 ∨ i = 1 ∨ i = 2 by omega) with rfl | rfl | rfl <;> rfl
/-- what a guest's number turns: frames that are not mapped stay -/
theorem wG_far (s : SV) (f : Nat → Int) (a : Nat) (x : Int) (y : Nat) : ∀ n, (∀ i, i < n → s.pf ((a + i) / 4096) ≠ y) → ∀ j, j < 4096 → wG s f a x n (4096 * y + j) = f (4096 * y + j)
  | 0, _, j, hj => rfl
  | n + 1, h, j, hj => by
    show put (wG s f a x n) (po s (a + n)) 1 _ (4096 * y + j) = _
    rw [C.put_out _ _ _ _ _ (by have := h n (by omega); unfold po; omega)]
    exact wG_far s f a x y n (fun i hi => h i (by omega)) j hj
end Go.Proofs.Ythfpoefpnoodiaa
namespace Go.Proofs.Ythfpoefpnoodiaa
open Go.RowKit
open C (Only hid Mem RMem Still ret_bool ret_int put byt rd8 lo nu c_Place gst rdmB Sl)
set_option linter.unusedVariables false
set_option maxRecDepth 100000

def lsE (a k : Nat) : List Nat := (List.range k).map fun i => a + 2 * i
theorem lsE_add (a k : Nat) : lsE a (k + 1) = lsE a k ++ [a + 2 * k] := by simp [lsE, List.range_succ]
theorem lsE_len (a k : Nat) : (lsE a k).length = k := by simp [lsE]
theorem lsE_at (a k i : Nat) (h : i < k) : (lsv (lsE a k))[i]? = some (.int .i64 ((a + 2 * i : Nat) : Int)) := by unfold lsv lsE; simp [h]
/-- how far the lists have come -/
structure Lp (W w : World) (F : Nat → Prop) (ua ub : Value) (qa qb p m dm tb go B0 k : Nat) (u0 u1 : Value) : Prop where
  tw : TwS W w F ua ub qa qb p (s0 1) (s0 2) (vk m k) spF 1 2
  top : w.heap[go]? = some (.cells #[u0, u1] 113 (0, 0))
  tab : w.heap[tb]? = some (.cells #[.pointer (some ⟨m, 0, none⟩), .pointer (some ⟨dm, 0, none⟩)] 31 (0, 0))
  l0 : w.ownsRow 0 3 1 u0 k (lsv (lsE 3 k))
  l1 : w.ownsRow 0 3 1 u1 k (lsv (lsE 4 k))
  g0 : ∀ x, Ug u0 x → B0 ≤ x
  g1 : ∀ x, Ug u1 x → B0 ≤ x
  dj : ∀ x, Ug u0 x → ¬ Ug u1 x
  lt : ∀ x, Ar F ua qa x ∨ Ar F ub qb x → x < B0
  gB : go < B0
  tB : tb < B0
  zB : B0 ≤ w.heap.size
  gw : W.heap.size ≤ go
section
variable {W w w' w3 : World} {F : Nat → Prop} {ua ub : Value} {qa qb p m dm tb go B0 k : Nat} {u0 u1 u' : Value}
theorem Lp.gn (h : Lp W w F ua ub qa qb p m dm tb go B0 k u0 u1) {x : Nat} (hx : Ar F ua qa x ∨ Ar F ub qb x) : x ≠ go := fun e => by
  subst e
  rcases hx with hx | hx
  · rcases hx with z | z | z
    · exact h.tw.a.pl.ne h.top rfl z
    · have := h.tw.a.sq; unfold Sq at this; rw [← z, h.top] at this; simp at this
    · obtain ⟨c, hc⟩ := own_typ h.tw.a.ls z; rw [h.top] at hc; simp at hc
  · rcases hx with z | z | z
    · exact h.tw.b.pl.ne h.top rfl z
    · have := h.tw.b.sq; unfold Sq at this; rw [← z, h.top] at this; simp at this
    · obtain ⟨c, hc⟩ := own_typ h.tw.b.ls z; rw [h.top] at hc; simp at hc
end
theorem TwS.onlyQ {W w w' : World} {F : Nat → Prop} {ua ub : Value} {qa qb p : Nat} {sa sb : SV} {v : PV} {f : Nat → Int} {va vb : Int} (h : TwS W w F ua ub qa qb p sa sb v f va vb) {T : Nat → Prop} (ho : Only T w w') (hd : ∀ x, Ar F ua qa x ∨ Ar F ub qb x → ¬ T x) (hT : ∀ x, T x → W.heap.size ≤ x) : TwS W w' F ua ub qa qb p sa sb v f va vb :=
  ⟨h.a.only ho fun k hk => hd k (.inl hk), h.b.only ho fun k hk => hd k (.inr hk), h.q, h.u, h.new.trans (ho.below _ h.new.size hT), h.own⟩
theorem lsv_lsE (a k : Nat) (V : Int) (hV : V = ((a + 2 * k : Nat) : Int)) : lsv (lsE a k) ++ [.int .i64 V] = lsv (lsE a (k + 1)) := by rw [lsE_add, hV]; simp [lsv]
theorem app_mid {w wn : World} {u V : Value} {g : Nat} (hg : (w.alloc (.cells #[V] 3)).grownBy wn u.ownBlock) (hlt : g < w.heap.size) (hn : ¬ Ug u g) : wn.heap[g]? = w.heap[g]? ∧ Only (Ug u) w wn :=
  have ho : Only (Ug u) w wn := (Only.ofBelow ((Below.refl _ _).alloc (Nat.le_refl _) _)).trans (grown_ug hg)
  ⟨ho.block g hlt hn, ho⟩
theorem app_end {w wn : World} {u u' V : Value} {g j n : Nat} {cs cs' : Array Value} {xs : List Value} (hm : wn.heap[g]? = w.heap[g]? ∧ Only (Ug u) w wn) (ht : w.heap[g]? = some (.cells cs 113 (0, 0))) (hs : cs.setIfInBounds j u' = cs') (hown : wn.ownsRow 0 3 1 u' n xs) (hb : ∀ k, u'.ownBlock = some k → u.ownBlock = some k ∨ (w.alloc (.cells #[V] 3)).heap.size ≤ k) :
    (wn.setCell ⟨g, j, none⟩ u').heap[g]? = some (.cells cs' 113 (0, 0)) ∧ (wn.setCell ⟨g, j, none⟩ u').ownsRow 0 3 1 u' n xs ∧ Only (fun x => x = g ∨ Ug u x) w (wn.setCell ⟨g, j, none⟩ u') ∧ ∀ k, Ug u' k → Ug u k ∨ w.heap.size ≤ k := by
  have tn := hm.1.trans ht
  refine ⟨setRowB wn g j _ _ _ _ tn hs, own_only hown (T := (· = g)) (only_c _ _ _ _) fun k hk e => ?_, (hm.2.mono fun k _ hk => .inr hk).setCell (.inl (.inl rfl)) _, fun k hk => (hb k hk).imp id fun z => ?_⟩
  · subst e
    obtain ⟨cur, hk'⟩ := own_typ hown hk
    rw [tn] at hk'
    simp at hk'
  · have e : (w.alloc (.cells #[V] 3)).heap.size = w.heap.size + 1 := by simp
    omega
theorem Lp.next {W w w3 w4 w5 : World} {F : Nat → Prop} {ua ub : Value} {qa qb p m dm tb go B0 k : Nat} {u0 u1 u0' u1' : Value} (h : Lp W w F ua ub qa qb p m dm tb go B0 k u0 u1) (ht : TwS W w3 F ua ub qa qb p (s0 1) (s0 2) (vk m (k + 1)) spF 1 2) (hF : Only F w w3) (o4 : Only (fun x => x = go ∨ Ug u0 x) w3 w4) (o5 : Only (fun x => x = go ∨ Ug u1 x) w4 w5) (cs : Array Value) (t4 : w4.heap[go]? = some (.cells cs 113 (0, 0))) (t5 : w5.heap[go]? = some (.cells #[u0', u1'] 113 (0, 0)))
    (l0 : w4.ownsRow 0 3 1 u0' (k + 1) (lsv (lsE 3 (k + 1)))) (l1 : w5.ownsRow 0 3 1 u1' (k + 1) (lsv (lsE 4 (k + 1)))) (b0 : ∀ x, Ug u0' x → Ug u0 x ∨ w3.heap.size ≤ x) (b1 : ∀ x, Ug u1' x → Ug u1 x ∨ w4.heap.size ≤ x) : Lp W w5 F ua ub qa qb p m dm tb go B0 (k + 1) u0' u1' := by
  have nF : ∀ x c t, w.heap[x]? = some (.cells c t (0, 0)) → tyF t = false → ¬ F x := fun x c t hx ht => h.tw.a.pl.ne hx ht
  have s3 := hF.size
  have s4 := o4.size
  have s5 := o5.size
  have zB := h.zB
  have gB := h.gB
  have tB := h.tB
  have gw := h.gw
  have lu0 : ∀ x, Ug u0 x → x < w.heap.size := fun x hx => by obtain ⟨c, hc⟩ := own_typ h.l0 hx; exact lt_of_block hc
  have lu1 : ∀ x, Ug u1 x → x < w.heap.size := fun x hx => by obtain ⟨c, hc⟩ := own_typ h.l1 hx; exact lt_of_block hc
  have lu0' : ∀ x, Ug u0' x → x < w4.heap.size := fun x hx => by obtain ⟨c, hc⟩ := own_typ l0 hx; exact lt_of_block hc
  have ng : ∀ x, Ug u0' x → x ≠ go := fun x hx e => by subst e; obtain ⟨c, hc⟩ := own_typ l0 hx; rw [t4] at hc; simp at hc
  have o45 : Only (fun x => x = go ∨ Ug u0 x ∨ Ug u1 x) w3 w5 := (o4.mono fun x _ hx => hx.imp id .inl).trans (o5.mono fun x _ hx => hx.imp id .inr)
  have tb3 := hF.old h.tab (nF _ _ _ h.tab rfl)
  refine ⟨ht.onlyQ o45 (fun x hx => ?_) (fun x hx => ?_), t5, o45.old tb3 fun e => ?_, own_only l0 o5 fun x hx e => ?_, l1, fun x hx => ?_, fun x hx => ?_, fun x h1 h2 => ?_, h.lt, gB, tB, by omega, gw⟩
  · have lx := h.lt x hx
    rintro (e | e | e)
    · exact h.gn hx e
    · have := h.g0 x e; omega
    · have := h.g1 x e; omega
  · rcases hx with e | e | e
    · omega
    · have := h.g0 x e; omega
    · have := h.g1 x e; omega
  · rcases e with e | e | e
    · have t := h.tab; rw [e, h.top] at t; simp at t
    · have := h.g0 _ e; omega
    · have := h.g1 _ e; omega
  · rcases e with e | e
    · exact ng x hx e
    · rcases b0 x hx with z | z
      · exact h.dj x z e
      · have := lu1 x e; omega
  · rcases b0 x hx with z | z
    · exact h.g0 x z
    · omega
  · rcases b1 x hx with z | z
    · exact h.g1 x z
    · omega
  · rcases b1 x h2 with z | z
    · rcases b0 x h1 with y | y
      · exact h.dj x y z
      · have := lu1 x z; omega
    · have := lu0' x h1; omega
theorem own_three {w : World} {a : Nat} {u : Value} (h : w.ownsRow 0 3 1 u 3 (lsv (lsE a 3))) : ∃ b c cur, u = .slice (some ⟨b, 0, none⟩) 3 c ∧ 3 ≤ c ∧ c ≤ 9223372036854775807 ∧ w.heap[b]? = some (.cells cur 3 (0, 0)) ∧ ∀ i, i < 3 → cur[i]? = some (.int .i64 ((a + 2 * i : Nat) : Int)) := by
  rcases h.2 with ⟨-, h2⟩ | ⟨g, cap, cur, h1, h2, h3, h4, h5, h6, h7⟩
  · cases h2
  · refine ⟨g, cap, cur, h1, h4, h5, h3, fun i hi => ?_⟩
    have e := lsE_at a 3 i hi
    rw [← h7, List.getElem?_take] at e
    simpa [hi] using e
/-- the two spaces and the law's lists -/
structure Ap (W w : World) (F : Nat → Prop) (ua ub : Value) (qa qb p m dm tb go b0 b1 c0 c1 : Nat) (sa sb : SV) (v : PV) (f : Nat → Int) : Prop where
  tw : TwS W w F ua ub qa qb p sa sb v f 1 2
  ap : Apt sa sb v 1 2
  vs : Vs (vk m 3) v
  ol : OwL w go b0 b1 c0 c1
  tab : w.heap[tb]? = some (.cells #[.pointer (some ⟨m, 0, none⟩), .pointer (some ⟨dm, 0, none⟩)] 31 (0, 0))
  far : ∀ x, x = go ∨ x = b0 ∨ x = b1 ∨ x = tb → ¬ (Ar F ua qa x ∨ Ar F ub qb x)
  sr : sb.r = 2
theorem Lp.fin {W w : World} {F : Nat → Prop} {ua ub : Value} {qa qb p m dm tb go B0 : Nat} {u0 u1 : Value} (h : Lp W w F ua ub qa qb p m dm tb go B0 3 u0 u1) : ∃ b0 b1 c0 c1, c0 ≤ 9223372036854775807 ∧ c1 ≤ 9223372036854775807 ∧ Ap W w F ua ub qa qb p m dm tb go b0 b1 c0 c1 (s0 1) (s0 2) (vk m 3) spF := by
  obtain ⟨b0, c0, cur0, rfl, x1, x2, x3, x4⟩ := own_three h.l0
  obtain ⟨b1, c1, cur1, rfl, y1, y2, y3, y4⟩ := own_three h.l1
  refine ⟨b0, b1, c0, c1, x2, y2, h.tw, ⟨fun p hp => absurd rfl hp, fun p hp => absurd rfl hp, fun y hy => ?_⟩, Vs.refl _, ⟨h.top, ⟨cur0, x3, x4⟩, ⟨cur1, y3, y4⟩, x1, y1⟩, h.tab, fun x hx hA => ?_, rfl⟩
  · show upd (fun _ => 0) 2 1 y = 0
    by_cases e : y = 2
    · subst e; exact absurd rfl hy
    · exact upd_other _ _ _ _ e
  · have lx := h.lt x hA
    rcases hx with e | e | e | e
    · exact h.gn hA e
    · have := h.g0 x (by rw [e]; rfl); omega
    · have := h.g1 x (by rw [e]; rfl); omega
    · have T := h.tab
      rw [← e] at T
      rcases hA with z | z
      · rcases z with z | z | z
        · exact h.tw.a.pl.ne T rfl z
        · have := h.tw.a.sq; unfold Sq at this; rw [← z, T] at this; simp at this
        · obtain ⟨c, hc⟩ := own_typ h.tw.a.ls z; rw [T] at hc; simp at hc
      · rcases z with z | z | z
        · exact h.tw.b.pl.ne T rfl z
        · have := h.tw.b.sq; unfold Sq at this; rw [← z, T] at this; simp at this
        · obtain ⟨c, hc⟩ := own_typ h.tw.b.ls z; rw [T] at hc; simp at hc
section
variable {W w w' : World} {F F' : Nat → Prop} {ua ub ua' ub' : Value} {qa qb p m dm tb go b0 b1 c0 c1 : Nat} {sa sb sa' sb' : SV} {v v' : PV} {f f' : Nat → Int}
theorem Ap.lt (h : Ap W w F ua ub qa qb p m dm tb go b0 b1 c0 c1 sa sb v f) {x : Nat} (hx : x = go ∨ x = b0 ∨ x = b1 ∨ x = tb) : x < w.heap.size := by
  obtain ⟨cur0, a0, a1⟩ := h.ol.l0
  obtain ⟨cur1, a2, a3⟩ := h.ol.l1
  rcases hx with e | e | e | e
  · rw [e]; exact lt_of_block h.ol.top
  · rw [e]; exact lt_of_block a0
  · rw [e]; exact lt_of_block a2
  · rw [e]; exact lt_of_block h.tab
theorem Ap.turn (h : Ap W w F ua ub qa qb p m dm tb go b0 b1 c0 c1 sa sb v f) (ht : TwS W w' F' ua' ub' qa qb p sa' sb' v' f' 1 2) (ap : Apt sa' sb' v' 1 2) (vs : Vs v v') (hr : sb'.r = sb.r) {T : Nat → Prop} (ho : Only T w w') (hT : ∀ x, T x → Ar F ua qa x ∨ Ar F ub qb x) (hn : ∀ x, Ar F' ua' qa x ∨ Ar F' ub' qb x → (Ar F ua qa x ∨ Ar F ub qb x) ∨ w.heap.size ≤ x) : Ap W w' F' ua' ub' qa qb p m dm tb go b0 b1 c0 c1 sa' sb' v' f' :=
  have nT : ∀ x, x = go ∨ x = b0 ∨ x = b1 ∨ x = tb → ¬ T x := fun x hx ht => h.far x hx (hT x ht)
  ⟨ht, ap, h.vs.trans vs, h.ol.only ho (nT _ (.inl rfl)) (nT _ (.inr (.inl rfl))) (nT _ (.inr (.inr (.inl rfl)))), ho.old h.tab (nT _ (.inr (.inr (.inr rfl)))), fun x hx hA => (hn x hA).elim (h.far x hx) fun z => by have := h.lt hx; omega, hr.trans h.sr⟩
theorem Ap.below (h : Ap W w F ua ub qa qb p m dm tb go b0 b1 c0 c1 sa sb v f) (hb : Below w.heap.size w w') : Ap W w' F ua ub qa qb p m dm tb go b0 b1 c0 c1 sa sb v f :=
  h.turn (h.tw.below hb) h.ap (Vs.refl v) rfl (T := fun _ => False) (.ofBelow hb) (fun _ z => z.elim) fun _ z => .inl z
theorem Ap.dn (h : Ap W w F ua ub qa qb p m dm tb go b0 b1 c0 c1 sa sb v f) (n : Nat) : Ap W (w.drewN n) F ua ub qa qb p m dm tb go b0 b1 c0 c1 sa sb v f := h.below (below_dn (Below.refl _ _) n)
theorem Vs.at (h : Vs (vk m 3) v) : v.n = 16 ∧ v.m = m ∧ v.b = 0 ∧ (∀ i, i < 3 → v.o (3 + 2 * i) = 1) ∧ ∀ i, i < 3 → v.o (4 + 2 * i) = 2 := by
  have e := vk_n m 3
  have o := vk_o m
  refine ⟨h.n.trans e.1, h.m.trans e.2.1, h.b.trans e.2.2, fun i hi => ?_, fun i hi => ?_⟩
  · rw [h.o _ (by rw [e.1]; omega) (by rw [o.1 i hi]; decide), o.1 i hi]
  · rw [h.o _ (by rw [e.1]; omega) (by rw [o.2 i hi]; decide), o.2 i hi]
theorem ap_MapA (h : Ap W w F ua ub qa qb p m dm tb go b0 b1 c0 c1 sa sb v f) (a i : Nat) (ha : a < 134217728) (hi : i < 3) : Calls Try.prog 22 #[.pointer (some ⟨qa, 0, none⟩), .int .u64 a, .int .i64 ((3 + 2 * i : Nat) : Int), .int .i64 6] w fun r w' => (∃ c, r = .returned (.int .i64 c)) ∧ ∃ F' ua' ub' sa' sb' v' f', Ap W w' F' ua' ub' qa qb p m dm tb go b0 b1 c0 c1 sa' sb' v' f' := by
  have hv := h.vs.at
  refine (tw_Map W w F ua ub qa qb p sa sb v f 1 2 1 2 h.tw h.ap (by decide) (by decide) a (3 + 2 * i) ha (by rw [hv.1]; omega) (hv.2.2.2.1 i hi)).mono ?_
  rintro r w' ⟨hr, F', ua', sa', v', f', h1, h2, h3, h4, h5, h6⟩
  refine ⟨hr, F', ua', ub, sa', sb, v', f', h.turn h1 h2 h3 rfl h5 (fun x hx => .inl hx) fun x hx => ?_⟩
  rcases hx with z | z | z | z
  · exact (h6 x z).imp .inl id
  · exact (h6 x (.inl z)).imp .inl id
  · exact .inl (.inr (.inr (.inl z)))
  · exact .inl (.inr (.inr (.inr z)))
theorem ap_MapB (h : Ap W w F ua ub qa qb p m dm tb go b0 b1 c0 c1 sa sb v f) (a i : Nat) (ha : a < 134217728) (hi : i < 3) : Calls Try.prog 22 #[.pointer (some ⟨qb, 0, none⟩), .int .u64 a, .int .i64 ((4 + 2 * i : Nat) : Int), .int .i64 6] w fun r w' => (∃ c, r = .returned (.int .i64 c)) ∧ ∃ F' ua' ub' sa' sb' v' f', Ap W w' F' ua' ub' qa qb p m dm tb go b0 b1 c0 c1 sa' sb' v' f' := by
  have hv := h.vs.at
  refine (tw_Map W w F ub ua qb qa p sb sa v f 2 1 2 1 h.tw.swap h.ap.swap (by decide) (by decide) a (4 + 2 * i) ha (by rw [hv.1]; omega) (hv.2.2.2.2 i hi)).mono ?_
  rintro r w' ⟨hr, F', ub', sb', v', f', h1, h2, h3, h4, h5, h6⟩
  refine ⟨hr, F', ua, ub', sa, sb', v', f', h.turn h1.swap h2.swap h3 h4 h5 (fun x hx => .inr hx) fun x hx => ?_⟩
  rcases hx with (z | z | z) | z
  · exact (h6 x (.inl z)).imp .inr id
  · exact .inl (.inl (.inr (.inl z)))
  · exact .inl (.inl (.inr (.inr z)))
  · exact (h6 x z).imp .inr id
end
/-- the spaces, and a copy of the memory as it was -/
structure Aw (W w : World) (F : Nat → Prop) (ua ub : Value) (qa qb p m dm tb go b0 b1 c0 c1 : Nat) (sa sb : SV) (v : PV) (f : Nat → Int) (S : Nat → Prop) (pw : Nat) (f0 : Nat → Int) : Prop where
  ap : Ap W w F ua ub qa qb p m dm tb go b0 b1 c0 c1 sa sb v f
  mem : Mem w S pw 0 16 f0
  dj : ∀ k, S k → ¬ F k
  eq : ∀ y, v.o y ≠ 1 → ∀ j, j < 4096 → f (4096 * y + j) = f0 (4096 * y + j)
section
variable {W w w' : World} {F F' : Nat → Prop} {ua ub ua' ub' : Value} {qa qb p m dm tb go b0 b1 c0 c1 : Nat} {sa sb sa' sb' : SV} {v v' : PV} {f f' : Nat → Int} {S : Nat → Prop} {pw : Nat} {f0 : Nat → Int}
theorem Aw.below (h : Aw W w F ua ub qa qb p m dm tb go b0 b1 c0 c1 sa sb v f S pw f0) (hb : Below w.heap.size w w') : Aw W w' F ua ub qa qb p m dm tb go b0 b1 c0 c1 sa sb v f S pw f0 := ⟨h.ap.below hb, h.mem.below hb, h.dj, h.eq⟩
theorem Aw.dn (h : Aw W w F ua ub qa qb p m dm tb go b0 b1 c0 c1 sa sb v f S pw f0) (n : Nat) : Aw W (w.drewN n) F ua ub qa qb p m dm tb go b0 b1 c0 c1 sa sb v f S pw f0 := h.below (below_dn (Below.refl _ _) n)
theorem ap_Copy (h : Ap W w F ua ub qa qb p m dm tb go b0 b1 c0 c1 sa sb v f) : Calls Try.prog 50 #[.pointer (some ⟨m, 0, none⟩)] w fun r w' => ∃ pw S, r = .returned (.pointer (some ⟨pw, 0, none⟩)) ∧ Aw W w' F ua ub qa qb p m dm tb go b0 b1 c0 c1 sa sb v f S pw f := by
  obtain ⟨e1, e2, e3, -, -⟩ := h.vs.at
  obtain ⟨S, hm, hs, -⟩ := h.tw.a.pl.open
  rw [e1, e2, e3] at hm
  refine (C.c_Copy w S m 0 16 f hm).mono ?_
  rintro r w' ⟨pw, S', rfl, h1, h2, h3⟩
  exact ⟨pw, S', rfl, h.below h2, h1, fun k hk hF => by have := h.tw.a.lt (.inl hF); have := h3 k hk; omega, fun _ _ _ _ => rfl⟩
theorem ap_Write (h : Aw W w F ua ub qa qb p m dm tb go b0 b1 c0 c1 sa sb v f S pw f0) (a : Int) (a0 : 0 ≤ a) (a1 : a < 18446744073709551616) (x : Int) (x0 : 0 ≤ x) (x1 : x < 18446744073709551616) :
    Calls Try.prog 25 #[.pointer (some ⟨qa, 0, none⟩), .int .u64 a, .int .i64 8, .int .u64 x] w fun r w' => (∃ b, r = .returned (.bool b)) ∧ ∃ F' f', Aw W w' F' ua ub qa qb p m dm tb go b0 b1 c0 c1 sa sb v f' S pw f0 := by
  obtain ⟨b, hb⟩ : ∃ b : Bool, (∀ j, j < 8 → pgOk sa 4 ((a.toNat + j) / 4096) = true) ↔ b = true := by
    by_cases hh : ∀ j, j < 8 → pgOk sa 4 ((a.toNat + j) / 4096) = true
    · exact ⟨true, fun _ => rfl, fun _ => hh⟩
    · exact ⟨false, fun z => absurd z hh, fun z => by cases z⟩
  refine (r_WriteAny w F ua qa p sa v f 1 h.ap.tw.a a a0 a1 8 rfl x x0 x1 b hb).mono ?_
  rintro r w' ⟨rfl, F', f', k1, k2, k3, k4⟩
  have far : ∀ y, v.o y ≠ 1 → ∀ j, j < 4096 → f' (4096 * y + j) = f (4096 * y + j) := fun y hy j hj => by
    cases hbc : b
    · rw [hbc, if_neg (by decide)] at k2; rw [k2]
    · rw [hbc, if_pos rfl] at k2
      rw [k2]
      exact wG_far sa f a.toNat x y 8 (fun i hi e => hy (by rw [← e]; exact h.ap.ap.oa _ (pg_pp (hb.2 hbc i hi)))) j hj
  have ho : Only (Ar F ua qa) w w' := k3.mono fun k _ hk => .inl hk
  have hA : ∀ k, Ar F' ua qa k → Ar F ua qa k ∨ w.heap.size ≤ k := fun k hk => by
    rcases hk with z | z | z
    · exact (k4 k z).imp .inl id
    · exact .inl (.inr (.inl z))
    · exact .inl (.inr (.inr z))
  have ht := h.ap.tw.turn k1 ho hA rfl rfl (h.ap.tw.b.iv.keep fun z hz j hj => far z (by rw [(h.ap.tw.b.iv.tr z hz).2.1]; decide) j hj)
  refine ⟨⟨b, rfl⟩, F', f', h.ap.turn ht h.ap.ap (Vs.refl v) rfl ho (fun x hx => .inl hx) (fun y hy => ?_), h.mem.only k3 h.dj, fun k hk hF => ?_, fun y hy j hj => (far y hy j hj).trans (h.eq y hy j hj)⟩
  · rcases hy with z | z | z | z
    · exact (hA y z).imp .inl id
    · exact (hA y (.inl z)).imp .inl id
    · exact .inl (.inr (.inr (.inl z)))
    · exact .inl (.inr (.inr (.inr z)))
  · rcases k4 k hF with z | z
    · exact h.dj k hk z
    · have := h.mem.lt hk; omega
theorem sl_row {w : World} {b : Nat} {g : Nat → Int} (h : w.heap[b]? = some (.cells (C.row g 0 4096).toArray 5 (0, 0))) : Sl w (.slice (some ⟨b, 0, none⟩) 4096 4096) 4096 g :=
  ⟨_, 4096, rfl, Nat.le_refl _, ⟨b, 0, none⟩, fun _ => ⟨rfl, lt_of_block h, fun j hj => by rw [C.addr_add, Nat.zero_add, C.row_cell h j hj, Nat.zero_add]⟩⟩
theorem ap_Owner (h : Ap W w F ua ub qa qb p m dm tb go b0 b1 c0 c1 sa sb v f) (y : Nat) (hy : y < 16) : Calls Try.prog 18 #[.pointer (some ⟨p, 0, none⟩), .int .i64 y] w fun r w' => r = .returned (.int .i64 (v.o y)) ∧ w' = w := by
  obtain ⟨g, d, k, B, S', hp, ok, -⟩ := h.tw.a.pl
  have := c_Owner w p g d k B S' v f hp ok y
  have e : ownF v (y : Int) = v.o y := by
    unfold ownF hasF
    rw [h.vs.at.1, decide_eq_true (show (0 : Int) ≤ y by omega), decide_eq_true (show (y : Int) < (16 : Nat) by omega)]
    rfl
  rw [e] at this
  exact this
/-- both memories' bytes of a frame -/
theorem ap_Bytes (h : Aw W w F ua ub qa qb p m dm tb go b0 b1 c0 c1 sa sb v f S pw f0) (y : Nat) (hy : y < 16) :
    Calls Try.prog 51 #[.pointer (some ⟨pw, 0, none⟩), .int .u64 ((y : Int) * 4096), .int .i64 4096] w fun r w1 => ∃ x1, r = .returned (.tuple #[.slice (some ⟨x1, 0, none⟩) 4096 4096, .bool true]) ∧ Aw W w1 F ua ub qa qb p m dm tb go b0 b1 c0 c1 sa sb v f S pw f0 ∧
      Calls Try.prog 51 #[.pointer (some ⟨m, 0, none⟩), .int .u64 ((y : Int) * 4096), .int .i64 4096] w1 fun r w2 => ∃ x2, r = .returned (.tuple #[.slice (some ⟨x2, 0, none⟩) 4096 4096, .bool true]) ∧ Aw W w2 F ua ub qa qb p m dm tb go b0 b1 c0 c1 sa sb v f S pw f0 ∧
        Sl w2 (.slice (some ⟨x1, 0, none⟩) 4096 4096) 4096 (fun j => f0 (4096 * y + j)) ∧ Sl w2 (.slice (some ⟨x2, 0, none⟩) 4096 4096) 4096 (fun j => f (4096 * y + j)) := by
  obtain ⟨e1, e2, e3, -, -⟩ := h.ap.vs.at
  refine (C.c_BytesF w S pw 0 16 f0 h.mem (4096 * y) (by omega) _ (by omega)).mono ?_
  rintro r w1 ⟨x1, rfl, k1, k2, k3⟩
  have h1 := h.below k3
  refine ⟨x1, rfl, h1, ?_⟩
  obtain ⟨S', hm, hs, -⟩ := h1.ap.tw.a.pl.open
  rw [e1, e2, e3] at hm
  refine (C.c_BytesF w1 S' m 0 16 f hm (4096 * y) (by omega) _ (by omega)).mono ?_
  rintro r w2 ⟨x2, rfl, k4, k5, k6⟩
  exact ⟨x2, rfl, h1.below k6, sl_row ((k6.block _ (lt_of_block k1)).trans k1), sl_row k4⟩
/-- what the other's tables say of a page -/
theorem ap_Guest (h : Aw W w F ua ub qa qb p m dm tb go b0 b1 c0 c1 sa sb v f S pw f0) (k : Nat) (hk : k < 4) :
    ∃ x y z : Int, (z = 0 ∧ (∃ t : Nat, x / 4096 = t ∧ t < 16 ∧ v.o t = 2) ∨ z = 2 ∧ x = 0) ∧ 0 ≤ x ∧ x < 18446744073709551616 ∧ ∀ q, Calls Try.prog 29 #[.pointer (some ⟨m, 0, none⟩), .int .u64 2, .int .u64 ((524288 + (k : Int)) * 4096), .int .i64 2] (w.drewN q) fun r w' => r = .returned (.tuple #[.int .u64 x, .int .i64 y, .int .i64 z]) ∧ Below w.heap.size w w' := by
  obtain ⟨e1, e2, e3, -, -⟩ := h.ap.vs.at
  have hr := h.ap.sr
  have hq : ((524288 + (k : Int)) * 4096 / 4096).toNat = 524288 + k := by omega
  have hG := fun q => r_Guest (w.drewN q) F ub qb p sb v f 2 (h.dn q).ap.tw.b ((524288 + (k : Int)) * 4096) 2 (by omega) (by omega)
  by_cases hp : sb.pp (524288 + k) ≠ 0 ∧ lets (sb.pp (524288 + k)) 2 = true
  · have hg := gst_yes h.ap.tw.b.iv ((524288 + (k : Int)) * 4096) 2 (by omega) (by rw [hq]; exact hp.1) (by rw [hq]; exact hp.2)
    have h6 := (h.ap.tw.b.iv.ap _ hp.1).2.2.1
    have h7 := h.ap.ap.ob _ hp.1
    rw [e1] at h6
    have hc : ∀ q, Calls Try.prog 29 #[.pointer (some ⟨m, 0, none⟩), .int .u64 2, .int .u64 ((524288 + (k : Int)) * 4096), .int .i64 2] (w.drewN q) fun r w' => r = .returned (.tuple #[.int .u64 (0 + 4096 * (sb.pf (524288 + k) : Int) + (524288 + (k : Int)) * 4096 % 4096), .int .i64 (sb.pp (524288 + k) : Int), .int .i64 0]) ∧ Below w.heap.size w w' := fun q => by
      have hc := hG q _ _ _ hg
      rw [hq, e2, e3, hr] at hc
      exact hc.mono fun r w' hQ => ⟨hQ.1, (below_dn (Below.refl _ _) q).trans hQ.2⟩
    exact ⟨_, _, _, .inl ⟨rfl, sb.pf (524288 + k), by omega, h6, h7⟩, by omega, by omega, hc⟩
  · have hg := gst_no h.ap.tw.b.iv ((524288 + (k : Int)) * 4096) 2 (by omega) (by
      rw [hq]
      by_cases h0 : sb.pp (524288 + k) = 0
      · exact .inl h0
      · right
        cases hl : lets (sb.pp (524288 + k)) 2
        · rfl
        · exact absurd ⟨h0, hl⟩ hp)
    refine ⟨0, 0, 2, .inr ⟨rfl, rfl⟩, by decide, by decide, fun q => ?_⟩
    have hc := hG q _ _ _ hg
    rw [e2, e3, hr] at hc
    exact hc.mono fun r w' hQ => ⟨hQ.1, (below_dn (Below.refl _ _) q).trans hQ.2⟩
end
end Go.Proofs.Ythfpoefpnoodiaa
namespace Go.Proofs.Ythfpoefpnoodiaa
open Go.RowKit
open C (Only hid Mem RMem Still ret_bool ret_int put byt rd8 lo nu c_Place gst rdmB Sl)
set_option linter.unusedVariables false
set_option maxRecDepth 100000

set_option maxHeartbeats 8000000 in
theorem w_StageApart (W : World) (ad0 : Option Addr) (la0 cap0 ab0 ao0 : Nat) (X0 : Nat → Int) (hX0 : Nu W ad0 la0 cap0 ab0 ao0 X0) (ad1 : Option Addr) (la1 cap1 ab1 ao1 : Nat) (X1 : Nat → Int) (hX1 : Nu W ad1 la1 cap1 ab1 ao1 X1) (a2 : Int) (b2 : -9223372036854775808 ≤ a2) (b2' : a2 ≤ 9223372036854775807) (x : Int) (x0 : 0 ≤ x) (x1 : x < 18446744073709551616) :
    Calls Try.prog 8 #[.slice ad0 la0 cap0, .slice ad1 la1 cap1, .int .i64 a2, .int .u64 x] W fun r w' => r = .returned (.bool true) ∧ Below W.heap.size W w' := by
  obtain ⟨i0, hi0, hz0, hz1, hz2⟩ := info_parts info_intS
  have hS := l_spacesL W
  have HX0 := hid hX0
  have HX1 := hid hX1
  have l0 := hX0.len
  have l0' := hX0.cap
  have l1 := hX1.len
  have l1' := hX1.cap
  clear hX0 hX1
  go_enter Try.func8, Try.ntmps8
  go_upto_region 2 with (go_at_call 49; refine hS.mono ?_; rintro r w1 ⟨qa, qb, p, m, dm, F, ua, ub, rfl, h1⟩; have H1 := hid h1; clear h1)
  obtain ⟨wa, hwa⟩ : ∃ wa, wa = w1.alloc (.cells #[.pointer (some ⟨m, 0, none⟩), .pointer (some ⟨dm, 0, none⟩)] 31) := ⟨_, rfl⟩
  have HBa : Hid (Below w1.heap.size w1 wa) := hwa ▸ (Below.refl _ _).alloc (Nat.le_refl _) _
  have HTa : Hid (wa.heap[w1.heap.size]? = some (.cells #[.pointer (some ⟨m, 0, none⟩), .pointer (some ⟨dm, 0, none⟩)] 31 (0, 0))) := hwa ▸ heap_alloc_new w1 _
  rw [← hwa]
  clear hwa hS
  go_upto_region 5 with fail
  obtain ⟨wb, hwb⟩ : ∃ wb, wb = wa.alloc (.cells #[.slice none 0 0, .slice none 0 0] 113) := ⟨_, rfl⟩
  have HBb : Hid (Below wa.heap.size wa wb) := hwb ▸ (Below.refl _ _).alloc (Nat.le_refl _) _
  have HGb : Hid (wb.heap[wa.heap.size]? = some (.cells #[.slice none 0 0, .slice none 0 0] 113 (0, 0))) := hwb ▸ heap_alloc_new wa _
  have hszb : wb.heap.size = wa.heap.size + 1 := by rw [hwb]; simp
  rw [← hwb]
  clear hwb
  have za := HBa.out.size
  have zW := H1.out.new.size
  have HL0 : Hid (Lp W wb F ua ub qa qb p m dm w1.heap.size wa.heap.size wb.heap.size 0 (.slice none 0 0) (.slice none 0 0)) := by
    have hb := HBa.out.trans (HBb.out.mono za)
    refine ⟨H1.out.below hb, HGb.out, (HBb.out.block _ (lt_of_block HTa.out)).trans HTa.out, World.ownsRow_nil _ _ _ _, World.ownsRow_nil _ _ _ _, fun x hx => (by cases hx), fun x hx => (by cases hx), fun x hx => (by cases hx), fun x hx => ?_, by omega, by have := lt_of_block HTa.out; omega, Nat.le_refl _, by omega⟩
    have : x < w1.heap.size := hx.elim H1.out.a.lt H1.out.b.lt
    omega
  generalize hgo : wa.heap.size = go at HL0 ⊢
  generalize htb : w1.heap.size = tb at HL0 ⊢
  generalize wb.heap.size = B0 at HL0
  clear hszb hgo htb za zW HBa HBb HTa HGb H1
  go_wp2_with fail
  go_loopw [15, 16, 17, 18, 19] (fun i y1 y2 y3 y4 wr => ∃ (k : Nat) (u0 u1 : Value), k ≤ 3 ∧ i = .int .i64 k ∧ Hid (Lp W wr F ua ub qa qb p m dm tb go B0 k u0 u1)) (fun i y1 y2 y3 y4 _ => 3 - (intOf i).toNat)
  case atStart => exact ⟨0, _, _, by omega, rfl, HL0.out⟩
  case round =>
    obtain ⟨k, u0, u1, hk, rfl, hI⟩ := hrel
    by_cases hlt : k < 3
    · have hP := tw_pair W wr F ua ub qa qb p m k (s0 1) (s0 2) spF hI.out.tw hlt
      obtain ⟨ad0', cp0, rfl⟩ := own_form hI.out.l0
      obtain ⟨ad1', cp1, rfl⟩ := own_form hI.out.l1
      have HNF : Hid (∀ x c t, wr.heap[x]? = some (.cells c t (0, 0)) → tyF t = false → ¬ F x) := fun x c t hx ht => hI.out.tw.a.pl.ne hx ht
      go_upto_region 12 with (first
        | (go_at_call 26; (with_reducible refine hP.mono ?_); rintro r w2 ⟨rfl, k1, k2⟩; have K1 := hid k1; have hP2 := k2; clear k1 k2)
        | (go_at_call 26; (with_reducible refine hP2.mono ?_); rintro r w3 ⟨rfl, k1, k2⟩; have K2 := hid k1; have K3 := hid (K1.out.trans k2); clear k1 k2))
      clear hP hP2
      have hgo3 := K3.out.old hI.out.top (HNF.out _ _ _ hI.out.top rfl)
      have htb3 := K3.out.old hI.out.tab (HNF.out _ _ _ hI.out.tab rfl)
      have hl03 := own_only hI.out.l0 K3.out fun x hx => by obtain ⟨c, hc⟩ := own_typ hI.out.l0 hx; exact HNF.out _ _ _ hc rfl
      have hl13 := own_only hI.out.l1 K3.out fun x hx => by obtain ⟨c, hc⟩ := own_typ hI.out.l1 hx; exact HNF.out _ _ _ hc rfl
      have hz3 := K3.out.size
      have hlt3 := lt_of_block hgo3
      have c0 : w3.cell? ⟨go, 0, none⟩ = some (.slice ad0' k cp0) := cell_of_row w3 go 0 _ _ _ hgo3
      have f0 : w3.frozen? ⟨go, 0, none⟩ = false := frozen_of_row w3 go 0 _ _ hgo3
      have n0 : ¬ Ug (.slice ad0' k cp0) go := fun e => by have := hI.out.g0 _ e; have := hI.out.gB; omega
      have n1 : ¬ Ug (.slice ad1' k cp1) go := fun e => by have := hI.out.g1 _ e; have := hI.out.gB; omega
      have HN := hid (one_cell w3 (.int .i64 (3 + 2 * (k : Int))) 3)
      have HL3 := hid (And.intro hl03 hl13)
      have HT3 := hid (And.intro hgo3 htb3)
      have NN := hid (And.intro n0 n1)
      have HD : Hid (Below w3.heap.size w3 (w3.alloc (.cells #[.int .i64 (3 + 2 * (k : Int))] 3))) := (Below.refl _ _).alloc (Nat.le_refl _) _
      clear hgo3 htb3 hl03 hl13 n0 n1
      go_upto_region 13 with (at_builtin; refine wpList_append_blk _ (.tmp 63) (.tmp 65) 58 rfl 3 i0 (.int .i64 0) 1 8 u_sintS hi0 hz0 hz1 hz2 rfl (by decide) (.slice ad0' k cp0) k (lsv (lsE 3 k)) rfl (own_below HL3.out.1 HD.out) ⟨w3.heap.size, 0, none⟩ 1 1 [.int .i64 (3 + 2 * (k : Int))] rfl rfl HN.out (by intro u hu; simp at hu; subst hu; rfl) (show k + 1 ≤ 9223372036854775807 by omega) (by omega) rfl ?_; intro u' wn hown hgrow hblk; obtain ⟨ad0'', cp0', rfl⟩ := own_form hown; have hm := app_mid hgrow hlt3 NN.out.1; have y4 : wn.cell? ⟨go, 0, none⟩ = some (.slice ad0' k cp0) := (World.cell?_of_block (w := w3) hm.1).trans c0; have y8 : wn.frozen? ⟨go, 0, none⟩ = false := (World.frozen?_of_block (w := w3) hm.1).trans f0; have HE := hid (app_end (j := 0) (cs' := #[.slice ad0'' (k + 1) cp0', .slice ad1' k cp1]) hm HT3.out.1 rfl hown hblk); clear hown hgrow hblk hm)
      obtain ⟨w4, hw4⟩ : ∃ w4, w4 = wn.setCell ⟨go, 0, none⟩ (.slice ad0'' (k + 1) cp0') := ⟨_, rfl⟩
      rw [← hw4] at HE ⊢
      clear hw4 y4 y8 c0 f0 HN HD
      have hlt4 := lt_of_block HE.out.1
      have c1 : w4.cell? ⟨go, 1, none⟩ = some (.slice ad1' k cp1) := cell_of_row w4 go 1 _ _ _ HE.out.1
      have f1 : w4.frozen? ⟨go, 1, none⟩ = false := frozen_of_row w4 go 1 _ _ HE.out.1
      have HN := hid (one_cell w4 (.int .i64 (4 + 2 * (k : Int))) 3)
      have HD : Hid (Below w4.heap.size w4 (w4.alloc (.cells #[.int .i64 (4 + 2 * (k : Int))] 3))) := (Below.refl _ _).alloc (Nat.le_refl _) _
      have HL4 : Hid (w4.ownsRow 0 3 1 (.slice ad1' k cp1) k (lsv (lsE 4 k))) := own_only HL3.out.2 HE.out.2.2.1 fun x hx e => e.elim (fun e => NN.out.2 (e ▸ hx)) fun e => hI.out.dj x e hx
      go_upto_region 14 with (at_builtin; refine wpList_append_blk _ (.tmp 69) (.tmp 71) 58 rfl 3 i0 (.int .i64 0) 1 8 u_sintS hi0 hz0 hz1 hz2 rfl (by decide) (.slice ad1' k cp1) k (lsv (lsE 4 k)) rfl (own_below HL4.out HD.out) ⟨w4.heap.size, 0, none⟩ 1 1 [.int .i64 (4 + 2 * (k : Int))] rfl rfl HN.out (by intro u hu; simp at hu; subst hu; rfl) (show k + 1 ≤ 9223372036854775807 by omega) (by omega) rfl ?_; intro u' wn' hown hgrow hblk; obtain ⟨ad1'', cp1', rfl⟩ := own_form hown; have hm := app_mid hgrow hlt4 NN.out.2; have y4 : wn'.cell? ⟨go, 1, none⟩ = some (.slice ad1' k cp1) := (World.cell?_of_block (w := w4) hm.1).trans c1; have y8 : wn'.frozen? ⟨go, 1, none⟩ = false := (World.frozen?_of_block (w := w4) hm.1).trans f1; have HE5 := hid (app_end (j := 1) (cs' := #[.slice ad0'' (k + 1) cp0', .slice ad1'' (k + 1) cp1']) hm HE.out.1 rfl hown hblk); clear hown hgrow hblk hm)
      obtain ⟨w5, hw5⟩ : ∃ w5, w5 = wn'.setCell ⟨go, 1, none⟩ (.slice ad1'' (k + 1) cp1') := ⟨_, rfl⟩
      rw [← hw5] at HE5 ⊢
      have HNx : Hid (Lp W w5 F ua ub qa qb p m dm tb go B0 (k + 1) _ _) := hI.out.next K2.out K3.out HE.out.2.2.1 HE5.out.2.2.1 _ HE.out.1 HE5.out.1 (lsv_lsE 3 k _ (by push_cast; rfl) ▸ HE.out.2.1) (lsv_lsE 4 k _ (by push_cast; rfl) ▸ HE5.out.2.1) HE.out.2.2.2 HE5.out.2.2.2
      clear hw5 y4 y8 c1 f1 HN HD HL4 HE HE5 HL3 HT3 NN
      go_wp2_with fail
      go_roundw
      case rel => exact ⟨k + 1, _, _, by omega, by go_num, HNx.out⟩
      case measure => first | (simp [intOf]; done) | (simp [intOf]; omega)
    · have hk3 : k = 3 := by omega
      obtain ⟨bl0, bl1, cc0, cc1, hc0, hc1, hA⟩ := (show Lp W wr F ua ub qa qb p m dm tb go B0 3 u0 u1 from hk3 ▸ hI.out).fin
      have HA := hid hA
      clear hA hI HL0 hk3
      go_wp2_with fail
      clear hlt hk
      go_loopw [20] (fun i wr => ∃ (n : Nat) (F : Nat → Prop) (ua ub : Value) (sa sb : SV) (v : PV) (f : Nat → Int), n ≤ 3 ∧ n ≤ la0 ∧ i = .int .i64 n ∧ Hid (Ap W wr F ua ub qa qb p m dm tb go bl0 bl1 cc0 cc1 sa sb v f)) (fun i _ => 3 - (intOf i).toNat)
      case atStart => exact ⟨0, _, _, _, _, _, _, _, by omega, by omega, rfl, HA.out⟩
      case round =>
        obtain ⟨n, F1, ua1, ub1, sa1, sb1, v1, f1, hn3, hnl, rfl, hI⟩ := hrel
        by_cases hg : n < la0 ∧ n < 3
        · obtain ⟨hgl, hg3⟩ := hg
          have hX := HX0.out.below hI.out.tw.new
          obtain ⟨had, -⟩ := hX.at0 (by omega)
          have hcX := hX.cell n hgl
          have hbX := hX.num n
          obtain ⟨o0, o1, o2, o3⟩ := hI.out.ol.c
          have oc := o2 n hg3
          push_cast at oc
          generalize X0 n = xv at hcX hbX
          obtain ⟨j, hj⟩ : ∃ j : Nat, (j : Int) = xv % 4 := ⟨(xv % 4).toNat, by omega⟩
          have hj4 : j < 4 := by omega
          have hPl := c_Place xv 4 (by decide) (by decide) hbX.1 hbX.2
          rw [← hj] at hPl
          have hM : Hid (∀ q, Calls Try.prog 22 #[.pointer (some ⟨qa, 0, none⟩), .int .u64 (524288 + (j : Int)), .int .i64 (3 + 2 * (n : Int)), .int .i64 6] (wr.drewN q) fun r w' => (∃ c, r = .returned (.int .i64 c)) ∧ ∃ F' ua' ub' sa' sb' v' f', Ap W w' F' ua' ub' qa qb p m dm tb go bl0 bl1 cc0 cc1 sa' sb' v' f') := fun q => by
            have := ap_MapA (hI.out.dn q) (524288 + j) n (by omega) hg3
            rw [show ((524288 + j : Nat) : Int) = 524288 + (j : Int) from by omega, show ((3 + 2 * n : Nat) : Int) = 3 + 2 * (n : Int) from by omega] at this
            exact this
          subst had
          clear hj hX hbX o2 o3
          go_wp2_with fail
          refine wp_region_last_lit (by simp) (by kernel_rfl) (by kernel_rfl) (by kernel_rfl) ?_
          simp only [List.dropLast, List.getLast]
          repeat (go_big_quiet_step (first | (go_at_call 21; exact Calls.quiet_of_same (hPl _))))
          refine wpQuiet_nil ?_
          intro _ hwq
          obtain ⟨nq, hwq⟩ := hwq
          subst hwq
          have hMq := hM.out nq
          go_wp2_with (go_at_call 22; (with_reducible refine hMq.mono ?_); rintro r w4 ⟨⟨c, rfl⟩, F2, ua2, ub2, sa2, sb2, v2, f2, k1⟩; have K1 := hid k1; clear k1)
          go_roundw
          case rel => exact ⟨n + 1, _, _, _, _, _, _, _, by omega, by omega, by go_num, K1.out⟩
          case measure => first | (simp [intOf]; done) | (simp [intOf]; omega)
        · by_cases hgl : n < la0
          all_goals
            first
              | have hg3 : ¬ n < 3 := fun z => hg ⟨hgl, z⟩
              | have hg3 : n ≤ n := Nat.le_refl n
            clear hg
            go_wp2_with fail
            have HI := hid hI.out
            clear hgl hn3 hnl hI
            try clear hg
            try clear hg3
            go_loopw [21] (fun i wr => ∃ (n : Nat) (F : Nat → Prop) (ua ub : Value) (sa sb : SV) (v : PV) (f : Nat → Int), n ≤ 3 ∧ n ≤ la1 ∧ i = .int .i64 n ∧ Hid (Ap W wr F ua ub qa qb p m dm tb go bl0 bl1 cc0 cc1 sa sb v f)) (fun i _ => 3 - (intOf i).toNat)
            case atStart => exact ⟨0, _, _, _, _, _, _, _, by omega, by omega, rfl, HI.out⟩
            case round =>
              obtain ⟨n, F1, ua1, ub1, sa1, sb1, v1, f1, hn3, hnl, rfl, hI⟩ := hrel
              by_cases hg : n < la1 ∧ n < 3
              · obtain ⟨hgl, hg3⟩ := hg
                have hX := HX1.out.below hI.out.tw.new
                obtain ⟨had, -⟩ := hX.at0 (by omega)
                have hcX := hX.cell n hgl
                have hbX := hX.num n
                obtain ⟨o0, o1, o2, o3⟩ := hI.out.ol.c
                have oc := o3 n hg3
                push_cast at oc
                generalize X1 n = xv at hcX hbX
                obtain ⟨j, hj⟩ : ∃ j : Nat, (j : Int) = xv % 4 := ⟨(xv % 4).toNat, by omega⟩
                have hj4 : j < 4 := by omega
                have hPl := c_Place xv 4 (by decide) (by decide) hbX.1 hbX.2
                rw [← hj] at hPl
                have hM : Hid (∀ q, Calls Try.prog 22 #[.pointer (some ⟨qb, 0, none⟩), .int .u64 (524288 + (j : Int)), .int .i64 (4 + 2 * (n : Int)), .int .i64 6] (wr.drewN q) fun r w' => (∃ c, r = .returned (.int .i64 c)) ∧ ∃ F' ua' ub' sa' sb' v' f', Ap W w' F' ua' ub' qa qb p m dm tb go bl0 bl1 cc0 cc1 sa' sb' v' f') := fun q => by
                  have := ap_MapB (hI.out.dn q) (524288 + j) n (by omega) hg3
                  rw [show ((524288 + j : Nat) : Int) = 524288 + (j : Int) from by omega, show ((4 + 2 * n : Nat) : Int) = 4 + 2 * (n : Int) from by omega] at this
                  exact this
                subst had
                clear hj hX hbX o2 o3
                go_wp2_with fail
                refine wp_region_last_lit (by simp) (by kernel_rfl) (by kernel_rfl) (by kernel_rfl) ?_
                simp only [List.dropLast, List.getLast]
                repeat (go_big_quiet_step (first | (go_at_call 21; exact Calls.quiet_of_same (hPl _))))
                refine wpQuiet_nil ?_
                intro _ hwq
                obtain ⟨nq, hwq⟩ := hwq
                subst hwq
                have hMq := hM.out nq
                go_wp2_with (go_at_call 22; (with_reducible refine hMq.mono ?_); rintro r w4 ⟨⟨c, rfl⟩, F2, ua2, ub2, sa2, sb2, v2, f2, k1⟩; have K1 := hid k1; clear k1)
                go_roundw
                case rel => exact ⟨n + 1, _, _, _, _, _, _, _, by omega, by omega, by go_num, K1.out⟩
                case measure => first | (simp [intOf]; done) | (simp [intOf]; omega)
              · by_cases hgl : n < la1
                all_goals
                  first
                    | have hg3 : ¬ n < 3 := fun z => hg ⟨hgl, z⟩
                    | have hg3 : n ≤ n := Nat.le_refl n
                  clear hg
                  have ct := cell_of_row wr tb 0 _ _ _ hI.out.tab
                  have hCp := ap_Copy hI.out
                  go_wp2_with (go_at_call 50; (with_reducible refine hCp.mono ?_); rintro r w5 ⟨pw, S5, rfl, k1⟩; have HI5 := hid k1; clear k1)
                  clear ct hCp
                  have HI := hid hI.out
                  clear hgl hn3 hnl hI
                  try clear hg
                  try clear hg3
                  obtain ⟨jt, hjt⟩ : ∃ j : Nat, (j : Int) = a2 % 512 := ⟨(a2 % 512).toNat, by omega⟩
                  have hjt5 : jt < 512 := by omega
                  have hPt := c_Place a2 512 (by decide) (by decide) b2 b2'
                  rw [← hjt] at hPt
                  clear hjt HI
                  go_loopw [23] (fun i wr => ∃ (n : Nat) (F : Nat → Prop) (f : Nat → Int), n ≤ 4 ∧ i = .int .u64 n ∧ Hid (Aw W wr F ua1 ub1 qa qb p m dm tb go bl0 bl1 cc0 cc1 sa1 sb1 v1 f S5 pw f1)) (fun i _ => 4 - (intOf i).toNat)
                  case atStart => exact ⟨0, _, _, by omega, rfl, HI5.out⟩
                  case round =>
                    obtain ⟨n, F6, f6, hn4, rfl, hI⟩ := hrel
                    by_cases hlt : n < 4
                    · have hW : Hid (∀ q, Calls Try.prog 25 #[.pointer (some ⟨qa, 0, none⟩), .int .u64 ((524288 + (n : Int)) * 4096 + 8 * (jt : Int)), .int .i64 8, .int .u64 x] (wr.drewN q) fun r w' => (∃ b, r = .returned (.bool b)) ∧ ∃ F' f', Aw W w' F' ua1 ub1 qa qb p m dm tb go bl0 bl1 cc0 cc1 sa1 sb1 v1 f' S5 pw f1) := fun q => ap_Write (hI.out.dn q) _ (by omega) (by omega) x x0 x1
                      go_wp2_with fail
                      refine wp_region_last_lit (by simp) (by kernel_rfl) (by kernel_rfl) (by kernel_rfl) ?_
                      simp only [List.dropLast, List.getLast]
                      repeat (go_big_quiet_step (first | (go_at_call 21; exact Calls.quiet_of_same (hPt _))))
                      refine wpQuiet_nil ?_
                      intro _ hwq
                      obtain ⟨nq, hwq⟩ := hwq
                      subst hwq
                      have hWq := hW.out nq
                      go_wp2_with (go_at_call 25; (with_reducible refine hWq.mono ?_); rintro r w6 ⟨⟨bb, rfl⟩, F7, f7, k1⟩; have K1 := hid k1; clear k1)
                      go_roundw
                      case rel => exact ⟨n + 1, _, _, by omega, by go_num, K1.out⟩
                      case measure => first | (simp [intOf]; done) | (simp [intOf]; omega)
                    · have hI6 := hid hI.out
                      go_wp2_with fail
                      clear hlt hn4 hI
                      go_loopw [24, 25, 26, 27, 28] (fun i y1 y2 y3 y4 wr => ∃ (n : Nat), n ≤ 16 ∧ i = .int .i64 n ∧ Hid (Aw W wr F6 ua1 ub1 qa qb p m dm tb go bl0 bl1 cc0 cc1 sa1 sb1 v1 f6 S5 pw f1)) (fun i y1 y2 y3 y4 _ => 16 - (intOf i).toNat)
                      case atStart => exact ⟨0, by omega, rfl, hI6.out⟩
                      case round =>
                        obtain ⟨n, hn16, rfl, hI⟩ := hrel
                        by_cases hlt : n < 16
                        · have hB := ap_Bytes hI.out n hlt
                          go_upto_region 34 with (first
                            | (go_at_call 51; (with_reducible refine hB.mono ?_); rintro r w7 ⟨z1, rfl, k1, k2⟩; have K1 := hid k1; have hB2 := k2; have ct := cell_of_row w7 tb 0 _ _ _ k1.ap.tab; clear k1 k2)
                            | (go_at_call 51; (with_reducible refine hB2.mono ?_); rintro r w8 ⟨z2, rfl, k1, k2, k3⟩; have K2 := hid k1; have K3 := hid k2; have K4 := hid k3; clear k1 k2 k3))
                          clear hB hB2 ct
                          have hOw : Hid (∀ w, w = w8 → Calls Try.prog 18 #[.pointer (some ⟨p, 0, none⟩), .int .i64 n] w fun r w' => r = .returned (.int .i64 (v1.o n)) ∧ w' = w) := fun w e => by rw [e]; exact ap_Owner K2.out.ap n hlt
                          have hOw8 := hOw.out w8 rfl
                          by_cases ho : v1.o n = 1
                          · rw [ho] at hOw8
                            go_wp2_with (first
                              | (go_at_call 18; refine hOw8.mono ?_; rintro r w9 ⟨rfl, hw⟩; obtain rfl := hw.symm))
                            go_roundw
                            case rel => exact ⟨n + 1, by omega, by go_num, K2.out⟩
                            case measure => first | (simp [intOf]; done) | (simp [intOf]; omega)
                          · have hS := C.c_SameBytes w8 4096 (by decide) _ _ _ _ K3.out K4.out (fun j hj => (K2.out.eq n ho j hj).symm)
                            generalize v1.o n = oo at hOw8 ho
                            go_wp2_with (first
                              | (go_at_call 18; refine hOw8.mono ?_; rintro r w9 ⟨rfl, hw⟩; obtain rfl := hw.symm)
                              | (go_at_call 52; refine hS.mono ?_; rintro r w9 ⟨rfl, hst⟩))
                            go_roundw
                            case rel => exact ⟨n + 1, by omega, by go_num, K2.out.below (hst.below _)⟩
                            case measure => first | (simp [intOf]; done) | (simp [intOf]; omega)
                        · have hI7 := hid hI.out
                          go_wp2_with fail
                          clear hlt hn16 hI
                          go_loopw [29, 30, 31, 32] (fun i y1 y2 y3 wr => ∃ (n : Nat), n ≤ 4 ∧ i = .int .u64 n ∧ Hid (Aw W wr F6 ua1 ub1 qa qb p m dm tb go bl0 bl1 cc0 cc1 sa1 sb1 v1 f6 S5 pw f1)) (fun i y1 y2 y3 _ => 4 - (intOf i).toNat)
                          case atStart => exact ⟨0, by omega, rfl, hI7.out⟩
                          case round =>
                            obtain ⟨n, hn4, rfl, hI⟩ := hrel
                            by_cases hlt : n < 4
                            · have hRt : ∀ q, Calls Try.prog 30 #[.pointer (some ⟨qb, 0, none⟩)] (wr.drewN q) fun r w' => r = .returned (.int .u64 2) ∧ w' = wr.drewN q := fun q => by
                                have := x_Root (wr.drewN q) F6 ub1 qb p sb1 v1 f6 2 (hI.out.dn q).ap.tw.b
                                rw [hI.out.ap.vs.at.2.2.1, hI.out.ap.sr] at this
                                exact this
                              have ct := cell_of_row wr tb 0 _ _ _ hI.out.ap.tab
                              obtain ⟨gx, gy, gz, hgz, gx0, gx1, hG⟩ := ap_Guest hI.out n hlt
                              go_upto_region 39 with fail
                              refine wp_region_mid_dn 7 (by kernel_rfl) (by kernel_rfl) (by kernel_rfl) (by decide) (by kernel_rfl) ?_
                              simp only [List.take, List.drop]
                              repeat (go_big_quiet_step (first | (go_at_call 30; exact Calls.quiet_of_same (hRt _))))
                              refine wpQuiet_nil ?_
                              intro _ hwq
                              obtain ⟨nq, hwq⟩ := hwq
                              subst hwq
                              refine wpOp_step rfl (fun K hK => ?_)
                              go_simp
                              refine (hG nq).mono ?_
                              rintro e w8 ⟨rfl, h1⟩
                              refine hK _ _ ?_
                              have H8 := hid h1
                              clear hK h1
                              go_simp
                              repeat (go_big_quiet_step (fail))
                              refine wpQuiet_nil ?_
                              intro nr
                              have K8 : Hid (Aw W (w8.drewN nr) F6 ua1 ub1 qa qb p m dm tb go bl0 bl1 cc0 cc1 sa1 sb1 v1 f6 S5 pw f1) := (hI.out.below H8.out).dn nr
                              clear ct hRt hG
                              rcases hgz with ⟨hz, t, ht, ht16, hto⟩ | ⟨hz, hx⟩
                              · have hOw := ap_Owner K8.out.ap t ht16
                                rw [hto, ← ht] at hOw
                                subst hz
                                clear ht hto
                                go_wp2_with (first
                                  | (go_at_call 18; refine hOw.mono ?_; rintro r w9 ⟨rfl, hw⟩; obtain rfl := hw.symm))
                                go_roundw
                                case rel => exact ⟨n + 1, by omega, by go_num, K8.out⟩
                                case measure => first | (simp [intOf]; done) | (simp [intOf]; omega)
                              · subst hz hx
                                go_wp2_with fail
                                go_roundw
                                case rel => exact ⟨n + 1, by omega, by go_num, K8.out⟩
                                case measure => first | (simp [intOf]; done) | (simp [intOf]; omega)
                            · have hAw := l_awake10 wr
                              go_wp2_with (first
                                | (go_at_call 13; refine hAw.mono ?_; rintro r w9 ⟨rfl, h1⟩; have HB9 := hid h1; clear h1))
                              go_ret
                              exact ⟨rfl, hI.out.ap.tw.new.trans (HB9.out.mono hI.out.ap.tw.new.size)⟩
end Go.Proofs.Ythfpoefpnoodiaa
