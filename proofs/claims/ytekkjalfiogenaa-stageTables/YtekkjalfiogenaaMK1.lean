/- Two spaces that know nothing of one another: what one maps leaves the other as it was. -/
import Derived.Test.YtekkjalfiogenaaSW
import Derived.Test.YtekkjalfiogenaaSNU
import Derived.Test.YtekkjalfiogenaaCRC
import Derived.Test.YtekkjalfiogenaaMH9
import Derived.Test.YtekkjalfiogenaaRows
import Derived.Test.YtekkjalfiogenaaMC2
import Derived.OpenShut
import Derived.SizedLaws
import Derived.Deep.Slices
import Derived.Test.YtekkjalfiogenaaSGU
import Derived.Test.YtekkjalfiogenaaMC5
import Derived.Test.YtekkjalfiogenaaMH3
import Derived.Great.BuildSlice
import Derived.Deep.QuietTactic
import Derived.BigQuiet
import Derived.Deep.CutBlock
namespace Go.Proofs.Ytekkjalfiogenaa
open Go.RowKit
open C (Only hid Mem RMem Still ret_bool ret_int put byt rd8 lo nu c_Place gst rdmB)
set_option linter.unusedVariables false
set_option maxRecDepth 100000

/-- another space over the same memory -/
structure Oth (x : TX) (sb : SV) : Prop where
  iv : Inv sb x.v x.f
  ow : Ow sb x.v
  dj : ∀ y, x.s.tg y ≠ 0 → sb.tg y = 0
theorem Ow.own {s : SV} {v : PV} (h : Ow s v) {t : Nat} {x : Int} (h0 : v.o t = 0) : Ow s (v.own t x) := fun p hp => by
  have := h p hp
  show 1 ≤ upd v.o t x _
  rw [upd_other _ _ _ _ (fun e => by rw [e, h0] at this; omega)]
  exact this
section
variable {x : TX} {sb : SV} {p : Nat}
/-- a table in frame t, entered in a frame y of the first space's -/
theorem Oth.grow (h : Oth x sb) {t y i : Nat} {e : Int} {s' : SV} (ht : t < x.v.n) (h0 : x.v.o t = 0) (hy : x.s.tg y ≠ 0) (hi : i < 512) (hs : ∀ z, s'.tg z ≠ 0 → z = t ∨ x.s.tg z ≠ 0) : Oth ⟨s', x.v.own t (-1), w8 (clr x.f t) (4096 * y + 8 * i) e⟩ sb := by
  have hw := h.ow
  have i1 := h.iv.own ht h0 (x := -1) (.inr rfl) fun _ a ha e => by have := hw a ha; rw [e, h0] at this; omega
  have t0 := h.iv.notab (t := t) (by omega)
  have y0 := h.dj y hy
  refine ⟨i1.keep fun z hz j hj => ?_, hw.own h0, fun z hz => ?_⟩
  · have n1 : z ≠ y := fun e => hz (by rw [e]; exact y0)
    have n2 : z ≠ t := fun e => hz (by rw [e]; exact t0)
    show w8 (clr x.f t) (4096 * y + 8 * i) e (4096 * z + j) = _
    rw [w8_fr _ _ _ hi _ _ n1 _ hj, clr_fr _ _ _ n2 _ hj]
  · rcases hs z hz with e | e
    · subst e; exact t0
    · exact h.dj z e
theorem Oth.up1 (h : Oth x sb) (hi : Inv x.s x.v x.f) (hp : p < 134217728) (hc : x.s.k1 (p / 262144) = 0 → 0 < cnt x.v.o 0 x.v.n) : Oth (x.up1 p) sb := by
  by_cases hz : x.s.k1 (p / 262144) = 0
  · obtain ⟨h1, h2⟩ := cnt_pos (hc hz)
    rw [TX.up1_yes hz]
    refine h.grow h1 h2 (by rw [hi.root]; decide) (by omega) fun z hz' => ?_
    have hz2 : upd x.s.tg _ _ z ≠ 0 := hz'
    by_cases e : z = ff x.v.o x.v.n
    · exact .inl e
    · rw [upd_other _ _ _ _ e] at hz2; exact .inr hz2
  · rw [TX.up1_no hz]; exact h
theorem Oth.up0 (h : Oth x sb) (hi : Inv x.s x.v x.f) (hk : x.s.k1 (p / 262144) ≠ 0) (hc : x.s.k0 (p / 512) = 0 → 0 < cnt x.v.o 0 x.v.n) : Oth (x.up0 p) sb := by
  by_cases hz : x.s.k0 (p / 512) = 0
  · obtain ⟨h1, h2⟩ := cnt_pos (hc hz)
    rw [TX.up0_yes hz]
    refine h.grow h1 h2 (by have := (hi.a1 _ hk).2; omega) (Nat.mod_lt _ (by decide)) fun z hz' => ?_
    have hz2 : upd x.s.tg _ _ z ≠ 0 := hz'
    by_cases e : z = ff x.v.o x.v.n
    · exact .inl e
    · rw [upd_other _ _ _ _ e] at hz2; exact .inr hz2
  · rw [TX.up0_no hz]; exact h
theorem Oth.lf (h : Oth x sb) (hi : Inv x.s x.v x.f) (hk : x.s.k0 (p / 512) ≠ 0) (fr pm : Nat) : Oth (x.lf p fr pm) sb := by
  have y0 := h.dj _ (show x.s.tg (x.s.k0 (p / 512)) ≠ 0 by have := (hi.a0 _ hk).2; omega)
  refine ⟨h.iv.keep fun z hz j hj => ?_, h.ow, h.dj⟩
  have n1 : z ≠ x.s.k0 (p / 512) := fun e => hz (by rw [e]; exact y0)
  exact w8_fr _ _ _ (Nat.mod_lt _ (by decide)) _ _ n1 _ hj
/-- a page is mapped in the first -/
theorem Oth.map (h : Oth x sb) (hi : Inv x.s x.v x.f) (ok : x.v.Ok) (how : Ow x.s x.v) (hp : p < 134217728) (hc : dnL x.s p ≤ cnt x.v.o 0 x.v.n) (fr pm : Nat) : Oth (x.map p fr pm) sb := by
  unfold TX.map
  by_cases h1 : x.s.k1 (p / 262144) = 0
  · have hd : dnL x.s p = 2 := by unfold dnL; rw [if_pos h1]
    have hcp : 0 < cnt x.v.o 0 x.v.n := by omega
    obtain ⟨i1, -, d1, -⟩ := TX.step1 hi ok (how.ne hcp) hp h1 hcp
    have o1 := h.up1 hi hp (fun _ => hcp)
    have ok1 := ok.mon hcp
    have cn := own_cnt hcp
    rw [TX.up1_yes h1] at o1 ⊢
    obtain ⟨k1, k0, -⟩ := dnL_1 d1
    have hcp1 : 0 < cnt (x.v.own (ff x.v.o x.v.n) (-1)).o 0 (x.v.own (ff x.v.o x.v.n) (-1)).n := by show 0 < cnt _ 0 x.v.n; omega
    have how1 : Ow (x.s.add1 (p / 262144) (ff x.v.o x.v.n)) (x.v.own (ff x.v.o x.v.n) (-1)) := fun a ha => (how.own (cnt_pos hcp).2 a ha)
    have o0 := o1.up0 (p := p) i1 k1 (fun _ => hcp1)
    obtain ⟨i0, -, d0, -⟩ := TX.step0 (x := ⟨x.s.add1 (p / 262144) (ff x.v.o x.v.n), x.v.own (ff x.v.o x.v.n) (-1), w8 (clr x.f (ff x.v.o x.v.n)) (4096 * x.s.r + 8 * (p / 262144)) (tE x.v.b (ff x.v.o x.v.n))⟩) i1 ok1 (how1.ne hcp1) hp k1 k0 hcp1
    rw [TX.up0_yes (x := ⟨x.s.add1 (p / 262144) (ff x.v.o x.v.n), x.v.own (ff x.v.o x.v.n) (-1), w8 (clr x.f (ff x.v.o x.v.n)) (4096 * x.s.r + 8 * (p / 262144)) (tE x.v.b (ff x.v.o x.v.n))⟩) k0] at o0 ⊢
    exact o0.lf i0 (dnL_0 d0).2.1 fr pm
  · rw [TX.up1_no h1]
    by_cases h0 : x.s.k0 (p / 512) = 0
    · have hd : dnL x.s p = 1 := by unfold dnL; rw [if_neg h1, if_pos h0]
      have hcp : 0 < cnt x.v.o 0 x.v.n := by omega
      obtain ⟨i0, -, d0, -⟩ := TX.step0 hi ok (how.ne hcp) hp h1 h0 hcp
      have o0 := h.up0 (p := p) hi h1 (fun _ => hcp)
      rw [TX.up0_yes h0] at o0 ⊢
      exact o0.lf i0 (dnL_0 d0).2.1 fr pm
    · rw [TX.up0_no h0]; exact h.lf hi h0 fr pm
end
/-- whose the mapped frames are, and that the tables are apart -/
structure Apt (sa sb : SV) (v : PV) (ga gb : Int) : Prop where
  oa : ∀ p, sa.pp p ≠ 0 → v.o (sa.pf p) = ga
  ob : ∀ p, sb.pp p ≠ 0 → v.o (sb.pf p) = gb
  dj : ∀ y, sa.tg y ≠ 0 → sb.tg y = 0
theorem Apt.swap {sa sb : SV} {v : PV} {ga gb : Int} (h : Apt sa sb v ga gb) : Apt sb sa v gb ga := ⟨h.ob, h.oa, fun y hy => by
  rcases Nat.eq_zero_or_pos (sa.tg y) with z | z
  · exact z
  · exact absurd (h.dj y (by omega)) hy⟩
/-- what a pool keeps -/
structure Vs (v v' : PV) : Prop where
  m : v'.m = v.m
  b : v'.b = v.b
  n : v'.n = v.n
  o : ∀ y, y < v.n → v.o y ≠ 0 → v'.o y = v.o y
theorem Vs.refl (v : PV) : Vs v v := ⟨rfl, rfl, rfl, fun _ _ _ => rfl⟩
theorem Vs.trans {a b c : PV} (h : Vs a b) (k : Vs b c) : Vs a c := ⟨k.m.trans h.m, k.b.trans h.b, k.n.trans h.n, fun y hy ho => (k.o y (by rw [h.n]; exact hy) (by rw [h.o y hy ho]; exact ho)).trans (h.o y hy ho)⟩
theorem tw_Map (W w : World) (F : Nat → Prop) (ua ub : Value) (qa qb pl : Nat) (sa sb : SV) (v : PV) (f : Nat → Int) (va vb ga gb : Int) (h : TwS W w F ua ub qa qb pl sa sb v f va vb) (ap : Apt sa sb v ga gb) (g1 : 1 ≤ ga) (g2 : 1 ≤ gb) (p fr : Nat) (hp : p < 134217728) (hfr : fr < v.n) (hof : v.o fr = ga) :
    Calls Try.prog 16 #[.pointer (some ⟨qa, 0, none⟩), .int .u64 p, .int .i64 fr, .int .i64 6] w fun r w' => (∃ c, r = .returned (.int .i64 c)) ∧ ∃ F' ua' sa' v' f', TwS W w' F' ua' ub qa qb pl sa' sb v' f' va vb ∧ Apt sa' sb v' ga gb ∧ Vs v v' ∧ sa'.r = sa.r ∧ Only (Ar F ua qa) w w' ∧ ∀ k, Ar F' ua' qa k → Ar F ua qa k ∨ w.heap.size ≤ k := by
  have ok6 : okP 6 := .inr (.inl rfl)
  have harg : (decide ((p : Int) < 134217728) && decide (0 ≤ (fr : Int)) && decide ((fr : Int) < (v.n : Int)) && okPb ((6 : Nat) : Int)) = true := by
    rw [decide_eq_true (show (p : Int) < 134217728 by omega), decide_eq_true (show (0 : Int) ≤ fr by omega), decide_eq_true (show (fr : Int) < v.n by omega)]; rfl
  have keep : ∀ w', Below w.heap.size w w' → ∃ F' ua' sa' v' f', TwS W w' F' ua' ub qa qb pl sa' sb v' f' va vb ∧ Apt sa' sb v' ga gb ∧ Vs v v' ∧ sa'.r = sa.r ∧ Only (Ar F ua qa) w w' ∧ ∀ k, Ar F' ua' qa k → Ar F ua qa k ∨ w.heap.size ≤ k := fun w' hb => ⟨F, ua, sa, v, f, h.below hb, ap, Vs.refl v, rfl, .ofBelow hb, fun _ z => .inl z⟩
  by_cases hm : sa.pp p = 0
  · by_cases hc : dnL sa p ≤ cnt v.o 0 v.n
    · have how : Ow sa v := fun a ha => by rw [ap.oa a ha]; exact g1
      refine (x_Map w F ua qa pl sa v f va h.a p fr 6 hp hfr ok6 hm hc how (.inl (by rw [hof]; exact g1))).mono ?_
      rintro r w' ⟨rfl, F', u', k1, k2, k3⟩
      have hO := Oth.map (x := ⟨sa, v, f⟩) (sb := sb) ⟨h.b.iv, fun a ha => by show 1 ≤ v.o _; rw [ap.ob a ha]; exact g2, ap.dj⟩ h.a.iv h.a.pl.ok how hp hc fr 6
      have hv := map_v ⟨sa, v, f⟩ p fr 6
      have hpp := map_pp ⟨sa, v, f⟩ p fr 6
      have ho := map_o ⟨sa, v, f⟩ p fr 6
      refine ⟨⟨0, rfl⟩, F', u', _, _, _, h.turn k1 k2 k3 hv.2.2.1 hv.2.1 hO.iv, ⟨fun a ha => ?_, fun a ha => ?_, hO.dj⟩, ⟨hv.2.2.1, hv.2.1, hv.1, fun y hy h0 => ho y hy h0⟩, hv.2.2.2.2.2.2, k2, k3⟩
      · rw [hpp.1] at ha
        rw [hpp.2]
        by_cases e : a = p
        · rw [e, upd_same, ho fr hfr (by show v.o fr ≠ 0; omega)]; exact hof
        · rw [upd_other _ _ _ _ e] at ha
          have h5 := ap.oa a ha
          have h6 := (h.a.iv.ap a ha).2.2.1
          rw [upd_other _ _ _ _ e, ho _ h6 (by show v.o _ ≠ 0; rw [h5]; omega)]
          exact h5
      · have h5 := ap.ob a ha
        have h6 := (h.b.iv.ap a ha).2.2.1
        rw [ho _ h6 (by show v.o _ ≠ 0; rw [h5]; omega)]
        exact h5
    · have hL := r_leaf_no w F ua qa pl sa v f va h.a (p : Int) (by omega) hm
      have hT := t_map_full w qa v.m v.n pl (cnt v.o 0 v.n) (dnL sa p) (p : Int) (fr : Int) ((6 : Nat) : Int) (v.b + (dnO sa p : Nat)) (by omega) (by decide) (by decide) h.a.sq.c0 (r_Frames w F ua qa pl sa v f va h.a) harg hL (fun w1 hb => ⟨r_down w1 F ua qa pl sa v f va (h.a.below hb) p hp, (h.a.below hb).sq.c2, r_Count w1 F ua qa pl sa v f va (h.a.below hb) 0⟩)
      exact hT.mono fun r w' hQ => ⟨⟨10, hQ.1⟩, keep w' hQ.2⟩
  · have hT := t_map_mapped w qa v.m v.n (p : Int) (fr : Int) ((6 : Nat) : Int) _ _ (by decide) (by decide) h.a.sq.c0 (r_Frames w F ua qa pl sa v f va h.a) harg (r_leaf_yes w F ua qa pl sa v f va h.a p hm)
    exact hT.mono fun r w' hQ => ⟨⟨20, hQ.1⟩, keep w' hQ.2⟩
end Go.Proofs.Ytekkjalfiogenaa
namespace Go.Proofs.Ytekkjalfiogenaa
open Go.RowKit
open C (Only hid)
set_option linter.unusedVariables false
set_option maxRecDepth 100000

/-- a call has turned the space -/
def Tnx (w w' : World) (F : Nat → Prop) (u : Value) (q pl : Nat) (y : TX) (vm : Int) : Prop := ∃ F' u', SPs w' F' u' q pl y.s y.v y.f vm ∧ Only (Ar F u q) w w' ∧ ∀ k, Ar F' u' q k → Ar F u q k ∨ w.heap.size ≤ k
theorem tn_below {w w' : World} {F : Nat → Prop} {u : Value} {q pl : Nat} {x : TX} {vm : Int} (h : SPs w F u q pl x.s x.v x.f vm) (hb : Below w.heap.size w w') : Tnx w w' F u q pl x vm := ⟨F, u, h.below hb, .ofBelow hb, fun k hk => .inl hk⟩
theorem tn_F {w w' : World} {F : Nat → Prop} {u : Value} {q pl : Nat} {y : TX} {vm : Int} (h : ∃ F', SPs w' F' u q pl y.s y.v y.f vm ∧ Only F w w' ∧ ∀ k, F' k → F k ∨ w.heap.size ≤ k) : Tnx w w' F u q pl y vm := by
  obtain ⟨F', h1, h2, h3⟩ := h
  exact ⟨F', u, h1, h2.mono fun k _ hk => .inl hk, fun k hk => hk.elim (fun z => (h3 k z).imp .inl id) fun z => .inl (.inr z)⟩
def mpT (x : TX) (page fr pm : Int) : TX := if mapC x page fr pm = 0 then x.map page.toNat fr.toNat pm.toNat else x
def umT (x : TX) (page : Int) : TX := if x.s.pp page.toNat = 0 then x else ⟨x.s.leaf page.toNat 0 0, x.v, w8 x.f (lfO x.s page.toNat) 0⟩
def umF (x : TX) (page : Int) : Int := if x.s.pp page.toNat = 0 then 0 else (x.s.pf page.toNat : Nat)
def umC (x : TX) (page : Int) : Int := if x.s.pp page.toNat = 0 then 21 else 0
def ptC (x : TX) (page pm : Int) : Int := bif decide (page < 134217728) && okPb pm then (if x.s.pp page.toNat = 0 then 21 else 0) else 1
def ptT (x : TX) (page pm : Int) : TX := if ptC x page pm = 0 then ⟨x.s.leaf page.toNat (x.s.pf page.toNat) pm.toNat, x.v, w8 x.f (lfO x.s page.toNat) (lE x.v.b (x.s.pf page.toNat) pm.toNat)⟩ else x
def wrB (x : TX) (a n : Int) : Bool := wdt n && decide (∀ j, j < n.toNat → pgOk x.s 4 ((a.toNat + j) / 4096) = true)
def wrT (x : TX) (a n y : Int) : TX := if wrB x a n = true then ⟨x.s, x.v, wG x.s x.f a.toNat y n.toNat⟩ else x
def tkT (x : TX) (g : Int) : TX := ⟨x.s, (tk x.v g).2.2, x.f⟩
theorem okPb_ok {pm : Int} (h : okPb pm = true) : ∃ m : Nat, pm = m ∧ okP m := by
  have := of_decide_eq_true h
  exact ⟨pm.toNat, by omega, by unfold okP; omega⟩
section
variable {w : World} {F : Nat → Prop} {u : Value} {q pl : Nat} {x : TX} {vm : Int} (h : SPs w F u q pl x.s x.v x.f vm)
include h
theorem xa_Map (page fr pm : Int) (p0 : 0 ≤ page) (m0 : -9223372036854775808 ≤ pm) (m1 : pm ≤ 9223372036854775807) (how : Ow x.s x.v) (hof : 0 ≤ fr → fr < x.v.n → 1 ≤ x.v.o fr.toNat) :
    Calls Try.prog 16 #[.pointer (some ⟨q, 0, none⟩), .int .u64 page, .int .i64 fr, .int .i64 pm] w fun r w' => r = .returned (.int .i64 (mapC x page fr pm)) ∧ Tnx w w' F u q pl (mpT x page fr pm) vm := by
  have hF := r_Frames w F u q pl x.s x.v x.f vm h
  unfold mpT
  cases ha : argOk x.v page fr pm
  · have hc : mapC x page fr pm = 1 := by unfold mapC; rw [ha]; rfl
    rw [hc, if_neg (by decide)]
    exact (t_map_arg w q x.v.m x.v.n page fr pm m0 m1 h.sq.c0 hF ha).mono fun r w' hh => ⟨hh.1, by rw [hh.2]; exact tn_below h (.refl _ _)⟩
  · have ha' := ha
    unfold argOk at ha'
    simp only [Bool.and_eq_true, decide_eq_true_eq] at ha'
    obtain ⟨⟨⟨a1, a2⟩, a3⟩, a4⟩ := ha'
    obtain ⟨p, rfl⟩ : ∃ p : Nat, page = p := ⟨page.toNat, by omega⟩
    obtain ⟨g, rfl⟩ : ∃ g : Nat, fr = g := ⟨fr.toNat, by omega⟩
    obtain ⟨m, rfl, hm⟩ := okPb_ok a4
    by_cases hp : x.s.pp p = 0
    · by_cases hl : cnt x.v.o 0 x.v.n < dnL x.s p
      · have hc : mapC x (p : Int) g m = 10 := by unfold mapC; rw [ha]; show (if x.s.pp p ≠ 0 then 20 else if cnt x.v.o 0 x.v.n < dnL x.s p then 10 else 0 : Int) = 10; rw [if_neg (by simpa using hp), if_pos hl]
        rw [hc, if_neg (by decide)]
        refine (t_map_full w q x.v.m x.v.n pl _ _ p g m (x.v.b + (dnO x.s p : Nat)) hl m0 m1 h.sq.c0 hF ha (r_leaf_no w F u q pl x.s x.v x.f vm h p (by omega) hp) (fun w1 hb => ?_)).mono fun r w' hh => ⟨hh.1, tn_below h hh.2⟩
        have hs := h.below hb
        exact ⟨r_down w1 F u q pl x.s x.v x.f vm hs p (by omega), hs.sq.c2, r_Count w1 F u q pl x.s x.v x.f vm hs 0⟩
      · have hc : mapC x (p : Int) g m = 0 := by unfold mapC; rw [ha]; show (if x.s.pp p ≠ 0 then 20 else if cnt x.v.o 0 x.v.n < dnL x.s p then 10 else 0 : Int) = 0; rw [if_neg (by simpa using hp), if_neg hl]
        rw [hc, if_pos rfl]
        exact x_Map w F u q pl x.s x.v x.f vm h p g m (by omega) (by omega) hm hp (by omega) how (.inl (hof a2 a3))
    · have hc : mapC x (p : Int) g m = 20 := by unfold mapC; rw [ha]; show (if x.s.pp p ≠ 0 then 20 else if cnt x.v.o 0 x.v.n < dnL x.s p then 10 else 0 : Int) = 20; rw [if_pos hp]
      rw [hc, if_neg (by decide)]
      exact (t_map_mapped w q x.v.m x.v.n p g m _ _ m0 m1 h.sq.c0 hF ha (r_leaf_yes w F u q pl x.s x.v x.f vm h p hp)).mono fun r w' hh => ⟨hh.1, tn_below h hh.2⟩
theorem xa_Unmap (page : Int) (p0 : 0 ≤ page) : Calls Try.prog 17 #[.pointer (some ⟨q, 0, none⟩), .int .u64 page] w fun r w' => r = .returned (.tuple #[.int .i64 (umF x page), .int .i64 (umC x page)]) ∧ Tnx w w' F u q pl (umT x page) vm := by
  unfold umF umC umT
  by_cases hp : x.s.pp page.toNat = 0
  · rw [if_pos hp, if_pos hp, if_pos hp]
    exact (t_unmap_no w q page (r_leaf_no w F u q pl x.s x.v x.f vm h page p0 hp)).mono fun r w' hh => ⟨hh.1, tn_below h hh.2⟩
  · rw [if_neg hp, if_neg hp, if_neg hp]
    obtain ⟨p, rfl⟩ : ∃ p : Nat, page = p := ⟨page.toNat, by omega⟩
    exact (x_Unmap w F u q pl x.s x.v x.f vm h p hp).mono fun r w' hh => ⟨hh.1, tn_F (y := ⟨x.s.leaf p 0 0, x.v, w8 x.f (lfO x.s p) 0⟩) hh.2⟩
theorem xa_Protect (page pm : Int) (p0 : 0 ≤ page) (m0 : -9223372036854775808 ≤ pm) (m1 : pm ≤ 9223372036854775807) : Calls Try.prog 18 #[.pointer (some ⟨q, 0, none⟩), .int .u64 page, .int .i64 pm] w fun r w' => r = .returned (.int .i64 (ptC x page pm)) ∧ Tnx w w' F u q pl (ptT x page pm) vm := by
  unfold ptT
  cases ha : decide (page < 134217728) && okPb pm
  · have hc : ptC x page pm = 1 := by unfold ptC; rw [ha]; rfl
    rw [hc, if_neg (by decide)]
    exact (t_prot_arg w q page pm m0 m1 ha).mono fun r w' hh => ⟨hh.1, by rw [hh.2]; exact tn_below h (.refl _ _)⟩
  · have ha' := ha
    simp only [Bool.and_eq_true, decide_eq_true_eq] at ha'
    obtain ⟨a1, a4⟩ := ha'
    by_cases hp : x.s.pp page.toNat = 0
    · have hc : ptC x page pm = 21 := by unfold ptC; rw [ha]; exact if_pos hp
      rw [hc, if_neg (by decide)]
      exact (t_prot_no w q page pm m0 m1 a1 a4 (r_leaf_no w F u q pl x.s x.v x.f vm h page p0 hp)).mono fun r w' hh => ⟨hh.1, tn_below h hh.2⟩
    · have hc : ptC x page pm = 0 := by unfold ptC; rw [ha]; exact if_neg hp
      rw [hc, if_pos rfl]
      obtain ⟨p, rfl⟩ : ∃ p : Nat, page = p := ⟨page.toNat, by omega⟩
      obtain ⟨m, rfl, hm⟩ := okPb_ok a4
      exact (x_Protect w F u q pl x.s x.v x.f vm h p m hp hm).mono fun r w' hh => ⟨hh.1, tn_F (y := ⟨x.s.leaf p (x.s.pf p) m, x.v, w8 x.f (lfO x.s p) (lE x.v.b (x.s.pf p) m)⟩) hh.2⟩
theorem xa_Write (a n y : Int) (a0 : 0 ≤ a) (a1 : a < 18446744073709551616) (y0 : 0 ≤ y) (y1 : y < 18446744073709551616) : Calls Try.prog 19 #[.pointer (some ⟨q, 0, none⟩), .int .u64 a, .int .i64 n, .int .u64 y] w fun r w' => r = .returned (.bool (wrB x a n)) ∧ Tnx w w' F u q pl (wrT x a n y) vm := by
  unfold wrT
  cases hn : wdt n
  · have hc : wrB x a n = false := by unfold wrB; rw [hn]; rfl
    rw [hc, if_neg (by decide)]
    exact (t_write_no w q a n y (t_places_bad w q a n 4 hn)).mono fun r w' hh => ⟨hh.1, tn_below h hh.2⟩
  · obtain ⟨k, rfl⟩ : ∃ k : Nat, n = k := ⟨n.toNat, by have := of_decide_eq_true hn; omega⟩
    refine (r_WriteAny w F u q pl x.s x.v x.f vm h a a0 a1 k hn y y0 y1 (wrB x a k) (by unfold wrB; rw [hn]; simp)).mono ?_
    rintro r w' ⟨rfl, F', f', k1, rfl, k2, k3⟩
    refine ⟨rfl, ?_⟩
    cases hb : wrB x a k
    · rw [hb] at k1
      exact tn_F ⟨F', k1, k2, k3⟩
    · rw [hb] at k1
      exact tn_F (y := ⟨x.s, x.v, wG x.s x.f a.toNat y k⟩) ⟨F', k1, k2, k3⟩
theorem xa_Take (g : Int) (g1 : 1 ≤ g) : Calls Try.prog 20 #[.pointer (some ⟨pl, 0, none⟩), .int .i64 g] w fun r w' => r = .returned (.tuple #[.int .i64 (tk x.v g).1, .int .i64 (tk x.v g).2.1]) ∧ Tnx w w' F u q pl (tkT x g) vm := by
  refine (x_Take w F pl x.v x.f h.pl g).mono ?_
  rintro r w' ⟨rfl, k1, k2⟩
  refine ⟨rfl, F, u, ?_, k2.mono fun k _ hk => .inl hk, fun k hk => .inl hk⟩
  show SPs w' F u q pl x.s (tk x.v g).2.2 x.f vm
  by_cases hm : may g = true
  · by_cases hc : 0 < cnt x.v.o 0 x.v.n
    · rw [tk_free x.v g hm hc] at k1 ⊢
      obtain ⟨h1, h2⟩ := cnt_pos hc
      exact h.turn k1 k2 rfl rfl (h.iv.own h1 h2 (.inl g1) (fun e => by omega))
    · have hf : ¬ ff x.v.o x.v.n < x.v.n := fun z => by
        have := cnt_zero (by omega : cnt x.v.o 0 x.v.n = 0) _ z
        exact this ((ff_spec x.v.o x.v.n).2.1 z)
      have e : tk x.v g = (0, 10, x.v) := by unfold tk; rw [hm, decide_eq_false hf]; rfl
      rw [e] at k1 ⊢
      exact h.turn k1 k2 rfl rfl h.iv
  · have e : tk x.v g = (0, 1, x.v) := by unfold tk; rw [Bool.eq_false_iff.2 hm]; rfl
    rw [e] at k1 ⊢
    exact h.turn k1 k2 rfl rfl h.iv
end
/-- pages lie in frames that have an owner -/
theorem ow_leaf {s : SV} {v : PV} (h : Ow s v) {p fr pm : Nat} (hf : pm ≠ 0 → 1 ≤ v.o fr) : Ow (s.leaf p fr pm) v := fun y hy => by
  by_cases e : y = p
  · subst e
    rw [leaf_pp] at hy
    rw [leaf_pf]; exact hf hy
  · rw [leaf_ppo _ _ _ _ _ e] at hy
    rw [leaf_pfo _ _ _ _ _ e]; exact h y hy
theorem ow_up1 {x : TX} {p : Nat} (h : Ow x.s x.v) (hc : x.s.k1 (p / 262144) = 0 → 0 < cnt x.v.o 0 x.v.n) : Ow (x.up1 p).s (x.up1 p).v ∧ ∀ y, 1 ≤ x.v.o y → 1 ≤ (x.up1 p).v.o y := by
  by_cases e : x.s.k1 (p / 262144) = 0
  · rw [TX.up1_yes e]
    obtain ⟨h1, h2⟩ := cnt_pos (hc e)
    refine ⟨fun y hy => ?_, fun y hy => ?_⟩
    · have := h y hy
      show 1 ≤ upd x.v.o (ff x.v.o x.v.n) (-1) (x.s.pf y)
      rw [upd_other _ _ _ _ (fun e => by rw [e] at this; omega)]; exact this
    · show 1 ≤ upd x.v.o (ff x.v.o x.v.n) (-1) y
      rw [upd_other _ _ _ _ (fun e => by rw [e] at hy; omega)]; exact hy
  · rw [TX.up1_no e]; exact ⟨h, fun y hy => hy⟩
theorem ow_up0 {x : TX} {p : Nat} (h : Ow x.s x.v) (hc : x.s.k0 (p / 512) = 0 → 0 < cnt x.v.o 0 x.v.n) : Ow (x.up0 p).s (x.up0 p).v ∧ ∀ y, 1 ≤ x.v.o y → 1 ≤ (x.up0 p).v.o y := by
  by_cases e : x.s.k0 (p / 512) = 0
  · rw [TX.up0_yes e]
    obtain ⟨h1, h2⟩ := cnt_pos (hc e)
    refine ⟨fun y hy => ?_, fun y hy => ?_⟩
    · have := h y hy
      show 1 ≤ upd x.v.o (ff x.v.o x.v.n) (-1) (x.s.pf y)
      rw [upd_other _ _ _ _ (fun e => by rw [e] at this; omega)]; exact this
    · show 1 ≤ upd x.v.o (ff x.v.o x.v.n) (-1) y
      rw [upd_other _ _ _ _ (fun e => by rw [e] at hy; omega)]; exact hy
  · rw [TX.up0_no e]; exact ⟨h, fun y hy => hy⟩
theorem ow_map {x : TX} {p fr pm : Nat} (h : Ow x.s x.v) (hi : Inv x.s x.v x.f) (hc : dnL x.s p ≤ cnt x.v.o 0 x.v.n) (hf : 1 ≤ x.v.o fr) : Ow (x.map p fr pm).s (x.map p fr pm).v := by
  have q1 : x.s.k1 (p / 262144) = 0 → 2 ≤ cnt x.v.o 0 x.v.n := fun e => by unfold dnL at hc; rw [if_pos e] at hc; exact hc
  obtain ⟨h1, f1⟩ := ow_up1 (p := p) h (fun e => by have := q1 e; omega)
  have q0 : (x.up1 p).s.k0 (p / 512) = 0 → 0 < cnt (x.up1 p).v.o 0 (x.up1 p).v.n := fun e0 => by
    by_cases e : x.s.k1 (p / 262144) = 0
    · rw [TX.up1_yes e]
      have c := own_cnt (v := x.v) (by have := q1 e; omega)
      have := q1 e
      show 0 < cnt (x.v.own (ff x.v.o x.v.n) (-1)).o 0 x.v.n
      omega
    · rw [TX.up1_no e] at e0 ⊢
      unfold dnL at hc
      rw [if_neg e, if_pos e0] at hc
      omega
  obtain ⟨h0, f0⟩ := ow_up0 (p := p) h1 q0
  exact ow_leaf h0 fun _ => f0 _ (f1 _ hf)
theorem ow_mpT {x : TX} {page fr pm : Int} (h : Ow x.s x.v) (hi : Inv x.s x.v x.f) (hof : 0 ≤ fr → fr < x.v.n → 1 ≤ x.v.o fr.toNat) : Ow (mpT x page fr pm).s (mpT x page fr pm).v := by
  unfold mpT
  split
  · rename_i hc
    unfold mapC at hc
    cases ha : argOk x.v page fr pm
    · rw [ha] at hc; exact absurd (show (1 : Int) = 0 from hc) (by decide)
    · rw [ha] at hc
      have hc' : (if x.s.pp page.toNat ≠ 0 then 20 else if cnt x.v.o 0 x.v.n < dnL x.s page.toNat then 10 else 0 : Int) = 0 := hc
      unfold argOk at ha
      simp only [Bool.and_eq_true, decide_eq_true_eq] at ha
      split at hc'
      · exact absurd hc' (by decide)
      · split at hc'
        · exact absurd hc' (by decide)
        · exact ow_map h hi (by omega) (hof ha.1.1.2 ha.1.2)
  · exact h
theorem ow_umT {x : TX} {page : Int} (h : Ow x.s x.v) : Ow (umT x page).s (umT x page).v := by
  unfold umT
  split
  · exact h
  · exact ow_leaf h fun z => absurd rfl z
theorem ow_ptT {x : TX} {page pm : Int} (h : Ow x.s x.v) : Ow (ptT x page pm).s (ptT x page pm).v := by
  unfold ptT
  split
  · rename_i hc
    unfold ptC at hc
    cases ha : decide (page < 134217728) && okPb pm
    · rw [ha] at hc; exact absurd (show (1 : Int) = 0 from hc) (by decide)
    · rw [ha] at hc
      have hc' : (if x.s.pp page.toNat = 0 then 21 else 0 : Int) = 0 := hc
      split at hc'
      · exact absurd hc' (by decide)
      · rename_i e; exact ow_leaf h fun _ => h _ e
  · exact h
theorem ow_wrT {x : TX} {a n y : Int} (h : Ow x.s x.v) : Ow (wrT x a n y).s (wrT x a n y).v := by
  unfold wrT
  split <;> exact h
theorem ow_tkT {x : TX} {g : Int} (h : Ow x.s x.v) : Ow (tkT x g).s (tkT x g).v := by
  show Ow x.s (tk x.v g).2.2
  unfold tk
  cases may g
  · exact h
  · by_cases hf : ff x.v.o x.v.n < x.v.n
    · rw [decide_eq_true hf]
      exact h.own ((ff_spec x.v.o x.v.n).2.1 hf)
    · rw [decide_eq_false hf]; exact h
theorem v_mpT (x : TX) (page fr pm : Int) : (mpT x page fr pm).v.n = x.v.n ∧ (mpT x page fr pm).v.b = x.v.b ∧ (mpT x page fr pm).v.m = x.v.m ∧ (mpT x page fr pm).s.r = x.s.r := by
  unfold mpT
  split
  · have := map_v x page.toNat fr.toNat pm.toNat
    exact ⟨this.1, this.2.1, this.2.2.1, this.2.2.2.2.2.2⟩
  · exact ⟨rfl, rfl, rfl, rfl⟩
theorem v_umT (x : TX) (page : Int) : (umT x page).v = x.v ∧ (umT x page).s.r = x.s.r := by unfold umT; split <;> exact ⟨rfl, rfl⟩
theorem v_ptT (x : TX) (page pm : Int) : (ptT x page pm).v = x.v ∧ (ptT x page pm).s.r = x.s.r := by unfold ptT; split <;> exact ⟨rfl, rfl⟩
theorem v_wrT (x : TX) (a n y : Int) : (wrT x a n y).v = x.v ∧ (wrT x a n y).s = x.s := by unfold wrT; split <;> exact ⟨rfl, rfl⟩
theorem v_tkT (x : TX) (g : Int) : (tkT x g).v.n = x.v.n ∧ (tkT x g).v.b = x.v.b ∧ (tkT x g).v.m = x.v.m ∧ (tkT x g).s = x.s := by
  show (tk x.v g).2.2.n = _ ∧ (tk x.v g).2.2.b = _ ∧ (tk x.v g).2.2.m = _ ∧ _
  unfold tk
  cases may g
  · exact ⟨rfl, rfl, rfl, rfl⟩
  · cases decide (ff x.v.o x.v.n < x.v.n) <;> exact ⟨rfl, rfl, rfl, rfl⟩
end Go.Proofs.Ytekkjalfiogenaa
namespace Go.Proofs.Ytekkjalfiogenaa
open Go.ChangeShapes Go.WideShapes Go.ChangeAt Go.RowKit Go.Deep
set_option linter.unusedVariables false

theorem cells_i8 : Try.prog.cellsOf 3 = 1 := by kernel_rfl
theorem cells_u8 : Try.prog.cellsOf 22 = 1 := by kernel_rfl
theorem addr_two (a : Addr) (i j : Nat) : (a.add i).add j = a.add (i + j) := by
  unfold Addr.add
  by_cases hi : i = 0
  · subst hi; simp
  · by_cases hj : j = 0
    · subst hj; simp
    · have : ¬ i + j = 0 := by omega
      simp [hi, hj, Nat.add_assoc]
theorem fld8 {T k : Nat} {t : TypeId} {o : Nat} (h : ((Try.prog.fieldsOf T)[k]?).map (fun f => (f.type, f.offset)) = some (t, o)) : ∃ f, (Try.prog.fieldsOf T)[k]? = some f ∧ f.type = t ∧ f.offset = o := by
  cases hq : (Try.prog.fieldsOf T)[k]? with
  | none => rw [hq] at h; cases h
  | some f => rw [hq] at h; simp at h; exact ⟨f, rfl, h.1, h.2⟩
structure ShoV where
  kind : Int
  hart : Int
  vmid : Int
  page : Int
def ShoV.cs (x : ShoV) : List Value := [.int .i64 x.kind, .int .i64 x.hart, .int .i64 x.vmid, .int .u64 x.page]
structure ShoB (x : ShoV) : Prop where
  kind : -9223372036854775808 ≤ x.kind ∧ x.kind ≤ 9223372036854775807
  hart : -9223372036854775808 ≤ x.hart ∧ x.hart ≤ 9223372036854775807
  vmid : -9223372036854775808 ≤ x.vmid ∧ x.vmid ≤ 9223372036854775807
  page : 0 ≤ x.page ∧ x.page < 18446744073709551616
structure Shc (w : World) (ad : Option Addr) (la cap ab ao : Nat) (X : Nat → ShoV) : Prop where
  len : la ≤ cap
  cap : cap ≤ 9223372036854775807
  at0 : 0 < la → ad = some ⟨ab, ao, none⟩ ∧ ab < w.heap.size
  cell : ∀ i, i < la → ∀ j, j < 4 → w.cell? ⟨ab, ao + i * 4 + j, none⟩ = (X i).cs[j]?
  num : ∀ i, i < la → ShoB (X i)
theorem Shc.below {w w' : World} {ad : Option Addr} {la cap ab ao : Nat} {X : Nat → ShoV} (h : Shc w ad la cap ab ao X) (hb : Below w.heap.size w w') : Shc w' ad la cap ab ao X :=
  ⟨h.len, h.cap, fun q => ⟨(h.at0 q).1, Nat.lt_of_lt_of_le (h.at0 q).2 hb.size⟩, fun i hi j hj => by
    have hlt := (h.at0 (by omega)).2
    have e : ∀ o, w'.cell? ⟨ab, o, none⟩ = w.cell? ⟨ab, o, none⟩ := fun o => World.cell?_of_block (w := w) (hb.block _ hlt)
    rw [e]; exact h.cell i hi j hj, h.num⟩
structure SopV where
  kind : Int
  frame : Int
  perm : Int
  size : Int
  page : Int
  addr : Int
  v : Int
def SopV.cs (x : SopV) : List Value := [.int .i64 x.kind, .int .i64 x.frame, .int .i64 x.perm, .int .i64 x.size, .int .u64 x.page, .int .u64 x.addr, .int .u64 x.v]
structure SopB (x : SopV) : Prop where
  kind : -9223372036854775808 ≤ x.kind ∧ x.kind ≤ 9223372036854775807
  frame : -9223372036854775808 ≤ x.frame ∧ x.frame ≤ 9223372036854775807
  perm : -9223372036854775808 ≤ x.perm ∧ x.perm ≤ 9223372036854775807
  size : -9223372036854775808 ≤ x.size ∧ x.size ≤ 9223372036854775807
  page : 0 ≤ x.page ∧ x.page < 18446744073709551616
  addr : 0 ≤ x.addr ∧ x.addr < 18446744073709551616
  v : 0 ≤ x.v ∧ x.v < 18446744073709551616
structure Soc (w : World) (ad : Option Addr) (la cap ab ao : Nat) (X : Nat → SopV) : Prop where
  len : la ≤ cap
  cap : cap ≤ 9223372036854775807
  at0 : 0 < la → ad = some ⟨ab, ao, none⟩ ∧ ab < w.heap.size
  cell : ∀ i, i < la → ∀ j, j < 7 → w.cell? ⟨ab, ao + i * 7 + j, none⟩ = (X i).cs[j]?
  num : ∀ i, i < la → SopB (X i)
theorem Soc.below {w w' : World} {ad : Option Addr} {la cap ab ao : Nat} {X : Nat → SopV} (h : Soc w ad la cap ab ao X) (hb : Below w.heap.size w w') : Soc w' ad la cap ab ao X :=
  ⟨h.len, h.cap, fun q => ⟨(h.at0 q).1, Nat.lt_of_lt_of_le (h.at0 q).2 hb.size⟩, fun i hi j hj => by
    have hlt := (h.at0 (by omega)).2
    have e : ∀ o, w'.cell? ⟨ab, o, none⟩ = w.cell? ⟨ab, o, none⟩ := fun o => World.cell?_of_block (w := w) (hb.block _ hlt)
    rw [e]; exact h.cell i hi j hj, h.num⟩
theorem under_sop : Try.prog.underlying 39 = some (.struct (Try.prog.fieldsOf 39)) := by kernel_rfl
theorem cells_sop : Try.prog.cellsOf 39 = 7 := by kernel_rfl
theorem u_sSOp : Try.prog.underlying 23 = some (.slice 39) := by kernel_rfl
set_option maxRecDepth 100000 in
theorem open_sop {H : Type} {enc : TypeId × Value → H} {W : World} {base fuel : Nat} {cs : List Value} {x : DataW H × List MemPlace} (h : DataW.trod enc Try.prog W base (fun _ => true) true fuel 39 cs = some x) :
    ∃ X : SopV, cs = X.cs ∧ SopB X := by
  obtain ⟨xs, n, _, rfl, hcl, hlen, hfs⟩ := DataW.trod_struct under_sop h
  have hl : xs.length = 7 := by rw [hlen]; kernel_rfl
  rw [cells_sop] at hcl
  obtain ⟨f0, e0, t0, o0⟩ := fld8 (T := 39) (k := 0) (t := 3) (o := 0) (by kernel_rfl)
  have q0 := hfs 0 f0 e0
  rw [t0, o0, cells_i8, List.getElem?_eq_getElem (by omega)] at q0
  obtain ⟨z0, r0, _, w0⟩ := DataW.trod_int Try.underlying3 q0
  obtain ⟨f1, e1, t1, o1⟩ := fld8 (T := 39) (k := 1) (t := 3) (o := 1) (by kernel_rfl)
  have q1 := hfs 1 f1 e1
  rw [t1, o1, cells_i8, List.getElem?_eq_getElem (by omega)] at q1
  obtain ⟨z1, r1, _, w1⟩ := DataW.trod_int Try.underlying3 q1
  obtain ⟨f2, e2, t2, o2⟩ := fld8 (T := 39) (k := 2) (t := 3) (o := 2) (by kernel_rfl)
  have q2 := hfs 2 f2 e2
  rw [t2, o2, cells_i8, List.getElem?_eq_getElem (by omega)] at q2
  obtain ⟨z2, r2, _, w2⟩ := DataW.trod_int Try.underlying3 q2
  obtain ⟨f3, e3, t3, o3⟩ := fld8 (T := 39) (k := 3) (t := 3) (o := 3) (by kernel_rfl)
  have q3 := hfs 3 f3 e3
  rw [t3, o3, cells_i8, List.getElem?_eq_getElem (by omega)] at q3
  obtain ⟨z3, r3, _, w3⟩ := DataW.trod_int Try.underlying3 q3
  obtain ⟨f4, e4, t4, o4⟩ := fld8 (T := 39) (k := 4) (t := 22) (o := 4) (by kernel_rfl)
  have q4 := hfs 4 f4 e4
  rw [t4, o4, cells_u8, List.getElem?_eq_getElem (by omega)] at q4
  obtain ⟨z4, r4, _, w4⟩ := DataW.trod_int Try.underlying22 q4
  obtain ⟨f5, e5, t5, o5⟩ := fld8 (T := 39) (k := 5) (t := 22) (o := 5) (by kernel_rfl)
  have q5 := hfs 5 f5 e5
  rw [t5, o5, cells_u8, List.getElem?_eq_getElem (by omega)] at q5
  obtain ⟨z5, r5, _, w5⟩ := DataW.trod_int Try.underlying22 q5
  obtain ⟨f6, e6, t6, o6⟩ := fld8 (T := 39) (k := 6) (t := 22) (o := 6) (by kernel_rfl)
  have q6 := hfs 6 f6 e6
  rw [t6, o6, cells_u8, List.getElem?_eq_getElem (by omega)] at q6
  obtain ⟨z6, r6, _, w6⟩ := DataW.trod_int Try.underlying22 q6
  obtain ⟨c0, c1, c2, c3, c4, c5, c6, rfl⟩ : ∃ c0 c1 c2 c3 c4 c5 c6, cs = [c0, c1, c2, c3, c4, c5, c6] := by
    match cs, hcl with
    | [c0, c1, c2, c3, c4, c5, c6], _ => exact ⟨c0, c1, c2, c3, c4, c5, c6, rfl⟩
  simp at r0 r1 r2 r3 r4 r5 r6
  subst r0 r1 r2 r3 r4 r5 r6
  have b4 := bounds_u64 w4
  have b5 := bounds_u64 w5
  have b6 := bounds_u64 w6
  exact ⟨⟨z0, z1, z2, z3, z4, z5, z6⟩, rfl, ⟨bounds_i64 w0, bounds_i64 w1, bounds_i64 w2, bounds_i64 w3, ⟨b4.1, by show z4 < _; omega⟩, ⟨b5.1, by show z5 < _; omega⟩, ⟨b6.1, by show z6 < _; omega⟩⟩⟩
set_option maxRecDepth 100000 in
/-- a script, as it stands -/
theorem open_sops {H : Type} {enc : TypeId × Value → H} {W : World} {base : Nat} {r : Reach} {b : Nat} {v : Value} {d : DataW H} {p : List MemPlace}
    (hv : Value.okWide Try.prog W r b 23 v) (h : DataW.Trod enc Try.prog W base (fun _ => true) true 23 v d p) (hlt : ∀ x ∈ p, x.block < W.heap.size) :
    ∃ (ad : Option Addr) (la cap ab ao : Nat) (X : Nat → SopV), v = .slice ad la cap ∧ Soc W ad la cap ab ao X := by
  obtain ⟨a0, len, cap, rfl⟩ := okWide_slice u_sSOp hv
  obtain ⟨fuel, hf⟩ := h
  rcases open_slice u_sSOp hf with ⟨hcs, hx⟩ | ⟨a, len', cap', m, n, D, Pl, hcs, _, hl, hm, hmm, hx, hel⟩
  · simp [Value.cells] at hcs
    obtain ⟨rfl, rfl, rfl⟩ := hcs
    exact ⟨none, 0, 0, 0, 0, fun _ => ⟨0, 0, 0, 0, 0, 0, 0⟩, rfl, ⟨Nat.le_refl _, by decide, fun q => absurd q (by decide), fun i hi => absurd hi (Nat.not_lt_zero i), fun i hi => absurd hi (Nat.not_lt_zero i)⟩⟩
  · simp [Value.cells] at hcs
    obtain ⟨rfl, rfl, rfl⟩ := hcs
    simp only [if_true] at hmm
    have each : ∀ i, ∃ X : SopV, i < len → SopB X ∧ ∀ j, j < 7 → W.cell? (a.add (i * 7 + j)) = X.cs[j]? := fun i => by
      rcases Nat.lt_or_ge i len with hi | hi
      · obtain ⟨cs', h1, h2⟩ := hel i (by omega)
        obtain ⟨X, rfl, b0⟩ := open_sop h2
        rw [cells_sop] at h1
        obtain ⟨_, hlen, hcell⟩ := World.cells?_some h1
        refine ⟨X, fun _ => ⟨b0, fun j hj => ?_⟩⟩
        have := hcell j hj
        rw [addr_two] at this
        exact this
      · exact ⟨⟨0, 0, 0, 0, 0, 0, 0⟩, fun q => by omega⟩
    obtain ⟨X, hX⟩ := Classical.axiomOfChoice each
    clear each
    have hbl : ∀ h0 : 0 < len, a.spot = none ∧ a.block < W.heap.size := fun h0 => by
      have k0 := (hX 0 h0).2 0 (by decide)
      refine ⟨by simpa [Addr.add] using World.cell?_spot k0, ?_⟩
      obtain ⟨cs', h1, _⟩ := hel 0 (by omega)
      rw [cells_sop] at h1
      have := World.cells?_block h1 (by decide)
      simpa [Addr.add] using this
    obtain ⟨ab, ao, asp⟩ := a
    refine ⟨some ⟨ab, ao, asp⟩, len, cap, ab, ao, X, rfl, ⟨hl, by simpa [maxLen] using hm, fun h0 => ?_, fun i hi j hj => ?_, fun i hi => (hX i hi).1⟩⟩
    · obtain ⟨q1, q2⟩ := hbl h0
      obtain rfl : asp = none := q1
      exact ⟨rfl, q2⟩
    · obtain ⟨q1, q2⟩ := hbl (by omega)
      obtain rfl : asp = none := q1
      have k := (hX i hi).2 j hj
      rw [C.addr_add, ← Nat.add_assoc] at k
      exact k
theorem bytes_sop : Try.prog.bytesOf 39 = 56 := by kernel_rfl
set_option maxRecDepth 100000 in
theorem sops_len {H : Type} {enc : TypeId × Value → H} {W : World} {base : Nat} {ad : Option Addr} {la cap : Nat} {d : DataW H} {p : List MemPlace} (h : DataW.Trod enc Try.prog W base (fun _ => true) true 23 (.slice ad la cap) d p) (hw : ∀ n ∈ d.weights Try.prog 23, n ≤ reachBytes) : la ≤ 8796093022208 := by
  obtain ⟨fuel, hf⟩ := h
  rcases open_slice u_sSOp hf with ⟨hcs, hx⟩ | ⟨a, len', cap', m, n, D, Pl, hcs, _, hl, hm, hmm, hx, hel⟩
  · simp [Value.cells] at hcs
    obtain ⟨rfl, rfl, rfl⟩ := hcs
    exact Nat.zero_le _
  · simp [Value.cells] at hcs
    obtain ⟨rfl, rfl, rfl⟩ := hcs
    simp only [Prod.mk.injEq] at hx
    obtain ⟨rfl, rfl⟩ := hx
    have h2 := hw ((((List.range la).map D).length + ((List.range (m - la)).map fun j => D (la + j)).length) * Try.prog.bytesOf 39) (by simp [DataW.weights])
    rw [bytes_sop] at h2
    simp [reachBytes] at h2
    omega
end Go.Proofs.Ytekkjalfiogenaa
namespace Go.Proofs.Ytekkjalfiogenaa
open Go.RowKit
open C (Only hid RMem)
set_option linter.unusedVariables false
set_option maxRecDepth 100000

theorem rmem_c {w : World} {T : Nat → Prop} {dm : Nat} {b : Int} {n : Nat} {f : Nat → Int} (h : RMem w T dm b n f) : w.cell? ⟨dm, 0, none⟩ = some (.int .u64 b) ∧ w.cell? ⟨dm, 1, none⟩ = some (.int .i64 n) := by
  obtain ⟨g, hs, hr, rfl, -⟩ := h
  exact ⟨cell_of_row w dm 0 _ _ _ hr.top, cell_of_row w dm 1 _ _ _ hr.top⟩
theorem pgx_at (s : SV) : ∀ (L : List Nat) (i : Nat) (hi : i < L.length), (pgx s L)[i * 3]? = some (.int .u64 ((L[i] : Nat) : Int))
  | p :: L, 0, _ => rfl
  | p :: L, i + 1, hi => by
    have := pgx_at s L i (by simpa using hi)
    show (pgc (p : Int) (s.pf p) (s.pp p) ++ pgx s L)[(i + 1) * 3]? = _
    rw [List.getElem?_append_right (by show 3 ≤ _; omega)]
    show (pgx s L)[(i + 1) * 3 - 3]? = _
    rw [show (i + 1) * 3 - 3 = i * 3 by omega, this]
    rfl
/-- a rising list of numbers below a bound is no longer than that -/
theorem up_len : ∀ (L : List Nat) (a b : Nat), L.Pairwise (· < ·) → (∀ y ∈ L, a ≤ y ∧ y < b) → a ≤ b → L.length ≤ b - a
  | [], a, b, _, _, _ => Nat.zero_le _
  | y :: L, a, b, h1, h2, h3 => by
    have k := List.pairwise_cons.1 h1
    have q := h2 y (by simp)
    have := up_len L (y + 1) b k.2 (fun z hz => ⟨k.1 z hz, (h2 z (by simp [hz])).2⟩) (by omega)
    simp only [List.length_cons]
    omega
theorem pg_len {s : SV} {v : PV} {f : Nat → Int} {L : List Nat} (h : PgL s L) (hi : Inv s v f) : L.length ≤ 134217728 := up_len L 0 134217728 h.up (fun y hy => ⟨Nat.zero_le _, hi.pplt ((h.mem y).1 hy)⟩) (by decide)
def onc (q qd p pd m dm : Nat) : Array Value := #[.pointer (some ⟨q, 0, none⟩), .pointer (some ⟨qd, 0, none⟩), .pointer (some ⟨p, 0, none⟩), .pointer (some ⟨pd, 0, none⟩), .pointer (some ⟨m, 0, none⟩), .pointer (some ⟨dm, 0, none⟩)]
/-- which blocks there are -/
structure Nm where
  q : Nat
  qd : Nat
  p : Nat
  pd : Nat
  m : Nat
  dm : Nat
  ob : Nat
  b : Int
  n : Nat
/-- the law's space; x: what it is -/
structure Tt (W w : World) (N : Nm) (x : TX) : Prop where
  st : ∃ F u G ud v2 f2, OB W w F u N.q N.p G ud (.slice none 0 0) N.qd N.pd N.dm x.s x.v x.f (s0 1) v2 f2 2 [] ∧ ¬ Ar F u N.q N.ob ∧ v2.b = N.b ∧ v2.n = N.n
  on : w.heap[N.ob]? = some (.cells (onc N.q N.qd N.p N.pd N.m N.dm) 33 (0, 0))
  ow : Ow x.s x.v
  vn : x.v.n = N.n
  vb : x.v.b = N.b
  vm : x.v.m = N.m
section
variable {W w w' : World} {N : Nm} {x y : TX}
theorem Tt.bel (h : Tt W w N x) : Below W.heap.size W w := by obtain ⟨F, u, G, ud, v2, f2, h1, -⟩ := h.st; exact h1.new
theorem Tt.below (h : Tt W w N x) (hb : Below w.heap.size w w') : Tt W w' N x := by
  obtain ⟨F, u, G, ud, v2, f2, h1, h2⟩ := h.st
  exact ⟨⟨F, u, G, ud, v2, f2, h1.below hb, h2⟩, (hb.block _ (lt_of_block h.on)).trans h.on, h.ow, h.vn, h.vb, h.vm⟩
theorem Tt.inv (h : Tt W w N x) : Inv x.s x.v x.f := by obtain ⟨F, u, G, ud, v2, f2, h1, -⟩ := h.st; exact h1.sp.iv
theorem Tt.sps (h : Tt W w N x) : ∃ F u, SPs w F u N.q N.p x.s x.v x.f 2 := by obtain ⟨F, u, G, ud, v2, f2, h1, -⟩ := h.st; exact ⟨F, u, h1.sp⟩
theorem Tt.con (h : Tt W w N x) (i : Nat) (v : Value) (hv : (onc N.q N.qd N.p N.pd N.m N.dm)[i]? = some v) : w.cell? ⟨N.ob, i, none⟩ = some v := by
  rw [cell_of_row w N.ob i _ _ _ h.on]; exact hv
theorem Tt.doc (h : Tt W w N x) : w.cell? ⟨N.dm, 0, none⟩ = some (.int .u64 N.b) ∧ w.cell? ⟨N.dm, 1, none⟩ = some (.int .i64 N.n) := by
  obtain ⟨F, u, G, ud, v2, f2, h1, -, h2, h3⟩ := h.st
  obtain ⟨S, hS, -⟩ := h1.ds.dp.open
  rw [h2, h3] at hS
  exact rmem_c hS
theorem Tt.any (h : Tt W w N x) {f : FuncId} {args : Array Value} {r0 : Value} (hc : ∀ F u, SPs w F u N.q N.p x.s x.v x.f 2 → Calls Try.prog f args w fun r w' => r = .returned r0 ∧ Tnx w w' F u N.q N.p y 2) (how : Ow y.s y.v) (hn : y.v.n = x.v.n) (hb : y.v.b = x.v.b) (hm : y.v.m = x.v.m) : Calls Try.prog f args w fun r w' => r = .returned r0 ∧ Tt W w' N y := by
  obtain ⟨F, u, G, ud, v2, f2, h1, h2, h3, h4⟩ := h.st
  refine (hc F u h1.sp).mono ?_
  rintro r w' ⟨rfl, F', u', k1, k2, k3⟩
  exact ⟨rfl, ⟨F', u', G, ud, v2, f2, h1.turnP k1 k2 k3, fun z => (k3 _ z).elim h2 fun z => by have := lt_of_block h.on; omega, h3, h4⟩, k2.old h.on h2, how, hn.trans h.vn, hb.trans h.vb, hm.trans h.vm⟩
theorem tt_Map (h : Tt W w N x) (page fr pm : Int) (p0 : 0 ≤ page) (m0 : -9223372036854775808 ≤ pm) (m1 : pm ≤ 9223372036854775807) (hof : 1 ≤ ownF x.v fr) : Calls Try.prog 16 #[.pointer (some ⟨N.q, 0, none⟩), .int .u64 page, .int .i64 fr, .int .i64 pm] w fun r w' => r = .returned (.int .i64 (mapC x page fr pm)) ∧ Tt W w' N (mpT x page fr pm) := by
  have ho : 0 ≤ fr → fr < x.v.n → 1 ≤ x.v.o fr.toNat := fun a b => by
    unfold ownF at hof
    cases e : hasF x.v fr
    · rw [e] at hof; exact absurd (show (1 : Int) ≤ -1 from hof) (by decide)
    · rw [e] at hof; exact hof
  have := v_mpT x page fr pm
  exact h.any (fun F u hs => xa_Map hs page fr pm p0 m0 m1 h.ow ho) (ow_mpT h.ow h.inv ho) this.1 this.2.1 this.2.2.1
theorem tt_Unmap (h : Tt W w N x) (page : Int) (p0 : 0 ≤ page) : Calls Try.prog 17 #[.pointer (some ⟨N.q, 0, none⟩), .int .u64 page] w fun r w' => r = .returned (.tuple #[.int .i64 (umF x page), .int .i64 (umC x page)]) ∧ Tt W w' N (umT x page) :=
  h.any (fun F u hs => xa_Unmap hs page p0) (ow_umT h.ow) (by rw [(v_umT x page).1]) (by rw [(v_umT x page).1]) (by rw [(v_umT x page).1])
theorem tt_Protect (h : Tt W w N x) (page pm : Int) (p0 : 0 ≤ page) (m0 : -9223372036854775808 ≤ pm) (m1 : pm ≤ 9223372036854775807) : Calls Try.prog 18 #[.pointer (some ⟨N.q, 0, none⟩), .int .u64 page, .int .i64 pm] w fun r w' => r = .returned (.int .i64 (ptC x page pm)) ∧ Tt W w' N (ptT x page pm) :=
  h.any (fun F u hs => xa_Protect hs page pm p0 m0 m1) (ow_ptT h.ow) (by rw [(v_ptT x page pm).1]) (by rw [(v_ptT x page pm).1]) (by rw [(v_ptT x page pm).1])
theorem tt_Write (h : Tt W w N x) (a n y : Int) (a0 : 0 ≤ a) (a1 : a < 18446744073709551616) (y0 : 0 ≤ y) (y1 : y < 18446744073709551616) : Calls Try.prog 19 #[.pointer (some ⟨N.q, 0, none⟩), .int .u64 a, .int .i64 n, .int .u64 y] w fun r w' => r = .returned (.bool (wrB x a n)) ∧ Tt W w' N (wrT x a n y) :=
  h.any (fun F u hs => xa_Write hs a n y a0 a1 y0 y1) (ow_wrT h.ow) (by rw [(v_wrT x a n y).1]) (by rw [(v_wrT x a n y).1]) (by rw [(v_wrT x a n y).1])
theorem tt_Take (h : Tt W w N x) : Calls Try.prog 20 #[.pointer (some ⟨N.p, 0, none⟩), .int .i64 3] w fun r w' => r = .returned (.tuple #[.int .i64 (tk x.v 3).1, .int .i64 (tk x.v 3).2.1]) ∧ Tt W w' N (tkT x 3) :=
  h.any (fun F u hs => xa_Take hs 3 (by decide)) (ow_tkT h.ow) (v_tkT x 3).1 (v_tkT x 3).2.1 (v_tkT x 3).2.2.1
theorem tt_Owner (h : Tt W w N x) (fr : Int) : Calls Try.prog 12 #[.pointer (some ⟨N.p, 0, none⟩), .int .i64 fr] w fun r w' => r = .returned (.int .i64 (ownF x.v fr)) ∧ w' = w := by
  obtain ⟨F, u, hs⟩ := h.sps
  obtain ⟨g, d, k, B, S, hp, ok, hF⟩ := hs.pl
  exact c_Owner w N.p g d k B S x.v x.f hp ok fr
theorem tt_Tables (h : Tt W w N x) : Calls Try.prog 21 #[.pointer (some ⟨N.q, 0, none⟩)] w fun r w' => ∃ cp g, r = .returned (.slice (some ⟨g, 0, none⟩) x.s.l.length cp) ∧ x.s.l.length ≤ cp ∧ cp ≤ 9223372036854775807 ∧ g < w'.heap.size ∧ (∀ i, i < x.s.l.length → ∃ y : Nat, w'.cell? ⟨g, i, none⟩ = some (.int .i64 (y : Int)) ∧ ownF x.v y = -1) ∧ Tt W w' N x := by
  obtain ⟨F, u, hs⟩ := h.sps
  refine (x_Tables w F u N.q N.p x.s x.v x.f 2 hs).mono ?_
  rintro r w' ⟨z, rfl, k1, k2⟩
  obtain ⟨l0, e0⟩ := h.inv.l0
  rcases k1.2 with ⟨-, h2⟩ | ⟨g, cap, cur, h1, -, h3, h4, h5, h6, h7⟩
  · rw [e0] at h2; cases h2
  · refine ⟨cap, g, by rw [h1], h4, h5, lt_of_block h3, fun i hi => ⟨x.s.l[i], ?_, ?_⟩, h.below k2⟩
    · rw [cell_of_row w' g i _ _ _ h3]
      have : (cur.toList.take (x.s.l.length * 1))[i]? = (lsv x.s.l)[i]? := by rw [h7]
      rw [List.getElem?_take_of_lt (by omega), Array.getElem?_toList] at this
      rw [this]
      simp [lsv, hi]
    · obtain ⟨t1, t2, t3⟩ := h.inv.tr _ ((h.inv.lm x.s.l[i]).1 (List.getElem_mem hi))
      unfold ownF
      rw [show hasF x.v ((x.s.l[i] : Nat) : Int) = true by unfold hasF; simp; omega]
      show x.v.o (((x.s.l[i] : Nat) : Int)).toNat = -1
      rw [Int.toNat_natCast]; exact t2
theorem tt_Pages (h : Tt W w N x) : Calls Try.prog 22 #[.pointer (some ⟨N.q, 0, none⟩)] w fun r w' => ∃ ad pn cp g cur, r = .returned (.slice ad pn cp) ∧ pn ≤ cp ∧ cp ≤ 9223372036854775807 ∧ pn ≤ 134217728 ∧ (0 < pn → ad = some ⟨g, 0, none⟩ ∧ w'.heap[g]? = some (.cells cur 41 (0, 0))) ∧ (∀ i, i < pn → ∃ y : Nat, cur[i * 3]? = some (.int .u64 (y : Int)) ∧ y < 134217728) ∧ Below w.heap.size w w' := by
  obtain ⟨F, u, hs⟩ := h.sps
  refine (x_Pages w F u N.q N.p x.s x.v x.f 2 hs).mono ?_
  rintro r w' ⟨z, rfl, k1, k2⟩
  have hl : (pL2 x.s).length ≤ 134217728 := pg_len (pgl x.s h.inv) h.inv
  rcases k1.2 with ⟨h1, h2⟩ | ⟨g, cap, cur, h1, -, h3, h4, h5, h6, h7⟩
  · refine ⟨none, 0, 0, 0, #[], by rw [h1], Nat.le_refl _, by decide, by decide, fun q => by omega, fun i hi => by omega, k2⟩
  · refine ⟨_, (pL2 x.s).length, cap, g, cur, by rw [h1], h4, h5, hl, fun _ => ⟨rfl, h3⟩, fun i hi => ⟨(pL2 x.s)[i], ?_, ?_⟩, k2⟩
    · have : (cur.toList.take ((pL2 x.s).length * 3))[i * 3]? = (pgx x.s (pL2 x.s))[i * 3]? := by rw [h7]
      rw [List.getElem?_take_of_lt (by omega), Array.getElem?_toList] at this
      rw [this]
      exact pgx_at x.s (pL2 x.s) i hi
    · exact h.inv.pplt ((pgl x.s h.inv).mem _ |>.1 (List.getElem_mem hi))
end
end Go.Proofs.Ytekkjalfiogenaa
namespace Go.Proofs.Ytekkjalfiogenaa
open Go.RowKit
open C (Only hid)
set_option linter.unusedVariables false
set_option maxRecDepth 100000

/-- operations that turn something, one behind the other: as far as they are done -/
def VS {α : Type} (z : List Nat) (M : Nat → α → World → Prop) (x : α) (listed : Array Bool) (w : World) : Prop := ∃ s : Nat, (∀ i k, z[i]? = some k → listed.getD k false = decide (i < s)) ∧ M s x w
section
variable {α : Type} {z : List Nat} {M : Nat → α → World → Prop} {x y : α} {listed : Array Bool} {w w' : World}
theorem VS.start {n : Nat} (h : M 0 x w) : VS z M x (Array.replicate n false) w := ⟨0, fun i k hk => by
  have : (Array.replicate n false).getD k false = false := by
    simp only [Array.getD_eq_getD_getElem?, Array.getElem?_replicate]
    split <;> rfl
  rw [this]; simp, h⟩
theorem VS.q (h : VS z M x listed w) {j : Nat} (hj : j < listed.size) (n1 : z.contains j = false) : VS z M x (listed.setIfInBounds j true) w := by
  obtain ⟨s, h1, h2⟩ := h
  refine ⟨s, fun i k hk => ?_, h2⟩
  rw [getD_set _ _ _ hj, if_neg ?_]
  · exact h1 i k hk
  · rintro rfl
    have : z.contains k = true := List.contains_iff_mem.2 (List.mem_of_getElem? hk)
    rw [n1] at this; cases this
theorem VS.mono (h : VS z M x listed w) (hm : ∀ s, M s x w → M s y w') : VS z M y listed w' := by
  obtain ⟨s, h1, h2⟩ := h
  exact ⟨s, h1, hm s h2⟩
/-- the one that comes now: just what is ahead of it is done -/
theorem VS.at (h : VS z M x listed w) (i : Nat) {k : Nat} (hk : z[i]? = some k) (hl : listed.getD k false = false) (hp : ∀ j, i = j + 1 → ∃ m, z[j]? = some m ∧ listed.getD m false = true) : M i x w := by
  obtain ⟨s, h1, h2⟩ := h
  have a := h1 i k hk
  rw [hl] at a
  have a' : ¬ i < s := by simpa using a.symm
  have : s = i := by
    cases i with
    | zero => omega
    | succ j =>
      obtain ⟨m, b1, b2⟩ := hp j rfl
      have b := h1 j m b1
      rw [b2] at b
      have : j < s := by simpa using b.symm
      omega
  rw [← this]; exact h2
theorem VS.go (h : VS z M x listed w) (i : Nat) {k : Nat} (hj : k < listed.size) (hk : z[i]? = some k) (hl : listed.getD k false = false) (hp : ∀ j, i = j + 1 → ∃ m, z[j]? = some m ∧ listed.getD m false = true) (hn : ∀ a, z[a]? = some k → a = i) (hm : M (i + 1) y w') : VS z M y (listed.setIfInBounds k true) w' := by
  obtain ⟨s, h1, h2⟩ := h
  have a := h1 i k hk
  rw [hl] at a
  have a' : ¬ i < s := by simpa using a.symm
  have hs : s = i := by
    cases i with
    | zero => omega
    | succ j =>
      obtain ⟨m, b1, b2⟩ := hp j rfl
      have b := h1 j m b1
      rw [b2] at b
      have : j < s := by simpa using b.symm
      omega
  subst hs
  refine ⟨s + 1, fun a b hb => ?_, hm⟩
  rw [getD_set _ _ _ hj]
  by_cases e : b = k
  · subst e
    rw [if_pos rfl, hn a hb]; simp
  · rw [if_neg e, h1 a b hb]
    have : a ≠ s := fun q => by subst q; rw [hk] at hb; exact e (Option.some.inj hb).symm
    by_cases q : a < s
    · have : a < s + 1 := by omega
      simp [q, this]
    · have : ¬ a < s + 1 := by omega
      simp [q, this]
theorem VS.end (h : VS z M x listed w) (i : Nat) {k : Nat} (hk : z[i]? = some k) (hl : listed.getD k false = true) (hz : ∀ s, i < s → M s x w → M (i + 1) x w) : M (i + 1) x w := by
  obtain ⟨s, h1, h2⟩ := h
  have a := h1 i k hk
  rw [hl] at a
  have a' : i < s := by simpa using a.symm
  exact hz s a' h2
end
/-- the same, with an operation L that waits for those below B -/
def VL {α : Type} (z : List Nat) (L B : Nat) (M : Nat → α → World → Prop) (x : α) (listed : Array Bool) (w : World) : Prop := VS z M x listed w ∧ (listed.getD L false = true → ∀ j, j < B → listed.getD j false = true)
section
variable {α : Type} {z : List Nat} {L B : Nat} {M : Nat → α → World → Prop} {x y : α} {listed : Array Bool} {w w' : World}
theorem VL.start {n : Nat} (h : M 0 x w) : VL z L B M x (Array.replicate n false) w := ⟨.start h, fun a => by
  have : (Array.replicate n false).getD L false = false := by
    simp only [Array.getD_eq_getD_getElem?, Array.getElem?_replicate]
    split <;> rfl
  rw [this] at a; cases a⟩
theorem VL.not (h : VL z L B M x listed w) {j : Nat} (hl : listed.getD j false = false) (hj : j < B) : listed.getD L false = false := by
  cases e : listed.getD L false
  · rfl
  · have := h.2 e j hj; rw [hl] at this; cases this
theorem VL.keep (h : VL z L B M x listed w) {j : Nat} (hs : j < listed.size) (hj : j ≠ L) : (listed.setIfInBounds j true).getD L false = true → ∀ i, i < B → (listed.setIfInBounds j true).getD i false = true := fun a i hi => by
  rw [getD_set _ _ _ hs, if_neg (fun q => hj q.symm)] at a
  rw [getD_set _ _ _ hs]
  split
  · rfl
  · exact h.2 a i hi
theorem VL.q (h : VL z L B M x listed w) {j : Nat} (hs : j < listed.size) (n1 : z.contains j = false) (hj : j ≠ L) : VL z L B M x (listed.setIfInBounds j true) w := ⟨h.1.q hs n1, h.keep hs hj⟩
theorem VL.go (h : VL z L B M x listed w) (i : Nat) {k : Nat} (hj : k < listed.size) (hk : z[i]? = some k) (hl : listed.getD k false = false) (hp : ∀ j, i = j + 1 → ∃ m, z[j]? = some m ∧ listed.getD m false = true) (hn : ∀ a, z[a]? = some k → a = i) (hm : M (i + 1) y w') (hL : k ≠ L) : VL z L B M y (listed.setIfInBounds k true) w' := ⟨h.1.go i hj hk hl hp hn hm, h.keep hj hL⟩
theorem VL.last (h : VL z L B M x listed w) (i : Nat) (hj : L < listed.size) (hk : z[i]? = some L) (hl : listed.getD L false = false) (hp : ∀ j, i = j + 1 → ∃ m, z[j]? = some m ∧ listed.getD m false = true) (hn : ∀ a, z[a]? = some L → a = i) (hm : M (i + 1) y w') (ha : ∀ j, j < B → listed.getD j false = true) : VL z L B M y (listed.setIfInBounds L true) w' := ⟨h.1.go i hj hk hl hp hn hm, fun _ j hj' => by
  rw [getD_set _ _ _ hj]
  split
  · rfl
  · exact ha j hj'⟩
/-- ahead of the last: which stages there may be -/
theorem VL.upto (h : VL z L B M x listed w) (i : Nat) (hk : z[i]? = some L) {j : Nat} (hl : listed.getD j false = false) (hj : j < B) {C : Prop} (hc : ∀ s, s ≤ i → M s x w → C) : C := by
  have := h.not hl hj
  obtain ⟨⟨s, h1, h2⟩, -⟩ := h
  have a := h1 i L hk
  rw [this] at a
  exact hc s (Nat.le_of_not_lt (by simpa using a.symm)) h2
end
/-- buildSlice as a step -/
theorem wp_bs {P : Program} {ops : Array Oper} {Q : Exit → Act → World → Prop} {i : Nat} {o : Oper} {K : Act → World → Prop} {a : Act} {w : World} (ho : ops[i]? = some o) (hg : o.guard = none) (t e : TypeId) (len : Nat) (parts : Array (Nat × Operand)) (hop : o.op = .buildSlice t len parts)
    (cells : Array Value) (ie : TypeInfo) (z : Value)
    (hu : P.underlying t = some (.slice e)) (hie : P.info? e = some ie) (hz : ie.zero = some z) (hsmall : ¬ len * ie.size > 2 ^ 24) (hpos : ¬ len * ie.size = 0)
    (hf : Instr.fill (fun i => some (i * ie.size, ie.size)) ((Array.range (len * ie.size)).map (z.cells[· % z.cells.size]!)) (parts.map fun (i, x) => (i, a.eval x)).toList = some cells)
    (h : K (a.put o.dst (.slice (some ⟨w.heap.size, 0, none⟩) len len)) (w.alloc (.cells cells e))) : wpOp P ops Q i K a w := by
  refine wpOp_step ho fun K' hK => ?_
  rw [if_pos (by simp [Region.wanted, hg])]
  exact wp_buildSlice t e len parts hop cells ie z hu hie hz hsmall hpos hf (hK _ _ h)
theorem wp_c4 {P : Program} {ops : Array Oper} {Q : Exit → Act → World → Prop} {i : Nat} {o : Oper} {K : Act → World → Prop} {a : Act} {w : World} (ho : ops[i]? = some o) (hg : o.guard = none) (f : FuncId) (x y z t : Operand) (ts : Array TypeId) (hop : o.op = .call { callee := .value (.func f), args := #[x, y, z, t], argTypes := ts }) (vx vy vz vt : Value) (hx : a.eval x = vx) (hy : a.eval y = vy) (hz : a.eval z = vz) (ht : a.eval t = vt) (hnf : (callFunc f #[vx, vy, vz, vt]).run P w = .ok (.enter f #[vx, vy, vz, vt]) w) {R : Ending → World → Prop} (hc : Calls P f #[vx, vy, vz, vt] w R)
    (h : ∀ e w', R e w' → ∃ v, e = .returned v ∧ K (a.put o.dst v) w') : wpOp P ops Q i K a w := by
  refine wpOp_step ho fun K' hK => ?_
  rw [if_pos (by simp [Region.wanted, hg])]
  have he : (execOp a.eval o).run P w = .ok (.enter f #[vx, vy, vz, vt]) w := by
    have hf : a.eval (.func f) = .func (.func f) #[] #[] := rfl
    simp [execOp, hop, resolve, invoke, Deferred.ofValue, hf, hx, hy, hz, ht, hnf]
  unfold Oper.wp
  rw [he, Oper.upon_enter]
  refine hc.mono fun e w' hR => ?_
  obtain ⟨v, rfl, hk⟩ := h e w' hR
  exact hK _ _ hk

structure FrK (ops : Array Oper) (vt : Nat → Value) (t0 : Array Value) (listed : Array Bool) (a : Act) : Prop where
  q : FrQ ops vt t0 listed a
  old : ∀ j o d, ops[j]? = some o → o.dst = some d → listed.getD j false = false → a.tmps[d]? = t0[d]?
section
variable {ops : Array Oper} {vt : Nat → Value} {t0 : Array Value} {listed : Array Bool} {a : Act}
theorem FrK.start (hs : listed = Array.replicate ops.size false) : FrK ops vt t0 listed ⟨t0, []⟩ := ⟨.start hs, fun _ _ _ _ _ _ => rfl⟩
theorem FrK.put (h : FrK ops vt t0 listed a) (hn : ndB ops = true) {j : Nat} {o : Oper} {d : Nat} {v : Value} (ho : ops[j]? = some o) (hd : o.dst = some d) (hv : v = vt d) (hdl : d < t0.size) : FrK ops vt t0 (listed.setIfInBounds j true) (a.put o.dst v) := by
  refine ⟨h.q.put hn ho hd hv hdl, fun i p k hi hp hl => ?_⟩
  have hjl : j < listed.size := by rw [h.q.ls]; exact (Array.getElem?_eq_some_iff.1 ho).1
  rw [getD_set _ _ _ hjl] at hl
  have hne : i ≠ j := fun e => by rw [if_pos e] at hl; cases hl
  rw [if_neg hne] at hl
  have hdk : d ≠ k := fun e => by subst e; exact hne (ndB_spec hn hi ho hp hd)
  rw [hd]
  simp only [Act.put, Array.getElem?_setIfInBounds]
  rw [if_neg hdk]
  exact h.old i p k hi hp hl
theorem FrK.ev (h : FrK ops vt t0 listed a) {i : Nat} {o : Oper} {d : Nat} (hi : ops[i]? = some o) (hd : o.dst = some d) (hl : listed.getD i false = true) : a.tmps[d]?.getD undef = vt d := h.q.ev hi hd hl
theorem FrK.base (h : FrK ops vt t0 listed a) (d : Nat) (hd : (ops.toList.all fun o => o.dst != some d) = true) {v : Value} (hv : t0[d]? = some v) : a.tmps[d]?.getD undef = v := h.q.base d hd hv
theorem FrK.full (h : FrK ops vt t0 listed a) (hl : ∀ j, j < ops.size → listed.getD j false = true) : a = ⟨ops.toList.foldl (fillF vt) t0, []⟩ := h.q.full hl
end
theorem wpAny_fk {α : Type} {P : Program} {ops : Array Oper} {Q : Exit → Act → World → Prop} {t0 : Array Value} {w : World} (vt : α → Nat → Value) (V : α → Array Bool → World → Prop)
    (step : ∀ listed a w x, FrK ops (vt x) t0 listed a → V x listed w → ∀ i ∈ Region.ready .any ops listed, wpOp P ops Q i (fun a' w' => ∃ y, FrK ops (vt y) t0 (listed.setIfInBounds i true) a' ∧ V y (listed.setIfInBounds i true) w') a w)
    (fin : ∀ listed a w x, FrK ops (vt x) t0 listed a → V x listed w → Region.ready .any ops listed = [] → Q .normal a w) (x0 : α) (start : V x0 (Array.replicate ops.size false) w) :
    wpAny P .any ops Q ops.size (Array.replicate ops.size false) ⟨t0, []⟩ w :=
  C.wpAny_inv (fun listed fr wr => ∃ x, FrK ops (vt x) t0 listed fr ∧ V x listed wr) (fun l a w ⟨x, h1, h2⟩ i hi => step l a w x h1 h2 i hi) (fun l a w ⟨x, h1, h2⟩ hr => fin l a w x h1 h2 hr) _ _ _ _ (by simp) ⟨x0, FrK.start rfl, start⟩
theorem wp_qw {P : Program} {ops : Array Oper} {Q : Exit → Act → World → Prop} {i : Nat} {o : Oper} {K : Act → World → Prop} {a : Act} {w w' : World} {v : Value} (ho : ops[i]? = some o) (hw : Region.wanted o (yielded ops a.tmps) = true) (hr : (execOp a.eval o).run P w = .ok (.value v) w') (h : K (a.put o.dst v) w') : wpOp P ops Q i K a w := by
  refine wpOp_step ho fun K' hK => ?_
  rw [if_pos hw]
  unfold Oper.wp
  rw [hr]
  exact hK _ _ h
/-- a call of five arguments under a guard that holds -/
theorem wp_c5w {P : Program} {ops : Array Oper} {Q : Exit → Act → World → Prop} {i : Nat} {o : Oper} {K : Act → World → Prop} {a : Act} {w : World} (ho : ops[i]? = some o) (hw : Region.wanted o (yielded ops a.tmps) = true) (f : FuncId) (x y z t s : Operand) (ts : Array TypeId) (hop : o.op = .call { callee := .value (.func f), args := #[x, y, z, t, s], argTypes := ts }) (vx vy vz vt vs : Value) (hx : a.eval x = vx) (hy : a.eval y = vy) (hz : a.eval z = vz) (ht : a.eval t = vt) (hs : a.eval s = vs) (hnf : (callFunc f #[vx, vy, vz, vt, vs]).run P w = .ok (.enter f #[vx, vy, vz, vt, vs]) w) {R : Ending → World → Prop} (hc : Calls P f #[vx, vy, vz, vt, vs] w R)
    (h : ∀ e w', R e w' → ∃ v, e = .returned v ∧ K (a.put o.dst v) w') : wpOp P ops Q i K a w := by
  refine wpOp_step ho fun K' hK => ?_
  rw [if_pos hw]
  have he : (execOp a.eval o).run P w = .ok (.enter f #[vx, vy, vz, vt, vs]) w := by
    have hf : a.eval (.func f) = .func (.func f) #[] #[] := rfl
    simp [execOp, hop, resolve, invoke, Deferred.ofValue, hf, hx, hy, hz, ht, hs, hnf]
  unfold Oper.wp
  rw [he, Oper.upon_enter]
  refine hc.mono fun e w' hR => ?_
  obtain ⟨v, rfl, hk⟩ := h e w' hR
  exact hK _ _ hk
/-- the last operation, which turns nothing -/
theorem VL.lq {α : Type} {z : List Nat} {L B : Nat} {M : Nat → α → World → Prop} {x : α} {listed : Array Bool} {w : World} (h : VL z L B M x listed w) (hs : L < listed.size) (n1 : z.contains L = false) (ha : ∀ j, j < B → listed.getD j false = true) : VL z L B M x (listed.setIfInBounds L true) w := ⟨h.1.q hs n1, fun _ j hj' => by
  rw [getD_set _ _ _ hs]
  split
  · rfl
  · exact ha j hj'⟩

theorem FrK.swap {ops : Array Oper} {vt vt' : Nat → Value} {t0 : Array Value} {listed : Array Bool} {a : Act} (h : FrK ops vt t0 listed a) (hv : ∀ j o d, ops[j]? = some o → o.dst = some d → listed.getD j false = true → vt d = vt' d) : FrK ops vt' t0 listed a := ⟨h.q.swap hv, h.old⟩
theorem FrK.skip {ops : Array Oper} {vt : Nat → Value} {t0 : Array Value} {listed : Array Bool} {a : Act} (h : FrK ops vt t0 listed a) {j : Nat} {o : Oper} (ho : ops[j]? = some o) (hd : o.dst = none) (v : Value) : FrK ops vt t0 (listed.setIfInBounds j true) (a.put o.dst v) := by
  refine ⟨h.q.skip ho hd v, fun i p k hi hp hl => ?_⟩
  have hjl : j < listed.size := by rw [h.q.ls]; exact (Array.getElem?_eq_some_iff.1 ho).1
  rw [getD_set _ _ _ hjl] at hl
  have hne : i ≠ j := fun e => by rw [if_pos e] at hl; cases hl
  rw [if_neg hne] at hl
  rw [hd]
  exact h.old i p k hi hp hl
theorem allDoneB {ops : Array Oper} {listed : Array Bool} (hr : Region.ready .any ops listed = []) (hs : listed.size = ops.size) (hc : ((List.range ops.size).all fun j => (match ops[j]? with | some o => o.after.all fun e => !Region.binds .any e || decide (e.on < j) | none => true)) = true) : ∀ j, j < ops.size → listed.getD j false = true := by
  intro j
  induction j using Nat.strongRecOn with
  | _ j ih =>
    intro hj
    have h1 := List.all_eq_true.1 hc j (by simpa using hj)
    cases z : listed.getD j false with
    | true => rfl
    | false =>
      exfalso
      have hjo : ops[j]? = some ops[j] := by simp [hj]
      rw [hjo] at h1
      have : j ∈ Region.ready .any ops listed := by
        refine mem_ready.2 ⟨?_, ops[j], hjo, fun e he hb => ?_⟩
        · have hjl : j < listed.size := by rw [hs]; exact hj
          simp [hjl] at z ⊢
          exact z
        · have := Array.all_eq_true_iff_forall_mem.1 h1 e he
          have hlt : e.on < j := by simpa [hb] using this
          exact ih e.on hlt (Nat.lt_trans hlt hj)
      rw [hr] at this
      cases this
end Go.Proofs.Ytekkjalfiogenaa
namespace Go.Proofs.Ytekkjalfiogenaa
open Go.RowKit
open C (Only hid)
set_option linter.unusedVariables false
set_option maxRecDepth 100000

theorem info_u64T : (Try.prog.info? 22).map (fun i => (i.zero, i.size, i.bytes)) = some (some (.int .u64 0), 1, 8) := by kernel_rfl
theorem u_su64T : Try.prog.underlying 63 = some (.slice 22) := by kernel_rfl
def us (A : Nat → Int) (k : Nat) : List Value := (List.range k).map fun i => .int .u64 (A i)
/-- what is asked: k numbers, a list of its own; the pages beside it -/
structure Aq (wq w : World) (v : Value) (k : Nat) (pn pg : Nat) (cur : Array Value) (A : Nat → Int) : Prop where
  own : w.ownsRow 0 22 1 v k (us A k)
  num : ∀ i, 0 ≤ A i ∧ A i ≤ 134217728
  ge : ∀ g, Ug v g → wq.heap.size ≤ g
  bel : Below wq.heap.size wq w
  pg : 0 < pn → w.heap[pg]? = some (.cells cur 41 (0, 0))
section
variable {wq w w' : World} {v : Value} {k pn pg : Nat} {cur : Array Value} {A : Nat → Int}
theorem Aq.below (h : Aq wq w v k pn pg cur A) (hb : Below w.heap.size w w') : Aq wq w' v k pn pg cur A :=
  ⟨own_only h.own (T := fun _ => False) (.ofBelow hb) (fun _ _ z => z), h.num, h.ge, h.bel.trans (hb.mono h.bel.size), fun q => (hb.block _ (lt_of_block (h.pg q))).trans (h.pg q)⟩
theorem Aq.npg (h : Aq wq w v k pn pg cur A) (q : 0 < pn) : ¬ Ug v pg := fun z => by
  obtain ⟨c, hc⟩ := own_typ h.own z
  rw [h.pg q] at hc
  cases hc
def upA (A : Nat → Int) (k : Nat) (a b : Int) : Nat → Int := fun i => if i < k then A i else if i = k then a else b
theorem us_next (A : Nat → Int) (k : Nat) (a b : Int) : us A k ++ [.int .u64 a, .int .u64 b] = us (upA A k a b) (k + 2) := by
  unfold us
  rw [show k + 2 = (k + 1) + 1 by omega, List.range_succ, List.map_append, List.range_succ, List.map_append]
  have e1 : (List.range k).map (fun i => Value.int .u64 (upA A k a b i)) = (List.range k).map fun i => Value.int .u64 (A i) := by
    apply List.map_congr_left
    intro i hi
    unfold upA
    rw [if_pos (by simpa using hi)]
  rw [e1]
  simp [upA]
  intro z; omega
theorem Aq.next (h : Aq wq w v k pn pg cur A) {v' : Value} {a b : Int} (h1 : w'.ownsRow 0 22 1 v' (k + 2) (us A k ++ [.int .u64 a, .int .u64 b])) (h2 : Only (Ug v) w w') (h3 : ∀ g, Ug v' g → Ug v g ∨ w.heap.size ≤ g) (ha : 0 ≤ a ∧ a ≤ 134217728) (hb : 0 ≤ b ∧ b ≤ 134217728) : Aq wq w' v' (k + 2) pn pg cur (upA A k a b) := by
  rw [us_next] at h1
  refine ⟨h1, fun i => ?_, fun g hg => (h3 g hg).elim (h.ge g) fun z => Nat.le_trans h.bel.size z, h.bel.trans (h2.below _ h.bel.size fun g hg => h.ge g hg), fun q => h2.old (h.pg q) (h.npg q)⟩
  unfold upA
  split
  · exact h.num i
  · split
    · exact ha
    · exact hb
/-- the states of the round that appends -/
def MA (w0 : World) (v : Value) (k : Nat) (A : Nat → Int) (a b : Int) : Nat → Value × Value → World → Prop
  | 0, _, w => w = w0
  | 1, x, w => x.1 = .slice (some ⟨w0.heap.size, 0, none⟩) 2 2 ∧ w = w0.alloc (.cells #[.int .u64 a, .int .u64 b] 22)
  | 2, x, w => w.ownsRow 0 22 1 x.2 (k + 2) (us A k ++ [.int .u64 a, .int .u64 b]) ∧ Only (Ug v) w0 w ∧ ∀ g, Ug x.2 g → Ug v g ∨ w0.heap.size ≤ g
  | _ + 3, _, _ => False
theorem MA.cell {w0 w : World} {v : Value} {k : Nat} {A : Nat → Int} {a b : Int} {s : Nat} {x : Value × Value} (h : MA w0 v k A a b s x w) {g o : Nat} {y : Value} (hc : w0.cell? ⟨g, o, none⟩ = some y) (hg : g < w0.heap.size) (hn : ¬ Ug v g) : w.cell? ⟨g, o, none⟩ = some y := by
  match s, h with
  | 0, h => rw [show w = w0 from h]; exact hc
  | 1, ⟨_, h⟩ =>
    rw [h]
    have hbl : Below w0.heap.size w0 (w0.alloc (.cells #[.int .u64 a, .int .u64 b] 22)) := (Below.refl _ _).alloc (Nat.le_refl _) _
    exact (hbl.cell (p := ⟨g, o, none⟩) hg).trans hc
  | 2, ⟨_, h, _⟩ => exact (h.cell o hg hn).trans hc
end
/-- a call that lays blocks, and a block that is made beside it at any time and written at the end -/
structure V36 (w0 : World) (Z C : Array Value) (x : Nat) (listed : Array Bool) (w : World) : Prop where
  bel : Below w0.heap.size w0 w
  al : listed.getD 10 false = true → w0.heap.size ≤ x ∧ w.heap[x]? = some (.cells (if listed.getD 11 false = true then C else Z) 41 (0, 0))
  st : listed.getD 11 false = true → listed.getD 10 false = true
section
variable {w0 w w' : World} {Z C : Array Value} {x : Nat} {listed : Array Bool}
theorem rep_f (n j : Nat) : (Array.replicate n false).getD j false = false := by
  simp only [Array.getD_eq_getD_getElem?, Array.getElem?_replicate]
  split <;> rfl
theorem V36.start (n : Nat) : V36 w0 Z C x (Array.replicate n false) w0 := ⟨.refl _ _, fun a => absurd ((rep_f n 10).symm.trans a) (by decide), fun a => absurd ((rep_f n 11).symm.trans a) (by decide)⟩
theorem V36.q (h : V36 w0 Z C x listed w) {j : Nat} (hj : j < listed.size) (n1 : 10 ≠ j) (n2 : 11 ≠ j) (hb : Below w.heap.size w w') : V36 w0 Z C x (listed.setIfInBounds j true) w' := by
  refine ⟨h.bel.trans (hb.mono h.bel.size), fun a => ?_, fun a => ?_⟩
  · rw [getD_set _ _ _ hj, if_neg n1] at a
    rw [getD_set _ _ _ hj, if_neg n2]
    obtain ⟨h1, h2⟩ := h.al a
    exact ⟨h1, (hb.block _ (lt_of_block h2)).trans h2⟩
  · rw [getD_set _ _ _ hj, if_neg n2] at a
    rw [getD_set _ _ _ hj, if_neg n1]
    exact h.st a
theorem V36.lay (h : V36 w0 Z C x listed w) (hj : 10 < listed.size) (hl : listed.getD 10 false = false) : V36 w0 Z C w.heap.size (listed.setIfInBounds 10 true) (w.alloc (.cells Z 41)) := by
  have h11 : listed.getD 11 false = false := by
    cases e : listed.getD 11 false
    · rfl
    · rw [h.st e] at hl; cases hl
  refine ⟨h.bel.alloc h.bel.size _, fun a => ⟨h.bel.size, ?_⟩, fun a => ?_⟩
  · have e : (listed.setIfInBounds 10 true).getD 11 false = false := by rw [getD_set _ _ _ hj, if_neg (show ¬ 11 = 10 by decide)]; exact h11
    rw [e]
    exact heap_alloc_new w _
  · rw [getD_set _ _ _ hj, if_pos rfl]
theorem V36.put (h : V36 w0 Z C x listed w) (hj : 11 < listed.size) (h10 : listed.getD 10 false = true) : V36 w0 Z C x (listed.setIfInBounds 11 true) (w.setRow x C) := by
  obtain ⟨h1, h2⟩ := h.al h10
  refine ⟨below_row h.bel h1 _, fun a => ⟨h1, ?_⟩, fun a => ?_⟩
  · rw [getD_set _ _ _ hj, if_pos rfl]
    exact setRow_heap w x _ _ _ _ h2
  · rw [getD_set _ _ _ hj, if_neg (show ¬ 10 = 11 by decide)]
    exact h10
end
theorem wp_st {P : Program} {ops : Array Oper} {Q : Exit → Act → World → Prop} {i : Nat} {o : Oper} {K : Act → World → Prop} {a : Act} {w : World} (ho : ops[i]? = some o) (hg : o.guard = none) (ty : TypeId) (x y : Operand) (hop : o.op = .store ty x y) (g : Nat) (cells : Array Value) (hx : a.eval x = .pointer (some ⟨g, 0, none⟩)) (hy : a.eval y = .agg cells) (t : TypeId) (old : Array Value) (hgg : w.heap[g]? = some (.cells old t (0, 0))) (hi : (P.info? ty).map (·.size) = some cells.size) (hold : old.size = cells.size) (h1 : cells.all (·.oneCell') = true) (h : K (a.put o.dst undef) (w.setRow g cells)) : wpOp P ops Q i K a w := by
  refine wpOp_step ho fun K' hK => ?_
  rw [if_pos (by simp [Region.wanted, hg])]
  exact wp_store_row ty x y hop g cells hx hy t old hgg hi hold h1 (hK _ _ h)
theorem wp_qb {P : Program} {ops : Array Oper} {Q : Exit → Act → World → Prop} {i : Nat} {o : Oper} {K : Act → World → Prop} {a : Act} {w w' : World} {v : Value} (ho : ops[i]? = some o) (hg : o.guard = none) (hr : (execOp a.eval o).run P w = .ok (.value v) w') (h : K (a.put o.dst v) w') : wpOp P ops Q i K a w := by
  refine wpOp_step ho fun K' hK => ?_
  rw [if_pos (by simp [Region.wanted, hg])]
  unfold Oper.wp
  rw [hr]
  exact hK _ _ h
section
variable {W w : World} {N : Nm} {x : TX}
theorem tt_Find (h : Tt W w N x) (a : Int) (a0 : 0 ≤ a) : ∃ c0 c1 c2 : Int, ∃ th : Bool, (th = true → 0 < c2 ∧ c2 < 16 ∧ c1 = (x.s.pf a.toNat : Nat) ∧ c2 = (x.s.pp a.toNat : Nat)) ∧ (th = decide (x.s.pp a.toNat ≠ 0)) ∧ ∀ w', Below w.heap.size w w' → Calls Try.prog 10 #[.pointer (some ⟨N.q, 0, none⟩), .int .u64 a] w' fun r w2 => r = .returned (.tuple #[.agg #[.int .u64 c0, .int .i64 c1, .int .i64 c2], .bool th]) ∧ Below w'.heap.size w' w2 := by
  obtain ⟨F, u, hs⟩ := h.sps
  by_cases hp : x.s.pp a.toNat = 0
  · exact ⟨0, 0, 0, false, fun z => (by cases z), (by simp [hp]), fun w' hb => r_Find_no w' F u N.q N.p x.s x.v x.f 2 (hs.below hb) a a0 hp⟩
  · obtain ⟨p, rfl⟩ : ∃ p : Nat, a = p := ⟨a.toNat, by omega⟩
    have ho := okP_lt (h.inv.ap p hp).2.1
    have hp' : x.s.pp p ≠ 0 := hp
    exact ⟨(p : Int), (x.s.pf p : Nat), (x.s.pp p : Nat), true, fun _ => ⟨by omega, by omega, rfl, rfl⟩, (by simp [hp']), fun w' hb => r_Find_yes w' F u N.q N.p x.s x.v x.f 2 (hs.below hb) p hp⟩
theorem tt_Root (h : Tt W w N x) : Calls Try.prog 24 #[.pointer (some ⟨N.q, 0, none⟩)] w fun r w' => r = .returned (.int .u64 (N.b / 4096 + x.s.r)) ∧ w' = w := by
  obtain ⟨F, u, hs⟩ := h.sps
  have := x_Root w F u N.q N.p x.s x.v x.f 2 hs
  rw [h.vb] at this
  exact this
def wnt (acc : Nat) : Nat := if acc = 1 then 8 else if acc = 2 then 2 else 4
theorem lets_w (pm acc : Nat) (h1 : 1 ≤ acc) (h3 : acc ≤ 3) : lets pm (acc : Int) = decide (pm &&& wnt acc ≠ 0) := by
  unfold lets wnt
  rcases (show acc = 1 ∨ acc = 2 ∨ acc = 3 by omega) with rfl | rfl | rfl <;> simp
theorem tt_Guest (h : Tt W w N x) (a : Int) (a0 : 0 ≤ a) (a1 : a ≤ 134217728) (o : Int) (o0 : 0 ≤ o) (o1 : o < 4096) (acc : Nat) (h1 : 1 ≤ acc) (h3 : acc ≤ 3) (lt : Bool) (hl : lt = (decide (x.s.pp a.toNat ≠ 0) && decide (x.s.pp a.toNat &&& wnt acc ≠ 0))) : ∀ w', Below w.heap.size w w' → Calls Try.prog 23 #[.pointer (some ⟨N.m, 0, none⟩), .int .u64 (N.b / 4096 + x.s.r), .int .u64 (a * 4096 + o), .int .i64 (acc : Int)] w' fun r w2 => r = .returned (.tuple #[.int .u64 (if lt then N.b + 4096 * (x.s.pf a.toNat : Nat) + o else 0), .int .i64 (if lt then (x.s.pp a.toNat : Nat) else 0), .int .i64 (if lt then 0 else 2)]) ∧ Below w'.heap.size w' w2 := by
  intro w' hb
  obtain ⟨F, u, hs⟩ := h.sps
  have e : (a * 4096 + o) / 4096 = a := by omega
  have e2 : (a * 4096 + o) % 4096 = o := by omega
  cases lt
  · have hg : C.gst (C.rdmB x.v.b x.v.n x.f) (x.v.b / 4096 + x.s.r) (a * 4096 + o) (acc : Int) = (0, 0, 2) := gst_no hs.iv (a * 4096 + o) acc (by omega) (by
      rw [e, lets_w _ _ h1 h3]
      by_cases q : x.s.pp a.toNat = 0
      · exact .inl q
      · right; simpa [q] using hl.symm)
    have := r_Guest w' F u N.q N.p x.s x.v x.f 2 (hs.below hb) (a * 4096 + o) acc (by omega) (by omega) _ _ _ hg
    rw [h.vb, h.vm] at this
    exact this
  · have hl' : x.s.pp a.toNat ≠ 0 ∧ x.s.pp a.toNat &&& wnt acc ≠ 0 := by simpa using hl.symm
    have hg := gst_yes hs.iv (a * 4096 + o) (acc : Int) (by omega) (by rw [e]; exact hl'.1) (by rw [e, lets_w _ _ h1 h3]; simpa using hl'.2)
    rw [e, e2] at hg
    have := r_Guest w' F u N.q N.p x.s x.v x.f 2 (hs.below hb) (a * 4096 + o) acc (by omega) (by omega) _ _ _ hg
    rw [h.vb, h.vm] at this
    exact this
def wI (acc : Nat) : Int := if acc = 1 then 8 else if acc = 2 then 2 else 4
theorem Tt.ranges (h : Tt W w N x) : 0 ≤ N.b ∧ N.b ≤ 1099511627776 := by rw [← h.vb]; exact ⟨h.inv.ba.b0, h.inv.ba.b1⟩
theorem tt_ask (h : Tt W w N x) (a : Int) (a0 : 0 ≤ a) (a1 : a ≤ 134217728) (at0 : Int) (t0 : 0 ≤ at0) (acc : Nat) (h1 : 1 ≤ acc) (h3 : acc ≤ 3) (c1 c2 : Int) (th : Bool) (hth : th = true → 0 < c2 ∧ c2 < 16 ∧ c1 = (x.s.pf a.toNat : Nat) ∧ c2 = (x.s.pp a.toNat : Nat)) (hpp : th = decide (x.s.pp a.toNat ≠ 0)) :
    ∃ (lt : Bool) (g0 g1 g2 : Int), ((th = true ∧ (bits .and .i64 c2 (wI acc) != 0) = lt) ∨ (th = false ∧ lt = false)) ∧ ((lt = true ∧ g0 = N.b + c1 * 4096 + at0 % 4096 ∧ g1 = c2 ∧ g2 = 0 ∧ 0 ≤ c1 ∧ c1 ≤ 1024) ∨ (lt = false ∧ g2 = 2)) ∧ ∀ w', Below w.heap.size w w' → Calls Try.prog 23 #[.pointer (some ⟨N.m, 0, none⟩), .int .u64 (N.b / 4096 + x.s.r), .int .u64 (a * 4096 + at0 % 4096), .int .i64 (acc : Int)] w' fun r w2 => r = .returned (.tuple #[.int .u64 g0, .int .i64 g1, .int .i64 g2]) ∧ Below w'.heap.size w' w2 := by
  obtain ⟨lt, hl⟩ : ∃ lt : Bool, lt = (decide (x.s.pp a.toNat ≠ 0) && decide (x.s.pp a.toNat &&& wnt acc ≠ 0)) := ⟨_, rfl⟩
  have hG := tt_Guest h a a0 a1 (at0 % 4096) (by omega) (by omega) acc h1 h3 lt hl
  refine ⟨lt, _, _, _, ?_, ?_, hG⟩
  · cases th
    · right
      refine ⟨rfl, ?_⟩
      rw [hl, ← hpp]; rfl
    · left
      refine ⟨rfl, ?_⟩
      obtain ⟨q1, q2, q3, q4⟩ := hth rfl
      rw [hl, ← hpp, Bool.true_and, q4]
      have hw : wnt acc < 16 := by unfold wnt; split <;> (try split) <;> decide
      have e := and_i64 ⟨x.s.pp a.toNat, by omega⟩ ⟨wnt acc, hw⟩
      have ew : wI acc = ((wnt acc : Nat) : Int) := by unfold wI wnt; split <;> (try split) <;> rfl
      rw [ew, e]
      show ((((x.s.pp a.toNat &&& wnt acc : Nat) : Int)) != 0) = _
      by_cases z : x.s.pp a.toNat &&& wnt acc = 0
      · rw [z]; rfl
      · rw [decide_eq_true z]
        simpa using z
  · cases lt
    · exact .inr ⟨rfl, rfl⟩
    · left
      have hp : x.s.pp a.toNat ≠ 0 := by
        intro z
        rw [z] at hl
        exact absurd hl (by simp)
      obtain ⟨q1, q2, q3, q4⟩ := hth (by rw [hpp]; exact decide_eq_true hp)
      have := (h.inv.ap _ hp).2.2.1
      have := h.inv.ba.n2
      exact ⟨rfl, by rw [q3]; show N.b + 4096 * _ + _ = _; omega, q4.symm, rfl, by omega, by omega⟩
end
end Go.Proofs.Ytekkjalfiogenaa
namespace Go.Proofs.Ytekkjalfiogenaa
open Go.RowKit
open C (Only hid c_Place RMem)
set_option linter.unusedVariables false
set_option maxRecDepth 1000000

theorem dnT (w : World) (n : Nat) : Below w.heap.size w (w.drewN n) := ⟨rfl, rfl, rfl, Nat.le_refl _, fun _ _ => rfl⟩
def blkS (n : Nat) : Code → Option Code
  | .block m c => match Nat.beq m n with
    | true => some (.block m c)
    | false => blkS n c
  | .seq a b => match blkS n a with
    | some c => some c
    | none => blkS n b
  | .loop c => blkS n c
  | .scope c => blkS n c
  | .cond _ a b => match blkS n a with
    | some c => some c
    | none => blkS n b
  | _ => none
set_option maxHeartbeats 16000000 in
theorem tb1 (W wa : World) (ad : Option Addr) (la cap ab ao : Nat) (X : Nat → SopV) (hX : Soc W ad la cap ab ao X) (N : Nm) (x0 : TX) (hT0 : Tt W wa N x0) (c0 c1 c3 c4 c5 c6 c7 c8 c10 c12 c13 c14 c15 c16 c17 c18 c19 c20 c21 c22 c23 c24 c25 c26 c27 c28 c29 c30 c31 c32 c33 c34 c35 c36 c37 c38 c39 c40 c41 c42 c43 c44 c45 c46 c47 c48 c49 c50 c51 c52 c53 c54 c55 c56 c57 c58 c59 c60 c61 c62 c63 c64 c65 c66 c67 c68 c69 c70 c71 c72 c73 c74 c75 c76 c77 c78 c79 c80 c81 c82 c83 c84 c85 c86 c87 c88 c89 c90 c91 c92 c93 c94 c95 c96 c97 c98 c99 c100 c101 c102 c103 c104 c105 c106 c107 c108 c109 c110 c111 c112 c113 c114 c115 c116 c117 c118 c119 c120 c121 c122 c123 c124 c125 c126 c127 c128 c129 c130 c131 c132 c133 c134 c135 c136 c137 c138 c139 c140 c141 c142 c143 c144 c145 c146 c147 c148 c149 c150 c151 c152 c153 c154 c155 c156 c157 c158 c159 c160 c161 c162 c163 c164 c165 c166 c167 c168 c169 c170 c171 c172 c173 c174 c175 c176 c177 c178 c179 c180 c181 c182 c183 c184 c185 c186 c187 c188 c189 c190 c191 c192 c193 c194 c195 c196 c197 c198 c199 c200 c201 c202 c203 c204 c205 c206 c207 c208 c209 c210 c211 c212 c213 c214 c215 c216 c217 c218 c219 c220 c221 c222 c223 c224 c225 c226 c227 c228 c229 c230 c231 c232 c233 c234 c235 c236 c237 c238 c239 c240 c241 c242 c243 c244 c245 c246 c247 c248 c249 c250 c251 c252 c253 c254 c255 c256 c257 c258 c259 c260 c261 : Value) (QQ : Exit → Act → World → Prop) (hK : ∀ (wx : World) (x : TX) (d11 d12 d13 d41 d42 d43 d44 d45 d46 d47 d48 d49 d50 d51 d52 d53 d54 d55 d56 d57 d58 d59 d60 d61 d62 d63 d64 d65 d66 d67 d68 d69 d70 d71 d72 d73 d74 d75 d76 d77 d78 d79 d80 d81 d82 d83 d84 d85 d86 d87 d88 d89 d90 d91 d92 d93 d94 d95 d96 d97 d98 d99 d100 d101 d102 d103 d104 d105 d106 d107 d108 d109 d110 d111 d112 d113 d114 d115 d116 d117 d118 d119 d120 d121 d122 d123 d124 d125 : Value), Tt W wx N x → QQ Exit.normal ⟨#[c0, c1, .slice ad la cap, c3, c4, c5, c6, c7, c8, .pointer (some ⟨N.ob, 0, none⟩), c10, d11, d12, d13, c14, c15, c16, c17, c18, c19, c20, c21, c22, c23, c24, c25, c26, c27, c28, c29, c30, c31, c32, c33, c34, c35, c36, c37, c38, c39, c40, d41, d42, d43, d44, d45, d46, d47, d48, d49, d50, d51, d52, d53, d54, d55, d56, d57, d58, d59, d60, d61, d62, d63, d64, d65, d66, d67, d68, d69, d70, d71, d72, d73, d74, d75, d76, d77, d78, d79, d80, d81, d82, d83, d84, d85, d86, d87, d88, d89, d90, d91, d92, d93, d94, d95, d96, d97, d98, d99, d100, d101, d102, d103, d104, d105, d106, d107, d108, d109, d110, d111, d112, d113, d114, d115, d116, d117, d118, d119, d120, d121, d122, d123, d124, d125, c126, c127, c128, c129, c130, c131, c132, c133, c134, c135, c136, c137, c138, c139, c140, c141, c142, c143, c144, c145, c146, c147, c148, c149, c150, c151, c152, c153, c154, c155, c156, c157, c158, c159, c160, c161, c162, c163, c164, c165, c166, c167, c168, c169, c170, c171, c172, c173, c174, c175, c176, c177, c178, c179, c180, c181, c182, c183, c184, c185, c186, c187, c188, c189, c190, c191, c192, c193, c194, c195, c196, c197, c198, c199, c200, c201, c202, c203, c204, c205, c206, c207, c208, c209, c210, c211, c212, c213, c214, c215, c216, c217, c218, c219, c220, c221, c222, c223, c224, c225, c226, c227, c228, c229, c230, c231, c232, c233, c234, c235, c236, c237, c238, c239, c240, c241, c242, c243, c244, c245, c246, c247, c248, c249, c250, c251, c252, c253, c254, c255, c256, c257, c258, c259, c260, c261], []⟩ wx) :
    Code.wp Try.prog ((Try.f4.body.bind (blkS 0)).getD .skip) QQ ⟨#[c0, c1, .slice ad la cap, c3, c4, c5, c6, c7, c8, .pointer (some ⟨N.ob, 0, none⟩), c10, .int .i64 0, c12, c13, c14, c15, c16, c17, c18, c19, c20, c21, c22, c23, c24, c25, c26, c27, c28, c29, c30, c31, c32, c33, c34, c35, c36, c37, c38, c39, c40, c41, c42, c43, c44, c45, c46, c47, c48, c49, c50, c51, c52, c53, c54, c55, c56, c57, c58, c59, c60, c61, c62, c63, c64, c65, c66, c67, c68, c69, c70, c71, c72, c73, c74, c75, c76, c77, c78, c79, c80, c81, c82, c83, c84, c85, c86, c87, c88, c89, c90, c91, c92, c93, c94, c95, c96, c97, c98, c99, c100, c101, c102, c103, c104, c105, c106, c107, c108, c109, c110, c111, c112, c113, c114, c115, c116, c117, c118, c119, c120, c121, c122, c123, c124, c125, c126, c127, c128, c129, c130, c131, c132, c133, c134, c135, c136, c137, c138, c139, c140, c141, c142, c143, c144, c145, c146, c147, c148, c149, c150, c151, c152, c153, c154, c155, c156, c157, c158, c159, c160, c161, c162, c163, c164, c165, c166, c167, c168, c169, c170, c171, c172, c173, c174, c175, c176, c177, c178, c179, c180, c181, c182, c183, c184, c185, c186, c187, c188, c189, c190, c191, c192, c193, c194, c195, c196, c197, c198, c199, c200, c201, c202, c203, c204, c205, c206, c207, c208, c209, c210, c211, c212, c213, c214, c215, c216, c217, c218, c219, c220, c221, c222, c223, c224, c225, c226, c227, c228, c229, c230, c231, c232, c233, c234, c235, c236, c237, c238, c239, c240, c241, c242, c243, c244, c245, c246, c247, c248, c249, c250, c251, c252, c253, c254, c255, c256, c257, c258, c259, c260, c261], []⟩ wa := by
  have HXs := hid hX
  have hlen := hX.len
  have hcap := hX.cap
  have HT0 := hid hT0
  have HK := hid hK
  clear hX hT0 hK
  conv => arg 2; whnf
  go_wp2_with fail
  go_loopw [11] (fun i wr => ∃ (j : Nat) (x : TX), j ≤ la ∧ i = .int .i64 j ∧ Hid (Tt W wr N x)) (fun i _ => la - (intOf i).toNat)
  case atStart => exact ⟨0, _, by omega, rfl, HT0⟩
  case round =>
    obtain ⟨j, x, hj, rfl, HP⟩ := hrel
    by_cases hlt : j < la
    · obtain ⟨rfl, -⟩ := HXs.out.at0 (by omega)
      have hPc := HXs.out.below HP.out.bel
      have c0 : wr.cell? ⟨ab, ao + j * 7, none⟩ = some (.int .i64 (X j).kind) := hPc.cell j hlt 0 (by decide)
      have c1 : wr.cell? ⟨ab, ao + j * 7 + 1, none⟩ = some (.int .i64 (X j).frame) := hPc.cell j hlt 1 (by decide)
      have c2 : wr.cell? ⟨ab, ao + j * 7 + 2, none⟩ = some (.int .i64 (X j).perm) := hPc.cell j hlt 2 (by decide)
      have c3 : wr.cell? ⟨ab, ao + j * 7 + 3, none⟩ = some (.int .i64 (X j).size) := hPc.cell j hlt 3 (by decide)
      have c4 : wr.cell? ⟨ab, ao + j * 7 + 4, none⟩ = some (.int .u64 (X j).page) := hPc.cell j hlt 4 (by decide)
      have c5 : wr.cell? ⟨ab, ao + j * 7 + 5, none⟩ = some (.int .u64 (X j).addr) := hPc.cell j hlt 5 (by decide)
      have c6 : wr.cell? ⟨ab, ao + j * 7 + 6, none⟩ = some (.int .u64 (X j).v) := hPc.cell j hlt 6 (by decide)
      obtain ⟨k0, k1⟩ := (hPc.num j hlt).kind
      obtain ⟨m0, m1⟩ := (hPc.num j hlt).perm
      obtain ⟨z0, z1⟩ := (hPc.num j hlt).size
      obtain ⟨p0, p1⟩ := (hPc.num j hlt).page
      obtain ⟨a0, a1⟩ := (hPc.num j hlt).addr
      obtain ⟨v0, v1⟩ := (hPc.num j hlt).v
      have hPl := c_Place (X j).kind 7 (by decide) (by decide) k0 k1
      have hjl : (j : Int) < la := by omega
      clear hPc k0 k1
      generalize (X j).kind = xk at *
      generalize (X j).frame = xf at *
      generalize (X j).perm = xm at *
      generalize (X j).size = xz at *
      generalize (X j).page = xp at *
      generalize (X j).addr = xa at *
      generalize (X j).v = xv at *
      have hk7 : xk % 7 = 0 ∨ xk % 7 = 1 ∨ xk % 7 = 2 ∨ xk % 7 = 3 ∨ xk % 7 = 4 ∨ xk % 7 = 5 ∨ xk % 7 = 6 := by omega
      go_upto_region 8 with fail
      obtain ⟨wx, hwx⟩ : ∃ wx, wx = wr.alloc (.cells #[.int .i64 xk, .int .i64 xf, .int .i64 xm, .int .i64 xz, .int .u64 xp, .int .u64 xa, .int .u64 xv] 39) := ⟨_, rfl⟩
      rw [← hwx]
      have HPx : Hid (Tt W wx N x) := by rw [hwx]; exact HP.out.below ((Below.refl _ _).alloc (Nat.le_refl _) _)
      have HX : Hid (wx.heap[wr.heap.size]? = some (.cells #[.int .i64 xk, .int .i64 xf, .int .i64 xm, .int .i64 xz, .int .u64 xp, .int .u64 xa, .int .u64 xv] 39 (0, 0))) := by rw [hwx]; exact heap_alloc_new wr _
      clear c0 c1 c2 c3 c4 c5 c6 hwx HP
      generalize wr.heap.size = xb at *
      have HC : Hid (∀ n, (wx.drewN n).cell? ⟨xb, 0, none⟩ = some (.int .i64 xk) ∧ (wx.drewN n).cell? ⟨xb, 1, none⟩ = some (.int .i64 xf) ∧ (wx.drewN n).cell? ⟨xb, 2, none⟩ = some (.int .i64 xm) ∧ (wx.drewN n).cell? ⟨xb, 3, none⟩ = some (.int .i64 xz) ∧ (wx.drewN n).cell? ⟨xb, 4, none⟩ = some (.int .u64 xp) ∧ (wx.drewN n).cell? ⟨xb, 5, none⟩ = some (.int .u64 xa) ∧ (wx.drewN n).cell? ⟨xb, 6, none⟩ = some (.int .u64 xv)) := fun n => ⟨cell_of_row (wx.drewN n) xb 0 _ _ _ HX.out, cell_of_row (wx.drewN n) xb 1 _ _ _ HX.out, cell_of_row (wx.drewN n) xb 2 _ _ _ HX.out, cell_of_row (wx.drewN n) xb 3 _ _ _ HX.out, cell_of_row (wx.drewN n) xb 4 _ _ _ HX.out, cell_of_row (wx.drewN n) xb 5 _ _ _ HX.out, cell_of_row (wx.drewN n) xb 6 _ _ _ HX.out⟩
      have HTx : Hid (∀ n, Tt W (wx.drewN n) N x) := fun n => HPx.out.below (dnT wx n)
      have x0 : wx.cell? ⟨xb, 0, none⟩ = some (.int .i64 xk) := cell_of_row wx xb 0 _ _ _ HX.out
      rcases hk7 with hk | hk | hk | hk | hk | hk | hk
      · rw [hk] at hPl
        obtain ⟨ow, how⟩ : ∃ ow : Int, ownF x.v xf = ow := ⟨_, rfl⟩
        have HOw : Hid (∀ n, Calls Try.prog 12 #[.pointer (some ⟨N.p, 0, none⟩), .int .i64 xf] (wx.drewN n) fun r w' => r = .returned (.int .i64 ow) ∧ w' = wx.drewN n) := fun n => by rw [← how]; exact tt_Owner (HTx.out n) xf
        have HOW := hid how
        clear how
        have y1 : wx.cell? ⟨xb, 1, none⟩ = some (.int .i64 xf) := cell_of_row wx xb 1 _ _ _ HX.out
        have y2 : wx.cell? ⟨N.ob, 2, none⟩ = some (.pointer (some ⟨N.p, 0, none⟩)) := HPx.out.con 2 _ rfl
        have y5 : wx.cell? ⟨N.ob, 5, none⟩ = some (.pointer (some ⟨N.dm, 0, none⟩)) := HPx.out.con 5 _ rfl
        have y6 := HPx.out.doc.2
        go_upto_region 9 with (go_at_call 15; refine (hPl _).mono ?_; rintro r w' ⟨rfl, hq⟩; obtain rfl := hq.symm; clear hPl)
        by_cases g1 : xf < 0
        · have g1' : decide (xf < 0) = true := decide_eq_true g1
          clear g1
          go_quiet (first | (go_at_call 12; exact Calls.quiet_of_same (HOw.out _)))
          have HP8 := hid (HTx.out nq)
          go_wp2_with fail
          go_roundw
          case rel => exact ⟨j + 1, x, by omega, by go_num, HP8⟩
          case measure => simp [intOf]; omega
        · have g1' : decide (xf < 0) = false := decide_eq_false g1
          by_cases g2 : (N.n : Int) ≤ xf
          · have g2' : decide ((N.n : Int) ≤ xf) = true := decide_eq_true g2
            clear g1 g2
            go_quiet (first | (go_at_call 12; exact Calls.quiet_of_same (HOw.out _)))
            have HP8 := hid (HTx.out nq)
            go_wp2_with fail
            go_roundw
            case rel => exact ⟨j + 1, x, by omega, by go_num, HP8⟩
            case measure => simp [intOf]; omega
          · have g2' : decide ((N.n : Int) ≤ xf) = false := decide_eq_false g2
            clear g1 g2
            by_cases g3 : ow = 3
            · subst g3
              have g3' : ((3 : Int) != 3) = false := rfl
              go_quiet (first | (go_at_call 12; exact Calls.quiet_of_same (HOw.out _)))
              clear HOw y1 y2 y5 y6
              have HT5 := hid (HTx.out nq)
              obtain ⟨d0, d1, d2, d3, d4, d5, d6⟩ := HC.out nq
              have o0 : (wx.drewN nq).cell? ⟨N.ob, 0, none⟩ = some (.pointer (some ⟨N.q, 0, none⟩)) := HT5.out.con 0 _ rfl
              have o2 : (wx.drewN nq).cell? ⟨N.ob, 2, none⟩ = some (.pointer (some ⟨N.p, 0, none⟩)) := HT5.out.con 2 _ rfl
              generalize wx.drewN nq = w5 at *
              have hC := tt_Map HT5.out xp xf xm p0 m0 m1 (by rw [HOW.out]; decide)
              go_wp2_with (go_at_call 16; (with_reducible refine hC.mono ?_); rintro r w8 ⟨rfl, k1⟩; have HP8 := hid k1; clear k1 hC)
              go_roundw
              case rel => exact ⟨j + 1, mpT x xp xf xm, by omega, by go_num, HP8⟩
              case measure => simp [intOf]; omega
            · have g3' : (ow != 3) = true := by simp [g3]
              clear g3
              go_quiet (first | (go_at_call 12; exact Calls.quiet_of_same (HOw.out _)))
              have HP8 := hid (HTx.out nq)
              go_wp2_with fail
              go_roundw
              case rel => exact ⟨j + 1, x, by omega, by go_num, HP8⟩
              case measure => simp [intOf]; omega
      · rw [hk] at hPl
        go_upto_region 9 with (go_at_call 15; refine (hPl _).mono ?_; rintro r w' ⟨rfl, hq⟩; obtain rfl := hq.symm; clear hPl)
        go_quiet (fail)
        have HT5 := hid (HTx.out nq)
        obtain ⟨d0, d1, d2, d3, d4, d5, d6⟩ := HC.out nq
        have o0 : (wx.drewN nq).cell? ⟨N.ob, 0, none⟩ = some (.pointer (some ⟨N.q, 0, none⟩)) := HT5.out.con 0 _ rfl
        have o2 : (wx.drewN nq).cell? ⟨N.ob, 2, none⟩ = some (.pointer (some ⟨N.p, 0, none⟩)) := HT5.out.con 2 _ rfl
        generalize wx.drewN nq = w5 at *
        have hC := tt_Unmap HT5.out xp p0
        go_wp2_with (go_at_call 17; (with_reducible refine hC.mono ?_); rintro r w8 ⟨rfl, k1⟩; have HP8 := hid k1; clear k1 hC)
        go_roundw
        case rel => exact ⟨j + 1, umT x xp, by omega, by go_num, HP8⟩
        case measure => simp [intOf]; omega
      · rw [hk] at hPl
        go_upto_region 9 with (go_at_call 15; refine (hPl _).mono ?_; rintro r w' ⟨rfl, hq⟩; obtain rfl := hq.symm; clear hPl)
        go_quiet (fail)
        have HT5 := hid (HTx.out nq)
        obtain ⟨d0, d1, d2, d3, d4, d5, d6⟩ := HC.out nq
        have o0 : (wx.drewN nq).cell? ⟨N.ob, 0, none⟩ = some (.pointer (some ⟨N.q, 0, none⟩)) := HT5.out.con 0 _ rfl
        have o2 : (wx.drewN nq).cell? ⟨N.ob, 2, none⟩ = some (.pointer (some ⟨N.p, 0, none⟩)) := HT5.out.con 2 _ rfl
        generalize wx.drewN nq = w5 at *
        have hC := tt_Protect HT5.out xp xm p0 m0 m1
        go_wp2_with (go_at_call 18; (with_reducible refine hC.mono ?_); rintro r w8 ⟨rfl, k1⟩; have HP8 := hid k1; clear k1 hC)
        go_roundw
        case rel => exact ⟨j + 1, ptT x xp xm, by omega, by go_num, HP8⟩
        case measure => simp [intOf]; omega
      · rw [hk] at hPl
        go_upto_region 9 with (go_at_call 15; refine (hPl _).mono ?_; rintro r w' ⟨rfl, hq⟩; obtain rfl := hq.symm; clear hPl)
        go_quiet (fail)
        have HT5 := hid (HTx.out nq)
        obtain ⟨d0, d1, d2, d3, d4, d5, d6⟩ := HC.out nq
        have o0 : (wx.drewN nq).cell? ⟨N.ob, 0, none⟩ = some (.pointer (some ⟨N.q, 0, none⟩)) := HT5.out.con 0 _ rfl
        have o2 : (wx.drewN nq).cell? ⟨N.ob, 2, none⟩ = some (.pointer (some ⟨N.p, 0, none⟩)) := HT5.out.con 2 _ rfl
        generalize wx.drewN nq = w5 at *
        clear nq
        go_upto_region 18 with fail
        have HCq : Hid (∀ n, Calls Try.prog 19 #[.pointer (some ⟨N.q, 0, none⟩), .int .u64 xa, .int .i64 xz, .int .u64 xv] (w5.drewN n) fun r w' => r = .returned (.bool (wrB x xa xz)) ∧ Tt W w' N (wrT x xa xz xv)) := fun n => tt_Write (HT5.out.below (dnT w5 n)) xa xz xv a0 a1 v0 v1
        refine wp_region_last_lit (by simp) (by kernel_rfl) (by kernel_rfl) (by kernel_rfl) ?_
        simp only [List.dropLast, List.getLast]
        repeat (go_big_quiet_step (fail))
        refine wpQuiet_nil ?_
        intro _ hwq
        obtain ⟨nq, hwq⟩ := hwq
        subst hwq
        have hC := HCq.out nq
        go_wp2_with (go_at_call 19; (with_reducible refine hC.mono ?_); rintro r w8 ⟨rfl, k1⟩; have HP8 := hid k1; clear k1 hC)
        go_roundw
        case rel => exact ⟨j + 1, wrT x xa xz xv, by omega, by go_num, HP8⟩
        case measure => simp [intOf]; omega
      · rw [hk] at hPl
        go_upto_region 9 with (go_at_call 15; refine (hPl _).mono ?_; rintro r w' ⟨rfl, hq⟩; obtain rfl := hq.symm; clear hPl)
        go_quiet (fail)
        have HT5 := hid (HTx.out nq)
        obtain ⟨d0, d1, d2, d3, d4, d5, d6⟩ := HC.out nq
        have o0 : (wx.drewN nq).cell? ⟨N.ob, 0, none⟩ = some (.pointer (some ⟨N.q, 0, none⟩)) := HT5.out.con 0 _ rfl
        have o2 : (wx.drewN nq).cell? ⟨N.ob, 2, none⟩ = some (.pointer (some ⟨N.p, 0, none⟩)) := HT5.out.con 2 _ rfl
        generalize wx.drewN nq = w5 at *
        go_wp2_with fail
        have HP8 := HT5
        go_roundw
        case rel => exact ⟨j + 1, x, by omega, by go_num, HP8⟩
        case measure => simp [intOf]; omega
      · rw [hk] at hPl
        go_upto_region 9 with (go_at_call 15; refine (hPl _).mono ?_; rintro r w' ⟨rfl, hq⟩; obtain rfl := hq.symm; clear hPl)
        go_quiet (fail)
        have HT5 := hid (HTx.out nq)
        obtain ⟨d0, d1, d2, d3, d4, d5, d6⟩ := HC.out nq
        have o0 : (wx.drewN nq).cell? ⟨N.ob, 0, none⟩ = some (.pointer (some ⟨N.q, 0, none⟩)) := HT5.out.con 0 _ rfl
        have o2 : (wx.drewN nq).cell? ⟨N.ob, 2, none⟩ = some (.pointer (some ⟨N.p, 0, none⟩)) := HT5.out.con 2 _ rfl
        generalize wx.drewN nq = w5 at *
        go_wp2_with fail
        have HP8 := HT5
        go_roundw
        case rel => exact ⟨j + 1, x, by omega, by go_num, HP8⟩
        case measure => simp [intOf]; omega
      · rw [hk] at hPl
        go_upto_region 9 with (go_at_call 15; refine (hPl _).mono ?_; rintro r w' ⟨rfl, hq⟩; obtain rfl := hq.symm; clear hPl)
        go_quiet (fail)
        have HT5 := hid (HTx.out nq)
        obtain ⟨d0, d1, d2, d3, d4, d5, d6⟩ := HC.out nq
        have o0 : (wx.drewN nq).cell? ⟨N.ob, 0, none⟩ = some (.pointer (some ⟨N.q, 0, none⟩)) := HT5.out.con 0 _ rfl
        have o2 : (wx.drewN nq).cell? ⟨N.ob, 2, none⟩ = some (.pointer (some ⟨N.p, 0, none⟩)) := HT5.out.con 2 _ rfl
        generalize wx.drewN nq = w5 at *
        have hC := tt_Take HT5.out
        go_wp2_with (go_at_call 20; (with_reducible refine hC.mono ?_); rintro r w8 ⟨rfl, k1⟩; have HP8 := hid k1; clear k1 hC)
        go_roundw
        case rel => exact ⟨j + 1, tkT x 3, by omega, by go_num, HP8⟩
        case measure => simp [intOf]; omega
    · obtain rfl : j = la := by omega
      go_wp2_with fail
      exact HK.out _ x _ _ _ _ _ _ _ _ _ _ _ _ _ _ _ _ _ _ _ _ _ _ _ _ _ _ _ _ _ _ _ _ _ _ _ _ _ _ _ _ _ _ _ _ _ _ _ _ _ _ _ _ _ _ _ _ _ _ _ _ _ _ _ _ _ _ _ _ _ _ _ _ _ _ _ _ _ _ _ _ _ _ _ _ _ _ _ _ HP.out
end Go.Proofs.Ytekkjalfiogenaa
namespace Go.Proofs.Ytekkjalfiogenaa
open Go.RowKit
open C (Only hid c_Place RMem)
set_option linter.unusedVariables false
set_option maxRecDepth 1000000

set_option maxHeartbeats 16000000 in
theorem tb5 (W w2 : World) (N : Nm) (x : TX) (hT5 : Tt W w2 N x) (a : Int) (a0 : 0 ≤ a) (a1 : a ≤ 134217728) (at0 : Int) (t0 : 0 ≤ at0) (t1 : at0 < 18446744073709551616) (ag ac kn j4 xb : Nat) (c1 c2 : Int) (th : Bool) (hjk : (j4 : Int) < kn) (qa1 : kn ≤ ac) (qa2 : ac ≤ 9223372036854775807) (hCx : ∀ w, Below w2.heap.size w2 w → w.cell? ⟨xb, 1, none⟩ = some (.int .i64 c1) ∧ w.cell? ⟨xb, 2, none⟩ = some (.int .i64 c2)) (hC5 : ∀ w, Below w2.heap.size w2 w → w.cell? ⟨ag, j4, none⟩ = some (.int .u64 a)) (hTH : th = true → 0 < c2 ∧ c2 < 16 ∧ c1 = (x.s.pf a.toNat : Nat) ∧ c2 = (x.s.pp a.toNat : Nat)) (hPP : th = decide (x.s.pp a.toNat ≠ 0)) (kk0 kk1 kk2 kk4 kk5 kk6 kk7 kk8 kk10 kk11 kk12 kk13 kk14 kk15 kk17 kk18 kk23 kk24 kk25 kk26 kk27 kk28 kk29 kk30 kk31 kk32 kk33 kk34 kk35 kk36 kk37 kk38 kk39 kk40 kk41 kk42 kk43 kk44 kk45 kk46 kk47 kk48 kk49 kk50 kk51 kk52 kk53 kk54 kk55 kk56 kk57 kk58 kk59 kk60 kk61 kk62 kk63 kk64 kk65 kk66 kk67 kk68 kk69 kk70 kk71 kk72 kk73 kk74 kk75 kk76 kk77 kk78 kk79 kk80 kk81 kk82 kk83 kk84 kk85 kk86 kk87 kk88 kk89 kk90 kk91 kk92 kk93 kk94 kk95 kk96 kk97 kk98 kk99 kk100 kk101 kk102 kk103 kk104 kk105 kk106 kk107 kk108 kk109 kk110 kk111 kk112 kk113 kk114 kk115 kk116 kk117 kk118 kk119 kk120 kk121 kk122 kk123 kk124 kk125 kk126 kk127 kk128 kk129 kk130 kk131 kk132 kk133 kk134 kk135 kk136 kk137 kk138 kk139 kk140 kk141 kk142 kk143 kk144 kk145 kk146 kk147 kk148 kk149 kk150 kk151 kk152 kk153 kk154 kk155 kk156 kk157 kk158 kk159 kk160 kk161 kk162 kk163 kk164 kk165 kk166 kk167 kk168 kk169 kk170 kk171 kk172 kk173 kk174 kk175 kk176 kk177 kk178 kk179 kk180 kk181 kk182 kk183 kk184 kk185 kk186 kk187 kk188 kk189 kk190 kk191 kk192 kk193 kk194 kk195 kk196 kk197 kk198 kk199 kk200 kk201 kk202 kk203 kk204 kk205 kk206 kk207 kk208 kk209 kk210 kk211 kk212 kk213 kk214 kk215 kk216 kk217 kk218 kk219 kk220 kk221 kk222 kk223 kk224 kk225 kk226 kk227 kk228 kk229 kk230 kk231 kk232 kk233 kk234 kk235 kk236 kk237 kk238 kk239 kk240 kk241 kk242 kk243 kk244 kk245 kk246 kk247 kk248 kk249 kk250 kk251 kk252 kk253 kk254 kk255 kk256 kk257 kk258 kk259 kk260 kk261 : Value) (QQ : Exit → Act → World → Prop) (hK : ∀ (wx : World) (d8 d22 d23 d24 d25 d26 d27 d186 d187 d188 d189 d190 d191 d192 d193 d194 d195 d196 d197 d198 d199 d200 d201 d202 d203 d204 d205 d206 d207 d208 d209 d210 d211 d212 d213 d214 d215 d216 d217 d218 d219 d220 d221 d222 d223 d224 d225 d226 d227 d228 d229 d230 d231 d232 d233 d234 d235 d236 d237 d238 d239 d240 d241 d242 d243 d244 d245 d246 d247 d248 d249 d250 d251 d252 d253 d254 d255 d256 d257 d258 d259 d260 : Value), Below w2.heap.size w2 wx → QQ Exit.normal ⟨#[kk0, kk1, kk2, .int .u64 at0, kk4, kk5, kk6, kk7, d8, .pointer (some ⟨N.ob, 0, none⟩), kk10, kk11, kk12, kk13, kk14, kk15, .slice (some ⟨ag, 0, none⟩) kn ac, kk17, kk18, .int .i64 (j4 : Int), .pointer (some ⟨xb, 0, none⟩), .bool th, d22, d23, d24, d25, d26, d27, kk28, kk29, kk30, kk31, kk32, kk33, kk34, kk35, kk36, kk37, kk38, kk39, kk40, kk41, kk42, kk43, kk44, kk45, kk46, kk47, kk48, kk49, kk50, kk51, kk52, kk53, kk54, kk55, kk56, kk57, kk58, kk59, kk60, kk61, kk62, kk63, kk64, kk65, kk66, kk67, kk68, kk69, kk70, kk71, kk72, kk73, kk74, kk75, kk76, kk77, kk78, kk79, kk80, kk81, kk82, kk83, kk84, kk85, kk86, kk87, kk88, kk89, kk90, kk91, kk92, kk93, kk94, kk95, kk96, kk97, kk98, kk99, kk100, kk101, kk102, kk103, kk104, kk105, kk106, kk107, kk108, kk109, kk110, kk111, kk112, kk113, kk114, kk115, kk116, kk117, kk118, kk119, kk120, kk121, kk122, kk123, kk124, kk125, kk126, kk127, kk128, kk129, kk130, kk131, kk132, kk133, kk134, kk135, kk136, kk137, kk138, kk139, kk140, kk141, kk142, kk143, kk144, kk145, kk146, kk147, kk148, kk149, kk150, kk151, kk152, kk153, kk154, kk155, kk156, kk157, kk158, kk159, kk160, kk161, kk162, kk163, kk164, kk165, kk166, kk167, kk168, kk169, kk170, kk171, kk172, kk173, kk174, kk175, kk176, kk177, kk178, kk179, kk180, kk181, kk182, kk183, kk184, kk185, d186, d187, d188, d189, d190, d191, d192, d193, d194, d195, d196, d197, d198, d199, d200, d201, d202, d203, d204, d205, d206, d207, d208, d209, d210, d211, d212, d213, d214, d215, d216, d217, d218, d219, d220, d221, d222, d223, d224, d225, d226, d227, d228, d229, d230, d231, d232, d233, d234, d235, d236, d237, d238, d239, d240, d241, d242, d243, d244, d245, d246, d247, d248, d249, d250, d251, d252, d253, d254, d255, d256, d257, d258, d259, d260, kk261], []⟩ wx) :
    Code.wp Try.prog ((Try.f4.body.bind (blkS 9)).getD .skip) QQ ⟨#[kk0, kk1, kk2, .int .u64 at0, kk4, kk5, kk6, kk7, kk8, .pointer (some ⟨N.ob, 0, none⟩), kk10, kk11, kk12, kk13, kk14, kk15, .slice (some ⟨ag, 0, none⟩) kn ac, kk17, kk18, .int .i64 (j4 : Int), .pointer (some ⟨xb, 0, none⟩), .bool th, .int .i64 1, kk23, kk24, kk25, kk26, kk27, kk28, kk29, kk30, kk31, kk32, kk33, kk34, kk35, kk36, kk37, kk38, kk39, kk40, kk41, kk42, kk43, kk44, kk45, kk46, kk47, kk48, kk49, kk50, kk51, kk52, kk53, kk54, kk55, kk56, kk57, kk58, kk59, kk60, kk61, kk62, kk63, kk64, kk65, kk66, kk67, kk68, kk69, kk70, kk71, kk72, kk73, kk74, kk75, kk76, kk77, kk78, kk79, kk80, kk81, kk82, kk83, kk84, kk85, kk86, kk87, kk88, kk89, kk90, kk91, kk92, kk93, kk94, kk95, kk96, kk97, kk98, kk99, kk100, kk101, kk102, kk103, kk104, kk105, kk106, kk107, kk108, kk109, kk110, kk111, kk112, kk113, kk114, kk115, kk116, kk117, kk118, kk119, kk120, kk121, kk122, kk123, kk124, kk125, kk126, kk127, kk128, kk129, kk130, kk131, kk132, kk133, kk134, kk135, kk136, kk137, kk138, kk139, kk140, kk141, kk142, kk143, kk144, kk145, kk146, kk147, kk148, kk149, kk150, kk151, kk152, kk153, kk154, kk155, kk156, kk157, kk158, kk159, kk160, kk161, kk162, kk163, kk164, kk165, kk166, kk167, kk168, kk169, kk170, kk171, kk172, kk173, kk174, kk175, kk176, kk177, kk178, kk179, kk180, kk181, kk182, kk183, kk184, kk185, kk186, kk187, kk188, kk189, kk190, kk191, kk192, kk193, kk194, kk195, kk196, kk197, kk198, kk199, kk200, kk201, kk202, kk203, kk204, kk205, kk206, kk207, kk208, kk209, kk210, kk211, kk212, kk213, kk214, kk215, kk216, kk217, kk218, kk219, kk220, kk221, kk222, kk223, kk224, kk225, kk226, kk227, kk228, kk229, kk230, kk231, kk232, kk233, kk234, kk235, kk236, kk237, kk238, kk239, kk240, kk241, kk242, kk243, kk244, kk245, kk246, kk247, kk248, kk249, kk250, kk251, kk252, kk253, kk254, kk255, kk256, kk257, kk258, kk259, kk260, kk261], []⟩ w2 := by
  have HK := hid hK
  have HT5 := hid hT5
  have HCx := hid hCx
  have HC5 := hid hC5
  have HTH := hid hTH
  have HPP := hid hPP
  clear hK hT5 hCx hC5 hTH hPP
  conv => arg 2; whnf
  go_wp2_with fail
  obtain ⟨rt, hrt⟩ : ∃ rt, N.b / 4096 + (x.s.r : Int) = rt := ⟨_, rfl⟩
  have HRT := hid hrt
  obtain ⟨om, hom⟩ : ∃ om, at0 % 4096 = om := ⟨_, rfl⟩
  have om0 : 0 ≤ om := by omega
  have om1 : om < 4096 := by omega
  have htm : at0.tmod 4096 = om := by rw [Int.tmod_eq_emod_of_nonneg t0]; exact hom
  have HOM := hid hom
  clear hom
  obtain ⟨ga, hga⟩ : ∃ ga, a * 4096 + om = ga := ⟨_, rfl⟩
  have HGA := hid hga
  clear hrt hga
  go_loopw [22] (fun i wr => ∃ acc : Nat, 1 ≤ acc ∧ acc ≤ 4 ∧ i = .int .i64 acc ∧ Hid (Below w2.heap.size w2 wr)) (fun i _ => 4 - (intOf i).toNat)
  case atStart => exact ⟨1, by omega, by omega, rfl, .refl _ _⟩
  case round =>
    obtain ⟨acc, ac1, ac4, rfl, HB6⟩ := hrel
    obtain ⟨wi, rfl⟩ : ∃ wi, wi = wr := ⟨_, rfl⟩
    by_cases hlt5 : acc ≤ 3
    · have HTi := hid (HT5.out.below HB6.out)
      have HCi : Hid (∀ w, Below wi.heap.size wi w → w.cell? ⟨ag, j4, none⟩ = some (.int .u64 a)) := fun w hb => HC5.out w (HB6.out.trans (hb.mono HB6.out.size))
      have HXi : Hid (∀ w, Below wi.heap.size wi w → w.cell? ⟨xb, 1, none⟩ = some (.int .i64 c1) ∧ w.cell? ⟨xb, 2, none⟩ = some (.int .i64 c2)) := fun w hb => HCx.out w (HB6.out.trans (hb.mono HB6.out.size))
      have HGe : Hid (∃ (lt : Bool) (g0 g1 g2 : Int), ((th = true ∧ (bits .and .i64 c2 (wI acc) != 0) = lt) ∨ (th = false ∧ lt = false)) ∧ ((lt = true ∧ g0 = N.b + c1 * 4096 + om ∧ g1 = c2 ∧ g2 = 0 ∧ 0 ≤ c1 ∧ c1 ≤ 1024) ∨ (lt = false ∧ g2 = 2)) ∧ ∀ w', Below wi.heap.size wi w' → Calls Try.prog 23 #[.pointer (some ⟨N.m, 0, none⟩), .int .u64 rt, .int .u64 ga, .int .i64 (acc : Int)] w' fun r w2 => r = .returned (.tuple #[.int .u64 g0, .int .i64 g1, .int .i64 g2]) ∧ Below w'.heap.size w' w2) := by
        rw [← HRT.out, ← HGA.out, ← HOM.out]
        exact tt_ask HTi.out a a0 a1 at0 t0 acc ac1 hlt5 c1 c2 th HTH.out HPP.out
      obtain ⟨lt, g0, g1, g2, hL, hgg, hGu⟩ := HGe.out
      have HGu := hid hGu
      have HLL := hid hL
      have HGG := hid hgg
      clear hGu HGe hL hgg
      have hgw : IntKind.u64.wrap (a * 4096) = a * 4096 := by rw [IntKind.wrap_u64]; omega
      have hgv : IntKind.u64.wrap (a * 4096 + om) = ga := by rw [IntKind.wrap_u64, ← HGA.out]; omega
      have hac3 : (acc : Int) ≤ 3 := by omega
      have hac4 : (acc : Int) < 4 := by omega
      obtain ⟨wn, hwn⟩ : ∃ wn : Int, wI acc = wn := ⟨_, rfl⟩
      have cw : (#[.int .i64 0, .int .i64 8, .int .i64 2, .int .i64 4] : Array Value)[acc]? = some (.int .i64 wn) := by
        rw [← hwn]
        rcases (show acc = 1 ∨ acc = 2 ∨ acc = 3 by omega) with rfl | rfl | rfl <;> rfl
      have HWN := hid hwn
      clear hwn
      go_upto_region 41 with fail
      obtain ⟨wj, hwj⟩ : ∃ wj, wj = wi.alloc (.cells #[.int .i64 0, .int .i64 8, .int .i64 2, .int .i64 4] 3) := ⟨_, rfl⟩
      rw [← hwj]
      have HBj : Hid (Below wi.heap.size wi wj) := hwj ▸ (Below.refl _ _).alloc (Nat.le_refl _) _
      clear hwj
      have HTj := hid (HTi.out.below HBj.out)
      have f0 : ∀ x : C.WB wj, x.w.cell? ⟨N.ob, 0, none⟩ = some (.pointer (some ⟨N.q, 0, none⟩)) := fun y => (HTj.out.below y.h).con 0 _ rfl
      have f4 : ∀ x : C.WB wj, x.w.cell? ⟨N.ob, 4, none⟩ = some (.pointer (some ⟨N.m, 0, none⟩)) := fun y => (HTj.out.below y.h).con 4 _ rfl
      have fa : ∀ x : C.WB wj, x.w.cell? ⟨ag, j4, none⟩ = some (.int .u64 a) := fun y => (HCi.out _ (HBj.out.trans (y.h.mono HBj.out.size)))
      have HRt : Hid (∀ x : C.WB wj, Calls Try.prog 24 #[.pointer (some ⟨N.q, 0, none⟩)] x.w fun r w' => r = .returned (.int .u64 rt) ∧ Below x.w.heap.size x.w w') := fun y => by
        rw [← HRT.out]
        exact (tt_Root (HTj.out.below y.h)).mono fun r w' hh => ⟨hh.1, by rw [hh.2]; exact .refl _ _⟩
      have HGj : Hid (∀ (x : C.WB wj) (g : Int), g = ga → Calls Try.prog 23 #[.pointer (some ⟨N.m, 0, none⟩), .int .u64 rt, .int .u64 g, .int .i64 (acc : Int)] x.w fun r w' => r = .returned (.tuple #[.int .u64 g0, .int .i64 g1, .int .i64 g2]) ∧ Below x.w.heap.size x.w w') := fun y g hg => by rw [hg]; exact HGu.out y.w (HBj.out.trans (y.h.mono HBj.out.size))
      refine C.wp_region_wb (by kernel_rfl) (by kernel_rfl) ?_
      repeat
        refine wpQuiet_step (fun K hK => ?_)
        go_simp
        first
          | (refine hK _ ?_; clear hK K)
          | (refine ⟨_, fun _ => rfl, hK _ ?_⟩; clear hK K)
          | (refine ⟨.int .u64 rt, fun x => ?_, hK _ ?_⟩
             · (go_at_call 24; exact C.Calls.wb x (HRt.out x))
             clear hK K)
          | (refine ⟨.tuple #[.int .u64 g0, .int .i64 g1, .int .i64 g2], fun x => ?_, hK _ ?_⟩
             · (go_at_call 23; (with_reducible refine C.Calls.wb x (HGj.out x _ ?_)); rfl)
             clear hK K)
      refine wpQuiet_nil ?_
      intro w9 hw9
      obtain ⟨y9, rfl⟩ := hw9
      have HB9 : Hid (Below wi.heap.size wi y9.w) := HBj.out.trans (y9.h.mono HBj.out.size)
      obtain ⟨w9, hw9⟩ : ∃ w9, w9 = y9.w := ⟨_, rfl⟩
      rw [← hw9] at HB9 ⊢
      clear hw9 f0 f4 fa HRt HGj HTj HBj HGu hgw hgv cw
      have HT9 := hid (HTi.out.below HB9.out)
      obtain ⟨cx1, cx2⟩ := HXi.out w9 HB9.out
      have o5 : w9.cell? ⟨N.ob, 5, none⟩ = some (.pointer (some ⟨N.dm, 0, none⟩)) := HT9.out.con 5 _ rfl
      have od := HT9.out.doc.1
      have HFI : Hid (∀ n, Below w2.heap.size w2 (w9.drewN n)) := fun n => HB6.out.trans ((HB9.out.trans ((dnT w9 n).mono HB9.out.size)).mono HB6.out.size)
      rcases HLL.out with ⟨rfl, hlw⟩ | ⟨rfl, rfl⟩
      · rw [HWN.out] at hlw
        rcases HGG.out with ⟨rfl, hg0, rfl, rfl, hc0, hc1⟩ | ⟨rfl, rfl⟩
        · obtain ⟨nlo, nhi⟩ := HT9.out.ranges
          have hw1 : IntKind.u64.wrap c1 = c1 := by rw [IntKind.wrap_u64]; omega
          have hw2 : IntKind.u64.wrap (c1 * 4096) = c1 * 4096 := by rw [IntKind.wrap_u64]; omega
          have hw3 : IntKind.u64.wrap (N.b + c1 * 4096) = N.b + c1 * 4096 := by rw [IntKind.wrap_u64]; omega
          have hw4 : IntKind.u64.wrap (N.b + c1 * 4096 + om) = g0 := by rw [IntKind.wrap_u64]; omega
          clear hg0
          go_upto_region 43 with fail
          go_quiet (fail)
          go_wp2_with fail
          go_roundw
          case rel => exact ⟨acc + 1, by omega, by omega, by go_num, HFI.out _⟩
          case measure => simp [intOf]; omega
        · go_upto_region 43 with fail
          go_quiet (fail)
          go_wp2_with fail
          go_roundw
          case rel => exact ⟨acc + 1, by omega, by omega, by go_num, HFI.out _⟩
          case measure => simp [intOf]; omega
      · rcases HGG.out with ⟨hz, -⟩ | ⟨-, rfl⟩
        · cases hz
        · go_upto_region 43 with fail
          go_quiet (fail)
          go_wp2_with fail
          go_roundw
          case rel => exact ⟨acc + 1, by omega, by omega, by go_num, HFI.out _⟩
          case measure => simp [intOf]; omega
    · obtain rfl : acc = 4 := by omega
      go_wp2_with fail
      exact HK.out _ _ _ _ _ _ _ _ _ _ _ _ _ _ _ _ _ _ _ _ _ _ _ _ _ _ _ _ _ _ _ _ _ _ _ _ _ _ _ _ _ _ _ _ _ _ _ _ _ _ _ _ _ _ _ _ _ _ _ _ _ _ _ _ _ _ _ _ _ _ _ _ _ _ _ _ _ _ _ _ _ _ _ HB6.out
end Go.Proofs.Ytekkjalfiogenaa
namespace Go.Proofs.Ytekkjalfiogenaa
open Go.RowKit
open C (Only hid c_Place RMem)
set_option linter.unusedVariables false
set_option maxRecDepth 100000

set_option maxHeartbeats 16000000 in
theorem w_StageTables (W : World) (base : Int) (b0 : 0 ≤ base) (b1 : base < 18446744073709551616) (fr : Int) (f0 : -9223372036854775808 ≤ fr) (f1 : fr ≤ 9223372036854775807) (ad : Option Addr) (la cap ab ao : Nat) (X : Nat → SopV) (hX : Soc W ad la cap ab ao X) (at0 : Int) (t0 : 0 ≤ at0) (t1 : at0 < 18446744073709551616) :
    Calls Try.prog 4 #[.int .u64 base, .int .i64 fr, .slice ad la cap, .int .u64 at0] W fun r w' => r = .returned (.bool true) ∧ Below W.heap.size W w' := by
  have hAw := l_awake10
  obtain ⟨n, hn⟩ : ∃ n : Nat, (n : Int) = 4 + fr % 12 := ⟨(4 + fr % 12).toNat, by omega⟩
  have hN := l_New10 W W (.refl _ _) base fr 2 b0 b1 f0 f1 rfl n hn _ rfl
  simp only [onv] at hN
  generalize base % 1099511627776 / 4096 * 4096 = b at hN
  have n16 : n ≤ 15 := by omega
  have HXs := hid hX
  have hlen := hX.len
  have hcap := hX.cap
  clear hX hn
  go_enter Try.func4, Try.ntmps4
  go_upto_region 2 with (go_at_call 6; refine hN.mono ?_; rintro r w1 ⟨q, qd, p, pd, m, dm, F, u, G, ud, rfl, h1⟩; have H1 := hid h1; clear h1 hN)
  obtain ⟨wa, hwa⟩ : ∃ wa, wa = w1.alloc (.cells (onc q qd p pd m dm) 33) := ⟨_, rfl⟩
  have HT0 : Hid (Tt W wa ⟨q, qd, p, pd, m, dm, w1.heap.size, b, n⟩ ⟨s0 1, (v0 m b 1 2 n).own 1 (-1), clr (fun _ => 0) 1⟩) := by
    rw [hwa]
    have hb : Below w1.heap.size w1 (w1.alloc (.cells (onc q qd p pd m dm) 33)) := (Below.refl _ _).alloc (Nat.le_refl _) _
    exact ⟨⟨F, u, G, ud, _, _, H1.out.below hb, fun z => Nat.lt_irrefl _ (H1.out.sp.lt z), rfl, rfl⟩, heap_alloc_new w1 _, fun p hp => absurd rfl hp, rfl, rfl, rfl⟩
  unfold onc at hwa
  rw [← hwa]
  clear hwa H1
  generalize w1.heap.size = ob at *
  generalize hNN : (⟨q, qd, p, pd, m, dm, ob, b, n⟩ : Nm) = N at *
  obtain ⟨rfl, rfl, rfl, rfl, rfl, rfl, rfl, rfl, rfl⟩ : q = N.q ∧ qd = N.qd ∧ p = N.p ∧ pd = N.pd ∧ m = N.m ∧ dm = N.dm ∧ ob = N.ob ∧ b = N.b ∧ n = N.n := by rw [← hNN]; exact ⟨rfl, rfl, rfl, rfl, rfl, rfl, rfl, rfl, rfl⟩
  clear hNN
  have y0 : wa.cell? ⟨N.ob, 0, none⟩ = some (.pointer (some ⟨N.q, 0, none⟩)) := HT0.out.con 0 _ rfl
  go_upto_block 0 with fail
  refine tb1 W wa ad la cap ab ao X HXs.out N _ HT0.out _ _ _ _ _ _ _ _ _ _ _ _ _ _ _ _ _ _ _ _ _ _ _ _ _ _ _ _ _ _ _ _ _ _ _ _ _ _ _ _ _ _ _ _ _ _ _ _ _ _ _ _ _ _ _ _ _ _ _ _ _ _ _ _ _ _ _ _ _ _ _ _ _ _ _ _ _ _ _ _ _ _ _ _ _ _ _ _ _ _ _ _ _ _ _ _ _ _ _ _ _ _ _ _ _ _ _ _ _ _ _ _ _ _ _ _ _ _ _ _ _ _ _ _ _ _ _ _ _ _ _ _ _ _ _ _ _ _ _ _ _ _ _ _ _ _ _ _ _ _ _ _ _ _ _ _ _ _ _ _ _ _ _ _ _ _ _ _ _ _ _ _ _ _ _ _ _ _ _ _ _ _ _ _ _ _ _ _ _ _ _ _ _ _ _ _ _ _ _ _ _ _ _ _ _ _ _ _ _ _ _ _ _ _ _ _ _ _ _ _ _ _ _ _ _ _ _ _ _ _ _ _ _ _ _ _ _ _ _ _ _ _ _ _ _ _ _ _ _ _ _ _ _ _ _ _ _ _ _ _ ?_
  intro wr x y11 y12 y13 y41 y42 y43 y44 y45 y46 y47 y48 y49 y50 y51 y52 y53 y54 y55 y56 y57 y58 y59 y60 y61 y62 y63 y64 y65 y66 y67 y68 y69 y70 y71 y72 y73 y74 y75 y76 y77 y78 y79 y80 y81 y82 y83 y84 y85 y86 y87 y88 y89 y90 y91 y92 y93 y94 y95 y96 y97 y98 y99 y100 y101 y102 y103 y104 y105 y106 y107 y108 y109 y110 y111 y112 y113 y114 y115 y116 y117 y118 y119 y120 y121 y122 y123 y124 y125 hp
  have HP := hid hp
  clear hp HT0 y0
  clear hlen hcap HXs
  have o0 : wr.cell? ⟨N.ob, 0, none⟩ = some (.pointer (some ⟨N.q, 0, none⟩)) := HP.out.con 0 _ rfl
  have hT := tt_Tables HP.out
  obtain ⟨ln, hln⟩ : ∃ ln, x.s.l.length = ln := ⟨_, rfl⟩
  rw [hln] at hT
  clear hln
  go_upto_region 23 with (go_at_call 21; (with_reducible refine hT.mono ?_); rintro r wt ⟨tc, tg, rfl, q1, q2, k4, k5, k6⟩; have HTG := hid k4; have HTL := hid k5; have HPt := hid k6; clear k4 k5 k6 hT)
  clear HP o0
  go_loopw [15] (fun i wq => ∃ j : Nat, j ≤ ln ∧ i = .int .i64 j ∧ Hid (Below wt.heap.size wt wq)) (fun i _ => ln - (intOf i).toNat)
  case atStart => exact ⟨0, by omega, rfl, .refl _ _⟩
  case round =>
    obtain ⟨j2, hj2, rfl, HB2⟩ := hrel
    obtain ⟨wq, rfl⟩ : ∃ wq, wq = wr := ⟨_, rfl⟩
    have HP2 := hid (HPt.out.below HB2.out)
    by_cases hlt2 : j2 < ln
    · obtain ⟨lj, cl0, hoj⟩ := HTL.out j2 hlt2
      have cl : wq.cell? ⟨tg, j2, none⟩ = some (.int .i64 (lj : Int)) := (HB2.out.cell (p := ⟨tg, j2, none⟩) HTG.out).trans cl0
      have o2 : wq.cell? ⟨N.ob, 2, none⟩ = some (.pointer (some ⟨N.p, 0, none⟩)) := HP2.out.con 2 _ rfl
      have HOw : Hid (∀ m, Calls Try.prog 12 #[.pointer (some ⟨N.p, 0, none⟩), .int .i64 (lj : Int)] (wq.drewN m) fun r w' => r = .returned (.int .i64 (-1)) ∧ w' = wq.drewN m) := fun m => by rw [← hoj]; exact tt_Owner (HP2.out.below (dnT wq m)) lj
      clear hoj cl0
      go_upto_region 25 with fail
      go_quiet (first | (go_at_call 12; exact Calls.quiet_of_same (HOw.out _)))
      go_wp2_with fail
      go_roundw
      case rel => exact ⟨j2 + 1, by omega, by go_num, HB2.out.trans ((dnT wq nq).mono HB2.out.size)⟩
      case measure => simp [intOf]; omega
    · obtain rfl : j2 = ln := by omega
      have o0 : wq.cell? ⟨N.ob, 0, none⟩ = some (.pointer (some ⟨N.q, 0, none⟩)) := HP2.out.con 0 _ rfl
      have hq0 : at0 % 549755813888 / 4096 ≤ 134217727 := by omega
      have hq1 : 0 ≤ at0 % 549755813888 / 4096 := by omega
      obtain ⟨y0, hy0⟩ : ∃ y0 : Int, at0 % 549755813888 / 4096 = y0 := ⟨_, rfl⟩
      rw [hy0] at hq0 hq1
      go_upto_region 28 with fail
      obtain ⟨wc, hwc⟩ : ∃ wc, wc = wq.alloc (.cells #[.int .u64 y0] 22) := ⟨_, rfl⟩
      have HBc : Hid (Below wq.heap.size wq wc) := hwc ▸ (Below.refl _ _).alloc (Nat.le_refl _) _
      have HRc : Hid (wc.heap[wq.heap.size]? = some (.cells #[.int .u64 y0] 22 (0, 0))) := hwc ▸ heap_alloc_new wq _
      rw [← hwc]
      clear hwc hy0
      have HPc := hid (HP2.out.below HBc.out)
      have oc0 : wc.cell? ⟨N.ob, 0, none⟩ = some (.pointer (some ⟨N.q, 0, none⟩)) := HPc.out.con 0 _ rfl
      have hG := tt_Pages HPc.out
      have HA1 : Hid (wc.ownsRow 0 22 1 (.slice (some ⟨wq.heap.size, 0, none⟩) 1 1) 1 (us (fun _ => y0) 1)) := ⟨rfl, .inr ⟨wq.heap.size, 1, _, rfl, Nat.zero_le _, HRc.out, Nat.le_refl _, by decide, rfl, rfl⟩⟩
      have HGE : Hid (∀ g, Ug (.slice (some ⟨wq.heap.size, 0, none⟩) 1 1) g → wq.heap.size ≤ g) := fun g hg => by
        have : some wq.heap.size = some g := hg
        cases this; exact Nat.le_refl _
      generalize Value.slice (some ⟨wq.heap.size, 0, none⟩) 1 1 = va at *
      go_upto_region 30 with (go_at_call 22; (with_reducible refine hG.mono ?_); rintro r wp ⟨pa, pn, pc, pg, cur, rfl, r1, r2, r3, k3, k4, k5⟩; have HPG := hid k3; have HPC := hid k4; have HBp := hid k5; clear k3 k4 k5 hG)
      have HA3 : Hid (Aq wq wp va (2 * 0 + 1) pn pg cur (fun _ => y0)) := ⟨own_only HA1.out (T := fun _ => False) (.ofBelow HBp.out) (fun _ _ z => z), fun _ => ⟨hq1, by omega⟩, HGE.out, HBc.out.trans (HBp.out.mono HBc.out.size), fun q => (HPG.out q).2⟩
      have HPA : Hid (0 < pn → pa = some ⟨pg, 0, none⟩) := fun q => (HPG.out q).1
      clear HA1 HGE HBc HBp HRc HPc HPG oc0 o0 hq0 hq1
      go_loopw [16, 18] (fun v i wr => ∃ (j3 : Nat) (v' : Value) (A : Nat → Int), j3 ≤ pn ∧ i = .int .i64 j3 ∧ v' = v ∧ Hid (Aq wq wr v' (2 * j3 + 1) pn pg cur A)) (fun _ i _ => pn - (intOf i).toNat)
      case atStart => exact ⟨0, va, _, by omega, rfl, rfl, HA3⟩
      case round =>
        obtain ⟨j3, v, A, hj3, rfl, rfl, HA⟩ := hrel
        clear HA3
        by_cases hlt3 : j3 < pn
        · obtain rfl := HPA.out (by omega)
          obtain ⟨y, hcy, hyb⟩ := HPC.out j3 hlt3
          have hjp : (j3 : Int) < pn := by omega
          have hyw : IntKind.u64.wrap ((y : Int) + 1) = (y : Int) + 1 := by rw [IntKind.wrap_u64]; omega
          go_upto_region 32 with fail
          refine wp_region_any (by kernel_rfl) ?_
          obtain ⟨w0, hw0⟩ : ∃ w0, w0 = wr.drew := ⟨_, rfl⟩
          rw [show ({ wr with drawn := wr.drawn + 1 } : World) = w0 from hw0.symm]
          have HA0 : Hid (Aq wq w0 v (2 * j3 + 1) pn pg cur A) := by rw [hw0]; exact HA.out.below (Below.refl _ _).drew
          have hcp : w0.cell? ⟨pg, j3 * 3, none⟩ = some (.int .u64 (y : Int)) := by rw [cell_of_row w0 pg (j3 * 3) _ _ _ (HA0.out.pg (by omega))]; exact hcy
          have HLD : Hid (∀ {listed : Array Bool} (x : Value × Value) (w : World), VL [12, 13] 14 14 (MA w0 v (2 * j3 + 1) A (y : Int) ((y : Int) + 1)) x listed w → w.cell? ⟨pg, j3 * 3, none⟩ = some (.int .u64 (y : Int))) := fun {listed} x w hw => by
            obtain ⟨s, -, hm⟩ := hw.1
            exact hm.cell hcp (lt_of_block (HA0.out.pg (by omega))) (HA0.out.npg (by omega))
          clear hcp hw0
          refine wpAny_fk (α := Value × Value) (fun x => fun dd => if dd = 156 then v else if dd = 157 then .slice (some ⟨pg, 0, none⟩) pn pc else if dd = 158 then .int .i64 (j3 : Int) else if dd = 159 then .pointer (some ⟨pg, j3 * 3, none⟩) else if dd = 160 then .pointer (some ⟨pg, j3 * 3, none⟩) else if dd = 161 then .int .u64 (y : Int) else if dd = 162 then .slice (some ⟨pg, 0, none⟩) pn pc else if dd = 163 then .int .i64 (j3 : Int) else if dd = 164 then .pointer (some ⟨pg, j3 * 3, none⟩) else if dd = 165 then .pointer (some ⟨pg, j3 * 3, none⟩) else if dd = 166 then .int .u64 (y : Int) else if dd = 167 then .int .u64 ((y : Int) + 1) else if dd = 168 then x.1 else if dd = 169 then x.2 else if dd = 16 then x.2 else undef) (VL [12, 13] 14 14 (MA w0 v (2 * j3 + 1) A (y : Int) ((y : Int) + 1))) ?step ?fin (.bool true, .bool true) ?start
          case start => exact .start rfl
          case step =>
            rintro listed fr wr x hF hW i hj
            obtain ⟨hl, o, ho, he⟩ := mem_ready.1 hj
            have hjl : i < listed.size := by rw [hF.q.ls]; exact (Array.getElem?_eq_some_iff.1 ho).1
            have hl0 := getD_tf hjl hl
            clear hj
            have HF := hid hF
            have HW := hid hW
            have HE := hid he
            clear hF hW he hl
            match i, ho with
            | 0, ho =>
              obtain rfl := Option.some.inj ho
              have h14 := HW.out.not hl0 (by decide)
              have e16 : fr.tmps[16]?.getD undef = v := by rw [HF.out.old 14 _ 16 rfl rfl h14]; rfl
              exact wp_q rfl rfl (by simp [execOp, go_sem, e16]; try rfl) ⟨x, HF.out.put (by kernel_rfl) rfl rfl rfl (of_decide_eq_true rfl), HW.out.q hjl (by decide) (by decide)⟩
            | 1, ho =>
              obtain rfl := Option.some.inj ho
              have e17 : fr.tmps[17]?.getD undef = .slice (some ⟨pg, 0, none⟩) pn pc := HF.out.base 17 (by kernel_rfl) rfl
              exact wp_q rfl rfl (by simp [execOp, go_sem, e17]; try rfl) ⟨x, HF.out.put (by kernel_rfl) rfl rfl rfl (of_decide_eq_true rfl), HW.out.q hjl (by decide) (by decide)⟩
            | 2, ho =>
              obtain rfl := Option.some.inj ho
              have e18 : fr.tmps[18]?.getD undef = .int .i64 (j3 : Int) := HF.out.base 18 (by kernel_rfl) rfl
              exact wp_q rfl rfl (by simp [execOp, go_sem, e18]; try rfl) ⟨x, HF.out.put (by kernel_rfl) rfl rfl rfl (of_decide_eq_true rfl), HW.out.q hjl (by decide) (by decide)⟩
            | 3, ho =>
              obtain rfl := Option.some.inj ho
              have e157 : fr.tmps[157]?.getD undef = .slice (some ⟨pg, 0, none⟩) pn pc := HF.out.ev (i := 1) rfl rfl (HE.out ⟨1, .data⟩ (by simp) rfl)
              have e158 : fr.tmps[158]?.getD undef = .int .i64 (j3 : Int) := HF.out.ev (i := 2) rfl rfl (HE.out ⟨2, .data⟩ (by simp) rfl)
              exact wp_q rfl rfl (by simp [execOp, go_sem, e157, e158, hjp]; try rfl) ⟨x, HF.out.put (by kernel_rfl) rfl rfl rfl (of_decide_eq_true rfl), HW.out.q hjl (by decide) (by decide)⟩
            | 4, ho =>
              obtain rfl := Option.some.inj ho
              have e159 : fr.tmps[159]?.getD undef = .pointer (some ⟨pg, j3 * 3, none⟩) := HF.out.ev (i := 3) rfl rfl (HE.out ⟨3, .data⟩ (by simp) rfl)
              exact wp_q rfl rfl (by simp [execOp, go_sem, e159]; try rfl) ⟨x, HF.out.put (by kernel_rfl) rfl rfl rfl (of_decide_eq_true rfl), HW.out.q hjl (by decide) (by decide)⟩
            | 5, ho =>
              obtain rfl := Option.some.inj ho
              have e160 : fr.tmps[160]?.getD undef = .pointer (some ⟨pg, j3 * 3, none⟩) := HF.out.ev (i := 4) rfl rfl (HE.out ⟨4, .data⟩ (by simp) rfl)
              have hc := HLD.out x wr HW.out
              exact wp_q rfl rfl (by simp [execOp, go_sem, e160, hc]; try rfl) ⟨x, HF.out.put (by kernel_rfl) rfl rfl rfl (of_decide_eq_true rfl), HW.out.q hjl (by decide) (by decide)⟩
            | 6, ho =>
              obtain rfl := Option.some.inj ho
              have e17 : fr.tmps[17]?.getD undef = .slice (some ⟨pg, 0, none⟩) pn pc := HF.out.base 17 (by kernel_rfl) rfl
              exact wp_q rfl rfl (by simp [execOp, go_sem, e17]; try rfl) ⟨x, HF.out.put (by kernel_rfl) rfl rfl rfl (of_decide_eq_true rfl), HW.out.q hjl (by decide) (by decide)⟩
            | 7, ho =>
              obtain rfl := Option.some.inj ho
              have e18 : fr.tmps[18]?.getD undef = .int .i64 (j3 : Int) := HF.out.base 18 (by kernel_rfl) rfl
              exact wp_q rfl rfl (by simp [execOp, go_sem, e18]; try rfl) ⟨x, HF.out.put (by kernel_rfl) rfl rfl rfl (of_decide_eq_true rfl), HW.out.q hjl (by decide) (by decide)⟩
            | 8, ho =>
              obtain rfl := Option.some.inj ho
              have e162 : fr.tmps[162]?.getD undef = .slice (some ⟨pg, 0, none⟩) pn pc := HF.out.ev (i := 6) rfl rfl (HE.out ⟨6, .data⟩ (by simp) rfl)
              have e163 : fr.tmps[163]?.getD undef = .int .i64 (j3 : Int) := HF.out.ev (i := 7) rfl rfl (HE.out ⟨7, .data⟩ (by simp) rfl)
              exact wp_q rfl rfl (by simp [execOp, go_sem, e162, e163, hjp]; try rfl) ⟨x, HF.out.put (by kernel_rfl) rfl rfl rfl (of_decide_eq_true rfl), HW.out.q hjl (by decide) (by decide)⟩
            | 9, ho =>
              obtain rfl := Option.some.inj ho
              have e164 : fr.tmps[164]?.getD undef = .pointer (some ⟨pg, j3 * 3, none⟩) := HF.out.ev (i := 8) rfl rfl (HE.out ⟨8, .data⟩ (by simp) rfl)
              exact wp_q rfl rfl (by simp [execOp, go_sem, e164]; try rfl) ⟨x, HF.out.put (by kernel_rfl) rfl rfl rfl (of_decide_eq_true rfl), HW.out.q hjl (by decide) (by decide)⟩
            | 10, ho =>
              obtain rfl := Option.some.inj ho
              have e165 : fr.tmps[165]?.getD undef = .pointer (some ⟨pg, j3 * 3, none⟩) := HF.out.ev (i := 9) rfl rfl (HE.out ⟨9, .data⟩ (by simp) rfl)
              have hc := HLD.out x wr HW.out
              exact wp_q rfl rfl (by simp [execOp, go_sem, e165, hc]; try rfl) ⟨x, HF.out.put (by kernel_rfl) rfl rfl rfl (of_decide_eq_true rfl), HW.out.q hjl (by decide) (by decide)⟩
            | 11, ho =>
              obtain rfl := Option.some.inj ho
              have e166 : fr.tmps[166]?.getD undef = .int .u64 (y : Int) := HF.out.ev (i := 10) rfl rfl (HE.out ⟨10, .data⟩ (by simp) rfl)
              exact wp_q rfl rfl (by simp [execOp, go_sem, e166, hyw]; try rfl) ⟨x, HF.out.put (by kernel_rfl) rfl rfl rfl (of_decide_eq_true rfl), HW.out.q hjl (by decide) (by decide)⟩
            | 12, ho =>
              obtain rfl := Option.some.inj ho
              have e161 : fr.tmps[161]?.getD undef = .int .u64 (y : Int) := HF.out.ev (i := 5) rfl rfl (HE.out ⟨5, .data⟩ (by simp) rfl)
              have e167 : fr.tmps[167]?.getD undef = .int .u64 ((y : Int) + 1) := HF.out.ev (i := 11) rfl rfl (HE.out ⟨11, .data⟩ (by simp) rfl)
              have m1 := HW.out.1.at 0 rfl hl0 (fun j hj => by omega)
              obtain rfl : wr = w0 := m1
              obtain ⟨i0, hi0, hz0, hs0, hb0⟩ := info_parts info_u64T
              refine wp_bs rfl rfl 63 22 2 _ rfl #[.int .u64 (y : Int), .int .u64 ((y : Int) + 1)] i0 _ u_su64T hi0 hz0 (by rw [hs0]; decide) (by rw [hs0]; decide) ?_ ?_
              · have ff := Great.fill_whole (s := 1) (by decide) [.int .u64 (y : Int), .int .u64 ((y : Int) + 1)] ((Array.range (2 * 1)).map (((Value.int .u64 0).cells)[· % (Value.int .u64 0).cells.size]!)) (fun v hv => by simp at hv; rcases hv with rfl | rfl <;> rfl) (by simp)
                rw [hs0]
                have e1 : Act.eval fr (.tmp 161) = .int .u64 (y : Int) := by simp [Act.eval, e161]
                have e2 : Act.eval fr (.tmp 167) = .int .u64 ((y : Int) + 1) := by simp [Act.eval, e167]
                simp only [List.map_toArray, List.map_cons, List.map_nil, e1, e2]
                exact ff
              have HFy : Hid (FrK _ ((fun x : Value × Value => fun dd => if dd = 156 then v else if dd = 157 then .slice (some ⟨pg, 0, none⟩) pn pc else if dd = 158 then .int .i64 (j3 : Int) else if dd = 159 then .pointer (some ⟨pg, j3 * 3, none⟩) else if dd = 160 then .pointer (some ⟨pg, j3 * 3, none⟩) else if dd = 161 then .int .u64 (y : Int) else if dd = 162 then .slice (some ⟨pg, 0, none⟩) pn pc else if dd = 163 then .int .i64 (j3 : Int) else if dd = 164 then .pointer (some ⟨pg, j3 * 3, none⟩) else if dd = 165 then .pointer (some ⟨pg, j3 * 3, none⟩) else if dd = 166 then .int .u64 (y : Int) else if dd = 167 then .int .u64 ((y : Int) + 1) else if dd = 168 then x.1 else if dd = 169 then x.2 else if dd = 16 then x.2 else undef) (.slice (some ⟨wr.heap.size, 0, none⟩) 2 2, x.2)) _ listed fr) := HF.out.swap (fun j o d g1 g2 g3 => by
                by_cases e : d = 168
                · subst e
                  have := ndB_spec (j := j) (k := 12) (d := 168) (by kernel_rfl) g1 rfl g2 rfl
                  subst this
                  rw [hl0] at g3; cases g3
                · simp [e])
              exact ⟨(.slice (some ⟨wr.heap.size, 0, none⟩) 2 2, x.2), HFy.out.put (by kernel_rfl) rfl rfl rfl (of_decide_eq_true rfl), HW.out.go 0 hjl rfl hl0 (fun j hj => by omega) (by intro a ha; match a, ha with | 0, _ => rfl | 1, ha => simp at ha) ⟨rfl, rfl⟩ (by decide)⟩
            | 13, ho =>
              obtain rfl := Option.some.inj ho
              have e156 : fr.tmps[156]?.getD undef = v := HF.out.ev (i := 0) rfl rfl (HE.out ⟨0, .data⟩ (by simp) rfl)
              have e168 : fr.tmps[168]?.getD undef = x.1 := HF.out.ev (i := 12) rfl rfl (HE.out ⟨12, .data⟩ (by simp) rfl)
              have h12 : listed.getD 12 false = true := HE.out ⟨12, .data⟩ (by simp) rfl
              obtain ⟨m2, rfl⟩ := HW.out.1.at 1 rfl hl0 (fun j hj => by obtain rfl : j = 0 := (by omega); exact ⟨12, rfl, h12⟩)
              obtain ⟨i0, hi0, hz0, hs0, hb0⟩ := info_parts info_u64T
              have hb1 : Below w0.heap.size w0 (w0.alloc (.cells #[.int .u64 (y : Int), .int .u64 ((y : Int) + 1)] 22)) := (Below.refl _ _).alloc (Nat.le_refl _) _
              have e28' : Act.eval fr (.tmp 156) = v := by simp [Act.eval, e156]
              have e31' : Act.eval fr (.tmp 168) = .slice (some ⟨w0.heap.size, 0, none⟩) 2 2 := by simp [Act.eval, e168, m2]
              refine wpOp_step rfl fun K' hK => ?_
              refine step_append_blk _ (.tmp 156) (.tmp 168) 63 rfl 22 i0 _ 1 8 u_su64T hi0 hz0 hs0 hb0 rfl (by decide) v (2 * j3 + 1) (us A (2 * j3 + 1)) e28' (own_only HA0.out.own (T := fun _ => False) (.ofBelow hb1) fun _ _ z => z) ⟨w0.heap.size, 0, none⟩ 2 2 [.int .u64 (y : Int), .int .u64 ((y : Int) + 1)] e31' rfl ?_ (by intro v hv; simp at hv; rcases hv with rfl | rfl <;> rfl) (show 2 * j3 + 1 + 2 ≤ 9223372036854775807 by omega) (by omega) rfl ?_
              · intro i v hv
                rw [C.addr_add, Nat.zero_add, cell_of_row _ _ i _ _ _ (heap_alloc_new w0 _)]
                simpa using hv
              intro v' w3 hown hgrow hblk
              have ho : Only (Ug v) w0 w3 := (Only.ofBelow hb1).trans (grown_ug hgrow)
              have HFy : Hid (FrK _ ((fun x : Value × Value => fun dd => if dd = 156 then v else if dd = 157 then .slice (some ⟨pg, 0, none⟩) pn pc else if dd = 158 then .int .i64 (j3 : Int) else if dd = 159 then .pointer (some ⟨pg, j3 * 3, none⟩) else if dd = 160 then .pointer (some ⟨pg, j3 * 3, none⟩) else if dd = 161 then .int .u64 (y : Int) else if dd = 162 then .slice (some ⟨pg, 0, none⟩) pn pc else if dd = 163 then .int .i64 (j3 : Int) else if dd = 164 then .pointer (some ⟨pg, j3 * 3, none⟩) else if dd = 165 then .pointer (some ⟨pg, j3 * 3, none⟩) else if dd = 166 then .int .u64 (y : Int) else if dd = 167 then .int .u64 ((y : Int) + 1) else if dd = 168 then x.1 else if dd = 169 then x.2 else if dd = 16 then x.2 else undef) (x.1, v')) _ listed fr) := HF.out.swap (fun j o d g1 g2 g3 => by
                by_cases e : d = 169
                · subst e
                  have := ndB_spec (j := j) (k := 13) (d := 169) (by kernel_rfl) g1 rfl g2 rfl
                  subst this
                  rw [hl0] at g3; cases g3
                · by_cases e2 : d = 16
                  · subst e2
                    have := ndB_spec (j := j) (k := 14) (d := 16) (by kernel_rfl) g1 rfl g2 rfl
                    subst this
                    rw [HW.out.not hl0 (by decide)] at g3; cases g3
                  · simp [e, e2])
              exact hK _ _ ⟨(x.1, v'), HFy.out.put (by kernel_rfl) rfl rfl rfl (of_decide_eq_true rfl), HW.out.go 1 hjl rfl hl0 (fun j hj => by obtain rfl : j = 0 := (by omega); exact ⟨12, rfl, h12⟩) (by intro a ha; match a, ha with | 0, ha => simp at ha | 1, _ => rfl) ⟨hown, ho, fun k hk => (hblk k hk).imp id fun z => Nat.le_trans hb1.size z⟩ (by decide)⟩
            | 14, ho =>
              obtain rfl := Option.some.inj ho
              have e169 : fr.tmps[169]?.getD undef = x.2 := HF.out.ev (i := 13) rfl rfl (HE.out ⟨13, .data⟩ (by simp) rfl)
              have ha : ∀ j, j < 14 → listed.getD j false = true := he_all HE.out 14 (by kernel_rfl)
              exact wp_q rfl rfl (by simp [execOp, go_sem, e169]; try rfl) ⟨x, HF.out.put (by kernel_rfl) rfl rfl rfl (of_decide_eq_true rfl), HW.out.lq hjl (by decide) ha⟩
          case fin =>
            rintro listed fr w2 x hF hW hr
            have all := allDone hr hF.q.ls (by kernel_rfl)
            have k1 := hW.1.end 1 rfl (all 13 (by decide)) (fun s hs hm => by
              match s, hs, hm with
              | 2, _, hm => exact hm
              | n + 3, _, hm => exact hm.elim)
            obtain ⟨m1, m2, m3⟩ := k1
            rw [hF.full all]
            clear hF hW hr all
            have HA2 : Hid (Aq wq w2 x.2 (2 * j3 + 1 + 2) pn pg cur (upA A (2 * j3 + 1) (y : Int) ((y : Int) + 1))) := HA0.out.next m1 m2 m3 ⟨by omega, by omega⟩ ⟨by omega, by omega⟩
            clear m1 m2 m3 HLD HA0
            simp only [List.foldl_cons, List.foldl_nil, fillF]
            go_simp
            go_wp2
            go_roundw
            case rel => exact ⟨j3 + 1, x.2, _, by omega, by go_num, rfl, by rw [show 2 * (j3 + 1) + 1 = 2 * j3 + 1 + 2 by omega]; exact HA2⟩
            case measure => simp [intOf]; omega
        · obtain rfl : j3 = pn := by omega
          obtain ⟨wz, rfl⟩ : ∃ wz, wz = wr := ⟨_, rfl⟩
          obtain ⟨kn, hkn⟩ : ∃ kn, kn = 2 * j3 + 1 := ⟨_, rfl⟩
          rw [← hkn] at HA
          obtain ⟨ag, ac, rfl, qa1, qa2, qa3, qa4⟩ : ∃ ag ac, v = .slice (some ⟨ag, 0, none⟩) kn ac ∧ kn ≤ ac ∧ ac ≤ 9223372036854775807 ∧ ag < wz.heap.size ∧ ∀ i, i < kn → wz.cell? ⟨ag, i, none⟩ = some (.int .u64 (A i)) := by
            rcases HA.out.own.2 with ⟨-, h2⟩ | ⟨g, cap, cu, h1, -, h3, h4, h5, h6, h7⟩
            · omega
            · refine ⟨g, cap, h1, h4, h5, lt_of_block h3, fun i hi => ?_⟩
              rw [cell_of_row wz g i _ _ _ h3]
              have : (cu.toList.take (kn * 1))[i]? = (us A kn)[i]? := by rw [h7]
              rw [List.getElem?_take_of_lt (by omega), Array.getElem?_toList] at this
              rw [this]
              simp [us, hi]
          have HAz := hid qa3
          have HCz := hid qa4
          have HNz := hid HA.out.num
          have HTz := hid (HP2.out.below HA.out.bel)
          have HKN := hid hkn
          clear hkn qa3 qa4 HA hlt3 hj3 HPC HPA
          go_upto_region 34 with fail
          go_loopw [19] (fun i wr => ∃ j4 : Nat, j4 ≤ kn ∧ i = .int .i64 j4 ∧ Hid (Below wz.heap.size wz wr)) (fun i _ => kn - (intOf i).toNat)
          case atStart => exact ⟨0, by omega, rfl, .refl _ _⟩
          case round =>
            obtain ⟨j4, hj4, rfl, HB4⟩ := hrel
            obtain ⟨wo, rfl⟩ : ∃ wo, wo = wr := ⟨_, rfl⟩
            have HTo := hid (HTz.out.below HB4.out)
            by_cases hlt4 : j4 < kn
            · have hjk : (j4 : Int) < kn := by omega
              obtain ⟨a, ha⟩ : ∃ a, A j4 = a := ⟨_, rfl⟩
              have HCo : Hid (wo.cell? ⟨ag, j4, none⟩ = some (.int .u64 a)) := by rw [← ha]; exact (HB4.out.cell (p := ⟨ag, j4, none⟩) HAz.out).trans (HCz.out j4 hlt4)
              have HAo : Hid (ag < wo.heap.size) := Nat.lt_of_lt_of_le HAz.out HB4.out.size
              obtain ⟨a0, a1⟩ := HNz.out j4
              rw [ha] at a0 a1
              clear ha
              obtain ⟨c0, c1, c2, th, hth, hpp, hFo⟩ := tt_Find HTo.out a a0
              have HFo := hid hFo
              have HTH := hid hth
              have HPP := hid hpp
              clear hFo hth hpp
              go_upto_region 36 with fail
              refine wp_region_any (by kernel_rfl) ?_
              obtain ⟨w0, hw0⟩ : ∃ w0, w0 = wo.drew := ⟨_, rfl⟩
              rw [show ({ wo with drawn := wo.drawn + 1 } : World) = w0 from hw0.symm]
              have HDr : Hid (Below wo.heap.size wo w0) := hw0 ▸ (Below.refl _ _).drew
              have HT4 := hid (HTo.out.below HDr.out)
              have HAG : Hid (ag < w0.heap.size) := Nat.lt_of_lt_of_le HAo.out HDr.out.size
              have HCA : Hid (w0.cell? ⟨ag, j4, none⟩ = some (.int .u64 a)) := (HDr.out.cell (p := ⟨ag, j4, none⟩) HAo.out).trans HCo.out
              have HFD : Hid (∀ w, Below w0.heap.size w0 w → Calls Try.prog 10 #[.pointer (some ⟨N.q, 0, none⟩), .int .u64 a] w fun r w2 => r = .returned (.tuple #[.agg #[.int .u64 c0, .int .i64 c1, .int .i64 c2], .bool th]) ∧ Below w.heap.size w w2) := fun w hb => HFo.out w (HDr.out.trans (hb.mono HDr.out.size))
              clear hw0
              refine wpAny_fx (α := Nat) (fun x : Nat => fun dd => if dd = 177 then .pointer (some ⟨N.ob, 0, none⟩) else if dd = 178 then .pointer (some ⟨N.q, 0, none⟩) else if dd = 179 then .slice (some ⟨ag, 0, none⟩) kn ac else if dd = 180 then .int .i64 (j4 : Int) else if dd = 181 then .pointer (some ⟨ag, j4, none⟩) else if dd = 182 then .int .u64 a else if dd = 183 then .tuple #[.agg #[.int .u64 c0, .int .i64 c1, .int .i64 c2], .bool th] else if dd = 176 then .tuple #[.agg #[.int .u64 c0, .int .i64 c1, .int .i64 c2], .bool th] else if dd = 184 then .agg #[.int .u64 c0, .int .i64 c1, .int .i64 c2] else if dd = 185 then .bool th else if dd = 20 then .pointer (some ⟨x, 0, none⟩) else if dd = 21 then .bool th else undef) (V36 w0 #[.int .u64 0, .int .i64 0, .int .i64 0] #[.int .u64 c0, .int .i64 c1, .int .i64 c2]) ?step ?fin 0 ?start
              case start => exact .start _
              case step =>
                rintro listed fr wr x hF hW i hj
                obtain ⟨hl, o, ho, he⟩ := mem_ready.1 hj
                have hjl : i < listed.size := by rw [hF.ls]; exact (Array.getElem?_eq_some_iff.1 ho).1
                have hl0 := getD_tf hjl hl
                clear hj
                have HF := hid hF
                have HW := hid hW
                have HE := hid he
                clear hF hW he hl
                match i, ho with
                | 0, ho =>
                  obtain rfl := Option.some.inj ho
                  have e9 : fr.tmps[9]?.getD undef = .pointer (some ⟨N.ob, 0, none⟩) := HF.out.base 9 (by kernel_rfl) rfl
                  exact wp_q rfl rfl (by simp [execOp, go_sem, e9]; try rfl) ⟨x, HF.out.put (by kernel_rfl) rfl rfl rfl (of_decide_eq_true rfl), HW.out.q hjl (by decide) (by decide) (.refl _ _)⟩
                | 1, ho =>
                  obtain rfl := Option.some.inj ho
                  have e177 : fr.tmps[177]?.getD undef = .pointer (some ⟨N.ob, 0, none⟩) := HF.out.ev (i := 0) rfl rfl (HE.out ⟨0, .data⟩ (by simp) rfl)
                  have hc := (HW.out.bel.cell (p := ⟨N.ob, 0, none⟩) (lt_of_block HT4.out.on)).trans (HT4.out.con 0 _ rfl)
                  exact wp_q rfl rfl (by simp [execOp, go_sem, e177, hc]; try rfl) ⟨x, HF.out.put (by kernel_rfl) rfl rfl rfl (of_decide_eq_true rfl), HW.out.q hjl (by decide) (by decide) (.refl _ _)⟩
                | 2, ho =>
                  obtain rfl := Option.some.inj ho
                  have e16 : fr.tmps[16]?.getD undef = .slice (some ⟨ag, 0, none⟩) kn ac := HF.out.base 16 (by kernel_rfl) rfl
                  exact wp_q rfl rfl (by simp [execOp, go_sem, e16]; try rfl) ⟨x, HF.out.put (by kernel_rfl) rfl rfl rfl (of_decide_eq_true rfl), HW.out.q hjl (by decide) (by decide) (.refl _ _)⟩
                | 3, ho =>
                  obtain rfl := Option.some.inj ho
                  have e19 : fr.tmps[19]?.getD undef = .int .i64 (j4 : Int) := HF.out.base 19 (by kernel_rfl) rfl
                  exact wp_q rfl rfl (by simp [execOp, go_sem, e19]; try rfl) ⟨x, HF.out.put (by kernel_rfl) rfl rfl rfl (of_decide_eq_true rfl), HW.out.q hjl (by decide) (by decide) (.refl _ _)⟩
                | 4, ho =>
                  obtain rfl := Option.some.inj ho
                  have e179 : fr.tmps[179]?.getD undef = .slice (some ⟨ag, 0, none⟩) kn ac := HF.out.ev (i := 2) rfl rfl (HE.out ⟨2, .data⟩ (by simp) rfl)
                  have e180 : fr.tmps[180]?.getD undef = .int .i64 (j4 : Int) := HF.out.ev (i := 3) rfl rfl (HE.out ⟨3, .data⟩ (by simp) rfl)
                  exact wp_q rfl rfl (by simp [execOp, go_sem, e179, e180, hjk]; try rfl) ⟨x, HF.out.put (by kernel_rfl) rfl rfl rfl (of_decide_eq_true rfl), HW.out.q hjl (by decide) (by decide) (.refl _ _)⟩
                | 5, ho =>
                  obtain rfl := Option.some.inj ho
                  have e181 : fr.tmps[181]?.getD undef = .pointer (some ⟨ag, j4, none⟩) := HF.out.ev (i := 4) rfl rfl (HE.out ⟨4, .data⟩ (by simp) rfl)
                  have hc := (HW.out.bel.cell (p := ⟨ag, j4, none⟩) HAG.out).trans HCA.out
                  exact wp_q rfl rfl (by simp [execOp, go_sem, e181, hc]; try rfl) ⟨x, HF.out.put (by kernel_rfl) rfl rfl rfl (of_decide_eq_true rfl), HW.out.q hjl (by decide) (by decide) (.refl _ _)⟩
                | 6, ho =>
                  obtain rfl := Option.some.inj ho
                  have e178 : fr.tmps[178]?.getD undef = .pointer (some ⟨N.q, 0, none⟩) := HF.out.ev (i := 1) rfl rfl (HE.out ⟨1, .data⟩ (by simp) rfl)
                  have e182 : fr.tmps[182]?.getD undef = .int .u64 a := HF.out.ev (i := 5) rfl rfl (HE.out ⟨5, .data⟩ (by simp) rfl)
                  have hC := HFD.out wr HW.out.bel
                  refine wp_c2 rfl rfl _ _ _ _ rfl (.pointer (some ⟨N.q, 0, none⟩)) (.int .u64 a) (by simp [Act.eval, e178]) (by simp [Act.eval, e182]) (Try.call10 _ _) hC ?_
                  rintro r w7 ⟨rfl, k1⟩
                  exact ⟨_, rfl, x, HF.out.put (by kernel_rfl) rfl rfl rfl (of_decide_eq_true rfl), HW.out.q hjl (by decide) (by decide) k1⟩
                | 7, ho =>
                  obtain rfl := Option.some.inj ho
                  have e183 : fr.tmps[183]?.getD undef = .tuple #[.agg #[.int .u64 c0, .int .i64 c1, .int .i64 c2], .bool th] := HF.out.ev (i := 6) rfl rfl (HE.out ⟨6, .data⟩ (by simp) rfl)
                  exact wp_q rfl rfl (by simp [execOp, go_sem, e183]; try rfl) ⟨x, HF.out.put (by kernel_rfl) rfl rfl rfl (of_decide_eq_true rfl), HW.out.q hjl (by decide) (by decide) (.refl _ _)⟩
                | 8, ho =>
                  obtain rfl := Option.some.inj ho
                  have e176 : fr.tmps[176]?.getD undef = .tuple #[.agg #[.int .u64 c0, .int .i64 c1, .int .i64 c2], .bool th] := HF.out.ev (i := 7) rfl rfl (HE.out ⟨7, .data⟩ (by simp) rfl)
                  exact wp_q rfl rfl (by simp [execOp, go_sem, e176]; try rfl) ⟨x, HF.out.put (by kernel_rfl) rfl rfl rfl (of_decide_eq_true rfl), HW.out.q hjl (by decide) (by decide) (.refl _ _)⟩
                | 9, ho =>
                  obtain rfl := Option.some.inj ho
                  have e176 : fr.tmps[176]?.getD undef = .tuple #[.agg #[.int .u64 c0, .int .i64 c1, .int .i64 c2], .bool th] := HF.out.ev (i := 7) rfl rfl (HE.out ⟨7, .data⟩ (by simp) rfl)
                  exact wp_q rfl rfl (by simp [execOp, go_sem, e176]; try rfl) ⟨x, HF.out.put (by kernel_rfl) rfl rfl rfl (of_decide_eq_true rfl), HW.out.q hjl (by decide) (by decide) (.refl _ _)⟩
                | 10, ho =>
                  obtain rfl := Option.some.inj ho
                  have HFy : Hid (FrQ _ ((fun x : Nat => fun dd => if dd = 177 then .pointer (some ⟨N.ob, 0, none⟩) else if dd = 178 then .pointer (some ⟨N.q, 0, none⟩) else if dd = 179 then .slice (some ⟨ag, 0, none⟩) kn ac else if dd = 180 then .int .i64 (j4 : Int) else if dd = 181 then .pointer (some ⟨ag, j4, none⟩) else if dd = 182 then .int .u64 a else if dd = 183 then .tuple #[.agg #[.int .u64 c0, .int .i64 c1, .int .i64 c2], .bool th] else if dd = 176 then .tuple #[.agg #[.int .u64 c0, .int .i64 c1, .int .i64 c2], .bool th] else if dd = 184 then .agg #[.int .u64 c0, .int .i64 c1, .int .i64 c2] else if dd = 185 then .bool th else if dd = 20 then .pointer (some ⟨x, 0, none⟩) else if dd = 21 then .bool th else undef) wr.heap.size) _ listed fr) := HF.out.swap (fun j o d g1 g2 g3 => by
                    by_cases e : d = 20
                    · subst e
                      have := ndB_spec (j := j) (k := 10) (d := 20) (by kernel_rfl) g1 rfl g2 rfl
                      subst this
                      rw [hl0] at g3; cases g3
                    · simp [e])
                  exact wp_q rfl rfl (by simp [execOp, go_sem]; try rfl) ⟨wr.heap.size, HFy.out.put (by kernel_rfl) rfl rfl rfl (of_decide_eq_true rfl), HW.out.lay hjl hl0⟩
                | 11, ho =>
                  obtain rfl := Option.some.inj ho
                  have e20 : fr.tmps[20]?.getD undef = .pointer (some ⟨x, 0, none⟩) := HF.out.ev (i := 10) rfl rfl (HE.out ⟨10, .data⟩ (by simp) rfl)
                  have e184 : fr.tmps[184]?.getD undef = .agg #[.int .u64 c0, .int .i64 c1, .int .i64 c2] := HF.out.ev (i := 8) rfl rfl (HE.out ⟨8, .data⟩ (by simp) rfl)
                  have h10 : listed.getD 10 false = true := HE.out ⟨10, .data⟩ (by simp) rfl
                  obtain ⟨v1, v2⟩ := HW.out.al h10
                  rw [if_neg (by rw [hl0]; decide)] at v2
                  exact wp_st rfl rfl _ _ _ rfl x #[.int .u64 c0, .int .i64 c1, .int .i64 c2] (by simp [Act.eval, e20]) (by simp [Act.eval, e184]) 41 _ v2 s_page rfl (by rw [Array.all_eq_true_iff_forall_mem]; intro v hv; simp at hv; rcases hv with rfl | rfl | rfl <;> rfl) ⟨x, HF.out.skip rfl rfl _, HW.out.put hjl h10⟩
                | 12, ho =>
                  obtain rfl := Option.some.inj ho
                  have e185 : fr.tmps[185]?.getD undef = .bool th := HF.out.ev (i := 9) rfl rfl (HE.out ⟨9, .data⟩ (by simp) rfl)
                  exact wp_q rfl rfl (by simp [execOp, go_sem, e185]; try rfl) ⟨x, HF.out.put (by kernel_rfl) rfl rfl rfl (of_decide_eq_true rfl), HW.out.q hjl (by decide) (by decide) (.refl _ _)⟩
              case fin =>
                rintro listed fr w2 xb hF hW hr
                have all := allDoneB hr hF.ls (by kernel_rfl)
                rw [hF.full all]
                have k1 := hW.al (all 10 (by decide))
                rw [if_pos (all 11 (by decide))] at k1
                have HXB := hid k1
                have HB5 : Hid (Below wo.heap.size wo w2) := HDr.out.trans (hW.bel.mono HDr.out.size)
                clear hF hW hr all k1 HFD HT4 HAG HCA HDr
                simp only [List.foldl_cons, List.foldl_nil, fillF]
                go_simp
                go_upto_block 9 with fail
                have HCx : Hid (∀ w, Below w2.heap.size w2 w → w.cell? ⟨xb, 1, none⟩ = some (.int .i64 c1) ∧ w.cell? ⟨xb, 2, none⟩ = some (.int .i64 c2)) := fun w hb => ⟨(hb.cell (p := ⟨xb, 1, none⟩) (lt_of_block HXB.out.2)).trans (cell_of_row w2 xb 1 _ _ _ HXB.out.2), (hb.cell (p := ⟨xb, 2, none⟩) (lt_of_block HXB.out.2)).trans (cell_of_row w2 xb 2 _ _ _ HXB.out.2)⟩
                have HC5 : Hid (∀ w, Below w2.heap.size w2 w → w.cell? ⟨ag, j4, none⟩ = some (.int .u64 a)) := fun w hb => ((HB5.out.trans (hb.mono HB5.out.size)).cell (p := ⟨ag, j4, none⟩) HAo.out).trans HCo.out
                refine tb5 W w2 N x (HTo.out.below HB5.out) a a0 a1 at0 t0 t1 ag ac kn j4 xb c1 c2 th hjk qa1 qa2 HCx.out HC5.out HTH.out HPP.out _ _ _ _ _ _ _ _ _ _ _ _ _ _ _ _ _ _ _ _ _ _ _ _ _ _ _ _ _ _ _ _ _ _ _ _ _ _ _ _ _ _ _ _ _ _ _ _ _ _ _ _ _ _ _ _ _ _ _ _ _ _ _ _ _ _ _ _ _ _ _ _ _ _ _ _ _ _ _ _ _ _ _ _ _ _ _ _ _ _ _ _ _ _ _ _ _ _ _ _ _ _ _ _ _ _ _ _ _ _ _ _ _ _ _ _ _ _ _ _ _ _ _ _ _ _ _ _ _ _ _ _ _ _ _ _ _ _ _ _ _ _ _ _ _ _ _ _ _ _ _ _ _ _ _ _ _ _ _ _ _ _ _ _ _ _ _ _ _ _ _ _ _ _ _ _ _ _ _ _ _ _ _ _ _ _ _ _ _ _ _ _ _ _ _ _ _ _ _ _ _ _ _ _ _ _ _ _ _ _ _ _ _ _ _ _ _ _ _ _ _ _ _ _ _ _ _ _ _ _ _ _ _ _ _ _ _ _ _ _ _ _ _ _ _ _ _ _ _ _ _ _ _ _ _ _ ?_
                intro w6 y8 y22 y23 y24 y25 y26 y27 y186 y187 y188 y189 y190 y191 y192 y193 y194 y195 y196 y197 y198 y199 y200 y201 y202 y203 y204 y205 y206 y207 y208 y209 y210 y211 y212 y213 y214 y215 y216 y217 y218 y219 y220 y221 y222 y223 y224 y225 y226 y227 y228 y229 y230 y231 y232 y233 y234 y235 y236 y237 y238 y239 y240 y241 y242 y243 y244 y245 y246 y247 y248 y249 y250 y251 y252 y253 y254 y255 y256 y257 y258 y259 y260 hb6
                have HB6 := hid hb6
                clear hb6
                go_wp2_with fail
                go_roundw
                case rel => exact ⟨j4 + 1, by omega, by go_num, HB4.out.trans ((HB5.out.trans (HB6.out.mono HB5.out.size)).mono HB4.out.size)⟩
                case measure => simp [intOf]; omega
            · obtain rfl : j4 = kn := by omega
              go_wp2_with (go_at_call 7; refine (hAw _).mono ?_; rintro r w9 ⟨rfl, hb⟩; have HB9 := hid hb; clear hb)
              go_ret
              exact ⟨rfl, HTo.out.bel.trans (HB9.out.mono HTo.out.bel.size)⟩
end Go.Proofs.Ytekkjalfiogenaa
