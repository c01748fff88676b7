/- Map. -/
import Derived.Test.YtekkjalfiogenaaMH4
namespace Go.Proofs.Ytekkjalfiogenaa
open Go.RowKit
open C (Only hid Mem Still ret_bool ret_int put byt rd8 lo)
set_option linter.unusedVariables false
set_option maxRecDepth 100000

theorem t_map_full (w : World) (q m n pl c lv : Nat) (page fr pm a : Int) (hc : c < lv) (m0 : -9223372036854775808 ≤ pm) (m1 : pm ≤ 9223372036854775807) (c0 : w.cell? ⟨q, 0, none⟩ = some (.pointer (some ⟨m, 0, none⟩))) (hf : Calls Try.prog 52 #[.pointer (some ⟨m, 0, none⟩)] w fun r w' => r = .returned (.int .i64 n) ∧ w' = w) (ha : (decide (page < 134217728) && decide (0 ≤ fr) && decide (fr < (n : Int)) && okPb pm) = true)
    (hl : Calls Try.prog 45 #[.pointer (some ⟨q, 0, none⟩), .int .u64 page] w fun r w' => (∃ x y, r = .returned (.tuple #[.int .u64 x, .int .u64 y, .bool false])) ∧ Below w.heap.size w w')
    (hd : ∀ w1, Below w.heap.size w w1 → (Calls Try.prog 54 #[.pointer (some ⟨q, 0, none⟩), .int .u64 page] w1 fun r w' => r = .returned (.tuple #[.int .u64 a, .int .i64 lv]) ∧ Below w1.heap.size w1 w') ∧ (w1.cell? ⟨q, 2, none⟩ = some (.pointer (some ⟨pl, 0, none⟩))) ∧ (Calls Try.prog 26 #[.pointer (some ⟨pl, 0, none⟩), .int .i64 0] w1 fun r w' => r = .returned (.int .i64 c) ∧ w' = w1)) :
    Calls Try.prog 16 #[.pointer (some ⟨q, 0, none⟩), .int .u64 page, .int .i64 fr, .int .i64 pm] w fun r w' => r = .returned (.int .i64 10) ∧ Below w.heap.size w w' := by
  have h := c_isPage page
  have hp := c_isPerm pm m0 m1
  simp only [Bool.and_eq_true, decide_eq_true_eq] at ha
  obtain ⟨⟨⟨h1, h2⟩, h3⟩, h4⟩ := ha
  rw [decide_eq_true h1] at h
  rw [h4] at hp
  have HD := hid hd
  clear m0 m1 h1 h4 hd
  have g2 : ¬ fr < 0 := by omega
  have g3 : ¬ (n : Int) ≤ fr := by omega
  go_enter Try.func16, Try.ntmps16
  go_wp2_with (first
    | (go_at_call 51; refine (h _).mono ?_; rintro r w1 ⟨rfl, hw⟩; obtain rfl := hw.symm)
    | (go_at_call 53; refine (hp _).mono ?_; rintro r w1 ⟨rfl, hw⟩; obtain rfl := hw.symm)
    | (go_at_call 52; refine hf.mono ?_; rintro r w1 ⟨rfl, hw⟩; obtain rfl := hw.symm)
    | (go_at_call 45; refine hl.mono ?_; rintro r w1 ⟨⟨x, y, rfl⟩, hb⟩; have HB := hid hb; have hd1 := (HD.out w1 hb).1; clear hb)
    | (go_at_call 54; refine hd1.mono ?_; rintro r w2 ⟨rfl, hb⟩; have HB2 : Hid (Below w.heap.size w w2) := HB.out.trans (hb.mono HB.out.size); have c2 := (HD.out w2 HB2.out).2.1; have hct := (HD.out w2 HB2.out).2.2; clear hb)
    | (go_at_call 26; refine hct.mono ?_; rintro r w3 ⟨rfl, hw⟩; obtain rfl := hw.symm))
  go_ret
  exact ⟨rfl, HB2.out⟩
/-- how far Map has come -/
structure MR (w wr : World) (F : Nat → Prop) (u : Value) (q pl : Nat) (x : TX) (p fr : Nat) (vm : Int) (y : TX) (F' : Nat → Prop) (u' : Value) (o k : Nat) : Prop where
  sp : SPs wr F' u' q pl y.s y.v y.f vm
  ho : o = dnO y.s p
  hk : k = dnL y.s p
  hc : k ≤ cnt y.v.o 0 y.v.n
  m : y.v.m = x.v.m
  b : y.v.b = x.v.b
  n : y.v.n = x.v.n
  up : (y.up1 p).up0 p = (x.up1 p).up0 p
  ow : Ow y.s y.v
  fr : Fre y.v k fr
  on : Only (Ar F u q) w wr
  ar : ∀ k, Ar F' u' q k → Ar F u q k ∨ w.heap.size ≤ k
section
variable {w wr w1 w2 : World} {F F' F1 F2 : Nat → Prop} {u u' u1 : Value} {q pl : Nat} {x y : TX} {p fr : Nat} {vm : Int} {o k t : Nat} {root : Int}
theorem ff_le {o : Nat → Int} {n m : Nat} (hm : m ≤ n) (hc : 0 < cnt o 0 m) : ff o n < m := by
  obtain ⟨h1, h2⟩ := cnt_pos hc
  obtain ⟨g1, g2, g3⟩ := ff_spec o n
  rcases Nat.lt_or_ge (ff o n) m with z | z
  · exact z
  · exact absurd h2 (g3 _ (by omega))
theorem Fre.ne {v : PV} {k fr : Nat} (h : Fre v (k + 1) fr) (hc : 0 < cnt v.o 0 v.n) : fr ≠ ff v.o v.n := fun e => by
  obtain ⟨h1, h2⟩ := cnt_pos hc
  rcases h with z | ⟨z1, z2, z3⟩
  · rw [e] at z; omega
  · have := ff_le z2 (by omega : 0 < cnt v.o 0 fr)
    omega
theorem Fre.less {v : PV} {k fr : Nat} (h : Fre v (k + 1) fr) (hc : 0 < cnt v.o 0 v.n) : Fre (v.own (ff v.o v.n) (-1)) k fr := by
  have hne := h.ne hc
  obtain ⟨h1, h2⟩ := cnt_pos hc
  rcases h with z | ⟨z1, z2, z3⟩
  · left; show 1 ≤ upd v.o _ _ fr; rw [upd_other _ _ _ _ hne]; exact z
  · right
    refine ⟨by show upd v.o _ _ fr = 0; rw [upd_other _ _ _ _ hne]; exact z1, z2, ?_⟩
    have := cnt_upd v.o (ff v.o v.n) (-1) h2 (by decide) fr
    have h3 := ff_le z2 (by omega : 0 < cnt v.o 0 fr)
    rw [if_pos h3] at this
    show k ≤ cnt (upd v.o _ _) 0 fr
    omega
theorem Ow.ne {s : SV} {v : PV} (h : Ow s v) (hc : 0 < cnt v.o 0 v.n) : ∀ p, s.pp p ≠ 0 → s.pf p ≠ ff v.o v.n := fun p hp e => by
  have := h p hp
  have := (cnt_pos hc).2
  rw [e] at *
  omega
theorem MR.grow {y' : TX} {o' k' : Nat} (h : MR w wr F u q pl x p fr vm y F' u' o k) (hty : t = ff y.v.o y.v.n) (hcy : 0 < cnt y.v.o 0 y.v.n) (hk1 : k = k' + 1) (hpf : y'.s.pf = y.s.pf) (hpp : y'.s.pp = y.s.pp) {off : Nat} {e : Int} (hv : y'.v = y.v.own t (-1)) (hr : y'.s.r = y.s.r) (hl : y'.s.l = y.s.l ++ [t]) (hf : y'.f = w8 (clr y.f t) off e) (hi : Inv y'.s y'.v y'.f) (ho : o' = dnO y'.s p) (hk : k' = dnL y'.s p) (hc : k' ≤ cnt y'.v.o 0 y'.v.n) (hu : (y'.up1 p).up0 p = (y.up1 p).up0 p)
    (a2 : w1.heap[q]? = some (.cells (spc y.v.m (y.v.b / 4096 + y.s.r) pl vm u1) 60 (0, 0))) (a3 : w1.ownsRow 0 3 1 u1 (y.s.l ++ [t]).length (lsv (y.s.l ++ [t]))) (a1 : Pool w1 F1 pl (y.v.own t (-1)) (clr y.f t)) (a4 : Only (fun k => F' k ∨ k = q ∨ Ug u' k) wr w1) (a5 : ∀ k, F1 k → F' k ∨ wr.heap.size ≤ k) (a6 : ∀ k, Ug u1 k → Ug u' k ∨ wr.heap.size ≤ k)
    (b1 : Pool w2 F2 pl (y.v.own t (-1)) (w8 (clr y.f t) off e)) (b2 : Only F1 w1 w2) (b3 : ∀ k, F2 k → F1 k ∨ w1.heap.size ≤ k) : MR w w2 F u q pl x p fr vm y' F2 u1 o' k' := by
  have z1 := h.on.size
  have z2 := a4.size
  have nq : ¬ F1 q := a1.ne a2 rfl
  have nu : ∀ k, Ug u1 k → ¬ F1 k := fun k hk' => by obtain ⟨cur, z⟩ := own_typ a3 hk'; exact a1.ne z rfl
  have f1 : ∀ k, F1 k → Ar F u q k ∨ w.heap.size ≤ k := fun k hk' => (a5 k hk').elim (fun z => h.ar k (.inl z)) fun z => .inr (by omega)
  refine ⟨⟨by rw [hv, hf]; exact b1, ?_, ?_, hi⟩, ho, hk, hc, by rw [hv]; exact h.m, by rw [hv]; exact h.b, by rw [hv]; exact h.n, hu.trans h.up, ?_, ?_, ?_, ?_⟩
  · show _ = _
    rw [hv, hr]
    exact b2.old a2 nq
  · rw [hl]; exact own_only a3 b2 nu
  · intro a ha
    rw [hpp] at ha
    rw [hpf, hv]
    show 1 ≤ upd y.v.o t (-1) _
    rw [upd_other _ _ _ _ (fun e => h.ow.ne hcy a ha (e.trans hty))]
    exact h.ow a ha
  · rw [hv]
    have hf' := h.fr
    subst hk1 hty
    exact hf'.less hcy
  · refine (h.on.trans' a4 fun i hi z => (h.ar i z).resolve_right (by omega)).trans' b2 fun i hi z => (f1 i z).resolve_right (by omega)
  · rintro i (z | z | z)
    · exact (b3 i z).elim (f1 i) fun z => .inr (by omega)
    · exact .inl (.inr (.inl z))
    · exact (a6 i z).elim (fun z => h.ar i (.inr (.inr z))) fun z => .inr (by omega)
end
theorem only_dn {S : Nat → Prop} {a b : World} {n : Nat} (h : Only S (a.drewN n) b) : Only S a b := ⟨h.os, h.tape, h.output, h.size, h.block⟩
theorem Pool.dn {w : World} {F : Nat → Prop} {p : Nat} {v : PV} {f : Nat → Int} (h : Pool w F p v f) (n : Nat) : Pool (w.drewN n) F p v f := h.below (below_dn (Below.refl _ _) n)
theorem dnL_2 {s : SV} {p : Nat} (h : dnL s p = 2) : s.k1 (p / 262144) = 0 ∧ dnO s p = 4096 * s.r + 8 * (p / 262144) := by
  unfold dnL at h
  by_cases e : s.k1 (p / 262144) = 0
  · exact ⟨e, by unfold dnO; rw [if_pos e]⟩
  · rw [if_neg e] at h; split at h <;> omega
theorem dnL_1 {s : SV} {p : Nat} (h : dnL s p = 1) : s.k1 (p / 262144) ≠ 0 ∧ s.k0 (p / 512) = 0 ∧ dnO s p = 4096 * s.k1 (p / 262144) + 8 * (p / 512 % 512) := by
  unfold dnL at h
  by_cases e : s.k1 (p / 262144) = 0
  · rw [if_pos e] at h; omega
  · by_cases e0 : s.k0 (p / 512) = 0
    · exact ⟨e, e0, by unfold dnO; rw [if_neg e, if_pos e0]⟩
    · rw [if_neg e, if_neg e0] at h; omega
theorem dnL_0 {s : SV} {p : Nat} (h : dnL s p = 0) : s.k1 (p / 262144) ≠ 0 ∧ s.k0 (p / 512) ≠ 0 ∧ dnO s p = lfO s p := by
  unfold dnL at h
  by_cases e : s.k1 (p / 262144) = 0
  · rw [if_pos e] at h; omega
  · by_cases e0 : s.k0 (p / 512) = 0
    · rw [if_neg e, if_pos e0] at h; omega
    · exact ⟨e, e0, (dn_of s p e e0).1⟩
theorem dnL_le (s : SV) (p : Nat) : dnL s p = 2 ∨ dnL s p = 1 ∨ dnL s p = 0 := by
  unfold dnL; split
  · exact .inl rfl
  · split
    · exact .inr (.inl rfl)
    · exact .inr (.inr rfl)
theorem tE_of (b : Int) (t : Nat) (h : t ≠ 0) : (b / 4096 + t) * 1024 + 1 = tE b t := by unfold tE; rw [if_neg h]
theorem lE_of (b : Int) (t pm : Nat) (h : okP pm) : (b / 4096 + t) * 1024 + 209 + pm = lE b t pm := by unfold lE; rw [if_neg (by unfold okP at h; omega)]
set_option maxHeartbeats 2000000 in
theorem x_Map (w : World) (F : Nat → Prop) (u : Value) (q pl : Nat) (s : SV) (v : PV) (f : Nat → Int) (vm : Int) (h : SPs w F u q pl s v f vm) (p fr pm : Nat) (hp : p < 134217728) (hfr : fr < v.n) (hpm : okP pm) (hno : s.pp p = 0) (hc : dnL s p ≤ cnt v.o 0 v.n) (how : Ow s v) (hof : Fre v (dnL s p) fr) :
    Calls Try.prog 16 #[.pointer (some ⟨q, 0, none⟩), .int .u64 p, .int .i64 fr, .int .i64 pm] w fun r w' => r = .returned (.int .i64 0) ∧ ∃ F' u', SPs w' F' u' q pl (TX.map ⟨s, v, f⟩ p fr pm).s (TX.map ⟨s, v, f⟩ p fr pm).v (TX.map ⟨s, v, f⟩ p fr pm).f vm ∧ Only (Ar F u q) w w' ∧ ∀ k, Ar F' u' q k → Ar F u q k ∨ w.heap.size ≤ k := by
  have hpg := c_isPage (p : Int)
  rw [decide_eq_true (show (p : Int) < 134217728 by omega)] at hpg
  have hpr := c_isPerm (pm : Int) (by unfold okP at hpm; omega) (by unfold okP at hpm; omega)
  rw [show okPb (pm : Int) = true by unfold okP at hpm; unfold okPb; simp; omega] at hpr
  have c0 := h.sq.c0
  have hF := r_Frames w F u q pl s v f vm h
  have hL := r_leaf_no w F u q pl s v f vm h (p : Int) (by omega) hno
  have i1 := c_index1 (p : Int) (by omega) (by omega)
  have i0 := c_index0 (p : Int) (by omega) (by omega)
  have bm := h.iv.ba.bm
  have b0 := h.iv.ba.b0
  have b1 := h.iv.ba.b1
  have n2 := h.iv.ba.n2
  have g2 : ¬ (fr : Int) < 0 := by omega
  have g3 : ¬ (v.n : Int) ≤ fr := by omega
  have H := hid h
  obtain ⟨o0, ho0⟩ : ∃ o0 : Nat, o0 = dnO s p := ⟨_, rfl⟩
  obtain ⟨k0, hk0⟩ : ∃ k0 : Nat, k0 = dnL s p := ⟨_, rfl⟩
  have HK0 := hid hk0
  have HO0 := hid ho0
  have HD : Hid (∀ w1, Below w.heap.size w w1 → (Calls Try.prog 54 #[.pointer (some ⟨q, 0, none⟩), .int .u64 (p : Int)] w1 fun r w' => r = .returned (.tuple #[.int .u64 (v.b + o0), .int .i64 k0]) ∧ Below w1.heap.size w1 w') ∧ (w1.cell? ⟨q, 2, none⟩ = some (.pointer (some ⟨pl, 0, none⟩))) ∧ (Calls Try.prog 26 #[.pointer (some ⟨pl, 0, none⟩), .int .i64 0] w1 fun r w' => r = .returned (.int .i64 (cnt v.o 0 v.n)) ∧ w' = w1)) := fun w1 hb => by
    have h1 := h.below hb
    rw [ho0, hk0]
    exact ⟨r_down w1 F u q pl s v f vm h1 p hp, h1.sq.c2, r_Count w1 F u q pl s v f vm h1 0⟩
  have g4' : ¬ (cnt v.o 0 v.n : Int) < (k0 : Int) := by omega
  have g4 : decide ((cnt v.o 0 v.n : Int) < (k0 : Int)) = false := decide_eq_false (by omega)
  have g5 : k0 ≤ cnt v.o 0 v.n := by omega
  have G5 := hid g5
  clear g5
  have HPM := hid hpm
  have HOF : Hid (Fre v k0 fr) := by rw [hk0]; exact hid hof
  have HOW := hid how
  clear h hno hpm hc ho0 hk0 hof how
  go_enter Try.func16, Try.ntmps16
  go_wp2_with (first
    | (go_at_call 51; refine (hpg _).mono ?_; rintro r w1 ⟨rfl, hw⟩; obtain rfl := hw.symm)
    | (go_at_call 53; refine (hpr _).mono ?_; rintro r w1 ⟨rfl, hw⟩; obtain rfl := hw.symm)
    | (go_at_call 52; refine hF.mono ?_; rintro r w1 ⟨rfl, hw⟩; obtain rfl := hw.symm)
    | (go_at_call 45; refine hL.mono ?_; rintro r w1 ⟨⟨x, y, rfl⟩, hb⟩; have HB := hid hb; have hd1 := (HD.out w1 hb).1; clear hb)
    | (go_at_call 54; refine hd1.mono ?_; rintro r w2 ⟨rfl, hb⟩; have HB2 : Hid (Below w.heap.size w w2) := HB.out.trans (hb.mono HB.out.size); have c2 := (HD.out w2 HB2.out).2.1; have hct := (HD.out w2 HB2.out).2.2; clear hb)
    | (go_at_call 26; refine hct.mono ?_; rintro r w3 ⟨rfl, hw⟩; obtain rfl := hw.symm))
  rw [show decide (cnt v.o 0 v.n < k0) = false from decide_eq_false (by have := G5.out; omega)]
  clear hpg hpr hF hL c0 hd1 c2 hct g2 g3 g4 g4'
  go_loopw [12, 13, 14] (fun a lv tb wr => ∃ (y : TX) (F' : Nat → Prop) (u' : Value) (o k : Nat), a = .int .u64 (v.b + o) ∧ lv = .int .i64 k ∧ Hid (MR w wr F u q pl ⟨s, v, f⟩ p fr vm y F' u' o k)) (fun a lv tb _ => (intOf lv).toNat)
  case atStart => exact ⟨⟨s, v, f⟩, F, u, o0, k0, rfl, rfl, H.out.below HB2.out, HO0.out, HK0.out, G5.out, rfl, rfl, rfl, rfl, HOW.out, HOF.out, .ofBelow HB2.out, fun _ z => .inl z⟩
  case round =>
    obtain ⟨y, F', u', o, k, rfl, rfl, hm⟩ := hrel
    rcases dnL_le y.s p with hk2 | hk2 | hk2 <;> rw [← hm.out.hk] at hk2
    · obtain ⟨e1, eo⟩ := dnL_2 (hm.out.hk.symm.trans hk2)
      have hcp : 0 < cnt y.v.o 0 y.v.n := by have := hm.out.hc; omega
      have hst := TX.step1 (x := y) (p := p) hm.out.sp.iv hm.out.sp.pl.ok (hm.out.ow.ne hcp) hp e1 hcp
      rw [← eo, ← hm.out.ho, show y.v.b = v.b from hm.out.b] at hst
      obtain ⟨t1, t2⟩ := cnt_pos hcp
      have t0 := hm.out.sp.iv.new0 hm.out.sp.pl.ok t2
      have hb := hm.out.b
      have hn := hm.out.n
      have hb' : y.v.b = v.b := hb
      have hn' : y.v.n = v.n := hn
      have hll := hm.out.sp.iv.ll
      have hcn := own_cnt hcp
      have hA := x_addTable wr q pl (y.v.b / 4096 + y.s.r) vm u' y.s.l F' y.v y.f hm.out.sp.pl hm.out.sp.sq hm.out.sp.ls (by omega) hcp
      have hok := (hm.out.sp.pl.ok).mon hcp
      have hoff : o + 8 ≤ 4096 * y.v.n := by
        have h1 := hm.out.ho
        have := hm.out.sp.iv.rlt; omega
      have hup : (TX.up1 ⟨y.s.add1 (p / 262144) (ff y.v.o y.v.n), y.v.own (ff y.v.o y.v.n) (-1), w8 (clr y.f (ff y.v.o y.v.n)) o (tE v.b (ff y.v.o y.v.n))⟩ p).up0 p = (y.up1 p).up0 p := by have z := hst.2.2.2; have z1 := TX.up1_yes (x := y) e1; rw [hm.out.ho, eo, ← hb', ← z1, z]
      generalize htt : ff y.v.o y.v.n = t at *
      have hTa := c_tableAt (v.b / 4096 + t) (by omega) (by omega)
      rw [tE_of v.b t t0] at hTa
      have tb := tE_b (t := t) b0 b1 (by omega)
      obtain ⟨o', ho'⟩ : ∃ o' : Nat, o' = 4096 * t + 8 * (p / 512 % 512) := ⟨_, rfl⟩
      have hE := c_entryAt (v.b / 4096 + t) ((p : Int) / 512 % 512) (by omega) (by omega) (by omega) (by omega) (v.b + (o' : Int)) (by omega)
      have hA' : Calls Try.prog 55 #[.pointer (some ⟨q, 0, none⟩)] wr fun r w' => r = .returned (.int .u64 (v.b / 4096 + (t : Nat))) ∧ ∃ F1 u1, Pool w' F1 pl (y.v.own t (-1)) (clr y.f t) ∧ w'.heap[q]? = some (.cells (spc y.v.m (y.v.b / 4096 + y.s.r) pl vm u1) 60 (0, 0)) ∧ w'.ownsRow 0 3 1 u1 (y.s.l ++ [t]).length (lsv (y.s.l ++ [t])) ∧ Only (fun k => F' k ∨ k = q ∨ Ug u' k) wr w' ∧ (∀ k, F1 k → F' k ∨ wr.heap.size ≤ k) ∧ ∀ k, Ug u1 k → Ug u' k ∨ wr.heap.size ≤ k := by rw [hb'] at hA ⊢; exact hA
      have HST := hid hst
      have HOFF := hid hoff
      have HO' := hid ho'
      have HCN := hid hcn
      have HUP := hid hup
      have HT2 := hid htt
      have HCP := hid hcp
      have HTB := hid tb
      have HBB := hid hb'
      clear hst hoff ho' hcn hup t2 tb hA hb hn hb' hll hok hcp t1
      subst hk2
      go_upto_region 11 with (go_at_call 55; refine hA'.mono ?_; rintro r w3 ⟨rfl, F1, u1, a1, a2, a3, a4, a5, a6⟩; have A1 := hid a1; have A2 := hid a2; have A3 := hid a3; have A4 := hid a4; have A5 := hid a5; have A6 := hid a6; clear a1 a2 a3 a4 a5 a6)
      refine wp_region_last_lit (by simp) (by kernel_rfl) (by kernel_rfl) (by kernel_rfl) ?_
      simp only [List.dropLast, List.getLast]
      repeat (go_big_quiet_step (first | (go_at_call 57; exact Calls.quiet_of_same (hTa _))))
      refine wpQuiet_nil ?_
      intro _ hwq
      obtain ⟨nq, hwq⟩ := hwq
      subst hwq
      have c0 : (w3.drewN nq).cell? ⟨q, 0, none⟩ = some (.pointer (some ⟨y.v.m, 0, none⟩)) := cell_of_row w3 q 0 _ _ _ A2.out
      have hS := x_store (w3.drewN nq) F1 q pl (y.v.own t (-1)) (clr y.f t) (A1.out.dn nq) c0 o HOFF.out (v.b + o) (by show _ = y.v.b + _; rw [HBB.out]) (tE v.b t) HTB.out.1 HTB.out.2
      go_wp2_with (first
        | (go_at_call 56; refine hS.mono ?_; rintro r w4 ⟨rfl, F2, b1', b2', b3'⟩; have B1 := hid b1'; have B2 := hid b2'; have B3 := hid b3'; clear b1' b2' b3')
        | (go_at_call 59; refine (i1 _).mono ?_; rintro r w5 ⟨rfl, hw⟩; obtain rfl := hw.symm)
        | (go_at_call 58; refine (hE _).mono ?_; rintro r w5 ⟨rfl, hw⟩; obtain rfl := hw.symm))
      go_roundw
      case rel => exact ⟨⟨y.s.add1 (p / 262144) t, y.v.own t (-1), w8 (clr y.f t) o (tE v.b t)⟩, F2, u1, o', 1, rfl, rfl, hm.out.grow HT2.out.symm HCP.out rfl rfl rfl rfl rfl rfl rfl HST.out.1 (HO'.out.trans HST.out.2.1.symm) HST.out.2.2.1.symm (by have := hm.out.hc; have := HCN.out; show 1 ≤ cnt (y.v.own t (-1)).o 0 y.v.n; omega) HUP.out A2.out A3.out A1.out A4.out A5.out A6.out B1.out (only_dn B2.out) B3.out⟩
      case measure => first | (simp [intOf]; done) | (simp [intOf]; omega)
    · obtain ⟨e1, e0, eo⟩ := dnL_1 (hm.out.hk.symm.trans hk2)
      have hcp : 0 < cnt y.v.o 0 y.v.n := by have := hm.out.hc; omega
      have hst := TX.step0 (x := y) (p := p) hm.out.sp.iv hm.out.sp.pl.ok (hm.out.ow.ne hcp) hp e1 e0 hcp
      rw [← eo, ← hm.out.ho, show y.v.b = v.b from hm.out.b] at hst
      obtain ⟨t1, t2⟩ := cnt_pos hcp
      have t0 := hm.out.sp.iv.new0 hm.out.sp.pl.ok t2
      have hb := hm.out.b
      have hn := hm.out.n
      have hb' : y.v.b = v.b := hb
      have hn' : y.v.n = v.n := hn
      have hll := hm.out.sp.iv.ll
      have hcn := own_cnt hcp
      have hA := x_addTable wr q pl (y.v.b / 4096 + y.s.r) vm u' y.s.l F' y.v y.f hm.out.sp.pl hm.out.sp.sq hm.out.sp.ls (by omega) hcp
      have hok := (hm.out.sp.pl.ok).mon hcp
      have hoff : o + 8 ≤ 4096 * y.v.n := by
        have h1 := hm.out.ho
        have := (hm.out.sp.iv.k1lt e1).1; omega
      have hup : (TX.up1 ⟨y.s.add0 (p / 512) (ff y.v.o y.v.n), y.v.own (ff y.v.o y.v.n) (-1), w8 (clr y.f (ff y.v.o y.v.n)) o (tE v.b (ff y.v.o y.v.n))⟩ p).up0 p = (y.up1 p).up0 p := by have z := hst.2.2.2; have z1 := TX.up0_yes (x := y) e0; rw [hm.out.ho, eo, ← hb', ← z1, z]
      generalize htt : ff y.v.o y.v.n = t at *
      have hTa := c_tableAt (v.b / 4096 + t) (by omega) (by omega)
      rw [tE_of v.b t t0] at hTa
      have tb := tE_b (t := t) b0 b1 (by omega)
      obtain ⟨o', ho'⟩ : ∃ o' : Nat, o' = 4096 * t + 8 * (p % 512) := ⟨_, rfl⟩
      have hE := c_entryAt (v.b / 4096 + t) ((p : Int) % 512) (by omega) (by omega) (by omega) (by omega) (v.b + (o' : Int)) (by omega)
      have hA' : Calls Try.prog 55 #[.pointer (some ⟨q, 0, none⟩)] wr fun r w' => r = .returned (.int .u64 (v.b / 4096 + (t : Nat))) ∧ ∃ F1 u1, Pool w' F1 pl (y.v.own t (-1)) (clr y.f t) ∧ w'.heap[q]? = some (.cells (spc y.v.m (y.v.b / 4096 + y.s.r) pl vm u1) 60 (0, 0)) ∧ w'.ownsRow 0 3 1 u1 (y.s.l ++ [t]).length (lsv (y.s.l ++ [t])) ∧ Only (fun k => F' k ∨ k = q ∨ Ug u' k) wr w' ∧ (∀ k, F1 k → F' k ∨ wr.heap.size ≤ k) ∧ ∀ k, Ug u1 k → Ug u' k ∨ wr.heap.size ≤ k := by rw [hb'] at hA ⊢; exact hA
      have HST := hid hst
      have HOFF := hid hoff
      have HO' := hid ho'
      have HCN := hid hcn
      have HUP := hid hup
      have HT2 := hid htt
      have HCP := hid hcp
      have HTB := hid tb
      have HBB := hid hb'
      clear hst hoff ho' hcn hup t2 tb hA hb hn hb' hll hok hcp t1
      subst hk2
      go_upto_region 11 with (go_at_call 55; refine hA'.mono ?_; rintro r w3 ⟨rfl, F1, u1, a1, a2, a3, a4, a5, a6⟩; have A1 := hid a1; have A2 := hid a2; have A3 := hid a3; have A4 := hid a4; have A5 := hid a5; have A6 := hid a6; clear a1 a2 a3 a4 a5 a6)
      refine wp_region_last_lit (by simp) (by kernel_rfl) (by kernel_rfl) (by kernel_rfl) ?_
      simp only [List.dropLast, List.getLast]
      repeat (go_big_quiet_step (first | (go_at_call 57; exact Calls.quiet_of_same (hTa _))))
      refine wpQuiet_nil ?_
      intro _ hwq
      obtain ⟨nq, hwq⟩ := hwq
      subst hwq
      have c0 : (w3.drewN nq).cell? ⟨q, 0, none⟩ = some (.pointer (some ⟨y.v.m, 0, none⟩)) := cell_of_row w3 q 0 _ _ _ A2.out
      have hS := x_store (w3.drewN nq) F1 q pl (y.v.own t (-1)) (clr y.f t) (A1.out.dn nq) c0 o HOFF.out (v.b + o) (by show _ = y.v.b + _; rw [HBB.out]) (tE v.b t) HTB.out.1 HTB.out.2
      go_wp2_with (first
        | (go_at_call 56; refine hS.mono ?_; rintro r w4 ⟨rfl, F2, b1', b2', b3'⟩; have B1 := hid b1'; have B2 := hid b2'; have B3 := hid b3'; clear b1' b2' b3')
        | (go_at_call 59; refine (i0 _).mono ?_; rintro r w5 ⟨rfl, hw⟩; obtain rfl := hw.symm)
        | (go_at_call 58; refine (hE _).mono ?_; rintro r w5 ⟨rfl, hw⟩; obtain rfl := hw.symm))
      go_roundw
      case rel => exact ⟨⟨y.s.add0 (p / 512) t, y.v.own t (-1), w8 (clr y.f t) o (tE v.b t)⟩, F2, u1, o', 0, rfl, rfl, hm.out.grow HT2.out.symm HCP.out rfl rfl rfl rfl rfl rfl rfl HST.out.1 (HO'.out.trans HST.out.2.1.symm) HST.out.2.2.1.symm (by have := hm.out.hc; have := HCN.out; show 0 ≤ cnt (y.v.own t (-1)).o 0 y.v.n; omega) HUP.out A2.out A3.out A1.out A4.out A5.out A6.out B1.out (only_dn B2.out) B3.out⟩
      case measure => first | (simp [intOf]; done) | (simp [intOf]; omega)
    · obtain ⟨e1, e0, eo⟩ := dnL_0 (hm.out.hk.symm.trans hk2)
      have hb' : y.v.b = v.b := hm.out.b
      have hn' : y.v.n = v.n := hm.out.n
      have hP := r_pageOf wr F' u' q pl y.s y.v y.f vm hm.out.sp fr (by omega)
      rw [hb'] at hP
      have hE := c_leafAt (v.b / 4096 + fr) (by omega) (by omega) pm HPM.out
      rw [lE_of v.b fr pm HPM.out] at hE
      have lb := lE_b (t := fr) (pm := pm) b0 b1 (by omega) (.inr HPM.out)
      have hPn : ∀ n, Calls Try.prog 61 #[.pointer (some ⟨q, 0, none⟩), .int .i64 fr] (wr.drewN n) fun r w' => r = .returned (.int .u64 (v.b / 4096 + fr)) ∧ w' = wr.drewN n := fun n => by
        have := r_pageOf (wr.drewN n) F' u' q pl y.s y.v y.f vm (hm.out.sp.below (below_dn (Below.refl _ _) n)) fr (by omega)
        rw [hb'] at this
        exact this
      have hoff : o + 8 ≤ 4096 * y.v.n := by
        have h1 := hm.out.ho
        have := (hm.out.sp.iv.k0lt e0).1
        rw [eo] at h1
        unfold lfO at h1
        omega
      have HOFF := hid hoff
      have HBB := hid hb'
      have HEO := hid (hm.out.ho.trans eo)
      have HE1 := hid e1
      have HE0 := hid e0
      have HLB := hid lb
      have HN' := hid hn'
      clear e1 e0 eo hb' hoff lb hP hn'
      subst hk2
      go_upto_region 14 with fail
      refine wp_region_last_lit (by simp) (by kernel_rfl) (by kernel_rfl) (by kernel_rfl) ?_
      simp only [List.dropLast, List.getLast]
      repeat (go_big_quiet_step (first | (go_at_call 61; exact Calls.quiet_of_same (hPn _)) | (go_at_call 60; exact Calls.quiet_of_same (hE _))))
      refine wpQuiet_nil ?_
      intro _ hwq
      obtain ⟨nq, hwq⟩ := hwq
      subst hwq
      have c0 : (wr.drewN nq).cell? ⟨q, 0, none⟩ = some (.pointer (some ⟨y.v.m, 0, none⟩)) := hm.out.sp.sq.c0
      have hS := x_store (wr.drewN nq) F' q pl y.v y.f (hm.out.sp.pl.dn nq) c0 o HOFF.out (v.b + o) (by rw [HBB.out]) (lE v.b fr pm) HLB.out.1 HLB.out.2
      go_wp2_with (go_at_call 56; refine hS.mono ?_; rintro r w4 ⟨rfl, F2, b1', b2', b3'⟩; have B1 := hid b1'; have B2 := hid b2'; have B3 := hid b3'; clear b1' b2' b3')
      go_ret
      have hy : (TX.map ⟨s, v, f⟩ p fr pm) = y.lf p fr pm := by
        unfold TX.map
        rw [← hm.out.up, TX.up1_no HE1.out, TX.up0_no HE0.out]
      rw [hy]
      have hi := hm.out.sp.iv.mkl (p := p) (fr := fr) (pm := pm) HE0.out (.inr ⟨HPM.out, by have := HN'.out; omega, by rcases hm.out.fr with z | z <;> omega⟩) (by omega)
      have hz := hm.out.on.size
      refine ⟨rfl, F2, u', ⟨?_, ?_, ?_, hi⟩, ?_, ?_⟩
      · show Pool w4 F2 pl y.v (w8 y.f (lfO y.s p) (lE y.v.b fr pm))
        rw [← HEO.out, HBB.out]; exact B1.out
      · exact hm.out.sp.sq.only (only_dn B2.out) hm.out.sp.nq
      · exact own_only hm.out.sp.ls (only_dn B2.out) fun k hk => (hm.out.sp.nu hk).1
      · exact hm.out.on.trans' (only_dn B2.out) fun i hi z => (hm.out.ar i (.inl z)).resolve_right (by omega)
      · rintro i (z | z | z)
        · exact (B3.out i z).elim (fun z => hm.out.ar i (.inl z)) fun z => .inr (Nat.le_trans hz z)
        · exact .inl (.inr (.inl z))
        · exact hm.out.ar i (.inr (.inr z))
end Go.Proofs.Ytekkjalfiogenaa
