/- A law's own space; StageFull's steps. -/
import Derived.Test.YtekkjalfiogenaaMH5
import Derived.Test.YtekkjalfiogenaaSU
namespace Go.Proofs.Ytekkjalfiogenaa
open Go.RowKit
open C (Only hid)
set_option linter.unusedVariables false
set_option maxRecDepth 100000

/-- a space of the law's own -/
structure LS (W w : World) (F : Nat → Prop) (u : Value) (q p : Nat) (s : SV) (v : PV) (f : Nat → Int) (vm : Int) : Prop where
  sp : SPs w F u q p s v f vm
  own : ∀ k, Ar F u q k → W.heap.size ≤ k
  bel : Below W.heap.size W w
section
variable {W w w' : World} {F F' : Nat → Prop} {u u' : Value} {q p : Nat} {s s' : SV} {v v' : PV} {f f' : Nat → Int} {vm : Int}
theorem LS.turn (h : LS W w F u q p s v f vm) (hp : SPs w' F' u' q p s' v' f' vm) (ho : Only (Ar F u q) w w') (ha : ∀ k, Ar F' u' q k → Ar F u q k ∨ w.heap.size ≤ k) : LS W w' F' u' q p s' v' f' vm :=
  ⟨hp, fun k hk => (ha k hk).elim (h.own k) fun z => Nat.le_trans h.bel.size z, h.bel.trans (ho.below _ h.bel.size fun k hk => h.own k hk)⟩
theorem LS.below (h : LS W w F u q p s v f vm) (hb : Below w.heap.size w w') : LS W w' F u q p s v f vm := ⟨h.sp.below hb, h.own, h.bel.trans (hb.mono h.bel.size)⟩
theorem ls_Take (h : LS W w F u q p s v f vm) (x : Int) (hx : may x = true) (hx1 : 1 ≤ x) (hc : 0 < cnt v.o 0 v.n) : Calls Try.prog 20 #[.pointer (some ⟨p, 0, none⟩), .int .i64 x] w fun r w' => r = .returned (.tuple #[.int .i64 (ff v.o v.n : Nat), .int .i64 0]) ∧ LS W w' F u q p s (v.own (ff v.o v.n) x) f vm :=
  (x_TakeS w F u q p s v f vm h.sp x hx hx1 hc).mono fun r w' hh => ⟨hh.1, h.turn hh.2.1 (hh.2.2.mono fun k _ hk => .inl hk) fun k hk => .inl hk⟩
end
/-- a fresh space, frame 3 its guest's, so many frames free -/
def LFu (W w : World) (qa p c : Nat) : Prop := ∃ F u v f, LS W w F u qa p (s0 1) v f 1 ∧ v.n = 16 ∧ v.o 3 = 1 ∧ cnt v.o 0 16 = c
section
variable {W w : World} {qa p c : Nat}
theorem LFu.bel (h : LFu W w qa p c) : Below W.heap.size W w := by obtain ⟨F, u, v, f, h1, -⟩ := h; exact h1.bel
theorem lf_Take (h : LFu W w qa p (c + 1)) : Calls Try.prog 20 #[.pointer (some ⟨p, 0, none⟩), .int .i64 2] w fun r w' => (∃ t : Nat, r = .returned (.tuple #[.int .i64 t, .int .i64 0])) ∧ LFu W w' qa p c := by
  obtain ⟨F, u, v, f, h1, h2, h3, h4⟩ := h
  have hc : 0 < cnt v.o 0 v.n := by rw [h2, h4]; omega
  obtain ⟨t1, t2⟩ := cnt_pos hc
  refine (ls_Take h1 2 rfl (by decide) hc).mono ?_
  rintro r w' ⟨rfl, k1⟩
  refine ⟨⟨_, rfl⟩, F, u, _, f, k1, h2, ?_, ?_⟩
  · show upd v.o (ff v.o v.n) 2 3 = 1
    rw [upd_other _ _ _ _ (fun e => by rw [← e, h3] at t2; cases t2)]; exact h3
  · have := cnt_upd v.o (ff v.o v.n) 2 t2 (by decide) v.n
    rw [if_pos t1, h2, h4] at this
    show cnt (upd v.o (ff v.o v.n) 2) 0 16 = c
    rw [h2]
    omega
theorem lf_Count (h : LFu W w qa p c) : Calls Try.prog 26 #[.pointer (some ⟨p, 0, none⟩), .int .i64 0] w fun r w' => r = .returned (.int .i64 c) ∧ w' = w := by
  obtain ⟨F, u, v, f, h1, h2, h3, h4⟩ := h
  have := r_Count w F u qa p (s0 1) v f 1 h1.sp 0
  rw [h2, h4] at this
  exact this
theorem lf_MapNo (h : LFu W w qa p c) (hc : c < 2) (x : Nat) (hx : x < 134217728) : Calls Try.prog 16 #[.pointer (some ⟨qa, 0, none⟩), .int .u64 x, .int .i64 3, .int .i64 2] w fun r w' => r = .returned (.int .i64 10) ∧ LFu W w' qa p c := by
  obtain ⟨F, u, v, f, h1, h2, h3, h4⟩ := h
  refine (t_map_full w qa v.m v.n p c 2 x 3 2 (v.b + (dnO (s0 1) x : Nat)) hc (by decide) (by decide) h1.sp.sq.c0 (r_Frames w F u qa p (s0 1) v f 1 h1.sp) (by rw [h2, decide_eq_true (show (x : Int) < 134217728 by omega)]; rfl) (r_leaf_no w F u qa p (s0 1) v f 1 h1.sp x (by omega) rfl) (fun w1 hb => ?_)).mono fun r w' hh => ⟨hh.1, F, u, v, f, h1.below hh.2, h2, h3, h4⟩
  have hs := h1.sp.below hb
  refine ⟨r_down w1 F u qa p (s0 1) v f 1 hs x hx, hs.sq.c2, ?_⟩
  have := r_Count w1 F u qa p (s0 1) v f 1 hs 0
  rw [h2, h4] at this
  exact this
/-- behind the map: as many frames less -/
def LGu (W w : World) (qa p c : Nat) : Prop := ∃ F u s v f, LS W w F u qa p s v f 1 ∧ v.n = 16 ∧ s.l.length = 3 ∧ cnt v.o 0 16 = c
theorem LGu.bel (h : LGu W w qa p c) : Below W.heap.size W w := by obtain ⟨F, u, s, v, f, h1, -⟩ := h; exact h1.bel
theorem lf_MapYes (h : LFu W w qa p (c + 2)) (x : Nat) (hx : x < 134217728) : Calls Try.prog 16 #[.pointer (some ⟨qa, 0, none⟩), .int .u64 x, .int .i64 3, .int .i64 2] w fun r w' => r = .returned (.int .i64 0) ∧ LGu W w' qa p c := by
  obtain ⟨F, u, v, f, h1, h2, h3, h4⟩ := h
  have hc : 0 < cnt v.o 0 v.n := by rw [h2, h4]; omega
  have c1 := own_cnt hc
  have hc2 : 0 < cnt (v.own (ff v.o v.n) (-1)).o 0 (v.own (ff v.o v.n) (-1)).n := by
    show 0 < cnt (v.own (ff v.o v.n) (-1)).o 0 v.n
    rw [h2] at c1 ⊢
    omega
  have c2 := own_cnt hc2
  have hm := x_Map w F u qa p (s0 1) v f 1 h1.sp x 3 2 hx (by omega) (.inl rfl) rfl (by show 2 ≤ _; rw [h2, h4]; omega) (fun p hp => absurd rfl hp) (.inl (by rw [h3]; decide))
  refine hm.mono ?_
  rintro r w' ⟨rfl, F', u', k1, k2, k3⟩
  refine ⟨rfl, F', u', _, _, _, h1.turn k1 k2 k3, (map_v ⟨s0 1, v, f⟩ x 3 2).1.trans h2, map_len ⟨s0 1, v, f⟩ x 3 2 rfl rfl, ?_⟩
  have e : (TX.map ⟨s0 1, v, f⟩ x 3 2).v = (v.own (ff v.o v.n) (-1)).own (ff (v.own (ff v.o v.n) (-1)).o (v.own (ff v.o v.n) (-1)).n) (-1) := rfl
  rw [e]
  have n1 : (v.own (ff v.o v.n) (-1)).n = 16 := h2
  rw [n1] at c2 ⊢
  rw [h2] at c1 c2 ⊢
  omega
theorem lg_Count (h : LGu W w qa p c) : Calls Try.prog 26 #[.pointer (some ⟨p, 0, none⟩), .int .i64 0] w fun r w' => r = .returned (.int .i64 c) ∧ w' = w := by
  obtain ⟨F, u, s, v, f, h1, h2, h3, h4⟩ := h
  have := r_Count w F u qa p s v f 1 h1.sp 0
  rw [h2, h4] at this
  exact this
theorem lg_Tables (h : LGu W w qa p c) : Calls Try.prog 21 #[.pointer (some ⟨qa, 0, none⟩)] w fun r w' => (∃ ad cp, r = .returned (.slice ad 3 cp)) ∧ LGu W w' qa p c := by
  obtain ⟨F, u, s, v, f, h1, h2, h3, h4⟩ := h
  refine (x_Tables w F u qa p s v f 1 h1.sp).mono ?_
  rintro r w' ⟨x, rfl, k1, k2⟩
  rw [h3] at k1
  obtain ⟨ad, cp, rfl, -⟩ := own_sliceS k1
  exact ⟨⟨ad, cp, rfl⟩, F, u, s, v, f, h1.below k2, h2, h3, h4⟩
theorem lf_Tables (h : LFu W w qa p c) : Calls Try.prog 21 #[.pointer (some ⟨qa, 0, none⟩)] w fun r w' => (∃ ad cp, r = .returned (.slice ad 1 cp)) ∧ LFu W w' qa p c := by
  obtain ⟨F, u, v, f, h1, h2, h3, h4⟩ := h
  refine (x_Tables w F u qa p (s0 1) v f 1 h1.sp).mono ?_
  rintro r w' ⟨x, rfl, k1, k2⟩
  obtain ⟨ad, cp, rfl, -⟩ := own_sliceS k1
  exact ⟨⟨ad, cp, rfl⟩, F, u, v, f, h1.below k2, h2, h3, h4⟩
theorem lf_Pages (h : LFu W w qa p c) : Calls Try.prog 22 #[.pointer (some ⟨qa, 0, none⟩)] w fun r w' => (∃ ad cp, r = .returned (.slice ad 0 cp)) ∧ LFu W w' qa p c := by
  obtain ⟨F, u, v, f, h1, h2, h3, h4⟩ := h
  refine (x_Pages w F u qa p (s0 1) v f 1 h1.sp).mono ?_
  rintro r w' ⟨x, rfl, k1, k2⟩
  have e : pL2 (s0 1) = [] := (pgl (s0 1) h1.sp.iv).same ⟨List.Pairwise.nil, fun p => ⟨fun z => (by cases z), fun z => absurd rfl z⟩⟩
  rw [e] at k1
  obtain ⟨ad, cp, rfl, -⟩ := own_sliceS k1
  exact ⟨⟨ad, cp, rfl⟩, F, u, v, f, h1.below k2, h2, h3, h4⟩
end
end Go.Proofs.Ytekkjalfiogenaa
namespace Go.Proofs.Ytekkjalfiogenaa
open Go.RowKit
open C (Only hid c_Place)
set_option linter.unusedVariables false
set_option maxRecDepth 100000

/-- a least number, for each world -/
theorem least_fn {α : Type} (P : α → Nat → Prop) : ∃ m : α → Nat, ∀ w c, P w c → P w (m w) ∧ m w ≤ c := by
  have key : ∀ (w : α) (c : Nat), P w c → ∃ m, P w m ∧ ∀ d, P w d → m ≤ d := by
    intro w c
    induction c using Nat.strongRecOn with
    | ind c ih =>
      intro hc
      by_cases e : ∃ d, d < c ∧ P w d
      · obtain ⟨d, h1, h2⟩ := e
        exact ih d h1 h2
      · exact ⟨c, hc, fun d hd => Nat.le_of_not_lt fun z => e ⟨d, z, hd⟩⟩
  have all : ∀ w, ∃ m, ∀ c, P w c → P w m ∧ m ≤ c := fun w => by
    by_cases e : ∃ c, P w c
    · obtain ⟨c, hc⟩ := e
      obtain ⟨m, h1, h2⟩ := key w c hc
      exact ⟨m, fun d hd => ⟨h1, h2 d hd⟩⟩
    · exact ⟨0, fun c hc => absurd ⟨c, hc⟩ e⟩
  exact ⟨fun w => Classical.choose (all w), fun w => Classical.choose_spec (all w)⟩
set_option maxHeartbeats 8000000 in
theorem w_StageFull (W : World) (a0 : Int) (b0 : -9223372036854775808 ≤ a0) (b0' : a0 ≤ 9223372036854775807) (x : Int) (x0 : 0 ≤ x) (x1 : x < 18446744073709551616) :
    Calls Try.prog 5 #[.int .i64 a0, .int .u64 x] W fun r w' => r = .returned (.bool true) ∧ Below W.heap.size W w' := by
  have hAw := l_awake10
  have hS := l_spacesL W
  have hP := c_Place a0 4 (by decide) (by decide) b0 b0'
  obtain ⟨n, hn⟩ : ∃ j : Nat, (j : Int) = a0 % 4 := ⟨(a0 % 4).toNat, by omega⟩
  rw [← hn] at hP
  have k0 : n < 4 := by omega
  obtain ⟨y, hy⟩ : ∃ j : Nat, x % 134217728 = j := ⟨(x % 134217728).toNat, by omega⟩
  have ky : y < 134217728 := by omega
  clear hn b0 b0'
  have hy2 : x.tmod 134217728 = y := by rw [Int.tmod_eq_emod_of_nonneg x0]; exact hy
  go_enter Try.func5, Try.ntmps5
  go_upto_region 2 with (go_at_call 25; refine hS.mono ?_; rintro r w1 ⟨qa, qb, p, m, dm, F, ua, ub, rfl, h1⟩; have H1 := hid h1; clear h1)
  obtain ⟨wa, hwa⟩ : ∃ wa, wa = w1.alloc (.cells #[.pointer (some ⟨m, 0, none⟩), .pointer (some ⟨dm, 0, none⟩)] 31) := ⟨_, rfl⟩
  have HBa : Hid (Below w1.heap.size w1 wa) := hwa ▸ (Below.refl _ _).alloc (Nat.le_refl _) _
  rw [← hwa]
  clear hwa hS
  have H2 : Hid (LS W wa F ua qa p (s0 1) (spV m) spF 1) := by
    have h2 := H1.out.below HBa.out
    exact ⟨h2.a, fun k hk => h2.own k (.inl hk), h2.new⟩
  have hT := ls_Take H2.out 1 rfl (by decide) (by rw [show (spV m).n = 16 from rfl, cnt_sp2]; decide)
  rw [show (spV m).n = 16 from rfl, ff_sp2] at hT
  have hT' : Calls Try.prog 20 #[.pointer (some ⟨p, 0, none⟩), .int .i64 1] wa fun r w' => r = .returned (.tuple #[.int .i64 3, .int .i64 0]) ∧ LFu W w' qa p 12 := hT.mono fun r w' hh => ⟨hh.1, F, ua, _, spF, hh.2, rfl, upd_same (spV m).o 3 1, cnt_sp3 m⟩
  clear hT H1 HBa H2
  go_upto_region 7 with (first
    | (go_at_call 15; refine (hP _).mono ?_; rintro r w3 ⟨rfl, hw⟩; obtain rfl := hw.symm; clear hP)
    | (go_at_call 20; refine hT'.mono ?_; rintro r w2 ⟨rfl, h1⟩; have H3 := hid h1; clear h1 hT'))
  obtain ⟨mz, hmz⟩ := least_fn (fun w c => n ≤ c ∧ LFu W w qa p c)
  have HMZ := hid hmz
  clear hmz
  go_loopw [] (fun wr => ∃ c : Nat, n ≤ c ∧ Hid (LFu W wr qa p c)) (fun wr => mz wr)
  case atStart => exact ⟨12, by omega, H3⟩
  case round =>
    obtain ⟨c1, hc1, HL1⟩ := hrel
    obtain ⟨⟨hc, hL⟩, -⟩ := HMZ.out wr c1 ⟨hc1, HL1.out⟩
    have HMR : Hid (∀ w' d, LFu W w' qa p d → n ≤ d → mz w' ≤ d) := fun w' d h1 h2 => (HMZ.out w' d ⟨h2, h1⟩).2
    obtain ⟨c, hcm⟩ : ∃ c, mz wr = c := ⟨_, rfl⟩
    rw [hcm] at hc hL
    have HCM := hid hcm
    have HL := hid hL
    have hCn := lf_Count hL
    clear hcm hL hc1 HL1 c1
    by_cases hlt : n < c
    · obtain ⟨d, rfl⟩ : ∃ d, c = d + 1 := ⟨c - 1, by omega⟩
      have hTk := lf_Take HL.out
      go_wp2_with (first
        | (go_at_call 26; refine hCn.mono ?_; rintro r w' ⟨rfl, hq⟩; obtain rfl := hq.symm; clear hCn)
        | (go_at_call 20; refine hTk.mono ?_; rintro r w5 ⟨⟨t, rfl⟩, k1⟩; have H5 := hid k1; clear k1 hTk))
      go_roundw
      case rel => exact ⟨d, by omega, H5⟩
      case measure => rw [HCM.out]; exact Nat.lt_succ_of_le (HMR.out _ _ H5.out (by omega))
    · obtain rfl : n = c := by omega
      have T0 : Hid True := trivial
      go_upto_region 10 with (first
        | (go_at_call 26; (with_reducible refine hCn.mono ?_); rintro r w' ⟨rfl, hq⟩; obtain rfl := hq.symm))
      by_cases h2 : 2 ≤ n
      · obtain ⟨d, rfl⟩ : ∃ d, n = d + 2 := ⟨n - 2, by omega⟩
        have hM := lf_MapYes HL.out y ky
        clear hCn
        obtain ⟨cc, hcc⟩ : ∃ cc : Int, ((d + 2 : Nat) : Int) = cc := ⟨_, rfl⟩
        rw [hcc]
        have hd2 : cc - 2 = (d : Int) := by omega
        have hd0 : (2 : Int) ≤ cc := by omega
        have hd1 : cc ≤ 20 := by omega
        clear hcc
        go_wp2_with (first
          | (go_at_call 16; refine hM.mono ?_; rintro r w5 ⟨rfl, k1⟩; have hC := lg_Count k1; have hT := lg_Tables k1; clear k1 hM)
          | (go_at_call 26; refine hC.mono ?_; rintro r w' ⟨rfl, hq⟩; obtain rfl := hq.symm; clear hC)
          | (go_at_call 21; refine hT.mono ?_; rintro r w6 ⟨⟨ta, tc, rfl⟩, k1⟩; have H6 := hid k1; clear k1 hT)
          | (go_at_call 7; refine (hAw _).mono ?_; rintro r w7 ⟨rfl, hb⟩; have HB := hid hb; clear hb))
        go_ret
        exact ⟨rfl, H6.out.bel.trans (HB.out.mono H6.out.bel.size)⟩
      · have hM := lf_MapNo HL.out (by omega) y ky
        clear hCn
        have hn2 : ¬ (2 : Int) ≤ (n : Int) := by omega
        go_wp2_with (first
          | (go_at_call 16; refine hM.mono ?_; rintro r w5 ⟨rfl, k1⟩; have hC := lf_Count k1; have hPg := lf_Pages k1; clear k1 hM)
          | (go_at_call 26; refine hC.mono ?_; rintro r w' ⟨rfl, hq⟩; obtain rfl := hq.symm; clear hC)
          | (go_at_call 22; refine hPg.mono ?_; rintro r w6 ⟨⟨pa, pc, rfl⟩, k1⟩; have hT := lf_Tables k1; clear k1 hPg)
          | (go_at_call 21; refine hT.mono ?_; rintro r w8 ⟨⟨ta, tc, rfl⟩, k1⟩; have H6 := hid k1; clear k1 hT)
          | (go_at_call 7; refine (hAw _).mono ?_; rintro r w7 ⟨rfl, hb⟩; have HB := hid hb; clear hb))
        go_ret
        exact ⟨rfl, H6.out.bel.trans (HB.out.mono H6.out.bel.size)⟩
end Go.Proofs.Ytekkjalfiogenaa
