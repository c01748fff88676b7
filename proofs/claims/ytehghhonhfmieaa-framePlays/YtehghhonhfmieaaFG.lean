/- Release, and the devices' acknowledgement: regions that draw their order. -/
import Derived.Test.YtehghhonhfmieaaFF
import Derived.Test.YtehghhonhfmieaaCPC
namespace Go.Proofs.Ytehghhonhfmieaa
open Go.RowKit
open C (Only hid Mem Still ret_bool ret_int put step_call step_call1)
set_option linter.unusedVariables false
set_option maxRecDepth 100000

theorem PL.drew {w : World} {p g : Nat} {d : Int} {k : Value} {B S : Nat → Prop} {v : PV} {f : Nat → Int} (h : PL w p g d k B S v f) : PL w.drew p g d k B S v f := h.below ((Below.refl _ _).drew)
set_option maxHeartbeats 1000000 in
theorem x_AckDevices (w : World) (F : Nat → Prop) (p : Nat) (v : PV) (f : Nat → Int) (h : Pool w F p v f) :
    Calls Try.prog 19 #[.pointer (some ⟨p, 0, none⟩)] w fun e w' => e = .returned (.int .i64 (ackN v 8 v.n)) ∧ ∃ F', Pool w' F' p (ackP v 8 v.n) (ackF v 8 v.n f) ∧ Only F w w' ∧ ∀ k, F' k → F k ∨ w.heap.size ≤ k := by
  obtain ⟨g, d, k, B, S, hp, ok, hF⟩ := h
  have h1 := ok.h1
  have c2 := hp.c2
  have hq : (v.h : Int) < (v.h : Int) + 1 := by omega
  have hl := x_list w.drew p g d k B S v f h1 hp.drew
  have HF := hid hF
  have OK := hid ok
  clear hp ok hF
  go_enter Try.func19, Try.ntmps19
  go_wp2_with fail
  go_region_law (first
    | (refine step_call1 rfl 38 (.tmp 4) _ rfl (.pointer (some ⟨p, 0, none⟩)) (by go_simp) (Try.call38 _ _) hl ?_; rintro e w1 ⟨b, q, rfl, m1, m2, m3, m4, m5⟩; have M2 := hid m2; have M4 := hid m4; have M5 := hid m5; have m7 := m2.c2; have m6 := m3 v.h (Nat.le_refl _); rw [show btN v.h v.h = bkN 8 by unfold btN ps; rw [if_neg (Nat.lt_irrefl _)]] at m6; have hf := x_forgotten w1 p g 1 _ (· = b) S v f m2 OK.out 8 (by omega); clear m2 m3 m4 m5; refine ⟨_, rfl, ?_⟩)
    | (refine step_call rfl 37 (.tmp 3) (.tmp 11) _ _ rfl (.pointer (some ⟨p, 0, none⟩)) (.int .u64 (bkN 8)) (by go_simp) (by go_simp) (Try.call37 _ _) hf ?_; rintro e w2 ⟨rfl, S2, g1, g2, g3⟩; have G1 := hid g1; have G2 := hid g2; have G3 := hid g3; clear g1 g2 g3; refine ⟨_, rfl, ?_⟩))
  all_goals (
    go_wp2
    go_ret
    refine ⟨rfl, fun x => x = p ∨ x = g ∨ x = b ∨ S2 x, ⟨g, 1, _, (· = b), S2, G1.out, OK.out.ack 8 v.n (by omega), fun x => Iff.rfl⟩, ?_, foot3 (n := w.heap.size) HF.out G3.out M5.out⟩
    refine ((Only.refl (S := F) w).drew.trans (M4.out.mono fun x _ e => (HF.out x).2 (.inl e))).trans (G2.out.mono fun x _ e => ?_)
    rcases e with e | e
    · exact (HF.out x).2 (.inr (.inl e))
    · exact (HF.out x).2 (.inr (.inr (.inr e))))
theorem x_Release_no (w : World) (F : Nat → Prop) (p : Nat) (v : PV) (f : Nat → Int) (h : Pool w F p v f) (x : Int) (hx : rlOk v x = false) :
    Calls Try.prog 15 #[.pointer (some ⟨p, 0, none⟩), .int .i64 x] w fun e w' => e = .returned (.int .i64 11) ∧ w' = w := by
  obtain ⟨g, d, k, B, S, hp, ok, hF⟩ := h
  have c1 := hp.c1
  have c3 := hp.c3
  have n1 := ok.n1
  have hh := c_has w p g d k B S v f hp ok x
  cases hs : hasF v x
  · rw [hs] at hh
    clear hp hF
    go_enter Try.func15, Try.ntmps15
    go_wp2_with (go_at_call 34; refine hh.mono ?_; rintro e w' ⟨rfl, hw⟩; obtain rfl := hw.symm)
    go_ret; exact ⟨rfl, rfl⟩
  · rw [hs] at hh
    have hx' : 0 ≤ x ∧ x < (v.n : Int) := by simpa [hasF] using hs
    obtain ⟨i, rfl⟩ := Int.eq_ofNat_of_zero_le hx'.1
    have c4 := hp.co i (by omega)
    have hm := c_mayTake (v.o i) w
    by_cases hr : (i : Int) < (v.r : Int)
    · clear hp hF
      go_enter Try.func15, Try.ntmps15
      go_wp2_with (go_at_call 34; refine hh.mono ?_; rintro e w' ⟨rfl, hw⟩; obtain rfl := hw.symm)
      go_ret; exact ⟨rfl, rfl⟩
    · have hy : may (v.o i) = false := by
        unfold rlOk at hx
        simp [hx'.2] at hx
        exact hx (by omega)
      rw [hy] at hm
      clear hp hF
      go_enter Try.func15, Try.ntmps15
      go_wp2_with (first
        | (go_at_call 34; refine hh.mono ?_; rintro e w' ⟨rfl, hw⟩; obtain rfl := hw.symm)
        | (go_at_call 33; refine hm.mono ?_; rintro e w' ⟨rfl, hw⟩; obtain rfl := hw.symm))
      go_ret; exact ⟨rfl, rfl⟩
set_option maxHeartbeats 1000000 in
theorem x_Release (w : World) (F : Nat → Prop) (p : Nat) (v : PV) (f : Nat → Int) (h : Pool w F p v f) (x : Int) (hx : rlOk v x = true) :
    Calls Try.prog 15 #[.pointer (some ⟨p, 0, none⟩), .int .i64 x] w fun e w' => e = .returned (.int .i64 0) ∧ ∃ F', Pool w' F' p (rl v x).2 f ∧ Only F w w' ∧ ∀ k, F' k → F k ∨ w.heap.size ≤ k := by
  have hok := h.ok.release x
  obtain ⟨g, d, k, B, S, hp, ok, hF⟩ := h
  have c1 := hp.c1
  have c3 := hp.c3
  have n1 := ok.n1
  have h1 := ok.h1
  have hh := c_has w p g d k B S v f hp ok x
  have hx1 := hx
  simp [rlOk] at hx1
  obtain ⟨i, rfl⟩ := Int.eq_ofNat_of_zero_le hx1.1.1.1
  have hin : i < v.n := by omega
  have c4 := hp.co i hin
  have z4 := hp.fz (i * 2)
  have hm := c_mayTake (v.o i) w
  rw [show may (v.o i) = true from hx1.2] at hm
  rw [show hasF v (i : Int) = true by simp [hasF]; omega] at hh
  have e1 : (rl v (i : Int)).2 = ((v.own i (-2)).wait i (msk v.h)) := by unfold rl; rw [hx]; rfl
  rw [e1] at hok
  have H1 := hid (hp.setO i (-2))
  have HF := hid hF
  have OK := hid hok
  have hir : ¬ ((i : Int) < (v.r : Int)) := by omega
  clear hp hok hF ok hx hx1
  obtain ⟨w1, hw1⟩ : ∃ w1, w1 = w.setCell ⟨g, i * 2, none⟩ (.int .i64 (-2)) := ⟨_, rfl⟩
  have O1 : Hid (Only F w w1) := by rw [hw1]; exact (only_c _ _ _ _).mono fun a _ e => (HF.out a).2 (.inr (.inl e))
  rw [← hw1] at H1
  have hev := x_everybody w1.drew p g d k B S (v.own i (-2)) f h1 H1.out.drew
  simp only [show (v.own i (-2)).h = v.h from rfl] at hev
  have d3 : w1.drew.cell? ⟨p, 3, none⟩ = some (.slice (some ⟨g, 0, none⟩) v.n v.n) := H1.out.drew.c3
  rw [e1]
  clear e1
  go_enter Try.func15, Try.ntmps15
  go_wp2_with (first
    | (go_at_call 34; refine hh.mono ?_; rintro e w' ⟨rfl, hw⟩; obtain rfl := hw.symm)
    | (go_at_call 33; refine hm.mono ?_; rintro e w' ⟨rfl, hw⟩; obtain rfl := hw.symm)
    | fail)
  rw [← hw1]
  clear hw1 c1 c3 c4 z4
  go_region_law (first
    | (refine step_call1 rfl 36 (.tmp 43) _ rfl (.pointer (some ⟨p, 0, none⟩)) (by go_simp) (Try.call36 _ _) hev ?_; rintro e w2 ⟨rfl, b, q, m2, m4, m5⟩; have M2 := hid m2; have M4 := hid m4; have M5 := hid m5; have m3 : w2.cell? ⟨p, 3, none⟩ = some (.slice (some ⟨g, 0, none⟩) v.n v.n) := m2.c3; have hst := k_StoreU ⟨g, i * 2 + 1, none⟩ w2 _ (encN (msk v.h)) (m2.cs i hin) (m2.fz _); clear m2 m4 m5; refine ⟨_, rfl, ?_⟩)
    | (refine step_call rfl 35 (.tmp 42) (.tmp 44) _ _ rfl (.pointer (some ⟨g, i * 2 + 1, none⟩)) (.int .u64 (encN (msk v.h))) (by go_simp) (by go_simp) (Try.call35 _ _) hst ?_; rintro e w3 ⟨rfl, hw3⟩; obtain rfl := hw3.symm; refine ⟨_, rfl, ?_⟩))
  all_goals (
    go_wp2
    go_ret
    refine ⟨rfl, fun x => x = p ∨ x = g ∨ x = b ∨ S x, ⟨g, 1, _, (· = b), S, M2.out.setS i (msk v.h), OK.out, fun x => Iff.rfl⟩, ?_, ?_⟩
    · refine ((O1.out.drew.trans (M4.out.mono fun x _ e => (HF.out x).2 (.inl e)))).trans ((only_c _ _ _ _).mono fun x _ e => (HF.out x).2 (.inr (.inl e)))
    · refine foot3 (n := w.heap.size) HF.out (fun _ q => q) ?_
      rcases M5.out with q | q
      · exact .inl q
      · exact .inr (Nat.le_trans O1.out.size q))
end Go.Proofs.Ytehghhonhfmieaa
