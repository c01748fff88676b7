/- FrameRound: between one owner and the next a released frame is acknowledged by each hart and by the devices, in whatever order, and is cleared. -/
import Derived.Test.YtehghhonhfmieaaMK1
namespace Go.Proofs.Ytehghhonhfmieaa
open Go.RowKit
open C (Only hid Mem RMem Still ret_bool ret_int put byt nu TB Tw Cl fcl c_Place)
set_option linter.unusedVariables false
set_option maxRecDepth 100000

theorem LB.typ {W w : World} {b p q : Nat} {F : Nat → Prop} {v : PV} {f : Nat → Int} (h : LB W w b F p q v f) {x : Nat} {c : Array Value} (hx : w.heap[x]? = some (.cells c 53 (0, 0))) : ¬ F x := by
  obtain ⟨g, d, k, B, S, hp, ok, hF⟩ := h.pl
  intro z
  rcases (hF x).1 z with rfl | rfl | y | y
  · have := hp.top; rw [hx] at this; simp at this
  · have := hp.tab; rw [hx] at this; simp at this
  · obtain ⟨cur, y⟩ := hp.bits.typ y; rw [hx] at y; simp at y
  · exact hp.mem.typ hx (by decide) (by decide) (by decide) y
theorem LB.put {W w : World} {b p q : Nat} {F : Nat → Prop} {v : PV} {f : Nat → Int} (h : LB W w b F p q v f) {x : Nat} {c : Array Value} (hx : w.heap[x]? = some (.cells c 53 (0, 0))) (hW : W.heap.size ≤ x) (k : Nat) (u : Value) : LB W (w.setCell ⟨x, k, none⟩ u) b F p q v f := by
  have ho := only_c w x k u
  have hb : b ≠ x := fun e => by subst e; have := h.tb; unfold C.TB at this; rw [hx] at this; simp at this
  exact ⟨h.pl.only ho fun y hy e => h.typ hx (e ▸ hy), ho.old h.tb hb, h.fb, h.new.setCell hW u, h.own⟩
/-- the pool waits for s; the list of who has acknowledged says s' -/
def RQ (W wr : World) (b bd p q h : Nat) (M : Int) (s s' : Nat) : Prop := ∃ F v f, LB W wr b F p q v f ∧ RE v h s f M ∧ wr.heap[bd]? = some (.cells (dnc h s').toArray 53 (0, 0)) ∧ W.heap.size ≤ bd ∧ s &&& msk h = s
section
variable {W wr : World} {b bd p q h : Nat} {M : Int} {s s' : Nat}
theorem RQ.new (H : RQ W wr b bd p q h M s s') : Below W.heap.size W wr := by obtain ⟨F, v, f, h1, _⟩ := H; exact h1.new
theorem RQ.msk (H : RQ W wr b bd p q h M s s') : s &&& msk h = s := by obtain ⟨F, v, f, _, _, _, _, h1⟩ := H; exact h1
theorem RQ.cell (H : RQ W wr b bd p q h M s s') (h8 : h ≤ 8) (k : Nat) (hk : k ≤ h) : wr.cell? ⟨bd, k, none⟩ = some (.bool (!(bq h s' k))) ∧ wr.frozen? ⟨bd, k, none⟩ = false := by
  obtain ⟨F, v, f, _, _, h1, _⟩ := H
  exact ⟨by rw [cell_of_row wr bd k _ _ _ h1]; exact dnc_at h s' k hk h8, frozen_of_row wr bd k _ _ h1⟩
theorem RQ.take (H : RQ W wr b bd p q h M s s') (hs : s ≠ 0) {x : Int} (hx : may x = true) : Calls Try.prog 13 #[.pointer (some ⟨p, 0, none⟩), .int .i64 x] wr fun r w' => r = .returned (.tuple #[.int .i64 0, .int .i64 10]) ∧ RQ W w' b bd p q h M s s' ∧ ∃ m : Nat, w'.cell? ⟨b, 0, none⟩ = some (.pointer (some ⟨m, 0, none⟩)) ∧ Calls Try.prog 29 #[.pointer (some ⟨m, 0, none⟩), .int .u64 4104, .int .i64 8] w' fun r w2 => r = .returned (.tuple #[.int .u64 M, .bool true]) ∧ RQ W w2 b bd p q h M s s' := by
  obtain ⟨F, v, f, h1, h2, h3, h4, h5⟩ := H
  refine (l_Take _ _ _ _ _ _ _ _ h1 x _ _ _ (h2.take h1.ok hs hx).1).mono ?_
  rintro r w' ⟨rfl, hl, ho⟩
  have h3' := ho.old h3 (h1.typ h3)
  refine ⟨rfl, ⟨F, v, f, hl, h2, h3', h4, h5⟩, v.m, hl.tb.c0, ?_⟩
  obtain ⟨g, d, k, B, S, hp, ok, hF⟩ := hl.pl
  refine (C.c_Read w' S v.m 0 v.n f hp.mem 4104 8 (by rw [h2.d.n]; decide) (by decide) 4104 (by decide)).mono ?_
  rintro e w2 ⟨rfl, hb⟩
  refine ⟨?_, F, v, f, hl.below hb, h2, ?_, h4, h5⟩
  · rw [show nu (fun j => f (4104 + j)) 8 = M from h2.a hs]
  · exact (hb.block bd (lt_of_block h3')).trans h3'
theorem RQ.owner (H : RQ W wr b bd p q h M s s') (hs : s ≠ 0) : Calls Try.prog 21 #[.pointer (some ⟨p, 0, none⟩), .int .i64 1] wr fun r w' => r = .returned (.int .i64 (-2)) ∧ w' = wr := by
  obtain ⟨F, v, f, h1, h2, h3, h4, h5⟩ := H
  exact l_Owner _ _ _ _ _ _ _ _ h1 1 _ (h2.take h1.ok hs (x := 1) rfl).2
theorem RQ.ack (H : RQ W wr b bd p q h M s s') (h8 : h ≤ 8) (hs : s ≠ 0) (k : Nat) (hk : k < h) : Calls Try.prog 17 #[.pointer (some ⟨p, 0, none⟩), .int .i64 (k : Int)] wr fun r w' => r = .returned (.int .i64 (if s = 2 ^ ps h k then 1 else 0)) ∧ RQ W w' b bd p q h M (rm (ps h k) s) s' := by
  have hps : ps h k = k := by unfold ps; rw [if_pos hk]
  rw [hps]
  obtain ⟨F, v, f, h1, h2, h3, h4, h5⟩ := H
  obtain ⟨e1, e2⟩ := h2.ack h1.ok hs k (by omega)
  have hok : akOk v (k : Int) = true := by unfold akOk; rw [h2.d.h]; simp; omega
  have hr : akR v (k : Int) = if s = 2 ^ k then 1 else 0 := by
    unfold akR; rw [hok]; show ((ackN v k v.n : Nat) : Int) = _; rw [e1]; split <;> rfl
  have hv : akV v (k : Int) = ackP v k v.n := by unfold akV; rw [hok]; rfl
  have hf : akF v (k : Int) f = ackF v k v.n f := by unfold akF; rw [hok]; rfl
  refine (l_Ack _ _ _ _ _ _ _ _ h1 _ _ _ _ hr hv hf).mono ?_
  rintro r w' ⟨rfl, F', hl, ho⟩
  exact ⟨rfl, F', _, _, hl, e2, ho.old h3 (h1.typ h3), h4, mask_rm k h5⟩
theorem RQ.dev (H : RQ W wr b bd p q h M s s') (h8 : h ≤ 8) (hs : s ≠ 0) : Calls Try.prog 19 #[.pointer (some ⟨p, 0, none⟩)] wr fun r w' => r = .returned (.int .i64 (if s = 2 ^ ps h h then 1 else 0)) ∧ RQ W w' b bd p q h M (rm (ps h h) s) s' := by
  have hps : ps h h = 8 := by unfold ps; rw [if_neg (Nat.lt_irrefl _)]
  rw [hps]
  obtain ⟨F, v, f, h1, h2, h3, h4, h5⟩ := H
  obtain ⟨e1, e2⟩ := h2.ack h1.ok hs 8 (by omega)
  refine (l_AckD _ _ _ _ _ _ _ _ h1 _ _ _ e1 rfl rfl).mono ?_
  rintro r w' ⟨rfl, F', hl, ho⟩
  refine ⟨?_, F', _, _, hl, e2, ho.old h3 (h1.typ h3), h4, mask_rm 8 h5⟩
  congr 2
  split <;> rfl
theorem RQ.set {k : Nat} (H : RQ W wr b bd p q h M (rm (ps h k) s) s) (h8 : h ≤ 8) (hm : s &&& Go.Proofs.Ytehghhonhfmieaa.msk h = s) (hk : k ≤ h) : RQ W (wr.setCell ⟨bd, k, none⟩ (.bool true)) b bd p q h M (rm (ps h k) s) (rm (ps h k) s) := by
  obtain ⟨F, v, f, h1, h2, h3, h4, h5⟩ := H
  exact ⟨F, v, f, h1.put h3 h4 k _, h2, setRowB wr bd k _ _ _ _ h3 (dnc_set h8 hm hk), h4, h5⟩
theorem RQ.fin (H : RQ W wr b bd p q h M 0 s') {x : Int} (hx : may x = true) : ∃ m : Nat, wr.cell? ⟨b, 0, none⟩ = some (.pointer (some ⟨m, 0, none⟩)) ∧ Calls Try.prog 29 #[.pointer (some ⟨m, 0, none⟩), .int .u64 4104, .int .i64 8] wr fun r w2 => r = .returned (.tuple #[.int .u64 0, .bool true]) ∧ Calls Try.prog 13 #[.pointer (some ⟨p, 0, none⟩), .int .i64 x] w2 fun r w3 => r = .returned (.tuple #[.int .i64 1, .int .i64 0]) ∧ Below W.heap.size W w3 ∧ Calls Try.prog 21 #[.pointer (some ⟨p, 0, none⟩), .int .i64 1] w3 fun r w4 => r = .returned (.int .i64 x) ∧ w4 = w3 := by
  obtain ⟨F, v, f, h1, h2, h3, h4, h5⟩ := H
  refine ⟨v.m, h1.tb.c0, ?_⟩
  refine (l_Read _ _ _ _ _ _ _ _ h1 4104 (by rw [h2.d.n]; decide) 4104 rfl 0 (h2.z rfl).2).mono ?_
  rintro e w2 ⟨rfl, hl⟩
  refine ⟨rfl, ?_⟩
  refine (l_Take _ _ _ _ _ _ _ _ hl x _ _ _ (h2.take0 h1.ok hx).1).mono ?_
  rintro r w' ⟨rfl, hl, ho⟩
  exact ⟨rfl, hl.new, l_Owner _ _ _ _ _ _ _ _ hl 1 _ (h2.take0 h1.ok hx).2⟩
end
theorem st_take (m h : Nat) {x : Int} (hx : may x = true) : tk (v0 m 1 h 2) x = (1, 0, (v0 m 1 h 2).own 1 x) := by
  have : ff (v0 m 1 h 2).o 2 = 1 := ff_eq (by decide) rfl (fun j hj => by obtain rfl : j = 0 := (by omega); show (if 0 < 1 then (-1 : Int) else 0) ≠ 0; decide)
  unfold tk
  rw [hx, show (v0 m 1 h 2).n = 2 from rfl, this]
  rfl
theorem st_rel (m h : Nat) {x : Int} (hx : may x = true) : ∃ v', rl ((v0 m 1 h 2).own 1 x) 1 = (0, v') ∧ RD v' h (msk h) := by
  have hok : rlOk ((v0 m 1 h 2).own 1 x) 1 = true := by
    unfold rlOk
    show (decide ((0 : Int) ≤ 1) && decide ((1 : Int) < ((2 : Nat) : Int)) && decide (((1 : Nat) : Int) ≤ 1) && may (upd (v0 m 1 h 2).o 1 x 1)) = true
    rw [upd_same, hx]; rfl
  refine ⟨(rl ((v0 m 1 h 2).own 1 x) 1).2, ?_, ?_⟩
  · unfold rl; rw [hok]; rfl
  · unfold rl; rw [hok]
    exact ⟨rfl, rfl, rfl, upd_same ((v0 m 1 h 2).own 1 x).s 1 _⟩
theorem pow_bq {h k : Nat} (h8 : h ≤ 8) (hk : k ≤ h) : bq h (2 ^ ps h k) k = true := bq_one0 ⟨h, by omega⟩ ⟨k, by omega⟩ hk
set_option maxHeartbeats 8000000 in
theorem w_FrameRound (W : World) (hs : Int) (s0 : -9223372036854775808 ≤ hs) (s1 : hs ≤ 9223372036854775807) (ad : Option Addr) (la cap ab ao : Nat) (A : Nat → Int) (hA : Nu W ad la cap ab ao A) (M : Int) (m0 : 0 ≤ M) (m1 : M < 18446744073709551616) (fi : Int) (f0 : -9223372036854775808 ≤ fi) (f1 : fi ≤ 9223372036854775807) (se : Int) (e0 : -9223372036854775808 ≤ se) (e1 : se ≤ 9223372036854775807) (hla : la ≤ 17592186044416) :
    Calls Try.prog 4 #[.int .i64 hs, .slice ad la cap, .int .u64 M, .int .i64 fi, .int .i64 se] W fun e w' => e = .returned (.bool true) ∧ Below W.heap.size W w' := by
  obtain ⟨y, hy, hy8⟩ : ∃ y : Nat, hs % 8 = (y : Int) ∧ y < 8 := ⟨(hs % 8).toNat, by omega, by omega⟩
  obtain ⟨x, hx, hx8⟩ : ∃ x : Nat, fi % 8 = (x : Int) ∧ x < 8 := ⟨(fi % 8).toNat, by omega, by omega⟩
  obtain ⟨t, ht, ht8⟩ : ∃ t : Nat, se % 8 = (t : Int) ∧ t < 8 := ⟨(se % 8).toNat, by omega, by omega⟩
  have HY := hid hy
  have HXX := hid hx
  have HTT := hid ht
  have HA := hid hA
  have hlc := hA.len
  have hcm := hA.cap
  clear hy hx ht hA
  have mx : may (1 + (x : Int)) = true := by simp [may]; omega
  have mt : may (1 + (t : Int)) = true := by simp [may]; omega
  have T0 : Hid True := hid trivial
  have T1 : Hid True := hid trivial
  go_enter Try.func4, Try.ntmps4
  go_upto_region 13 with (first
    | (go_at_call 8; have t := T0; clear t T0; refine (c_Place hs 8 (by decide) (by decide) s0 s1 _).mono ?_; rw [HY.out]; rintro r wz ⟨rfl, hwz⟩; obtain rfl := hwz.symm)
    | (go_at_call 8; have t := T1; clear t T1; refine (c_Place fi 8 (by decide) (by decide) f0 f1 _).mono ?_; rw [HXX.out]; rintro r wz ⟨rfl, hwz⟩; obtain rfl := hwz.symm)
    | (go_at_call 8; refine (c_Place se 8 (by decide) (by decide) e0 e1 _).mono ?_; rw [HTT.out]; rintro r wz ⟨rfl, hwz⟩; obtain rfl := hwz.symm)
    | (go_at_call 9; refine (l_Mem W 2 (by omega) (by omega) _ rfl).mono ?_; rintro r w1 ⟨m, q, U, rfl, ht, hb, hu⟩; have HT := hid ht; have HB := hid hb; have HU := hid hu; clear ht hb hu)
    | (go_at_call 10; refine (l_New W W w1 2 1 (1 + y) m q U _ (Below.refl _ _) HT.out HB.out HU.out (by omega) (by omega) (by omega) 1 _ rfl (by omega)).mono ?_; rintro r w2 ⟨p, F, rfl, hl⟩; have HL := hid hl; obtain ⟨v', hv1, hv2⟩ := st_rel m (1 + y) mx; have HV1 := hid hv1; have HV2 := hid hv2; clear hl hv1 hv2)
    | (go_at_call 13; refine (l_Take _ _ _ _ _ _ _ _ HL.out (1 + (x : Int)) _ _ _ (st_take m (1 + y) mx)).mono ?_; rintro r w3 ⟨rfl, hl, -⟩; have HL3 := hid hl; have c3 : w3.cell? ⟨w1.heap.size, 0, none⟩ = some (.pointer (some ⟨m, 0, none⟩)) := HL3.out.tb.c0; clear hl)
    | (go_at_call 28; refine (l_Write _ _ _ _ _ _ _ _ HL3.out 4104 (show 4104 + 8 ≤ 4096 * 2 by decide) 4104 rfl M m0 m1).mono ?_; rintro r w4 ⟨rfl, F4, hl⟩; have HL4 := hid hl; clear hl)
    | (go_at_call 15; refine (l_Release _ _ _ _ _ _ _ _ HL4.out 1 _ _ HV1.out).mono ?_; rintro r w5 ⟨rfl, F5, hl, -⟩; have HL5 := hid hl; clear hl))
  obtain ⟨b, hb⟩ : ∃ b, b = w1.heap.size := ⟨_, rfl⟩
  rw [← hb] at HL5 ⊢
  clear hb HT HB HU HL HL3 HL4 HV1 c3
  have HQ : Hid (RQ W (w5.alloc (.cells #[.bool false, .bool false, .bool false, .bool false, .bool false, .bool false, .bool false, .bool false, .bool false] 53)) b w5.heap.size p q (1 + y) M (msk (1 + y)) (msk (1 + y))) := by
    refine ⟨F5, v', _, HL5.out.below ((Below.refl _ _).alloc (Nat.le_refl _) _), ⟨HV2.out, fun _ => vm_write _ M m0 m1, fun z => absurd z (msk_pos _)⟩, ?_, HL5.out.new.size, mask_self _⟩
    rw [heap_alloc_new, dnc_0 (1 + y) (by omega)]
    rfl
  go_wp2_with fail
  obtain ⟨wa, hwa⟩ : ∃ wa, wa = w5.alloc (.cells #[.bool false, .bool false, .bool false, .bool false, .bool false, .bool false, .bool false, .bool false, .bool false] 53) := ⟨_, rfl⟩
  obtain ⟨bd, hbd⟩ : ∃ bd, bd = w5.heap.size := ⟨_, rfl⟩
  rw [← hwa, ← hbd] at HQ ⊢
  clear hwa hbd HL5 HV2
  go_loopw [20, 21] (fun l i wr => ∃ (j s : Nat), j ≤ la + (2 + y) ∧ i = .int .i64 j ∧ l = .int .i64 (pc (1 + y) s (2 + y)) ∧ Hid (RQ W wr b bd p q (1 + y) M s s) ∧ Hid (∀ k, k ≤ 1 + y → la + k < j → bq (1 + y) s k = false)) (fun l i _ => la + (2 + y) - (intOf i).toNat)
  case atStart => exact ⟨0, msk (1 + y), by omega, rfl, by rw [pc_msk (show 1 + y ≤ 8 by omega) (2 + y) (by omega)]; go_num, HQ, fun k _ hk => by omega⟩
  case round =>
    clear HQ
    obtain ⟨j, s, hj, rfl, rfl, hp, hd⟩ := hrel
    by_cases hs0 : s = 0
    · subst hs0
      obtain ⟨mm, hmm, hF⟩ := hp.out.fin mt
      rw [pc_zero_of]
      clear hp hd
      rcases Nat.lt_or_ge j (la + (2 + y)) with hj2 | hj2
      all_goals (
        go_wp2_with (first
          | (go_at_call 29; refine hF.mono ?_; rintro r w6 ⟨rfl, hG⟩)
          | (go_at_call 13; refine hG.mono ?_; rintro r w7 ⟨rfl, hb7, hO⟩; have HB7 := hid hb7; clear hb7)
          | (go_at_call 21; refine hO.mono ?_; rintro r w8 ⟨rfl, hw⟩; obtain rfl := hw.symm)
          | (go_at_call 12; refine (l_awake9 _).mono ?_; rintro r w9 ⟨rfl, hb⟩; have HB9 := hid hb; clear hb))
        go_ret
        exact ⟨rfl, HB7.out.trans (HB9.out.mono HB7.out.size)⟩)
    · have hm := hp.out.msk
      have hlt : j < la + (2 + y) := by
        rcases Nat.lt_or_ge j (la + (2 + y)) with z | z
        · exact z
        · exact absurd (bq_all (show 0 < 1 + y by omega) (by omega) hm fun k hk => hd.out k hk (by omega)) hs0
      have hpp : 0 < pc (1 + y) s (2 + y) := by
        rcases Nat.eq_zero_or_pos (pc (1 + y) s (2 + y)) with z | z
        · exact absurd (bq_all (show 0 < 1 + y by omega) (by omega) hm fun k hk => pc_zero (2 + y) z k (by omega)) hs0
        · exact z
      have hpl := pc_le (1 + y) s (2 + y)
      have HM := hid hm
      clear hm
      have hTk := hp.out.take hs0 mt
      have key : ∃ K : Nat, K ≤ 1 + y ∧ Hid ((j < la → A j % (1 + (y : Int) + 1) = (K : Int)) ∧ (¬ j < la → ((j : Int) - (la : Int)) % (1 + (y : Int) + 1) = (K : Int) ∧ K = j - la)) := by
        by_cases z : j < la
        · refine ⟨(A j % (1 + (y : Int) + 1)).toNat, ?_, fun _ => ?_, fun q => absurd z q⟩
          · have := Int.emod_lt_of_pos (A j) (show 0 < 1 + (y : Int) + 1 by omega); omega
          · have := Int.emod_nonneg (A j) (show 1 + (y : Int) + 1 ≠ 0 by omega); omega
        · refine ⟨j - la, by omega, fun q => absurd q z, fun _ => ⟨?_, rfl⟩⟩
          rw [Int.emod_eq_of_lt (by omega) (by omega)]; omega
      obtain ⟨K, hK, HK⟩ := key
      have hrm := pc_rm (show 1 + y ≤ 8 by omega) HM.out hK (2 + y) (by omega)
      have HD : Hid (∀ k, k ≤ 1 + y → la + k < j + 1 → bq (1 + y) (rm (ps (1 + y) K) s) k = false) := fun k hk hlt2 => by
        rw [bq_rm (show 1 + y ≤ 8 by omega) HM.out hK k hk]
        rcases Nat.lt_or_ge (la + k) j with z | z
        · rw [hd.out k hk z]; rfl
        · have := (HK.out.2 (by omega)).2
          have : k = K := by omega
          simp [this]
      clear hd
      by_cases hjl : j < la
      · obtain ⟨rfl, hab⟩ := HA.out.at0 (by omega)
        have x0 := (HA.out.below hp.out.new).cell j hjl
        clear hp
        by_cases hKh : K = 1 + y
        · subst hKh
          cases hbq : bq (1 + y) s (1 + y)
          · have hne : ¬ s = 2 ^ ps (1 + y) (1 + y) := fun z => by rw [z, pow_bq (by omega) (by omega)] at hbq; cases hbq
            have hsame := rm_same (show 0 < 1 + y by omega) (by omega) HM.out (show (1 + y) ≤ 1 + y by omega) hbq
            clear hrm
            go_wp2_with (first
              | (go_at_call 8; refine (c_Place (A j) (1 + (y : Int) + 1) (by omega) (by omega) (HA.out.num j).1 (HA.out.num j).2 _).mono ?_; rw [HK.out.1 hjl]; rintro r wz ⟨rfl, hwz⟩; obtain rfl := hwz.symm)
              | (go_at_call 13; refine hTk.mono ?_; rintro r w6 ⟨rfl, hq, mm, hmm, hRd⟩; clear hq)
              | (go_at_call 29; refine hRd.mono ?_; rintro r w7 ⟨rfl, hq⟩; have HQ7 := hid hq; clear hq)
              | (go_at_call 21; refine (HQ7.out.owner hs0).mono ?_; rintro r w8 ⟨rfl, hw⟩; obtain rfl := hw.symm)
              | (go_at_call 19; refine (HQ7.out.dev (by omega) hs0).mono ?_; rw [if_neg hne]; rintro r w9 ⟨rfl, hq⟩; have HQ9 := hid hq; obtain ⟨c9, z9⟩ := hq.cell (by omega) (1 + y) (Nat.le_refl _); rw [hbq] at c9; clear hq))
            go_roundw
            case rel => exact ⟨j + 1, rm (ps (1 + y) (1 + y)) s, by omega, by go_num, by rw [hsame], by rw [hsame]; rw [hsame] at HQ9; exact HQ9, HD⟩
            case measure => first | (simp [intOf]; done) | (simp [intOf]; omega)
          · rw [hbq, show (true && decide ((1 + y) < 2 + y)) = true by first | (simp; done) | (simp; omega)] at hrm
            by_cases hone : s = 2 ^ ps (1 + y) (1 + y)
            · have hz : rm (ps (1 + y) (1 + y)) s = 0 := (rm_zero (sl (by omega) HM.out) (ps_lt _ _ (by omega))).2 (.inr hone)
              have hp1 : pc (1 + y) s (2 + y) = 1 := by rw [hz, pc_zero_of] at hrm; simp at hrm; omega
              rw [hp1] at hrm ⊢
              clear hz hp1 hpp hpl
              go_wp2_with (first
                | (go_at_call 8; refine (c_Place (A j) (1 + (y : Int) + 1) (by omega) (by omega) (HA.out.num j).1 (HA.out.num j).2 _).mono ?_; rw [HK.out.1 hjl]; rintro r wz ⟨rfl, hwz⟩; obtain rfl := hwz.symm)
                | (go_at_call 13; refine hTk.mono ?_; rintro r w6 ⟨rfl, hq, mm, hmm, hRd⟩; clear hq)
                | (go_at_call 29; refine hRd.mono ?_; rintro r w7 ⟨rfl, hq⟩; have HQ7 := hid hq; clear hq)
                | (go_at_call 21; refine (HQ7.out.owner hs0).mono ?_; rintro r w8 ⟨rfl, hw⟩; obtain rfl := hw.symm)
                | (go_at_call 19; refine (HQ7.out.dev (by omega) hs0).mono ?_; rw [if_pos hone]; rintro r w9 ⟨rfl, hq⟩; have HQ9 := hid hq; obtain ⟨c9, z9⟩ := hq.cell (by omega) (1 + y) (Nat.le_refl _); rw [hbq] at c9; clear hq))
              go_roundw
              case rel => exact ⟨j + 1, rm (ps (1 + y) (1 + y)) s, by omega, by go_num, by rw [hrm]; go_num, HQ9.out.set (by omega) HM.out (by omega), HD⟩
              case measure => first | (simp [intOf]; done) | (simp [intOf]; omega)
            · have hp2 : pc (1 + y) s (2 + y) ≠ 1 := fun e => by
                rw [e] at hrm
                have h0 := bq_all (show 0 < 1 + y by omega) (by omega) (mask_rm (ps (1 + y) (1 + y)) HM.out) fun a ha => pc_zero (2 + y) hrm a (by omega)
                rcases (rm_zero (sl (by omega) HM.out) (ps_lt _ _ (by omega))).1 h0 with z | z
                · exact hs0 z
                · exact hone z
              obtain ⟨L, hL⟩ : ∃ L : Nat, pc (1 + y) s (2 + y) = L + 2 := ⟨pc (1 + y) s (2 + y) - 2, by omega⟩
              rw [hL] at hrm hpl ⊢
              clear hL hp2 hpp
              go_wp2_with (first
                | (go_at_call 8; refine (c_Place (A j) (1 + (y : Int) + 1) (by omega) (by omega) (HA.out.num j).1 (HA.out.num j).2 _).mono ?_; rw [HK.out.1 hjl]; rintro r wz ⟨rfl, hwz⟩; obtain rfl := hwz.symm)
                | (go_at_call 13; refine hTk.mono ?_; rintro r w6 ⟨rfl, hq, mm, hmm, hRd⟩; clear hq)
                | (go_at_call 29; refine hRd.mono ?_; rintro r w7 ⟨rfl, hq⟩; have HQ7 := hid hq; clear hq)
                | (go_at_call 21; refine (HQ7.out.owner hs0).mono ?_; rintro r w8 ⟨rfl, hw⟩; obtain rfl := hw.symm)
                | (go_at_call 19; refine (HQ7.out.dev (by omega) hs0).mono ?_; rw [if_neg hone]; rintro r w9 ⟨rfl, hq⟩; have HQ9 := hid hq; obtain ⟨c9, z9⟩ := hq.cell (by omega) (1 + y) (Nat.le_refl _); rw [hbq] at c9; clear hq))
              go_roundw
              case rel => exact ⟨j + 1, rm (ps (1 + y) (1 + y)) s, by omega, by go_num, by rw [hrm]; go_num, HQ9.out.set (by omega) HM.out (by omega), HD⟩
              case measure => first | (simp [intOf]; done) | (simp [intOf]; omega)
        · have hKn : ¬ ((K : Int) = 1 + (y : Int)) := by omega
          cases hbq : bq (1 + y) s K
          · have hne : ¬ s = 2 ^ ps (1 + y) K := fun z => by rw [z, pow_bq (by omega) (by omega)] at hbq; cases hbq
            have hsame := rm_same (show 0 < 1 + y by omega) (by omega) HM.out (show K ≤ 1 + y by omega) hbq
            clear hrm
            go_wp2_with (first
              | (go_at_call 8; refine (c_Place (A j) (1 + (y : Int) + 1) (by omega) (by omega) (HA.out.num j).1 (HA.out.num j).2 _).mono ?_; rw [HK.out.1 hjl]; rintro r wz ⟨rfl, hwz⟩; obtain rfl := hwz.symm)
              | (go_at_call 13; refine hTk.mono ?_; rintro r w6 ⟨rfl, hq, mm, hmm, hRd⟩; clear hq)
              | (go_at_call 29; refine hRd.mono ?_; rintro r w7 ⟨rfl, hq⟩; have HQ7 := hid hq; clear hq)
              | (go_at_call 21; refine (HQ7.out.owner hs0).mono ?_; rintro r w8 ⟨rfl, hw⟩; obtain rfl := hw.symm)
              | (go_at_call 17; refine (HQ7.out.ack (by omega) hs0 K (by omega)).mono ?_; rw [if_neg hne]; rintro r w9 ⟨rfl, hq⟩; have HQ9 := hid hq; obtain ⟨c9, z9⟩ := hq.cell (by omega) K (by omega); rw [hbq] at c9; clear hq))
            go_roundw
            case rel => exact ⟨j + 1, rm (ps (1 + y) K) s, by omega, by go_num, by rw [hsame], by rw [hsame]; rw [hsame] at HQ9; exact HQ9, HD⟩
            case measure => first | (simp [intOf]; done) | (simp [intOf]; omega)
          · rw [hbq, show (true && decide (K < 2 + y)) = true by first | (simp; done) | (simp; omega)] at hrm
            by_cases hone : s = 2 ^ ps (1 + y) K
            · have hz : rm (ps (1 + y) K) s = 0 := (rm_zero (sl (by omega) HM.out) (ps_lt _ _ (by omega))).2 (.inr hone)
              have hp1 : pc (1 + y) s (2 + y) = 1 := by rw [hz, pc_zero_of] at hrm; simp at hrm; omega
              rw [hp1] at hrm ⊢
              clear hz hp1 hpp hpl
              go_wp2_with (first
                | (go_at_call 8; refine (c_Place (A j) (1 + (y : Int) + 1) (by omega) (by omega) (HA.out.num j).1 (HA.out.num j).2 _).mono ?_; rw [HK.out.1 hjl]; rintro r wz ⟨rfl, hwz⟩; obtain rfl := hwz.symm)
                | (go_at_call 13; refine hTk.mono ?_; rintro r w6 ⟨rfl, hq, mm, hmm, hRd⟩; clear hq)
                | (go_at_call 29; refine hRd.mono ?_; rintro r w7 ⟨rfl, hq⟩; have HQ7 := hid hq; clear hq)
                | (go_at_call 21; refine (HQ7.out.owner hs0).mono ?_; rintro r w8 ⟨rfl, hw⟩; obtain rfl := hw.symm)
                | (go_at_call 17; refine (HQ7.out.ack (by omega) hs0 K (by omega)).mono ?_; rw [if_pos hone]; rintro r w9 ⟨rfl, hq⟩; have HQ9 := hid hq; obtain ⟨c9, z9⟩ := hq.cell (by omega) K (by omega); rw [hbq] at c9; clear hq))
              go_roundw
              case rel => exact ⟨j + 1, rm (ps (1 + y) K) s, by omega, by go_num, by rw [hrm]; go_num, HQ9.out.set (by omega) HM.out (by omega), HD⟩
              case measure => first | (simp [intOf]; done) | (simp [intOf]; omega)
            · have hp2 : pc (1 + y) s (2 + y) ≠ 1 := fun e => by
                rw [e] at hrm
                have h0 := bq_all (show 0 < 1 + y by omega) (by omega) (mask_rm (ps (1 + y) K) HM.out) fun a ha => pc_zero (2 + y) hrm a (by omega)
                rcases (rm_zero (sl (by omega) HM.out) (ps_lt _ _ (by omega))).1 h0 with z | z
                · exact hs0 z
                · exact hone z
              obtain ⟨L, hL⟩ : ∃ L : Nat, pc (1 + y) s (2 + y) = L + 2 := ⟨pc (1 + y) s (2 + y) - 2, by omega⟩
              rw [hL] at hrm hpl ⊢
              clear hL hp2 hpp
              go_wp2_with (first
                | (go_at_call 8; refine (c_Place (A j) (1 + (y : Int) + 1) (by omega) (by omega) (HA.out.num j).1 (HA.out.num j).2 _).mono ?_; rw [HK.out.1 hjl]; rintro r wz ⟨rfl, hwz⟩; obtain rfl := hwz.symm)
                | (go_at_call 13; refine hTk.mono ?_; rintro r w6 ⟨rfl, hq, mm, hmm, hRd⟩; clear hq)
                | (go_at_call 29; refine hRd.mono ?_; rintro r w7 ⟨rfl, hq⟩; have HQ7 := hid hq; clear hq)
                | (go_at_call 21; refine (HQ7.out.owner hs0).mono ?_; rintro r w8 ⟨rfl, hw⟩; obtain rfl := hw.symm)
                | (go_at_call 17; refine (HQ7.out.ack (by omega) hs0 K (by omega)).mono ?_; rw [if_neg hone]; rintro r w9 ⟨rfl, hq⟩; have HQ9 := hid hq; obtain ⟨c9, z9⟩ := hq.cell (by omega) K (by omega); rw [hbq] at c9; clear hq))
              go_roundw
              case rel => exact ⟨j + 1, rm (ps (1 + y) K) s, by omega, by go_num, by rw [hrm]; go_num, HQ9.out.set (by omega) HM.out (by omega), HD⟩
              case measure => first | (simp [intOf]; done) | (simp [intOf]; omega)
      · clear hp
        by_cases hKh : K = 1 + y
        · subst hKh
          cases hbq : bq (1 + y) s (1 + y)
          · have hne : ¬ s = 2 ^ ps (1 + y) (1 + y) := fun z => by rw [z, pow_bq (by omega) (by omega)] at hbq; cases hbq
            have hsame := rm_same (show 0 < 1 + y by omega) (by omega) HM.out (show (1 + y) ≤ 1 + y by omega) hbq
            clear hrm
            go_wp2_with (first
              | (go_at_call 8; refine (c_Place ((j : Int) - (la : Int)) (1 + (y : Int) + 1) (by omega) (by omega) (by omega) (by omega) _).mono ?_; rw [(HK.out.2 hjl).1]; rintro r wz ⟨rfl, hwz⟩; obtain rfl := hwz.symm)
              | (go_at_call 13; refine hTk.mono ?_; rintro r w6 ⟨rfl, hq, mm, hmm, hRd⟩; clear hq)
              | (go_at_call 29; refine hRd.mono ?_; rintro r w7 ⟨rfl, hq⟩; have HQ7 := hid hq; clear hq)
              | (go_at_call 21; refine (HQ7.out.owner hs0).mono ?_; rintro r w8 ⟨rfl, hw⟩; obtain rfl := hw.symm)
              | (go_at_call 19; refine (HQ7.out.dev (by omega) hs0).mono ?_; rw [if_neg hne]; rintro r w9 ⟨rfl, hq⟩; have HQ9 := hid hq; obtain ⟨c9, z9⟩ := hq.cell (by omega) (1 + y) (Nat.le_refl _); rw [hbq] at c9; clear hq))
            go_roundw
            case rel => exact ⟨j + 1, rm (ps (1 + y) (1 + y)) s, by omega, by go_num, by rw [hsame], by rw [hsame]; rw [hsame] at HQ9; exact HQ9, HD⟩
            case measure => first | (simp [intOf]; done) | (simp [intOf]; omega)
          · rw [hbq, show (true && decide ((1 + y) < 2 + y)) = true by first | (simp; done) | (simp; omega)] at hrm
            by_cases hone : s = 2 ^ ps (1 + y) (1 + y)
            · have hz : rm (ps (1 + y) (1 + y)) s = 0 := (rm_zero (sl (by omega) HM.out) (ps_lt _ _ (by omega))).2 (.inr hone)
              have hp1 : pc (1 + y) s (2 + y) = 1 := by rw [hz, pc_zero_of] at hrm; simp at hrm; omega
              rw [hp1] at hrm ⊢
              clear hz hp1 hpp hpl
              go_wp2_with (first
                | (go_at_call 8; refine (c_Place ((j : Int) - (la : Int)) (1 + (y : Int) + 1) (by omega) (by omega) (by omega) (by omega) _).mono ?_; rw [(HK.out.2 hjl).1]; rintro r wz ⟨rfl, hwz⟩; obtain rfl := hwz.symm)
                | (go_at_call 13; refine hTk.mono ?_; rintro r w6 ⟨rfl, hq, mm, hmm, hRd⟩; clear hq)
                | (go_at_call 29; refine hRd.mono ?_; rintro r w7 ⟨rfl, hq⟩; have HQ7 := hid hq; clear hq)
                | (go_at_call 21; refine (HQ7.out.owner hs0).mono ?_; rintro r w8 ⟨rfl, hw⟩; obtain rfl := hw.symm)
                | (go_at_call 19; refine (HQ7.out.dev (by omega) hs0).mono ?_; rw [if_pos hone]; rintro r w9 ⟨rfl, hq⟩; have HQ9 := hid hq; obtain ⟨c9, z9⟩ := hq.cell (by omega) (1 + y) (Nat.le_refl _); rw [hbq] at c9; clear hq))
              go_roundw
              case rel => exact ⟨j + 1, rm (ps (1 + y) (1 + y)) s, by omega, by go_num, by rw [hrm]; go_num, HQ9.out.set (by omega) HM.out (by omega), HD⟩
              case measure => first | (simp [intOf]; done) | (simp [intOf]; omega)
            · have hp2 : pc (1 + y) s (2 + y) ≠ 1 := fun e => by
                rw [e] at hrm
                have h0 := bq_all (show 0 < 1 + y by omega) (by omega) (mask_rm (ps (1 + y) (1 + y)) HM.out) fun a ha => pc_zero (2 + y) hrm a (by omega)
                rcases (rm_zero (sl (by omega) HM.out) (ps_lt _ _ (by omega))).1 h0 with z | z
                · exact hs0 z
                · exact hone z
              obtain ⟨L, hL⟩ : ∃ L : Nat, pc (1 + y) s (2 + y) = L + 2 := ⟨pc (1 + y) s (2 + y) - 2, by omega⟩
              rw [hL] at hrm hpl ⊢
              clear hL hp2 hpp
              go_wp2_with (first
                | (go_at_call 8; refine (c_Place ((j : Int) - (la : Int)) (1 + (y : Int) + 1) (by omega) (by omega) (by omega) (by omega) _).mono ?_; rw [(HK.out.2 hjl).1]; rintro r wz ⟨rfl, hwz⟩; obtain rfl := hwz.symm)
                | (go_at_call 13; refine hTk.mono ?_; rintro r w6 ⟨rfl, hq, mm, hmm, hRd⟩; clear hq)
                | (go_at_call 29; refine hRd.mono ?_; rintro r w7 ⟨rfl, hq⟩; have HQ7 := hid hq; clear hq)
                | (go_at_call 21; refine (HQ7.out.owner hs0).mono ?_; rintro r w8 ⟨rfl, hw⟩; obtain rfl := hw.symm)
                | (go_at_call 19; refine (HQ7.out.dev (by omega) hs0).mono ?_; rw [if_neg hone]; rintro r w9 ⟨rfl, hq⟩; have HQ9 := hid hq; obtain ⟨c9, z9⟩ := hq.cell (by omega) (1 + y) (Nat.le_refl _); rw [hbq] at c9; clear hq))
              go_roundw
              case rel => exact ⟨j + 1, rm (ps (1 + y) (1 + y)) s, by omega, by go_num, by rw [hrm]; go_num, HQ9.out.set (by omega) HM.out (by omega), HD⟩
              case measure => first | (simp [intOf]; done) | (simp [intOf]; omega)
        · have hKn : ¬ ((K : Int) = 1 + (y : Int)) := by omega
          cases hbq : bq (1 + y) s K
          · have hne : ¬ s = 2 ^ ps (1 + y) K := fun z => by rw [z, pow_bq (by omega) (by omega)] at hbq; cases hbq
            have hsame := rm_same (show 0 < 1 + y by omega) (by omega) HM.out (show K ≤ 1 + y by omega) hbq
            clear hrm
            go_wp2_with (first
              | (go_at_call 8; refine (c_Place ((j : Int) - (la : Int)) (1 + (y : Int) + 1) (by omega) (by omega) (by omega) (by omega) _).mono ?_; rw [(HK.out.2 hjl).1]; rintro r wz ⟨rfl, hwz⟩; obtain rfl := hwz.symm)
              | (go_at_call 13; refine hTk.mono ?_; rintro r w6 ⟨rfl, hq, mm, hmm, hRd⟩; clear hq)
              | (go_at_call 29; refine hRd.mono ?_; rintro r w7 ⟨rfl, hq⟩; have HQ7 := hid hq; clear hq)
              | (go_at_call 21; refine (HQ7.out.owner hs0).mono ?_; rintro r w8 ⟨rfl, hw⟩; obtain rfl := hw.symm)
              | (go_at_call 17; refine (HQ7.out.ack (by omega) hs0 K (by omega)).mono ?_; rw [if_neg hne]; rintro r w9 ⟨rfl, hq⟩; have HQ9 := hid hq; obtain ⟨c9, z9⟩ := hq.cell (by omega) K (by omega); rw [hbq] at c9; clear hq))
            go_roundw
            case rel => exact ⟨j + 1, rm (ps (1 + y) K) s, by omega, by go_num, by rw [hsame], by rw [hsame]; rw [hsame] at HQ9; exact HQ9, HD⟩
            case measure => first | (simp [intOf]; done) | (simp [intOf]; omega)
          · rw [hbq, show (true && decide (K < 2 + y)) = true by first | (simp; done) | (simp; omega)] at hrm
            by_cases hone : s = 2 ^ ps (1 + y) K
            · have hz : rm (ps (1 + y) K) s = 0 := (rm_zero (sl (by omega) HM.out) (ps_lt _ _ (by omega))).2 (.inr hone)
              have hp1 : pc (1 + y) s (2 + y) = 1 := by rw [hz, pc_zero_of] at hrm; simp at hrm; omega
              rw [hp1] at hrm ⊢
              clear hz hp1 hpp hpl
              go_wp2_with (first
                | (go_at_call 8; refine (c_Place ((j : Int) - (la : Int)) (1 + (y : Int) + 1) (by omega) (by omega) (by omega) (by omega) _).mono ?_; rw [(HK.out.2 hjl).1]; rintro r wz ⟨rfl, hwz⟩; obtain rfl := hwz.symm)
                | (go_at_call 13; refine hTk.mono ?_; rintro r w6 ⟨rfl, hq, mm, hmm, hRd⟩; clear hq)
                | (go_at_call 29; refine hRd.mono ?_; rintro r w7 ⟨rfl, hq⟩; have HQ7 := hid hq; clear hq)
                | (go_at_call 21; refine (HQ7.out.owner hs0).mono ?_; rintro r w8 ⟨rfl, hw⟩; obtain rfl := hw.symm)
                | (go_at_call 17; refine (HQ7.out.ack (by omega) hs0 K (by omega)).mono ?_; rw [if_pos hone]; rintro r w9 ⟨rfl, hq⟩; have HQ9 := hid hq; obtain ⟨c9, z9⟩ := hq.cell (by omega) K (by omega); rw [hbq] at c9; clear hq))
              go_roundw
              case rel => exact ⟨j + 1, rm (ps (1 + y) K) s, by omega, by go_num, by rw [hrm]; go_num, HQ9.out.set (by omega) HM.out (by omega), HD⟩
              case measure => first | (simp [intOf]; done) | (simp [intOf]; omega)
            · have hp2 : pc (1 + y) s (2 + y) ≠ 1 := fun e => by
                rw [e] at hrm
                have h0 := bq_all (show 0 < 1 + y by omega) (by omega) (mask_rm (ps (1 + y) K) HM.out) fun a ha => pc_zero (2 + y) hrm a (by omega)
                rcases (rm_zero (sl (by omega) HM.out) (ps_lt _ _ (by omega))).1 h0 with z | z
                · exact hs0 z
                · exact hone z
              obtain ⟨L, hL⟩ : ∃ L : Nat, pc (1 + y) s (2 + y) = L + 2 := ⟨pc (1 + y) s (2 + y) - 2, by omega⟩
              rw [hL] at hrm hpl ⊢
              clear hL hp2 hpp
              go_wp2_with (first
                | (go_at_call 8; refine (c_Place ((j : Int) - (la : Int)) (1 + (y : Int) + 1) (by omega) (by omega) (by omega) (by omega) _).mono ?_; rw [(HK.out.2 hjl).1]; rintro r wz ⟨rfl, hwz⟩; obtain rfl := hwz.symm)
                | (go_at_call 13; refine hTk.mono ?_; rintro r w6 ⟨rfl, hq, mm, hmm, hRd⟩; clear hq)
                | (go_at_call 29; refine hRd.mono ?_; rintro r w7 ⟨rfl, hq⟩; have HQ7 := hid hq; clear hq)
                | (go_at_call 21; refine (HQ7.out.owner hs0).mono ?_; rintro r w8 ⟨rfl, hw⟩; obtain rfl := hw.symm)
                | (go_at_call 17; refine (HQ7.out.ack (by omega) hs0 K (by omega)).mono ?_; rw [if_neg hone]; rintro r w9 ⟨rfl, hq⟩; have HQ9 := hid hq; obtain ⟨c9, z9⟩ := hq.cell (by omega) K (by omega); rw [hbq] at c9; clear hq))
              go_roundw
              case rel => exact ⟨j + 1, rm (ps (1 + y) K) s, by omega, by go_num, by rw [hrm]; go_num, HQ9.out.set (by omega) HM.out (by omega), HD⟩
              case measure => first | (simp [intOf]; done) | (simp [intOf]; omega)
end Go.Proofs.Ytehghhonhfmieaa
