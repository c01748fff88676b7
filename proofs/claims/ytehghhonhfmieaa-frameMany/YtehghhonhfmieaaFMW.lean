/- FrameMany: an acknowledgement counts for all frames that wait, and for none that is released behind it. -/
import Derived.Test.YtehghhonhfmieaaFM
namespace Go.Proofs.Ytehghhonhfmieaa
open Go.RowKit
open C (Only hid Mem RMem Still ret_bool ret_int put byt nu TB Tw Cl fcl c_Place)
set_option linter.unusedVariables false
set_option maxRecDepth 100000

theorem v0_ss (m h K : Nat) : SS (v0 m 0 h K) K h (fun _ => 0) (fun j => decide (0 ≤ j)) := ⟨rfl, rfl, rfl, fun j hj => rfl, fun j hj _ => by show bif decide (0 ≤ j) then (if j < 0 then (-1 : Int) else 0) = 0 else _; simp⟩
theorem vl_0 (K : Nat) (M : Int) : MM (fun _ => 0) K M (fun j => decide (j < 0)) := ⟨fun j hj => by simp [vl, nu]⟩
/-- what stands behind i takes -/
def J1 (W wr : World) (b p q K h : Nat) (M : Int) (i : Nat) : Prop := ∃ F v f, LB W wr b F p q v f ∧ SS v K h (fun _ => 0) (fun j => decide (i ≤ j)) ∧ MM f K M (fun j => decide (j < i))
def J2 (W wr : World) (b p q K h : Nat) (M : Int) (i : Nat) : Prop := ∃ F v f, LB W wr b F p q v f ∧ SS v K h (fun j => if j < i then msk h else 0) (fun _ => false) ∧ MM f K M (fun _ => true)
def J3 (W wr : World) (b p q K h c : Nat) (M : Int) (a : Nat) : Prop := ∃ F v f, LB W wr b F p q v f ∧ SS v K h (fun j => if j < c then ub h a + 256 else 0) (fun _ => false) ∧ MM f K M (fun _ => true)
def J4 (W wr : World) (b p q K h c : Nat) (M : Int) (i : Nat) : Prop := ∃ F v f, LB W wr b F p q v f ∧ SS v K h (fun j => if j < c then 256 else if j < i then msk h else 0) (fun _ => false) ∧ MM f K M (fun _ => true)
def J6 (W wr : World) (b p q K h c : Nat) (M : Int) (a : Nat) : Prop := ∃ F v f, LB W wr b F p q v f ∧ SS v K h (fun j => if j < c then 0 else ub h a) (fun j => decide (j < c) || decide (a = h)) ∧ MM f K M (fun j => decide (c ≤ j) && !decide (a = h))
section
variable {W wr : World} {b p q K h c : Nat} {M : Int}
theorem J1.take {i : Nat} (H : J1 W wr b p q K h M i) (hi : i < K) {x : Int} (hx : may x = true) : Calls Try.prog 13 #[.pointer (some ⟨p, 0, none⟩), .int .i64 x] wr fun r w' => r = .returned (.tuple #[.int .i64 (i : Int), .int .i64 0]) ∧ ∃ F v f m, LB W w' b F p q v f ∧ SS v K h (fun _ => 0) (fun j => decide (i + 1 ≤ j)) ∧ MM f K M (fun j => decide (j < i)) ∧ v.m = m ∧ w'.cell? ⟨b, 0, none⟩ = some (.pointer (some ⟨m, 0, none⟩)) := by
  obtain ⟨F, v, f, h1, h2, h3⟩ := H
  obtain ⟨v', e, h4⟩ := h2.take (fun _ _ => rfl) hi hx
  refine (l_Take _ _ _ _ _ _ _ _ h1 x _ _ _ e).mono ?_
  rintro r w' ⟨rfl, hl, -⟩
  exact ⟨rfl, F, v', f, v'.m, hl, h4, h3, rfl, hl.tb.c0⟩
theorem J1.write {i : Nat} {F : Nat → Prop} {v : PV} {f : Nat → Int} (m0 : 0 < M) (m1 : M < 18446744073709551616) (h1 : LB W wr b F p q v f) (h2 : SS v K h (fun _ => 0) (fun j => decide (i + 1 ≤ j))) (h3 : MM f K M (fun j => decide (j < i))) (hi : i < K) (a : Int) (ha : a = 4096 * (i : Int)) : Calls Try.prog 28 #[.pointer (some ⟨v.m, 0, none⟩), .int .u64 a, .int .i64 8, .int .u64 M] wr fun r w' => r = .returned (.bool true) ∧ J1 W w' b p q K h M (i + 1) := by
  refine (l_Write _ _ _ _ _ _ _ _ h1 (4096 * i) (by rw [h2.n]; omega) a (by omega) M (by omega) m1).mono ?_
  rintro r w' ⟨rfl, F', hl⟩
  refine ⟨rfl, F', v, _, hl, h2, (h3.write (by omega) m1 i).congr fun j hj => ?_⟩
  unfold upd
  by_cases z : j = i
  · subst z; simp
  · rw [if_neg z, Bool.eq_iff_iff]; simp; omega
theorem J1.to2 (H : J1 W wr b p q K h M K) : J2 W wr b p q K h M 0 := by
  obtain ⟨F, v, f, h1, h2, h3⟩ := H
  exact ⟨F, v, f, h1, h2.congr (fun j hj => by simp) (fun j hj _ => by rw [Bool.eq_iff_iff]; simp; omega), h3.congr fun j hj => by simp [hj]⟩
theorem J2.rel {i : Nat} (H : J2 W wr b p q K h M i) (hi : i < K) : Calls Try.prog 15 #[.pointer (some ⟨p, 0, none⟩), .int .i64 (i : Int)] wr fun r w' => r = .returned (.int .i64 0) ∧ J2 W w' b p q K h M (i + 1) := by
  obtain ⟨F, v, f, h1, h2, h3⟩ := H
  obtain ⟨v', e, h4⟩ := h2.rel hi (by simp) rfl
  refine (l_Release _ _ _ _ _ _ _ _ h1 _ _ _ e).mono ?_
  rintro r w' ⟨rfl, F', hl, -⟩
  refine ⟨rfl, F', v', f, hl, h4.congr (fun j hj => ?_) (fun _ _ _ => rfl), h3⟩
  unfold upd
  by_cases z : j = i
  · subst z; simp
  · rw [if_neg z]
    show (if j < i + 1 then msk h else 0) = if j < i then msk h else 0
    by_cases q : j < i
    · rw [if_pos q, if_pos (by omega)]
    · rw [if_neg q, if_neg (by omega)]
theorem J2.relNo {i : Nat} (H : J2 W wr b p q K h M (i + 1)) (hi : i < K) : Calls Try.prog 15 #[.pointer (some ⟨p, 0, none⟩), .int .i64 (i : Int)] wr fun r w' => r = .returned (.int .i64 11) ∧ J2 W w' b p q K h M (i + 1) := by
  obtain ⟨F, v, f, h1, h2, h3⟩ := H
  have e := h2.relNo h1.ok hi (by simp [msk_pos])
  refine (l_Release _ _ _ _ _ _ _ _ h1 _ _ _ e).mono ?_
  rintro r w' ⟨rfl, F', hl, -⟩
  exact ⟨rfl, F', v, f, hl, h2, h3⟩
theorem J2.to3 (h0 : 0 < h) (h8 : h ≤ 8) (H : J2 W wr b p q K h M c) : J3 W wr b p q K h c M 0 := by
  obtain ⟨F, v, f, h1, h2, h3⟩ := H
  exact ⟨F, v, f, h1, h2.congr (fun j hj => by rw [← (ub_8 ⟨h, by omega⟩ h0).2.1]) (fun j hj _ => rfl), h3⟩
theorem J3.ack (h8 : h ≤ 8) {a : Nat} (ha : a < h) (H : J3 W wr b p q K h c M a) : Calls Try.prog 17 #[.pointer (some ⟨p, 0, none⟩), .int .i64 (a : Int)] wr fun r w' => r = .returned (.int .i64 0) ∧ J3 W w' b p q K h c M (a + 1) := by
  obtain ⟨F, v, f, h1, h2, h3⟩ := H
  have hu := ub_rm0 ⟨h, by omega⟩ ⟨a, by omega⟩ ha
  have hok : akOk v (a : Int) = true := by unfold akOk; rw [h2.h]; simp; omega
  have hno : ∀ j, j < K → (fun j => if j < c then ub h a + 256 else 0) j ≠ 2 ^ a := fun j hj => by
    show (if j < c then ub h a + 256 else 0) ≠ 2 ^ a
    split
    · exact hu.2.2.1
    · have := Nat.two_pow_pos a; omega
  have hr : akR v (a : Int) = 0 := by unfold akR; rw [hok]; show ((ackN v a v.n : Nat) : Int) = 0; rw [h2.noHit hno]; rfl
  have hv : akV v (a : Int) = ackP v a v.n := by unfold akV; rw [hok]; rfl
  have hf : akF v (a : Int) f = ackF v a v.n f := by unfold akF; rw [hok]; rfl
  refine (l_Ack _ _ _ _ _ _ _ _ h1 _ _ _ _ hr hv hf).mono ?_
  rintro r w' ⟨rfl, F', hl, -⟩
  refine ⟨rfl, F', _, _, hl, (h2.ack h1.ok a (by omega)).congr (fun j hj => ?_) (fun j hj _ => ?_), (h3.ack h2 a).congr fun j hj => ?_⟩
  · show (if j < c then ub h (a + 1) + 256 else 0) = rm a (if j < c then ub h a + 256 else 0)
    split
    · exact hu.2.1.symm
    · exact (rm_0 a).symm
  · simp only [hno j hj, decide_false, Bool.or_false]
  · simp only [hno j hj, decide_false, Bool.not_false, Bool.and_true]
theorem J3.to4 (h0 : 0 < h) (h8 : h ≤ 8) (H : J3 W wr b p q K h c M h) : J4 W wr b p q K h c M c := by
  obtain ⟨F, v, f, h1, h2, h3⟩ := H
  refine ⟨F, v, f, h1, h2.congr (fun j hj => ?_) (fun j hj _ => rfl), h3⟩
  show (if j < c then 256 else if j < c then msk h else 0) = if j < c then ub h h + 256 else 0
  rw [(ub_8 ⟨h, by omega⟩ h0).2.2.2]
  split <;> rfl
theorem J4.rel {i : Nat} (H : J4 W wr b p q K h c M i) (hc : c ≤ i) (hi : i < K) : Calls Try.prog 15 #[.pointer (some ⟨p, 0, none⟩), .int .i64 (i : Int)] wr fun r w' => r = .returned (.int .i64 0) ∧ J4 W w' b p q K h c M (i + 1) := by
  obtain ⟨F, v, f, h1, h2, h3⟩ := H
  obtain ⟨v', e, h4⟩ := h2.rel hi (show (if i < c then 256 else if i < i then msk h else 0) = 0 by rw [if_neg (by omega), if_neg (Nat.lt_irrefl _)]) rfl
  refine (l_Release _ _ _ _ _ _ _ _ h1 _ _ _ e).mono ?_
  rintro r w' ⟨rfl, F', hl, -⟩
  refine ⟨rfl, F', v', f, hl, h4.congr (fun j hj => ?_) (fun _ _ _ => rfl), h3⟩
  show (if j < c then 256 else if j < i + 1 then msk h else 0) = upd (fun j => if j < c then 256 else if j < i then msk h else 0) i (msk h) j
  unfold upd
  by_cases z : j = i
  · subst z; rw [if_pos rfl, if_neg (by omega), if_pos (by omega)]
  · rw [if_neg z]
    show (if j < c then 256 else if j < i + 1 then msk h else 0) = if j < c then 256 else if j < i then msk h else 0
    by_cases q : j < c
    · rw [if_pos q, if_pos q]
    · rw [if_neg q, if_neg q]
      by_cases q : j < i
      · rw [if_pos q, if_pos (by omega)]
      · rw [if_neg q, if_neg (by omega)]
theorem J4.dev (h0 : 0 < h) (h8 : h ≤ 8) (hc : c ≤ K) (H : J4 W wr b p q K h c M K) : Calls Try.prog 19 #[.pointer (some ⟨p, 0, none⟩)] wr fun r w' => r = .returned (.int .i64 (c : Int)) ∧ J6 W w' b p q K h c M 0 := by
  obtain ⟨F, v, f, h1, h2, h3⟩ := H
  have hu := ub_8 ⟨h, by omega⟩ h0
  have hp : ∀ j, j < K → ((fun j => if j < c then 256 else if j < K then msk h else 0) j = 2 ^ 8 ↔ j < c) := fun j hj => by
    show (if j < c then 256 else if j < K then msk h else 0) = 2 ^ 8 ↔ j < c
    by_cases z : j < c
    · simp [z]
    · rw [if_neg z, if_pos hj]; simp only [z, iff_false]; exact hu.2.2.1
  refine (l_AckD _ _ _ _ _ _ _ _ h1 c _ _ (h2.hitLo hc hp) rfl rfl).mono ?_
  rintro r w' ⟨rfl, F', hl, -⟩
  have h0h : ¬ (0 = h) := by omega
  refine ⟨rfl, F', _, _, hl, (h2.ack h1.ok 8 (by omega)).congr (fun j hj => ?_) (fun j hj hz => ?_), (h3.ack h2 8).congr fun j hj => ?_⟩
  · show (if j < c then 0 else ub h 0) = rm 8 (if j < c then 256 else if j < K then msk h else 0)
    by_cases z : j < c
    · rw [if_pos z, if_pos z]; rfl
    · rw [if_neg z, if_neg z, if_pos hj]; exact hu.1.symm
  · simp only [hp j hj, h0h, decide_false, Bool.or_false, Bool.false_or]
  · simp only [hp j hj, h0h, decide_false, Bool.not_false, Bool.and_true, Bool.true_and]
    rw [Bool.eq_iff_iff]; simp
theorem J6.cnt0 (h0 : 0 < h) (h8 : h ≤ 8) (hc : c ≤ K) (H : J6 W wr b p q K h c M 0) : Calls Try.prog 25 #[.pointer (some ⟨p, 0, none⟩), .int .i64 0] wr fun r w' => r = .returned (.int .i64 (c : Int)) ∧ w' = wr := by
  obtain ⟨F, v, f, h1, h2, h3⟩ := H
  have hu := ub_pos ⟨h, by omega⟩ ⟨0, by omega⟩ h0
  refine l_Count _ _ _ _ _ _ _ _ h1 0 c ?_
  rw [h2.n]
  refine cnt_lo hc fun j hj => ?_
  have ho := h2.o j hj
  have hs := h2.s j hj
  have hl := h1.ok.li j
  by_cases z : j < c
  · have := ho (show (if j < c then 0 else ub h 0) = 0 from if_pos z)
    simp [z] at this
    simp [z, this]
  · rw [show (if j < c then 0 else ub h 0) = ub h 0 from if_neg z] at hs
    have := hl.2 (by rw [hs]; exact hu)
    simp [z]; omega
theorem J6.cntL (h0 : 0 < h) (h8 : h ≤ 8) (hc : c ≤ K) (H : J6 W wr b p q K h c M 0) : Calls Try.prog 25 #[.pointer (some ⟨p, 0, none⟩), .int .i64 (-2)] wr fun r w' => r = .returned (.int .i64 ((K - c : Nat) : Int)) ∧ w' = wr := by
  obtain ⟨F, v, f, h1, h2, h3⟩ := H
  have hu := ub_pos ⟨h, by omega⟩ ⟨0, by omega⟩ h0
  refine l_Count _ _ _ _ _ _ _ _ h1 (-2) (K - c) ?_
  rw [h2.n]
  refine cnt_hi hc fun j hj => ?_
  rw [h1.ok.li j, h2.s j hj]
  show (if j < c then 0 else ub h 0) ≠ 0 ↔ c ≤ j
  by_cases z : j < c
  · rw [if_pos z]; simp; omega
  · rw [if_neg z]; simp [show c ≤ j by omega]; exact hu
theorem J6.read (m0 : 0 < M) (h0 : 0 < h) {i : Nat} (hi : i < K) (H : J6 W wr b p q K h c M 0) : ∃ m : Nat, wr.cell? ⟨b, 0, none⟩ = some (.pointer (some ⟨m, 0, none⟩)) ∧ ∀ a : Int, a = 4096 * (i : Int) → Calls Try.prog 29 #[.pointer (some ⟨m, 0, none⟩), .int .u64 a, .int .i64 8] wr fun r w' => r = .returned (.tuple #[.int .u64 (if i < c then 0 else M), .bool true]) ∧ J6 W w' b p q K h c M 0 := by
  obtain ⟨F, v, f, h1, h2, h3⟩ := H
  refine ⟨v.m, h1.tb.c0, fun a ha => ?_⟩
  have hv := h3.v i hi
  have h0h : ¬ (0 = h) := by omega
  have hy : nu (fun j => f (4096 * i + j)) 8 = if i < c then 0 else M := by
    show vl f i = _
    rw [hv]
    by_cases z : i < c
    · simp [z, show ¬ c ≤ i by omega]
    · simp [z, show c ≤ i by omega, h0h]
  refine (l_Read _ _ _ _ _ _ _ _ h1 (4096 * i) (by rw [h2.n]; omega) a (by omega) _ hy).mono ?_
  rintro r w' ⟨rfl, hl⟩
  exact ⟨rfl, F, v, f, hl, h2, h3⟩
theorem J6.ack (h8 : h ≤ 8) (hc : c ≤ K) {a : Nat} (ha : a < h) (H : J6 W wr b p q K h c M a) : Calls Try.prog 17 #[.pointer (some ⟨p, 0, none⟩), .int .i64 (a : Int)] wr fun r w' => r = .returned (.int .i64 (if a + 1 = h then ((K - c : Nat) : Int) else 0)) ∧ J6 W w' b p q K h c M (a + 1) := by
  obtain ⟨F, v, f, h1, h2, h3⟩ := H
  have hu := ub_rm0 ⟨h, by omega⟩ ⟨a, by omega⟩ ha
  have hok : akOk v (a : Int) = true := by unfold akOk; rw [h2.h]; simp; omega
  have hv : akV v (a : Int) = ackP v a v.n := by unfold akV; rw [hok]; rfl
  have hf : akF v (a : Int) f = ackF v a v.n f := by unfold akF; rw [hok]; rfl
  have hp : ∀ j, j < K → ((fun j => if j < c then 0 else ub h a) j = 2 ^ a ↔ c ≤ j ∧ a + 1 = h) := fun j hj => by
    show (if j < c then 0 else ub h a) = 2 ^ a ↔ c ≤ j ∧ a + 1 = h
    have := Nat.two_pow_pos a
    by_cases z : j < c
    · rw [if_pos z]; constructor
      · intro y; omega
      · intro y; omega
    · rw [if_neg z]
      have e := hu.2.2.2
      constructor
      · intro y; exact ⟨by omega, e.1 y⟩
      · intro y; exact e.2 y.2
  have hah : ¬ (a = h) := by omega
  have hr : akR v (a : Int) = if a + 1 = h then ((K - c : Nat) : Int) else 0 := by
    unfold akR; rw [hok]
    show ((ackN v a v.n : Nat) : Int) = _
    by_cases z : a + 1 = h
    · rw [if_pos z, h2.hitHi hc fun j hj => by rw [hp j hj]; simp [z]]
    · rw [if_neg z, h2.noHit fun j hj y => z ((hp j hj).1 y).2]; rfl
  refine (l_Ack _ _ _ _ _ _ _ _ h1 _ _ _ _ hr hv hf).mono ?_
  rintro r w' ⟨rfl, F', hl, -⟩
  refine ⟨rfl, F', _, _, hl, (h2.ack h1.ok a (by omega)).congr (fun j hj => ?_) (fun j hj _ => ?_), (h3.ack h2 a).congr fun j hj => ?_⟩
  · show (if j < c then 0 else ub h (a + 1)) = rm a (if j < c then 0 else ub h a)
    split
    · exact (rm_0 a).symm
    · exact hu.1.symm
  · simp only [hp j hj, hah, decide_false, Bool.or_false]
    rw [Bool.eq_iff_iff]; simp; omega
  · simp only [hp j hj, hah, decide_false, Bool.not_false, Bool.and_true]
    rw [Bool.eq_iff_iff]; simp; omega
theorem J6.cntA (H : J6 W wr b p q K h c M h) (h0 : 0 < h) (h8 : h ≤ 8) : Calls Try.prog 25 #[.pointer (some ⟨p, 0, none⟩), .int .i64 0] wr fun r w' => r = .returned (.int .i64 (K : Int)) ∧ w' = wr := by
  obtain ⟨F, v, f, h1, h2, h3⟩ := H
  have hu := (ub_8 ⟨h, by omega⟩ h0).2.2.2
  refine l_Count _ _ _ _ _ _ _ _ h1 0 K ?_
  rw [h2.n]
  refine cnt_lo (Nat.le_refl _) fun j hj => ?_
  have := h2.o j hj (show (if j < c then 0 else ub h h) = 0 by rw [hu]; split <;> rfl)
  simp at this
  simp [hj, this]
theorem J6.new {a : Nat} (H : J6 W wr b p q K h c M a) : Below W.heap.size W wr := by obtain ⟨F, v, f, h1, _⟩ := H; exact h1.new
end
set_option maxHeartbeats 8000000 in
theorem w_FrameMany (W : World) (n : Int) (n0 : -9223372036854775808 ≤ n) (n1 : n ≤ 9223372036854775807) (hs : Int) (s0 : -9223372036854775808 ≤ hs) (s1 : hs ≤ 9223372036854775807) (fi : Int) (f0 : -9223372036854775808 ≤ fi) (f1 : fi ≤ 9223372036854775807) (mk : Int) (k0 : 0 ≤ mk) (k1 : mk < 18446744073709551616) :
    Calls Try.prog 6 #[.int .i64 n, .int .i64 hs, .int .i64 fi, .int .u64 mk] W fun e w' => e = .returned (.bool true) ∧ Below W.heap.size W w' := by
  obtain ⟨z, hz, hz8⟩ : ∃ z : Nat, n % 8 = (z : Int) ∧ z < 8 := ⟨(n % 8).toNat, by omega, by omega⟩
  obtain ⟨y, hy, hy8⟩ : ∃ y : Nat, hs % 8 = (y : Int) ∧ y < 8 := ⟨(hs % 8).toNat, by omega, by omega⟩
  obtain ⟨x, hx, hxz⟩ : ∃ x : Nat, fi % (2 + (z : Int) - 1) = (x : Int) ∧ x ≤ z := ⟨(fi % (2 + (z : Int) - 1)).toNat, by have := Int.emod_nonneg fi (show 2 + (z : Int) - 1 ≠ 0 by omega); omega, by have := Int.emod_lt_of_pos fi (show 0 < 2 + (z : Int) - 1 by omega); omega⟩
  obtain ⟨M, hM, hM0, hM1⟩ := or_one mk k0 k1
  have HZ := hid hz
  have HY := hid hy
  have HXX := hid hx
  clear hz hy hx
  have T0 : Hid True := hid trivial
  have T1 : Hid True := hid trivial
  go_enter Try.func6, Try.ntmps6
  go_wp2_with (first
    | (go_at_call 8; have t := T0; clear t T0; refine (c_Place n 8 (by decide) (by decide) n0 n1 _).mono ?_; rw [HZ.out]; rintro r wz ⟨rfl, hwz⟩; obtain rfl := hwz.symm)
    | (go_at_call 8; have t := T1; clear t T1; refine (c_Place hs 8 (by decide) (by decide) s0 s1 _).mono ?_; rw [HY.out]; rintro r wz ⟨rfl, hwz⟩; obtain rfl := hwz.symm)
    | (go_at_call 9; refine (l_Mem W (2 + z) (by omega) (by omega) _ (by omega)).mono ?_; rintro r w1 ⟨m, q, U, rfl, ht, hb, hu⟩; have HT := hid ht; have HB := hid hb; have HU := hid hu; clear ht hb hu)
    | (go_at_call 10; refine (l_New W W w1 (2 + z) 0 (1 + y) m q U _ (Below.refl _ _) HT.out HB.out HU.out (by omega) (by omega) (by omega) 0 _ rfl (by omega)).mono ?_; rintro r w2 ⟨p, F, rfl, hl⟩; have HL := hid hl; clear hl))
  obtain ⟨b, hb⟩ : ∃ b, b = w1.heap.size := ⟨_, rfl⟩
  rw [← hb] at HL ⊢
  have H1 : Hid (J1 W w2 b p q (2 + z) (1 + y) M 0) := ⟨F, _, _, HL.out, v0_ss m (1 + y) (2 + z), vl_0 _ _⟩
  clear hb HT HB HU HL
  go_loopw [15] (fun i wr => ∃ (j : Nat), j ≤ 2 + z ∧ i = .int .i64 j ∧ Hid (J1 W wr b p q (2 + z) (1 + y) M j)) (fun i _ => 2 + z - (intOf i).toNat)
  case atStart => exact ⟨0, by omega, rfl, H1⟩
  case round =>
    clear H1
    obtain ⟨j, hj, rfl, hp⟩ := hrel
    by_cases hlt : j < 2 + z
    · have hT := hp.out.take hlt (x := 1 + (j : Int) % 8) (by simp [may]; omega)
      have hW : Hid (IntKind.u64.wrap ((j : Int) * 4096) = 4096 * (j : Int)) := by show _ = _; rw [IntKind.wrap_u64]; omega
      clear hp
      go_wp2_with (first
        | (go_at_call 13; refine hT.mono ?_; rintro r w3 ⟨rfl, F3, v3, f3, m3, g1, g2, g3, rfl, g5⟩; have G1 := hid g1; have G2 := hid g2; have G3 := hid g3; clear g1 g2 g3)
        | (go_at_call 28; refine (J1.write (i := j) hM0 hM1 G1.out G2.out G3.out hlt _ (by first | omega | exact hW.out)).mono ?_; rintro r w4 ⟨rfl, hl⟩; have HL4 := hid hl; clear hl))
      go_roundw
      case rel => exact ⟨j + 1, by omega, by go_num, HL4⟩
      case measure => first | (simp [intOf]; done) | (simp [intOf]; omega)
    · obtain rfl : j = 2 + z := by omega
      have H2 := hid (hp.out.to2)
      clear hp
      go_wp2_with (go_at_call 8; refine (c_Place fi (2 + (z : Int) - 1) (by omega) (by omega) f0 f1 _).mono ?_; rw [HXX.out]; rintro r wz ⟨rfl, hwz⟩; obtain rfl := hwz.symm)
      go_loopw [19] (fun i wr => ∃ (j : Nat), j ≤ 1 + x ∧ i = .int .i64 j ∧ Hid (J2 W wr b p q (2 + z) (1 + y) M j)) (fun i _ => 1 + x - (intOf i).toNat)
      case atStart => exact ⟨0, by omega, rfl, H2⟩
      case round =>
        clear H2
        obtain ⟨j, hj, rfl, hp⟩ := hrel
        by_cases hlt : j < 1 + x
        · have hT := hp.out.rel (show j < 2 + z by omega)
          have T5 : Hid True := hid trivial
          clear hp
          go_wp2_with (first
            | (go_at_call 15; have t := T5; clear t T5; refine hT.mono ?_; rintro r w3 ⟨rfl, hl⟩; have HL3 := hid hl; clear hl)
            | (go_at_call 15; refine (HL3.out.relNo (show j < 2 + z by omega)).mono ?_; rintro r w4 ⟨rfl, hl⟩; have HL4 := hid hl; clear hl))
          go_roundw
          case rel => exact ⟨j + 1, by omega, by go_num, HL4⟩
          case measure => first | (simp [intOf]; done) | (simp [intOf]; omega)
        · obtain rfl : j = 1 + x := by omega
          have H3 := hid (hp.out.to3 (by omega) (by omega))
          clear hp
          go_wp2_with fail
          go_loopw [20] (fun i wr => ∃ (a : Nat), a ≤ 1 + y ∧ i = .int .i64 a ∧ Hid (J3 W wr b p q (2 + z) (1 + y) (1 + x) M a)) (fun i _ => 1 + y - (intOf i).toNat)
          case atStart => exact ⟨0, by omega, rfl, H3⟩
          case round =>
            clear H3
            obtain ⟨a, ha, rfl, hp⟩ := hrel
            by_cases hlt : a < 1 + y
            · have hT := hp.out.ack (by omega) hlt
              clear hp
              go_wp2_with (go_at_call 17; refine hT.mono ?_; rintro r w3 ⟨rfl, hl⟩; have HL3 := hid hl; clear hl)
              go_roundw
              case rel => first | exact ⟨a + 1, by omega, by go_num, HL3⟩ | (refine ⟨_, _, _, _, _, _, _, _, _, _, _, ⟨a + 1, by omega, ?_, HL3⟩, rfl⟩; go_num)
              case measure => first | (simp [intOf]; done) | (simp [intOf]; omega)
            · obtain rfl : a = 1 + y := by omega
              have H4 := hid (hp.out.to4 (by omega) (by omega))
              clear hp
              go_wp2_with fail
              go_loopw [21] (fun i wr => ∃ (j : Nat), 1 + x ≤ j ∧ j ≤ 2 + z ∧ i = .int .i64 j ∧ Hid (J4 W wr b p q (2 + z) (1 + y) (1 + x) M j)) (fun i _ => 2 + z - (intOf i).toNat)
              case atStart => exact ⟨1 + x, by omega, by omega, by go_num, H4⟩
              case round =>
                clear H4
                obtain ⟨j, hj0, hj, rfl, hp⟩ := hrel
                by_cases hlt : j < 2 + z
                · have hT := hp.out.rel hj0 hlt
                  clear hp
                  go_wp2_with (go_at_call 15; refine hT.mono ?_; rintro r w3 ⟨rfl, hl⟩; have HL3 := hid hl; clear hl)
                  go_roundw
                  case rel => first | exact ⟨j + 1, by omega, by omega, by go_num, HL3⟩ | (refine ⟨_, _, _, _, _, _, _, _, _, _, _, ⟨j + 1, by omega, by omega, ?_, HL3⟩, rfl⟩; go_num)
                  case measure => first | (simp [intOf]; done) | (simp [intOf]; omega)
                · obtain rfl : j = 2 + z := by omega
                  have hT := hp.out.dev (by omega) (by omega) (show 1 + x ≤ 2 + z by omega)
                  have hD : Hid ((((2 + z) - (1 + x) : Nat) : Int) = 2 + (z : Int) - (1 + (x : Int))) := by show _ = _; omega
                  have T6 : Hid True := hid trivial
                  clear hp
                  go_wp2_with (first
                    | (go_at_call 19; refine hT.mono ?_; rintro r w3 ⟨rfl, hl⟩; have HL3 := hid hl; clear hl)
                    | (go_at_call 25; have t := T6; clear t T6; refine (HL3.out.cnt0 (by omega) (by omega) (by omega)).mono ?_; rintro r w4 ⟨rfl, hw⟩; obtain rfl := hw.symm)
                    | (go_at_call 25; refine (HL3.out.cntL (by omega) (by omega) (by omega)).mono ?_; rw [hD.out]; rintro r w5 ⟨rfl, hw⟩; obtain rfl := hw.symm))
                  go_loopw [22] (fun i wr => ∃ (j : Nat), j ≤ 2 + z ∧ i = .int .i64 j ∧ Hid (J6 W wr b p q (2 + z) (1 + y) (1 + x) M 0)) (fun i _ => 2 + z - (intOf i).toNat)
                  case atStart => exact ⟨0, by omega, rfl, HL3⟩
                  case round =>
                    clear HL3
                    obtain ⟨j, hj, rfl, hp⟩ := hrel
                    by_cases hlt : j < 2 + z
                    · obtain ⟨mm, hc, hT⟩ := hp.out.read hM0 (by omega) hlt
                      have hW : Hid (IntKind.u64.wrap ((j : Int) * 4096) = 4096 * (j : Int)) := by show _ = _; rw [IntKind.wrap_u64]; omega
                      clear hp
                      by_cases hjx : j < 1 + x
                      · rw [if_pos hjx] at hT
                        have d1 : decide ((j : Int) < 1 + (x : Int)) = true := by simp; omega
                        go_wp2_with (go_at_call 29; refine (hT _ (by first | omega | exact hW.out)).mono ?_; rintro r w4 ⟨rfl, hl⟩; have HL4 := hid hl; clear hl)
                        go_roundw
                        case rel => exact ⟨j + 1, by omega, by go_num, HL4⟩
                        case measure => first | (simp [intOf]; done) | (simp [intOf]; omega)
                      · rw [if_neg hjx] at hT
                        have hMz : (M == 0) = false := by simp; omega
                        have d1 : decide ((j : Int) < 1 + (x : Int)) = false := by simp; omega
                        go_wp2_with (go_at_call 29; refine (hT _ (by first | omega | exact hW.out)).mono ?_; rintro r w4 ⟨rfl, hl⟩; have HL4 := hid hl; clear hl)
                        go_roundw
                        case rel => exact ⟨j + 1, by omega, by go_num, HL4⟩
                        case measure => first | (simp [intOf]; done) | (simp [intOf]; omega)
                    · obtain rfl : j = 2 + z := by omega
                      go_wp2_with fail
                      go_loopw [25] (fun i wr => ∃ (a : Nat), a ≤ 1 + y ∧ i = .int .i64 a ∧ Hid (J6 W wr b p q (2 + z) (1 + y) (1 + x) M a)) (fun i _ => 1 + y - (intOf i).toNat)
                      case atStart => exact ⟨0, by omega, rfl, hp⟩
                      case round =>
                        clear hp
                        obtain ⟨a, ha, rfl, hp⟩ := hrel
                        by_cases hlt : a < 1 + y
                        · have hT := hp.out.ack (by omega) (show 1 + x ≤ 2 + z by omega) hlt
                          clear hp
                          by_cases hay : a + 1 = 1 + y
                          · rw [if_pos hay, hD.out] at hT
                            obtain rfl : a = y := by omega
                            clear hay
                            go_wp2_with (go_at_call 17; refine hT.mono ?_; rintro r w3 ⟨rfl, hl⟩; have HL3 := hid hl; clear hl)
                            go_roundw
                            case rel => first | exact ⟨a + 1, by omega, by go_num, HL3⟩ | (refine ⟨_, _, _, _, _, _, _, _, _, _, _, _, _, _, _, _, _, _, _, _, ⟨a + 1, by omega, ?_, HL3⟩, rfl⟩; go_num)
                            case measure => first | (simp [intOf]; done) | (simp [intOf]; omega)
                          · rw [if_neg hay] at hT
                            have hay2 : ¬ ((a : Int) = 1 + (y : Int) - 1) := by omega
                            have hay3 : ¬ ((a : Int) = (y : Int)) := by omega
                            go_wp2_with (go_at_call 17; refine hT.mono ?_; rintro r w3 ⟨rfl, hl⟩; have HL3 := hid hl; clear hl)
                            go_roundw
                            case rel => first | exact ⟨a + 1, by omega, by go_num, HL3⟩ | (refine ⟨_, _, _, _, _, _, _, _, _, _, _, _, _, _, _, _, _, _, _, _, ⟨a + 1, by omega, ?_, HL3⟩, rfl⟩; go_num)
                            case measure => first | (simp [intOf]; done) | (simp [intOf]; omega)
                        · obtain rfl : a = 1 + y := by omega
                          have hC := hp.out.cntA (by omega) (by omega)
                          have hCz : Hid (((2 + z : Nat) : Int) = 2 + (z : Int)) := by show _ = _; omega
                          rw [hCz.out] at hC
                          go_wp2_with (first
                            | (go_at_call 25; refine hC.mono ?_; rintro r w4 ⟨rfl, hw⟩; obtain rfl := hw.symm)
                            | (go_at_call 12; refine (l_awake9 _).mono ?_; rintro r w5 ⟨rfl, hb⟩; have HB3 := hid hb; clear hb))
                          go_ret
                          exact ⟨rfl, hp.out.new.trans (HB3.out.mono hp.out.new.size)⟩
end Go.Proofs.Ytehghhonhfmieaa
