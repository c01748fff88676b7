/- States of a pool by what its frames wait for: what calls do to them. Nothing here walks. -/
import Derived.Test.YtehghhonhfmieaaFCN
import Derived.Test.YtehghhonhfmieaaMC2
namespace Go.Proofs.Ytehghhonhfmieaa
open Go.RowKit
open C (Only hid Mem RMem Still ret_bool ret_int put byt nu TB Tw Cl fcl c_Place)
set_option linter.unusedVariables false
set_option maxRecDepth 100000

/-- bits a to h - 1 -/
def ub (h a : Nat) : Nat := 2 ^ h - 2 ^ a
theorem ub_rm0 : ∀ h a : Fin 9, (a : Nat) < h → rm a (ub h a) = ub h (a + 1) ∧ rm a (ub h a + 256) = ub h (a + 1) + 256 ∧ ub h a + 256 ≠ 2 ^ (a : Nat) ∧ (ub h a = 2 ^ (a : Nat) ↔ (a : Nat) + 1 = h) := by decide +kernel
theorem ub_8 : ∀ h : Fin 9, 0 < (h : Nat) → rm 8 (msk h) = ub h 0 ∧ msk h = ub h 0 + 256 ∧ msk h ≠ 2 ^ 8 ∧ ub h h = 0 := by decide +kernel
theorem ub_pos : ∀ h a : Fin 9, (a : Nat) < h → ub h a ≠ 0 := by decide +kernel
structure SS (v : PV) (K h : Nat) (p : Nat → Nat) (e : Nat → Bool) : Prop where
  n : v.n = K
  h : v.h = h
  r : v.r = 0
  s : ∀ j, j < K → v.s j = p j
  o : ∀ j, j < K → p j = 0 → (bif e j then v.o j = 0 else may (v.o j) = true)
theorem SS.congr {v : PV} {K h : Nat} {p p' : Nat → Nat} {e e' : Nat → Bool} (H : SS v K h p e) (h1 : ∀ j, j < K → p' j = p j) (h2 : ∀ j, j < K → p j = 0 → e' j = e j) : SS v K h p' e' :=
  ⟨H.n, H.h, H.r, fun j hj => (H.s j hj).trans (h1 j hj).symm, fun j hj hp => by rw [h1 j hj] at hp; rw [h2 j hj hp]; exact H.o j hj hp⟩
theorem SS.rel {v : PV} {K h : Nat} {p : Nat → Nat} {e : Nat → Bool} (H : SS v K h p e) {i : Nat} (hi : i < K) (hp : p i = 0) (he : e i = false) : ∃ v', rl v (i : Int) = (0, v') ∧ SS v' K h (upd p i (msk h)) e := by
  have ho := H.o i hi hp
  rw [he] at ho
  have hok : rlOk v (i : Int) = true := by
    unfold rlOk
    rw [H.n, H.r]
    simp [hi]
    exact ho
  refine ⟨(rl v (i : Int)).2, ?_, ?_⟩
  · unfold rl; rw [hok]; rfl
  · unfold rl; rw [hok]
    refine ⟨H.n, H.h, H.r, fun j hj => ?_, fun j hj hq => ?_⟩
    · show upd v.s i (msk v.h) j = upd p i (msk h) j
      unfold upd; split
      · rw [H.h]
      · exact H.s j hj
    · have hne : j ≠ i := fun z => by subst z; rw [upd_same] at hq; exact msk_pos _ hq
      rw [upd_other _ _ _ _ hne] at hq
      show bif e j then upd v.o i (-2) j = 0 else may (upd v.o i (-2) j) = true
      rw [upd_other _ _ _ _ hne]
      exact H.o j hj hq
theorem SS.relNo {v : PV} {K h : Nat} {p : Nat → Nat} {e : Nat → Bool} (H : SS v K h p e) (ok : v.Ok) {i : Nat} (hi : i < K) (hp : p i ≠ 0) : rl v (i : Int) = (11, v) := by
  have hs := H.s i hi
  have ho := (ok.li i).2 (by rw [hs]; exact hp)
  have : rlOk v (i : Int) = false := by
    unfold rlOk
    simp only [Int.toNat_natCast, ho]
    simp [may]
  unfold rl; rw [this]; rfl
theorem SS.ack {v : PV} {K h : Nat} {p : Nat → Nat} {e : Nat → Bool} (H : SS v K h p e) (ok : v.Ok) (k : Nat) (hk : k < 9) : SS (ackP v k v.n) K h (fun j => rm k (p j)) (fun j => e j || decide (p j = 2 ^ k)) := by
  refine ⟨H.n, H.h, H.r, fun j hj => ?_, fun j hj hq => ?_⟩
  · show (bif decide (j < v.n) then rm k (v.s j) else v.s j) = _
    rw [H.n, H.s j hj]; simp [hj]
  · have hs := H.s j hj
    have hl : p j < 512 := by rw [← hs]; exact ok.sl j
    show bif e j || decide (p j = 2 ^ k) then (bif hit v k v.n j then 0 else v.o j) = 0 else may (bif hit v k v.n j then 0 else v.o j) = true
    unfold hit
    rw [H.n, hs]
    simp only [hj, decide_true, Bool.true_and]
    rcases (rm_zero hl hk).1 hq with z | z
    · have : ¬ p j = 2 ^ k := by rw [z]; have := Nat.two_pow_pos k; omega
      simp only [this, decide_false, Bool.or_false, cond_false]
      exact H.o j hj z
    · simp [z]
theorem SS.noHit {v : PV} {K h : Nat} {p : Nat → Nat} {e : Nat → Bool} (H : SS v K h p e) {k : Nat} (hn : ∀ j, j < K → p j ≠ 2 ^ k) : ackN v k v.n = 0 := by
  rw [H.n]
  have : ∀ i, i ≤ K → ackN v k i = 0 := fun i => by
    induction i with
    | zero => intro; rfl
    | succ i ih =>
      intro hi
      unfold ackN
      rw [H.s i (by omega)]
      simp [hn i (by omega), ih (by omega)]
  exact this K (Nat.le_refl _)
theorem SS.hitLo {v : PV} {K h c : Nat} {p : Nat → Nat} {e : Nat → Bool} (H : SS v K h p e) {k : Nat} (hc : c ≤ K) (hn : ∀ j, j < K → (p j = 2 ^ k ↔ j < c)) : ackN v k v.n = c := by
  rw [H.n]
  have : ∀ i, i ≤ K → ackN v k i = min i c := fun i => by
    induction i with
    | zero => intro; simp [ackN]
    | succ i ih =>
      intro hi
      unfold ackN
      rw [H.s i (by omega), ih (by omega)]
      by_cases q : i < c
      · simp [(hn i (by omega)).2 q]; omega
      · have : ¬ p i = 2 ^ k := fun z => q ((hn i (by omega)).1 z)
        simp [this]; omega
  rw [this K (Nat.le_refl _)]; omega
theorem SS.hitHi {v : PV} {K h c : Nat} {p : Nat → Nat} {e : Nat → Bool} (H : SS v K h p e) {k : Nat} (hc : c ≤ K) (hn : ∀ j, j < K → (p j = 2 ^ k ↔ c ≤ j)) : ackN v k v.n = K - c := by
  rw [H.n]
  have : ∀ i, i ≤ K → ackN v k i = i - c := fun i => by
    induction i with
    | zero => intro; simp [ackN]
    | succ i ih =>
      intro hi
      unfold ackN
      rw [H.s i (by omega), ih (by omega)]
      by_cases q : c ≤ i
      · simp [(hn i (by omega)).2 q]; omega
      · have : ¬ p i = 2 ^ k := fun z => q ((hn i (by omega)).1 z)
        simp [this]; omega
  exact this K (Nat.le_refl _)
theorem cnt_lo {o : Nat → Int} {x : Int} {K c : Nat} (hc : c ≤ K) (hn : ∀ j, j < K → (o j = x ↔ j < c)) : cnt o x K = c := by
  have : ∀ i, i ≤ K → cnt o x i = min i c := fun i => by
    induction i with
    | zero => intro; simp [cnt]
    | succ i ih =>
      intro hi
      rw [cnt_succ, ih (by omega)]
      by_cases q : i < c
      · simp [(hn i (by omega)).2 q]; omega
      · have : ¬ o i = x := fun z => q ((hn i (by omega)).1 z)
        simp [this]; omega
  rw [this K (Nat.le_refl _)]; omega
theorem cnt_hi {o : Nat → Int} {x : Int} {K c : Nat} (hc : c ≤ K) (hn : ∀ j, j < K → (o j = x ↔ c ≤ j)) : cnt o x K = K - c := by
  have : ∀ i, i ≤ K → cnt o x i = i - c := fun i => by
    induction i with
    | zero => intro; simp [cnt]
    | succ i ih =>
      intro hi
      rw [cnt_succ, ih (by omega)]
      by_cases q : c ≤ i
      · simp [(hn i (by omega)).2 q]; omega
      · have : ¬ o i = x := fun z => q ((hn i (by omega)).1 z)
        simp [this]; omega
  exact this K (Nat.le_refl _)
theorem SS.take {v : PV} {K h i : Nat} {p : Nat → Nat} (H : SS v K h p (fun j => decide (i ≤ j))) (hp : ∀ j, j < K → p j = 0) (hi : i < K) {x : Int} (hx : may x = true) : ∃ v', tk v x = ((i : Int), 0, v') ∧ SS v' K h p (fun j => decide (i + 1 ≤ j)) := by
  have h0 : v.o i = 0 := by have := H.o i hi (hp i hi); simpa using this
  have h1 : ∀ j, j < i → v.o j ≠ 0 := fun j hj z => by
    have := H.o j (by omega) (hp j (by omega))
    rw [show decide (i ≤ j) = false by simp; omega, z] at this
    cases this
  have h2 : ff v.o v.n = i := ff_eq (by rw [H.n]; exact hi) h0 h1
  refine ⟨v.own i x, ?_, H.n, H.h, H.r, H.s, fun j hj hq => ?_⟩
  · unfold tk; rw [hx, h2, H.n]; simp [hi]
  · show bif decide (i + 1 ≤ j) then upd v.o i x j = 0 else may (upd v.o i x j) = true
    by_cases z : j = i
    · subst z; rw [upd_same, show decide (j + 1 ≤ j) = false by simp]; exact hx
    · rw [upd_other _ _ _ _ z, show decide (i + 1 ≤ j) = decide (i ≤ j) by rw [Bool.eq_iff_iff]; simp; omega]
      exact H.o j hj hq
/-- the number at the beginning of a frame -/
def vl (f : Nat → Int) (j : Nat) : Int := nu (fun t => f (4096 * j + t)) 8
structure MM (f : Nat → Int) (K : Nat) (M : Int) (g : Nat → Bool) : Prop where
  v : ∀ j, j < K → vl f j = bif g j then M else 0
theorem vl_ack (v : PV) (k n : Nat) (f : Nat → Int) (j : Nat) : vl (ackF v k n f) j = bif hit v k n j then 0 else vl f j := by
  unfold vl
  cases z : hit v k n j
  · refine C.nu_congr 8 fun t ht => ?_
    unfold ackF
    rw [show (4096 * j + t) / 4096 = j by omega, z]; rfl
  · rw [C.nu_congr (c := fun _ => 0) 8 fun t ht => ?_]
    · rfl
    · unfold ackF
      rw [show (4096 * j + t) / 4096 = j by omega, z]; rfl
theorem MM.ack {f : Nat → Int} {K : Nat} {M : Int} {g : Nat → Bool} (H : MM f K M g) {v : PV} {h : Nat} {p : Nat → Nat} {e : Nat → Bool} (S : SS v K h p e) (k : Nat) : MM (ackF v k v.n f) K M (fun j => g j && !decide (p j = 2 ^ k)) :=
  ⟨fun j hj => by
    rw [vl_ack, H.v j hj]
    unfold hit
    rw [S.n, S.s j hj]
    by_cases z : p j = 2 ^ k
    · simp [hj, z]
    · simp [z]⟩
theorem MM.congr {f : Nat → Int} {K : Nat} {M : Int} {g g' : Nat → Bool} (H : MM f K M g) (h : ∀ j, j < K → g' j = g j) : MM f K M g' := ⟨fun j hj => by rw [h j hj]; exact H.v j hj⟩
theorem MM.write {f : Nat → Int} {K : Nat} {M : Int} {g : Nat → Bool} (H : MM f K M g) (m0 : 0 ≤ M) (m1 : M < 18446744073709551616) (i : Nat) : MM (put f (4096 * i) 8 (byt M)) K M (upd g i true) :=
  ⟨fun j hj => by
    by_cases z : j = i
    · subst z
      rw [upd_same]
      unfold vl
      rw [C.nu_congr (c := byt M) 8 (fun t ht => C.put_in f (4096 * j) 8 (byt M) t ht), C.nu_byt M m0 8]
      show M % 256 ^ 8 = M
      omega
    · rw [upd_other _ _ _ _ z, ← H.v j hj]
      exact C.nu_congr 8 fun t ht => C.put_out _ _ _ _ _ (by omega)⟩
theorem or_one (x : Int) (h0 : 0 ≤ x) (h1 : x < 18446744073709551616) : ∃ M : Int, bits .or .u64 x 1 = M ∧ 0 < M ∧ M < 18446744073709551616 := by
  obtain ⟨n, rfl⟩ := Int.eq_ofNat_of_zero_le h0
  have e := bits_or_u64_nat n 1 (by omega) (by decide)
  have h2 : 0 < n ||| 1 := by
    rcases Nat.eq_zero_or_pos (n ||| 1) with z | z
    · have := (Nat.or_eq_zero_iff.1 z).2
      omega
    · exact z
  have h3 : n ||| 1 < 2 ^ 64 := Nat.or_lt_two_pow (by omega) (by decide)
  exact ⟨((n ||| 1 : Nat) : Int), e, by omega, by omega⟩
end Go.Proofs.Ytehghhonhfmieaa
