/- States of a pool by what its frames wait for: what calls do to them. Nothing here walks. -/
import Derived.Test.YtehghhonhfmieaaFCN
import Derived.Test.YtehghhonhfmieaaMC2
import Derived.Test.YtehghhonhfmieaaCQF
import Derived.Test.YtehghhonhfmieaaMH2
namespace Go.Proofs.Ytehghhonhfmieaa
open Go.RowKit
open C (Only hid Mem RMem Still ret_bool ret_int put byt nu TB Tw Cl fcl c_Place)
set_option linter.unusedVariables false
set_option maxRecDepth 100000

/-- bits a to h - 1 -/
def ub (h a : Nat) : Nat := 2 ^ h - 2 ^ a
theorem ub_rm0 : ∀ h a : Fin 9, (a : Nat) < h → rm a (ub h a) = ub h (a + 1) ∧ rm a (ub h a + 256) = ub h (a + 1) + 256 ∧ ub h a + 256 ≠ 2 ^ (a : Nat) ∧ (ub h a = 2 ^ (a : Nat) ↔ (a : Nat) + 1 = h) := by decide +kernel
theorem ub_8 : ∀ h : Fin 9, 0 < (h : Nat) → rm 8 (msk h) = ub h 0 ∧ msk h = ub h 0 + 256 ∧ msk h ≠ 2 ^ 8 ∧ ub h h = 0 := by decide +kernel
theorem ub_pos : ∀ h a : Fin 9, (a : Nat) < h → ub h a ≠ 0 := by decide +kernel
structure SS (v : PV) (K h : Nat) (p : Nat → Nat) (e : Nat → Bool) : Prop where
  n : v.n = K
  h : v.h = h
  r : v.r = 0
  s : ∀ j, j < K → v.s j = p j
  o : ∀ j, j < K → p j = 0 → (bif e j then v.o j = 0 else may (v.o j) = true)
theorem SS.congr {v : PV} {K h : Nat} {p p' : Nat → Nat} {e e' : Nat → Bool} (H : SS v K h p e) (h1 : ∀ j, j < K → p' j = p j) (h2 : ∀ j, j < K → p j = 0 → e' j = e j) : SS v K h p' e' :=
  ⟨H.n, H.h, H.r, fun j hj => (H.s j hj).trans (h1 j hj).symm, fun j hj hp => by rw [h1 j hj] at hp; rw [h2 j hj hp]; exact H.o j hj hp⟩
theorem SS.rel {v : PV} {K h : Nat} {p : Nat → Nat} {e : Nat → Bool} (H : SS v K h p e) {i : Nat} (hi : i < K) (hp : p i = 0) (he : e i = false) : ∃ v', rl v (i : Int) = (0, v') ∧ SS v' K h (upd p i (msk h)) e := by
  have ho := H.o i hi hp
  rw [he] at ho
  have hok : rlOk v (i : Int) = true := by
    unfold rlOk
    rw [H.n, H.r]
    simp [hi]
    exact ho
  refine ⟨(rl v (i : Int)).2, ?_, ?_⟩
  · unfold rl; rw [hok]; rfl
  · unfold rl; rw [hok]
    refine ⟨H.n, H.h, H.r, fun j hj => ?_, fun j hj hq => ?_⟩
    · show upd v.s i (msk v.h) j = upd p i (msk h) j
      unfold upd; split
      · rw [H.h]
      · exact H.s j hj
    · have hne : j ≠ i := fun z => by subst z; rw [upd_same] at hq; exact msk_pos _ hq
      rw [upd_other _ _ _ _ hne] at hq
      show bif e j then upd v.o i (-2) j = 0 else may (upd v.o i (-2) j) = true
      rw [upd_other _ _ _ _ hne]
      exact H.o j hj hq
theorem SS.relNo {v : PV} {K h : Nat} {p : Nat → Nat} {e : Nat → Bool} (H : SS v K h p e) (ok : v.Ok) {i : Nat} (hi : i < K) (hp : p i ≠ 0) : rl v (i : Int) = (11, v) := by
  have hs := H.s i hi
  have ho := (ok.li i).2 (by rw [hs]; exact hp)
  have : rlOk v (i : Int) = false := by
    unfold rlOk
    simp only [Int.toNat_natCast, ho]
    simp [may]
  unfold rl; rw [this]; rfl
theorem SS.ack {v : PV} {K h : Nat} {p : Nat → Nat} {e : Nat → Bool} (H : SS v K h p e) (ok : v.Ok) (k : Nat) (hk : k < 9) : SS (ackP v k v.n) K h (fun j => rm k (p j)) (fun j => e j || decide (p j = 2 ^ k)) := by
  refine ⟨H.n, H.h, H.r, fun j hj => ?_, fun j hj hq => ?_⟩
  · show (bif decide (j < v.n) then rm k (v.s j) else v.s j) = _
    rw [H.n, H.s j hj]; simp [hj]
  · have hs := H.s j hj
    have hl : p j < 512 := by rw [← hs]; exact ok.sl j
    show bif e j || decide (p j = 2 ^ k) then (bif hit v k v.n j then 0 else v.o j) = 0 else may (bif hit v k v.n j then 0 else v.o j) = true
    unfold hit
    rw [H.n, hs]
    simp only [hj, decide_true, Bool.true_and]
    rcases (rm_zero hl hk).1 hq with z | z
    · have : ¬ p j = 2 ^ k := by rw [z]; have := Nat.two_pow_pos k; omega
      simp only [this, decide_false, Bool.or_false, cond_false]
      exact H.o j hj z
    · simp [z]
theorem SS.noHit {v : PV} {K h : Nat} {p : Nat → Nat} {e : Nat → Bool} (H : SS v K h p e) {k : Nat} (hn : ∀ j, j < K → p j ≠ 2 ^ k) : ackN v k v.n = 0 := by
  rw [H.n]
  have : ∀ i, i ≤ K → ackN v k i = 0 := fun i => by
    induction i with
    | zero => intro; rfl
    | succ i ih =>
      intro hi
      unfold ackN
      rw [H.s i (by omega)]
      simp [hn i (by omega), ih (by omega)]
  exact this K (Nat.le_refl _)
theorem SS.hitLo {v : PV} {K h c : Nat} {p : Nat → Nat} {e : Nat → Bool} (H : SS v K h p e) {k : Nat} (hc : c ≤ K) (hn : ∀ j, j < K → (p j = 2 ^ k ↔ j < c)) : ackN v k v.n = c := by
  rw [H.n]
  have : ∀ i, i ≤ K → ackN v k i = min i c := fun i => by
    induction i with
    | zero => intro; simp [ackN]
    | succ i ih =>
      intro hi
      unfold ackN
      rw [H.s i (by omega), ih (by omega)]
      by_cases q : i < c
      · simp [(hn i (by omega)).2 q]; omega
      · have : ¬ p i = 2 ^ k := fun z => q ((hn i (by omega)).1 z)
        simp [this]; omega
  rw [this K (Nat.le_refl _)]; omega
theorem SS.hitHi {v : PV} {K h c : Nat} {p : Nat → Nat} {e : Nat → Bool} (H : SS v K h p e) {k : Nat} (hc : c ≤ K) (hn : ∀ j, j < K → (p j = 2 ^ k ↔ c ≤ j)) : ackN v k v.n = K - c := by
  rw [H.n]
  have : ∀ i, i ≤ K → ackN v k i = i - c := fun i => by
    induction i with
    | zero => intro; simp [ackN]
    | succ i ih =>
      intro hi
      unfold ackN
      rw [H.s i (by omega), ih (by omega)]
      by_cases q : c ≤ i
      · simp [(hn i (by omega)).2 q]; omega
      · have : ¬ p i = 2 ^ k := fun z => q ((hn i (by omega)).1 z)
        simp [this]; omega
  exact this K (Nat.le_refl _)
theorem cnt_lo {o : Nat → Int} {x : Int} {K c : Nat} (hc : c ≤ K) (hn : ∀ j, j < K → (o j = x ↔ j < c)) : cnt o x K = c := by
  have : ∀ i, i ≤ K → cnt o x i = min i c := fun i => by
    induction i with
    | zero => intro; simp [cnt]
    | succ i ih =>
      intro hi
      rw [cnt_succ, ih (by omega)]
      by_cases q : i < c
      · simp [(hn i (by omega)).2 q]; omega
      · have : ¬ o i = x := fun z => q ((hn i (by omega)).1 z)
        simp [this]; omega
  rw [this K (Nat.le_refl _)]; omega
theorem cnt_hi {o : Nat → Int} {x : Int} {K c : Nat} (hc : c ≤ K) (hn : ∀ j, j < K → (o j = x ↔ c ≤ j)) : cnt o x K = K - c := by
  have : ∀ i, i ≤ K → cnt o x i = i - c := fun i => by
    induction i with
    | zero => intro; simp [cnt]
    | succ i ih =>
      intro hi
      rw [cnt_succ, ih (by omega)]
      by_cases q : c ≤ i
      · simp [(hn i (by omega)).2 q]; omega
      · have : ¬ o i = x := fun z => q ((hn i (by omega)).1 z)
        simp [this]; omega
  exact this K (Nat.le_refl _)
theorem SS.take {v : PV} {K h i : Nat} {p : Nat → Nat} (H : SS v K h p (fun j => decide (i ≤ j))) (hp : ∀ j, j < K → p j = 0) (hi : i < K) {x : Int} (hx : may x = true) : ∃ v', tk v x = ((i : Int), 0, v') ∧ SS v' K h p (fun j => decide (i + 1 ≤ j)) := by
  have h0 : v.o i = 0 := by have := H.o i hi (hp i hi); simpa using this
  have h1 : ∀ j, j < i → v.o j ≠ 0 := fun j hj z => by
    have := H.o j (by omega) (hp j (by omega))
    rw [show decide (i ≤ j) = false by simp; omega, z] at this
    cases this
  have h2 : ff v.o v.n = i := ff_eq (by rw [H.n]; exact hi) h0 h1
  refine ⟨v.own i x, ?_, H.n, H.h, H.r, H.s, fun j hj hq => ?_⟩
  · unfold tk; rw [hx, h2, H.n]; simp [hi]
  · show bif decide (i + 1 ≤ j) then upd v.o i x j = 0 else may (upd v.o i x j) = true
    by_cases z : j = i
    · subst z; rw [upd_same, show decide (j + 1 ≤ j) = false by simp]; exact hx
    · rw [upd_other _ _ _ _ z, show decide (i + 1 ≤ j) = decide (i ≤ j) by rw [Bool.eq_iff_iff]; simp; omega]
      exact H.o j hj hq
/-- the number at the beginning of a frame -/
def vl (f : Nat → Int) (j : Nat) : Int := nu (fun t => f (4096 * j + t)) 8
structure MM (f : Nat → Int) (K : Nat) (M : Int) (g : Nat → Bool) : Prop where
  v : ∀ j, j < K → vl f j = bif g j then M else 0
theorem vl_ack (v : PV) (k n : Nat) (f : Nat → Int) (j : Nat) : vl (ackF v k n f) j = bif hit v k n j then 0 else vl f j := by
  unfold vl
  cases z : hit v k n j
  · refine C.nu_congr 8 fun t ht => ?_
    unfold ackF
    rw [show (4096 * j + t) / 4096 = j by omega, z]; rfl
  · rw [C.nu_congr (c := fun _ => 0) 8 fun t ht => ?_]
    · rfl
    · unfold ackF
      rw [show (4096 * j + t) / 4096 = j by omega, z]; rfl
theorem MM.ack {f : Nat → Int} {K : Nat} {M : Int} {g : Nat → Bool} (H : MM f K M g) {v : PV} {h : Nat} {p : Nat → Nat} {e : Nat → Bool} (S : SS v K h p e) (k : Nat) : MM (ackF v k v.n f) K M (fun j => g j && !decide (p j = 2 ^ k)) :=
  ⟨fun j hj => by
    rw [vl_ack, H.v j hj]
    unfold hit
    rw [S.n, S.s j hj]
    by_cases z : p j = 2 ^ k
    · simp [hj, z]
    · simp [z]⟩
theorem MM.congr {f : Nat → Int} {K : Nat} {M : Int} {g g' : Nat → Bool} (H : MM f K M g) (h : ∀ j, j < K → g' j = g j) : MM f K M g' := ⟨fun j hj => by rw [h j hj]; exact H.v j hj⟩
theorem MM.write {f : Nat → Int} {K : Nat} {M : Int} {g : Nat → Bool} (H : MM f K M g) (m0 : 0 ≤ M) (m1 : M < 18446744073709551616) (i : Nat) : MM (put f (4096 * i) 8 (byt M)) K M (upd g i true) :=
  ⟨fun j hj => by
    by_cases z : j = i
    · subst z
      rw [upd_same]
      unfold vl
      rw [C.nu_congr (c := byt M) 8 (fun t ht => C.put_in f (4096 * j) 8 (byt M) t ht), C.nu_byt M m0 8]
      show M % 256 ^ 8 = M
      omega
    · rw [upd_other _ _ _ _ z, ← H.v j hj]
      exact C.nu_congr 8 fun t ht => C.put_out _ _ _ _ _ (by omega)⟩
theorem or_one (x : Int) (h0 : 0 ≤ x) (h1 : x < 18446744073709551616) : ∃ M : Int, bits .or .u64 x 1 = M ∧ 0 < M ∧ M < 18446744073709551616 := by
  obtain ⟨n, rfl⟩ := Int.eq_ofNat_of_zero_le h0
  have e := bits_or_u64_nat n 1 (by omega) (by decide)
  have h2 : 0 < n ||| 1 := by
    rcases Nat.eq_zero_or_pos (n ||| 1) with z | z
    · have := (Nat.or_eq_zero_iff.1 z).2
      omega
    · exact z
  have h3 : n ||| 1 < 2 ^ 64 := Nat.or_lt_two_pow (by omega) (by decide)
  exact ⟨((n ||| 1 : Nat) : Int), e, by omega, by omega⟩
end Go.Proofs.Ytehghhonhfmieaa
namespace Go.Proofs.Ytehghhonhfmieaa
open Go.RowKit
open C (Only hid Mem RMem Still ret_bool ret_int put byt nu TB Tw Cl fcl c_Place)
set_option linter.unusedVariables false
set_option maxRecDepth 100000

/-- whether k has not acknowledged yet -/
def bq (h s k : Nat) : Bool := s / 2 ^ (ps h k) % 2 == 1
/-- how many of the first k have not -/
def pc (h s : Nat) : Nat → Nat
  | 0 => 0
  | k + 1 => pc h s k + (bif bq h s k then 1 else 0)
theorem bq_rm0 : ∀ s : Fin 512, ∀ a b : Fin 9, (rm a s / 2 ^ (b : Nat) % 2 == 1) = ((s : Nat) / 2 ^ (b : Nat) % 2 == 1 && decide (b ≠ a)) := by decide +kernel
theorem ps_inj {h j k : Nat} (h8 : h ≤ 8) (hj : j ≤ h) (hk : k ≤ h) (e : ps h j = ps h k) : j = k := by unfold ps at e; split at e <;> split at e <;> omega
theorem bq_msk0 : ∀ h : Fin 9, ∀ k : Fin 9, (k : Nat) ≤ h → bq h (msk h) k = true := by decide +kernel
theorem bq_one0 : ∀ h : Fin 9, ∀ k : Fin 9, (k : Nat) ≤ h → bq h (2 ^ ps h k) k = true := by decide +kernel
theorem bq_all0 : ∀ h : Fin 9, 0 < (h : Nat) → ∀ s : Fin 512, (s : Nat) &&& msk h = s → (∀ k : Fin 9, (k : Nat) ≤ h → bq h s k = false) → (s : Nat) = 0 := by decide +kernel
section
variable {h s k : Nat} (h0 : 0 < h) (h8 : h ≤ 8) (hs : s &&& msk h = s) (hk : k ≤ h)
include h8 hs in
theorem sl : s < 512 := in_mask h8 hs
include h8 hs hk in
theorem bq_rm (j : Nat) (hj : j ≤ h) : bq h (rm (ps h k) s) j = (bq h s j && decide (j ≠ k)) := by
  have := bq_rm0 ⟨s, in_mask h8 hs⟩ ⟨ps h k, ps_lt h k h8⟩ ⟨ps h j, ps_lt h j h8⟩
  unfold bq
  rw [this]
  congr 1
  rw [Bool.eq_iff_iff]
  simp [Fin.ext_iff]
  constructor
  · intro q e; exact q (by rw [e])
  · intro q e; exact q (ps_inj h8 hj hk e)
include h8 hk in
theorem bq_msk : bq h (msk h) k = true := bq_msk0 ⟨h, by omega⟩ ⟨k, by omega⟩ hk
include h0 h8 hs in
theorem bq_all (ha : ∀ k, k ≤ h → bq h s k = false) : s = 0 := bq_all0 ⟨h, by omega⟩ h0 ⟨s, in_mask h8 hs⟩ hs fun k hk => ha k hk
theorem bq_zero (h k : Nat) : bq h 0 k = false := by unfold bq; simp
theorem pc_le (h s : Nat) : ∀ n, pc h s n ≤ n
  | 0 => Nat.le_refl _
  | n + 1 => by have := pc_le h s n; unfold pc; cases bq h s n <;> simp <;> omega
theorem pc_zero_of (h : Nat) : ∀ n, pc h 0 n = 0
  | 0 => rfl
  | n + 1 => by unfold pc; rw [pc_zero_of h n, bq_zero]; rfl
theorem pc_zero : ∀ n, pc h s n = 0 → ∀ k, k < n → bq h s k = false
  | 0, _, k, hk => absurd hk (Nat.not_lt_zero _)
  | n + 1, e, k, hk => by
    unfold pc at e
    rcases Nat.lt_or_ge k n with q | q
    · exact pc_zero n (by omega) k q
    · obtain rfl : k = n := by omega
      cases z : bq h s k
      · rfl
      · rw [z] at e; simp at e
include h8 hs hk in
theorem pc_rm : ∀ n, n ≤ h + 1 → pc h (rm (ps h k) s) n = pc h s n - (bif bq h s k && decide (k < n) then 1 else 0)
  | 0, _ => by simp [pc]
  | n + 1, hn => by
    have ih := pc_rm n (by omega)
    have hb := bq_rm h8 hs hk n (by omega)
    unfold pc
    rw [ih, hb]
    rcases Nat.lt_trichotomy n k with q | q | q
    · simp [show n ≠ k by omega, show ¬ k < n by omega, show ¬ k < n + 1 by omega]
    · subst q
      cases bq h s n <;> simp
    · simp only [show n ≠ k by omega, show k < n by omega, show k < n + 1 by omega, decide_true, Bool.and_true, ne_eq, not_false_eq_true]
      cases z : bq h s k
      · simp
      · have : 0 < pc h s n := by
          rcases Nat.eq_zero_or_pos (pc h s n) with y | y
          · have := pc_zero n y k (by omega)
            rw [z] at this; cases this
          · exact y
        simp; omega
include h8 in
theorem pc_msk : ∀ n, n ≤ h + 1 → pc h (msk h) n = n
  | 0, _ => rfl
  | n + 1, hn => by
    unfold pc
    rw [pc_msk n (by omega), bq_msk h8 (show n ≤ h by omega)]; rfl
end
/-- who has acknowledged, as it stands -/
def dnc (h s : Nat) : List Value := (List.range 9).map fun k => .bool (decide (k ≤ h) && !(bq h s k))
theorem dnc_at (h s k : Nat) (hk : k ≤ h) (h8 : h ≤ 8) : (dnc h s).toArray[k]? = some (.bool (!(bq h s k))) := by
  have : k < 9 := by omega
  simp [dnc, List.getElem?_range this, hk]
theorem dnc_0 (h : Nat) (h8 : h ≤ 8) : dnc h (msk h) = List.replicate 9 (.bool false) := by
  apply List.ext_getElem?
  intro k
  unfold dnc
  rcases Nat.lt_or_ge k 9 with q | q
  · rw [List.getElem?_map, List.getElem?_range q, List.getElem?_replicate, if_pos q]
    simp only [Option.map_some]
    by_cases z : k ≤ h
    · rw [bq_msk h8 z]; simp
    · simp [z]
  · rw [List.getElem?_eq_none (by simpa using q), List.getElem?_eq_none (by simpa using q)]
theorem dnc_set {h s k : Nat} (h8 : h ≤ 8) (hs : s &&& msk h = s) (hk : k ≤ h) : (dnc h s).toArray.setIfInBounds k (.bool true) = (dnc h (rm (ps h k) s)).toArray := by
  apply Array.ext'
  simp only [Array.toList_setIfInBounds]
  apply List.ext_getElem?
  intro j
  rw [List.getElem?_set]
  unfold dnc
  rcases Nat.lt_or_ge j 9 with q | q
  · rw [List.getElem?_map, List.getElem?_range q, List.getElem?_map, List.getElem?_range q]
    simp only [Option.map_some, List.length_map, List.length_range]
    by_cases e : k = j
    · subst e
      rw [if_pos rfl, if_pos q, bq_rm h8 hs hk k hk]
      simp [hk]
    · rw [if_neg e]
      by_cases z : j ≤ h
      · rw [bq_rm h8 hs hk j z]
        simp [show j ≠ k from fun y => e y.symm]
      · simp [z]
  · rw [List.getElem?_eq_none (by simpa using q), List.getElem?_eq_none (by simpa using q)]
    split
    · rw [if_neg (by simp; omega)]
    · rfl
theorem rm_same {h s k : Nat} (h0 : 0 < h) (h8 : h ≤ 8) (hs : s &&& msk h = s) (hk : k ≤ h) (hb : bq h s k = false) : rm (ps h k) s = s := by
  have : ∀ s : Fin 512, ∀ a : Fin 9, ((s : Nat) / 2 ^ (a : Nat) % 2 == 1) = false → rm a s = s := by decide +kernel
  exact this ⟨s, in_mask h8 hs⟩ ⟨ps h k, ps_lt h k h8⟩ hb
/-- the number that was written into the frame -/
def vm (f : Nat → Int) : Int := nu (fun t => f (4104 + t)) 8
theorem vm_ack (v : PV) (k n : Nat) (f : Nat → Int) : vm (ackF v k n f) = bif hit v k n 1 then 0 else vm f := by
  unfold vm
  cases z : hit v k n 1
  · refine C.nu_congr 8 fun t ht => ?_
    unfold ackF
    rw [show (4104 + t) / 4096 = 1 by omega, z]; rfl
  · rw [C.nu_congr (c := fun _ => 0) 8 fun t ht => ?_]
    · rfl
    · unfold ackF
      rw [show (4104 + t) / 4096 = 1 by omega, z]; rfl
theorem vm_write (f : Nat → Int) (M : Int) (m0 : 0 ≤ M) (m1 : M < 18446744073709551616) : vm (put f 4104 8 (byt M)) = M := by
  unfold vm
  rw [C.nu_congr (c := byt M) 8 (fun t ht => C.put_in f 4104 8 (byt M) t ht), C.nu_byt M m0 8]
  show M % 256 ^ 8 = M
  omega
/-- the pool: frame 1 waits for s -/
structure RD (v : PV) (h s : Nat) : Prop where
  n : v.n = 2
  r : v.r = 1
  h : v.h = h
  s : v.s 1 = s
/-- where the frame stands: in limbo with its number, or free and 0 -/
structure RE (v : PV) (h s : Nat) (f : Nat → Int) (M : Int) : Prop where
  d : RD v h s
  a : s ≠ 0 → vm f = M
  z : s = 0 → v.o 1 = 0 ∧ vm f = 0
theorem RE.take {v : PV} {h s : Nat} {f : Nat → Int} {M : Int} (H : RE v h s f M) (ok : v.Ok) (hs : s ≠ 0) {x : Int} (hx : may x = true) : tk v x = (0, 10, v) ∧ ownF v 1 = -2 := by
  have h0 := ok.rs 0 (by rw [H.d.r]; decide)
  have h1 := (ok.li 1).2 (by rw [H.d.s]; exact hs)
  refine ⟨?_, ?_⟩
  · rcases tk_cases v x with ⟨i, hi, hi0, -⟩ | ⟨-, -, e⟩ | ⟨e, -⟩
    · rw [H.d.n] at hi
      rcases (show i = 0 ∨ i = 1 by omega) with rfl | rfl <;> omega
    · exact e
    · rw [hx] at e; cases e
  · rw [show (1 : Int) = ((1 : Nat) : Int) from rfl, (own_same (v := v) (i := 1) (by rw [H.d.n]; decide)).1]; exact h1
theorem RE.take0 {v : PV} {h : Nat} {f : Nat → Int} {M : Int} (H : RE v h 0 f M) (ok : v.Ok) {x : Int} (hx : may x = true) : tk v x = (1, 0, v.own 1 x) ∧ ownF (v.own 1 x) 1 = x := by
  have h0 := ok.rs 0 (by rw [H.d.r]; decide)
  have h1 := (H.z rfl).1
  have hf : ff v.o v.n = 1 := ff_eq (by rw [H.d.n]; decide) h1 (fun j hj => by obtain rfl : j = 0 := (by omega); omega)
  refine ⟨?_, ?_⟩
  · unfold tk; rw [hx, hf, H.d.n]; rfl
  · exact own_at (v := v) (i := 1) (by rw [H.d.n]; decide) x
theorem RE.ack {v : PV} {h s : Nat} {f : Nat → Int} {M : Int} (H : RE v h s f M) (ok : v.Ok) (hs : s ≠ 0) (k : Nat) (hk : k < 9) : ackN v k v.n = (if s = 2 ^ k then 1 else 0) ∧ RE (ackP v k v.n) h (rm k s) (ackF v k v.n f) M := by
  have h0 := ok.rs 0 (by rw [H.d.r]; decide)
  have s0 : v.s 0 = 0 := by
    rcases Nat.eq_zero_or_pos (v.s 0) with z | z
    · exact z
    · have := (ok.li 0).2 (by omega); omega
  have hl : s < 512 := by rw [← H.d.s]; exact ok.sl 1
  have p0 : ¬ (0 = 2 ^ k) := by have := Nat.two_pow_pos k; omega
  have hh : hit v k v.n 1 = decide (s = 2 ^ k) := by unfold hit; rw [H.d.n, H.d.s]; simp
  have hr := rm_zero hl hk
  refine ⟨?_, ⟨H.d.n, H.d.r, H.d.h, ?_⟩, fun hz => ?_, fun hz => ?_⟩
  · rw [H.d.n]
    show ackN v k 2 = _
    simp only [ackN, s0, H.d.s, p0, decide_false, cond_false]
    by_cases z : s = 2 ^ k
    · simp [z]
    · simp [z]
  · show (bif decide (1 < v.n) then rm k (v.s 1) else v.s 1) = _
    rw [H.d.n, H.d.s]; rfl
  · rw [vm_ack, hh]
    have : ¬ s = 2 ^ k := fun z => hz (hr.2 (.inr z))
    simp only [this, decide_false, cond_false]
    exact H.a hs
  · rcases hr.1 hz with z | z
    · exact absurd z hs
    · refine ⟨?_, ?_⟩
      · show (bif hit v k v.n 1 then 0 else v.o 1) = 0
        rw [hh]; simp [z]
      · rw [vm_ack, hh]; simp [z]
end Go.Proofs.Ytehghhonhfmieaa
namespace Go.Proofs.Ytehghhonhfmieaa
open Go.RowKit
open C (Only hid Mem RMem Still ret_bool ret_int put)
set_option linter.unusedVariables false
set_option maxRecDepth 100000

/-- a row of n cells -/
def rg (g : Nat → Value) (n : Nat) : List Value := (List.range n).map g
theorem rg_at (g : Nat → Value) (n j : Nat) (h : j < n) : (rg g n)[j]? = some (g j) := by unfold rg; rw [List.getElem?_map, List.getElem?_range h]; rfl
theorem rg_set (g g' : Nat → Value) (n k : Nat) (x : Value) (hx : g' k = x) (h : ∀ j, j ≠ k → g' j = g j) : (rg g n).toArray.setIfInBounds k x = (rg g' n).toArray := by
  apply Array.ext'
  simp only [Array.toList_setIfInBounds]
  apply List.ext_getElem?
  intro j
  have hl : ∀ g, (rg g n).length = n := fun g => by simp [rg]
  rw [List.getElem?_set]
  rcases Nat.lt_or_ge j n with q | q
  · rw [rg_at _ _ _ q, hl, rg_at _ _ _ q]
    by_cases e : k = j
    · subst e; rw [if_pos rfl, if_pos q, hx]
    · rw [if_neg e, h j (fun z => e z.symm)]
  · rw [List.getElem?_eq_none (by rw [hl]; exact q), List.getElem?_eq_none (by rw [hl]; exact q), hl]
    split
    · rw [if_neg (by omega)]
    · rfl
def owv (o : Nat → Int) : Nat → Value := fun i => .int .i64 (o i)
/-- who a bit is for -/
def wh (k : Nat) : Int := if k = 8 then 63 else (k : Int)
/-- what is waited for, as a list -/
def lsN (h s : Nat) : List Nat := (8 :: List.range h).filter fun k => s / 2 ^ k % 2 == 1
def orL (l : List Nat) : Nat := l.foldl (fun a k => a ||| bkN k) 0
theorem orL_0 : ∀ h : Fin 9, 0 < (h : Nat) → ∀ s : Fin 512, (s : Nat) &&& msk h = s → orL (lsN h s) = encN s ∧ ((lsN h s).length = 0 ↔ (s : Nat) = 0) ∧ (lsN h s).length ≤ 9 := by decide +kernel
theorem ls_msk0 : ∀ h : Fin 9, 0 < (h : Nat) → lsN h (msk h) = 8 :: List.range h := by decide +kernel
theorem ls_rm {h s k : Nat} (hs : s < 512) (hk : k < 9) (h8 : h ≤ 8) : lsN h (rm k s) = (lsN h s).filter (fun j => decide (j ≠ k)) := by
  unfold lsN
  rw [List.filter_filter]
  apply List.filter_congr
  intro j hj
  have hj9 : j < 9 := by
    simp at hj
    omega
  have := bq_rm0 ⟨s, hs⟩ ⟨k, hk⟩ ⟨j, hj9⟩
  rw [show (rm k s / 2 ^ j % 2 == 1) = _ from this, Bool.and_comm]
  congr 1
  rw [Bool.eq_iff_iff]; simp [Fin.ext_iff]
theorem ls_mem {h s j : Nat} (h8 : h ≤ 8) (hj : j ∈ lsN h s) : j < 9 := by
  unfold lsN at hj
  have := (List.mem_filter.1 hj).1
  simp at this
  omega
/-- a list that waits, as it stands -/
def Ls (w : World) (go : Nat) (u : Value) (l : List Nat) : Prop := ∃ b c cur, u = .slice (some ⟨b, 0, none⟩) l.length c ∧ b ≠ go ∧ w.heap[b]? = some (.cells cur 3 (0, 0)) ∧ ∀ t (ht : t < l.length), cur[t]? = some (.int .i64 (wh l[t]))
def dcs (v : PV) (dm go gw : Nat) : Array Value := #[.pointer (some ⟨dm, 0, none⟩), .int .i64 v.r, .int .i64 v.h, .slice (some ⟨go, 0, none⟩) v.n v.n, .slice (some ⟨gw, 0, none⟩) v.n v.n]
structure DL (w : World) (q go gw dm : Nat) (T : Nat → Prop) (L : Nat → Value) (v : PV) (f : Nat → Int) : Prop where
  top : w.heap[q]? = some (.cells (dcs v dm go gw) 92 (0, 0))
  tab : w.heap[go]? = some (.cells (rg (owv v.o) v.n).toArray 3 (0, 0))
  wts : w.heap[gw]? = some (.cells (rg L v.n).toArray 51 (0, 0))
  mem : RMem w T dm 0 v.n f
  sl : ∀ i, i < v.n → ∃ ad l c, L i = .slice ad l c
  ls : ∀ i, i < v.n → v.s i ≠ 0 → Ls w go (L i) (lsN v.h (v.s i))
/-- the blocks of lists that wait -/
def Lb (v : PV) (L : Nat → Value) (x : Nat) : Prop := ∃ i, i < v.n ∧ v.s i ≠ 0 ∧ ∃ a l c, L i = .slice (some a) l c ∧ a.block = x
/-- the document's pool; G: its blocks -/
def DPool (w : World) (G : Nat → Prop) (q dm : Nat) (v : PV) (f : Nat → Int) : Prop := ∃ go gw T L, DL w q go gw dm T L v f ∧ v.Ok ∧ ∀ x, G x ↔ x = q ∨ x = go ∨ x = gw ∨ Lb v L x ∨ T x
theorem rmem_typ {w : World} {T : Nat → Prop} {q : Nat} {bs : Int} {n : Nat} {f : Nat → Int} (h : RMem w T q bs n f) {x : Nat} {c : Array Value} {t : TypeId} {fr : Nat × Nat} (hx : w.heap[x]? = some (.cells c t fr)) (h1 : t ≠ 89) (h2 : t ≠ 99) (h3 : t ≠ 5) : ¬ T x := by
  obtain ⟨g, hs, hr, rfl, hS⟩ := h
  intro z
  rcases (hS x).1 z with rfl | rfl | ⟨i, c', hi⟩
  · have := hr.top; rw [hx] at this; simp at this; exact h1 this.2.1
  · have := hr.tab; rw [hx] at this; simp at this; exact h2 this.2.1
  · obtain ⟨_, cur, hg, _⟩ := hr.full i x c' hi
    rw [hx] at hg; simp at hg; exact h3 hg.2.1
section
variable {w w' : World} {q go gw dm : Nat} {T : Nat → Prop} {L : Nat → Value} {v : PV} {f : Nat → Int}
theorem DL.only (h : DL w q go gw dm T L v f) {U : Nat → Prop} (ho : Only U w w') (h1 : ¬ U q) (h2 : ¬ U go) (h3 : ¬ U gw) (h4 : ∀ x, Lb v L x → ¬ U x) (h5 : ∀ x, T x → ¬ U x) : DL w' q go gw dm T L v f :=
  ⟨ho.old h.top h1, ho.old h.tab h2, ho.old h.wts h3, h.mem.only ho h5, h.sl, fun i hi hs => by
    obtain ⟨b, c, cur, e1, e2, e3, e4⟩ := h.ls i hi hs
    exact ⟨b, c, cur, e1, e2, ho.old e3 (h4 b ⟨i, hi, hs, _, _, _, e1, rfl⟩), e4⟩⟩
theorem DL.below (h : DL w q go gw dm T L v f) (hb : Below w.heap.size w w') : DL w' q go gw dm T L v f :=
  h.only (U := fun _ => False) (.ofBelow hb) (fun q => q) (fun q => q) (fun q => q) (fun _ _ q => q) fun _ _ q => q
theorem DL.c0 (h : DL w q go gw dm T L v f) : w.cell? ⟨q, 0, none⟩ = some (.pointer (some ⟨dm, 0, none⟩)) := cell_of_row w q 0 _ _ _ h.top
theorem DL.c1 (h : DL w q go gw dm T L v f) : w.cell? ⟨q, 1, none⟩ = some (.int .i64 v.r) := cell_of_row w q 1 _ _ _ h.top
theorem DL.c2 (h : DL w q go gw dm T L v f) : w.cell? ⟨q, 2, none⟩ = some (.int .i64 v.h) := cell_of_row w q 2 _ _ _ h.top
theorem DL.c3 (h : DL w q go gw dm T L v f) : w.cell? ⟨q, 3, none⟩ = some (.slice (some ⟨go, 0, none⟩) v.n v.n) := cell_of_row w q 3 _ _ _ h.top
theorem DL.c4 (h : DL w q go gw dm T L v f) : w.cell? ⟨q, 4, none⟩ = some (.slice (some ⟨gw, 0, none⟩) v.n v.n) := cell_of_row w q 4 _ _ _ h.top
theorem DL.co (h : DL w q go gw dm T L v f) (i : Nat) (hi : i < v.n) : w.cell? ⟨go, i, none⟩ = some (.int .i64 (v.o i)) ∧ w.frozen? ⟨go, i, none⟩ = false := by
  refine ⟨?_, frozen_of_row _ _ i _ _ h.tab⟩
  rw [cell_of_row w go _ _ _ _ h.tab]
  have := rg_at (owv v.o) v.n i hi
  simpa [owv] using this
theorem DL.cw (h : DL w q go gw dm T L v f) (i : Nat) (hi : i < v.n) : w.cell? ⟨gw, i, none⟩ = some (L i) ∧ w.frozen? ⟨gw, i, none⟩ = false := by
  refine ⟨?_, frozen_of_row _ _ i _ _ h.wts⟩
  rw [cell_of_row w gw _ _ _ _ h.wts]
  have := rg_at L v.n i hi
  simpa using this
/-- blocks that are unlike -/
theorem DL.ne (h : DL w q go gw dm T L v f) : q ≠ go ∧ q ≠ gw ∧ go ≠ gw ∧ ¬ T q ∧ ¬ T go ∧ ¬ T gw := by
  refine ⟨fun e => ?_, fun e => ?_, fun e => ?_, rmem_typ h.mem h.top (by decide) (by decide) (by decide), rmem_typ h.mem h.tab (by decide) (by decide) (by decide), rmem_typ h.mem h.wts (by decide) (by decide) (by decide)⟩
  · subst e; have := h.top; rw [h.tab] at this; simp at this
  · subst e; have := h.top; rw [h.wts] at this; simp at this
  · subst e; have := h.tab; rw [h.wts] at this; simp at this
theorem DL.lb (h : DL w q go gw dm T L v f) {x : Nat} (hx : Lb v L x) : x < w.heap.size ∧ x ≠ q ∧ x ≠ go ∧ x ≠ gw ∧ ¬ T x := by
  obtain ⟨i, hi, hs, a, l, c, e, rfl⟩ := hx
  obtain ⟨b, c', cur, e1, e2, e3, e4⟩ := h.ls i hi hs
  rw [e] at e1
  cases e1
  refine ⟨lt_of_block e3, fun (z : b = q) => ?_, e2, fun (z : b = gw) => ?_, rmem_typ h.mem e3 (by decide) (by decide) (by decide)⟩
  · rw [z] at e3; have := h.top; rw [e3] at this; simp at this
  · rw [z] at e3; have := h.wts; rw [e3] at this; simp at this
theorem DPool.lt {G : Nat → Prop} (h : DPool w G q dm v f) {x : Nat} (hx : G x) : x < w.heap.size := by
  obtain ⟨go, gw, T, L, h, _, hG⟩ := h
  rcases (hG x).1 hx with rfl | rfl | rfl | z | z
  · exact lt_of_block h.top
  · exact lt_of_block h.tab
  · exact lt_of_block h.wts
  · exact (h.lb z).1
  · exact h.mem.lt z
theorem DPool.only {G : Nat → Prop} (h : DPool w G q dm v f) {U : Nat → Prop} (ho : Only U w w') (hd : ∀ x, G x → ¬ U x) : DPool w' G q dm v f := by
  obtain ⟨go, gw, T, L, h, ok, hG⟩ := h
  exact ⟨go, gw, T, L, h.only ho (hd _ ((hG _).2 (.inl rfl))) (hd _ ((hG _).2 (.inr (.inl rfl)))) (hd _ ((hG _).2 (.inr (.inr (.inl rfl))))) (fun x hx => hd _ ((hG _).2 (.inr (.inr (.inr (.inl hx)))))) (fun x hx => hd _ ((hG _).2 (.inr (.inr (.inr (.inr hx)))))), ok, hG⟩
end
section
variable (w : World) (q go gw dm : Nat) (T : Nat → Prop) (L : Nat → Value) (v : PV) (f : Nat → Int) (h : DL w q go gw dm T L v f) (ok : v.Ok)
include h ok
theorem z_Owner (x : Int) : Calls Try.prog 22 #[.pointer (some ⟨q, 0, none⟩), .int .i64 x] w fun e w' => e = .returned (.int .i64 (ownF v x)) ∧ w' = w := by
  have c3 := h.c3
  have n1 := ok.n1
  unfold ownF
  cases hx : hasF v x
  · clear h
    simp [hasF] at hx
    go_enter Try.func22, Try.ntmps22
    by_cases h1 : x < 0
    · go_wp2; go_ret; exact ⟨rfl, rfl⟩
    · have h2 : x ≥ (v.n : Int) := by omega
      go_wp2; go_ret; exact ⟨rfl, rfl⟩
  · have hx' : 0 ≤ x ∧ x < (v.n : Int) := by simpa [hasF] using hx
    obtain ⟨i, rfl⟩ := Int.eq_ofNat_of_zero_le hx'.1
    have c4 := (h.co i (by omega)).1
    clear h
    go_enter Try.func22, Try.ntmps22
    go_wp2
    go_ret; exact ⟨rfl, rfl⟩
theorem z_Count (x : Int) : Calls Try.prog 26 #[.pointer (some ⟨q, 0, none⟩), .int .i64 x] w fun e w' => e = .returned (.int .i64 (cnt v.o x v.n)) ∧ w' = w := by
  have c3 := h.c3
  have n1 := ok.n1
  have H := hid h
  clear h
  go_enter Try.func26, Try.ntmps26
  go_wp2
  go_loopw [5, 6] (fun c i wr => ∃ j : Nat, j ≤ v.n ∧ i = .int .i64 j ∧ c = .int .i64 (cnt v.o x j) ∧ wr = w) (fun c i _ => v.n - (intOf i).toNat)
  case atStart => exact ⟨0, by omega, rfl, rfl, rfl⟩
  case round =>
    obtain ⟨j, hj, rfl, rfl, hw⟩ := hrel
    obtain rfl := hw.symm
    have hc := cnt_le v.o x j
    by_cases hlt : j < v.n
    · have c4 := (H.out.co j hlt).1
      by_cases he : v.o j = x
      · have e1 : cnt v.o x (j + 1) = cnt v.o x j + 1 := by simp [cnt, he]
        subst he
        go_wp2
        go_roundw
        case rel => exact ⟨j + 1, by omega, by go_num, by rw [e1]; go_num, trivial⟩
        case measure => simp [intOf]; omega
      · have e1 : cnt v.o x (j + 1) = cnt v.o x j := by simp [cnt, he]
        go_wp2
        go_roundw
        case rel => exact ⟨j + 1, by omega, by go_num, by rw [e1], trivial⟩
        case measure => simp [intOf]; omega
    · obtain rfl : j = v.n := by omega
      go_wp2
      go_ret
      exact ⟨rfl, rfl⟩
end
end Go.Proofs.Ytehghhonhfmieaa
namespace Go.Proofs.Ytehghhonhfmieaa
open Go.RowKit
open C (Only hid Mem RMem Still ret_bool ret_int put)
set_option linter.unusedVariables false
set_option maxRecDepth 100000

section
variable {w w' : World} {q go gw dm : Nat} {T : Nat → Prop} {L : Nat → Value} {v : PV} {f : Nat → Int}
/-- the owners have turned -/
theorem DL.setO (h : DL w q go gw dm T L v f) (i : Nat) (x : Int) : DL (w.setCell ⟨go, i, none⟩ (.int .i64 x)) q go gw dm T L (v.own i x) f := by
  have ho := only_c w go i (.int .i64 x)
  have hn := h.ne
  refine ⟨ho.old h.top hn.1, setRowB w go i _ _ _ _ h.tab (rg_set _ _ _ _ _ (by unfold owv; rw [show (v.own i x).o i = x from upd_same _ _ _]) fun j hj => ?_), ho.old h.wts (fun e => hn.2.2.1 e.symm), h.mem.only ho fun y hy e => hn.2.2.2.2.1 (e ▸ hy), h.sl, fun j hj hs => ?_⟩
  · unfold owv; rw [show (v.own i x).o j = v.o j from upd_other _ _ _ _ hj]
  · obtain ⟨b, c, cur, e1, e2, e3, e4⟩ := h.ls j hj hs
    exact ⟨b, c, cur, e1, e2, ho.old e3 e2, e4⟩
end
theorem z_Take (w : World) (G : Nat → Prop) (q dm : Nat) (v : PV) (f : Nat → Int) (h : DPool w G q dm v f) (x : Int) :
    Calls Try.prog 14 #[.pointer (some ⟨q, 0, none⟩), .int .i64 x] w fun e w' => e = .returned (.tuple #[.int .i64 (tk v x).1, .int .i64 (tk v x).2.1]) ∧ DPool w' G q dm (tk v x).2.2 f ∧ Only G w w' := by
  obtain ⟨go, gw, T, L, hp, ok, hG⟩ := h
  have hok := ok.take x
  have H := hid hp
  have HG := hid hG
  have OK := hid hok
  have HO := hid ok
  have n1 := ok.n1
  have c3 := hp.c3
  clear hp hG hok ok
  cases hx : may x
  · have hx' : ¬ (x = -1 ∨ 1 ≤ x ∧ x ≤ 8) := by simpa [may] using hx
    have e1 : tk v x = (0, 1, v) := by unfold tk; rw [hx]; rfl
    have q1 : ¬ x = -1 := fun e => hx' (.inl e)
    rw [e1]
    go_enter Try.func14, Try.ntmps14
    by_cases q2 : x < 1
    · go_wp2
      go_ret2
      exact ⟨rfl, ⟨go, gw, T, L, H.out, HO.out, HG.out⟩, .refl w⟩
    · have q3 : x > 8 := by omega
      go_wp2
      go_ret2
      exact ⟨rfl, ⟨go, gw, T, L, H.out, HO.out, HG.out⟩, .refl w⟩
  · have hx' : x = -1 ∨ 1 ≤ x ∧ x ≤ 8 := by simpa [may] using hx
    rcases hx' with rfl | ⟨hx1, hx2⟩
    · go_enter Try.func14, Try.ntmps14
      go_wp2
      go_loopw [6] (fun i wr => ∃ j : Nat, j ≤ v.n ∧ i = .int .i64 j ∧ wr = w ∧ Hid (∀ a, a < j → v.o a ≠ 0)) (fun i _ => v.n - (intOf i).toNat)
      case atStart => exact ⟨0, by omega, rfl, rfl, fun a ha => by omega⟩
      case round =>
        obtain ⟨j, hj, rfl, hw, hn⟩ := hrel
        obtain rfl := hw.symm
        by_cases hlt : j < v.n
        · have c4 := (H.out.co j hlt).1
          have z4 := (H.out.co j hlt).2
          by_cases he : v.o j = 0
          · have e1 : tk v (-1) = ((j : Int), 0, v.own j (-1)) := by
              unfold tk
              rw [hx, ff_eq hlt he hn.out]
              simp [hlt]
            rw [e1] at OK
            rw [he] at c4
            have HP := hid (H.out.setO j (-1))
            go_wp2
            go_ret2
            exact ⟨rfl, ⟨go, gw, T, L, HP.out, OK.out, HG.out⟩, (only_c _ _ _ _).mono fun a _ e => (HG.out a).2 (.inr (.inl e))⟩
          · go_wp2
            go_roundw
            case rel => exact ⟨j + 1, by omega, by go_num, trivial, fun a ha => by
              rcases Nat.lt_or_ge a j with q | q
              · exact hn.out a q
              · obtain rfl : a = j := by omega
                exact he⟩
            case measure => simp [intOf]; omega
        · obtain rfl : j = v.n := by omega
          have e1 : tk v (-1) = (0, 10, v) := by
            unfold tk
            rw [hx, ff_none hn.out]
            simp
          go_wp2
          go_ret2
          exact ⟨rfl, ⟨go, gw, T, L, H.out, HO.out, HG.out⟩, .refl w⟩
    · go_enter Try.func14, Try.ntmps14
      go_wp2
      go_loopw [6] (fun i wr => ∃ j : Nat, j ≤ v.n ∧ i = .int .i64 j ∧ wr = w ∧ Hid (∀ a, a < j → v.o a ≠ 0)) (fun i _ => v.n - (intOf i).toNat)
      case atStart => exact ⟨0, by omega, rfl, rfl, fun a ha => by omega⟩
      case round =>
        obtain ⟨j, hj, rfl, hw, hn⟩ := hrel
        obtain rfl := hw.symm
        by_cases hlt : j < v.n
        · have c4 := (H.out.co j hlt).1
          have z4 := (H.out.co j hlt).2
          by_cases he : v.o j = 0
          · have e1 : tk v x = ((j : Int), 0, v.own j x) := by
              unfold tk
              rw [hx, ff_eq hlt he hn.out]
              simp [hlt]
            rw [e1] at OK
            rw [he] at c4
            have HP := hid (H.out.setO j x)
            go_wp2
            go_ret2
            exact ⟨rfl, ⟨go, gw, T, L, HP.out, OK.out, HG.out⟩, (only_c _ _ _ _).mono fun a _ e => (HG.out a).2 (.inr (.inl e))⟩
          · go_wp2
            go_roundw
            case rel => exact ⟨j + 1, by omega, by go_num, trivial, fun a ha => by
              rcases Nat.lt_or_ge a j with q | q
              · exact hn.out a q
              · obtain rfl : a = j := by omega
                exact he⟩
            case measure => simp [intOf]; omega
        · obtain rfl : j = v.n := by omega
          have e1 : tk v x = (0, 10, v) := by
            unfold tk
            rw [hx, ff_none hn.out]
            simp
          go_wp2
          go_ret2
          exact ⟨rfl, ⟨go, gw, T, L, H.out, HO.out, HG.out⟩, .refl w⟩
theorem orL_take (l : List Nat) (t : Nat) (ht : t < l.length) : orL (l.take (t + 1)) = orL (l.take t) ||| bkN l[t] := by
  unfold orL
  rw [List.take_succ_eq_append_getElem ht, List.foldl_append]
  rfl
theorem orL_lt (l : List Nat) : orL l < 18446744073709551616 := by
  have : ∀ (l : List Nat) (a : Nat), a < 2 ^ 64 → l.foldl (fun a k => a ||| bkN k) a < 2 ^ 64 := fun l => by
    induction l with
    | nil => intro a ha; exact ha
    | cons k l ih => intro a ha; exact ih _ (Nat.or_lt_two_pow ha (bk_lt k))
  exact this l 0 (by decide)
theorem wh_shl (k : Nat) (hk : k < 9) : IntKind.u64.wrap (2 ^ (wh k).toNat) = (bkN k : Int) := by
  have : ∀ k : Fin 9, IntKind.u64.wrap (2 ^ (wh k).toNat) = (bkN k : Int) := by decide +kernel
  exact this ⟨k, hk⟩
theorem wh_b (k : Nat) (hk : k < 9) : 0 ≤ wh k ∧ wh k ≤ 63 := by unfold wh; split <;> omega
theorem z_Bits (w : World) (q go gw dm : Nat) (T : Nat → Prop) (L : Nat → Value) (v : PV) (f : Nat → Int) (h : DL w q go gw dm T L v f) (ok : v.Ok) (x : Int) : Calls Try.prog 24 #[.pointer (some ⟨q, 0, none⟩), .int .i64 x] w fun e w' => e = .returned (.int .u64 (waitF v x)) ∧ w' = w := by
  have hO := z_Owner w q go gw dm T L v f h ok x
  by_cases hw : hasF v x = true ∧ v.s x.toNat ≠ 0
  · obtain ⟨hx, hs⟩ := hw
    have hx' : 0 ≤ x ∧ x < (v.n : Int) := by simpa [hasF] using hx
    obtain ⟨i, rfl⟩ := Int.eq_ofNat_of_zero_le hx'.1
    have hin : i < v.n := by omega
    rw [(own_same hin).1, (ok.li i).2 hs] at hO
    rw [(own_same hin).2]
    obtain ⟨b, c, cur, e1, e2, e3, e4⟩ := h.ls i hin hs
    have c4 := h.c4
    have cw := (h.cw i hin).1
    rw [e1] at cw
    have n1 := ok.n1
    have hl := orL_0 ⟨v.h, by have := ok.h1; omega⟩ ok.h0 ⟨v.s i, ok.sl i⟩ (ok.sm i)
    have hlen := hl.2.2
    have HL := hid hl.1
    have HC : Hid (∀ t (ht : t < (lsN v.h (v.s i)).length), w.cell? ⟨b, t, none⟩ = some (.int .i64 (wh (lsN v.h (v.s i))[t]))) := fun t ht => by rw [cell_of_row w b t _ _ _ e3]; exact e4 t ht
    have HM : Hid (∀ j, j ∈ lsN v.h (v.s i) → j < 9) := fun j hj => ls_mem ok.h1 hj
    generalize lsN v.h (v.s i) = l at *
    clear h e1 e2 e3 e4 hl
    go_enter Try.func24, Try.ntmps24
    go_wp2_with (go_at_call 22; refine hO.mono ?_; rintro e w' ⟨rfl, hw⟩; obtain rfl := hw.symm)
    go_loopw [5, 6] (fun a i wr => ∃ t : Nat, t ≤ l.length ∧ i = .int .i64 t ∧ a = .int .u64 (orL (l.take t)) ∧ wr = w) (fun a i _ => l.length - (intOf i).toNat)
    case atStart => exact ⟨0, by omega, rfl, rfl, rfl⟩
    case round =>
      obtain ⟨t, ht, rfl, rfl, hw⟩ := hrel
      obtain rfl := hw.symm
      by_cases hlt : t < l.length
      · have ct := HC.out t hlt
        have hk := HM.out _ (List.getElem_mem hlt)
        have hst := orL_take l t hlt
        have hor := bits_or_u64_nat (orL (l.take t)) (bkN l[t]) (orL_lt _) (bk_lt _)
        rw [← hst] at hor
        have hsh := wh_shl l[t] hk
        have hb := wh_b l[t] hk
        generalize l[t] = k at *
        generalize wh k = kk at *
        have hb0 := hb.1
        have hb1 := hb.2
        clear hb hst
        go_wp2
        go_roundw
        case rel => exact ⟨t + 1, by omega, by go_num, rfl, trivial⟩
        case measure => simp [intOf]; omega
      · obtain rfl : t = l.length := by omega
        go_wp2
        go_ret
        exact ⟨by rw [← HL.out]; rfl, rfl⟩
  · have hz : waitF v x = 0 ∧ ownF v x ≠ -2 := by
      unfold waitF ownF
      cases hx : hasF v x
      · exact ⟨rfl, show (-1 : Int) ≠ -2 by decide⟩
      · have hs : v.s x.toNat = 0 := by
          rcases Nat.eq_zero_or_pos (v.s x.toNat) with z | z
          · exact z
          · exact absurd ⟨hx, by omega⟩ hw
        refine ⟨?_, fun z => ?_⟩
        · show (encN (v.s x.toNat) : Int) = 0
          rw [hs]; rfl
        · exact (ok.li x.toNat).1 z hs
    rw [hz.1]
    have hne := hz.2
    generalize ownF v x = o at *
    clear h hz
    go_enter Try.func24, Try.ntmps24
    go_wp2_with (go_at_call 22; refine hO.mono ?_; rintro e w' ⟨rfl, hw⟩; obtain rfl := hw.symm)
    go_ret
    exact ⟨rfl, rfl⟩
end Go.Proofs.Ytehghhonhfmieaa
namespace Go.Proofs.Ytehghhonhfmieaa
open Go.RowKit
open C (Only hid Mem RMem Still ret_bool ret_int put)
set_option linter.unusedVariables false
set_option maxRecDepth 100000

theorem wait_self (v : PV) (i : Nat) (s : Nat) (h : v.s i = s) : v.wait i s = v := by
  subst h
  unfold PV.wait
  have : upd v.s i (v.s i) = v.s := by funext j; unfold upd; split <;> simp_all
  rw [this]
section
variable {w w' : World} {q go gw dm : Nat} {T : Nat → Prop} {L : Nat → Value} {v : PV} {f : Nat → Int}
/-- a list is laid for a frame -/
theorem DL.putL (h : DL w q go gw dm T L v f) (i : Nat) (u : Value) (hu : ∃ ad l c, u = .slice ad l c) (s : Nat) (hl : s ≠ 0 → Ls w go u (lsN v.h s)) : DL (w.setCell ⟨gw, i, none⟩ u) q go gw dm T (upd L i u) (v.wait i s) f := by
  have ho := only_c w gw i u
  have hn := h.ne
  refine ⟨ho.old h.top hn.2.1, ho.old h.tab hn.2.2.1, setRowB w gw i _ _ _ _ h.wts (rg_set _ _ _ _ _ (upd_same _ _ _) fun j hj => upd_other _ _ _ _ hj), h.mem.only ho fun y hy e => hn.2.2.2.2.2 (e ▸ hy), fun j hj => ?_, fun j hj hs => ?_⟩
  · unfold upd; split
    · exact hu
    · exact h.sl j hj
  · have key : ∀ u l, Ls w go u l → Ls (w.setCell ⟨gw, i, none⟩ (upd L i u i)) go u l ∧ ∀ x : Value, Ls (w.setCell ⟨gw, i, none⟩ x) go u l := fun u l => by
      rintro ⟨b, c, cur, e1, e2, e3, e4⟩
      have hb : b ≠ gw := fun z => by subst z; have := h.wts; rw [e3] at this; simp at this
      exact ⟨⟨b, c, cur, e1, e2, (only_c _ _ _ _).old e3 hb, e4⟩, fun x => ⟨b, c, cur, e1, e2, (only_c _ _ _ _).old e3 hb, e4⟩⟩
    by_cases z : j = i
    · subst z
      rw [show (v.wait j s).s j = s from upd_same _ _ _] at hs ⊢
      rw [upd_same]
      exact (key u _ (hl hs)).2 u
    · rw [show (v.wait i s).s j = v.s j from upd_other _ _ _ _ z] at hs ⊢
      rw [upd_other _ _ _ _ z]
      exact (key _ _ (h.ls j hj hs)).2 u
/-- what a frame waits for is a list that lies there already -/
theorem DL.waitL (h : DL w q go gw dm T L v f) (i : Nat) (s : Nat) (hl : s ≠ 0 → Ls w go (L i) (lsN v.h s)) : DL w q go gw dm T L (v.wait i s) f :=
  ⟨h.top, h.tab, h.wts, h.mem, h.sl, fun j hj hs => by
    by_cases z : j = i
    · subst z
      rw [show (v.wait j s).s j = s from upd_same _ _ _] at hs ⊢
      exact hl hs
    · rw [show (v.wait i s).s j = v.s j from upd_other _ _ _ _ z] at hs ⊢
      exact h.ls j hj hs⟩
end
def ivs (l : List Nat) : List Value := l.map fun k => .int .i64 (wh k)
theorem own_ls {w : World} {base go : Nat} {u : Value} {l : List Nat} (h : w.ownsRow base 3 1 u l.length (ivs l)) (hg : go < base) (hl : l ≠ []) : Ls w go u l := by
  obtain ⟨b, c, cur, e1, e2, e3, e4, e5⟩ := C.own_some h (by cases l; exact absurd rfl hl; simp)
  refine ⟨b, c, cur, e1, by omega, e3, fun t ht => ?_⟩
  have h5 : (ivs l)[t]? = some (.int .i64 (wh l[t])) := by simp [ivs, ht]
  rw [← e5, List.getElem?_take_of_lt ht] at h5
  simpa using h5
theorem info_int : (Try.prog.info? 3).map (fun i => (i.zero, i.size, i.bytes)) = some (some (.int .i64 0), 1, 8) := by kernel_rfl
theorem info_sint : (Try.prog.info? 51).map (fun i => (i.zero, i.size, i.bytes)) = some (some (.slice none 0 0), 1, 24) := by kernel_rfl
theorem u_sint : Try.prog.underlying 51 = some (.slice 3) := by kernel_rfl
theorem u_ssint : Try.prog.underlying 90 = some (.slice 51) := by kernel_rfl
theorem run_mkO (w : World) (n : Nat) (hn : n ≤ 1024) : (Instr.makeSlice 51 (.int .i64 (n : Int)) (.int .i64 (n : Int))).run Try.prog w = .ok (.slice (some ⟨w.heap.size, 0, none⟩) n n) (w.alloc (.cells (rg (owv fun _ => 0) n).toArray 3)) := by
  obtain ⟨i, hi1, hz, hs, hb⟩ := info_parts info_int
  have hr := run_make (P := Try.prog) w 51 3 i _ u_sint hi1 hz .i64 .i64 n n (by omega) (by omega) (by rw [hb]; omega) (by omega)
  have hcs : madeCells (Value.int .i64 0).cells ((n : Int).toNat * i.size) = (rg (owv fun _ => 0) n).toArray := by
    rw [hs]
    apply Array.ext'
    simp only [rg, Value.cells, Int.toNat_natCast, Nat.mul_one, toList_madeCells_one]
    rw [show (owv fun _ => 0) = fun _ => Value.int .i64 0 from rfl, List.map_const', List.length_range]
  rw [hcs] at hr
  simpa using hr
theorem run_mkW (w : World) (n : Nat) (hn : n ≤ 1024) : (Instr.makeSlice 90 (.int .i64 (n : Int)) (.int .i64 (n : Int))).run Try.prog w = .ok (.slice (some ⟨w.heap.size, 0, none⟩) n n) (w.alloc (.cells (rg (fun _ => .slice none 0 0) n).toArray 51)) := by
  obtain ⟨i, hi1, hz, hs, hb⟩ := info_parts info_sint
  have hr := run_make (P := Try.prog) w 90 51 i _ u_ssint hi1 hz .i64 .i64 n n (by omega) (by omega) (by rw [hb]; omega) (by omega)
  have hcs : madeCells (Value.slice none 0 0).cells ((n : Int).toNat * i.size) = (rg (fun _ => .slice none 0 0) n).toArray := by
    rw [hs]
    apply Array.ext'
    simp [rg, Value.cells, toList_madeCells_one, List.map_const']
  rw [hcs] at hr
  simpa using hr
theorem z_New_bad (w : World) (S : Nat → Prop) (m n : Nat) (f : Nat → Int) (h : RMem w S m 0 n f) (r hh : Int) (hb : newOk n r hh = false) :
    Calls Try.prog 11 #[.pointer (some ⟨m, 0, none⟩), .int .i64 r, .int .i64 hh] w fun e w' => e = .returned (.tuple #[.pointer none, .int .i64 1]) ∧ w' = w := by
  obtain ⟨g, hs, hr, rfl, hS⟩ := h
  have c1 := hr.cell1
  have l1 := hr.len1
  clear hr hS
  simp [newOk] at hb
  go_enter Try.func11, Try.ntmps11
  by_cases h1 : r < 0
  · go_wp2; go_ret2; exact ⟨rfl, rfl⟩
  · by_cases h2 : r > (hs.length : Int)
    · go_wp2; go_ret2; exact ⟨rfl, rfl⟩
    · by_cases h3 : hh < 1
      · go_wp2; go_ret2; exact ⟨rfl, rfl⟩
      · have h4 : hh > 8 := by omega
        go_wp2; go_ret2; exact ⟨rfl, rfl⟩
theorem vj_self (m r h n : Nat) (hr : r ≤ n) : ∀ i, (vj m r h n r).o i = (v0 m r h n).o i := fun i => by
  show (if i < r then (if i < r then (-1 : Int) else 0) else 0) = if i < r then -1 else 0
  split <;> simp_all
theorem DL.rn {w : World} {q go gw dm : Nat} {T : Nat → Prop} {L : Nat → Value} {v v' : PV} {f : Nat → Int} (h : DL w q go gw dm T L v f) (e : v' = v) : DL w q go gw dm T L v' f := e ▸ h
theorem al3 (w : World) (a b c : Obj) : (((w.alloc a).alloc b).alloc c).heap[w.heap.size]? = some a ∧ (((w.alloc a).alloc b).alloc c).heap[w.heap.size + 1]? = some b ∧ (((w.alloc a).alloc b).alloc c).heap[w.heap.size + 1 + 1]? = some c ∧ Below w.heap.size w (((w.alloc a).alloc b).alloc c) := by
  have e1 : (w.alloc a).heap.size = w.heap.size + 1 := by simp
  have e2 : ((w.alloc a).alloc b).heap.size = w.heap.size + 1 + 1 := by simp
  refine ⟨?_, ?_, ?_, (((Below.refl _ _).alloc (Nat.le_refl _) _).alloc (by omega) _).alloc (by omega) _⟩
  · rw [heap_alloc_old _ _ (by omega), heap_alloc_old _ _ (by omega)]; exact heap_alloc_new w a
  · rw [heap_alloc_old _ _ (by omega), ← e1]; exact heap_alloc_new _ b
  · rw [← e2]; exact heap_alloc_new _ c
theorem dl_new {w wx : World} {S : Nat → Prop} {pm m n r hh q go gw : Nat} {f : Nat → Int} (hM : RMem w S m 0 n f) (hb : Below w.heap.size w wx) (h1 : wx.heap[q]? = some (.cells #[.pointer (some ⟨m, 0, none⟩), .int .i64 r, .int .i64 hh, .slice (some ⟨go, 0, none⟩) n n, .slice (some ⟨gw, 0, none⟩) n n] 92 (0, 0))) (h2 : wx.heap[go]? = some (.cells (rg (owv fun _ => 0) n).toArray 3 (0, 0))) (h3 : wx.heap[gw]? = some (.cells (rg (fun _ => .slice none 0 0) n).toArray 51 (0, 0))) : DL wx q go gw m S (fun _ => .slice none 0 0) (vj pm r hh n 0) f := by
  have e : (vj pm r hh n 0).o = fun _ => 0 := by funext i; simp [vj]
  exact ⟨h1, by rw [e]; exact h2, h3, hM.below hb, fun i _ => ⟨none, 0, 0, rfl⟩, fun i _ hs => absurd rfl hs⟩
set_option maxHeartbeats 2000000 in
theorem z_New (w : World) (S : Nat → Prop) (pm m n : Nat) (f : Nat → Int) (h : RMem w S m 0 n f) (r hh : Nat) (h0 : 0 < hh) (h1 : hh ≤ 8) (hr : r ≤ n) :
    Calls Try.prog 11 #[.pointer (some ⟨m, 0, none⟩), .int .i64 r, .int .i64 hh] w fun e w' => ∃ q G, e = .returned (.tuple #[.pointer (some ⟨q, 0, none⟩), .int .i64 0]) ∧ DPool w' G q m (v0 pm r hh n) f ∧ Below w.heap.size w w' ∧ ∀ k, G k → S k ∨ w.heap.size ≤ k := by
  obtain ⟨-, -, hn0, hn1⟩ := h.nums
  have c1 : w.cell? ⟨m, 1, none⟩ = some (.int .i64 n) := by
    obtain ⟨g, hs, hq, rfl, hS⟩ := h
    exact hq.cell1
  have HM := hid h
  have hmo := fun W => run_mkO W n hn1
  have hmw := fun W => run_mkW W n hn1
  have hml : m < w.heap.size := by
    obtain ⟨g, hs, hq, rfl, hS⟩ := h
    exact lt_of_block hq.top
  clear h
  go_enter Try.func11, Try.ntmps11
  go_wp2_with fail
  go_cut [8] from 28 to 42 (fun a wx => ∃ (qq go gw : Nat), a = .pointer (some ⟨qq, 0, none⟩) ∧ Hid (DL wx qq go gw m S (fun _ => .slice none 0 0) (vj pm r hh n 0) f ∧ Below w.heap.size w wx ∧ w.heap.size ≤ qq ∧ w.heap.size ≤ go ∧ w.heap.size ≤ gw))
  case first =>
    go_region
    all_goals (
      go_wp2
      go_meet
      first
      | exact ⟨w.heap.size + 1 + 1, w.heap.size, w.heap.size + 1, rfl, dl_new HM.out (al3 w _ _ _).2.2.2.drew (al3 w _ _ _).2.2.1 (al3 w _ _ _).1 (al3 w _ _ _).2.1, (al3 w _ _ _).2.2.2.drew, by omega, by omega, by omega⟩
      | exact ⟨w.heap.size + 1 + 1, w.heap.size + 1, w.heap.size, rfl, dl_new HM.out (al3 w _ _ _).2.2.2.drew (al3 w _ _ _).2.2.1 (al3 w _ _ _).2.1 (al3 w _ _ _).1, (al3 w _ _ _).2.2.2.drew, by omega, by omega, by omega⟩)
  case rest =>
    obtain ⟨qq, go, gw, rfl, HD⟩ := hcut
    clear hmo hmw c1
    go_wp2
    go_loopw [9] (fun i wr => ∃ j : Nat, j ≤ r ∧ i = .int .i64 j ∧ Hid (DL wr qq go gw m S (fun _ => .slice none 0 0) (vj pm r hh n j) f ∧ Below w.heap.size w wr)) (fun i _ => r - (intOf i).toNat)
    case atStart => exact ⟨0, by omega, rfl, HD.out.1, HD.out.2.1⟩
    case round =>
      obtain ⟨j, hj, rfl, hp⟩ := hrel
      have d3 : wr.cell? ⟨qq, 3, none⟩ = some (.slice (some ⟨go, 0, none⟩) n n) := hp.out.1.c3
      by_cases hlt : j < r
      · obtain ⟨c4, z4⟩ := hp.out.1.co j (show j < n by omega)
        have hs := hp.out.1.setO j (-1)
        rw [show (vj pm r hh n j).own j (-1) = vj pm r hh n (j + 1) by rw [← vj_step, if_pos hlt]] at hs
        have HS := hid hs
        clear hs
        have hgo := HD.out.2.2.2.1
        have HB := hid (hp.out.2.setCell (p := ⟨go, j, none⟩) hgo (.int .i64 (-1)))
        clear hp
        go_wp2
        go_roundw
        case rel => exact ⟨j + 1, by omega, by go_num, HS.out, HB.out⟩
        case measure => simp [intOf]; omega
      · obtain rfl : j = r := by omega
        go_wp2
        go_ret2
        refine ⟨qq, fun x => x = qq ∨ x = go ∨ x = gw ∨ False ∨ S x, rfl, ⟨go, gw, S, fun _ => .slice none 0 0, hp.out.1.rn ?_, v0_ok pm j hh n hn0 hn1 h0 h1 hr, fun x => ?_⟩, hp.out.2, fun k hk => ?_⟩
        · unfold v0 vj
          congr 1
          funext i
          by_cases z : i < j
          · rw [if_pos z, if_pos z]
          · rw [if_neg z, if_neg z]
        · constructor
          · rintro (z | z | z | z | z)
            · exact .inl z
            · exact .inr (.inl z)
            · exact .inr (.inr (.inl z))
            · exact z.elim
            · exact .inr (.inr (.inr (.inr z)))
          · rintro (z | z | z | ⟨i, _, hs, _⟩ | z)
            · exact .inl z
            · exact .inr (.inl z)
            · exact .inr (.inr (.inl z))
            · exact absurd rfl hs
            · exact .inr (.inr (.inr (.inr z)))
        · rcases hk with rfl | rfl | rfl | z | z
          · exact .inr HD.out.2.2.1
          · exact .inr HD.out.2.2.2.1
          · exact .inr HD.out.2.2.2.2
          · exact z.elim
          · exact .inl z
end Go.Proofs.Ytehghhonhfmieaa
namespace Go.Proofs.Ytehghhonhfmieaa
open Go.RowKit
open C (Only hid Mem RMem Still ret_bool ret_int put)
set_option linter.unusedVariables false
set_option maxRecDepth 100000

theorem z_Release_no (w : World) (q go gw dm : Nat) (T : Nat → Prop) (L : Nat → Value) (v : PV) (f : Nat → Int) (h : DL w q go gw dm T L v f) (ok : v.Ok) (x : Int) (hx : rlOk v x = false) :
    Calls Try.prog 16 #[.pointer (some ⟨q, 0, none⟩), .int .i64 x] w fun e w' => e = .returned (.int .i64 11) ∧ w' = w := by
  have c1 := h.c1
  have c3 := h.c3
  have n1 := ok.n1
  by_cases h1 : x < (v.r : Int)
  · clear h
    go_enter Try.func16, Try.ntmps16
    go_wp2; go_ret; exact ⟨rfl, rfl⟩
  · by_cases h2 : x ≥ (v.n : Int)
    · clear h
      go_enter Try.func16, Try.ntmps16
      go_wp2; go_ret; exact ⟨rfl, rfl⟩
    · obtain ⟨i, rfl⟩ := Int.eq_ofNat_of_zero_le (show 0 ≤ x by omega)
      obtain ⟨c4, z4⟩ := h.co i (by omega)
      have hm : ¬ (v.o i = -1 ∨ 1 ≤ v.o i ∧ v.o i ≤ 8) := by
        have : may (v.o i) = false := by
          unfold rlOk at hx
          simp [show i < v.n by omega] at hx
          exact hx (by omega)
        simpa [may] using this
      have ho := ok.ow i
      have hz : v.o i = 0 ∨ v.o i = -2 := by omega
      clear h hm ho
      rcases hz with hz | hz
      · rw [hz] at c4
        clear hz hx
        go_enter Try.func16, Try.ntmps16
        go_wp2; go_ret; exact ⟨rfl, rfl⟩
      · rw [hz] at c4
        clear hz hx
        go_enter Try.func16, Try.ntmps16
        go_wp2; go_ret; exact ⟨rfl, rfl⟩
theorem iv_step (t : Nat) (ht : t < 8) : ivs (8 :: List.range (t + 1)) = ivs (8 :: List.range t) ++ [.int .i64 (t : Int)] := by
  simp [ivs, List.range_succ, wh, show t ≠ 8 by omega]
theorem upd_upd {α : Type} (f : Nat → α) (i : Nat) (x y : α) : upd (upd f i x) i y = upd f i y := by funext j; unfold upd; split <;> rfl
theorem own_set {w : World} {base : Nat} {e : TypeId} {u : Value} {n : Nat} {xs : List Value} (h : w.ownsRow base e 1 u n xs) {g k : Nat} (hg : g < base) {x : Value} : (w.setCell ⟨g, k, none⟩ x).ownsRow base e 1 u n xs := by
  refine ⟨h.1, ?_⟩
  rcases h.2 with z | ⟨b, cap, cur, z1, z2, z3, z4⟩
  · exact .inl z
  · exact .inr ⟨b, cap, cur, z1, z2, (only_c _ _ _ _).old z3 (by omega), z4⟩
set_option maxHeartbeats 4000000 in
theorem z_Release (w : World) (q go gw dm : Nat) (T : Nat → Prop) (L : Nat → Value) (v : PV) (f : Nat → Int) (h : DL w q go gw dm T L v f) (ok : v.Ok) (i : Nat) (hi : i < v.n) (hr : v.r ≤ i) (hm : may (v.o i) = true) :
    Calls Try.prog 16 #[.pointer (some ⟨q, 0, none⟩), .int .i64 (i : Int)] w fun e w' => e = .returned (.int .i64 0) ∧ ∃ u, DL w' q go gw dm T (upd L i u) ((v.own i (-2)).wait i (msk v.h)) f ∧ Only (fun x => x = go ∨ x = gw) w w' ∧ ∃ a l c, u = .slice (some a) l c ∧ w.heap.size ≤ a.block := by
  have hm' : v.o i = -1 ∨ 1 ≤ v.o i ∧ v.o i ≤ 8 := by simpa [may] using hm
  have hsi : v.s i = 0 := by
    rcases Nat.eq_zero_or_pos (v.s i) with z | z
    · exact z
    · have := (ok.li i).2 (by omega); omega
  have c1 := h.c1
  have c2 := h.c2
  have c3 := h.c3
  have c4 := h.c4
  obtain ⟨co, zo⟩ := h.co i hi
  have n1 := ok.n1
  have h8 := ok.h1
  have h0 := ok.h0
  have q1 : (v.o i == 0) = false := by simp; omega
  have q2 : (v.o i == -2) = false := by simp; omega
  have hq0 := lt_of_block h.top
  have q3 : ¬ (i : Int) < (v.r : Int) := by omega
  have q4 : ¬ (i : Int) ≥ (v.n : Int) := by omega
  have H1 := hid (h.setO i (-2))
  have hgo := lt_of_block h.tab
  have hgw := lt_of_block h.wts
  obtain ⟨i0, hi0, hz0, hz1, hz2⟩ := info_parts info_int
  have HN := hid h.ne
  have HLb : Hid (∀ x, Lb v L x → x < w.heap.size) := fun x hx => (h.lb hx).1
  have HTl : Hid (∀ x, T x → x < w.heap.size) := fun x hx => h.mem.lt hx
  clear h hm hm'
  obtain ⟨w1, hw1⟩ : ∃ w1, w1 = w.setCell ⟨go, i, none⟩ (.int .i64 (-2)) := ⟨_, rfl⟩
  have O1 : Hid (Only (fun x => x = go ∨ x = gw) w w1) := by rw [hw1]; exact (only_c _ _ _ _).mono fun a _ e => .inl e
  have hsz : w1.heap.size = w.heap.size := by rw [hw1]; simp [World.setCell]
  rw [← hw1] at H1
  have B1 : Hid (Below w1.heap.size w1 (w1.alloc (.cells #[.int .i64 63] 3))) := (Below.refl _ _).alloc (Nat.le_refl _) _
  have H2 := hid (H1.out.below B1.out)
  have OW : Hid ((w1.alloc (.cells #[.int .i64 63] 3)).ownsRow w.heap.size 3 1 (.slice (some ⟨w1.heap.size, 0, none⟩) 1 1) 1 (ivs (8 :: List.range 0))) := ⟨rfl, .inr ⟨w1.heap.size, 1, _, rfl, by omega, heap_alloc_new w1 _, Nat.le_refl _, by decide, rfl, rfl⟩⟩
  obtain ⟨w2, hw2⟩ : ∃ w2, w2 = w1.alloc (.cells #[.int .i64 63] 3) := ⟨_, rfl⟩
  obtain ⟨nb, hnb⟩ : ∃ nb, nb = w1.heap.size := ⟨_, rfl⟩
  rw [← hw2] at H2 OW B1
  rw [← hnb] at OW
  obtain ⟨cw, zw⟩ := H2.out.cw i hi
  obtain ⟨cw1, zw1⟩ := H1.out.cw i hi
  have hgw1 : gw < w1.heap.size := by omega
  have hq1 : q < w1.heap.size := by omega
  have HSZ := hid hsz
  clear hsz
  have d4 : w2.cell? ⟨q, 4, none⟩ = some (.slice (some ⟨gw, 0, none⟩) v.n v.n) := H2.out.c4
  have d4' : w1.cell? ⟨q, 4, none⟩ = some (.slice (some ⟨gw, 0, none⟩) v.n v.n) := H1.out.c4
  have O2 : Hid (Only (fun x => x = go ∨ x = gw) w w2) := by rw [hw2]; exact O1.out.alloc _
  have HW1 := hid hw1
  have HW2 := hid hw2
  have HNB := hid hnb
  clear hw1 hw2 hnb
  go_enter Try.func16, Try.ntmps16
  go_upto_region 4 with fail
  rw [← HW1.out]
  clear c3 co zo c1 c2 c4
  go_upto_region 5 with fail
  rw [← World.setCell_alloc_past _ gw i _ hgw1, ← HW2.out, ← HNB.out]
  have H3 := hid (H2.out.putL i (.slice (some ⟨nb, 0, none⟩) 1 1) ⟨_, _, _, rfl⟩ 0 (fun z => absurd rfl z))
  rw [wait_self (v.own i (-2)) i 0 hsi] at H3
  obtain ⟨w3, hw3⟩ : ∃ w3, w3 = w2.setCell ⟨gw, i, none⟩ (.slice (some ⟨nb, 0, none⟩) 1 1) := ⟨_, rfl⟩
  have O3 : Hid (Only (fun x => x = go ∨ x = gw) w w3) := by rw [hw3]; exact O2.out.setCell (.inl (.inr rfl)) _
  have W3 : Hid (w3.ownsRow w.heap.size 3 1 (.slice (some ⟨nb, 0, none⟩) 1 1) 1 (ivs (8 :: List.range 0))) := by
    rw [hw3]
    obtain ⟨e1, e2⟩ := OW.out
    refine ⟨e1, ?_⟩
    rcases e2 with z | ⟨g, cap, cur, z1, z2, z3, z4⟩
    · exact .inl z
    · exact .inr ⟨g, cap, cur, z1, z2, (only_c _ _ _ _).old z3 (by omega), z4⟩
  rw [← hw3] at H3 ⊢
  clear hw3 H1 H2 OW O1 O2 B1 cw zw d4 d4' HW1 HW2 HNB cw1 zw1 hgw1 hq1 HSZ
  go_wp2_with fail
  go_loopw [5] (fun a wr => ∃ (t : Nat) (u : Value), t ≤ v.h ∧ a = .int .i64 t ∧ Hid (DL wr q go gw dm T (upd L i u) (v.own i (-2)) f ∧ wr.ownsRow w.heap.size 3 1 u (1 + t) (ivs (8 :: List.range t)) ∧ Only (fun x => x = go ∨ x = gw) w wr)) (fun a _ => v.h - (intOf a).toNat)
  case atStart => exact ⟨0, _, by omega, rfl, H3.out, W3.out, O3.out⟩
  case round =>
    clear H3 W3 O3
    obtain ⟨t, u, ht, rfl, hp⟩ := hrel
    have e2 : wr.cell? ⟨q, 2, none⟩ = some (.int .i64 v.h) := hp.out.1.c2
    by_cases hlt : t < v.h
    · have e4 : wr.cell? ⟨q, 4, none⟩ = some (.slice (some ⟨gw, 0, none⟩) v.n v.n) := hp.out.1.c4
      obtain ⟨cw, zw⟩ := hp.out.1.cw i hi
      rw [upd_same] at cw
      obtain ⟨ad, c, rfl, had⟩ := own_slice hp.out.2.1
      have HAD := hid had
      clear had
      have hW : w.heap.size ≤ wr.heap.size := hp.out.2.2.size
      have hgl : gw < wr.heap.size := lt_of_block hp.out.1.wts
      have hql : q < wr.heap.size := lt_of_block hp.out.1.top
      have HD : Hid (∀ x, Below wr.heap.size wr (wr.alloc x).drew) := fun x => ((Below.refl _ _).alloc (Nat.le_refl _) x).drew
      have HV := hid (one_new wr (.int .i64 (t : Int)) 3)
      have HZ : Hid (∀ w2, (wr.alloc (.cells #[.int .i64 (t : Int)] 3)).drew.grownBy w2 (Value.slice ad (1 + t) c).ownBlock → Only (fun k => w.heap.size ≤ k) wr w2) := fun w2 hg => ((Only.ofBelow (HD.out _)).trans (grown_only (S := fun _ => False) hg HAD.out))
      have HT : Hid (∀ w2, Only (fun k => w.heap.size ≤ k) wr w2 → DL w2 q go gw dm T (upd L i (.slice ad (1 + t) c)) (v.own i (-2)) f ∧ Only (fun x => x = go ∨ x = gw) w w2) := fun w2 ho => by
        refine ⟨hp.out.1.only ho (by omega) (by omega) (by omega) (fun x hx => ?_) (fun x hx => by have := HTl.out x hx; omega), hp.out.2.2.trans' ho fun a _ z => by omega⟩
        obtain ⟨j, hj, hs, a, l, c', e, rfl⟩ := hx
        have hji : j ≠ i := fun z => by subst z; exact hs hsi
        rw [upd_other _ _ _ _ hji] at e
        have := HLb.out a.block ⟨j, hj, hs, a, l, c', e, rfl⟩
        omega
      go_wp2_with fail
      go_region_law (refine C.step_append_own rfl (.tmp 73) (.tmp 75) 51 rfl w.heap.size 3 i0 (.int .i64 0) 1 8 u_sint hi0 hz0 hz1 hz2 rfl (by decide) (.slice ad (1 + t) c) (1 + t) (ivs (8 :: List.range t)) (by go_simp) (own_old hp.out.2.1 (HD.out _).block) ⟨wr.heap.size, 0, none⟩ 1 1 [.int .i64 (t : Int)] (by go_simp) rfl HV.out (by intro u hu; simp at hu; subst hu; rfl) (show 1 + t + 1 ≤ 9223372036854775807 by omega) (by omega) (by simp; omega) ?_; intro v' w2 hown hgrow; obtain ⟨ad2, c2', rfl, had2⟩ := own_slice hown; have HO2 := hid hown; have HG2 := hid (HT.out w2 (HZ.out w2 hgrow)); have y4 : w2.cell? ⟨q, 4, none⟩ = some (.slice (some ⟨gw, 0, none⟩) v.n v.n) := HG2.out.1.c4; obtain ⟨y7, y8⟩ := HG2.out.1.cw i hi; rw [upd_same] at y7; clear hown hgrow had2)
      all_goals (
        go_wp2_with fail
        go_roundw
        case rel => exact ⟨t + 1, .slice ad2 (1 + t + 1) c2', by omega, by go_num, by
          have hq := HG2.out.1.putL i (.slice ad2 (1 + t + 1) c2') ⟨_, _, _, rfl⟩ 0 (fun z => absurd rfl z)
          rw [wait_self (v.own i (-2)) i 0 hsi, upd_upd] at hq
          refine ⟨hq, own_set (iv_step t (by omega) ▸ HO2.out) hgw, HG2.out.2.setCell (.inl (.inr rfl)) _⟩⟩
        case measure => simp [intOf]; omega)
    · obtain rfl : t = v.h := by omega
      go_wp2_with fail
      go_ret
      have hms := ls_msk0 ⟨v.h, by omega⟩ h0
      have hlen : (8 :: List.range v.h).length = 1 + v.h := by simp; omega
      have hls : Ls wr go u (8 :: List.range v.h) := own_ls (by rw [hlen]; exact hp.out.2.1) hgo (by simp)
      refine ⟨rfl, u, hp.out.1.waitL i (msk v.h) (fun _ => ?_), hp.out.2.2, ?_⟩
      · rw [upd_same]
        rw [show lsN (v.own i (-2)).h (msk v.h) = 8 :: List.range v.h from hms]
        exact hls
      · obtain ⟨ad, c, rfl, had⟩ := own_slice hp.out.2.1
        obtain ⟨b, c', cur, e1, _⟩ := hls
        simp only [Value.slice.injEq] at e1
        obtain ⟨rfl, -, -⟩ := e1
        exact ⟨_, _, _, rfl, had _ rfl⟩
end Go.Proofs.Ytehghhonhfmieaa
namespace Go.Proofs.Ytehghhonhfmieaa
open Go.RowKit
open C (Only hid Mem RMem Still ret_bool ret_int put)
set_option linter.unusedVariables false
set_option maxRecDepth 100000

theorem wh_inj {a b : Nat} (ha : a < 9) (hb : b < 9) (h : wh a = wh b) : a = b := by unfold wh at h; split at h <;> split at h <;> omega
/-- those of the first t that are not k -/
def fl (l : List Nat) (k t : Nat) : List Nat := (l.take t).filter fun j => decide (j ≠ k)
theorem fl_hit (l : List Nat) (k t : Nat) (ht : t < l.length) (h : l[t] = k) : fl l k (t + 1) = fl l k t := by
  unfold fl
  rw [List.take_succ_eq_append_getElem ht, List.filter_append]
  simp [h]
theorem fl_miss (l : List Nat) (k t : Nat) (ht : t < l.length) (h : l[t] ≠ k) : fl l k (t + 1) = fl l k t ++ [l[t]] := by
  unfold fl
  rw [List.take_succ_eq_append_getElem ht, List.filter_append]
  simp [h]
theorem fl_len (l : List Nat) (k t : Nat) : (fl l k t).length ≤ l.length := by
  unfold fl
  exact Nat.le_trans (List.length_filter_le _ _) (by rw [List.length_take]; omega)
theorem fl_all (l : List Nat) (k : Nat) : fl l k l.length = l.filter fun j => decide (j ≠ k) := by unfold fl; rw [List.take_length]
theorem ivs_app (l : List Nat) (k : Nat) : ivs (l ++ [k]) = ivs l ++ [.int .i64 (wh k)] := by simp [ivs]
theorem z_Ack_no (w : World) (q go gw dm : Nat) (T : Nat → Prop) (L : Nat → Value) (v : PV) (f : Nat → Int) (h : DL w q go gw dm T L v f) (x : Int) (hx : akOk v x = false) (h63 : x ≠ 63) :
    Calls Try.prog 18 #[.pointer (some ⟨q, 0, none⟩), .int .i64 x] w fun e w' => e = .returned (.int .i64 0) ∧ w' = w := by
  have c2 := h.c2
  clear h
  simp [akOk] at hx
  go_enter Try.func18, Try.ntmps18
  by_cases h1 : x < 0
  · go_wp2; go_ret; exact ⟨rfl, rfl⟩
  · have h2 : x ≥ (v.h : Int) := by omega
    go_wp2; go_ret; exact ⟨rfl, rfl⟩
/-- what stands behind frames below j -/
def AJ (w wr : World) (q go gw dm : Nat) (T0 : Nat → Prop) (L0 : Nat → Value) (v : PV) (f : Nat → Int) (k j : Nat) : Prop := ∃ T L, DL wr q go gw dm T L (ackP v k j) (ackF v k j f) ∧ Only (fun x => x = go ∨ x = gw ∨ T0 x) w wr ∧ (∀ x, Lb (ackP v k j) L x → Lb v L0 x ∨ w.heap.size ≤ x) ∧ ∀ x, T x → T0 x
theorem AJ.skip {w wr : World} {q go gw dm : Nat} {T0 : Nat → Prop} {L0 : Nat → Value} {v : PV} {f : Nat → Int} {k j : Nat} (H : AJ w wr q go gw dm T0 L0 v f k j) (hs : v.s j = 0) : AJ w wr q go gw dm T0 L0 v f k (j + 1) ∧ ackN v k (j + 1) = ackN v k j := by
  have hne : v.s j ≠ 2 ^ k := by rw [hs]; have := Nat.two_pow_pos k; omega
  have e1 : ackP v k (j + 1) = ackP v k j := by rw [ackP_keep hne]; exact wait_self _ _ _ (by rw [ackP_s, hs, rm_0])
  unfold AJ
  rw [e1, ackF_keep f hne]
  exact ⟨H, by show (bif decide (v.s j = 2 ^ k) then ackN v k j + 1 else ackN v k j) = _; simp [hne]⟩
/-- the list of frame j is laid anew -/
theorem AJ.put {w wr w3 : World} {q go gw dm : Nat} {T0 : Nat → Prop} {L0 : Nat → Value} {v : PV} {f : Nat → Int} {k j : Nat} (ok : v.Ok) (hk : k < 9) (H : AJ w wr q go gw dm T0 L0 v f k j) (hj : j < v.n) (ho : Only (fun x => wr.heap.size ≤ x) wr w3) (u : Value) (hu : w3.ownsRow wr.heap.size 3 1 u (lsN v.h (rm k (v.s j))).length (ivs (lsN v.h (rm k (v.s j))))) :
    ∃ T L, DL (w3.setCell ⟨gw, j, none⟩ u) q go gw dm T L ((ackP v k j).wait j (rm k (v.s j))) (ackF v k j f) ∧ Only (fun x => x = go ∨ x = gw ∨ T0 x) w (w3.setCell ⟨gw, j, none⟩ u) ∧ (∀ x, Lb ((ackP v k j).wait j (rm k (v.s j))) L x → Lb v L0 x ∨ w.heap.size ≤ x) ∧ ∀ x, T x → T0 x := by
  obtain ⟨T, L, h1, h2, h3, h4⟩ := H
  have hlb := fun x hx => (h1.lb (x := x) hx).1
  have g1 : DL w3 q go gw dm T L (ackP v k j) (ackF v k j f) := h1.only ho (by have := lt_of_block h1.top; omega) (by have := lt_of_block h1.tab; omega) (by have := lt_of_block h1.wts; omega) (fun x hx => by have := hlb x hx; omega) (fun x hx => by have := h1.mem.lt hx; omega)
  have hgo := lt_of_block h1.tab
  obtain ⟨ad, c, rfl, had⟩ := own_slice hu
  refine ⟨T, upd L j (.slice ad (lsN v.h (rm k (v.s j))).length c), g1.putL j _ ⟨_, _, _, rfl⟩ (rm k (v.s j)) (fun hz => own_ls hu hgo fun z => ?_), (h2.trans' ho fun a ha z => by have := h2.size; omega).setCell (.inl (.inr (.inl rfl))) _, fun x hx => ?_, h4⟩
  · have hl := (orL_0 ⟨v.h, by have := ok.h1; omega⟩ ok.h0 ⟨rm k (v.s j), in_mask ok.h1 (mask_rm k (ok.sm j))⟩ (mask_rm k (ok.sm j))).2.1
    have hz2 : rm k (v.s j) = 0 := hl.1 (by show (lsN v.h (rm k (v.s j))).length = 0; rw [show lsN v.h (rm k (v.s j)) = [] from z]; rfl)
    exact hz hz2
  · obtain ⟨i, hi, hs, a, l, c', e, rfl⟩ := hx
    by_cases z : i = j
    · subst z
      rw [upd_same] at e
      cases e
      exact .inr (Nat.le_trans h2.size (had _ rfl))
    · rw [upd_other _ _ _ _ z] at e
      rw [show ((ackP v k j).wait j (rm k (v.s j))).s i = (ackP v k j).s i from upd_other _ _ _ _ z] at hs
      exact h3 a.block ⟨i, hi, hs, a, l, c', e, rfl⟩
theorem DL.turnM {w w' : World} {q go gw dm : Nat} {T T' : Nat → Prop} {L : Nat → Value} {v : PV} {f f' : Nat → Int} (h : DL w q go gw dm T L v f) (hm : RMem w' T' dm 0 v.n f') (ho : Only T w w') : DL w' q go gw dm T' L v f' := by
  have hn := h.ne
  exact ⟨ho.old h.top hn.2.2.2.1, ho.old h.tab hn.2.2.2.2.1, ho.old h.wts hn.2.2.2.2.2, hm, h.sl, fun i hi hs => by
    obtain ⟨b, c, cur, e1, e2, e3, e4⟩ := h.ls i hi hs
    exact ⟨b, c, cur, e1, e2, ho.old e3 (h.lb ⟨i, hi, hs, _, _, _, e1, rfl⟩).2.2.2.2, e4⟩⟩
theorem ackN_free {v : PV} {k j : Nat} (h : v.s j = 2 ^ k) : ackN v k (j + 1) = ackN v k j + 1 := by show (bif decide (v.s j = 2 ^ k) then ackN v k j + 1 else ackN v k j) = _; simp [h]
theorem ackN_keep {v : PV} {k j : Nat} (h : v.s j ≠ 2 ^ k) : ackN v k (j + 1) = ackN v k j := by show (bif decide (v.s j = 2 ^ k) then ackN v k j + 1 else ackN v k j) = _; simp [h]
set_option maxHeartbeats 8000000 in
theorem z_Ack (w : World) (q go gw dm : Nat) (T : Nat → Prop) (L : Nat → Value) (v : PV) (f : Nat → Int) (h : DL w q go gw dm T L v f) (ok : v.Ok) (x : Int) (k : Nat) (hk : k < 9) (hx : x = wh k) (hg : k = 8 ∨ k < v.h) :
    Calls Try.prog 18 #[.pointer (some ⟨q, 0, none⟩), .int .i64 x] w fun e w' => e = .returned (.int .i64 (ackN v k v.n)) ∧ AJ w w' q go gw dm T L v f k v.n := by
  have c2 := h.c2
  have n1 := ok.n1
  have h8 := ok.h1
  have OK := hid ok
  have HA : Hid (AJ w w q go gw dm T L v f k 0) := ⟨T, L, by rw [ackP_zero, ackF_zero]; exact h, .refl w, fun x hx => .inl (by rw [ackP_zero] at hx; exact hx), fun _ z => z⟩
  obtain ⟨i0, hi0, hz0, hz1, hz2⟩ := info_parts info_int
  have hxx : x = 63 ∨ (¬ x = 63 ∧ 0 ≤ x ∧ x < (v.h : Int)) := by
    rw [hx]; unfold wh
    rcases hg with rfl | hg
    · left; rfl
    · right; rw [if_neg (by omega)]; omega
  have HXW := hid hx
  clear h ok hx
  go_enter Try.func18, Try.ntmps18
  go_upto_region 1 with fail
  go_cut [22] from 9 to 22 (fun b wx => b = .bool false ∧ Hid (wx = w))
  case first =>
    rcases hxx with rfl | ⟨x1, x2, x3⟩
    · go_wp2_with fail
      go_meet
      exact ⟨rfl, rfl⟩
    · have x4 : ¬ x < 0 := by omega
      have x5 : ¬ x ≥ (v.h : Int) := by omega
      go_wp2_with fail
      go_meet
      exact ⟨by first | rfl | simp [x1], rfl⟩
  case rest =>
    obtain ⟨rfl, hwc⟩ := hcut
    obtain rfl := hwc.out.symm
    clear hxx c2
    go_wp2_with fail
    go_loopw [5, 6] (fun c i wr => ∃ j : Nat, j ≤ v.n ∧ i = .int .i64 j ∧ c = .int .i64 (ackN v k j) ∧ Hid (AJ w wr q go gw dm T L v f k j)) (fun c i _ => v.n - (intOf i).toNat)
    case atStart => exact ⟨0, by omega, rfl, rfl, HA⟩
    case round =>
      clear HA
      obtain ⟨j, hj, rfl, rfl, hp⟩ := hrel
      have hc := ackN_le v k j
      obtain ⟨T', L', h1, h2, h3, h4⟩ := hp.out
      have d3 : wr.cell? ⟨q, 3, none⟩ = some (.slice (some ⟨go, 0, none⟩) v.n v.n) := h1.c3
      by_cases hlt : j < v.n
      · have ho1 : (ackP v k j).o j = v.o j := by show (bif hit v k j j then 0 else v.o j) = v.o j; rw [show hit v k j j = false by unfold hit; simp]; rfl
        have co : wr.cell? ⟨go, j, none⟩ = some (.int .i64 (v.o j)) := by rw [(h1.co j hlt).1, ho1]
        by_cases hs : v.s j = 0
        · have hob : ¬ v.o j = -2 := fun z => (OK.out.li j).1 z hs
          obtain ⟨a1, a2⟩ := hp.out.skip hs
          have A1 := hid a1
          clear h1 h2 h3 h4 hp a1 hs
          go_wp2_with fail
          go_roundw
          case rel => exact ⟨j + 1, by omega, by go_num, by rw [a2], A1⟩
          case measure => first | (simp [intOf]; done) | (simp [intOf]; omega)
        · rw [(OK.out.li j).2 hs] at co
          have d4 : wr.cell? ⟨q, 4, none⟩ = some (.slice (some ⟨gw, 0, none⟩) v.n v.n) := h1.c4
          obtain ⟨b, c, cur, e1, e2, e3, e4⟩ := h1.ls j hlt (by rw [ackP_s]; exact hs)
          rw [ackP_s] at e1 e4
          have e4 : ∀ t (ht : t < (lsN v.h (v.s j)).length), cur[t]? = some (.int .i64 (wh (lsN v.h (v.s j))[t])) := e4
          have e1 : L' j = .slice (some ⟨b, 0, none⟩) (lsN v.h (v.s j)).length c := e1
          have cw := (h1.cw j hlt).1
          rw [e1] at cw
          have hlen := (orL_0 ⟨v.h, by omega⟩ OK.out.h0 ⟨v.s j, OK.out.sl j⟩ (OK.out.sm j)).2.2
          have hlen : (lsN v.h (v.s j)).length ≤ 9 := hlen
          have HC : Hid (∀ t (ht : t < (lsN v.h (v.s j)).length), wr.cell? ⟨b, t, none⟩ = some (.int .i64 (wh (lsN v.h (v.s j))[t]))) := fun t ht => by rw [cell_of_row wr b t _ _ _ e3]; exact e4 t ht
          have HM : Hid (∀ a, a ∈ lsN v.h (v.s j) → a < 9) := fun a ha => ls_mem h8 ha
          have HR := hid (ls_rm (h := v.h) (k := k) (OK.out.sl j) hk h8)
          have hbl := lt_of_block e3
          have hql := lt_of_block h1.top
          have hgl := lt_of_block h1.wts
          have HP := hid (h1.putL)
          clear h1 h2 h3 h4 e1 e2 e3 e4
          obtain ⟨l, hl⟩ : ∃ l, l = lsN v.h (v.s j) := ⟨_, rfl⟩
          rw [← hl] at HR HM HC hlen cw
          clear hl HP
          obtain ⟨wo, rfl⟩ : ∃ wo : World, wo = wr := ⟨_, rfl⟩
          go_wp2_with fail
          go_loopw [7, 8] (fun u i w3 => ∃ (t : Nat), t ≤ l.length ∧ i = .int .i64 t ∧ Hid (w3.ownsRow wo.heap.size 3 1 u (fl l k t).length (ivs (fl l k t)) ∧ Only (fun x => wo.heap.size ≤ x) wo w3)) (fun u i _ => l.length - (intOf i).toNat)
          case atStart => exact ⟨0, by omega, rfl, by rw [show fl l k 0 = [] from rfl]; exact World.ownsRow_nil _ _ _ _, .refl _⟩
          case round =>
            obtain ⟨t, ht, rfl, hq⟩ := hrel
            have hos := hq.out.2
            have k4 : wr.cell? ⟨q, 4, none⟩ = some (.slice (some ⟨gw, 0, none⟩) v.n v.n) := (hos.cell 4 hql (by omega)).trans d4
            have k5 : wr.cell? ⟨gw, j, none⟩ = some (.slice (some ⟨b, 0, none⟩) l.length c) := (hos.cell j hgl (by omega)).trans cw
            have hfl := fl_len l k t
            obtain ⟨ad, c', rfl, had⟩ := own_slice hq.out.1
            have HAD := hid had
            have hW : wo.heap.size ≤ wr.heap.size := hos.size
            clear had hos
            by_cases hlt2 : t < l.length
            · have k6 : wr.cell? ⟨b, t, none⟩ = some (.int .i64 (wh l[t])) := (hq.out.2.cell t hbl (by omega)).trans (HC.out t hlt2)
              have h9 := HM.out _ (List.getElem_mem hlt2)
              by_cases he : l[t] = k
              · have hf := fl_hit l k t hlt2 he
                rw [he, ← HXW.out] at k6
                clear he
                go_wp2_with fail
                go_roundw
                case rel => exact ⟨t + 1, by omega, by go_num, by rw [hf]; exact hq.out⟩
                case measure => first | (simp [intOf]; done) | (simp [intOf]; omega)
              · have hf := fl_miss l k t hlt2 he
                have hne : ¬ wh l[t] = x := fun z => he (wh_inj h9 hk (z.trans HXW.out))
                have hia := ivs_app (fl l k t) l[t]
                have HIA := hid hia
                have HF := hid hf
                have hb9 := wh_b l[t] h9
                obtain ⟨kk, hkk⟩ : ∃ kk, kk = wh l[t] := ⟨_, rfl⟩
                rw [← hkk] at k6 hne hb9
                have HKK := hid hkk
                obtain ⟨N, hN⟩ : ∃ N, N = (fl l k t).length := ⟨_, rfl⟩
                have HNN := hid hN
                rw [← hN] at hfl ⊢
                clear hia hf he hkk hN
                have HB : Hid (∀ z, Below wr.heap.size wr (wr.alloc z)) := fun z => (Below.refl _ _).alloc (Nat.le_refl _) z
                have HV := hid (one_new' wr (.int .i64 kk) 3)
                have HZ : Hid (∀ w2, (wr.alloc (.cells #[.int .i64 kk] 3)).grownBy w2 (Value.slice ad N c').ownBlock → Only (fun y => wo.heap.size ≤ y) wr w2) := fun w2 hg => ((Only.ofBelow (HB.out _)).trans (grown_only (S := fun _ => False) hg HAD.out))
                have HO : Hid ((wr.alloc (.cells #[.int .i64 kk] 3)).ownsRow wo.heap.size 3 1 (.slice ad N c') N (ivs (fl l k t))) := own_old (by rw [HNN.out]; exact hq.out.1) (HB.out _).block
                go_wp2_with (at_builtin; refine wpList_append_own _ rfl (.tmp 64) (.tmp 75) 51 rfl wo.heap.size 3 i0 (.int .i64 0) 1 8 u_sint hi0 hz0 hz1 hz2 rfl (by decide) (.slice ad N c') N (ivs (fl l k t)) rfl HO.out ⟨wr.heap.size, 0, none⟩ 1 1 [.int .i64 kk] rfl rfl HV.out (by intro u hu; simp at hu; subst hu; rfl) (show N + 1 ≤ 9223372036854775807 by omega) (by omega) (by simp; omega) ?_; intro v' w2 hown hgrow _; have HO2 := hid hown; have HG2 := hid (HZ.out w2 hgrow); clear hown hgrow)
                go_roundw
                case rel => exact ⟨t + 1, by omega, by go_num, by
                  rw [HF.out, HIA.out, List.length_append, ← HKK.out, ← HNN.out]
                  exact ⟨HO2.out, hq.out.2.trans HG2.out⟩⟩
                case measure => first | (simp [intOf]; done) | (simp [intOf]; omega)
            · obtain rfl : t = l.length := by omega
              have hfa : fl l k l.length = lsN v.h (rm k (v.s j)) := by rw [fl_all, HR.out]
              rw [hfa] at hq ⊢
              obtain ⟨T2, L2, g1, g2, g3, g4⟩ := hp.out.put OK.out hk hlt hq.out.2 _ hq.out.1
              have hzero := (orL_0 ⟨v.h, by omega⟩ OK.out.h0 ⟨rm k (v.s j), in_mask h8 (mask_rm k (OK.out.sm j))⟩ (mask_rm k (OK.out.sm j))).2.1
              have hzero : (lsN v.h (rm k (v.s j))).length = 0 ↔ rm k (v.s j) = 0 := hzero
              have hr0 := rm_zero (OK.out.sl j) hk
              have z5 : wr.frozen? ⟨gw, j, none⟩ = false := (World.frozen?_of_block (w := wo) (hq.out.2.block gw hgl (by omega))).trans (by obtain ⟨T9, L9, h9, _⟩ := hp.out; exact (h9.cw j hlt).2)
              obtain ⟨N, hN⟩ : ∃ N, N = (lsN v.h (rm k (v.s j))).length := ⟨_, rfl⟩
              rw [← hN] at hzero g1 g2 ⊢
              clear hN hfa hq
              obtain ⟨w4, hw4⟩ : ∃ w4, w4 = wr.setCell ⟨gw, j, none⟩ (.slice ad N c') := ⟨_, rfl⟩
              rw [← hw4] at g1 g2
              have HW4 := hid hw4
              have G1 := hid g1
              have G2 := hid g2
              have G3 := hid g3
              have G4 := hid g4
              clear hw4 g1 g2 g3 g4
              by_cases hone : v.s j = 2 ^ k
              · obtain rfl : N = 0 := hzero.2 (hr0.2 (.inr hone))
                have m0 : w4.cell? ⟨q, 0, none⟩ = some (.pointer (some ⟨dm, 0, none⟩)) := G1.out.c0
                have hC := C.q_Clear w4 T2 dm 0 v.n _ G1.out.mem j hlt
                have HQ : Hid (∀ w5 T3, RMem w5 T3 dm 0 v.n (put (ackF v k j f) (4096 * j) 4096 (fun _ => 0)) → Only T2 w4 w5 → (∀ x, T3 x → T2 x) → AJ w (w5.setCell ⟨go, j, none⟩ (.int .i64 0)) q go gw dm T L v f k (j + 1) ∧ (w5.cell? ⟨q, 3, none⟩ = some (.slice (some ⟨go, 0, none⟩) v.n v.n)) ∧ (∃ y, w5.cell? ⟨go, j, none⟩ = some (.int .i64 y)) ∧ w5.frozen? ⟨go, j, none⟩ = false) := by
                  intro w5 T3 hm ho hT
                  have q1 := G1.out.turnM hm ho
                  have q2 := q1.setO j 0
                  rw [← ackP_free hone, ← ackF_free f hone] at q2
                  refine ⟨⟨T3, L2, q2, (G2.out.trans (ho.mono fun y _ z => .inr (.inr (G4.out y z)))).setCell (.inl (.inl rfl)) _, fun y hy => ?_, fun y hy => G4.out y (hT y hy)⟩, q1.c3, ⟨_, (q1.co j hlt).1⟩, (q1.co j hlt).2⟩
                  rw [ackP_free hone] at hy
                  exact G3.out y hy
                have e1 := ackN_free (v := v) hone
                clear hone hzero hr0
                go_upto_region 15 with fail
                rw [← HW4.out]
                go_wp2_with (go_at_call 39; refine hC.mono ?_; rintro e w5 ⟨T3, rfl, m1, m2, m3⟩; have M := hid (HQ.out w5 T3 m1 m2 m3); have k7 := M.out.2.1; obtain ⟨y, k8⟩ := M.out.2.2.1; have k9 := M.out.2.2.2; clear m1 m2 m3)
                go_roundw
                case rel => exact ⟨j + 1, by omega, by go_num, by rw [e1]; go_num, M.out.1⟩
                case measure => first | (simp [intOf]; done) | (simp [intOf]; omega)
              · have hN0 : ¬ N = 0 := fun z => by
                  rcases hr0.1 (hzero.1 z) with y | y
                  · exact hs y
                  · exact hone y
                have e1 := ackN_keep (v := v) hone
                have A1 : Hid (AJ w w4 q go gw dm T L v f k (j + 1)) := by
                  refine ⟨T2, L2, ?_, G2.out, fun y hy => ?_, G4.out⟩
                  · rw [ackP_keep hone, ackF_keep f hone]; exact G1.out
                  · rw [ackP_keep hone] at hy; exact G3.out y hy
                clear hone hzero hr0
                go_upto_region 15 with fail
                rw [← HW4.out]
                go_wp2_with fail
                go_roundw
                case rel => exact ⟨j + 1, by omega, by go_num, by rw [e1], A1⟩
                case measure => first | (simp [intOf]; done) | (simp [intOf]; omega)
      · obtain rfl : j = v.n := by omega
        clear h1 h2 h3 h4
        go_wp2_with fail
        go_ret
        exact ⟨rfl, hp.out⟩
end Go.Proofs.Ytehghhonhfmieaa
namespace Go.Proofs.Ytehghhonhfmieaa
open Go.RowKit
open C (Only hid Mem RMem Still ret_bool ret_int put byt nu TB Tw Cl)
set_option linter.unusedVariables false
set_option maxRecDepth 100000

theorem mem_ty {w : World} {S : Nat → Prop} {p : Nat} {bs : Int} {n : Nat} {f : Nat → Int} (h : Mem w S p bs n f) {x : Nat} (hx : S x) : ∃ c t, w.heap[x]? = some (.cells c t (0, 0)) ∧ (t = 111 ∨ t = 121 ∨ t = 126) := by
  obtain ⟨g, hs, hr, rfl, hS⟩ := h
  rcases (hS x).1 hx with rfl | rfl | ⟨i, hi⟩
  · exact ⟨_, _, hr.top, .inl rfl⟩
  · exact ⟨_, _, hr.tab, .inr (.inl rfl)⟩
  · exact ⟨_, _, hr.full i x hi, .inr (.inr rfl)⟩
theorem rmem_ty {w : World} {S : Nat → Prop} {p : Nat} {bs : Int} {n : Nat} {f : Nat → Int} (h : RMem w S p bs n f) {x : Nat} (hx : S x) : ∃ c t, w.heap[x]? = some (.cells c t (0, 0)) ∧ (t = 89 ∨ t = 99 ∨ t = 5) := by
  obtain ⟨g, hs, hr, rfl, hS⟩ := h
  rcases (hS x).1 hx with rfl | rfl | ⟨i, c, hi⟩
  · exact ⟨_, _, hr.top, .inl rfl⟩
  · exact ⟨_, _, hr.tab, .inr (.inl rfl)⟩
  · obtain ⟨_, cur, hg, _⟩ := hr.full i x c hi
    exact ⟨_, _, hg, .inr (.inr rfl)⟩
def tyF (t : Nat) : Bool := t == 81 || t == 86 || t == 30 || t == 111 || t == 121 || t == 126
def tyG (t : Nat) : Bool := t == 92 || t == 3 || t == 51 || t == 89 || t == 99 || t == 5
theorem ty_no (t : Nat) (h1 : tyF t = true) : tyG t = false := by
  simp [tyF] at h1
  rcases h1 with ((((h1 | h1) | h1) | h1) | h1) | h1 <;> subst h1 <;> rfl
section
variable {w w' : World} {p q dm : Nat} {F G F' G' : Nat → Prop} {v v2 : PV} {f f2 : Nat → Int}
theorem Pool.ty (h : Pool w F p v f) {x : Nat} (hx : F x) : ∃ c t, w.heap[x]? = some (.cells c t (0, 0)) ∧ tyF t = true := by
  obtain ⟨g, d, k, B, S, hp, ok, hF⟩ := h
  rcases (hF x).1 hx with rfl | rfl | y | y
  · exact ⟨_, _, hp.top, rfl⟩
  · exact ⟨_, _, hp.tab, rfl⟩
  · obtain ⟨cur, y⟩ := hp.bits.typ y; exact ⟨_, _, y, rfl⟩
  · obtain ⟨c, t, h1, h2⟩ := mem_ty hp.mem y
    refine ⟨c, t, h1, ?_⟩
    rcases h2 with rfl | rfl | rfl <;> rfl
theorem DPool.ty (h : DPool w G q dm v f) {x : Nat} (hx : G x) : ∃ c t, w.heap[x]? = some (.cells c t (0, 0)) ∧ tyG t = true := by
  obtain ⟨go, gw, T, L, hp, ok, hG⟩ := h
  rcases (hG x).1 hx with rfl | rfl | rfl | ⟨i, hi, hs, a, l, c, e, rfl⟩ | y
  · exact ⟨_, _, hp.top, rfl⟩
  · exact ⟨_, _, hp.tab, rfl⟩
  · exact ⟨_, _, hp.wts, rfl⟩
  · obtain ⟨b, c', cur, e1, e2, e3, e4⟩ := hp.ls i hi hs
    rw [e] at e1
    simp only [Value.slice.injEq, Option.some.injEq] at e1
    rw [e1.1]
    exact ⟨_, _, e3, rfl⟩
  · obtain ⟨c, t, h1, h2⟩ := rmem_ty hp.mem y
    refine ⟨c, t, h1, ?_⟩
    rcases h2 with rfl | rfl | rfl <;> rfl
theorem Pool.ne (h : Pool w F p v f) {x : Nat} {c : Array Value} {t : Nat} (hx : w.heap[x]? = some (.cells c t (0, 0))) (ht : tyF t = false) : ¬ F x := fun z => by
  obtain ⟨c', t', h1, h2⟩ := h.ty z
  rw [hx] at h1
  simp at h1
  rw [← h1.2, ht] at h2
  cases h2
theorem DPool.ne (h : DPool w G q dm v f) {x : Nat} {c : Array Value} {t : Nat} (hx : w.heap[x]? = some (.cells c t (0, 0))) (ht : tyG t = false) : ¬ G x := fun z => by
  obtain ⟨c', t', h1, h2⟩ := h.ty z
  rw [hx] at h1
  simp at h1
  rw [← h1.2, ht] at h2
  cases h2
theorem DPool.ok (h : DPool w G q dm v f) : v.Ok := by obtain ⟨_, _, _, _, _, z, _⟩ := h; exact z
end
/-- the program's pool at v, the document's at v2 -/
structure PD (W w : World) (b : Nat) (F G : Nat → Prop) (p q dm : Nat) (v v2 : PV) (f f2 : Nat → Int) : Prop where
  pl : Pool w F p v f
  dp : DPool w G q dm v2 f2
  tb : TB w b v.m dm
  new : Below W.heap.size W w
  own : ∀ k, F k ∨ G k → W.heap.size ≤ k
/-- what is no block of either stays -/
def Kps (w w' : World) : Prop := ∀ (x : Nat) (c : Array Value) (t : Nat), tyF t = false → tyG t = false → w.heap[x]? = some (Obj.cells c t (0, 0)) → w'.heap[x]? = some (Obj.cells c t (0, 0))
theorem Kps.cell {w w' : World} (h : Kps w w') {x k : Nat} {c : Array Value} (hx : w.heap[x]? = some (.cells c 40 (0, 0))) : w'.heap[x]? = some (.cells c 40 (0, 0)) := h x c _ rfl rfl hx
section
variable {W w w' : World} {b p q dm : Nat} {F G F' G' : Nat → Prop} {v v' v2 : PV} {f f' f2 : Nat → Int}
theorem PD.turnF (h : PD W w b F G p q dm v v2 f f2) (hp : Pool w' F' p v' f') (ho : Only F w w') (hF : ∀ k, F' k → F k ∨ w.heap.size ≤ k) (hm : v'.m = v.m) : PD W w' b F' G p q dm v' v2 f' f2 ∧ Kps w w' := by
  refine ⟨⟨hp, h.dp.only ho fun x hx z => ?_, by rw [hm]; exact ho.old h.tb (h.pl.ne h.tb rfl), h.new.trans (ho.below _ h.new.size fun k z => h.own k (.inl z)), fun k z => ?_⟩, fun x c t h1 h2 hx => ho.old hx (h.pl.ne hx h1)⟩
  · obtain ⟨c, t, e1, e2⟩ := h.pl.ty z
    exact h.dp.ne e1 (ty_no t e2) hx
  · rcases z with z | z
    · exact (hF k z).elim (fun y => h.own k (.inl y)) fun y => Nat.le_trans h.new.size y
    · exact h.own k (.inr z)
theorem PD.turnG (h : PD W w b F G p q dm v v2 f f2) {v2' : PV} {f2' : Nat → Int} (hp : DPool w' G' q dm v2' f2') (ho : Only G w w') (hG : ∀ k, G' k → G k ∨ w.heap.size ≤ k) : PD W w' b F G' p q dm v v2' f f2' ∧ Kps w w' := by
  refine ⟨⟨h.pl.only ho fun x hx z => ?_, hp, ho.old h.tb (h.dp.ne h.tb rfl), h.new.trans (ho.below _ h.new.size fun k z => h.own k (.inr z)), fun k z => ?_⟩, fun x c t h1 h2 hx => ho.old hx (h.dp.ne hx h2)⟩
  · obtain ⟨c, t, e1, e2⟩ := h.pl.ty hx
    exact h.dp.ne e1 (ty_no t e2) z
  · rcases z with z | z
    · exact h.own k (.inl z)
    · exact (hG k z).elim (fun y => h.own k (.inr y)) fun y => Nat.le_trans h.new.size y
theorem PD.below (h : PD W w b F G p q dm v v2 f f2) (hb : Below w.heap.size w w') : PD W w' b F G p q dm v v2 f f2 :=
  (h.turnF (F' := F) (h.pl.only (T := fun _ => False) (.ofBelow hb) fun _ _ q => q) (.ofBelow hb) (fun _ z => .inl z) rfl).1
end
section
variable (W w : World) (b p q dm : Nat) (F G : Nat → Prop) (v v2 : PV) (f f2 : Nat → Int) (h : PD W w b F G p q dm v v2 f f2)
include h
theorem f_Take (x : Int) (a e : Int) (v' : PV) (hx : tk v x = (a, e, v')) : Calls Try.prog 13 #[.pointer (some ⟨p, 0, none⟩), .int .i64 x] w fun r w' => r = .returned (.tuple #[.int .i64 a, .int .i64 e]) ∧ ∃ F', PD W w' b F' G p q dm v' v2 f f2 ∧ Kps w w' := by
  refine (x_Take w F p v f h.pl x).mono ?_
  have hm : (tk v x).2.2.m = v.m := by unfold tk; cases may x <;> cases decide (ff v.o v.n < v.n) <;> rfl
  rw [hx] at hm ⊢
  rintro r w' ⟨rfl, h1, h2⟩
  exact ⟨rfl, F, h.turnF h1 h2 (fun _ z => .inl z) hm⟩
theorem g_Take (x : Int) (a e : Int) (v' : PV) (hx : tk v2 x = (a, e, v')) : Calls Try.prog 14 #[.pointer (some ⟨q, 0, none⟩), .int .i64 x] w fun r w' => r = .returned (.tuple #[.int .i64 a, .int .i64 e]) ∧ ∃ G', PD W w' b F G' p q dm v v' f f2 ∧ Kps w w' := by
  refine (z_Take w G q dm v2 f2 h.dp x).mono ?_
  rw [hx]
  rintro r w' ⟨rfl, h1, h2⟩
  exact ⟨rfl, G, h.turnG h1 h2 (fun _ z => .inl z)⟩
theorem f_Release (x : Int) (e : Int) (v' : PV) (hx : rl v x = (e, v')) : Calls Try.prog 15 #[.pointer (some ⟨p, 0, none⟩), .int .i64 x] w fun r w' => r = .returned (.int .i64 e) ∧ ∃ F', PD W w' b F' G p q dm v' v2 f f2 ∧ Kps w w' := by
  cases z : rlOk v x
  · have : rl v x = (11, v) := by unfold rl; rw [z]; rfl
    rw [this] at hx
    cases hx
    refine (x_Release_no w F p v f h.pl x z).mono ?_
    rintro r w' ⟨rfl, rfl⟩
    exact ⟨rfl, F, h, fun _ _ _ _ _ z => z⟩
  · have e1 : (rl v x).1 = 0 := by unfold rl; rw [z]; rfl
    have hm : (rl v x).2.m = v.m := by unfold rl; rw [z]; rfl
    refine (x_Release w F p v f h.pl x z).mono ?_
    rw [hx] at e1 hm ⊢
    obtain rfl : e = 0 := e1
    rintro r w' ⟨rfl, F', h1, h2, h3⟩
    exact ⟨rfl, F', h.turnF h1 h2 h3 hm⟩
theorem g_Release (x : Int) (e : Int) (v' : PV) (hx : rl v2 x = (e, v')) : Calls Try.prog 16 #[.pointer (some ⟨q, 0, none⟩), .int .i64 x] w fun r w' => r = .returned (.int .i64 e) ∧ ∃ G', PD W w' b F G' p q dm v v' f f2 ∧ Kps w w' := by
  have hok := h.dp.ok.release x
  obtain ⟨go, gw, T, L, hp, ok, hG⟩ := h.dp
  rcases rl_cases v2 x with ⟨i, rfl, hi, hr, hm, ht⟩ | ⟨hn, ht⟩
  · rw [ht] at hx hok
    cases hx
    refine (z_Release w q go gw dm T L v2 f2 hp ok i hi hr hm).mono ?_
    rintro r w' ⟨rfl, u, h1, h2, a, l, c, rfl, h3⟩
    refine ⟨rfl, _, h.turnG ⟨go, gw, T, _, h1, hok, fun x => Iff.rfl⟩ (h2.mono fun y _ z => (hG y).2 (z.elim (fun z => .inr (.inl z)) fun z => .inr (.inr (.inl z)))) ?_⟩
    rintro y (z | z | z | ⟨j, hj, hs, a', l', c', e, rfl⟩ | z)
    · exact .inl ((hG y).2 (.inl z))
    · exact .inl ((hG y).2 (.inr (.inl z)))
    · exact .inl ((hG y).2 (.inr (.inr (.inl z))))
    · by_cases hji : j = i
      · subst hji
        rw [upd_same] at e
        cases e
        exact .inr h3
      · rw [upd_other _ _ _ _ hji] at e
        rw [show ((v2.own i (-2)).wait i (msk v2.h)).s j = v2.s j from upd_other _ _ _ _ hji] at hs
        exact .inl ((hG _).2 (.inr (.inr (.inr (.inl ⟨j, hj, hs, a', l', c', e, rfl⟩)))))
    · exact .inl ((hG y).2 (.inr (.inr (.inr (.inr z)))))
  · rw [ht] at hx
    cases hx
    refine (z_Release_no w q go gw dm T L v2 f2 hp ok x hn).mono ?_
    rintro r w' ⟨rfl, rfl⟩
    exact ⟨rfl, G, h, fun _ _ _ _ _ z => z⟩
theorem f_Ack (x : Int) (r' : Int) (v' : PV) (f' : Nat → Int) (h1 : akR v x = r') (h2 : akV v x = v') (h3 : akF v x f = f') : Calls Try.prog 17 #[.pointer (some ⟨p, 0, none⟩), .int .i64 x] w fun r w' => r = .returned (.int .i64 r') ∧ ∃ F', PD W w' b F' G p q dm v' v2 f' f2 ∧ Kps w w' := by
  subst h1 h2 h3
  unfold akR akV akF
  cases z : akOk v x
  · refine (x_Ack_no w F p v f h.pl x z).mono ?_
    rintro r w' ⟨rfl, rfl⟩
    exact ⟨rfl, F, h, fun _ _ _ _ _ z => z⟩
  · refine (x_Ack w F p v f h.pl x z).mono ?_
    rintro r w' ⟨rfl, F', h1, h2, h3⟩
    exact ⟨rfl, F', h.turnF h1 h2 h3 rfl⟩
theorem f_AckD (r' : Nat) (v' : PV) (f' : Nat → Int) (h1 : ackN v 8 v.n = r') (h2 : ackP v 8 v.n = v') (h3 : ackF v 8 v.n f = f') : Calls Try.prog 19 #[.pointer (some ⟨p, 0, none⟩)] w fun r w' => r = .returned (.int .i64 r') ∧ ∃ F', PD W w' b F' G p q dm v' v2 f' f2 ∧ Kps w w' := by
  subst h1 h2 h3
  refine (x_AckDevices w F p v f h.pl).mono ?_
  rintro r w' ⟨rfl, F', h1, h2, h3⟩
  exact ⟨rfl, F', h.turnF h1 h2 h3 rfl⟩
theorem g_AckP (k : Nat) (hk : k < 9) (x : Int) (hx : x = wh k) (hg : k = 8 ∨ k < v2.h) (r' : Nat) (v' : PV) (f' : Nat → Int) (h1 : ackN v2 k v2.n = r') (h2 : ackP v2 k v2.n = v') (h3 : ackF v2 k v2.n f2 = f') : Calls Try.prog 18 #[.pointer (some ⟨q, 0, none⟩), .int .i64 x] w fun r w' => r = .returned (.int .i64 r') ∧ ∃ G', PD W w' b F G' p q dm v v' f f' ∧ Kps w w' := by
  subst h1 h2 h3
  obtain ⟨go, gw, T, L, hp, ok, hG⟩ := h.dp
  refine (z_Ack w q go gw dm T L v2 f2 hp ok x k hk hx hg).mono ?_
  rintro r w' ⟨rfl, T', L', h1, h2, h3, h4⟩
  refine ⟨rfl, _, h.turnG ⟨go, gw, T', L', h1, ok.ack k v2.n hk, fun x => Iff.rfl⟩ (h2.mono fun y _ z => (hG y).2 ?_) ?_⟩
  · rcases z with z | z | z
    · exact .inr (.inl z)
    · exact .inr (.inr (.inl z))
    · exact .inr (.inr (.inr (.inr z)))
  · rintro y (z | z | z | z | z)
    · exact .inl ((hG y).2 (.inl z))
    · exact .inl ((hG y).2 (.inr (.inl z)))
    · exact .inl ((hG y).2 (.inr (.inr (.inl z))))
    · exact (h3 y z).elim (fun z => .inl ((hG y).2 (.inr (.inr (.inr (.inl z)))))) .inr
    · exact .inl ((hG y).2 (.inr (.inr (.inr (.inr (h4 y z))))))
theorem g_Ack (x : Int) (h63 : x ≠ 63) (r' : Int) (v' : PV) (f' : Nat → Int) (h1 : akR v2 x = r') (h2 : akV v2 x = v') (h3 : akF v2 x f2 = f') : Calls Try.prog 18 #[.pointer (some ⟨q, 0, none⟩), .int .i64 x] w fun r w' => r = .returned (.int .i64 r') ∧ ∃ G', PD W w' b F G' p q dm v v' f f' ∧ Kps w w' := by
  subst h1 h2 h3
  unfold akR akV akF
  have h8 := h.dp.ok.h1
  cases z : akOk v2 x
  · obtain ⟨go, gw, T, L, hp, ok, hG⟩ := h.dp
    refine (z_Ack_no w q go gw dm T L v2 f2 hp x z h63).mono ?_
    rintro r w' ⟨rfl, rfl⟩
    exact ⟨rfl, G, h, fun _ _ _ _ _ z => z⟩
  · have hx : 0 ≤ x ∧ x < (v2.h : Int) := by simpa [akOk] using z
    obtain ⟨k, rfl⟩ := Int.eq_ofNat_of_zero_le hx.1
    exact g_AckP W w b p q dm F G v v2 f f2 h k (by omega) _ (by unfold wh; rw [if_neg (by omega)]) (.inr (by omega)) _ _ _ rfl rfl rfl
theorem f_Owner (x : Int) : Calls Try.prog 21 #[.pointer (some ⟨p, 0, none⟩), .int .i64 x] w fun e w' => e = .returned (.int .i64 (ownF v x)) ∧ w' = w := by
  obtain ⟨g, d, k, B, S, hp, ok, hF⟩ := h.pl
  exact c_Owner w p g d k B S v f hp ok x
theorem f_Waits (x : Int) : Calls Try.prog 23 #[.pointer (some ⟨p, 0, none⟩), .int .i64 x] w fun e w' => e = .returned (.int .u64 (waitF v x)) ∧ w' = w := by
  obtain ⟨g, d, k, B, S, hp, ok, hF⟩ := h.pl
  exact c_Waits w p g d k B S v f hp ok x
theorem f_Count (x : Int) : Calls Try.prog 25 #[.pointer (some ⟨p, 0, none⟩), .int .i64 x] w fun e w' => e = .returned (.int .i64 (cnt v.o x v.n)) ∧ w' = w := by
  obtain ⟨g, d, k, B, S, hp, ok, hF⟩ := h.pl
  exact c_Count w p g d k B S v f hp ok x
theorem g_Owner (x : Int) : Calls Try.prog 22 #[.pointer (some ⟨q, 0, none⟩), .int .i64 x] w fun e w' => e = .returned (.int .i64 (ownF v2 x)) ∧ w' = w := by
  obtain ⟨go, gw, T, L, hp, ok, hG⟩ := h.dp
  exact z_Owner w q go gw dm T L v2 f2 hp ok x
theorem g_Bits (x : Int) : Calls Try.prog 24 #[.pointer (some ⟨q, 0, none⟩), .int .i64 x] w fun e w' => e = .returned (.int .u64 (waitF v2 x)) ∧ w' = w := by
  obtain ⟨go, gw, T, L, hp, ok, hG⟩ := h.dp
  exact z_Bits w q go gw dm T L v2 f2 hp ok x
theorem g_Count (x : Int) : Calls Try.prog 26 #[.pointer (some ⟨q, 0, none⟩), .int .i64 x] w fun e w' => e = .returned (.int .i64 (cnt v2.o x v2.n)) ∧ w' = w := by
  obtain ⟨go, gw, T, L, hp, ok, hG⟩ := h.dp
  exact z_Count w q go gw dm T L v2 f2 hp ok x
end
section
variable (W w : World) (b p q dm : Nat) (F G : Nat → Prop) (v : PV) (f : Nat → Int) (h : PD W w b F G p q dm v v f f)
include h
/-- a number is written into both memories -/
theorem h_Write (off : Nat) (hl : off + 8 ≤ 4096 * v.n) (a y : Int) (ha : a = (off : Int)) (y0 : 0 ≤ y) (y1 : y < 18446744073709551616) : Calls Try.prog 20 #[.agg #[.pointer (some ⟨v.m, 0, none⟩), .pointer (some ⟨dm, 0, none⟩)], .int .u64 a, .int .i64 8, .int .u64 y] w fun r w' => r = .returned (.tuple #[]) ∧ ∃ F' G', PD W w' b F' G' p q dm v v (put f off 8 (byt y)) (put f off 8 (byt y)) := by
  obtain ⟨g, d, k, B, S, hp, ok, hF⟩ := h.pl
  obtain ⟨go, gw, T, L, hd, _, hG⟩ := h.dp
  have ht : Tw w (fun x => S x ∨ T x) v.m dm v.n f := ⟨S, T, hp.mem, hd.mem, fun _ => Iff.rfl, fun x hx hy => by
    obtain ⟨c, t, e1, e2⟩ := mem_ty hp.mem hx
    exact rmem_typ hd.mem e1 (by rcases e2 with rfl | rfl | rfl <;> decide) (by rcases e2 with rfl | rfl | rfl <;> decide) (by rcases e2 with rfl | rfl | rfl <;> decide) hy⟩
  refine (C.c_TwoWrite w _ v.m dm v.n f ht off hl y y0 y1 a ha).mono ?_
  rintro r w' ⟨rfl, U', ⟨S', T', m1, m2, m3, m4⟩, ho, hU⟩
  have noF : ∀ x c t, w.heap[x]? = some (.cells c t (0, 0)) → (t ≠ 111 ∧ t ≠ 121 ∧ t ≠ 126) → (t ≠ 89 ∧ t ≠ 99 ∧ t ≠ 5) → ¬ (S x ∨ T x) := fun x c t hx h1 h2 z => by
    rcases z with z | z
    · exact hp.mem.typ hx h1.1 h1.2.1 h1.2.2 z
    · exact rmem_typ hd.mem hx h2.1 h2.2.1 h2.2.2 z
  have bOld : ∀ x, B x → ¬ (S x ∨ T x) := fun x hx => by
    obtain ⟨cur, z⟩ := hp.bits.typ hx
    exact noF x _ _ z (by decide) (by decide)
  have lOld : ∀ x, Lb v L x → ¬ (S x ∨ T x) := fun x hx => by
    obtain ⟨i, hi, hs, a', l, c, e, rfl⟩ := hx
    obtain ⟨b', c', cur, e1, e2, e3, e4⟩ := hd.ls i hi hs
    rw [e] at e1
    simp only [Value.slice.injEq, Option.some.injEq] at e1
    rw [e1.1]
    exact noF _ _ _ e3 (by decide) (by decide)
  have hP : PL w' p g d k B S' v (put f off 8 (byt y)) := ⟨ho.old hp.top (noF _ _ _ hp.top (by decide) (by decide)), ho.old hp.tab (noF _ _ _ hp.tab (by decide) (by decide)), hp.bits.only ho bOld, m1⟩
  have hD : DL w' q go gw dm T' L v (put f off 8 (byt y)) := ⟨ho.old hd.top (noF _ _ _ hd.top (by decide) (by decide)), ho.old hd.tab (noF _ _ _ hd.tab (by decide) (by decide)), ho.old hd.wts (noF _ _ _ hd.wts (by decide) (by decide)), m2, hd.sl, fun i hi hs => by
    obtain ⟨b', c', cur, e1, e2, e3, e4⟩ := hd.ls i hi hs
    exact ⟨b', c', cur, e1, e2, ho.old e3 (noF _ _ _ e3 (by decide) (by decide)), e4⟩⟩
  refine ⟨rfl, _, _, ⟨⟨g, d, k, B, S', hP, ok, fun x => Iff.rfl⟩, ⟨go, gw, T', L, hD, ok, fun x => Iff.rfl⟩, ho.old h.tb (noF _ _ _ h.tb (by decide) (by decide)), h.new.trans (ho.below _ h.new.size fun x z => h.own x (z.elim (fun z => .inl ((hF x).2 (.inr (.inr (.inr z))))) fun z => .inr ((hG x).2 (.inr (.inr (.inr (.inr z))))))), ?_⟩⟩
  have hs' : ∀ x, S' x ∨ T' x → W.heap.size ≤ x := fun x hx => by
    rcases hU x ((m3 x).2 hx) with (z | z) | z
    · exact h.own x (.inl ((hF x).2 (.inr (.inr (.inr z)))))
    · exact h.own x (.inr ((hG x).2 (.inr (.inr (.inr (.inr z))))))
    · exact Nat.le_trans h.new.size z
  rintro x ((z | z | z | z) | (z | z | z | z | z))
  · exact h.own x (.inl ((hF x).2 (.inl z)))
  · exact h.own x (.inl ((hF x).2 (.inr (.inl z))))
  · exact h.own x (.inl ((hF x).2 (.inr (.inr (.inl z)))))
  · exact hs' x (.inl z)
  · exact h.own x (.inr ((hG x).2 (.inl z)))
  · exact h.own x (.inr ((hG x).2 (.inr (.inl z))))
  · exact h.own x (.inr ((hG x).2 (.inr (.inr (.inl z)))))
  · exact h.own x (.inr ((hG x).2 (.inr (.inr (.inr (.inl z))))))
  · exact hs' x (.inr z)
theorem h_Same : Calls Try.prog 27 #[.agg #[.pointer (some ⟨v.m, 0, none⟩), .pointer (some ⟨dm, 0, none⟩)]] w fun r w' => r = .returned (.bool true) ∧ Below w.heap.size w w' := by
  obtain ⟨g, d, k, B, S, hp, ok, hF⟩ := h.pl
  obtain ⟨go, gw, T, L, hd, _, hG⟩ := h.dp
  refine (C.c_Same w S T v.m dm 0 v.n f hp.mem hd.mem).mono ?_
  rintro r w' hh
  exact hh
end
end Go.Proofs.Ytehghhonhfmieaa
