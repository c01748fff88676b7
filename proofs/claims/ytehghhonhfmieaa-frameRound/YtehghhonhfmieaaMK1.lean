/- States of a pool by what its frames wait for: what calls do to them. Nothing here walks. -/
import Derived.Test.YtehghhonhfmieaaFCN
import Derived.Test.YtehghhonhfmieaaMC2
import Derived.Test.YtehghhonhfmieaaMH2
namespace Go.Proofs.Ytehghhonhfmieaa
open Go.RowKit
open C (Only hid Mem RMem Still ret_bool ret_int put byt nu TB Tw Cl fcl c_Place)
set_option linter.unusedVariables false
set_option maxRecDepth 100000

/-- bits a to h - 1 -/
def ub (h a : Nat) : Nat := 2 ^ h - 2 ^ a
theorem ub_rm0 : ∀ h a : Fin 9, (a : Nat) < h → rm a (ub h a) = ub h (a + 1) ∧ rm a (ub h a + 256) = ub h (a + 1) + 256 ∧ ub h a + 256 ≠ 2 ^ (a : Nat) ∧ (ub h a = 2 ^ (a : Nat) ↔ (a : Nat) + 1 = h) := by decide +kernel
theorem ub_8 : ∀ h : Fin 9, 0 < (h : Nat) → rm 8 (msk h) = ub h 0 ∧ msk h = ub h 0 + 256 ∧ msk h ≠ 2 ^ 8 ∧ ub h h = 0 := by decide +kernel
theorem ub_pos : ∀ h a : Fin 9, (a : Nat) < h → ub h a ≠ 0 := by decide +kernel
structure SS (v : PV) (K h : Nat) (p : Nat → Nat) (e : Nat → Bool) : Prop where
  n : v.n = K
  h : v.h = h
  r : v.r = 0
  s : ∀ j, j < K → v.s j = p j
  o : ∀ j, j < K → p j = 0 → (bif e j then v.o j = 0 else may (v.o j) = true)
theorem SS.congr {v : PV} {K h : Nat} {p p' : Nat → Nat} {e e' : Nat → Bool} (H : SS v K h p e) (h1 : ∀ j, j < K → p' j = p j) (h2 : ∀ j, j < K → p j = 0 → e' j = e j) : SS v K h p' e' :=
  ⟨H.n, H.h, H.r, fun j hj => (H.s j hj).trans (h1 j hj).symm, fun j hj hp => by rw [h1 j hj] at hp; rw [h2 j hj hp]; exact H.o j hj hp⟩
theorem SS.rel {v : PV} {K h : Nat} {p : Nat → Nat} {e : Nat → Bool} (H : SS v K h p e) {i : Nat} (hi : i < K) (hp : p i = 0) (he : e i = false) : ∃ v', rl v (i : Int) = (0, v') ∧ SS v' K h (upd p i (msk h)) e := by
  have ho := H.o i hi hp
  rw [he] at ho
  have hok : rlOk v (i : Int) = true := by
    unfold rlOk
    rw [H.n, H.r]
    simp [hi]
    exact ho
  refine ⟨(rl v (i : Int)).2, ?_, ?_⟩
  · unfold rl; rw [hok]; rfl
  · unfold rl; rw [hok]
    refine ⟨H.n, H.h, H.r, fun j hj => ?_, fun j hj hq => ?_⟩
    · show upd v.s i (msk v.h) j = upd p i (msk h) j
      unfold upd; split
      · rw [H.h]
      · exact H.s j hj
    · have hne : j ≠ i := fun z => by subst z; rw [upd_same] at hq; exact msk_pos _ hq
      rw [upd_other _ _ _ _ hne] at hq
      show bif e j then upd v.o i (-2) j = 0 else may (upd v.o i (-2) j) = true
      rw [upd_other _ _ _ _ hne]
      exact H.o j hj hq
theorem SS.relNo {v : PV} {K h : Nat} {p : Nat → Nat} {e : Nat → Bool} (H : SS v K h p e) (ok : v.Ok) {i : Nat} (hi : i < K) (hp : p i ≠ 0) : rl v (i : Int) = (11, v) := by
  have hs := H.s i hi
  have ho := (ok.li i).2 (by rw [hs]; exact hp)
  have : rlOk v (i : Int) = false := by
    unfold rlOk
    simp only [Int.toNat_natCast, ho]
    simp [may]
  unfold rl; rw [this]; rfl
theorem SS.ack {v : PV} {K h : Nat} {p : Nat → Nat} {e : Nat → Bool} (H : SS v K h p e) (ok : v.Ok) (k : Nat) (hk : k < 9) : SS (ackP v k v.n) K h (fun j => rm k (p j)) (fun j => e j || decide (p j = 2 ^ k)) := by
  refine ⟨H.n, H.h, H.r, fun j hj => ?_, fun j hj hq => ?_⟩
  · show (bif decide (j < v.n) then rm k (v.s j) else v.s j) = _
    rw [H.n, H.s j hj]; simp [hj]
  · have hs := H.s j hj
    have hl : p j < 512 := by rw [← hs]; exact ok.sl j
    show bif e j || decide (p j = 2 ^ k) then (bif hit v k v.n j then 0 else v.o j) = 0 else may (bif hit v k v.n j then 0 else v.o j) = true
    unfold hit
    rw [H.n, hs]
    simp only [hj, decide_true, Bool.true_and]
    rcases (rm_zero hl hk).1 hq with z | z
    · have : ¬ p j = 2 ^ k := by rw [z]; have := Nat.two_pow_pos k; omega
      simp only [this, decide_false, Bool.or_false, cond_false]
      exact H.o j hj z
    · simp [z]
theorem SS.noHit {v : PV} {K h : Nat} {p : Nat → Nat} {e : Nat → Bool} (H : SS v K h p e) {k : Nat} (hn : ∀ j, j < K → p j ≠ 2 ^ k) : ackN v k v.n = 0 := by
  rw [H.n]
  have : ∀ i, i ≤ K → ackN v k i = 0 := fun i => by
    induction i with
    | zero => intro; rfl
    | succ i ih =>
      intro hi
      unfold ackN
      rw [H.s i (by omega)]
      simp [hn i (by omega), ih (by omega)]
  exact this K (Nat.le_refl _)
theorem SS.hitLo {v : PV} {K h c : Nat} {p : Nat → Nat} {e : Nat → Bool} (H : SS v K h p e) {k : Nat} (hc : c ≤ K) (hn : ∀ j, j < K → (p j = 2 ^ k ↔ j < c)) : ackN v k v.n = c := by
  rw [H.n]
  have : ∀ i, i ≤ K → ackN v k i = min i c := fun i => by
    induction i with
    | zero => intro; simp [ackN]
    | succ i ih =>
      intro hi
      unfold ackN
      rw [H.s i (by omega), ih (by omega)]
      by_cases q : i < c
      · simp [(hn i (by omega)).2 q]; omega
      · have : ¬ p i = 2 ^ k := fun z => q ((hn i (by omega)).1 z)
        simp [this]; omega
  rw [this K (Nat.le_refl _)]; omega
theorem SS.hitHi {v : PV} {K h c : Nat} {p : Nat → Nat} {e : Nat → Bool} (H : SS v K h p e) {k : Nat} (hc : c ≤ K) (hn : ∀ j, j < K → (p j = 2 ^ k ↔ c ≤ j)) : ackN v k v.n = K - c := by
  rw [H.n]
  have : ∀ i, i ≤ K → ackN v k i = i - c := fun i => by
    induction i with
    | zero => intro; simp [ackN]
    | succ i ih =>
      intro hi
      unfold ackN
      rw [H.s i (by omega), ih (by omega)]
      by_cases q : c ≤ i
      · simp [(hn i (by omega)).2 q]; omega
      · have : ¬ p i = 2 ^ k := fun z => q ((hn i (by omega)).1 z)
        simp [this]; omega
  exact this K (Nat.le_refl _)
theorem cnt_lo {o : Nat → Int} {x : Int} {K c : Nat} (hc : c ≤ K) (hn : ∀ j, j < K → (o j = x ↔ j < c)) : cnt o x K = c := by
  have : ∀ i, i ≤ K → cnt o x i = min i c := fun i => by
    induction i with
    | zero => intro; simp [cnt]
    | succ i ih =>
      intro hi
      rw [cnt_succ, ih (by omega)]
      by_cases q : i < c
      · simp [(hn i (by omega)).2 q]; omega
      · have : ¬ o i = x := fun z => q ((hn i (by omega)).1 z)
        simp [this]; omega
  rw [this K (Nat.le_refl _)]; omega
theorem cnt_hi {o : Nat → Int} {x : Int} {K c : Nat} (hc : c ≤ K) (hn : ∀ j, j < K → (o j = x ↔ c ≤ j)) : cnt o x K = K - c := by
  have : ∀ i, i ≤ K → cnt o x i = i - c := fun i => by
    induction i with
    | zero => intro; simp [cnt]
    | succ i ih =>
      intro hi
      rw [cnt_succ, ih (by omega)]
      by_cases q : c ≤ i
      · simp [(hn i (by omega)).2 q]; omega
      · have : ¬ o i = x := fun z => q ((hn i (by omega)).1 z)
        simp [this]; omega
  exact this K (Nat.le_refl _)
theorem SS.take {v : PV} {K h i : Nat} {p : Nat → Nat} (H : SS v K h p (fun j => decide (i ≤ j))) (hp : ∀ j, j < K → p j = 0) (hi : i < K) {x : Int} (hx : may x = true) : ∃ v', tk v x = ((i : Int), 0, v') ∧ SS v' K h p (fun j => decide (i + 1 ≤ j)) := by
  have h0 : v.o i = 0 := by have := H.o i hi (hp i hi); simpa using this
  have h1 : ∀ j, j < i → v.o j ≠ 0 := fun j hj z => by
    have := H.o j (by omega) (hp j (by omega))
    rw [show decide (i ≤ j) = false by simp; omega, z] at this
    cases this
  have h2 : ff v.o v.n = i := ff_eq (by rw [H.n]; exact hi) h0 h1
  refine ⟨v.own i x, ?_, H.n, H.h, H.r, H.s, fun j hj hq => ?_⟩
  · unfold tk; rw [hx, h2, H.n]; simp [hi]
  · show bif decide (i + 1 ≤ j) then upd v.o i x j = 0 else may (upd v.o i x j) = true
    by_cases z : j = i
    · subst z; rw [upd_same, show decide (j + 1 ≤ j) = false by simp]; exact hx
    · rw [upd_other _ _ _ _ z, show decide (i + 1 ≤ j) = decide (i ≤ j) by rw [Bool.eq_iff_iff]; simp; omega]
      exact H.o j hj hq
/-- the number at the beginning of a frame -/
def vl (f : Nat → Int) (j : Nat) : Int := nu (fun t => f (4096 * j + t)) 8
structure MM (f : Nat → Int) (K : Nat) (M : Int) (g : Nat → Bool) : Prop where
  v : ∀ j, j < K → vl f j = bif g j then M else 0
theorem vl_ack (v : PV) (k n : Nat) (f : Nat → Int) (j : Nat) : vl (ackF v k n f) j = bif hit v k n j then 0 else vl f j := by
  unfold vl
  cases z : hit v k n j
  · refine C.nu_congr 8 fun t ht => ?_
    unfold ackF
    rw [show (4096 * j + t) / 4096 = j by omega, z]; rfl
  · rw [C.nu_congr (c := fun _ => 0) 8 fun t ht => ?_]
    · rfl
    · unfold ackF
      rw [show (4096 * j + t) / 4096 = j by omega, z]; rfl
theorem MM.ack {f : Nat → Int} {K : Nat} {M : Int} {g : Nat → Bool} (H : MM f K M g) {v : PV} {h : Nat} {p : Nat → Nat} {e : Nat → Bool} (S : SS v K h p e) (k : Nat) : MM (ackF v k v.n f) K M (fun j => g j && !decide (p j = 2 ^ k)) :=
  ⟨fun j hj => by
    rw [vl_ack, H.v j hj]
    unfold hit
    rw [S.n, S.s j hj]
    by_cases z : p j = 2 ^ k
    · simp [hj, z]
    · simp [z]⟩
theorem MM.congr {f : Nat → Int} {K : Nat} {M : Int} {g g' : Nat → Bool} (H : MM f K M g) (h : ∀ j, j < K → g' j = g j) : MM f K M g' := ⟨fun j hj => by rw [h j hj]; exact H.v j hj⟩
theorem MM.write {f : Nat → Int} {K : Nat} {M : Int} {g : Nat → Bool} (H : MM f K M g) (m0 : 0 ≤ M) (m1 : M < 18446744073709551616) (i : Nat) : MM (put f (4096 * i) 8 (byt M)) K M (upd g i true) :=
  ⟨fun j hj => by
    by_cases z : j = i
    · subst z
      rw [upd_same]
      unfold vl
      rw [C.nu_congr (c := byt M) 8 (fun t ht => C.put_in f (4096 * j) 8 (byt M) t ht), C.nu_byt M m0 8]
      show M % 256 ^ 8 = M
      omega
    · rw [upd_other _ _ _ _ z, ← H.v j hj]
      exact C.nu_congr 8 fun t ht => C.put_out _ _ _ _ _ (by omega)⟩
theorem or_one (x : Int) (h0 : 0 ≤ x) (h1 : x < 18446744073709551616) : ∃ M : Int, bits .or .u64 x 1 = M ∧ 0 < M ∧ M < 18446744073709551616 := by
  obtain ⟨n, rfl⟩ := Int.eq_ofNat_of_zero_le h0
  have e := bits_or_u64_nat n 1 (by omega) (by decide)
  have h2 : 0 < n ||| 1 := by
    rcases Nat.eq_zero_or_pos (n ||| 1) with z | z
    · have := (Nat.or_eq_zero_iff.1 z).2
      omega
    · exact z
  have h3 : n ||| 1 < 2 ^ 64 := Nat.or_lt_two_pow (by omega) (by decide)
  exact ⟨((n ||| 1 : Nat) : Int), e, by omega, by omega⟩
end Go.Proofs.Ytehghhonhfmieaa
namespace Go.Proofs.Ytehghhonhfmieaa
open Go.RowKit
open C (Only hid Mem RMem Still ret_bool ret_int put byt nu TB Tw Cl fcl c_Place)
set_option linter.unusedVariables false
set_option maxRecDepth 100000

/-- whether k has not acknowledged yet -/
def bq (h s k : Nat) : Bool := s / 2 ^ (ps h k) % 2 == 1
/-- how many of the first k have not -/
def pc (h s : Nat) : Nat → Nat
  | 0 => 0
  | k + 1 => pc h s k + (bif bq h s k then 1 else 0)
theorem bq_rm0 : ∀ s : Fin 512, ∀ a b : Fin 9, (rm a s / 2 ^ (b : Nat) % 2 == 1) = ((s : Nat) / 2 ^ (b : Nat) % 2 == 1 && decide (b ≠ a)) := by decide +kernel
theorem ps_inj {h j k : Nat} (h8 : h ≤ 8) (hj : j ≤ h) (hk : k ≤ h) (e : ps h j = ps h k) : j = k := by unfold ps at e; split at e <;> split at e <;> omega
theorem bq_msk0 : ∀ h : Fin 9, ∀ k : Fin 9, (k : Nat) ≤ h → bq h (msk h) k = true := by decide +kernel
theorem bq_one0 : ∀ h : Fin 9, ∀ k : Fin 9, (k : Nat) ≤ h → bq h (2 ^ ps h k) k = true := by decide +kernel
theorem bq_all0 : ∀ h : Fin 9, 0 < (h : Nat) → ∀ s : Fin 512, (s : Nat) &&& msk h = s → (∀ k : Fin 9, (k : Nat) ≤ h → bq h s k = false) → (s : Nat) = 0 := by decide +kernel
section
variable {h s k : Nat} (h0 : 0 < h) (h8 : h ≤ 8) (hs : s &&& msk h = s) (hk : k ≤ h)
include h8 hs in
theorem sl : s < 512 := in_mask h8 hs
include h8 hs hk in
theorem bq_rm (j : Nat) (hj : j ≤ h) : bq h (rm (ps h k) s) j = (bq h s j && decide (j ≠ k)) := by
  have := bq_rm0 ⟨s, in_mask h8 hs⟩ ⟨ps h k, ps_lt h k h8⟩ ⟨ps h j, ps_lt h j h8⟩
  unfold bq
  rw [this]
  congr 1
  rw [Bool.eq_iff_iff]
  simp [Fin.ext_iff]
  constructor
  · intro q e; exact q (by rw [e])
  · intro q e; exact q (ps_inj h8 hj hk e)
include h8 hk in
theorem bq_msk : bq h (msk h) k = true := bq_msk0 ⟨h, by omega⟩ ⟨k, by omega⟩ hk
include h0 h8 hs in
theorem bq_all (ha : ∀ k, k ≤ h → bq h s k = false) : s = 0 := bq_all0 ⟨h, by omega⟩ h0 ⟨s, in_mask h8 hs⟩ hs fun k hk => ha k hk
theorem bq_zero (h k : Nat) : bq h 0 k = false := by unfold bq; simp
theorem pc_le (h s : Nat) : ∀ n, pc h s n ≤ n
  | 0 => Nat.le_refl _
  | n + 1 => by have := pc_le h s n; unfold pc; cases bq h s n <;> simp <;> omega
theorem pc_zero_of (h : Nat) : ∀ n, pc h 0 n = 0
  | 0 => rfl
  | n + 1 => by unfold pc; rw [pc_zero_of h n, bq_zero]; rfl
theorem pc_zero : ∀ n, pc h s n = 0 → ∀ k, k < n → bq h s k = false
  | 0, _, k, hk => absurd hk (Nat.not_lt_zero _)
  | n + 1, e, k, hk => by
    unfold pc at e
    rcases Nat.lt_or_ge k n with q | q
    · exact pc_zero n (by omega) k q
    · obtain rfl : k = n := by omega
      cases z : bq h s k
      · rfl
      · rw [z] at e; simp at e
include h8 hs hk in
theorem pc_rm : ∀ n, n ≤ h + 1 → pc h (rm (ps h k) s) n = pc h s n - (bif bq h s k && decide (k < n) then 1 else 0)
  | 0, _ => by simp [pc]
  | n + 1, hn => by
    have ih := pc_rm n (by omega)
    have hb := bq_rm h8 hs hk n (by omega)
    unfold pc
    rw [ih, hb]
    rcases Nat.lt_trichotomy n k with q | q | q
    · simp [show n ≠ k by omega, show ¬ k < n by omega, show ¬ k < n + 1 by omega]
    · subst q
      cases bq h s n <;> simp
    · simp only [show n ≠ k by omega, show k < n by omega, show k < n + 1 by omega, decide_true, Bool.and_true, ne_eq, not_false_eq_true]
      cases z : bq h s k
      · simp
      · have : 0 < pc h s n := by
          rcases Nat.eq_zero_or_pos (pc h s n) with y | y
          · have := pc_zero n y k (by omega)
            rw [z] at this; cases this
          · exact y
        simp; omega
include h8 in
theorem pc_msk : ∀ n, n ≤ h + 1 → pc h (msk h) n = n
  | 0, _ => rfl
  | n + 1, hn => by
    unfold pc
    rw [pc_msk n (by omega), bq_msk h8 (show n ≤ h by omega)]; rfl
end
/-- who has acknowledged, as it stands -/
def dnc (h s : Nat) : List Value := (List.range 9).map fun k => .bool (decide (k ≤ h) && !(bq h s k))
theorem dnc_at (h s k : Nat) (hk : k ≤ h) (h8 : h ≤ 8) : (dnc h s).toArray[k]? = some (.bool (!(bq h s k))) := by
  have : k < 9 := by omega
  simp [dnc, List.getElem?_range this, hk]
theorem dnc_0 (h : Nat) (h8 : h ≤ 8) : dnc h (msk h) = List.replicate 9 (.bool false) := by
  apply List.ext_getElem?
  intro k
  unfold dnc
  rcases Nat.lt_or_ge k 9 with q | q
  · rw [List.getElem?_map, List.getElem?_range q, List.getElem?_replicate, if_pos q]
    simp only [Option.map_some]
    by_cases z : k ≤ h
    · rw [bq_msk h8 z]; simp
    · simp [z]
  · rw [List.getElem?_eq_none (by simpa using q), List.getElem?_eq_none (by simpa using q)]
theorem dnc_set {h s k : Nat} (h8 : h ≤ 8) (hs : s &&& msk h = s) (hk : k ≤ h) : (dnc h s).toArray.setIfInBounds k (.bool true) = (dnc h (rm (ps h k) s)).toArray := by
  apply Array.ext'
  simp only [Array.toList_setIfInBounds]
  apply List.ext_getElem?
  intro j
  rw [List.getElem?_set]
  unfold dnc
  rcases Nat.lt_or_ge j 9 with q | q
  · rw [List.getElem?_map, List.getElem?_range q, List.getElem?_map, List.getElem?_range q]
    simp only [Option.map_some, List.length_map, List.length_range]
    by_cases e : k = j
    · subst e
      rw [if_pos rfl, if_pos q, bq_rm h8 hs hk k hk]
      simp [hk]
    · rw [if_neg e]
      by_cases z : j ≤ h
      · rw [bq_rm h8 hs hk j z]
        simp [show j ≠ k from fun y => e y.symm]
      · simp [z]
  · rw [List.getElem?_eq_none (by simpa using q), List.getElem?_eq_none (by simpa using q)]
    split
    · rw [if_neg (by simp; omega)]
    · rfl
theorem rm_same {h s k : Nat} (h0 : 0 < h) (h8 : h ≤ 8) (hs : s &&& msk h = s) (hk : k ≤ h) (hb : bq h s k = false) : rm (ps h k) s = s := by
  have : ∀ s : Fin 512, ∀ a : Fin 9, ((s : Nat) / 2 ^ (a : Nat) % 2 == 1) = false → rm a s = s := by decide +kernel
  exact this ⟨s, in_mask h8 hs⟩ ⟨ps h k, ps_lt h k h8⟩ hb
/-- the number that was written into the frame -/
def vm (f : Nat → Int) : Int := nu (fun t => f (4104 + t)) 8
theorem vm_ack (v : PV) (k n : Nat) (f : Nat → Int) : vm (ackF v k n f) = bif hit v k n 1 then 0 else vm f := by
  unfold vm
  cases z : hit v k n 1
  · refine C.nu_congr 8 fun t ht => ?_
    unfold ackF
    rw [show (4104 + t) / 4096 = 1 by omega, z]; rfl
  · rw [C.nu_congr (c := fun _ => 0) 8 fun t ht => ?_]
    · rfl
    · unfold ackF
      rw [show (4104 + t) / 4096 = 1 by omega, z]; rfl
theorem vm_write (f : Nat → Int) (M : Int) (m0 : 0 ≤ M) (m1 : M < 18446744073709551616) : vm (put f 4104 8 (byt M)) = M := by
  unfold vm
  rw [C.nu_congr (c := byt M) 8 (fun t ht => C.put_in f 4104 8 (byt M) t ht), C.nu_byt M m0 8]
  show M % 256 ^ 8 = M
  omega
/-- the pool: frame 1 waits for s -/
structure RD (v : PV) (h s : Nat) : Prop where
  n : v.n = 2
  r : v.r = 1
  h : v.h = h
  s : v.s 1 = s
/-- where the frame stands: in limbo with its number, or free and 0 -/
structure RE (v : PV) (h s : Nat) (f : Nat → Int) (M : Int) : Prop where
  d : RD v h s
  a : s ≠ 0 → vm f = M
  z : s = 0 → v.o 1 = 0 ∧ vm f = 0
theorem RE.take {v : PV} {h s : Nat} {f : Nat → Int} {M : Int} (H : RE v h s f M) (ok : v.Ok) (hs : s ≠ 0) {x : Int} (hx : may x = true) : tk v x = (0, 10, v) ∧ ownF v 1 = -2 := by
  have h0 := ok.rs 0 (by rw [H.d.r]; decide)
  have h1 := (ok.li 1).2 (by rw [H.d.s]; exact hs)
  refine ⟨?_, ?_⟩
  · rcases tk_cases v x with ⟨i, hi, hi0, -⟩ | ⟨-, -, e⟩ | ⟨e, -⟩
    · rw [H.d.n] at hi
      rcases (show i = 0 ∨ i = 1 by omega) with rfl | rfl <;> omega
    · exact e
    · rw [hx] at e; cases e
  · rw [show (1 : Int) = ((1 : Nat) : Int) from rfl, (own_same (v := v) (i := 1) (by rw [H.d.n]; decide)).1]; exact h1
theorem RE.take0 {v : PV} {h : Nat} {f : Nat → Int} {M : Int} (H : RE v h 0 f M) (ok : v.Ok) {x : Int} (hx : may x = true) : tk v x = (1, 0, v.own 1 x) ∧ ownF (v.own 1 x) 1 = x := by
  have h0 := ok.rs 0 (by rw [H.d.r]; decide)
  have h1 := (H.z rfl).1
  have hf : ff v.o v.n = 1 := ff_eq (by rw [H.d.n]; decide) h1 (fun j hj => by obtain rfl : j = 0 := (by omega); omega)
  refine ⟨?_, ?_⟩
  · unfold tk; rw [hx, hf, H.d.n]; rfl
  · exact own_at (v := v) (i := 1) (by rw [H.d.n]; decide) x
theorem RE.ack {v : PV} {h s : Nat} {f : Nat → Int} {M : Int} (H : RE v h s f M) (ok : v.Ok) (hs : s ≠ 0) (k : Nat) (hk : k < 9) : ackN v k v.n = (if s = 2 ^ k then 1 else 0) ∧ RE (ackP v k v.n) h (rm k s) (ackF v k v.n f) M := by
  have h0 := ok.rs 0 (by rw [H.d.r]; decide)
  have s0 : v.s 0 = 0 := by
    rcases Nat.eq_zero_or_pos (v.s 0) with z | z
    · exact z
    · have := (ok.li 0).2 (by omega); omega
  have hl : s < 512 := by rw [← H.d.s]; exact ok.sl 1
  have p0 : ¬ (0 = 2 ^ k) := by have := Nat.two_pow_pos k; omega
  have hh : hit v k v.n 1 = decide (s = 2 ^ k) := by unfold hit; rw [H.d.n, H.d.s]; simp
  have hr := rm_zero hl hk
  refine ⟨?_, ⟨H.d.n, H.d.r, H.d.h, ?_⟩, fun hz => ?_, fun hz => ?_⟩
  · rw [H.d.n]
    show ackN v k 2 = _
    simp only [ackN, s0, H.d.s, p0, decide_false, cond_false]
    by_cases z : s = 2 ^ k
    · simp [z]
    · simp [z]
  · show (bif decide (1 < v.n) then rm k (v.s 1) else v.s 1) = _
    rw [H.d.n, H.d.s]; rfl
  · rw [vm_ack, hh]
    have : ¬ s = 2 ^ k := fun z => hz (hr.2 (.inr z))
    simp only [this, decide_false, cond_false]
    exact H.a hs
  · rcases hr.1 hz with z | z
    · exact absurd z hs
    · refine ⟨?_, ?_⟩
      · show (bif hit v k v.n 1 then 0 else v.o 1) = 0
        rw [hh]; simp [z]
      · rw [vm_ack, hh]; simp [z]
end Go.Proofs.Ytehghhonhfmieaa
namespace Go.Proofs.Ytehghhonhfmieaa
open Go.ChangeShapes Go.WideShapes Go.ChangeAt Go.RowKit Go.Deep
set_option linter.unusedVariables false

structure Nu (w : World) (ad : Option Addr) (la cap ab ao : Nat) (A : Nat → Int) : Prop where
  len : la ≤ cap
  cap : cap ≤ 9223372036854775807
  at0 : 0 < la → ad = some ⟨ab, ao, none⟩ ∧ ab < w.heap.size
  cell : ∀ i, i < la → w.cell? ⟨ab, ao + i, none⟩ = some (.int .i64 (A i))
  num : ∀ i, -9223372036854775808 ≤ A i ∧ A i ≤ 9223372036854775807
theorem Nu.below {w w' : World} {ad : Option Addr} {la cap ab ao : Nat} {A : Nat → Int} (h : Nu w ad la cap ab ao A) (hb : Below w.heap.size w w') : Nu w' ad la cap ab ao A :=
  ⟨h.len, h.cap, fun q => ⟨(h.at0 q).1, Nat.lt_of_lt_of_le (h.at0 q).2 hb.size⟩, fun i hi => by
    have hlt := (h.at0 (by omega)).2
    rw [World.cell?_of_block (w := w) (hb.block _ hlt)]; exact h.cell i hi, h.num⟩
theorem cells_i8' : Try.prog.cellsOf 3 = 1 := by kernel_rfl
set_option maxRecDepth 100000 in
theorem open_ints7 {H : Type} {enc : TypeId × Value → H} {W : World} {base : Nat} {r : Reach} {b : Nat} {v : Value} {d : DataW H} {p : List MemPlace}
    (hv : Value.okWide Try.prog W r b 51 v) (h : DataW.Trod enc Try.prog W base (fun _ => true) true 51 v d p) (hlt : ∀ x ∈ p, x.block < W.heap.size) :
    ∃ (ad : Option Addr) (la cap ab ao : Nat) (A : Nat → Int), v = .slice ad la cap ∧ Nu W ad la cap ab ao A := by
  obtain ⟨ad, la, cap, ar, aa, rfl, hl, hm, hw, hc⟩ := C.open_nums Try.underlying51 Try.underlying3 cells_i8' hv h hlt
  obtain ⟨ab, ao, asp⟩ := aa
  have hsp : 0 < la → asp = none := fun q => by
    have := (hc q).2.2 0 q
    simpa [Addr.add] using World.cell?_spot this
  refine ⟨ad, la, cap, ab, ao, ar, rfl, ⟨hl, hm, fun q => ?_, fun i hi => ?_, fun i => ?_⟩⟩
  · obtain rfl := hsp q
    exact ⟨(hc q).1, (hc q).2.1⟩
  · obtain rfl := hsp (by omega)
    have := (hc (by omega)).2.2 i hi
    rwa [C.addr_add] at this
  · rcases hw i with q | q
    · rw [q]; exact ⟨by decide, by decide⟩
    · exact bounds_i64 q
theorem u_sint9 : Try.prog.underlying 51 = some (.slice 3) := by kernel_rfl
theorem bytes_int9 : Try.prog.bytesOf 3 = 8 := by kernel_rfl
set_option maxRecDepth 100000 in
theorem ints_len {H : Type} {enc : TypeId × Value → H} {W : World} {base : Nat} {ad : Option Addr} {la cap : Nat} {d : DataW H} {p : List MemPlace} (h : DataW.Trod enc Try.prog W base (fun _ => true) true 51 (.slice ad la cap) d p) (hw : ∀ n ∈ d.weights Try.prog 51, n ≤ reachBytes) : la ≤ 17592186044416 := by
  obtain ⟨fuel, hf⟩ := h
  rcases open_slice u_sint9 hf with ⟨hcs, hx⟩ | ⟨a, len', cap', m, n, D, Pl, hcs, _, hl, hm, hmm, hx, hel⟩
  · simp [Value.cells] at hcs
    obtain ⟨rfl, rfl, rfl⟩ := hcs
    exact Nat.zero_le _
  · simp [Value.cells] at hcs
    obtain ⟨rfl, rfl, rfl⟩ := hcs
    simp only [Prod.mk.injEq] at hx
    obtain ⟨rfl, rfl⟩ := hx
    have h2 := hw ((((List.range la).map D).length + ((List.range (m - la)).map fun j => D (la + j)).length) * Try.prog.bytesOf 3) (by simp [DataW.weights])
    rw [bytes_int9] at h2
    simp [reachBytes] at h2
    omega
end Go.Proofs.Ytehghhonhfmieaa
