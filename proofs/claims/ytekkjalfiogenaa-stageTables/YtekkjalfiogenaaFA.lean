/- Who has which frame, and what it waits for: plain numbers. Nothing here speaks of the program. -/
import Derived.Test.YtekkjalfiogenaaMC2
import Derived.Laws.Bits64
namespace Go.Proofs.Ytekkjalfiogenaa
open Go.RowKit
open C (put)
set_option linter.unusedVariables false
set_option maxRecDepth 100000

/-- the bit of a hart (by its number) or of the devices (8) -/
def bkN (k : Nat) : Nat := if k < 8 then 2 ^ k else 9223372036854775808
/-- a set of harts (bits 0 to 7) and the devices (bit 8) as the number that is told -/
def encN (s : Nat) : Nat := s % 256 + 9223372036854775808 * (s / 256)
def rm (k s : Nat) : Nat := s &&& (511 ^^^ 2 ^ k)
/-- all harts, and the devices -/
def msk (h : Nat) : Nat := 2 ^ h + 255
/-- a place in the list of bits -/
def ps (h j : Nat) : Nat := if j < h then j else 8
def btN (h j : Nat) : Nat := bkN (ps h j)
def orN (h j : Nat) : Nat := if j ≤ h then 2 ^ j - 1 else 2 ^ h - 1 + 9223372036854775808
theorem rm_enc0 : ∀ s : Fin 512, ∀ k : Fin 9, (encN s &&& (18446744073709551615 ^^^ bkN k)) = encN (rm k s) := by decide +kernel
theorem enc_one0 : ∀ s : Fin 512, ∀ k : Fin 9, (encN s = bkN k ↔ (s : Nat) = 2 ^ (k : Nat)) := by decide +kernel
theorem enc_zero0 : ∀ s : Fin 512, (encN s = 0 ↔ (s : Nat) = 0) := by decide +kernel
theorem rm_zero0 : ∀ s : Fin 512, ∀ k : Fin 9, (rm k s = 0 ↔ (s : Nat) = 0 ∨ (s : Nat) = 2 ^ (k : Nat)) := by decide +kernel
theorem or_step0 : ∀ h j : Fin 9, (j : Nat) ≤ h → (orN h j ||| btN h j) = orN h (j + 1) := by decide +kernel
theorem or_end0 : ∀ h : Fin 9, orN h (h + 1) = encN (msk h) := by decide +kernel
theorem mk_le {h : Nat} (h1 : h ≤ 8) : msk h < 512 := by
  have : ∀ h : Fin 9, msk h < 512 := by decide
  exact this ⟨h, by omega⟩
theorem ps_lt (h j : Nat) (h1 : h ≤ 8) : ps h j < 9 := by unfold ps; split <;> omega
theorem in_mask {h s : Nat} (h1 : h ≤ 8) (hs : s &&& msk h = s) : s < 512 := by
  have := Nat.and_le_right (n := s) (m := msk h)
  have := mk_le h1
  omega
theorem mask_self (h : Nat) : msk h &&& msk h = msk h := Nat.and_self _
theorem mask_rm {h s : Nat} (k : Nat) (hs : s &&& msk h = s) : rm k s &&& msk h = rm k s := by
  unfold rm
  rw [Nat.and_assoc, Nat.and_comm (511 ^^^ 2 ^ k), ← Nat.and_assoc, hs]
theorem enc_lt {s : Nat} (h : s < 512) : encN s < 18446744073709551616 := by unfold encN; omega
theorem bk_lt (k : Nat) : bkN k < 18446744073709551616 := by
  unfold bkN; split
  · have : ∀ k : Fin 8, 2 ^ (k : Nat) < 18446744073709551616 := by decide
    exact this ⟨k, by assumption⟩
  · decide
theorem rm_enc {s k : Nat} (hs : s < 512) (hk : k < 9) : bits .and .u64 (encN s : Int) (bits .xor .u64 18446744073709551615 (bkN k : Int)) = (encN (rm k s) : Int) := by
  have e := bits_xor_u64_nat 18446744073709551615 (bkN k) (by decide) (bk_lt k)
  rw [show ((18446744073709551615 : Nat) : Int) = 18446744073709551615 from rfl] at e
  rw [e, bits_and_u64_nat _ _ (enc_lt hs) (Nat.xor_lt_two_pow (n := 64) (by decide) (bk_lt k)), rm_enc0 ⟨s, hs⟩ ⟨k, hk⟩]
theorem enc_one {s k : Nat} (hs : s < 512) (hk : k < 9) : ((encN s : Int) = (bkN k : Int)) ↔ s = 2 ^ k := by
  rw [Int.ofNat_inj]; exact enc_one0 ⟨s, hs⟩ ⟨k, hk⟩
theorem enc_zero {s : Nat} (hs : s < 512) : ((encN s : Int) = 0) ↔ s = 0 := by
  rw [show (0 : Int) = ((0 : Nat) : Int) from rfl, Int.ofNat_inj]; exact enc_zero0 ⟨s, hs⟩
theorem enc_0 : encN 0 = 0 := rfl
theorem rm_zero {s k : Nat} (hs : s < 512) (hk : k < 9) : rm k s = 0 ↔ s = 0 ∨ s = 2 ^ k := rm_zero0 ⟨s, hs⟩ ⟨k, hk⟩
theorem rm_0 (k : Nat) : rm k 0 = 0 := by unfold rm; simp
/-- another one in a place -/
def upd {α : Type} (f : Nat → α) (k : Nat) (x : α) : Nat → α := fun j => if j = k then x else f j
theorem upd_same {α : Type} (f : Nat → α) (k : Nat) (x : α) : upd f k x k = x := by simp [upd]
theorem upd_other {α : Type} (f : Nat → α) (k : Nat) (x : α) (j : Nat) (h : j ≠ k) : upd f k x j = f j := by simp [upd, h]
/-- what a pool is: its memory, how many frames are reserved, how many harts, how many frames; of each frame its owner, and what it waits for -/
structure PV where
  m : Nat
  b : Int
  r : Nat
  h : Nat
  n : Nat
  o : Nat → Int
  s : Nat → Nat
structure PV.Ok (v : PV) : Prop where
  n0 : 0 < v.n
  n1 : v.n ≤ 1024
  h0 : 0 < v.h
  h1 : v.h ≤ 8
  rn : v.r ≤ v.n
  sm : ∀ i, v.s i &&& msk v.h = v.s i
  ow : ∀ i, -2 ≤ v.o i ∧ v.o i ≤ 8
  li : ∀ i, v.o i = -2 ↔ v.s i ≠ 0
  rs : ∀ i, i < v.r → v.o i = -1
theorem PV.Ok.sl {v : PV} (h : v.Ok) (i : Nat) : v.s i < 512 := in_mask h.h1 (h.sm i)
/-- the first free one -/
def ff (o : Nat → Int) : Nat → Nat
  | 0 => 0
  | n + 1 => if ff o n < n then ff o n else if o n = 0 then n else n + 1
theorem ff_spec (o : Nat → Int) : ∀ n, ff o n ≤ n ∧ (ff o n < n → o (ff o n) = 0) ∧ ∀ j, j < ff o n → o j ≠ 0
  | 0 => ⟨Nat.le_refl _, fun h => absurd h (Nat.lt_irrefl _), fun j h => absurd h (Nat.not_lt_zero _)⟩
  | n + 1 => by
    obtain ⟨h1, h2, h3⟩ := ff_spec o n
    unfold ff
    split
    · rename_i q
      exact ⟨by omega, fun _ => h2 q, h3⟩
    · rename_i q
      have e : ff o n = n := by omega
      split
      · rename_i z
        exact ⟨by omega, fun _ => z, fun j hj => h3 j (by omega)⟩
      · rename_i z
        refine ⟨Nat.le_refl _, fun q => by omega, fun j hj => ?_⟩
        rcases Nat.lt_or_ge j n with y | y
        · exact h3 j (by omega)
        · obtain rfl : j = n := by omega
          exact z
theorem ff_eq {o : Nat → Int} {n i : Nat} (hi : i < n) (h0 : o i = 0) (hj : ∀ j, j < i → o j ≠ 0) : ff o n = i := by
  obtain ⟨h1, h2, h3⟩ := ff_spec o n
  rcases Nat.lt_trichotomy (ff o n) i with q | q | q
  · exact absurd (h2 (by omega)) (hj _ q)
  · exact q
  · exact absurd h0 (h3 i q)
theorem ff_none {o : Nat → Int} {n : Nat} (hj : ∀ j, j < n → o j ≠ 0) : ff o n = n := by
  obtain ⟨h1, h2, h3⟩ := ff_spec o n
  rcases Nat.lt_or_ge (ff o n) n with q | q
  · exact absurd (h2 q) (hj _ q)
  · omega
/-- who may have a frame -/
def may (x : Int) : Bool := decide (x = -1 ∨ 1 ≤ x ∧ x ≤ 8)
def PV.own (v : PV) (i : Nat) (x : Int) : PV := ⟨v.m, v.b, v.r, v.h, v.n, upd v.o i x, v.s⟩
def PV.wait (v : PV) (i : Nat) (s : Nat) : PV := ⟨v.m, v.b, v.r, v.h, v.n, v.o, upd v.s i s⟩
/-- what Take comes to: the frame, the error, the pool -/
def tk (v : PV) (x : Int) : Int × Int × PV := bif may x then (bif decide (ff v.o v.n < v.n) then (((ff v.o v.n : Nat) : Int), 0, v.own (ff v.o v.n) x) else (0, 10, v)) else (0, 1, v)
def rlOk (v : PV) (x : Int) : Bool := decide (0 ≤ x) && decide (x < (v.n : Int)) && decide ((v.r : Int) ≤ x) && may (v.o x.toNat)
/-- what Release comes to -/
def rl (v : PV) (x : Int) : Int × PV := bif rlOk v x then (0, ⟨v.m, v.b, v.r, v.h, v.n, upd v.o x.toNat (-2), upd v.s x.toNat (msk v.h)⟩) else (11, v)
/-- frames that an acknowledgement of k frees, below i -/
def hit (v : PV) (k i j : Nat) : Bool := decide (j < i) && decide (v.s j = 2 ^ k)
/-- an acknowledgement of k, as far as frame i -/
def ackP (v : PV) (k i : Nat) : PV := ⟨v.m, v.b, v.r, v.h, v.n, fun j => bif hit v k i j then 0 else v.o j, fun j => bif decide (j < i) then rm k (v.s j) else v.s j⟩
def ackN (v : PV) (k : Nat) : Nat → Nat
  | 0 => 0
  | i + 1 => bif decide (v.s i = 2 ^ k) then ackN v k i + 1 else ackN v k i
def ackF (v : PV) (k i : Nat) (f : Nat → Int) : Nat → Int := fun j => bif hit v k i (j / 4096) then 0 else f j
theorem ackN_le (v : PV) (k : Nat) : ∀ i, ackN v k i ≤ i
  | 0 => Nat.le_refl _
  | i + 1 => by
    have := ackN_le v k i
    unfold ackN
    cases decide (v.s i = 2 ^ k) <;> simp <;> omega
theorem hit_zero (v : PV) (k j : Nat) : hit v k 0 j = false := by simp [hit]
theorem ackP_zero (v : PV) (k : Nat) : ackP v k 0 = v := by
  unfold ackP
  cases v
  simp [hit]
theorem ackF_zero (v : PV) (k : Nat) (f : Nat → Int) : ackF v k 0 f = f := by funext j; simp [ackF, hit]
theorem hit_step (v : PV) (k i j : Nat) (h : j ≠ i) : hit v k (i + 1) j = hit v k i j := by
  unfold hit
  rw [show decide (j < i + 1) = decide (j < i) by rw [Bool.eq_iff_iff]; simp; omega]
/-- one frame more: it waits for something else -/
theorem ackP_keep {v : PV} {k i : Nat} (h : v.s i ≠ 2 ^ k) : ackP v k (i + 1) = (ackP v k i).wait i (rm k (v.s i)) := by
  unfold ackP PV.wait
  simp only
  congr 1
  · funext j
    by_cases e : j = i
    · subst e; simp [hit, h]
    · rw [hit_step _ _ _ _ e]
  · funext j
    by_cases e : j = i
    · subst e; simp [upd]
    · rw [upd_other _ _ _ _ e, show decide (j < i + 1) = decide (j < i) by rw [Bool.eq_iff_iff]; simp; omega]
theorem ackP_free {v : PV} {k i : Nat} (h : v.s i = 2 ^ k) : ackP v k (i + 1) = ((ackP v k i).wait i (rm k (v.s i))).own i 0 := by
  unfold ackP PV.wait PV.own
  simp only
  congr 1
  · funext j
    by_cases e : j = i
    · subst e; simp [hit, h, upd]
    · rw [hit_step _ _ _ _ e, upd_other _ _ _ _ e]
  · funext j
    by_cases e : j = i
    · subst e; simp [upd]
    · rw [upd_other _ _ _ _ e, show decide (j < i + 1) = decide (j < i) by rw [Bool.eq_iff_iff]; simp; omega]
theorem ackP_s {v : PV} {k i : Nat} : (ackP v k i).s i = v.s i := by simp [ackP]
theorem ackF_keep {v : PV} {k i : Nat} (f : Nat → Int) (h : v.s i ≠ 2 ^ k) : ackF v k (i + 1) f = ackF v k i f := by
  funext j
  unfold ackF
  by_cases e : j / 4096 = i
  · rw [e]; simp [hit, h]
  · rw [hit_step _ _ _ _ e]
theorem ackF_free {v : PV} {k i : Nat} (f : Nat → Int) (h : v.s i = 2 ^ k) : ackF v k (i + 1) f = put (ackF v k i f) (4096 * i) 4096 (fun _ => 0) := by
  funext j
  by_cases e : j / 4096 = i
  · rw [C.put_in' _ _ _ _ _ (by omega) (by omega)]
    unfold ackF
    rw [e]; simp [hit, h]
  · rw [C.put_out _ _ _ _ _ (by omega)]
    unfold ackF
    rw [hit_step _ _ _ _ e]
theorem PV.Ok.take {v : PV} (h : v.Ok) (x : Int) : (tk v x).2.2.Ok := by
  unfold tk
  cases hx : may x
  · exact h
  · by_cases q : ff v.o v.n < v.n
    · simp only [q, decide_true, cond_true]
      obtain ⟨h1, h2, h3⟩ := ff_spec v.o v.n
      have hx' : x = -1 ∨ 1 ≤ x ∧ x ≤ 8 := by simpa [may] using hx
      have h0 := h2 q
      have z := (not_congr (h.li (ff v.o v.n))).1 (by omega)
      refine ⟨h.n0, h.n1, h.h0, h.h1, h.rn, h.sm, fun i => ?_, fun i => ?_, fun i hi => ?_⟩
      · show -2 ≤ upd v.o _ x i ∧ upd v.o _ x i ≤ 8
        unfold upd; split
        · omega
        · exact h.ow i
      · show upd v.o _ x i = -2 ↔ v.s i ≠ 0
        unfold upd; split
        · rename_i e; subst e
          constructor
          · intro y; omega
          · intro y; exact absurd y z
        · exact h.li i
      · show upd v.o _ x i = -1
        rw [upd_other _ _ _ _ (fun e => by subst e; have := h.rs _ hi; omega)]
        exact h.rs i hi
    · simp only [q, decide_false, cond_false, cond_true]; exact h
theorem msk_pos (h : Nat) : msk h ≠ 0 := Nat.succ_ne_zero (2 ^ h + 254)
theorem PV.Ok.release {v : PV} (h : v.Ok) (x : Int) : (rl v x).2.Ok := by
  unfold rl
  cases hx : rlOk v x
  · exact h
  · simp [rlOk] at hx
    refine ⟨h.n0, h.n1, h.h0, h.h1, h.rn, fun i => ?_, fun i => ?_, fun i => ?_, fun i hi => ?_⟩
    · show upd v.s _ (msk v.h) i &&& msk v.h = upd v.s _ (msk v.h) i
      unfold upd; split
      · exact mask_self _
      · exact h.sm i
    · show -2 ≤ upd v.o _ (-2) i ∧ upd v.o _ (-2) i ≤ 8
      unfold upd; split
      · omega
      · exact h.ow i
    · show upd v.o _ (-2) i = -2 ↔ upd v.s _ (msk v.h) i ≠ 0
      unfold upd; split
      · simp [msk_pos]
      · exact h.li i
    · show upd v.o _ (-2) i = -1
      have hi' : i < v.r := hi
      rw [upd_other _ _ _ _ (by omega)]
      exact h.rs i hi
theorem PV.Ok.ack {v : PV} (h : v.Ok) (k i : Nat) (hk : k < 9) : (ackP v k i).Ok := by
  refine ⟨h.n0, h.n1, h.h0, h.h1, h.rn, fun j => ?_, fun j => ?_, fun j => ?_, fun j hj => ?_⟩
  · show (bif decide (j < i) then rm k (v.s j) else v.s j) &&& msk v.h = (bif decide (j < i) then rm k (v.s j) else v.s j)
    cases decide (j < i)
    · exact h.sm j
    · exact mask_rm k (h.sm j)
  · show -2 ≤ (bif hit v k i j then 0 else v.o j) ∧ (bif hit v k i j then 0 else v.o j) ≤ 8
    cases hit v k i j
    · exact h.ow j
    · exact ⟨show (-2 : Int) ≤ 0 by decide, show (0 : Int) ≤ 8 by decide⟩
  · show (bif hit v k i j then 0 else v.o j) = -2 ↔ (bif decide (j < i) then rm k (v.s j) else v.s j) ≠ 0
    by_cases q : j < i
    · have e := rm_zero (h.sl j) hk
      simp only [q, decide_true, cond_true, hit, Bool.true_and]
      by_cases z : v.s j = 2 ^ k
      · simp only [z, decide_true, cond_true]
        rw [z] at e
        simp [e.2 (.inr rfl)]
      · simp only [z, decide_false, cond_false]
        rw [h.li j]
        constructor
        · intro a b
          rcases e.1 b with c | c
          · exact a c
          · exact z c
        · intro a b
          exact a (e.2 (.inl b))
    · simp only [q, decide_false, cond_false, hit, Bool.false_and]
      exact h.li j
  · show (bif hit v k i j then 0 else v.o j) = -1
    have h1 := h.rs j hj
    have h2 : v.s j = 0 := by
      rcases Nat.eq_zero_or_pos (v.s j) with z | z
      · exact z
      · have := (h.li j).2 (by omega); omega
    have : hit v k i j = false := by
      unfold hit
      rw [h2]
      have : (0 : Nat) ≠ 2 ^ k := by have := Nat.two_pow_pos k; omega
      simp [this]
    rw [this]
    exact h1
end Go.Proofs.Ytekkjalfiogenaa
