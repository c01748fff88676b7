/- What a controller could tell, source by source; PlatLets' words. -/
import Derived.Test.YtmpldaenakenlaaMH2
import Derived.Test.YtmpldaenakenlaaRows
import Derived.Test.YtmpldaenakenlaaMC2
import Derived.OpenShut
import Derived.SizedLaws
import Derived.Deep.Slices
namespace Go.Proofs.Ytmpldaenakenlaa
open Go.RowKit
open C (Only hid Still ret_bool ret_int)
set_option linter.unusedVariables false
set_option maxRecDepth 100000

theorem orN_at (c : Nat → Nat) (i : Nat) : ∀ n, (orN c n).testBit i = true ↔ ∃ k, k < n ∧ (c k).testBit i = true
  | 0 => by
    show (0 : Nat).testBit i = true ↔ _
    rw [Nat.zero_testBit]
    constructor
    · intro h; cases h
    · rintro ⟨k, h, _⟩; omega
  | n + 1 => by
    show (orN c n ||| c n).testBit i = true ↔ _
    rw [Nat.testBit_or, Bool.or_eq_true, orN_at c i n]
    constructor
    · rintro (⟨k, h1, h2⟩ | h)
      · exact ⟨k, by omega, h2⟩
      · exact ⟨n, by omega, h⟩
    · rintro ⟨k, h1, h2⟩
      rcases Nat.lt_or_ge k n with z | z
      · exact .inl ⟨k, z, h2⟩
      · obtain rfl : k = n := by omega
        exact .inr h2
def IV.isUp (v : IV) (i : Nat) : Prop := v.lv.testBit i = true ∨ v.pu.testBit i = true
def IV.isCl (v : IV) (i : Nat) : Prop := ∃ k, k < v.n ∧ (v.cl k).testBit i = true
theorem opn_at {v : IV} (ok : IOk v) (h i : Nat) : (v.opn h).testBit i = true ↔ v.isUp i ∧ ¬ v.isCl i ∧ (v.le h).testBit i = true := by
  unfold IV.opn IV.up IV.isUp IV.isCl
  rw [Nat.testBit_and, anN_at _ _ _ (orN_lt ok.cl _), Nat.testBit_or]
  simp only [Bool.and_eq_true, Bool.or_eq_true, decide_eq_true_eq, Bool.not_eq_true', ← Bool.not_eq_true, orN_at]
  constructor
  · rintro ⟨⟨h1, h2, h3⟩, h4⟩; exact ⟨h1, h3, h4⟩
  · rintro ⟨h1, h3, h4⟩
    refine ⟨⟨h1, ?_, h3⟩, h4⟩
    rcases Nat.lt_or_ge i 32 with z | z
    · exact z
    · rw [high (ok.le h) z] at h4; cases h4
theorem opn_0 {v : IV} (ok : IOk v) (h : Nat) : (v.opn h).testBit 0 = false := by
  cases e : (v.opn h).testBit 0
  · rfl
  · rcases ((opn_at ok h 0).1 e).1 with z | z
    · rw [ok.l0] at z; cases z
    · rw [ok.p0] at z; cases z
/-- the source that is claimed, told by what it is -/
theorem src_spec {v : IV} (ok : IOk v) (h : Nat) : (v.src h = 0 ∧ v.opn h = 0) ∨ (1 ≤ v.src h ∧ v.src h < 32 ∧ (v.opn h).testBit (v.src h) = true ∧ ∀ i, i < v.src h → (v.opn h).testBit i = false) := by
  have isI : ∀ i, isIn (v.opn h) i = (v.opn h).testBit i := fun i => by
    unfold isIn
    rcases Nat.eq_zero_or_pos i with z | z
    · subst z; rw [opn_0 ok]; rfl
    · rw [show decide (1 ≤ i) = true by simp; omega, Bool.true_and]
  rcases lowest_spec (v.opn h) with ⟨h1, h2⟩ | ⟨h1, h2, h3, h4⟩
  · left
    refine ⟨h1, ?_⟩
    apply set_ext (IV.opn_lt ok h) (by decide)
    intro i hi
    rw [← isI, h2 i hi, Nat.zero_testBit]
  · right
    exact ⟨h1, h2, by rw [← isI]; exact h3, fun i hi => by rw [← isI]; exact h4 i hi⟩
theorem src_is {v : IV} (ok : IOk v) (h s : Nat) (h1 : (v.opn h).testBit s = true) (h2 : ∀ i, i < s → (v.opn h).testBit i = false) : v.src h = s := by
  rcases src_spec ok h with ⟨_, z⟩ | ⟨z1, z2, z3, z4⟩
  · rw [z, Nat.zero_testBit] at h1; cases h1
  · rcases Nat.lt_trichotomy (v.src h) s with y | y | y
    · rw [h2 _ y] at z3; cases z3
    · exact y
    · rw [z4 _ y] at h1; cases h1
theorem src_none {v : IV} (ok : IOk v) (h : Nat) (h1 : v.opn h = 0) : v.src h = 0 := by
  rcases src_spec ok h with ⟨z, _⟩ | ⟨z1, z2, z3, z4⟩
  · exact z
  · rw [h1, Nat.zero_testBit] at z3; cases z3
theorem bitN_nat (s i : Nat) : (bitN (s : Int)).testBit i = true ↔ 1 ≤ s ∧ s < 32 ∧ s = i := by
  rw [bitN_at]
  simp only [decide_eq_true_eq]
  omega
theorem clm_cl {v : IV} (k i : Nat) (hk : k < v.n) : (v.clm k).isCl i ↔ v.isCl i ∨ (bitN (v.src k : Int)).testBit i = true := by
  unfold IV.isCl
  show (∃ j, j < v.n ∧ (upN v.cl k (v.cl k ||| bitN (v.src k)) j).testBit i = true) ↔ _
  constructor
  · rintro ⟨j, h1, h2⟩
    by_cases e : j = k
    · subst e
      rw [upN_same, Nat.testBit_or, Bool.or_eq_true] at h2
      exact h2.imp (fun z => ⟨j, h1, z⟩) id
    · rw [upN_other _ _ _ _ e] at h2
      exact .inl ⟨j, h1, h2⟩
  · rintro (⟨j, h1, h2⟩ | h)
    · by_cases e : j = k
      · subst e
        exact ⟨j, h1, by rw [upN_same, Nat.testBit_or, h2]; rfl⟩
      · exact ⟨j, h1, by rw [upN_other _ _ _ _ e]; exact h2⟩
    · exact ⟨k, hk, by rw [upN_same, Nat.testBit_or, h, Bool.or_true]⟩
theorem clm_up {v : IV} (ok : IOk v) (k i : Nat) : (v.clm k).isUp i ↔ v.lv.testBit i = true ∨ (v.pu.testBit i = true ∧ ¬ (bitN (v.src k : Int)).testBit i = true) := by
  unfold IV.isUp
  show v.lv.testBit i = true ∨ (anN v.pu (bitN (v.src k))).testBit i = true ↔ _
  rw [anN_at _ _ _ (bitN_lt _)]
  simp only [Bool.and_eq_true, decide_eq_true_eq, Bool.not_eq_true', ← Bool.not_eq_true]
  constructor
  · rintro (z | ⟨z1, z2, z3⟩)
    · exact .inl z
    · exact .inr ⟨z1, z3⟩
  · rintro (z | ⟨z1, z3⟩)
    · exact .inl z
    · refine .inr ⟨z1, ?_, z3⟩
      rcases Nat.lt_or_ge i 32 with z | z
      · exact z
      · rw [high ok.pu z] at z1; cases z1
theorem clm_opn {v : IV} (ok : IOk v) (k h i : Nat) (hk : k < v.n) : ((v.clm k).opn h).testBit i = true ↔ (v.opn h).testBit i = true ∧ i ≠ v.src k := by
  rw [opn_at (ok.clm k), opn_at ok, clm_cl k i hk, clm_up ok]
  show _ ∧ _ ∧ (v.le h).testBit i = true ↔ _
  unfold IV.isUp
  have e0 : ∀ i, v.src k = i → (v.lv.testBit i = true ∨ v.pu.testBit i = true) → (bitN (v.src k : Int)).testBit i = true := fun i hi hu => by
    rw [bitN_nat]
    rcases src_spec ok k with ⟨z, _⟩ | ⟨z1, z2, _⟩
    · rw [z] at hi
      subst hi
      rw [ok.l0, ok.p0] at hu
      rcases hu with y | y <;> cases y
    · omega
  constructor
  · rintro ⟨h1, h2, h3⟩
    have hb : ¬ (bitN (v.src k : Int)).testBit i = true := fun z => h2 (.inr z)
    have hu : v.lv.testBit i = true ∨ v.pu.testBit i = true := h1.imp id fun z => z.1
    exact ⟨⟨hu, fun z => h2 (.inl z), h3⟩, fun z => hb (e0 i z.symm hu)⟩
  · rintro ⟨⟨h1, h2, h3⟩, h4⟩
    have hb : ¬ (bitN (v.src k : Int)).testBit i = true := fun z => by rw [bitN_nat] at z; omega
    exact ⟨h1.imp id fun z => ⟨z, hb⟩, fun z => z.elim h2 hb, h3⟩
theorem opn_ne (v : IV) (h : Nat) : (v.opn h != 0) = decide (v.opn h ≠ 0) := by rw [Bool.eq_iff_iff]; simp
end Go.Proofs.Ytmpldaenakenlaa
namespace Go.Proofs.Ytmpldaenakenlaa
open Go.RowKit
open C (Only hid Still ret_bool ret_int)
set_option linter.unusedVariables false
set_option maxRecDepth 100000

theorem ev_at (i : Nat) : (4294967294 : Nat).testBit i = true ↔ 1 ≤ i ∧ i < 32 := by
  rcases Nat.lt_or_ge i 32 with z | z
  · have : ∀ k : Fin 32, (4294967294 : Nat).testBit k.val = decide (1 ≤ k.val) := by decide +kernel
    have h := this ⟨i, z⟩
    simp only at h
    rw [h]
    simp
    omega
  · rw [high (by decide) z]
    constructor
    · intro h; cases h
    · omega
theorem ev_lt (x : Nat) : x &&& 4294967294 < 4294967296 := by
  have : x &&& 4294967294 ≤ 4294967294 := Nat.and_le_right
  omega
theorem mod_at (x i : Nat) (hi : i < 32) : (x % 4294967296).testBit i = x.testBit i := by
  have := Nat.testBit_mod_two_pow x 32 i
  rw [show (2 : Nat) ^ 32 = 4294967296 by decide] at this
  rw [this]
  simp [hi]
/-- levels as far as source s -/
structure LV (u m o s : Nat) (c : IV) : Prop where
  ok : IOk c
  n : c.n = 2
  pu : c.pu = 0
  cl : ∀ i, c.cl i = 0
  e0 : c.le 0 = m % 4294967296 &&& 4294967294
  e1 : c.le 1 = o % 4294967296 &&& 4294967294
  lv : ∀ i, c.lv.testBit i = true ↔ u.testBit i = true ∧ 1 ≤ i ∧ i < 32 ∧ i < s
theorem LV.next {u m o s : Nat} {c : IV} (h : LV u m o s c) (hs : s < 32) : LV u m o (s + 1) (c.lev s (u.testBit s)) := by
  refine ⟨h.ok.lev _ _, h.n, h.pu, h.cl, h.e0, h.e1, fun i => ?_⟩
  show (if u.testBit s then anN c.lv (bitN s) ||| bitN s else anN c.lv (bitN s)).testBit i = true ↔ _
  have ha : (anN c.lv (bitN (s : Int))).testBit i = true ↔ u.testBit i = true ∧ 1 ≤ i ∧ i < 32 ∧ i < s := by
    rw [anN_at _ _ _ (bitN_lt _)]
    simp only [Bool.and_eq_true, decide_eq_true_eq, Bool.not_eq_true', ← Bool.not_eq_true, h.lv, bitN_nat]
    generalize u.testBit i = b
    cases b
    · simp
    · simp; omega
  cases e : u.testBit s
  · rw [if_neg (by decide), ha]
    constructor
    · rintro ⟨z1, z2, z3, z4⟩; exact ⟨z1, z2, z3, by omega⟩
    · rintro ⟨z1, z2, z3, z4⟩
      refine ⟨z1, z2, z3, ?_⟩
      rcases Nat.lt_or_ge i s with y | y
      · exact y
      · obtain rfl : i = s := by omega
        rw [e] at z1; cases z1
  · rw [if_pos rfl, Nat.testBit_or, Bool.or_eq_true, ha, bitN_nat]
    constructor
    · rintro (z | z)
      · exact ⟨z.1, z.2.1, z.2.2.1, by omega⟩
      · obtain ⟨z1, z2, rfl⟩ := z
        exact ⟨e, by omega, z2, by omega⟩
    · rintro ⟨z1, z2, z3, z4⟩
      rcases Nat.lt_or_ge i s with y | y
      · exact .inl ⟨z1, z2, z3, y⟩
      · obtain rfl : i = s := by omega
        exact .inr ⟨z2, z3, rfl⟩
theorem LV.up {u m o : Nat} {c : IV} (h : LV u m o 32 c) : c.up = u &&& 4294967294 := by
  unfold IV.up
  rw [h.pu, Nat.or_zero]
  apply set_ext h.ok.lv (ev_lt u)
  intro i hi
  rw [Bool.eq_iff_iff, h.lv, Nat.testBit_and, Bool.and_eq_true, ev_at]
  exact ⟨fun z => ⟨z.1, z.2.1, z.2.2.1⟩, fun z => ⟨z.1, z.2.1, z.2.2, z.2.2⟩⟩
theorem LV.opn {u m o : Nat} {c : IV} (h : LV u m o 32 c) (k x : Nat) (hk : c.le k = x % 4294967296 &&& 4294967294) : c.opn k = u &&& x &&& 4294967294 := by
  apply set_ext (IV.opn_lt h.ok k) (ev_lt _)
  intro i hi
  rw [Bool.eq_iff_iff, opn_at h.ok, hk, Nat.testBit_and, Nat.testBit_and, Nat.testBit_and, Bool.and_eq_true, Bool.and_eq_true, Bool.and_eq_true, ev_at, mod_at _ _ hi]
  unfold IV.isUp IV.isCl
  rw [h.lv, h.pu, Nat.zero_testBit]
  constructor
  · rintro ⟨z1, z2, z3, z4⟩
    rcases z1 with z1 | z1
    · exact ⟨⟨z1.1, z3⟩, z4⟩
    · cases z1
  · rintro ⟨⟨z1, z2⟩, z3⟩
    refine ⟨.inl ⟨z1, z3.1, z3.2, z3.2⟩, ?_, z2, z3⟩
    rintro ⟨j, _, y⟩
    rw [h.cl, Nat.zero_testBit] at y
    cases y
/-- what hart 0 has claimed as far as source s -/
structure LC (V s : Nat) (c : IV) : Prop where
  ok : IOk c
  n : c.n = 2
  op : ∀ i, (c.opn 0).testBit i = true ↔ V.testBit i = true ∧ s ≤ i
theorem LC.src {V s : Nat} {c : IV} (h : LC V s c) (hv : V.testBit s = true) : c.src 0 = s := by
  refine src_is h.ok 0 s ((h.op s).2 ⟨hv, Nat.le_refl _⟩) fun i hi => ?_
  cases e : (c.opn 0).testBit i
  · rfl
  · have := ((h.op i).1 e).2; omega
theorem LC.hit {V s : Nat} {c : IV} (h : LC V s c) (hv : V.testBit s = true) : LC V (s + 1) (c.clm 0) := by
  refine ⟨h.ok.clm 0, h.n, fun i => ?_⟩
  rw [clm_opn h.ok 0 0 i (by rw [h.n]; decide), h.op, h.src hv]
  exact ⟨fun z => ⟨z.1.1, by omega⟩, fun z => ⟨⟨z.1, by omega⟩, by omega⟩⟩
theorem LC.miss {V s : Nat} {c : IV} (h : LC V s c) (hv : V.testBit s = false) : LC V (s + 1) c := by
  refine ⟨h.ok, h.n, fun i => ?_⟩
  rw [h.op]
  constructor
  · rintro ⟨z1, z2⟩
    refine ⟨z1, ?_⟩
    rcases Nat.lt_or_ge s i with y | y
    · exact y
    · obtain rfl : i = s := by omega
      rw [hv] at z1; cases z1
  · rintro ⟨z1, z2⟩; exact ⟨z1, by omega⟩
theorem LC.done {V : Nat} {c : IV} (h : LC V 32 c) (hV : V < 4294967296) : c.opn 0 = 0 := by
  apply set_ext (IV.opn_lt h.ok 0) (by decide)
  intro i hi
  rw [Nat.zero_testBit]
  cases e : (c.opn 0).testBit i
  · rfl
  · have := ((h.op i).1 e).2; omega
theorem LC.end {V : Nat} {c : IV} (h : LC V 32 c) (hV : V < 4294967296) : c.src 0 = 0 ∧ (c.clm 0).opn 0 = 0 := by
  refine ⟨src_none h.ok 0 (h.done hV), ?_⟩
  apply set_ext (IV.opn_lt (h.ok.clm 0) 0) (by decide)
  intro i hi
  rw [Nat.zero_testBit]
  cases e : ((c.clm 0).opn 0).testBit i
  · rfl
  · have := ((clm_opn h.ok 0 0 i (by rw [h.n]; decide)).1 e).1
    rw [h.done hV, Nat.zero_testBit] at this
    cases this
theorem LV.lc {u m o : Nat} {c : IV} (h : LV u m o 32 c) : LC (u &&& m &&& 4294967294) 1 c := by
  refine ⟨h.ok, h.n, fun i => ?_⟩
  rw [h.opn 0 m h.e0]
  constructor
  · intro z
    refine ⟨z, ?_⟩
    rw [Nat.testBit_and, Bool.and_eq_true, ev_at] at z
    exact z.2.1
  · intro z; exact z.1
theorem lv_first (m o : Nat) (hm : m < 18446744073709551616) (ho : o < 18446744073709551616) (u : Nat) : ((iv0 2).wr 4096 4 m).1 = true ∧ (((iv0 2).wr 4096 4 m).2.wr 4100 4 o).1 = true ∧ LV u m o 0 (((iv0 2).wr 4096 4 m).2.wr 4100 4 o).2 := by
  have f0 : fdN 2 4096 4 = (4096, 0, true) := by decide +kernel
  have f1 : fdN 2 4100 4 = (4096, 1, true) := by decide +kernel
  have e0 : (iv0 2).wr 4096 4 m = (true, (iv0 2).let 0 m) := by
    unfold IV.wr
    rw [show (iv0 2).n = 2 from rfl, f0]
    rfl
  have e1 : ((iv0 2).let 0 m).wr 4100 4 o = (true, ((iv0 2).let 0 m).let 1 o) := by
    unfold IV.wr
    rw [show ((iv0 2).let 0 m).n = 2 from rfl, f1]
    rfl
  rw [e0]
  show true = true ∧ (((iv0 2).let 0 m).wr 4100 4 o).1 = true ∧ LV u m o 0 (((iv0 2).let 0 m).wr 4100 4 o).2
  rw [e1]
  refine ⟨rfl, rfl, ((iok0 2 (by decide) (by decide)).let 0 m).let 1 o, rfl, rfl, fun i => rfl, ?_, ?_, fun i => ?_⟩
  · show ((m : Int) % 4294967296).toNat &&& 4294967294 = _
    rw [show ((m : Int) % 4294967296).toNat = m % 4294967296 by omega]
  · show ((o : Int) % 4294967296).toNat &&& 4294967294 = _
    rw [show ((o : Int) % 4294967296).toNat = o % 4294967296 by omega]
  · show (0 : Nat).testBit i = true ↔ _
    rw [Nat.zero_testBit]
    constructor
    · intro z; cases z
    · omega
end Go.Proofs.Ytmpldaenakenlaa
namespace Go.Proofs.Ytmpldaenakenlaa
open Go.RowKit
open C (Only hid Still ret_bool ret_int)
set_option linter.unusedVariables false
set_option maxRecDepth 100000

/-- the harts below k let source s, and nothing has happened yet -/
structure Ca (n s k : Nat) (c : IV) : Prop where
  ok : IOk c
  nn : c.n = n
  lv : c.lv = 0
  pu : c.pu = 0
  cl : ∀ i, c.cl i = 0
  le : ∀ i, i < k → ∀ j, (c.le i).testBit j = true ↔ j = s
/-- by: which hart has it (n: none); lf: it is up -/
structure Cb (n s by_ : Nat) (lf pl : Bool) (c : IV) : Prop where
  ok : IOk c
  nn : c.n = n
  lv : ∀ j, c.lv.testBit j = true ↔ j = s ∧ pl = false
  pu : ∀ j, c.pu.testBit j = true ↔ j = s ∧ pl = true ∧ lf = true
  lff : pl = false → lf = true
  cl : ∀ i, i < n → ∀ j, (c.cl i).testBit j = true ↔ j = s ∧ i = by_
  le : ∀ i, i < n → ∀ j, (c.le i).testBit j = true ↔ j = s
section
variable {n s k by_ : Nat} {lf pl : Bool} {c : IV}
theorem Ca.opn (h : Ca n s k c) (i : Nat) : c.opn i = 0 := by
  apply set_ext (IV.opn_lt h.ok i) (by decide)
  intro j hj
  rw [Nat.zero_testBit]
  cases e : (c.opn i).testBit j
  · rfl
  · rcases ((opn_at h.ok i j).1 e).1 with z | z
    · rw [h.lv, Nat.zero_testBit] at z; cases z
    · rw [h.pu, Nat.zero_testBit] at z; cases z
theorem pow_at (s j : Nat) : (2 ^ s : Nat).testBit j = true ↔ j = s := by
  rw [Nat.testBit_two_pow]
  simp
  omega
theorem let_at (s j : Nat) (h1 : 1 ≤ s) (h2 : s < 32) : (((2 ^ s : Nat) : Int) % 4294967296).toNat &&& 4294967294 = 2 ^ s := by
  have : 2 ^ s ≤ 2 ^ 31 := Nat.pow_le_pow_right (by decide) (by omega)
  rw [show (((2 ^ s : Nat) : Int) % 4294967296).toNat = 2 ^ s by generalize 2 ^ s = x at *; omega]
  apply set_ext (ev_lt _) (by omega)
  intro i hi
  rw [Bool.eq_iff_iff, Nat.testBit_and, Bool.and_eq_true, pow_at, ev_at]
  omega
theorem fd_le (n k : Nat) (hn : n ≤ 64) (hk : k < n) : fdN n (4096 + 4 * (k : Int)) 4 = (4096, (k : Int), true) := by
  unfold fdN
  have e : (4096 + 4 * (k : Int)) % 4096 = 4 * (k : Int) := by omega
  rw [e, if_neg (by omega), if_neg (by omega), if_pos (by omega), show 4096 + 4 * (k : Int) - 4 * (k : Int) = 4096 by omega, show 4 * (k : Int) / 4 = k by omega]
  simp
  omega
theorem fd_cl (n k : Nat) (hn : n ≤ 64) (hk : k < n) : fdN n (8192 + 4 * (k : Int)) 4 = (8192, (k : Int), true) := by
  unfold fdN
  have e : (8192 + 4 * (k : Int)) % 4096 = 4 * (k : Int) := by omega
  rw [e, if_neg (by omega), if_neg (by omega), if_pos (by omega), show 8192 + 4 * (k : Int) - 4 * (k : Int) = 8192 by omega, show 4 * (k : Int) / 4 = k by omega]
  simp
  omega
theorem wr_le (hk : k < c.n) (ok : IOk c) (x : Int) : c.wr (4096 + 4 * (k : Int)) 4 x = (true, c.let k x) := by
  unfold IV.wr
  rw [fd_le _ _ ok.n2 hk]
  rfl
theorem wr_cl (hk : k < c.n) (ok : IOk c) (x : Int) : c.wr (8192 + 4 * (k : Int)) 4 x = (true, c.cmp k x) := by
  unfold IV.wr
  rw [fd_cl _ _ ok.n2 hk]
  rfl
theorem rd_cl (hk : k < c.n) (ok : IOk c) : c.rd (8192 + 4 * (k : Int)) 4 = ((c.src k : Int), true, c.clm k) := by
  unfold IV.rd
  rw [fd_cl _ _ ok.n2 hk]
  rfl
theorem Ca.next (h : Ca n s k c) (hk : k < n) (h1 : 1 ≤ s) (h2 : s < 32) : Ca n s (k + 1) (c.let k ((2 ^ s : Nat) : Int)) := by
  refine ⟨h.ok.let _ _, h.nn, h.lv, h.pu, h.cl, fun i hi j => ?_⟩
  show (upN c.le k ((((2 ^ s : Nat) : Int) % 4294967296).toNat &&& 4294967294) i).testBit j = true ↔ _
  by_cases e : i = k
  · subst e
    rw [upN_same, let_at s j h1 h2, pow_at]
  · rw [upN_other _ _ _ _ e]
    exact h.le i (by omega) j
theorem Ca.pulse (h : Ca n s n c) (h1 : 1 ≤ s) (h2 : s < 32) : Cb n s n true true (c.pls s) := by
  refine ⟨h.ok.pls _, h.nn, fun j => ?_, fun j => ?_, fun _ => rfl, fun i hi j => ?_, fun i hi j => h.le i hi j⟩
  · show c.lv.testBit j = true ↔ _
    rw [h.lv, Nat.zero_testBit]
    constructor
    · intro z; cases z
    · rintro ⟨_, z⟩; cases z
  · show (c.pu ||| bitN s).testBit j = true ↔ _
    rw [h.pu, Nat.zero_or, bitN_nat]
    constructor
    · rintro ⟨_, _, rfl⟩; exact ⟨rfl, rfl, rfl⟩
    · rintro ⟨rfl, _⟩; exact ⟨h1, h2, rfl⟩
  · show (c.cl i).testBit j = true ↔ _
    rw [h.cl, Nat.zero_testBit]
    constructor
    · intro z; cases z
    · rintro ⟨_, z⟩; omega
theorem Ca.level (h : Ca n s n c) (h1 : 1 ≤ s) (h2 : s < 32) : Cb n s n true false (c.lev s true) := by
  refine ⟨h.ok.lev _ _, h.nn, fun j => ?_, fun j => ?_, fun _ => rfl, fun i hi j => ?_, fun i hi j => h.le i hi j⟩
  · show (anN c.lv (bitN s) ||| bitN s).testBit j = true ↔ _
    rw [h.lv, Nat.testBit_or, anN_at _ _ _ (bitN_lt _), Nat.zero_testBit, Bool.false_and, Bool.false_or, bitN_nat]
    constructor
    · rintro ⟨_, _, rfl⟩; exact ⟨rfl, rfl⟩
    · rintro ⟨rfl, _⟩; exact ⟨h1, h2, rfl⟩
  · show c.pu.testBit j = true ↔ _
    rw [h.pu, Nat.zero_testBit]
    constructor
    · intro z; cases z
    · rintro ⟨_, z, _⟩; cases z
  · show (c.cl i).testBit j = true ↔ _
    rw [h.cl, Nat.zero_testBit]
    constructor
    · intro z; cases z
    · rintro ⟨_, z⟩; omega
theorem Cb.up (h : Cb n s by_ lf pl c) (j : Nat) : c.isUp j ↔ j = s ∧ lf = true := by
  unfold IV.isUp
  rw [h.lv, h.pu]
  cases e : pl
  · rw [h.lff e]; simp
  · simp
theorem Cb.isc (h : Cb n s by_ lf pl c) (j : Nat) : c.isCl j ↔ j = s ∧ by_ < n := by
  unfold IV.isCl
  rw [h.nn]
  constructor
  · rintro ⟨i, hi, z⟩
    rw [h.cl i hi] at z
    omega
  · rintro ⟨z1, z2⟩
    exact ⟨by_, z2, (h.cl by_ z2 j).2 ⟨z1, rfl⟩⟩
theorem Cb.opn (h : Cb n s by_ lf pl c) (i : Nat) (hi : i < n) (j : Nat) : (c.opn i).testBit j = true ↔ j = s ∧ lf = true ∧ ¬ by_ < n := by
  rw [opn_at h.ok, h.up, h.isc, h.le i hi]
  constructor
  · rintro ⟨⟨z1, z2⟩, z3, z4⟩; exact ⟨z1, z2, fun y => z3 ⟨z1, y⟩⟩
  · rintro ⟨z1, z2, z3⟩; exact ⟨⟨z1, z2⟩, fun y => z3 y.2, z1⟩
/-- what a hart is told -/
theorem Cb.src (h : Cb n s by_ lf pl c) (i : Nat) (hi : i < n) : c.src i = if lf = true ∧ ¬ by_ < n then s else 0 := by
  split
  · rename_i q
    refine src_is h.ok i s ((h.opn i hi s).2 ⟨rfl, q.1, q.2⟩) fun j hj => ?_
    cases e : (c.opn i).testBit j
    · rfl
    · have := ((h.opn i hi j).1 e).1; omega
  · rename_i q
    refine src_none h.ok i ?_
    apply set_ext (IV.opn_lt h.ok i) (by decide)
    intro j hj
    rw [Nat.zero_testBit]
    cases e : (c.opn i).testBit j
    · rfl
    · exact absurd ((h.opn i hi j).1 e).2 q
theorem Cb.pen (h : Cb n s by_ lf pl c) (i : Nat) (hi : i < n) (h1 : s < 32) : c.pen i = decide (lf = true ∧ ¬ by_ < n) := by
  unfold IV.pen
  rw [show decide (0 ≤ (i : Int)) = true by simp, show decide ((i : Int) < c.n) = true by rw [h.nn]; simp; omega, Int.toNat_natCast, Bool.true_and, Bool.true_and, Bool.eq_iff_iff]
  simp only [bne_iff_ne, ne_eq, decide_eq_true_eq]
  constructor
  · intro z
    refine Classical.byContradiction fun q => z ?_
    apply set_ext (IV.opn_lt h.ok i) (by decide)
    intro j hj
    rw [Nat.zero_testBit]
    cases e : (c.opn i).testBit j
    · rfl
    · exact absurd ((h.opn i hi j).1 e).2 q
  · intro q z
    have := (h.opn i hi s).2 ⟨rfl, q⟩
    rw [z, Nat.zero_testBit] at this
    cases this
/-- a claim that is told the source -/
theorem Cb.hit (h : Cb n s by_ lf pl c) (i : Nat) (hi : i < n) (h1 : 1 ≤ s) (h2 : s < 32) (q : lf = true ∧ ¬ by_ < n) : Cb n s i (!pl) pl (c.clm i) := by
  have es : c.src i = s := by rw [h.src i hi, if_pos q]
  refine ⟨h.ok.clm i, h.nn, fun j => h.lv j, fun j => ?_, fun z => by rw [z]; rfl, fun a ha j => ?_, fun a ha j => h.le a ha j⟩
  · show (anN c.pu (bitN (c.src i))).testBit j = true ↔ _
    rw [anN_at _ _ _ (bitN_lt _), es]
    simp only [Bool.and_eq_true, decide_eq_true_eq, Bool.not_eq_true', ← Bool.not_eq_true, h.pu, bitN_nat]
    constructor
    · rintro ⟨⟨z1, _⟩, _, z3⟩; exact absurd ⟨h1, h2, z1.symm⟩ z3
    · rintro ⟨_, z1, z2⟩
      rw [z1] at z2; exact absurd rfl z2
  · show (upN c.cl i (c.cl i ||| bitN (c.src i)) a).testBit j = true ↔ _
    rw [es]
    by_cases e : a = i
    · subst e
      rw [upN_same, Nat.testBit_or, Bool.or_eq_true, h.cl a ha, bitN_nat]
      omega
    · rw [upN_other _ _ _ _ e, h.cl a ha]
      omega
/-- one that is told nothing -/
theorem Cb.miss (h : Cb n s by_ lf pl c) (i : Nat) (hi : i < n) (q : ¬ (lf = true ∧ ¬ by_ < n)) : Cb n s by_ lf pl (c.clm i) := by
  have es : c.src i = 0 := by rw [h.src i hi, if_neg q]
  have eb : bitN ((0 : Nat) : Int) = 0 := by decide +kernel
  have e : c.clm i = { c with pu := anN c.pu 0, cl := upN c.cl i (c.cl i ||| 0) } := by
    unfold IV.clm
    rw [es, eb]
  have ok := h.ok.clm i
  rw [e] at ok ⊢
  have ep : anN c.pu 0 = c.pu := by
    apply set_ext (anN_lt _ _ h.ok.pu) h.ok.pu
    intro j hj
    rw [anN_at _ _ _ (by decide), Nat.zero_testBit]
    simp [hj]
  refine ⟨ok, h.nn, fun j => h.lv j, fun j => ?_, h.lff, fun a ha j => ?_, fun a ha j => h.le a ha j⟩
  · show (anN c.pu 0).testBit j = true ↔ _
    rw [ep]
    exact h.pu j
  · show (upN c.cl i (c.cl i ||| 0) a).testBit j = true ↔ _
    by_cases e : a = i
    · subst e
      rw [upN_same, Nat.or_zero]
      exact h.cl a ha j
    · rw [upN_other _ _ _ _ e]
      exact h.cl a ha j
/-- a completion -/
theorem Cb.comp (h : Cb n s by_ lf pl c) (i : Nat) (hi : i < n) (h1 : 1 ≤ s) (h2 : s < 32) : Cb n s (if by_ = i then n else by_) lf pl (c.cmp i s) := by
  refine ⟨h.ok.cmp i _, h.nn, fun j => h.lv j, fun j => h.pu j, h.lff, fun a ha j => ?_, fun a ha j => h.le a ha j⟩
  show (upN c.cl i (anN (c.cl i) (bitN ((s : Int) % 4294967296))) a).testBit j = true ↔ _
  rw [show (s : Int) % 4294967296 = s by omega]
  by_cases e : a = i
  · subst e
    rw [upN_same, anN_at _ _ _ (bitN_lt _)]
    simp only [Bool.and_eq_true, decide_eq_true_eq, Bool.not_eq_true', ← Bool.not_eq_true, h.cl a ha, bitN_nat]
    split <;> omega
  · rw [upN_other _ _ _ _ e, h.cl a ha]
    split <;> omega
end
end Go.Proofs.Ytmpldaenakenlaa
namespace Go.Proofs.Ytmpldaenakenlaa
open Go.ChangeShapes Go.WideShapes Go.ChangeAt Go.RowKit Go.Deep
set_option linter.unusedVariables false

theorem cells_i8 : Try.prog.cellsOf 3 = 1 := by kernel_rfl
theorem cells_u8 : Try.prog.cellsOf 29 = 1 := by kernel_rfl
theorem addr_two (a : Addr) (i j : Nat) : (a.add i).add j = a.add (i + j) := by
  unfold Addr.add
  by_cases hi : i = 0
  · subst hi; simp
  · by_cases hj : j = 0
    · subst hj; simp
    · have : ¬ i + j = 0 := by omega
      simp [hi, hj, Nat.add_assoc]
theorem fld8 {T k : Nat} {t : TypeId} {o : Nat} (h : ((Try.prog.fieldsOf T)[k]?).map (fun f => (f.type, f.offset)) = some (t, o)) : ∃ f, (Try.prog.fieldsOf T)[k]? = some f ∧ f.type = t ∧ f.offset = o := by
  cases hq : (Try.prog.fieldsOf T)[k]? with
  | none => rw [hq] at h; cases h
  | some f => rw [hq] at h; simp at h; exact ⟨f, rfl, h.1, h.2⟩
structure PopV where
  kd : Int
  sz : Int
  sr : Int
  of : Int
  v : Int
def PopV.cs (x : PopV) : List Value := [.int .i64 x.kd, .int .i64 x.sz, .int .i64 x.sr, .int .u64 x.of, .int .u64 x.v]
structure PopB (x : PopV) : Prop where
  kd : -9223372036854775808 ≤ x.kd ∧ x.kd ≤ 9223372036854775807
  sz : -9223372036854775808 ≤ x.sz ∧ x.sz ≤ 9223372036854775807
  sr : -9223372036854775808 ≤ x.sr ∧ x.sr ≤ 9223372036854775807
  of : 0 ≤ x.of ∧ x.of < 18446744073709551616
  v : 0 ≤ x.v ∧ x.v < 18446744073709551616
structure Pc (w : World) (ad : Option Addr) (la cap ab ao : Nat) (X : Nat → PopV) : Prop where
  len : la ≤ cap
  cap : cap ≤ 9223372036854775807
  at0 : 0 < la → ad = some ⟨ab, ao, none⟩ ∧ ab < w.heap.size
  cell : ∀ i, i < la → ∀ j, j < 5 → w.cell? ⟨ab, ao + i * 5 + j, none⟩ = (X i).cs[j]?
  num : ∀ i, i < la → PopB (X i)
theorem Pc.below {w w' : World} {ad : Option Addr} {la cap ab ao : Nat} {X : Nat → PopV} (h : Pc w ad la cap ab ao X) (hb : Below w.heap.size w w') : Pc w' ad la cap ab ao X :=
  ⟨h.len, h.cap, fun q => ⟨(h.at0 q).1, Nat.lt_of_lt_of_le (h.at0 q).2 hb.size⟩, fun i hi j hj => by
    have hlt := (h.at0 (by omega)).2
    have e : ∀ o, w'.cell? ⟨ab, o, none⟩ = w.cell? ⟨ab, o, none⟩ := fun o => World.cell?_of_block (w := w) (hb.block _ hlt)
    rw [e]; exact h.cell i hi j hj, h.num⟩
theorem under_pop : Try.prog.underlying 31 = some (.struct (Try.prog.fieldsOf 31)) := by kernel_rfl
theorem cells_pop : Try.prog.cellsOf 31 = 5 := by kernel_rfl
theorem u_sPOp : Try.prog.underlying 22 = some (.slice 31) := by kernel_rfl
set_option maxRecDepth 100000 in
theorem open_pop {H : Type} {enc : TypeId × Value → H} {W : World} {base fuel : Nat} {cs : List Value} {x : DataW H × List MemPlace} (h : DataW.trod enc Try.prog W base (fun _ => true) true fuel 31 cs = some x) :
    ∃ X : PopV, cs = X.cs ∧ PopB X := by
  obtain ⟨xs, n, _, rfl, hcl, hlen, hfs⟩ := DataW.trod_struct under_pop h
  have hl : xs.length = 5 := by rw [hlen]; kernel_rfl
  rw [cells_pop] at hcl
  obtain ⟨f0, e0, t0, o0⟩ := fld8 (T := 31) (k := 0) (t := 3) (o := 0) (by kernel_rfl)
  have q0 := hfs 0 f0 e0
  rw [t0, o0, cells_i8, List.getElem?_eq_getElem (by omega)] at q0
  obtain ⟨z0, r0, _, w0⟩ := DataW.trod_int Try.underlying3 q0
  obtain ⟨f1, e1, t1, o1⟩ := fld8 (T := 31) (k := 1) (t := 3) (o := 1) (by kernel_rfl)
  have q1 := hfs 1 f1 e1
  rw [t1, o1, cells_i8, List.getElem?_eq_getElem (by omega)] at q1
  obtain ⟨z1, r1, _, w1⟩ := DataW.trod_int Try.underlying3 q1
  obtain ⟨f2, e2, t2, o2⟩ := fld8 (T := 31) (k := 2) (t := 3) (o := 2) (by kernel_rfl)
  have q2 := hfs 2 f2 e2
  rw [t2, o2, cells_i8, List.getElem?_eq_getElem (by omega)] at q2
  obtain ⟨z2, r2, _, w2⟩ := DataW.trod_int Try.underlying3 q2
  obtain ⟨f3, e3, t3, o3⟩ := fld8 (T := 31) (k := 3) (t := 29) (o := 3) (by kernel_rfl)
  have q3 := hfs 3 f3 e3
  rw [t3, o3, cells_u8, List.getElem?_eq_getElem (by omega)] at q3
  obtain ⟨z3, r3, _, w3⟩ := DataW.trod_int Try.underlying29 q3
  obtain ⟨f4, e4, t4, o4⟩ := fld8 (T := 31) (k := 4) (t := 29) (o := 4) (by kernel_rfl)
  have q4 := hfs 4 f4 e4
  rw [t4, o4, cells_u8, List.getElem?_eq_getElem (by omega)] at q4
  obtain ⟨z4, r4, _, w4⟩ := DataW.trod_int Try.underlying29 q4
  obtain ⟨c0, c1, c2, c3, c4, rfl⟩ : ∃ c0 c1 c2 c3 c4, cs = [c0, c1, c2, c3, c4] := by
    match cs, hcl with
    | [c0, c1, c2, c3, c4], _ => exact ⟨c0, c1, c2, c3, c4, rfl⟩
  simp at r0 r1 r2 r3 r4
  subst r0 r1 r2 r3 r4
  have b3 := bounds_u64 w3
  have b4 := bounds_u64 w4
  exact ⟨⟨z0, z1, z2, z3, z4⟩, rfl, ⟨bounds_i64 w0, bounds_i64 w1, bounds_i64 w2, ⟨b3.1, by show z3 < _; omega⟩, ⟨b4.1, by show z4 < _; omega⟩⟩⟩
set_option maxRecDepth 100000 in
/-- a script, as it stands -/
theorem open_pops {H : Type} {enc : TypeId × Value → H} {W : World} {base : Nat} {r : Reach} {b : Nat} {v : Value} {d : DataW H} {p : List MemPlace}
    (hv : Value.okWide Try.prog W r b 22 v) (h : DataW.Trod enc Try.prog W base (fun _ => true) true 22 v d p) (hlt : ∀ x ∈ p, x.block < W.heap.size) :
    ∃ (ad : Option Addr) (la cap ab ao : Nat) (X : Nat → PopV), v = .slice ad la cap ∧ Pc W ad la cap ab ao X := by
  obtain ⟨a0, len, cap, rfl⟩ := okWide_slice u_sPOp hv
  obtain ⟨fuel, hf⟩ := h
  rcases open_slice u_sPOp hf with ⟨hcs, hx⟩ | ⟨a, len', cap', m, n, D, Pl, hcs, _, hl, hm, hmm, hx, hel⟩
  · simp [Value.cells] at hcs
    obtain ⟨rfl, rfl, rfl⟩ := hcs
    exact ⟨none, 0, 0, 0, 0, fun _ => ⟨0, 0, 0, 0, 0⟩, rfl, ⟨Nat.le_refl _, by decide, fun q => absurd q (by decide), fun i hi => absurd hi (Nat.not_lt_zero i), fun i hi => absurd hi (Nat.not_lt_zero i)⟩⟩
  · simp [Value.cells] at hcs
    obtain ⟨rfl, rfl, rfl⟩ := hcs
    simp only [if_true] at hmm
    have each : ∀ i, ∃ X : PopV, i < len → PopB X ∧ ∀ j, j < 5 → W.cell? (a.add (i * 5 + j)) = X.cs[j]? := fun i => by
      rcases Nat.lt_or_ge i len with hi | hi
      · obtain ⟨cs', h1, h2⟩ := hel i (by omega)
        obtain ⟨X, rfl, b0⟩ := open_pop h2
        rw [cells_pop] at h1
        obtain ⟨_, hlen, hcell⟩ := World.cells?_some h1
        refine ⟨X, fun _ => ⟨b0, fun j hj => ?_⟩⟩
        have := hcell j hj
        rw [addr_two] at this
        exact this
      · exact ⟨⟨0, 0, 0, 0, 0⟩, fun q => by omega⟩
    obtain ⟨X, hX⟩ := Classical.axiomOfChoice each
    clear each
    have hbl : ∀ h0 : 0 < len, a.spot = none ∧ a.block < W.heap.size := fun h0 => by
      have k0 := (hX 0 h0).2 0 (by decide)
      refine ⟨by simpa [Addr.add] using World.cell?_spot k0, ?_⟩
      obtain ⟨cs', h1, _⟩ := hel 0 (by omega)
      rw [cells_pop] at h1
      have := World.cells?_block h1 (by decide)
      simpa [Addr.add] using this
    obtain ⟨ab, ao, asp⟩ := a
    refine ⟨some ⟨ab, ao, asp⟩, len, cap, ab, ao, X, rfl, ⟨hl, by simpa [maxLen] using hm, fun h0 => ?_, fun i hi j hj => ?_, fun i hi => (hX i hi).1⟩⟩
    · obtain ⟨q1, q2⟩ := hbl h0
      obtain rfl : asp = none := q1
      exact ⟨rfl, q2⟩
    · obtain ⟨q1, q2⟩ := hbl (by omega)
      obtain rfl : asp = none := q1
      have k := (hX i hi).2 j hj
      rw [C.addr_add, ← Nat.add_assoc] at k
      exact k
theorem bytes_pop : Try.prog.bytesOf 31 = 40 := by kernel_rfl
set_option maxRecDepth 100000 in
theorem pops_len {H : Type} {enc : TypeId × Value → H} {W : World} {base : Nat} {ad : Option Addr} {la cap : Nat} {d : DataW H} {p : List MemPlace} (h : DataW.Trod enc Try.prog W base (fun _ => true) true 22 (.slice ad la cap) d p) (hw : ∀ n ∈ d.weights Try.prog 22, n ≤ reachBytes) : la ≤ 8796093022208 := by
  obtain ⟨fuel, hf⟩ := h
  rcases open_slice u_sPOp hf with ⟨hcs, hx⟩ | ⟨a, len', cap', m, n, D, Pl, hcs, _, hl, hm, hmm, hx, hel⟩
  · simp [Value.cells] at hcs
    obtain ⟨rfl, rfl, rfl⟩ := hcs
    exact Nat.zero_le _
  · simp [Value.cells] at hcs
    obtain ⟨rfl, rfl, rfl⟩ := hcs
    simp only [Prod.mk.injEq] at hx
    obtain ⟨rfl, rfl⟩ := hx
    have h2 := hw ((((List.range la).map D).length + ((List.range (m - la)).map fun j => D (la + j)).length) * Try.prog.bytesOf 31) (by simp [DataW.weights])
    rw [bytes_pop] at h2
    simp [reachBytes] at h2
    omega
/-- a list of numbers of a kind, as it stands -/
structure Nu (k : IntKind) (B : Int → Prop) (w : World) (ad : Option Addr) (la cap ab ao : Nat) (A : Nat → Int) : Prop where
  len : la ≤ cap
  cap : cap ≤ 9223372036854775807
  at0 : 0 < la → ad = some ⟨ab, ao, none⟩ ∧ ab < w.heap.size
  cell : ∀ i, i < la → w.cell? ⟨ab, ao + i, none⟩ = some (.int k (A i))
  num : ∀ i, B (A i)
theorem Nu.below {k : IntKind} {B : Int → Prop} {w w' : World} {ad : Option Addr} {la cap ab ao : Nat} {A : Nat → Int} (h : Nu k B w ad la cap ab ao A) (hb : Below w.heap.size w w') : Nu k B w' ad la cap ab ao A :=
  ⟨h.len, h.cap, fun q => ⟨(h.at0 q).1, Nat.lt_of_lt_of_le (h.at0 q).2 hb.size⟩, fun i hi => by
    have hlt := (h.at0 (by omega)).2
    rw [World.cell?_of_block (w := w) (hb.block _ hlt)]; exact h.cell i hi, h.num⟩
def Bi (x : Int) : Prop := -9223372036854775808 ≤ x ∧ x ≤ 9223372036854775807
def Bu (x : Int) : Prop := 0 ≤ x ∧ x < 18446744073709551616
def Bb (x : Int) : Prop := 0 ≤ x ∧ x < 256
theorem cells_ints' : Try.prog.cellsOf 3 = 1 := by kernel_rfl
set_option maxRecDepth 100000 in
theorem open_ints {H : Type} {enc : TypeId × Value → H} {W : World} {base : Nat} {r : Reach} {b : Nat} {v : Value} {d : DataW H} {p : List MemPlace}
    (hv : Value.okWide Try.prog W r b 62 v) (h : DataW.Trod enc Try.prog W base (fun _ => true) true 62 v d p) (hlt : ∀ x ∈ p, x.block < W.heap.size) :
    ∃ (ad : Option Addr) (la cap ab ao : Nat) (A : Nat → Int), v = .slice ad la cap ∧ Nu .i64 Bi W ad la cap ab ao A := by
  obtain ⟨ad, la, cap, ar, aa, rfl, hl, hm, hw, hc⟩ := C.open_nums Try.underlying62 Try.underlying3 cells_ints' hv h hlt
  obtain ⟨ab, ao, asp⟩ := aa
  have hsp : 0 < la → asp = none := fun q => by
    have := (hc q).2.2 0 q
    simpa [Addr.add] using World.cell?_spot this
  refine ⟨ad, la, cap, ab, ao, ar, rfl, ⟨hl, hm, fun q => ?_, fun i hi => ?_, fun i => ?_⟩⟩
  · obtain rfl := hsp q
    exact ⟨(hc q).1, (hc q).2.1⟩
  · obtain rfl := hsp (by omega)
    have := (hc (by omega)).2.2 i hi
    rwa [C.addr_add] at this
  · rcases hw i with q | q
    · rw [q]; exact ⟨by decide, by decide⟩
    · exact bounds_i64 q
theorem u_ints9 : Try.prog.underlying 62 = some (.slice 3) := by kernel_rfl
theorem bytes_ints9 : Try.prog.bytesOf 3 = 8 := by kernel_rfl
set_option maxRecDepth 100000 in
theorem ints_len {H : Type} {enc : TypeId × Value → H} {W : World} {base : Nat} {ad : Option Addr} {la cap : Nat} {d : DataW H} {p : List MemPlace} (h : DataW.Trod enc Try.prog W base (fun _ => true) true 62 (.slice ad la cap) d p) (hw : ∀ n ∈ d.weights Try.prog 62, n ≤ reachBytes) : la ≤ 17592186044416 := by
  obtain ⟨fuel, hf⟩ := h
  rcases open_slice u_ints9 hf with ⟨hcs, hx⟩ | ⟨a, len', cap', m, n, D, Pl, hcs, _, hl, hm, hmm, hx, hel⟩
  · simp [Value.cells] at hcs
    obtain ⟨rfl, rfl, rfl⟩ := hcs
    exact Nat.zero_le _
  · simp [Value.cells] at hcs
    obtain ⟨rfl, rfl, rfl⟩ := hcs
    simp only [Prod.mk.injEq] at hx
    obtain ⟨rfl, rfl⟩ := hx
    have h2 := hw ((((List.range la).map D).length + ((List.range (m - la)).map fun j => D (la + j)).length) * Try.prog.bytesOf 3) (by simp [DataW.weights])
    rw [bytes_ints9] at h2
    simp [reachBytes] at h2
    omega
theorem cells_u64s' : Try.prog.cellsOf 29 = 1 := by kernel_rfl
set_option maxRecDepth 100000 in
theorem open_u64s {H : Type} {enc : TypeId × Value → H} {W : World} {base : Nat} {r : Reach} {b : Nat} {v : Value} {d : DataW H} {p : List MemPlace}
    (hv : Value.okWide Try.prog W r b 40 v) (h : DataW.Trod enc Try.prog W base (fun _ => true) true 40 v d p) (hlt : ∀ x ∈ p, x.block < W.heap.size) :
    ∃ (ad : Option Addr) (la cap ab ao : Nat) (A : Nat → Int), v = .slice ad la cap ∧ Nu .u64 Bu W ad la cap ab ao A := by
  obtain ⟨ad, la, cap, ar, aa, rfl, hl, hm, hw, hc⟩ := C.open_nums Try.underlying40 Try.underlying29 cells_u64s' hv h hlt
  obtain ⟨ab, ao, asp⟩ := aa
  have hsp : 0 < la → asp = none := fun q => by
    have := (hc q).2.2 0 q
    simpa [Addr.add] using World.cell?_spot this
  refine ⟨ad, la, cap, ab, ao, ar, rfl, ⟨hl, hm, fun q => ?_, fun i hi => ?_, fun i => ?_⟩⟩
  · obtain rfl := hsp q
    exact ⟨(hc q).1, (hc q).2.1⟩
  · obtain rfl := hsp (by omega)
    have := (hc (by omega)).2.2 i hi
    rwa [C.addr_add] at this
  · rcases hw i with q | q
    · rw [q]; exact ⟨by decide, by decide⟩
    · have := bounds_u64 q; exact ⟨this.1, by omega⟩
theorem u_u64s9 : Try.prog.underlying 40 = some (.slice 29) := by kernel_rfl
theorem bytes_u64s9 : Try.prog.bytesOf 29 = 8 := by kernel_rfl
set_option maxRecDepth 100000 in
theorem u64s_len {H : Type} {enc : TypeId × Value → H} {W : World} {base : Nat} {ad : Option Addr} {la cap : Nat} {d : DataW H} {p : List MemPlace} (h : DataW.Trod enc Try.prog W base (fun _ => true) true 40 (.slice ad la cap) d p) (hw : ∀ n ∈ d.weights Try.prog 40, n ≤ reachBytes) : la ≤ 17592186044416 := by
  obtain ⟨fuel, hf⟩ := h
  rcases open_slice u_u64s9 hf with ⟨hcs, hx⟩ | ⟨a, len', cap', m, n, D, Pl, hcs, _, hl, hm, hmm, hx, hel⟩
  · simp [Value.cells] at hcs
    obtain ⟨rfl, rfl, rfl⟩ := hcs
    exact Nat.zero_le _
  · simp [Value.cells] at hcs
    obtain ⟨rfl, rfl, rfl⟩ := hcs
    simp only [Prod.mk.injEq] at hx
    obtain ⟨rfl, rfl⟩ := hx
    have h2 := hw ((((List.range la).map D).length + ((List.range (m - la)).map fun j => D (la + j)).length) * Try.prog.bytesOf 29) (by simp [DataW.weights])
    rw [bytes_u64s9] at h2
    simp [reachBytes] at h2
    omega
theorem cells_byts' : Try.prog.cellsOf 5 = 1 := by kernel_rfl
set_option maxRecDepth 100000 in
theorem open_byts {H : Type} {enc : TypeId × Value → H} {W : World} {base : Nat} {r : Reach} {b : Nat} {v : Value} {d : DataW H} {p : List MemPlace}
    (hv : Value.okWide Try.prog W r b 26 v) (h : DataW.Trod enc Try.prog W base (fun _ => true) true 26 v d p) (hlt : ∀ x ∈ p, x.block < W.heap.size) :
    ∃ (ad : Option Addr) (la cap ab ao : Nat) (A : Nat → Int), v = .slice ad la cap ∧ Nu .u8 Bb W ad la cap ab ao A := by
  obtain ⟨ad, la, cap, ar, aa, rfl, hl, hm, hw, hc⟩ := C.open_nums Try.underlying26 Try.underlying5 cells_byts' hv h hlt
  obtain ⟨ab, ao, asp⟩ := aa
  have hsp : 0 < la → asp = none := fun q => by
    have := (hc q).2.2 0 q
    simpa [Addr.add] using World.cell?_spot this
  refine ⟨ad, la, cap, ab, ao, ar, rfl, ⟨hl, hm, fun q => ?_, fun i hi => ?_, fun i => ?_⟩⟩
  · obtain rfl := hsp q
    exact ⟨(hc q).1, (hc q).2.1⟩
  · obtain rfl := hsp (by omega)
    have := (hc (by omega)).2.2 i hi
    rwa [C.addr_add] at this
  · rcases hw i with q | q
    · rw [q]; exact ⟨by decide, by decide⟩
    · have := bounds_u8 q; exact ⟨this.1, by omega⟩
theorem u_byts9 : Try.prog.underlying 26 = some (.slice 5) := by kernel_rfl
theorem bytes_byts9 : Try.prog.bytesOf 5 = 1 := by kernel_rfl
set_option maxRecDepth 100000 in
theorem byts_len {H : Type} {enc : TypeId × Value → H} {W : World} {base : Nat} {ad : Option Addr} {la cap : Nat} {d : DataW H} {p : List MemPlace} (h : DataW.Trod enc Try.prog W base (fun _ => true) true 26 (.slice ad la cap) d p) (hw : ∀ n ∈ d.weights Try.prog 26, n ≤ reachBytes) : la ≤ 140737488351232 := by
  obtain ⟨fuel, hf⟩ := h
  rcases open_slice u_byts9 hf with ⟨hcs, hx⟩ | ⟨a, len', cap', m, n, D, Pl, hcs, _, hl, hm, hmm, hx, hel⟩
  · simp [Value.cells] at hcs
    obtain ⟨rfl, rfl, rfl⟩ := hcs
    exact Nat.zero_le _
  · simp [Value.cells] at hcs
    obtain ⟨rfl, rfl, rfl⟩ := hcs
    simp only [Prod.mk.injEq] at hx
    obtain ⟨rfl, rfl⟩ := hx
    have h2 := hw ((((List.range la).map D).length + ((List.range (m - la)).map fun j => D (la + j)).length) * Try.prog.bytesOf 5) (by simp [DataW.weights])
    rw [bytes_byts9] at h2
    simp [reachBytes] at h2
    omega
end Go.Proofs.Ytmpldaenakenlaa
namespace Go.Proofs.Ytmpldaenakenlaa
open Go.RowKit
open C (Only hid Still ret_bool ret_int)
set_option linter.unusedVariables false
set_option maxRecDepth 100000

def WA (W w : World) (p n s k : Nat) : Prop := ∃ c, LI W w p c ∧ Ca n s k c
def WC (W w : World) (p n s b : Nat) (lf pl : Bool) : Prop := ∃ c, LI W w p c ∧ Cb n s b lf pl c
section
variable {W w : World} {p n s k b : Nat} {lf pl : Bool}
theorem wa_pen (h : WA W w p n s k) (i : Nat) (hi : i < 64) : Calls Try.prog 38 #[.pointer (some ⟨p, 0, none⟩), .int .i64 i] w fun e w' => e = .returned (.bool false) ∧ WA W w' p n s k := by
  obtain ⟨c, h1, h2⟩ := h
  have e : c.pen i = false := by
    unfold IV.pen
    rw [Int.toNat_natCast, h2.opn i]
    simp
  have := l_Pending h1 i (by omega) (by omega)
  rw [e] at this
  exact this.mono fun e w' hh => ⟨hh.1, _, hh.2.1, h2⟩
theorem wa_let (h : WA W w p n s k) (hk : k < n) (hn : n ≤ 64) (h1 : 1 ≤ s) (h2 : s < 32) : Calls Try.prog 32 #[.pointer (some ⟨p, 0, none⟩), .int .u64 (4096 + 4 * (k : Int)), .int .i64 4, .int .u64 ((2 ^ s : Nat) : Int)] w fun e w' => e = .returned (.bool true) ∧ WA W w' p n s (k + 1) := by
  obtain ⟨c, g1, g2⟩ := h
  have hp : (2 : Nat) ^ s ≤ 2 ^ 31 := Nat.pow_le_pow_right (by decide) (by omega)
  have := l_WriteI g1 (4096 + 4 * (k : Int)) 4 ((2 ^ s : Nat) : Int) (by omega) (by omega) (by decide) (by decide) (by generalize 2 ^ s = y; omega) (by generalize 2 ^ s = y at *; omega)
  rw [wr_le (by rw [g2.nn]; exact hk) g2.ok] at this
  exact this.mono fun e w' hh => ⟨hh.1, _, hh.2, g2.next hk h1 h2⟩
theorem wa_pulse (h : WA W w p n s n) (h1 : 1 ≤ s) (h2 : s < 32) : Calls Try.prog 36 #[.pointer (some ⟨p, 0, none⟩), .int .i64 s] w fun e w' => e = .returned (.tuple #[]) ∧ WC W w' p n s n true true := by
  obtain ⟨c, g1, g2⟩ := h
  exact (l_Pulse g1 s (by omega) (by omega)).mono fun e w' hh => ⟨hh.1, _, hh.2, g2.pulse h1 h2⟩
theorem wa_level (h : WA W w p n s n) (h1 : 1 ≤ s) (h2 : s < 32) : Calls Try.prog 34 #[.pointer (some ⟨p, 0, none⟩), .int .i64 s, .bool true] w fun e w' => e = .returned (.tuple #[]) ∧ WC W w' p n s n true false := by
  obtain ⟨c, g1, g2⟩ := h
  exact (l_Level g1 s true (by omega) (by omega)).mono fun e w' hh => ⟨hh.1, _, hh.2, g2.level h1 h2⟩
theorem wc_pen (h : WC W w p n s b lf pl) (i : Nat) (hi : i < n) (hn : n ≤ 64) (h2 : s < 32) : Calls Try.prog 38 #[.pointer (some ⟨p, 0, none⟩), .int .i64 i] w fun e w' => e = .returned (.bool (decide (lf = true ∧ ¬ b < n))) ∧ WC W w' p n s b lf pl := by
  obtain ⟨c, g1, g2⟩ := h
  have := l_Pending g1 i (by omega) (by omega)
  rw [g2.pen i hi h2] at this
  exact this.mono fun e w' hh => ⟨hh.1, _, hh.2.1, g2⟩
theorem wc_hit (h : WC W w p n s b lf pl) (i : Nat) (hi : i < n) (hn : n ≤ 64) (h1 : 1 ≤ s) (h2 : s < 32) (q : lf = true ∧ ¬ b < n) : Calls Try.prog 30 #[.pointer (some ⟨p, 0, none⟩), .int .u64 (8192 + 4 * (i : Int)), .int .i64 4] w fun e w' => e = .returned (.tuple #[.int .u64 (s : Int), .bool true]) ∧ WC W w' p n s i (!pl) pl := by
  obtain ⟨c, g1, g2⟩ := h
  have := l_ReadI g1 (8192 + 4 * (i : Int)) 4 (by omega) (by omega) (by decide) (by decide)
  rw [rd_cl (by rw [g2.nn]; exact hi) g2.ok, g2.src i hi, if_pos q] at this
  exact this.mono fun e w' hh => ⟨hh.1, _, hh.2, g2.hit i hi h1 h2 q⟩
theorem wc_miss (h : WC W w p n s b lf pl) (i : Nat) (hi : i < n) (hn : n ≤ 64) (q : ¬ (lf = true ∧ ¬ b < n)) : Calls Try.prog 30 #[.pointer (some ⟨p, 0, none⟩), .int .u64 (8192 + 4 * (i : Int)), .int .i64 4] w fun e w' => e = .returned (.tuple #[.int .u64 0, .bool true]) ∧ WC W w' p n s b lf pl := by
  obtain ⟨c, g1, g2⟩ := h
  have := l_ReadI g1 (8192 + 4 * (i : Int)) 4 (by omega) (by omega) (by decide) (by decide)
  rw [rd_cl (by rw [g2.nn]; exact hi) g2.ok, g2.src i hi, if_neg q] at this
  exact this.mono fun e w' hh => ⟨hh.1, _, hh.2, g2.miss i hi q⟩
theorem wc_comp (h : WC W w p n s b lf pl) (i : Nat) (hi : i < n) (hn : n ≤ 64) (h1 : 1 ≤ s) (h2 : s < 32) : Calls Try.prog 32 #[.pointer (some ⟨p, 0, none⟩), .int .u64 (8192 + 4 * (i : Int)), .int .i64 4, .int .u64 (s : Int)] w fun e w' => e = .returned (.bool true) ∧ WC W w' p n s (if b = i then n else b) lf pl := by
  obtain ⟨c, g1, g2⟩ := h
  have := l_WriteI g1 (8192 + 4 * (i : Int)) 4 s (by omega) (by omega) (by decide) (by decide) (by omega) (by omega)
  rw [wr_cl (by rw [g2.nn]; exact hi) g2.ok] at this
  exact this.mono fun e w' hh => ⟨hh.1, _, hh.2, g2.comp i hi h1 h2⟩
end
/-- which hart has it, as the law says it -/
def byv (n b : Nat) : Int := if b < n then (b : Int) else -1
set_option maxHeartbeats 8000000 in
theorem w_PlatClaims (W : World) (x : Int) (x0 : -9223372036854775808 ≤ x) (x1 : x ≤ 9223372036854775807) (y : Int) (y0 : -9223372036854775808 ≤ y) (y1 : y ≤ 9223372036854775807) (ad : Option Addr) (la cap ab ao : Nat) (A : Nat → Int) (hA : Nu .i64 Bi W ad la cap ab ao A) (pl : Bool) : Calls Try.prog 7 #[.int .i64 x, .int .i64 y, .slice ad la cap, .bool pl] W fun e w' => e = .returned (.bool true) ∧ Below W.heap.size W w' := by
  have hPy := C.c_Place y 8 (by decide) (by decide) y0 y1
  have hPx := C.c_Place x 31 (by decide) (by decide) x0 x1
  obtain ⟨n, hn⟩ : ∃ n : Nat, (n : Int) = 1 + y % 8 := ⟨(1 + y % 8).toNat, by omega⟩
  obtain ⟨s, hs⟩ : ∃ s : Nat, (s : Int) = 1 + x % 31 := ⟨(1 + x % 31).toNat, by omega⟩
  have n1 : 1 ≤ n := by omega
  have n8 : n ≤ 8 := by omega
  have s1 : 1 ≤ s := by omega
  have s32 : s < 32 := by omega
  have hN := l_NewI W W (.refl _ _) n n1 (by omega)
  have HA := hid hA
  have hAw := l_awake
  have hlen := hA.len
  have hcap := hA.cap
  have HPl : Hid (∀ j w, j < la → Calls Try.prog 13 #[.int .i64 (A j), .int .i64 n] w fun e w' => e = .returned (.int .i64 (A j % n)) ∧ w' = w) := fun j w _ => C.c_Place (A j) n (by omega) (by omega) (hA.num j).1 (hA.num j).2 w
  obtain ⟨yy, hyy⟩ : ∃ yy, yy = y % 8 := ⟨_, rfl⟩
  obtain ⟨xx, hxx⟩ : ∃ xx, xx = x % 31 := ⟨_, rfl⟩
  have g1 : 1 + yy = (n : Int) := by omega
  have g2 : 1 + xx = (s : Int) := by omega
  rw [← hyy] at hPy
  rw [← hxx] at hPx
  have HW0 : Hid (∀ w p, LI W w p (iv0 n) → WA W w p n s 0) := fun w p h => ⟨_, h, iok0 n n1 (by omega), rfl, rfl, rfl, fun i => rfl, fun i hi => by omega⟩
  clear hA hyy hxx hn hs
  go_enter Try.func7, Try.ntmps7
  go_wp2_with (first
    | (go_at_call 13; (with_reducible refine (hPy _).mono ?_); rintro e w' ⟨rfl, hw⟩; obtain rfl := hw.symm; clear hPy)
    | (go_at_call 13; (with_reducible refine (hPx _).mono ?_); rintro e w' ⟨rfl, hw⟩; obtain rfl := hw.symm; clear hPx)
    | (go_at_call 28; refine hN.mono ?_; rintro e w1 ⟨rfl, hl, -⟩; have H1 := hid (HW0.out w1 _ hl); clear hl hN))
  generalize W.heap.size + 1 = p at *
  go_loopw [13] (fun i wr => ∃ k : Nat, k ≤ n ∧ i = .int .i64 k ∧ Hid (WA W wr p n s k)) (fun i _ => n - (intOf i).toNat)
  case atStart => exact ⟨0, by omega, rfl, H1⟩
  case round =>
    obtain ⟨k, hk, rfl, ht⟩ := hrel
    by_cases hlt : k < n
    · have hP := wa_pen ht.out k (by omega)
      have k8 : (k : Int) < 8 := by omega
      have ew : IntKind.u64.wrap (2 ^ s) = ((2 ^ s : Nat) : Int) := by
        have hp : (2 : Nat) ^ s ≤ 2 ^ 31 := Nat.pow_le_pow_right (by decide) (by omega)
        rw [IntKind.wrap_u64, show (2 : Int) ^ s = ((2 ^ s : Nat) : Int) by simp]
        generalize 2 ^ s = z at *
        omega
      have HL : Hid (∀ w2, WA W w2 p n s k → Calls Try.prog 32 #[.pointer (some ⟨p, 0, none⟩), .int .u64 (4096 + 4 * (k : Int)), .int .i64 4, .int .u64 (IntKind.u64.wrap (2 ^ s))] w2 fun e w' => e = .returned (.bool true) ∧ WA W w' p n s (k + 1)) := fun w2 h => by rw [ew]; exact wa_let h hlt (by omega) s1 s32
      clear ew
      go_wp2_with (first
        | (go_at_call 38; refine hP.mono ?_; rintro e w2 ⟨rfl, hl⟩; have hL := HL.out w2 hl; clear hl hP)
        | (go_at_call 32; refine hL.mono ?_; rintro e w3 ⟨rfl, hl⟩; have H3 := hid hl; clear hl hL))
      go_roundw
      case rel => exact ⟨k + 1, by omega, by go_num, H3⟩
      case measure => simp [intOf]; omega
    · obtain rfl : k = n := by omega
      clear hlt hk H1 HW0
      obtain ⟨PL, hPL⟩ : ∃ PL : Bool, PL = pl := ⟨_, rfl⟩
      have HPL : Hid (PL = pl) := hPL
      cases pl
      all_goals
        rw [hPL] at HPL
        clear HPL
        have hU := wa_pulse ht.out s1 s32
        have hV := wa_level ht.out s1 s32
        go_wp2_with (first
          | (go_at_call 36; refine hU.mono ?_; rintro e w2 ⟨rfl, hl⟩; have H2 := hid hl; clear hl hU hV)
          | (go_at_call 34; refine hV.mono ?_; rintro e w2 ⟨rfl, hl⟩; have H2 := hid hl; clear hl hU hV))
        clear ht
        have H2' : Hid (WC W w2 p k s k true PL) := by rw [hPL]; exact H2
        clear H2
        go_loopw [14, 15, 16] (fun y l i wr => ∃ (j b : Nat) (lf : Bool), j ≤ la ∧ b ≤ k ∧ i = .int .i64 j ∧ y = .int .i64 (byv k b) ∧ l = .bool lf ∧ Hid (WC W wr p k s b lf PL)) (fun y l i _ => la - (intOf i).toNat)
        case atStart => exact ⟨0, k, true, by omega, by omega, rfl, by unfold byv; rw [if_neg (by omega)], rfl, H2'⟩
        case round =>
          obtain ⟨j, b, lf, hj, hbk, rfl, rfl, rfl, ht⟩ := hrel
          by_cases hlt : j < la
          · obtain ⟨rfl, -⟩ := HA.out.at0 (by omega)
            have hbel : Below W.heap.size W wr := by obtain ⟨c, g1, g2⟩ := ht.out; exact g1.bel
            have cA := (HA.out.below hbel).cell j hlt
            have hPl := HPl.out j wr hlt
            obtain ⟨i, hi⟩ : ∃ i : Nat, (i : Int) = A j % k := ⟨(A j % k).toNat, by have := Int.emod_nonneg (A j) (by omega : (k : Int) ≠ 0); omega⟩
            have ik : i < k := by have := Int.emod_lt_of_pos (A j) (by omega : (0 : Int) < k); omega
            rw [← hi] at hPl
            have hjl : (j : Int) < la := by omega
            have i8 : (i : Int) < 8 := by omega
            have hpe := wc_pen ht.out i ik (by omega) s32
            have HE : Hid (∀ w, WC W w p k s b lf PL → ¬ (lf = true ∧ ¬ b < k) → Calls Try.prog 30 #[.pointer (some ⟨p, 0, none⟩), .int .u64 (8192 + 4 * (i : Int)), .int .i64 4] w fun e w' => e = .returned (.tuple #[.int .u64 0, .bool true]) ∧ WC W w' p k s b lf PL) := fun w h q => wc_miss h i ik (by omega) q
            have HH : Hid (∀ w, WC W w p k s b lf PL → (lf = true ∧ ¬ b < k) → Calls Try.prog 30 #[.pointer (some ⟨p, 0, none⟩), .int .u64 (8192 + 4 * (i : Int)), .int .i64 4] w fun e w' => e = .returned (.tuple #[.int .u64 (s : Int), .bool true]) ∧ WC W w' p k s i (!PL) PL) := fun w h q => wc_hit h i ik (by omega) s1 s32 q
            have HM : Hid (∀ w, WC W w p k s b lf PL → Calls Try.prog 32 #[.pointer (some ⟨p, 0, none⟩), .int .u64 (8192 + 4 * (i : Int)), .int .i64 4, .int .u64 (s : Int)] w fun e w' => e = .returned (.bool true) ∧ WC W w' p k s (if b = i then k else b) lf PL) := fun w h => wc_comp h i ik (by omega) s1 s32
            have bi : byv k i = i := by unfold byv; rw [if_pos ik]
            have bn : byv k k = -1 := by unfold byv; rw [if_neg (by omega)]
            clear hi hbel
            have hp1 : j % 2 = 0 ∨ j % 2 = 1 := by omega
            have sz : (0 == (s : Int)) = false := by simp; omega
            have rdE : Hid (∀ w, WC W w p k s b lf PL → ¬ (lf = true ∧ ¬ b < k) → Calls Try.prog 30 #[.pointer (some ⟨p, 0, none⟩), .int .u64 (8192 + 4 * (i : Int)), .int .i64 4] w fun e w' => e = .returned (.tuple #[.int .u64 0, .bool true]) ∧ WC W w' p k s b lf PL) := HE
            clear HE
            by_cases hbn : b < k
            · have eb : byv k b = b := by unfold byv; rw [if_pos hbn]
              rw [eb]
              rw [show decide (lf = true ∧ ¬ b < k) = false by simp [hbn]] at hpe
              have b8 : (b : Int) < 8 := by omega
              have b0 : ¬ (b : Int) < 0 := by omega
              rcases hp1 with q | q
              · have f1 : ((j : Int).tmod 2 == 0) = true := by rw [Int.tmod_eq_emod_of_nonneg (by omega)]; simp; omega
                have f2 : ((j : Int) % 2 == 0) = true := by simp; omega
                have HR : Hid (∀ w, WC W w p k s b lf PL → _) := fun w h => rdE.out w h (by simp [hbn])
                clear rdE HH HM
                go_wp2_with (first
                  | (go_at_call 13; refine hPl.mono ?_; rintro e w' ⟨rfl, hq⟩; obtain rfl := hq.symm; clear hPl)
                  | (go_at_call 38; refine hpe.mono ?_; rintro e w3 ⟨rfl, hl⟩; have hr := HR.out w3 hl; clear hl hpe)
                  | (go_at_call 30; refine hr.mono ?_; rintro e w4 ⟨rfl, hl⟩; have H4 := hid hl; clear hl hr)
                  | (go_at_call 32; refine hr.mono ?_; rintro e w4 ⟨rfl, hl⟩; have H4 := hid hl; clear hl hr))
                exact ⟨⟨j + 1, b, lf, by omega, hbk, by go_num, by rw [eb], rfl, H4⟩, by simp [intOf]; omega⟩
              · have f1 : ((j : Int).tmod 2 == 0) = false := by rw [Int.tmod_eq_emod_of_nonneg (by omega)]; simp; omega
                have f2 : ((j : Int) % 2 == 0) = false := by simp; omega
                have HR := HM
                clear rdE HH HM
                by_cases z : b = i
                · subst z
                  rw [if_pos rfl] at HR
                  go_wp2_with (first
                    | (go_at_call 13; refine hPl.mono ?_; rintro e w' ⟨rfl, hq⟩; obtain rfl := hq.symm; clear hPl)
                    | (go_at_call 38; refine hpe.mono ?_; rintro e w3 ⟨rfl, hl⟩; have hr := HR.out w3 hl; clear hl hpe)
                    | (go_at_call 30; refine hr.mono ?_; rintro e w4 ⟨rfl, hl⟩; have H4 := hid hl; clear hl hr)
                    | (go_at_call 32; refine hr.mono ?_; rintro e w4 ⟨rfl, hl⟩; have H4 := hid hl; clear hl hr))
                  go_roundw
                  case rel => exact ⟨j + 1, k, lf, by omega, Nat.le_refl _, by go_num, by rw [bn], rfl, H4⟩
                  case measure => simp [intOf]; omega
                · rw [if_neg z] at HR
                  have z1 : ((b : Int) == (i : Int)) = false := by simp; omega
                  go_wp2_with (first
                    | (go_at_call 13; refine hPl.mono ?_; rintro e w' ⟨rfl, hq⟩; obtain rfl := hq.symm; clear hPl)
                    | (go_at_call 38; refine hpe.mono ?_; rintro e w3 ⟨rfl, hl⟩; have hr := HR.out w3 hl; clear hl hpe)
                    | (go_at_call 30; refine hr.mono ?_; rintro e w4 ⟨rfl, hl⟩; have H4 := hid hl; clear hl hr)
                    | (go_at_call 32; refine hr.mono ?_; rintro e w4 ⟨rfl, hl⟩; have H4 := hid hl; clear hl hr))
                  go_roundw
                  case rel => exact ⟨j + 1, b, lf, by omega, hbk, by go_num, by rw [eb], rfl, H4⟩
                  case measure => simp [intOf]; omega
            · have eb : byv k b = -1 := by unfold byv; rw [if_neg hbn]
              rw [eb]
              have z : b ≠ i := by omega
              have z1 : ((-1 : Int) == (i : Int)) = false := by simp
              rw [if_neg z] at HM
              cases lf
              · rw [show decide (false = true ∧ ¬ b < k) = false by simp] at hpe
                rcases hp1 with q | q
                · have f1 : ((j : Int).tmod 2 == 0) = true := by rw [Int.tmod_eq_emod_of_nonneg (by omega)]; simp; omega
                  have f2 : ((j : Int) % 2 == 0) = true := by simp; omega
                  have HR : Hid (∀ w, WC W w p k s b false PL → _) := fun w h => rdE.out w h (by simp)
                  clear rdE HH HM
                  go_wp2_with (first
                    | (go_at_call 13; refine hPl.mono ?_; rintro e w' ⟨rfl, hq⟩; obtain rfl := hq.symm; clear hPl)
                    | (go_at_call 38; refine hpe.mono ?_; rintro e w3 ⟨rfl, hl⟩; have hr := HR.out w3 hl; clear hl hpe)
                    | (go_at_call 30; refine hr.mono ?_; rintro e w4 ⟨rfl, hl⟩; have H4 := hid hl; clear hl hr)
                    | (go_at_call 32; refine hr.mono ?_; rintro e w4 ⟨rfl, hl⟩; have H4 := hid hl; clear hl hr))
                  exact ⟨⟨j + 1, b, false, by omega, hbk, by go_num, by rw [eb], rfl, H4⟩, by simp [intOf]; omega⟩
                · have f1 : ((j : Int).tmod 2 == 0) = false := by rw [Int.tmod_eq_emod_of_nonneg (by omega)]; simp; omega
                  have f2 : ((j : Int) % 2 == 0) = false := by simp; omega
                  have HR := HM
                  clear rdE HH HM
                  go_wp2_with (first
                    | (go_at_call 13; refine hPl.mono ?_; rintro e w' ⟨rfl, hq⟩; obtain rfl := hq.symm; clear hPl)
                    | (go_at_call 38; refine hpe.mono ?_; rintro e w3 ⟨rfl, hl⟩; have hr := HR.out w3 hl; clear hl hpe)
                    | (go_at_call 30; refine hr.mono ?_; rintro e w4 ⟨rfl, hl⟩; have H4 := hid hl; clear hl hr)
                    | (go_at_call 32; refine hr.mono ?_; rintro e w4 ⟨rfl, hl⟩; have H4 := hid hl; clear hl hr))
                  go_roundw
                  case rel => exact ⟨j + 1, b, false, by omega, hbk, by go_num, by rw [eb], rfl, H4⟩
                  case measure => simp [intOf]; omega
              · rw [show decide (true = true ∧ ¬ b < k) = true by simp; omega] at hpe
                rcases hp1 with q | q
                · have f1 : ((j : Int).tmod 2 == 0) = true := by rw [Int.tmod_eq_emod_of_nonneg (by omega)]; simp; omega
                  have f2 : ((j : Int) % 2 == 0) = true := by simp; omega
                  have HR : Hid (∀ w, WC W w p k s b true PL → _) := fun w h => HH.out w h ⟨rfl, hbn⟩
                  clear rdE HH HM
                  go_wp2_with (first
                    | (go_at_call 13; refine hPl.mono ?_; rintro e w' ⟨rfl, hq⟩; obtain rfl := hq.symm; clear hPl)
                    | (go_at_call 38; refine hpe.mono ?_; rintro e w3 ⟨rfl, hl⟩; have hr := HR.out w3 hl; clear hl hpe)
                    | (go_at_call 30; refine hr.mono ?_; rintro e w4 ⟨rfl, hl⟩; have H4 := hid hl; clear hl hr)
                    | (go_at_call 32; refine hr.mono ?_; rintro e w4 ⟨rfl, hl⟩; have H4 := hid hl; clear hl hr))
                  exact ⟨⟨j + 1, i, !PL, by omega, by omega, by go_num, by rw [bi], by rw [hPL]; rfl, H4⟩, by simp [intOf]; omega⟩
                · have f1 : ((j : Int).tmod 2 == 0) = false := by rw [Int.tmod_eq_emod_of_nonneg (by omega)]; simp; omega
                  have f2 : ((j : Int) % 2 == 0) = false := by simp; omega
                  have HR := HM
                  clear rdE HH HM
                  go_wp2_with (first
                    | (go_at_call 13; refine hPl.mono ?_; rintro e w' ⟨rfl, hq⟩; obtain rfl := hq.symm; clear hPl)
                    | (go_at_call 38; refine hpe.mono ?_; rintro e w3 ⟨rfl, hl⟩; have hr := HR.out w3 hl; clear hl hpe)
                    | (go_at_call 30; refine hr.mono ?_; rintro e w4 ⟨rfl, hl⟩; have H4 := hid hl; clear hl hr)
                    | (go_at_call 32; refine hr.mono ?_; rintro e w4 ⟨rfl, hl⟩; have H4 := hid hl; clear hl hr))
                  go_roundw
                  case rel => exact ⟨j + 1, b, true, by omega, hbk, by go_num, by rw [eb], rfl, H4⟩
                  case measure => simp [intOf]; omega
          · obtain rfl : j = la := by omega
            go_wp2_with (go_at_call 24; refine (hAw _).mono ?_; rintro e w3 ⟨rfl, hb⟩; have HB := hid hb; clear hb)
            go_ret
            have hbel : Below W.heap.size W wr := by obtain ⟨c, g1, g2⟩ := ht.out; exact g1.bel
            exact ⟨rfl, hbel.trans (HB.out.mono hbel.size)⟩
end Go.Proofs.Ytmpldaenakenlaa
