/- What a controller could tell, source by source; PlatLets' words. -/
import Derived.Test.YtmpldaenakenlaaMH2
import Derived.Deep.RegionWith
import Derived.Test.YtmpldaenakenlaaMH1
namespace Go.Proofs.Ytmpldaenakenlaa
open Go.RowKit
open C (Only hid Still ret_bool ret_int)
set_option linter.unusedVariables false
set_option maxRecDepth 100000

theorem orN_at (c : Nat → Nat) (i : Nat) : ∀ n, (orN c n).testBit i = true ↔ ∃ k, k < n ∧ (c k).testBit i = true
  | 0 => by
    show (0 : Nat).testBit i = true ↔ _
    rw [Nat.zero_testBit]
    constructor
    · intro h; cases h
    · rintro ⟨k, h, _⟩; omega
  | n + 1 => by
    show (orN c n ||| c n).testBit i = true ↔ _
    rw [Nat.testBit_or, Bool.or_eq_true, orN_at c i n]
    constructor
    · rintro (⟨k, h1, h2⟩ | h)
      · exact ⟨k, by omega, h2⟩
      · exact ⟨n, by omega, h⟩
    · rintro ⟨k, h1, h2⟩
      rcases Nat.lt_or_ge k n with z | z
      · exact .inl ⟨k, z, h2⟩
      · obtain rfl : k = n := by omega
        exact .inr h2
def IV.isUp (v : IV) (i : Nat) : Prop := v.lv.testBit i = true ∨ v.pu.testBit i = true
def IV.isCl (v : IV) (i : Nat) : Prop := ∃ k, k < v.n ∧ (v.cl k).testBit i = true
theorem opn_at {v : IV} (ok : IOk v) (h i : Nat) : (v.opn h).testBit i = true ↔ v.isUp i ∧ ¬ v.isCl i ∧ (v.le h).testBit i = true := by
  unfold IV.opn IV.up IV.isUp IV.isCl
  rw [Nat.testBit_and, anN_at _ _ _ (orN_lt ok.cl _), Nat.testBit_or]
  simp only [Bool.and_eq_true, Bool.or_eq_true, decide_eq_true_eq, Bool.not_eq_true', ← Bool.not_eq_true, orN_at]
  constructor
  · rintro ⟨⟨h1, h2, h3⟩, h4⟩; exact ⟨h1, h3, h4⟩
  · rintro ⟨h1, h3, h4⟩
    refine ⟨⟨h1, ?_, h3⟩, h4⟩
    rcases Nat.lt_or_ge i 32 with z | z
    · exact z
    · rw [high (ok.le h) z] at h4; cases h4
theorem opn_0 {v : IV} (ok : IOk v) (h : Nat) : (v.opn h).testBit 0 = false := by
  cases e : (v.opn h).testBit 0
  · rfl
  · rcases ((opn_at ok h 0).1 e).1 with z | z
    · rw [ok.l0] at z; cases z
    · rw [ok.p0] at z; cases z
/-- the source that is claimed, told by what it is -/
theorem src_spec {v : IV} (ok : IOk v) (h : Nat) : (v.src h = 0 ∧ v.opn h = 0) ∨ (1 ≤ v.src h ∧ v.src h < 32 ∧ (v.opn h).testBit (v.src h) = true ∧ ∀ i, i < v.src h → (v.opn h).testBit i = false) := by
  have isI : ∀ i, isIn (v.opn h) i = (v.opn h).testBit i := fun i => by
    unfold isIn
    rcases Nat.eq_zero_or_pos i with z | z
    · subst z; rw [opn_0 ok]; rfl
    · rw [show decide (1 ≤ i) = true by simp; omega, Bool.true_and]
  rcases lowest_spec (v.opn h) with ⟨h1, h2⟩ | ⟨h1, h2, h3, h4⟩
  · left
    refine ⟨h1, ?_⟩
    apply set_ext (IV.opn_lt ok h) (by decide)
    intro i hi
    rw [← isI, h2 i hi, Nat.zero_testBit]
  · right
    exact ⟨h1, h2, by rw [← isI]; exact h3, fun i hi => by rw [← isI]; exact h4 i hi⟩
theorem src_is {v : IV} (ok : IOk v) (h s : Nat) (h1 : (v.opn h).testBit s = true) (h2 : ∀ i, i < s → (v.opn h).testBit i = false) : v.src h = s := by
  rcases src_spec ok h with ⟨_, z⟩ | ⟨z1, z2, z3, z4⟩
  · rw [z, Nat.zero_testBit] at h1; cases h1
  · rcases Nat.lt_trichotomy (v.src h) s with y | y | y
    · rw [h2 _ y] at z3; cases z3
    · exact y
    · rw [z4 _ y] at h1; cases h1
theorem src_none {v : IV} (ok : IOk v) (h : Nat) (h1 : v.opn h = 0) : v.src h = 0 := by
  rcases src_spec ok h with ⟨z, _⟩ | ⟨z1, z2, z3, z4⟩
  · exact z
  · rw [h1, Nat.zero_testBit] at z3; cases z3
theorem bitN_nat (s i : Nat) : (bitN (s : Int)).testBit i = true ↔ 1 ≤ s ∧ s < 32 ∧ s = i := by
  rw [bitN_at]
  simp only [decide_eq_true_eq]
  omega
theorem clm_cl {v : IV} (k i : Nat) (hk : k < v.n) : (v.clm k).isCl i ↔ v.isCl i ∨ (bitN (v.src k : Int)).testBit i = true := by
  unfold IV.isCl
  show (∃ j, j < v.n ∧ (upN v.cl k (v.cl k ||| bitN (v.src k)) j).testBit i = true) ↔ _
  constructor
  · rintro ⟨j, h1, h2⟩
    by_cases e : j = k
    · subst e
      rw [upN_same, Nat.testBit_or, Bool.or_eq_true] at h2
      exact h2.imp (fun z => ⟨j, h1, z⟩) id
    · rw [upN_other _ _ _ _ e] at h2
      exact .inl ⟨j, h1, h2⟩
  · rintro (⟨j, h1, h2⟩ | h)
    · by_cases e : j = k
      · subst e
        exact ⟨j, h1, by rw [upN_same, Nat.testBit_or, h2]; rfl⟩
      · exact ⟨j, h1, by rw [upN_other _ _ _ _ e]; exact h2⟩
    · exact ⟨k, hk, by rw [upN_same, Nat.testBit_or, h, Bool.or_true]⟩
theorem clm_up {v : IV} (ok : IOk v) (k i : Nat) : (v.clm k).isUp i ↔ v.lv.testBit i = true ∨ (v.pu.testBit i = true ∧ ¬ (bitN (v.src k : Int)).testBit i = true) := by
  unfold IV.isUp
  show v.lv.testBit i = true ∨ (anN v.pu (bitN (v.src k))).testBit i = true ↔ _
  rw [anN_at _ _ _ (bitN_lt _)]
  simp only [Bool.and_eq_true, decide_eq_true_eq, Bool.not_eq_true', ← Bool.not_eq_true]
  constructor
  · rintro (z | ⟨z1, z2, z3⟩)
    · exact .inl z
    · exact .inr ⟨z1, z3⟩
  · rintro (z | ⟨z1, z3⟩)
    · exact .inl z
    · refine .inr ⟨z1, ?_, z3⟩
      rcases Nat.lt_or_ge i 32 with z | z
      · exact z
      · rw [high ok.pu z] at z1; cases z1
theorem clm_opn {v : IV} (ok : IOk v) (k h i : Nat) (hk : k < v.n) : ((v.clm k).opn h).testBit i = true ↔ (v.opn h).testBit i = true ∧ i ≠ v.src k := by
  rw [opn_at (ok.clm k), opn_at ok, clm_cl k i hk, clm_up ok]
  show _ ∧ _ ∧ (v.le h).testBit i = true ↔ _
  unfold IV.isUp
  have e0 : ∀ i, v.src k = i → (v.lv.testBit i = true ∨ v.pu.testBit i = true) → (bitN (v.src k : Int)).testBit i = true := fun i hi hu => by
    rw [bitN_nat]
    rcases src_spec ok k with ⟨z, _⟩ | ⟨z1, z2, _⟩
    · rw [z] at hi
      subst hi
      rw [ok.l0, ok.p0] at hu
      rcases hu with y | y <;> cases y
    · omega
  constructor
  · rintro ⟨h1, h2, h3⟩
    have hb : ¬ (bitN (v.src k : Int)).testBit i = true := fun z => h2 (.inr z)
    have hu : v.lv.testBit i = true ∨ v.pu.testBit i = true := h1.imp id fun z => z.1
    exact ⟨⟨hu, fun z => h2 (.inl z), h3⟩, fun z => hb (e0 i z.symm hu)⟩
  · rintro ⟨⟨h1, h2, h3⟩, h4⟩
    have hb : ¬ (bitN (v.src k : Int)).testBit i = true := fun z => by rw [bitN_nat] at z; omega
    exact ⟨h1.imp id fun z => ⟨z, hb⟩, fun z => z.elim h2 hb, h3⟩
theorem opn_ne (v : IV) (h : Nat) : (v.opn h != 0) = decide (v.opn h ≠ 0) := by rw [Bool.eq_iff_iff]; simp
end Go.Proofs.Ytmpldaenakenlaa
namespace Go.Proofs.Ytmpldaenakenlaa
open Go.RowKit
open C (Only hid Still ret_bool ret_int)
set_option linter.unusedVariables false
set_option maxRecDepth 100000

theorem ev_at (i : Nat) : (4294967294 : Nat).testBit i = true ↔ 1 ≤ i ∧ i < 32 := by
  rcases Nat.lt_or_ge i 32 with z | z
  · have : ∀ k : Fin 32, (4294967294 : Nat).testBit k.val = decide (1 ≤ k.val) := by decide +kernel
    have h := this ⟨i, z⟩
    simp only at h
    rw [h]
    simp
    omega
  · rw [high (by decide) z]
    constructor
    · intro h; cases h
    · omega
theorem ev_lt (x : Nat) : x &&& 4294967294 < 4294967296 := by
  have : x &&& 4294967294 ≤ 4294967294 := Nat.and_le_right
  omega
theorem mod_at (x i : Nat) (hi : i < 32) : (x % 4294967296).testBit i = x.testBit i := by
  have := Nat.testBit_mod_two_pow x 32 i
  rw [show (2 : Nat) ^ 32 = 4294967296 by decide] at this
  rw [this]
  simp [hi]
/-- levels as far as source s -/
structure LV (u m o s : Nat) (c : IV) : Prop where
  ok : IOk c
  n : c.n = 2
  pu : c.pu = 0
  cl : ∀ i, c.cl i = 0
  e0 : c.le 0 = m % 4294967296 &&& 4294967294
  e1 : c.le 1 = o % 4294967296 &&& 4294967294
  lv : ∀ i, c.lv.testBit i = true ↔ u.testBit i = true ∧ 1 ≤ i ∧ i < 32 ∧ i < s
theorem LV.next {u m o s : Nat} {c : IV} (h : LV u m o s c) (hs : s < 32) : LV u m o (s + 1) (c.lev s (u.testBit s)) := by
  refine ⟨h.ok.lev _ _, h.n, h.pu, h.cl, h.e0, h.e1, fun i => ?_⟩
  show (if u.testBit s then anN c.lv (bitN s) ||| bitN s else anN c.lv (bitN s)).testBit i = true ↔ _
  have ha : (anN c.lv (bitN (s : Int))).testBit i = true ↔ u.testBit i = true ∧ 1 ≤ i ∧ i < 32 ∧ i < s := by
    rw [anN_at _ _ _ (bitN_lt _)]
    simp only [Bool.and_eq_true, decide_eq_true_eq, Bool.not_eq_true', ← Bool.not_eq_true, h.lv, bitN_nat]
    generalize u.testBit i = b
    cases b
    · simp
    · simp; omega
  cases e : u.testBit s
  · rw [if_neg (by decide), ha]
    constructor
    · rintro ⟨z1, z2, z3, z4⟩; exact ⟨z1, z2, z3, by omega⟩
    · rintro ⟨z1, z2, z3, z4⟩
      refine ⟨z1, z2, z3, ?_⟩
      rcases Nat.lt_or_ge i s with y | y
      · exact y
      · obtain rfl : i = s := by omega
        rw [e] at z1; cases z1
  · rw [if_pos rfl, Nat.testBit_or, Bool.or_eq_true, ha, bitN_nat]
    constructor
    · rintro (z | z)
      · exact ⟨z.1, z.2.1, z.2.2.1, by omega⟩
      · obtain ⟨z1, z2, rfl⟩ := z
        exact ⟨e, by omega, z2, by omega⟩
    · rintro ⟨z1, z2, z3, z4⟩
      rcases Nat.lt_or_ge i s with y | y
      · exact .inl ⟨z1, z2, z3, y⟩
      · obtain rfl : i = s := by omega
        exact .inr ⟨z2, z3, rfl⟩
theorem LV.up {u m o : Nat} {c : IV} (h : LV u m o 32 c) : c.up = u &&& 4294967294 := by
  unfold IV.up
  rw [h.pu, Nat.or_zero]
  apply set_ext h.ok.lv (ev_lt u)
  intro i hi
  rw [Bool.eq_iff_iff, h.lv, Nat.testBit_and, Bool.and_eq_true, ev_at]
  exact ⟨fun z => ⟨z.1, z.2.1, z.2.2.1⟩, fun z => ⟨z.1, z.2.1, z.2.2, z.2.2⟩⟩
theorem LV.opn {u m o : Nat} {c : IV} (h : LV u m o 32 c) (k x : Nat) (hk : c.le k = x % 4294967296 &&& 4294967294) : c.opn k = u &&& x &&& 4294967294 := by
  apply set_ext (IV.opn_lt h.ok k) (ev_lt _)
  intro i hi
  rw [Bool.eq_iff_iff, opn_at h.ok, hk, Nat.testBit_and, Nat.testBit_and, Nat.testBit_and, Bool.and_eq_true, Bool.and_eq_true, Bool.and_eq_true, ev_at, mod_at _ _ hi]
  unfold IV.isUp IV.isCl
  rw [h.lv, h.pu, Nat.zero_testBit]
  constructor
  · rintro ⟨z1, z2, z3, z4⟩
    rcases z1 with z1 | z1
    · exact ⟨⟨z1.1, z3⟩, z4⟩
    · cases z1
  · rintro ⟨⟨z1, z2⟩, z3⟩
    refine ⟨.inl ⟨z1, z3.1, z3.2, z3.2⟩, ?_, z2, z3⟩
    rintro ⟨j, _, y⟩
    rw [h.cl, Nat.zero_testBit] at y
    cases y
/-- what hart 0 has claimed as far as source s -/
structure LC (V s : Nat) (c : IV) : Prop where
  ok : IOk c
  n : c.n = 2
  op : ∀ i, (c.opn 0).testBit i = true ↔ V.testBit i = true ∧ s ≤ i
theorem LC.src {V s : Nat} {c : IV} (h : LC V s c) (hv : V.testBit s = true) : c.src 0 = s := by
  refine src_is h.ok 0 s ((h.op s).2 ⟨hv, Nat.le_refl _⟩) fun i hi => ?_
  cases e : (c.opn 0).testBit i
  · rfl
  · have := ((h.op i).1 e).2; omega
theorem LC.hit {V s : Nat} {c : IV} (h : LC V s c) (hv : V.testBit s = true) : LC V (s + 1) (c.clm 0) := by
  refine ⟨h.ok.clm 0, h.n, fun i => ?_⟩
  rw [clm_opn h.ok 0 0 i (by rw [h.n]; decide), h.op, h.src hv]
  exact ⟨fun z => ⟨z.1.1, by omega⟩, fun z => ⟨⟨z.1, by omega⟩, by omega⟩⟩
theorem LC.miss {V s : Nat} {c : IV} (h : LC V s c) (hv : V.testBit s = false) : LC V (s + 1) c := by
  refine ⟨h.ok, h.n, fun i => ?_⟩
  rw [h.op]
  constructor
  · rintro ⟨z1, z2⟩
    refine ⟨z1, ?_⟩
    rcases Nat.lt_or_ge s i with y | y
    · exact y
    · obtain rfl : i = s := by omega
      rw [hv] at z1; cases z1
  · rintro ⟨z1, z2⟩; exact ⟨z1, by omega⟩
theorem LC.done {V : Nat} {c : IV} (h : LC V 32 c) (hV : V < 4294967296) : c.opn 0 = 0 := by
  apply set_ext (IV.opn_lt h.ok 0) (by decide)
  intro i hi
  rw [Nat.zero_testBit]
  cases e : (c.opn 0).testBit i
  · rfl
  · have := ((h.op i).1 e).2; omega
theorem LC.end {V : Nat} {c : IV} (h : LC V 32 c) (hV : V < 4294967296) : c.src 0 = 0 ∧ (c.clm 0).opn 0 = 0 := by
  refine ⟨src_none h.ok 0 (h.done hV), ?_⟩
  apply set_ext (IV.opn_lt (h.ok.clm 0) 0) (by decide)
  intro i hi
  rw [Nat.zero_testBit]
  cases e : ((c.clm 0).opn 0).testBit i
  · rfl
  · have := ((clm_opn h.ok 0 0 i (by rw [h.n]; decide)).1 e).1
    rw [h.done hV, Nat.zero_testBit] at this
    cases this
theorem LV.lc {u m o : Nat} {c : IV} (h : LV u m o 32 c) : LC (u &&& m &&& 4294967294) 1 c := by
  refine ⟨h.ok, h.n, fun i => ?_⟩
  rw [h.opn 0 m h.e0]
  constructor
  · intro z
    refine ⟨z, ?_⟩
    rw [Nat.testBit_and, Bool.and_eq_true, ev_at] at z
    exact z.2.1
  · intro z; exact z.1
theorem lv_first (m o : Nat) (hm : m < 18446744073709551616) (ho : o < 18446744073709551616) (u : Nat) : ((iv0 2).wr 4096 4 m).1 = true ∧ (((iv0 2).wr 4096 4 m).2.wr 4100 4 o).1 = true ∧ LV u m o 0 (((iv0 2).wr 4096 4 m).2.wr 4100 4 o).2 := by
  have f0 : fdN 2 4096 4 = (4096, 0, true) := by decide +kernel
  have f1 : fdN 2 4100 4 = (4096, 1, true) := by decide +kernel
  have e0 : (iv0 2).wr 4096 4 m = (true, (iv0 2).let 0 m) := by
    unfold IV.wr
    rw [show (iv0 2).n = 2 from rfl, f0]
    rfl
  have e1 : ((iv0 2).let 0 m).wr 4100 4 o = (true, ((iv0 2).let 0 m).let 1 o) := by
    unfold IV.wr
    rw [show ((iv0 2).let 0 m).n = 2 from rfl, f1]
    rfl
  rw [e0]
  show true = true ∧ (((iv0 2).let 0 m).wr 4100 4 o).1 = true ∧ LV u m o 0 (((iv0 2).let 0 m).wr 4100 4 o).2
  rw [e1]
  refine ⟨rfl, rfl, ((iok0 2 (by decide) (by decide)).let 0 m).let 1 o, rfl, rfl, fun i => rfl, ?_, ?_, fun i => ?_⟩
  · show ((m : Int) % 4294967296).toNat &&& 4294967294 = _
    rw [show ((m : Int) % 4294967296).toNat = m % 4294967296 by omega]
  · show ((o : Int) % 4294967296).toNat &&& 4294967294 = _
    rw [show ((o : Int) % 4294967296).toNat = o % 4294967296 by omega]
  · show (0 : Nat).testBit i = true ↔ _
    rw [Nat.zero_testBit]
    constructor
    · intro z; cases z
    · omega
end Go.Proofs.Ytmpldaenakenlaa
namespace Go.Proofs.Ytmpldaenakenlaa
open Go.RowKit
open C (Only hid Still ret_bool ret_int)
set_option linter.unusedVariables false
set_option maxRecDepth 100000

theorem tb1 (u s : Nat) : ((((u : Int) / 2 ^ s).tmod 2) == 1) = u.testBit s := by
  have e : ((u : Int) / 2 ^ s) = ((u / 2 ^ s : Nat) : Int) := by simp
  rw [e, Nat.testBit_eq_decide_div_mod_eq]
  generalize u / 2 ^ s = n
  rw [Int.tmod_eq_emod_of_nonneg (by omega), Bool.eq_iff_iff]
  simp
  omega
theorem tb0 (u s : Nat) : ((((u : Int) / 2 ^ s).tmod 2) == 0) = !u.testBit s := by
  have e : ((u : Int) / 2 ^ s) = ((u / 2 ^ s : Nat) : Int) := by simp
  rw [e, Nat.testBit_eq_decide_div_mod_eq]
  generalize u / 2 ^ s = n
  rw [Int.tmod_eq_emod_of_nonneg (by omega), Bool.eq_iff_iff]
  simp
  omega
/-- the law's controller in PlatLets: levels as far as s -/
def LW (W w : World) (p u m o s : Nat) : Prop := ∃ c, LI W w p c ∧ LV u m o s c
/-- claims as far as s -/
def LX (W w : World) (p V s : Nat) : Prop := ∃ c, LI W w p c ∧ LC V s c
section
variable {W w : World} {p u m o s V : Nat}
theorem lw_level (h : LW W w p u m o s) (hs : s < 32) : Calls Try.prog 34 #[.pointer (some ⟨p, 0, none⟩), .int .i64 s, .bool (u.testBit s)] w fun e w' => e = .returned (.tuple #[]) ∧ LW W w' p u m o (s + 1) := by
  obtain ⟨c, h1, h2⟩ := h
  exact (l_Level h1 s (u.testBit s) (by omega) (by omega)).mono fun e w' hh => ⟨hh.1, _, hh.2, h2.next hs⟩
theorem lw_all (h : LW W w p u m o 32) : Calls Try.prog 30 #[.pointer (some ⟨p, 0, none⟩), .int .u64 0, .int .i64 4] w fun e w' => e = .returned (.tuple #[.int .u64 ((u &&& 4294967294 : Nat) : Int), .bool true]) ∧ LW W w' p u m o 32 := by
  obtain ⟨c, h1, h2⟩ := h
  have f : fdN c.n 0 4 = (0, 0, true) := by rw [h2.n]; decide +kernel
  have e : c.rd 0 4 = ((c.up : Int), true, c) := by unfold IV.rd; rw [f]; rfl
  have := l_ReadI h1 0 4 (by decide) (by decide) (by decide) (by decide)
  rw [e, h2.up] at this
  exact this.mono fun e w' hh => ⟨hh.1, _, hh.2, h2⟩
theorem lw_pen (h : LW W w p u m o 32) (k x : Nat) (hk : k < 2) (hx : (k = 0 ∧ x = m) ∨ (k = 1 ∧ x = o)) : Calls Try.prog 38 #[.pointer (some ⟨p, 0, none⟩), .int .i64 k] w fun e w' => e = .returned (.bool (((u &&& x &&& 4294967294 : Nat) : Int) != 0)) ∧ LW W w' p u m o 32 := by
  obtain ⟨c, h1, h2⟩ := h
  have e : c.pen k = (((u &&& x &&& 4294967294 : Nat) : Int) != 0) := by
    unfold IV.pen
    rw [h2.n, show decide (0 ≤ (k : Int)) = true by simp, show decide ((k : Int) < (2 : Nat)) = true by simp; omega, Int.toNat_natCast, h2.opn k x (hx.elim (fun z => by rw [z.1, z.2]; exact h2.e0) (fun z => by rw [z.1, z.2]; exact h2.e1))]
    generalize u &&& x &&& 4294967294 = n
    rw [Bool.true_and, Bool.true_and, Bool.eq_iff_iff]
    simp
  have := l_Pending h1 k (by omega) (by omega)
  rw [e] at this
  exact this.mono fun e w' hh => ⟨hh.1, _, hh.2.1, h2⟩
theorem lx_claim (h : LX W w p V s) (hv : V.testBit s = true) : Calls Try.prog 30 #[.pointer (some ⟨p, 0, none⟩), .int .u64 8192, .int .i64 4] w fun e w' => e = .returned (.tuple #[.int .u64 (s : Int), .bool true]) ∧ LX W w' p V (s + 1) := by
  obtain ⟨c, h1, h2⟩ := h
  have f : fdN c.n 8192 4 = (8192, 0, true) := by rw [h2.n]; decide +kernel
  have e : c.rd 8192 4 = ((c.src 0 : Int), true, c.clm 0) := by unfold IV.rd; rw [f]; rfl
  have := l_ReadI h1 8192 4 (by decide) (by decide) (by decide) (by decide)
  rw [e, h2.src hv] at this
  exact this.mono fun e w' hh => ⟨hh.1, _, hh.2, h2.hit hv⟩
theorem lx_end (h : LX W w p V 32) (hV : V < 4294967296) : Calls Try.prog 30 #[.pointer (some ⟨p, 0, none⟩), .int .u64 8192, .int .i64 4] w fun e w' => e = .returned (.tuple #[.int .u64 0, .bool true]) ∧ Calls Try.prog 38 #[.pointer (some ⟨p, 0, none⟩), .int .i64 0] w' fun e w2 => e = .returned (.bool false) ∧ Below W.heap.size W w2 := by
  obtain ⟨c, h1, h2⟩ := h
  have f : fdN c.n 8192 4 = (8192, 0, true) := by rw [h2.n]; decide +kernel
  have e : c.rd 8192 4 = ((c.src 0 : Int), true, c.clm 0) := by unfold IV.rd; rw [f]; rfl
  have := l_ReadI h1 8192 4 (by decide) (by decide) (by decide) (by decide)
  rw [e, (h2.end hV).1] at this
  refine this.mono fun e w' hh => ⟨hh.1, ?_⟩
  have hp := l_Pending hh.2 0 (by decide) (by decide)
  have e2 : (c.clm 0).pen 0 = false := by
    unfold IV.pen
    rw [show ((0 : Int)).toNat = 0 from rfl, (h2.end hV).2]
    simp
  rw [e2] at hp
  exact hp.mono fun e w2 hk => ⟨hk.1, hk.2.1.bel⟩
end
set_option maxHeartbeats 8000000 in
theorem w_PlatLets (W : World) (u0 : Int) (u1 : 0 ≤ u0) (u2 : u0 < 18446744073709551616) (m0 : Int) (m1 : 0 ≤ m0) (m2 : m0 < 18446744073709551616) (o0 : Int) (o1 : 0 ≤ o0) (o2 : o0 < 18446744073709551616) : Calls Try.prog 11 #[.int .u64 u0, .int .u64 m0, .int .u64 o0] W fun e w' => e = .returned (.bool true) ∧ Below W.heap.size W w' := by
  obtain ⟨u, rfl⟩ : ∃ u : Nat, u0 = u := ⟨u0.toNat, by omega⟩
  obtain ⟨m, rfl⟩ : ∃ m : Nat, m0 = m := ⟨m0.toNat, by omega⟩
  obtain ⟨o, rfl⟩ : ∃ o : Nat, o0 = o := ⟨o0.toNat, by omega⟩
  have hu : u < 18446744073709551616 := by omega
  have hm : m < 18446744073709551616 := by omega
  have ho : o < 18446744073709551616 := by omega
  have hN := l_NewI W W (.refl _ _) 2 (by decide) (by decide)
  obtain ⟨g1, g2, g3⟩ := lv_first m o hm ho u
  have HW1 : Hid (∀ w p, LI W w p (iv0 2) → Calls Try.prog 32 #[.pointer (some ⟨p, 0, none⟩), .int .u64 4096, .int .i64 4, .int .u64 m] w fun e w' => e = .returned (.bool true) ∧ LI W w' p ((iv0 2).wr 4096 4 m).2) := fun w p h => by
    have := l_WriteI h 4096 4 m (by decide) (by decide) (by decide) (by decide) m1 m2
    rw [g1] at this
    exact this
  have HW2 : Hid (∀ w p, LI W w p ((iv0 2).wr 4096 4 m).2 → Calls Try.prog 32 #[.pointer (some ⟨p, 0, none⟩), .int .u64 4100, .int .i64 4, .int .u64 o] w fun e w' => e = .returned (.bool true) ∧ LW W w' p u m o 0) := fun w p h => by
    have := l_WriteI h 4100 4 o (by decide) (by decide) (by decide) (by decide) o1 o2
    rw [g2] at this
    exact this.mono fun e w' hh => ⟨hh.1, _, hh.2, g3⟩
  have hA := l_awake
  have HLv : Hid (∀ w p (s : Nat), s < 32 → LW W w p u m o s → Calls Try.prog 34 #[.pointer (some ⟨p, 0, none⟩), .int .i64 s, .bool (u.testBit s)] w fun e w' => e = .returned (.tuple #[]) ∧ LW W w' p u m o (s + 1)) := fun w p s hs h => lw_level h hs
  clear g1 g2 g3
  generalize ((iv0 2).wr 4096 4 m).2 = c1 at *
  have HT1 : Hid (∀ s : Nat, (((u : Int) / 2 ^ s).tmod 2 == 1) = u.testBit s) := tb1 u
  have HT0 : Hid (∀ s : Nat, ((((u &&& m &&& 4294967294 : Nat) : Int) / 2 ^ s).tmod 2 == 0) = !(u &&& m &&& 4294967294).testBit s) := tb0 _
  have hum : u &&& m < 18446744073709551616 := Nat.lt_of_le_of_lt Nat.and_le_left hu
  have huo : u &&& o < 18446744073709551616 := Nat.lt_of_le_of_lt Nat.and_le_left hu
  have e1 : bits BinOp.and IntKind.u64 (u : Int) (m : Int) = ((u &&& m : Nat) : Int) := u64_and_nat _ _ hu hm
  have e2 : bits BinOp.and IntKind.u64 ((u &&& m : Nat) : Int) 4294967294 = ((u &&& m &&& 4294967294 : Nat) : Int) := u64_and_nat _ 4294967294 hum (by decide)
  have e3 : bits BinOp.and IntKind.u64 (u : Int) 4294967294 = ((u &&& 4294967294 : Nat) : Int) := u64_and_nat _ 4294967294 hu (by decide)
  have e4 : bits BinOp.and IntKind.u64 (u : Int) (o : Int) = ((u &&& o : Nat) : Int) := u64_and_nat _ _ hu ho
  have e5 : bits BinOp.and IntKind.u64 ((u &&& o : Nat) : Int) 4294967294 = ((u &&& o &&& 4294967294 : Nat) : Int) := u64_and_nat _ 4294967294 huo (by decide)
  have HR : Hid (∀ w p, LW W w p u m o 32 → Calls Try.prog 30 #[.pointer (some ⟨p, 0, none⟩), .int .u64 0, .int .i64 4] w fun e w' => e = .returned (.tuple #[.int .u64 ((u &&& 4294967294 : Nat) : Int), .bool true]) ∧ LW W w' p u m o 32) := fun w p h => lw_all h
  have HP0 : Hid (∀ w p, LW W w p u m o 32 → Calls Try.prog 38 #[.pointer (some ⟨p, 0, none⟩), .int .i64 0] w fun e w' => e = .returned (.bool (((u &&& m &&& 4294967294 : Nat) : Int) != 0)) ∧ LW W w' p u m o 32) := fun w p h => lw_pen h 0 m (by decide) (.inl ⟨rfl, rfl⟩)
  have HP1 : Hid (∀ w p, LW W w p u m o 32 → Calls Try.prog 38 #[.pointer (some ⟨p, 0, none⟩), .int .i64 1] w fun e w' => e = .returned (.bool (((u &&& o &&& 4294967294 : Nat) : Int) != 0)) ∧ LX W w' p (u &&& m &&& 4294967294) 1) := fun w p h => (lw_pen h 1 o (by decide) (.inr ⟨rfl, rfl⟩)).mono fun e w' hh => ⟨hh.1, by obtain ⟨c, k1, k2⟩ := hh.2; exact ⟨c, k1, k2.lc⟩⟩
  have hV : u &&& m &&& 4294967294 < 4294967296 := ev_lt _
  have HV := hid hV
  clear hV hum huo hu hm ho
  have a1 : (0 : Int) ≤ ((u &&& m : Nat) : Int) := by omega
  have a2 : (0 : Int) ≤ ((u &&& m &&& 4294967294 : Nat) : Int) := by omega
  generalize ((u &&& m &&& 4294967294 : Nat) : Int) = V at *
  generalize (u &&& m &&& 4294967294) = VN at *
  generalize ((u &&& o &&& 4294967294 : Nat) : Int) = C at *
  generalize ((u &&& 4294967294 : Nat) : Int) = L at *
  generalize ((u &&& m : Nat) : Int) = A at *
  generalize ((u &&& o : Nat) : Int) = B at *
  generalize (u : Int) = U at *
  generalize (m : Int) = M at *
  generalize (o : Int) = O at *
  go_enter Try.func11, Try.ntmps11
  go_wp2_with (first
    | (go_at_call 28; refine hN.mono ?_; rintro e w1 ⟨rfl, hl, -⟩; have h1 := HW1.out w1 _ hl; clear hl hN)
    | (go_at_call 32; (with_reducible refine h1.mono ?_); rintro e w2 ⟨rfl, hl⟩; have h2 := HW2.out w2 _ hl; clear hl h1)
    | (go_at_call 32; (with_reducible refine h2.mono ?_); rintro e w3 ⟨rfl, hl⟩; have H3 := hid hl; clear hl h2))
  generalize W.heap.size + 1 = p at *
  go_loopw [9] (fun i wr => ∃ s : Nat, s ≤ 32 ∧ i = .int .i64 s ∧ Hid (LW W wr p u m o s)) (fun i _ => 32 - (intOf i).toNat)
  case atStart => exact ⟨0, by omega, rfl, H3⟩
  case round =>
    obtain ⟨s, hs, rfl, ht⟩ := hrel
    by_cases hlt : s < 32
    · have hL := HLv.out wr p s hlt ht.out
      rw [← HT1.out s] at hL
      have hs32 : (s : Int) < 32 := by omega
      go_wp2_with (go_at_call 34; refine hL.mono ?_; rintro e w4 ⟨rfl, hl⟩; have H4 := hid hl; clear hl hL)
      go_roundw
      case rel => exact ⟨s + 1, by omega, by go_num, H4⟩
      case measure => simp [intOf]; omega
    · obtain rfl : s = 32 := by omega
      have hR := HR.out wr p ht.out
      clear ht HLv HT1 H3
      go_wp2_with (first
        | (go_at_call 30; refine hR.mono ?_; rintro e w4 ⟨rfl, hl⟩; have hP := HP0.out w4 p hl; clear hl hR HR)
        | (go_at_call 38; (with_reducible refine hP.mono ?_); rintro e w5 ⟨rfl, hl⟩; have hQ := HP1.out w5 p hl; clear hl hP)
        | (go_at_call 38; (with_reducible refine hQ.mono ?_); rintro e w6 ⟨rfl, hl⟩; have H6 := hid hl; clear hl hQ))
      go_loopw [13] (fun i wr => ∃ s : Nat, 1 ≤ s ∧ s ≤ 32 ∧ i = .int .u64 s ∧ Hid (LX W wr p VN s)) (fun i _ => 32 - (intOf i).toNat)
      case atStart => exact ⟨1, by omega, by omega, rfl, H6⟩
      case round =>
        obtain ⟨s, hs1, hs, rfl, ht⟩ := hrel
        by_cases hlt : s < 32
        · have et := HT0.out s
          have hs32 : (s : Int) < 32 := by omega
          cases ev : VN.testBit s <;> rw [ev] at et
          · have HX := ht.out
            go_wp2_with fail
            go_roundw
            case rel => exact ⟨s + 1, by omega, by omega, by go_num, by obtain ⟨c, k1, k2⟩ := ht.out; exact ⟨c, k1, k2.miss ev⟩⟩
            case measure => simp [intOf]; omega
          · have hC := lx_claim ht.out ev
            go_wp2_with (go_at_call 30; refine hC.mono ?_; rintro e w7 ⟨rfl, hl⟩; have H7 := hid hl; clear hl hC)
            go_roundw
            case rel => exact ⟨s + 1, by omega, by omega, by go_num, H7⟩
            case measure => simp [intOf]; omega
        · obtain rfl : s = 32 := by omega
          have hC := lx_end ht.out HV.out
          go_wp2_with (first
            | (go_at_call 30; refine hC.mono ?_; rintro e w7 ⟨rfl, hp⟩; clear hC)
            | (go_at_call 38; refine hp.mono ?_; rintro e w8 ⟨rfl, hb⟩; have HB := hid hb; clear hb hp)
            | (go_at_call 24; refine (hA _).mono ?_; rintro r w9 ⟨rfl, hb⟩; have HB6 := hid hb; clear hb))
          go_ret
          exact ⟨rfl, HB.out.trans (HB6.out.mono HB.out.size)⟩
end Go.Proofs.Ytmpldaenakenlaa
namespace Go.Proofs.Ytmpldaenakenlaa
open Go.RowKit
open C (Only hid Still ret_bool ret_int)
set_option linter.unusedVariables false
set_option maxRecDepth 100000

/-- its block, cell by cell -/
def jc (c : IV) (b : Nat → Int) (g j : Nat) : Value := if j < 32 then .bool (c.lv.testBit j) else if j < 64 then .bool (c.pu.testBit (j - 32)) else if j < 96 then .int .i64 (b (j - 64)) else .slice (some ⟨g, 0, none⟩) c.n c.n
def jcs (c : IV) (b : Nat → Int) (g : Nat) : Array Value := ((List.range 97).map (jc c b g)).toArray
/-- what each hart lets, as cells -/
def lec (c : IV) : Array Value := ((List.range c.n).map fun i => Value.int .u64 (c.le i)).toArray
theorem jcs_at (c : IV) (b : Nat → Int) (g j : Nat) (h : j < 97) : (jcs c b g)[j]? = some (jc c b g j) := by
  unfold jcs
  simp [h]
theorem lec_at (c : IV) (j : Nat) (h : j < c.n) : (lec c)[j]? = some (.int .u64 (c.le j)) := by
  unfold lec
  simp [h]
theorem jcs_set (c c' : IV) (b b' : Nat → Int) (g k : Nat) (x : Value) (hk : k < 97) (hx : jc c' b' g k = x) (h : ∀ j, j < 97 → j ≠ k → jc c' b' g j = jc c b g j) : (jcs c b g).setIfInBounds k x = jcs c' b' g := by
  apply Array.ext_getElem?
  intro j
  rw [Array.getElem?_setIfInBounds]
  rcases Nat.lt_or_ge j 97 with q | q
  · rw [jcs_at _ _ _ _ q, jcs_at _ _ _ _ q]
    by_cases e : k = j
    · subst e
      rw [if_pos rfl, if_pos (by simp [jcs]; omega), hx]
    · rw [if_neg e, h j q (fun z => e z.symm)]
  · rw [if_neg (by omega), Array.getElem?_eq_none (by simp [jcs]; omega), Array.getElem?_eq_none (by simp [jcs]; omega)]
structure Jo (w : World) (q g : Nat) (c : IV) (b : Nat → Int) : Prop where
  top : w.heap[q]? = some (.cells (jcs c b g) 86 (0, 0))
  tab : w.heap[g]? = some (.cells (lec c) 29 (0, 0))
/-- which hart has claimed a source, both ways -/
def Rb (c : IV) (b : Nat → Int) : Prop := ∀ s, 1 ≤ s → s < 32 → (b s = -1 ∧ ∀ k, k < c.n → (c.cl k).testBit s = false) ∨ ∃ k, k < c.n ∧ b s = (k : Int) ∧ ∀ j, j < c.n → ((c.cl j).testBit s = true ↔ j = k)
/-- bit 0 is no source's -/
def Le0 (c : IV) : Prop := ∀ i, (c.le i).testBit 0 = false
def Jx (w : World) (F : Nat → Prop) (q : Nat) (c : IV) : Prop := ∃ g b, Jo w q g c b ∧ IOk c ∧ Rb c b ∧ ∀ x, F x ↔ x = q ∨ x = g
section
variable {w w' : World} {q g : Nat} {c c' : IV} {b b' : Nat → Int} {F : Nat → Prop}
theorem Jo.qg (h : Jo w q g c b) : q ≠ g := fun e => by
  subst e
  have := h.top
  rw [h.tab] at this
  simp at this
theorem Jo.only (h : Jo w q g c b) {T : Nat → Prop} (ho : Only T w w') (hp : ¬ T q) (hg : ¬ T g) : Jo w' q g c b := ⟨ho.old h.top hp, ho.old h.tab hg⟩
theorem Jx.only (h : Jx w F q c) {T : Nat → Prop} (ho : Only T w w') (hd : ∀ x, F x → ¬ T x) : Jx w' F q c := by
  obtain ⟨g, b, h1, ok, rb, hF⟩ := h
  exact ⟨g, b, h1.only ho (hd q ((hF q).2 (.inl rfl))) (hd g ((hF g).2 (.inr rfl))), ok, rb, hF⟩
theorem Jx.below (h : Jx w F q c) (hb : Below w.heap.size w w') : Jx w' F q c := h.only (T := fun _ => False) (.ofBelow hb) fun _ _ z => z
theorem Jx.lt (h : Jx w F q c) {x : Nat} (hx : F x) : x < w.heap.size := by
  obtain ⟨g, b, h1, ok, rb, hF⟩ := h
  rcases (hF x).1 hx with z | z
  · subst z; exact lt_of_block h1.top
  · subst z; exact lt_of_block h1.tab
theorem Jo.cell (h : Jo w q g c b) (j : Nat) (hj : j < 97) : w.cell? ⟨q, j, none⟩ = some (jc c b g j) := by
  rw [cell_of_row w q j _ _ _ h.top]
  exact jcs_at c b g j hj
theorem Jo.lv (h : Jo w q g c b) (s : Nat) (hs : s < 32) : w.cell? ⟨q, s, none⟩ = some (.bool (c.lv.testBit s)) := by
  rw [h.cell s (by omega)]; unfold jc; rw [if_pos hs]
theorem Jo.pu (h : Jo w q g c b) (s : Nat) (hs : s < 32) : w.cell? ⟨q, 32 + s, none⟩ = some (.bool (c.pu.testBit s)) := by
  rw [h.cell _ (by omega)]; unfold jc; rw [if_neg (by omega), if_pos (by omega), show 32 + s - 32 = s by omega]
theorem Jo.by (h : Jo w q g c b) (s : Nat) (hs : s < 32) : w.cell? ⟨q, 64 + s, none⟩ = some (.int .i64 (b s)) := by
  rw [h.cell _ (by omega)]; unfold jc; rw [if_neg (by omega), if_neg (by omega), if_pos (by omega), show 64 + s - 64 = s by omega]
theorem Jo.sl (h : Jo w q g c b) : w.cell? ⟨q, 96, none⟩ = some (.slice (some ⟨g, 0, none⟩) c.n c.n) := by
  rw [h.cell _ (by omega)]; rfl
theorem Jo.le (h : Jo w q g c b) (i : Nat) (hi : i < c.n) : w.cell? ⟨g, i, none⟩ = some (.int .u64 (c.le i)) := by
  rw [cell_of_row w g i _ _ _ h.tab]
  exact lec_at c i hi
theorem Jo.fq (h : Jo w q g c b) (k : Nat) : w.frozen? ⟨q, k, none⟩ = false := frozen_of_row w q k _ _ h.top
theorem Jo.fg (h : Jo w q g c b) (k : Nat) : w.frozen? ⟨g, k, none⟩ = false := frozen_of_row w g k _ _ h.tab
theorem Rb.neg (h : Rb c b) (s : Nat) (h1 : 1 ≤ s) (h2 : s < 32) : b s < 0 ↔ ¬ c.isCl s := by
  rcases h s h1 h2 with ⟨z1, z2⟩ | ⟨k, z1, z2, z3⟩
  · rw [z1]
    constructor
    · rintro _ ⟨j, y1, y2⟩
      rw [z2 j y1] at y2
      cases y2
    · intro _; decide
  · rw [z2]
    constructor
    · intro y; omega
    · intro y; exact absurd ⟨k, z1, (z3 k z1).2 rfl⟩ y
theorem Rb.in (h : Rb c b) (s : Nat) (h1 : 1 ≤ s) (h2 : s < 32) : -1 ≤ b s ∧ b s < c.n := by
  rcases h s h1 h2 with ⟨z1, z2⟩ | ⟨k, z1, z2, z3⟩
  · omega
  · omega
end
/-- is source s told to hart h, as the document asks it -/
theorem opn_doc {c : IV} {b : Nat → Int} (ok : IOk c) (rb : Rb c b) (h s : Nat) (h1 : 1 ≤ s) (h2 : s < 32) : (c.opn h).testBit s = ((c.lv.testBit s || c.pu.testBit s) && (decide (b s < 0) && (c.le h).testBit s)) := by
  rw [Bool.eq_iff_iff, opn_at ok]
  simp only [Bool.and_eq_true, Bool.or_eq_true, decide_eq_true_eq]
  rw [rb.neg s h1 h2]
  rfl
set_option maxHeartbeats 4000000 in
theorem j_first (w : World) (q g : Nat) (c : IV) (b : Nat → Int) (H : Jo w q g c b) (ok : IOk c) (rb : Rb c b) (h : Nat) (hh : h < c.n) : Calls Try.prog 52 #[.pointer (some ⟨q, 0, none⟩), .int .i64 h] w fun e w' => e = .returned (.int .i64 (c.src h)) ∧ w' = w := by
  have cs := H.sl
  have cl := H.le h hh
  have n2 := ok.n2
  have HJ := hid H
  have OK := hid ok
  have RB := hid rb
  have l1 : (c.le h : Int) < 4294967296 := by have := ok.le h; omega
  have l0 : (0 : Int) ≤ c.le h := by omega
  have HT : Hid (∀ s : Nat, (((c.le h : Int) / 2 ^ s).tmod 2 == 1) = (c.le h).testBit s) := tb1 _
  obtain ⟨L, hL⟩ : ∃ L : Nat, L = c.src h := ⟨_, rfl⟩
  rw [← hL]
  have HL := hid hL
  have hh' : (h : Int) < c.n := by omega
  clear hL H ok rb
  generalize (c.le h : Int) = E at *
  go_enter Try.func52, Try.ntmps52
  go_wp2_with fail
  go_loopw [5] (fun i wr => ∃ s : Nat, 1 ≤ s ∧ s ≤ 32 ∧ i = .int .i64 s ∧ wr = w ∧ Hid (∀ j, j < s → (c.opn h).testBit j = false)) (fun i _ => 32 - (intOf i).toNat)
  case atStart => exact ⟨1, by omega, by omega, rfl, rfl, fun j hj => by
    obtain rfl : j = 0 := by omega
    exact opn_0 OK.out h⟩
  case round =>
    obtain ⟨s, hs1, hs, rfl, hw, hn⟩ := hrel
    obtain rfl := hw.symm
    by_cases hlt : s < 32
    · have a1 := HJ.out.lv s hlt
      have a2 := HJ.out.pu s hlt
      have a3 := HJ.out.by s hlt
      have ed := opn_doc OK.out RB.out h s hs1 hlt
      have et := HT.out s
      have hs32 : (s : Int) < 32 := by omega
      cases e1 : c.lv.testBit s <;> rw [e1] at a1 ed
      · cases e2 : c.pu.testBit s <;> rw [e2] at a2 ed
        · have hf : (c.opn h).testBit s = false := by rw [ed]; simp [*]
          go_wp2
          go_roundw
          case rel => exact ⟨s + 1, by omega, by omega, by go_num, trivial, fun j hj => by
            rcases Nat.lt_or_ge j s with y | y
            · exact hn.out j y
            · obtain rfl : j = s := by omega
              exact hf⟩
          case measure => simp [intOf]; omega
        · by_cases e3 : b s < 0
          · cases e4 : (c.le h).testBit s <;> rw [e4] at et ed
            · have hf : (c.opn h).testBit s = false := by rw [ed]; simp [*]
              go_wp2
              go_roundw
              case rel => exact ⟨s + 1, by omega, by omega, by go_num, trivial, fun j hj => by
                rcases Nat.lt_or_ge j s with y | y
                · exact hn.out j y
                · obtain rfl : j = s := by omega
                  exact hf⟩
              case measure => simp [intOf]; omega
            · have hf : (c.opn h).testBit s = true := by rw [ed]; simp [*]
              go_wp2
              go_ret
              refine ⟨ret_int ?_, rfl⟩
              rw [HL.out, src_is OK.out h s hf fun i hi => hn.out i hi]
          · have hf : (c.opn h).testBit s = false := by rw [ed]; simp [*]
            go_wp2
            go_roundw
            case rel => exact ⟨s + 1, by omega, by omega, by go_num, trivial, fun j hj => by
              rcases Nat.lt_or_ge j s with y | y
              · exact hn.out j y
              · obtain rfl : j = s := by omega
                exact hf⟩
            case measure => simp [intOf]; omega
      · by_cases e3 : b s < 0
        · cases e4 : (c.le h).testBit s <;> rw [e4] at et ed
          · have hf : (c.opn h).testBit s = false := by rw [ed]; simp [*]
            go_wp2
            go_roundw
            case rel => exact ⟨s + 1, by omega, by omega, by go_num, trivial, fun j hj => by
              rcases Nat.lt_or_ge j s with y | y
              · exact hn.out j y
              · obtain rfl : j = s := by omega
                exact hf⟩
            case measure => simp [intOf]; omega
          · have hf : (c.opn h).testBit s = true := by rw [ed]; simp [*]
            go_wp2
            go_ret
            refine ⟨ret_int ?_, rfl⟩
            rw [HL.out, src_is OK.out h s hf fun i hi => hn.out i hi]
        · have hf : (c.opn h).testBit s = false := by rw [ed]; simp [*]
          go_wp2
          go_roundw
          case rel => exact ⟨s + 1, by omega, by omega, by go_num, trivial, fun j hj => by
            rcases Nat.lt_or_ge j s with y | y
            · exact hn.out j y
            · obtain rfl : j = s := by omega
              exact hf⟩
          case measure => simp [intOf]; omega
    · obtain rfl : s = 32 := by omega
      go_wp2
      go_ret
      refine ⟨ret_int ?_, rfl⟩
      have : c.src h = 0 := src_none OK.out h (set_ext (IV.opn_lt OK.out h) (by decide) fun i hi => by rw [hn.out i hi, Nat.zero_testBit])
      rw [HL.out, this]
      rfl
end Go.Proofs.Ytmpldaenakenlaa
namespace Go.Proofs.Ytmpldaenakenlaa
open Go.RowKit
open C (Only hid Still ret_bool ret_int)
set_option linter.unusedVariables false
set_option maxRecDepth 100000

theorem an_z {a : Nat} (h : a < 4294967296) : anN a 0 = a := by
  apply set_ext (anN_lt _ _ h) h
  intro j hj
  rw [anN_at _ _ _ (by decide), Nat.zero_testBit]
  simp [hj]
theorem bitN_out {x : Int} (h : ¬ (1 ≤ x ∧ x < 32)) : bitN x = 0 := by unfold bitN; rw [if_neg h]
theorem lev_out {c : IV} (ok : IOk c) {x : Int} (h : ¬ (1 ≤ x ∧ x < 32)) (u : Bool) : c.lev x u = c := by
  unfold IV.lev
  rw [bitN_out h, an_z ok.lv, Nat.or_zero]
  cases u <;> rfl
theorem pls_out {c : IV} {x : Int} (h : ¬ (1 ≤ x ∧ x < 32)) : c.pls x = c := by
  unfold IV.pls
  rw [bitN_out h, Nat.or_zero]
theorem lev_at {c : IV} (ok : IOk c) (s : Nat) (h1 : 1 ≤ s) (h2 : s < 32) (u : Bool) (i : Nat) : (c.lev s u).lv.testBit i = if i = s then u else c.lv.testBit i := by
  have hb : ∀ i, (bitN (s : Int)).testBit i = decide (i = s) := fun i => by
    rw [Bool.eq_iff_iff, bitN_nat]
    simp
    omega
  have ha : (anN c.lv (bitN (s : Int))).testBit i = if i = s then false else c.lv.testBit i := by
    rw [anN_at _ _ _ (bitN_lt _), hb]
    by_cases e : i = s
    · simp [e]
    · simp only [e, decide_false, if_false, Bool.not_false, Bool.and_true]
      rcases Nat.lt_or_ge i 32 with y | y
      · simp [y]
      · rw [high ok.lv y]; rfl
  show (if u then anN c.lv (bitN s) ||| bitN s else anN c.lv (bitN s)).testBit i = _
  cases u
  · rw [if_neg (by decide), ha]
  · rw [if_pos rfl, Nat.testBit_or, ha, hb]
    by_cases e : i = s
    · simp [e]
    · simp [e]
theorem pls_at {c : IV} (s : Nat) (h1 : 1 ≤ s) (h2 : s < 32) (i : Nat) : (c.pls s).pu.testBit i = if i = s then true else c.pu.testBit i := by
  show (c.pu ||| bitN s).testBit i = _
  rw [Nat.testBit_or]
  by_cases e : i = s
  · subst e
    rw [(bitN_nat i i).2 ⟨h1, h2, rfl⟩]
    simp
  · rw [if_neg e]
    have : (bitN (s : Int)).testBit i = false := by
      cases z : (bitN (s : Int)).testBit i
      · rfl
      · have := (bitN_nat s i).1 z; omega
    rw [this, Bool.or_false]
section
variable {w w' : World} {q g : Nat} {c c' : IV} {b b' : Nat → Int} {F : Nat → Prop}
theorem Jo.put (h : Jo w q g c b) (k : Nat) (x : Value) (c' : IV) (b' : Nat → Int) (hk : k < 97) (hx : jc c' b' g k = x) (hj : ∀ j, j < 97 → j ≠ k → jc c' b' g j = jc c b g j) (hl : lec c' = lec c) : Jo (w.setCell ⟨q, k, none⟩ x) q g c' b' :=
  ⟨setRowB w q k _ _ _ _ h.top (jcs_set c c' b b' g k x hk hx hj), by rw [hl]; exact (only_c w q k x).old h.tab fun z => h.qg z.symm⟩
end
theorem j_Level (w : World) (F : Nat → Prop) (q : Nat) (c : IV) (h : Jx w F q c) (x : Int) (u : Bool) (x0 : -9223372036854775808 ≤ x) (x1 : x ≤ 9223372036854775807) : Calls Try.prog 35 #[.pointer (some ⟨q, 0, none⟩), .int .i64 x, .bool u] w fun e w' => e = .returned (.tuple #[]) ∧ Jx w' F q (c.lev x u) ∧ Only F w w' := by
  have H0 := hid h
  obtain ⟨g, b, h1, ok, rb, hF⟩ := h
  by_cases r : 1 ≤ x ∧ x < 32
  · obtain ⟨s, rfl⟩ : ∃ s : Nat, x = s := ⟨x.toNat, by omega⟩
    have s1 : 1 ≤ s := by omega
    have s2 : s < 32 := by omega
    have c0 := h1.lv s s2
    have z0 := h1.fq s
    have HP : Hid (Jx (w.setCell ⟨q, s, none⟩ (.bool u)) F q (c.lev s u) ∧ Only F w (w.setCell ⟨q, s, none⟩ (.bool u))) := by
      refine ⟨⟨g, b, h1.put s (.bool u) (c.lev s u) b (by omega) ?_ (fun j hj hn => ?_) rfl, ok.lev _ _, rb, hF⟩, (only_c w q s _).mono fun k _ e => (hF k).2 (.inl e)⟩
      · unfold jc
        rw [if_pos s2, lev_at ok s s1 s2, if_pos rfl]
      · unfold jc
        split
        · rw [lev_at ok s s1 s2, if_neg hn]
        · rfl
    have r1 : 1 ≤ (s : Int) := by omega
    have r2 : (s : Int) ≤ 31 := by omega
    clear h1 ok rb hF H0 r
    go_enter Try.func35, Try.ntmps35
    go_wp2
    go_returns
    exact ⟨rfl, HP.out.1, HP.out.2⟩
  · rw [lev_out ok r]
    clear h1 ok rb hF
    by_cases r1 : 1 ≤ x
    · have r2 : ¬ x ≤ 31 := by omega
      go_enter Try.func35, Try.ntmps35
      go_wp2
      go_returns
      exact ⟨rfl, H0.out, .refl w⟩
    · go_enter Try.func35, Try.ntmps35
      go_wp2
      go_returns
      exact ⟨rfl, H0.out, .refl w⟩
theorem j_Pulse (w : World) (F : Nat → Prop) (q : Nat) (c : IV) (h : Jx w F q c) (x : Int) (x0 : -9223372036854775808 ≤ x) (x1 : x ≤ 9223372036854775807) : Calls Try.prog 37 #[.pointer (some ⟨q, 0, none⟩), .int .i64 x] w fun e w' => e = .returned (.tuple #[]) ∧ Jx w' F q (c.pls x) ∧ Only F w w' := by
  have H0 := hid h
  obtain ⟨g, b, h1, ok, rb, hF⟩ := h
  by_cases r : 1 ≤ x ∧ x < 32
  · obtain ⟨s, rfl⟩ : ∃ s : Nat, x = s := ⟨x.toNat, by omega⟩
    have s1 : 1 ≤ s := by omega
    have s2 : s < 32 := by omega
    have c0 := h1.pu s s2
    have z0 := h1.fq (32 + s)
    have HP : Hid (Jx (w.setCell ⟨q, 32 + s, none⟩ (.bool true)) F q (c.pls s) ∧ Only F w (w.setCell ⟨q, 32 + s, none⟩ (.bool true))) := by
      refine ⟨⟨g, b, h1.put (32 + s) (.bool true) (c.pls s) b (by omega) ?_ (fun j hj hn => ?_) rfl, ok.pls _, rb, hF⟩, (only_c w q _ _).mono fun k _ e => (hF k).2 (.inl e)⟩
      · unfold jc
        rw [if_neg (by omega), if_pos (by omega), pls_at s s1 s2, if_pos (by omega)]
      · unfold jc
        split
        · rfl
        · split
          · rw [pls_at s s1 s2, if_neg (by omega)]
          · rfl
    have r1 : 1 ≤ (s : Int) := by omega
    have r2 : (s : Int) ≤ 31 := by omega
    clear h1 ok rb hF H0 r
    go_enter Try.func37, Try.ntmps37
    go_wp2
    go_returns
    exact ⟨rfl, HP.out.1, HP.out.2⟩
  · rw [pls_out r]
    clear h1 ok rb hF
    by_cases r1 : 1 ≤ x
    · have r2 : ¬ x ≤ 31 := by omega
      go_enter Try.func37, Try.ntmps37
      go_wp2
      go_returns
      exact ⟨rfl, H0.out, .refl w⟩
    · go_enter Try.func37, Try.ntmps37
      go_wp2
      go_returns
      exact ⟨rfl, H0.out, .refl w⟩
theorem src_ne {c : IV} (ok : IOk c) (h : Nat) : ((c.src h : Int) != 0) = (c.opn h != 0) := by
  rcases src_spec ok h with ⟨z1, z2⟩ | ⟨z1, z2, z3, z4⟩
  · rw [z1, z2]; rfl
  · rw [show ((c.src h : Int) != 0) = true by simp; omega]
    symm
    simp
    intro e
    rw [e, Nat.zero_testBit] at z3
    cases z3
theorem j_Pending (w : World) (F : Nat → Prop) (q : Nat) (c : IV) (h : Jx w F q c) (x : Int) (x0 : -9223372036854775808 ≤ x) (x1 : x ≤ 9223372036854775807) : Calls Try.prog 39 #[.pointer (some ⟨q, 0, none⟩), .int .i64 x] w fun e w' => e = .returned (.bool (c.pen x)) ∧ w' = w := by
  obtain ⟨g, b, h1, ok, rb, hF⟩ := h
  have c2 := h1.sl
  have n2 := ok.n2
  have HP : Hid (c.pen x = (decide (0 ≤ x) && decide (x < c.n) && (c.opn x.toNat != 0))) := rfl
  generalize c.pen x = P at *
  by_cases q0 : 0 ≤ x
  · by_cases q1 : x < c.n
    · obtain ⟨k, rfl⟩ : ∃ k : Nat, x = k := ⟨x.toNat, by omega⟩
      have hO := j_first w q g c b h1 ok rb k (by omega)
      have HP2 : Hid (P = ((c.src k : Int) != 0)) := by
        show _ = _
        rw [HP.out, Int.toNat_natCast, src_ne ok]
        have a1 : decide (0 ≤ (k : Int)) = true := by simp
        have a2 : decide ((k : Int) < c.n) = true := by simpa using q1
        rw [a1, a2, Bool.true_and, Bool.true_and]
      have l1 : (c.src k : Int) < 32 := by
        rcases src_spec ok k with ⟨z1, z2⟩ | ⟨z1, z2, z3, z4⟩ <;> omega
      have l2 : (0 : Int) ≤ (c.src k : Int) := by omega
      clear h1 ok HP rb hF
      generalize (c.src k : Int) = R at *
      go_enter Try.func39, Try.ntmps39
      go_wp2_with (go_at_call 52; refine hO.mono ?_; rintro e w' ⟨rfl, hw⟩; obtain rfl := hw.symm)
      go_ret
      exact ⟨ret_bool (by rw [HP2.out]), rfl⟩
    · have e : P = false := by rw [HP.out]; simp [q1]
      subst e
      clear h1 ok rb hF
      go_enter Try.func39, Try.ntmps39
      go_wp2
      go_ret
      exact ⟨rfl, rfl⟩
  · have e : P = false := by rw [HP.out]; simp [q0]
    subst e
    clear h1 ok rb hF
    go_enter Try.func39, Try.ntmps39
    go_wp2
    go_ret
    exact ⟨rfl, rfl⟩
/-- which hart's register of a row -/
def plN (n : Nat) (o B : Int) : Int := if o < B ∨ B + 4 * (n : Int) ≤ o ∨ o % 4 ≠ 0 then -1 else (o - B) / 4
theorem j_place (w : World) (q g : Nat) (c : IV) (b : Nat → Int) (h : Jo w q g c b) (ok : IOk c) (o B : Int) (o0 : 0 ≤ o) (o1 : o < 18446744073709551616) (hB : B = 4096 ∨ B = 8192) : Calls Try.prog 51 #[.pointer (some ⟨q, 0, none⟩), .int .u64 o, .int .u64 B] w fun e w' => e = .returned (.int .i64 (plN c.n o B)) ∧ w' = w := by
  have c2 := h.sl
  obtain ⟨N, hN⟩ : ∃ N : Int, N = (c.n : Int) := ⟨_, rfl⟩
  have n2 : N ≤ 64 := by have := ok.n2; omega
  have n1 : 1 ≤ N := by have := ok.n1; omega
  have HP : Hid (plN c.n o B = if o < B ∨ B + 4 * N ≤ o ∨ o % 4 ≠ 0 then -1 else (o - B) / 4) := by rw [hN]; exact rfl
  generalize plN c.n o B = P at *
  have B0 : 0 ≤ B := by omega
  have B1 : B ≤ 8192 := by omega
  have nc : (c.n : Int) = N := hN.symm
  clear h ok hN hB
  by_cases q1 : o < B
  · have e : P = -1 := by rw [HP.out, if_pos (.inl q1)]
    subst e
    go_enter Try.func51, Try.ntmps51
    go_wp2
    go_ret
    exact ⟨rfl, rfl⟩
  · by_cases q2 : B + 4 * N ≤ o
    · have e : P = -1 := by rw [HP.out, if_pos (.inr (.inl q2))]
      subst e
      go_enter Try.func51, Try.ntmps51
      go_wp2
      go_ret
      exact ⟨rfl, rfl⟩
    · by_cases q3 : o % 4 = 0
      · have e : P = (o - B) / 4 := by rw [HP.out, if_neg (by omega)]
        subst e
        have d0 : 0 ≤ o - B := by omega
        have d1 : o - B < 256 := by omega
        go_enter Try.func51, Try.ntmps51
        go_wp2
        go_ret
        refine ⟨ret_int ?_, rfl⟩
        first | rfl | (rw [Int.tdiv_eq_ediv_of_nonneg d0])
      · have e : P = -1 := by rw [HP.out, if_pos (.inr (.inr q3))]
        subst e
        have q4 : (o % 4 != 0) = true := by simp [q3]
        go_enter Try.func51, Try.ntmps51
        go_wp2
        go_ret
        exact ⟨rfl, rfl⟩
end Go.Proofs.Ytmpldaenakenlaa
namespace Go.Proofs.Ytmpldaenakenlaa
open Go.RowKit
open C (Only hid Still ret_bool ret_int)
set_option linter.unusedVariables false
set_option maxRecDepth 100000

theorem pl_cases (n : Nat) (n1 : 1 ≤ n) (n2 : n ≤ 64) (o : Int) (o0 : 0 ≤ o) :
    (o = 0 ∧ fdN n o 4 = (0, 0, true)) ∨ (o ≠ 0 ∧ ∃ k : Nat, k < n ∧ plN n o 4096 = k ∧ fdN n o 4 = (4096, (k : Int), true)) ∨ (o ≠ 0 ∧ plN n o 4096 = -1 ∧ ∃ k : Nat, k < n ∧ plN n o 8192 = k ∧ fdN n o 4 = (8192, (k : Int), true)) ∨ (o ≠ 0 ∧ plN n o 4096 = -1 ∧ plN n o 8192 = -1 ∧ (fdN n o 4).2.2 = false) := by
  by_cases q0 : o = 0
  · subst q0
    left
    refine ⟨rfl, ?_⟩
    unfold fdN
    rw [if_neg (by decide), if_pos (by decide)]
    rfl
  · right
    unfold plN fdN
    by_cases q4 : o % 4 = 0
    · by_cases r1 : 4096 ≤ o ∧ o < 4096 + 4 * (n : Int)
      · left
        refine ⟨q0, ((o - 4096) / 4).toNat, by omega, by rw [if_neg (by omega)]; omega, ?_⟩
        have e : o % 4096 = o - 4096 := by omega
        rw [e, if_neg (by omega), if_neg (by omega), if_pos (by omega), show o - (o - 4096) = 4096 by omega]
        simp
        omega
      · right
        by_cases r2 : 8192 ≤ o ∧ o < 8192 + 4 * (n : Int)
        · left
          refine ⟨q0, by rw [if_pos (by omega)], ((o - 8192) / 4).toNat, by omega, by rw [if_neg (by omega)]; omega, ?_⟩
          have e : o % 4096 = o - 8192 := by omega
          rw [e, if_neg (by omega), if_neg (by omega), if_pos (by omega), show o - (o - 8192) = 8192 by omega]
          simp
          omega
        · right
          refine ⟨q0, by rw [if_pos (by omega)], by rw [if_pos (by omega)], ?_⟩
          rw [if_neg (by omega)]
          split
          · simp; omega
          · split
            · simp; omega
            · rfl
    · right; right
      refine ⟨q0, by rw [if_pos (by omega)], by rw [if_pos (by omega)], ?_⟩
      rw [if_pos (by omega)]
theorem clm_none {c : IV} (ok : IOk c) (k : Nat) (h : c.src k = 0) : c.clm k = c := by
  unfold IV.clm
  rw [h, show bitN ((0 : Nat) : Int) = 0 by decide +kernel, an_z ok.pu, Nat.or_zero]
  have : upN c.cl k (c.cl k) = c.cl := by
    funext j
    unfold upN
    split
    · rename_i e; rw [e]
    · rfl
  rw [this]
/-- a source is claimed -/
theorem rb_clm {c : IV} {b : Nat → Int} (ok : IOk c) (rb : Rb c b) (k s : Nat) (hk : k < c.n) (hs : c.src k = s) (h1 : 1 ≤ s) (h2 : s < 32) : Rb (c.clm k) (fun j => if j = s then (k : Int) else b j) := by
  have hop : (c.opn k).testBit s = true := by
    rcases src_spec ok k with ⟨z, _⟩ | ⟨_, _, z, _⟩
    · omega
    · rw [hs] at z; exact z
  have hnc := ((opn_at ok k s).1 hop).2.1
  intro t t1 t2
  show (_ ∧ ∀ j, j < c.n → (upN c.cl k (c.cl k ||| bitN (c.src k)) j).testBit t = false) ∨ ∃ i, i < c.n ∧ _ ∧ ∀ j, j < c.n → ((upN c.cl k (c.cl k ||| bitN (c.src k)) j).testBit t = true ↔ j = i)
  rw [hs]
  by_cases e : t = s
  · subst e
    right
    refine ⟨k, hk, by simp, fun j hj => ?_⟩
    by_cases ej : j = k
    · subst ej
      rw [upN_same, Nat.testBit_or, (bitN_nat t t).2 ⟨h1, h2, rfl⟩]
      simp
    · rw [upN_other _ _ _ _ ej]
      constructor
      · intro z; exact absurd ⟨j, hj, z⟩ hnc
      · intro z; exact absurd z ej
  · have hb : (bitN (s : Int)).testBit t = false := by
      cases z : (bitN (s : Int)).testBit t
      · rfl
      · have := (bitN_nat s t).1 z; omega
    have hu : ∀ j, (upN c.cl k (c.cl k ||| bitN (s : Int)) j).testBit t = (c.cl j).testBit t := fun j => by
      by_cases ej : j = k
      · subst ej; rw [upN_same, Nat.testBit_or, hb, Bool.or_false]
      · rw [upN_other _ _ _ _ ej]
    simp only [hu, e, if_false]
    exact rb t t1 t2
/-- it is completed -/
theorem rb_cmp {c : IV} {b : Nat → Int} (ok : IOk c) (rb : Rb c b) (k s : Nat) (hk : k < c.n) (h1 : 1 ≤ s) (h2 : s < 32) (hb : b s = (k : Int)) (x : Int) (hx : x % 4294967296 = s) : Rb (c.cmp k x) (fun j => if j = s then -1 else b j) := by
  intro t t1 t2
  show (_ ∧ ∀ j, j < c.n → (upN c.cl k (anN (c.cl k) (bitN (x % 4294967296))) j).testBit t = false) ∨ ∃ i, i < c.n ∧ _ ∧ ∀ j, j < c.n → ((upN c.cl k (anN (c.cl k) (bitN (x % 4294967296))) j).testBit t = true ↔ j = i)
  rw [hx]
  by_cases e : t = s
  · subst e
    left
    refine ⟨by simp, fun j hj => ?_⟩
    by_cases ej : j = k
    · subst ej
      rw [upN_same, anN_at _ _ _ (bitN_lt _), (bitN_nat t t).2 ⟨h1, h2, rfl⟩]
      simp
    · rw [upN_other _ _ _ _ ej]
      rcases rb t h1 h2 with ⟨z1, z2⟩ | ⟨i, z1, z2, z3⟩
      · exact z2 j hj
      · cases y : (c.cl j).testBit t
        · rfl
        · have := (z3 j hj).1 y
          omega
  · have hb' : (bitN (s : Int)).testBit t = false := by
      cases z : (bitN (s : Int)).testBit t
      · rfl
      · have := (bitN_nat s t).1 z; omega
    have hu : ∀ j, (upN c.cl k (anN (c.cl k) (bitN (s : Int))) j).testBit t = (c.cl j).testBit t := fun j => by
      by_cases ej : j = k
      · subst ej; rw [upN_same, anN_at _ _ _ (bitN_lt _), hb']; simp [t2]
      · rw [upN_other _ _ _ _ ej]
    simp only [hu, e, if_false]
    exact rb t t1 t2
/-- nothing is completed -/
theorem cmp_none {c : IV} {b : Nat → Int} (ok : IOk c) (rb : Rb c b) (k : Nat) (hk : k < c.n) (x : Int) (h : ∀ s : Nat, x % 4294967296 = s → 1 ≤ s → s < 32 → b s ≠ (k : Int)) (hx : 0 ≤ x) : c.cmp k x = c := by
  have hz : anN (c.cl k) (bitN (x % 4294967296)) = c.cl k := by
    apply set_ext (anN_lt _ _ (ok.cl k)) (ok.cl k)
    intro i hi
    rw [anN_at _ _ _ (bitN_lt _)]
    cases e : (c.cl k).testBit i
    · rfl
    · have : (bitN (x % 4294967296)).testBit i = false := by
        cases z : (bitN (x % 4294967296)).testBit i
        · rfl
        · rw [bitN_at] at z
          simp only [decide_eq_true_eq] at z
          have hb := h i z.2.2 (by omega) hi
          rcases rb i (by omega) hi with ⟨y1, y2⟩ | ⟨j, y1, y2, y3⟩
          · rw [y2 k hk] at e; cases e
          · have := (y3 k hk).1 e
            subst this
            exact absurd y2 hb
      rw [this]
      simp [hi]
  unfold IV.cmp
  rw [hz]
  have : upN c.cl k (c.cl k) = c.cl := by
    funext j
    unfold upN
    split
    · rename_i e; rw [e]
    · rfl
  rw [this]
theorem ev_half (n : Nat) (hn : n < 4294967296) : n &&& 4294967294 = n / 2 * 2 := by
  apply set_ext (ev_lt n) (by omega)
  intro i hi
  rw [Nat.testBit_and]
  cases i with
  | zero =>
    rw [show (4294967294 : Nat).testBit 0 = false by decide +kernel, Bool.and_false, Nat.testBit_zero]
    symm
    simp
  | succ j =>
    rw [(ev_at (j + 1)).2 ⟨by omega, hi⟩, Bool.and_true, Nat.testBit_succ, Nat.testBit_succ, show n / 2 * 2 / 2 = n / 2 by omega]
theorem lec_set (c : IV) (k x : Nat) (hk : k < c.n) : (lec c).setIfInBounds k (.int .u64 x) = lec { c with le := upN c.le k x } := by
  apply Array.ext_getElem?
  intro j
  rw [Array.getElem?_setIfInBounds]
  rcases Nat.lt_or_ge j c.n with z | z
  · rw [lec_at c j z, lec_at { c with le := upN c.le k x } j (show j < c.n from z)]
    by_cases e : k = j
    · subst e
      rw [if_pos rfl, if_pos (by simp [lec]; exact hk)]
      show _ = some (Value.int .u64 (upN c.le k x k))
      rw [upN_same]
    · rw [if_neg e]
      show _ = some (Value.int .u64 (upN c.le k x j))
      rw [upN_other _ _ _ _ (fun y => e y.symm)]
  · have e1 : (lec c)[j]? = none := Array.getElem?_eq_none (by simp [lec]; exact z)
    have e2 : (lec { c with le := upN c.le k x })[j]? = none := Array.getElem?_eq_none (by simp [lec]; exact z)
    rw [e1, e2]
    split
    · rw [if_neg (by simp [lec]; omega)]
    · rfl
theorem wr_eq {n : Nat} {c : IV} (hn : c.n = n) {o : Int} {a : Int} {k : Nat} (f : fdN n o 4 = (a, (k : Int), true)) (x : Int) : (a = 4096 → c.wr o 4 x = (true, c.let k x)) ∧ (a = 8192 → c.wr o 4 x = (true, c.cmp k x)) ∧ (a = 0 → c.wr o 4 x = (false, c)) := by
  refine ⟨fun e => ?_, fun e => ?_, fun e => ?_⟩ <;> (subst e; unfold IV.wr; rw [hn, f]; rfl)
theorem rd_eq {n : Nat} {c : IV} (hn : c.n = n) {o : Int} {a : Int} {k : Nat} (f : fdN n o 4 = (a, (k : Int), true)) : (a = 4096 → c.rd o 4 = ((c.le k : Int), true, c)) ∧ (a = 8192 → c.rd o 4 = ((c.src k : Int), true, c.clm k)) ∧ (a = 0 → c.rd o 4 = ((c.up : Int), true, c)) := by
  refine ⟨fun e => ?_, fun e => ?_, fun e => ?_⟩ <;> (subst e; unfold IV.rd; rw [hn, f]; rfl)
theorem fd_size {n : Nat} {o s : Int} (h : s ≠ 4) : (fdN n o s).2.2 = false := by unfold fdN; rw [if_pos (.inl h)]
end Go.Proofs.Ytmpldaenakenlaa
namespace Go.Proofs.Ytmpldaenakenlaa
open Go.RowKit
open C (Only hid Still ret_bool ret_int)
set_option linter.unusedVariables false
set_option maxRecDepth 100000

/-- the harts below k let source s, and nothing has happened yet -/
structure Ca (n s k : Nat) (c : IV) : Prop where
  ok : IOk c
  nn : c.n = n
  lv : c.lv = 0
  pu : c.pu = 0
  cl : ∀ i, c.cl i = 0
  le : ∀ i, i < k → ∀ j, (c.le i).testBit j = true ↔ j = s
/-- by: which hart has it (n: none); lf: it is up -/
structure Cb (n s by_ : Nat) (lf pl : Bool) (c : IV) : Prop where
  ok : IOk c
  nn : c.n = n
  lv : ∀ j, c.lv.testBit j = true ↔ j = s ∧ pl = false
  pu : ∀ j, c.pu.testBit j = true ↔ j = s ∧ pl = true ∧ lf = true
  lff : pl = false → lf = true
  cl : ∀ i, i < n → ∀ j, (c.cl i).testBit j = true ↔ j = s ∧ i = by_
  le : ∀ i, i < n → ∀ j, (c.le i).testBit j = true ↔ j = s
section
variable {n s k by_ : Nat} {lf pl : Bool} {c : IV}
theorem Ca.opn (h : Ca n s k c) (i : Nat) : c.opn i = 0 := by
  apply set_ext (IV.opn_lt h.ok i) (by decide)
  intro j hj
  rw [Nat.zero_testBit]
  cases e : (c.opn i).testBit j
  · rfl
  · rcases ((opn_at h.ok i j).1 e).1 with z | z
    · rw [h.lv, Nat.zero_testBit] at z; cases z
    · rw [h.pu, Nat.zero_testBit] at z; cases z
theorem pow_at (s j : Nat) : (2 ^ s : Nat).testBit j = true ↔ j = s := by
  rw [Nat.testBit_two_pow]
  simp
  omega
theorem let_at (s j : Nat) (h1 : 1 ≤ s) (h2 : s < 32) : (((2 ^ s : Nat) : Int) % 4294967296).toNat &&& 4294967294 = 2 ^ s := by
  have : 2 ^ s ≤ 2 ^ 31 := Nat.pow_le_pow_right (by decide) (by omega)
  rw [show (((2 ^ s : Nat) : Int) % 4294967296).toNat = 2 ^ s by generalize 2 ^ s = x at *; omega]
  apply set_ext (ev_lt _) (by omega)
  intro i hi
  rw [Bool.eq_iff_iff, Nat.testBit_and, Bool.and_eq_true, pow_at, ev_at]
  omega
theorem fd_le (n k : Nat) (hn : n ≤ 64) (hk : k < n) : fdN n (4096 + 4 * (k : Int)) 4 = (4096, (k : Int), true) := by
  unfold fdN
  have e : (4096 + 4 * (k : Int)) % 4096 = 4 * (k : Int) := by omega
  rw [e, if_neg (by omega), if_neg (by omega), if_pos (by omega), show 4096 + 4 * (k : Int) - 4 * (k : Int) = 4096 by omega, show 4 * (k : Int) / 4 = k by omega]
  simp
  omega
theorem fd_cl (n k : Nat) (hn : n ≤ 64) (hk : k < n) : fdN n (8192 + 4 * (k : Int)) 4 = (8192, (k : Int), true) := by
  unfold fdN
  have e : (8192 + 4 * (k : Int)) % 4096 = 4 * (k : Int) := by omega
  rw [e, if_neg (by omega), if_neg (by omega), if_pos (by omega), show 8192 + 4 * (k : Int) - 4 * (k : Int) = 8192 by omega, show 4 * (k : Int) / 4 = k by omega]
  simp
  omega
theorem wr_le (hk : k < c.n) (ok : IOk c) (x : Int) : c.wr (4096 + 4 * (k : Int)) 4 x = (true, c.let k x) := by
  unfold IV.wr
  rw [fd_le _ _ ok.n2 hk]
  rfl
theorem wr_cl (hk : k < c.n) (ok : IOk c) (x : Int) : c.wr (8192 + 4 * (k : Int)) 4 x = (true, c.cmp k x) := by
  unfold IV.wr
  rw [fd_cl _ _ ok.n2 hk]
  rfl
theorem rd_cl (hk : k < c.n) (ok : IOk c) : c.rd (8192 + 4 * (k : Int)) 4 = ((c.src k : Int), true, c.clm k) := by
  unfold IV.rd
  rw [fd_cl _ _ ok.n2 hk]
  rfl
theorem Ca.next (h : Ca n s k c) (hk : k < n) (h1 : 1 ≤ s) (h2 : s < 32) : Ca n s (k + 1) (c.let k ((2 ^ s : Nat) : Int)) := by
  refine ⟨h.ok.let _ _, h.nn, h.lv, h.pu, h.cl, fun i hi j => ?_⟩
  show (upN c.le k ((((2 ^ s : Nat) : Int) % 4294967296).toNat &&& 4294967294) i).testBit j = true ↔ _
  by_cases e : i = k
  · subst e
    rw [upN_same, let_at s j h1 h2, pow_at]
  · rw [upN_other _ _ _ _ e]
    exact h.le i (by omega) j
theorem Ca.pulse (h : Ca n s n c) (h1 : 1 ≤ s) (h2 : s < 32) : Cb n s n true true (c.pls s) := by
  refine ⟨h.ok.pls _, h.nn, fun j => ?_, fun j => ?_, fun _ => rfl, fun i hi j => ?_, fun i hi j => h.le i hi j⟩
  · show c.lv.testBit j = true ↔ _
    rw [h.lv, Nat.zero_testBit]
    constructor
    · intro z; cases z
    · rintro ⟨_, z⟩; cases z
  · show (c.pu ||| bitN s).testBit j = true ↔ _
    rw [h.pu, Nat.zero_or, bitN_nat]
    constructor
    · rintro ⟨_, _, rfl⟩; exact ⟨rfl, rfl, rfl⟩
    · rintro ⟨rfl, _⟩; exact ⟨h1, h2, rfl⟩
  · show (c.cl i).testBit j = true ↔ _
    rw [h.cl, Nat.zero_testBit]
    constructor
    · intro z; cases z
    · rintro ⟨_, z⟩; omega
theorem Ca.level (h : Ca n s n c) (h1 : 1 ≤ s) (h2 : s < 32) : Cb n s n true false (c.lev s true) := by
  refine ⟨h.ok.lev _ _, h.nn, fun j => ?_, fun j => ?_, fun _ => rfl, fun i hi j => ?_, fun i hi j => h.le i hi j⟩
  · show (anN c.lv (bitN s) ||| bitN s).testBit j = true ↔ _
    rw [h.lv, Nat.testBit_or, anN_at _ _ _ (bitN_lt _), Nat.zero_testBit, Bool.false_and, Bool.false_or, bitN_nat]
    constructor
    · rintro ⟨_, _, rfl⟩; exact ⟨rfl, rfl⟩
    · rintro ⟨rfl, _⟩; exact ⟨h1, h2, rfl⟩
  · show c.pu.testBit j = true ↔ _
    rw [h.pu, Nat.zero_testBit]
    constructor
    · intro z; cases z
    · rintro ⟨_, z, _⟩; cases z
  · show (c.cl i).testBit j = true ↔ _
    rw [h.cl, Nat.zero_testBit]
    constructor
    · intro z; cases z
    · rintro ⟨_, z⟩; omega
theorem Cb.up (h : Cb n s by_ lf pl c) (j : Nat) : c.isUp j ↔ j = s ∧ lf = true := by
  unfold IV.isUp
  rw [h.lv, h.pu]
  cases e : pl
  · rw [h.lff e]; simp
  · simp
theorem Cb.isc (h : Cb n s by_ lf pl c) (j : Nat) : c.isCl j ↔ j = s ∧ by_ < n := by
  unfold IV.isCl
  rw [h.nn]
  constructor
  · rintro ⟨i, hi, z⟩
    rw [h.cl i hi] at z
    omega
  · rintro ⟨z1, z2⟩
    exact ⟨by_, z2, (h.cl by_ z2 j).2 ⟨z1, rfl⟩⟩
theorem Cb.opn (h : Cb n s by_ lf pl c) (i : Nat) (hi : i < n) (j : Nat) : (c.opn i).testBit j = true ↔ j = s ∧ lf = true ∧ ¬ by_ < n := by
  rw [opn_at h.ok, h.up, h.isc, h.le i hi]
  constructor
  · rintro ⟨⟨z1, z2⟩, z3, z4⟩; exact ⟨z1, z2, fun y => z3 ⟨z1, y⟩⟩
  · rintro ⟨z1, z2, z3⟩; exact ⟨⟨z1, z2⟩, fun y => z3 y.2, z1⟩
/-- what a hart is told -/
theorem Cb.src (h : Cb n s by_ lf pl c) (i : Nat) (hi : i < n) : c.src i = if lf = true ∧ ¬ by_ < n then s else 0 := by
  split
  · rename_i q
    refine src_is h.ok i s ((h.opn i hi s).2 ⟨rfl, q.1, q.2⟩) fun j hj => ?_
    cases e : (c.opn i).testBit j
    · rfl
    · have := ((h.opn i hi j).1 e).1; omega
  · rename_i q
    refine src_none h.ok i ?_
    apply set_ext (IV.opn_lt h.ok i) (by decide)
    intro j hj
    rw [Nat.zero_testBit]
    cases e : (c.opn i).testBit j
    · rfl
    · exact absurd ((h.opn i hi j).1 e).2 q
theorem Cb.pen (h : Cb n s by_ lf pl c) (i : Nat) (hi : i < n) (h1 : s < 32) : c.pen i = decide (lf = true ∧ ¬ by_ < n) := by
  unfold IV.pen
  rw [show decide (0 ≤ (i : Int)) = true by simp, show decide ((i : Int) < c.n) = true by rw [h.nn]; simp; omega, Int.toNat_natCast, Bool.true_and, Bool.true_and, Bool.eq_iff_iff]
  simp only [bne_iff_ne, ne_eq, decide_eq_true_eq]
  constructor
  · intro z
    refine Classical.byContradiction fun q => z ?_
    apply set_ext (IV.opn_lt h.ok i) (by decide)
    intro j hj
    rw [Nat.zero_testBit]
    cases e : (c.opn i).testBit j
    · rfl
    · exact absurd ((h.opn i hi j).1 e).2 q
  · intro q z
    have := (h.opn i hi s).2 ⟨rfl, q⟩
    rw [z, Nat.zero_testBit] at this
    cases this
/-- a claim that is told the source -/
theorem Cb.hit (h : Cb n s by_ lf pl c) (i : Nat) (hi : i < n) (h1 : 1 ≤ s) (h2 : s < 32) (q : lf = true ∧ ¬ by_ < n) : Cb n s i (!pl) pl (c.clm i) := by
  have es : c.src i = s := by rw [h.src i hi, if_pos q]
  refine ⟨h.ok.clm i, h.nn, fun j => h.lv j, fun j => ?_, fun z => by rw [z]; rfl, fun a ha j => ?_, fun a ha j => h.le a ha j⟩
  · show (anN c.pu (bitN (c.src i))).testBit j = true ↔ _
    rw [anN_at _ _ _ (bitN_lt _), es]
    simp only [Bool.and_eq_true, decide_eq_true_eq, Bool.not_eq_true', ← Bool.not_eq_true, h.pu, bitN_nat]
    constructor
    · rintro ⟨⟨z1, _⟩, _, z3⟩; exact absurd ⟨h1, h2, z1.symm⟩ z3
    · rintro ⟨_, z1, z2⟩
      rw [z1] at z2; exact absurd rfl z2
  · show (upN c.cl i (c.cl i ||| bitN (c.src i)) a).testBit j = true ↔ _
    rw [es]
    by_cases e : a = i
    · subst e
      rw [upN_same, Nat.testBit_or, Bool.or_eq_true, h.cl a ha, bitN_nat]
      omega
    · rw [upN_other _ _ _ _ e, h.cl a ha]
      omega
/-- one that is told nothing -/
theorem Cb.miss (h : Cb n s by_ lf pl c) (i : Nat) (hi : i < n) (q : ¬ (lf = true ∧ ¬ by_ < n)) : Cb n s by_ lf pl (c.clm i) := by
  have es : c.src i = 0 := by rw [h.src i hi, if_neg q]
  have eb : bitN ((0 : Nat) : Int) = 0 := by decide +kernel
  have e : c.clm i = { c with pu := anN c.pu 0, cl := upN c.cl i (c.cl i ||| 0) } := by
    unfold IV.clm
    rw [es, eb]
  have ok := h.ok.clm i
  rw [e] at ok ⊢
  have ep : anN c.pu 0 = c.pu := by
    apply set_ext (anN_lt _ _ h.ok.pu) h.ok.pu
    intro j hj
    rw [anN_at _ _ _ (by decide), Nat.zero_testBit]
    simp [hj]
  refine ⟨ok, h.nn, fun j => h.lv j, fun j => ?_, h.lff, fun a ha j => ?_, fun a ha j => h.le a ha j⟩
  · show (anN c.pu 0).testBit j = true ↔ _
    rw [ep]
    exact h.pu j
  · show (upN c.cl i (c.cl i ||| 0) a).testBit j = true ↔ _
    by_cases e : a = i
    · subst e
      rw [upN_same, Nat.or_zero]
      exact h.cl a ha j
    · rw [upN_other _ _ _ _ e]
      exact h.cl a ha j
/-- a completion -/
theorem Cb.comp (h : Cb n s by_ lf pl c) (i : Nat) (hi : i < n) (h1 : 1 ≤ s) (h2 : s < 32) : Cb n s (if by_ = i then n else by_) lf pl (c.cmp i s) := by
  refine ⟨h.ok.cmp i _, h.nn, fun j => h.lv j, fun j => h.pu j, h.lff, fun a ha j => ?_, fun a ha j => h.le a ha j⟩
  show (upN c.cl i (anN (c.cl i) (bitN ((s : Int) % 4294967296))) a).testBit j = true ↔ _
  rw [show (s : Int) % 4294967296 = s by omega]
  by_cases e : a = i
  · subst e
    rw [upN_same, anN_at _ _ _ (bitN_lt _)]
    simp only [Bool.and_eq_true, decide_eq_true_eq, Bool.not_eq_true', ← Bool.not_eq_true, h.cl a ha, bitN_nat]
    split <;> omega
  · rw [upN_other _ _ _ _ e, h.cl a ha]
    split <;> omega
end
end Go.Proofs.Ytmpldaenakenlaa
namespace Go.Proofs.Ytmpldaenakenlaa
open Go.RowKit
open C (Only hid Still ret_bool ret_int)
set_option linter.unusedVariables false
set_option maxRecDepth 100000

/-- the bits that are up, as far as source s -/
def upS (c : IV) : Nat → Nat
  | 0 => 0
  | s + 1 => if (c.lv.testBit s || c.pu.testBit s) = true then upS c s ||| 2 ^ s else upS c s
theorem upS_at (c : IV) (i : Nat) : ∀ s, (upS c s).testBit i = true ↔ i < s ∧ (c.lv.testBit i || c.pu.testBit i) = true
  | 0 => by
    show (0 : Nat).testBit i = true ↔ _
    rw [Nat.zero_testBit]
    constructor
    · intro h; cases h
    · omega
  | s + 1 => by
    unfold upS
    split
    · rename_i h
      rw [Nat.testBit_or, Bool.or_eq_true, upS_at c i s, pow_at]
      constructor
      · rintro (z | z)
        · exact ⟨by omega, z.2⟩
        · subst z; exact ⟨by omega, h⟩
      · rintro ⟨z1, z2⟩
        rcases Nat.lt_or_ge i s with y | y
        · exact .inl ⟨y, z2⟩
        · exact .inr (by omega)
    · rename_i h
      rw [upS_at c i s]
      constructor
      · rintro ⟨z1, z2⟩; exact ⟨by omega, z2⟩
      · rintro ⟨z1, z2⟩
        rcases Nat.lt_or_ge i s with y | y
        · exact ⟨y, z2⟩
        · obtain rfl : i = s := by omega
          exact absurd z2 h
theorem upS_lt (c : IV) : ∀ s, s ≤ 32 → upS c s < 4294967296
  | 0, _ => by show 0 < _; decide
  | s + 1, h => by
    have ih := upS_lt c s (by omega)
    have hp : (2 : Nat) ^ s ≤ 2 ^ 31 := Nat.pow_le_pow_right (by decide) (by omega)
    unfold upS
    split
    · exact or_lt ih (by omega)
    · exact ih
theorem upS_up {c : IV} (ok : IOk c) : upS c 32 = c.up := by
  apply set_ext (upS_lt c 32 (by omega)) (or_lt ok.lv ok.pu)
  intro i hi
  rw [Bool.eq_iff_iff, upS_at]
  show _ ↔ (c.lv ||| c.pu).testBit i = true
  rw [Nat.testBit_or]
  exact ⟨fun h => h.2, fun h => ⟨hi, h⟩⟩
theorem upS_1 {c : IV} (ok : IOk c) : upS c 1 = 0 := by
  unfold upS
  rw [ok.l0, ok.p0]
  rfl
set_option maxHeartbeats 4000000 in
theorem j_Read0 (w : World) (F : Nat → Prop) (q : Nat) (c : IV) (h : Jx w F q c) : Calls Try.prog 31 #[.pointer (some ⟨q, 0, none⟩), .int .u64 0, .int .i64 4] w fun e w' => e = .returned (.tuple #[.int .u64 (c.up : Int), .bool true]) ∧ w' = w := by
  obtain ⟨g, b, h1, ok, rb, hF⟩ := h
  have HJ := hid h1
  obtain ⟨U, hU⟩ : ∃ U : Int, U = (c.up : Int) := ⟨_, rfl⟩
  rw [← hU]
  have HU : Hid (U = (upS c 32 : Int)) := by rw [hU, upS_up ok]; exact rfl
  have H1 := hid (upS_1 ok)
  have HOr : Hid (∀ s : Nat, s < 32 → bits BinOp.or IntKind.u64 (upS c s : Int) (IntKind.u64.wrap (2 ^ s)) = ((upS c s ||| 2 ^ s : Nat) : Int)) := fun s hs => by
    have hp : (2 : Nat) ^ s ≤ 2 ^ 31 := Nat.pow_le_pow_right (by decide) (by omega)
    have ew : IntKind.u64.wrap (2 ^ s) = ((2 ^ s : Nat) : Int) := by
      rw [IntKind.wrap_u64, show (2 : Int) ^ s = ((2 ^ s : Nat) : Int) by simp]
      generalize 2 ^ s = z at *
      omega
    rw [ew]
    exact u64_or_nat _ _ (by have := upS_lt c s (by omega); omega) (by omega)
  clear h1 ok rb hF hU
  go_enter Try.func31, Try.ntmps31
  go_wp2_with fail
  go_loopw [8, 9] (fun v i wr => ∃ s : Nat, 1 ≤ s ∧ s ≤ 32 ∧ i = .int .i64 s ∧ v = .int .u64 (upS c s : Int) ∧ wr = w) (fun v i _ => 32 - (intOf i).toNat)
  case atStart => exact ⟨1, by omega, by omega, rfl, by rw [H1.out]; rfl, rfl⟩
  case round =>
    obtain ⟨s, hs1, hs, rfl, rfl, hw⟩ := hrel
    obtain rfl := hw.symm
    by_cases hlt : s < 32
    · have a1 := HJ.out.lv s hlt
      have a2 := HJ.out.pu s hlt
      have ho := HOr.out s hlt
      have hs32 : (s : Int) < 32 := by omega
      have eU : upS c (s + 1) = if (c.lv.testBit s || c.pu.testBit s) = true then upS c s ||| 2 ^ s else upS c s := rfl
      have HE := hid eU
      clear eU
      generalize hV : (upS c s : Int) = V at *
      generalize hZ : ((upS c s ||| 2 ^ s : Nat) : Int) = Z at *
      cases e1 : c.lv.testBit s <;> cases e2 : c.pu.testBit s <;> rw [e1] at a1 HE <;> rw [e2] at a2 HE
      · go_wp2
        go_roundw
        case rel => exact ⟨s + 1, by omega, by omega, by go_num, by rw [HE.out, ← hV]; rfl, trivial⟩
        case measure => simp [intOf]; omega
      all_goals
        go_wp2
        go_roundw
        case rel => exact ⟨s + 1, by omega, by omega, by go_num, by rw [HE.out, ← hZ]; rfl, trivial⟩
        case measure => simp [intOf]; omega
    · obtain rfl : s = 32 := by omega
      rw [← HU.out]
      go_wp2
      go_returns
      exact ⟨rfl, rfl⟩
set_option maxHeartbeats 4000000 in
theorem j_Read (w : World) (F : Nat → Prop) (q : Nat) (c : IV) (h : Jx w F q c) (o s : Int) (o0 : 0 ≤ o) (o1 : o < 18446744073709551616) (s0 : -9223372036854775808 ≤ s) (s1 : s ≤ 9223372036854775807) :
    Calls Try.prog 31 #[.pointer (some ⟨q, 0, none⟩), .int .u64 o, .int .i64 s] w fun e w' => e = .returned (.tuple #[.int .u64 (c.rd o s).1, .bool (c.rd o s).2.1]) ∧ Jx w' F q (c.rd o s).2.2 ∧ Only F w w' := by
  have H0 := hid h
  by_cases qs : s = 4
  · subst qs
    have hz := j_Read0 w F q c h
    obtain ⟨g, b, h1, ok, rb, hF⟩ := h
    rcases pl_cases c.n ok.n1 ok.n2 o o0 with ⟨rfl, f⟩ | ⟨n0, k, hk, p1, f⟩ | ⟨n0, p1, k, hk, p2, f⟩ | ⟨n0, p1, p2, f⟩
    · have e := (rd_eq (k := 0) rfl f).2.2 rfl
      rw [e]
      exact hz.mono fun e w' hh => ⟨hh.1, by rw [hh.2]; exact H0.out, by rw [hh.2]; exact .refl w⟩
    · have e := (rd_eq rfl f).1 rfl
      rw [e]
      have hp := j_place w q g c b h1 ok o 4096 o0 o1 (.inl rfl)
      rw [p1] at hp
      have cs := h1.sl
      have cl := h1.le k hk
      have hk' : (k : Int) < c.n := by omega
      have n2 := ok.n2
      clear h1 ok rb hF hz e f p1
      generalize (c.le k : Int) = L at *
      go_enter Try.func31, Try.ntmps31
      go_wp2_with (go_at_call 51; refine hp.mono ?_; rintro e w' ⟨rfl, hw⟩; obtain rfl := hw.symm)
      go_returns
      exact ⟨rfl, H0.out, .refl w⟩
    · have e := (rd_eq rfl f).2.1 rfl
      rw [e]
      have hp := j_place w q g c b h1 ok o 4096 o0 o1 (.inl rfl)
      have hp2 := j_place w q g c b h1 ok o 8192 o0 o1 (.inr rfl)
      rw [p1] at hp
      rw [p2] at hp2
      have hf := j_first w q g c b h1 ok rb k hk
      have n2 := ok.n2
      by_cases ez : c.src k = 0
      · rw [ez] at hf
        have hcl := clm_none ok k ez
        rw [ez, hcl]
        clear h1 ok rb hF hz e f p1 p2
        go_enter Try.func31, Try.ntmps31
        go_wp2_with (first
          | (go_at_call 51; (with_reducible refine hp.mono ?_); rintro e w' ⟨rfl, hw⟩; obtain rfl := hw.symm)
          | (go_at_call 51; (with_reducible refine hp2.mono ?_); rintro e w' ⟨rfl, hw⟩; obtain rfl := hw.symm)
          | (go_at_call 52; refine hf.mono ?_; rintro e w' ⟨rfl, hw⟩; obtain rfl := hw.symm))
        go_returns
        exact ⟨rfl, H0.out, .refl w⟩
      · obtain ⟨t, ht⟩ : ∃ t : Nat, c.src k = t := ⟨_, rfl⟩
        have t12 : 1 ≤ t ∧ t < 32 := by
          rcases src_spec ok k with ⟨z, _⟩ | ⟨z1, z2, _⟩ <;> omega
        obtain ⟨t1, t2⟩ := t12
        have rb' := rb_clm ok rb k t hk ht t1 t2
        rw [ht] at hf
        rw [ht]
        have a1 := h1.by t t2
        have z1 := h1.fq (64 + t)
        have a2 := h1.pu t t2
        have z2 := h1.fq (32 + t)
        have pu_at : ∀ i, (c.clm k).pu.testBit i = if i = t then false else c.pu.testBit i := fun i => by
          show (anN c.pu (bitN (c.src k))).testBit i = _
          rw [ht, anN_at _ _ _ (bitN_lt _)]
          by_cases y : i = t
          · subst y
            rw [(bitN_nat i i).2 ⟨t1, t2, rfl⟩]
            simp
          · have : (bitN (t : Int)).testBit i = false := by
              cases z : (bitN (t : Int)).testBit i
              · rfl
              · have := (bitN_nat t i).1 z; omega
            rw [this, if_neg y]
            rcases Nat.lt_or_ge i 32 with x | x
            · simp [x]
            · rw [high ok.pu x]; rfl
        have HP : Hid (Jx ((w.setCell ⟨q, 64 + t, none⟩ (.int .i64 k)).setCell ⟨q, 32 + t, none⟩ (.bool false)) F q (c.clm k) ∧ Only F w ((w.setCell ⟨q, 64 + t, none⟩ (.int .i64 k)).setCell ⟨q, 32 + t, none⟩ (.bool false))) := by
          have g1 : Jo (w.setCell ⟨q, 64 + t, none⟩ (.int .i64 k)) q g c (fun j => if j = t then (k : Int) else b j) := h1.put (64 + t) _ c _ (by omega) (by unfold jc; rw [if_neg (by omega), if_neg (by omega), if_pos (by omega)]; show Value.int .i64 (if 64 + t - 64 = t then (k : Int) else b (64 + t - 64)) = _; rw [if_pos (by omega)]) (fun j hj hn => by
            unfold jc
            split
            · rfl
            · split
              · rfl
              · split
                · show Value.int .i64 (if j - 64 = t then (k : Int) else b (j - 64)) = _
                  rw [if_neg (by omega)]
                · rfl) rfl
          have g2 : Jo ((w.setCell ⟨q, 64 + t, none⟩ (.int .i64 k)).setCell ⟨q, 32 + t, none⟩ (.bool false)) q g (c.clm k) (fun j => if j = t then (k : Int) else b j) := g1.put (32 + t) _ (c.clm k) _ (by omega) (by unfold jc; rw [if_neg (by omega), if_pos (by omega), pu_at, if_pos (by omega)]) (fun j hj hn => by
            unfold jc
            split
            · rfl
            · split
              · rw [pu_at, if_neg (by omega)]
              · rfl) rfl
          exact ⟨⟨g, _, g2, ok.clm k, rb', hF⟩, (((Only.refl w).setCell (.inl ((hF q).2 (.inl rfl))) _).setCell (.inl ((hF q).2 (.inl rfl))) _)⟩
        have tt : (t : Int) < 32 := by omega
        have tn : ((t : Int) != 0) = true := by simp; omega
        clear h1 ok rb hF hz e f p1 p2 rb' pu_at ez ht H0
        generalize c.clm k = vc at *
        go_enter Try.func31, Try.ntmps31
        go_wp2_with (first
          | (go_at_call 51; (with_reducible refine hp.mono ?_); rintro e w' ⟨rfl, hw⟩; obtain rfl := hw.symm)
          | (go_at_call 51; (with_reducible refine hp2.mono ?_); rintro e w' ⟨rfl, hw⟩; obtain rfl := hw.symm)
          | (go_at_call 52; refine hf.mono ?_; rintro e w' ⟨rfl, hw⟩; obtain rfl := hw.symm))
        go_returns
        exact ⟨rfl, HP.out.1, HP.out.2⟩
    · have e : c.rd o 4 = (0, false, c) := by unfold IV.rd; rw [if_pos f]
      rw [e]
      have hp := j_place w q g c b h1 ok o 4096 o0 o1 (.inl rfl)
      have hp2 := j_place w q g c b h1 ok o 8192 o0 o1 (.inr rfl)
      rw [p1] at hp
      rw [p2] at hp2
      clear h1 ok rb hF hz e f p1 p2
      go_enter Try.func31, Try.ntmps31
      go_wp2_with (first
        | (go_at_call 51; (with_reducible refine hp.mono ?_); rintro e w' ⟨rfl, hw⟩; obtain rfl := hw.symm)
        | (go_at_call 51; (with_reducible refine hp2.mono ?_); rintro e w' ⟨rfl, hw⟩; obtain rfl := hw.symm))
      go_returns
      exact ⟨rfl, H0.out, .refl w⟩
  · have e : c.rd o s = (0, false, c) := by unfold IV.rd; rw [if_pos (fd_size qs)]
    rw [e]
    clear h e
    go_enter Try.func31, Try.ntmps31
    go_wp2
    go_returns
    exact ⟨rfl, H0.out, .refl w⟩
set_option maxHeartbeats 4000000 in
theorem j_Write (w : World) (F : Nat → Prop) (q : Nat) (c : IV) (h : Jx w F q c) (o s x : Int) (o0 : 0 ≤ o) (o1 : o < 18446744073709551616) (s0 : -9223372036854775808 ≤ s) (s1 : s ≤ 9223372036854775807) (x0 : 0 ≤ x) (x1 : x < 18446744073709551616) :
    Calls Try.prog 33 #[.pointer (some ⟨q, 0, none⟩), .int .u64 o, .int .i64 s, .int .u64 x] w fun e w' => e = .returned (.bool (c.wr o s x).1) ∧ Jx w' F q (c.wr o s x).2 ∧ Only F w w' := by
  have H0 := hid h
  by_cases qs : s = 4
  · subst qs
    obtain ⟨g, b, h1, ok, rb, hF⟩ := h
    have n2 := ok.n2
    obtain ⟨X, hX⟩ : ∃ X : Int, X = x % 4294967296 := ⟨_, rfl⟩
    have X0 : 0 ≤ X := by omega
    have X1 : X < 4294967296 := by omega
    rcases pl_cases c.n ok.n1 ok.n2 o o0 with ⟨rfl, f⟩ | ⟨n0, k, hk, p1, f⟩ | ⟨n0, p1, k, hk, p2, f⟩ | ⟨n0, p1, p2, f⟩
    · have e := (wr_eq (k := 0) rfl f x).2.2 rfl
      rw [e]
      have hp := j_place w q g c b h1 ok 0 4096 (by decide) (by decide) (.inl rfl)
      have hp2 := j_place w q g c b h1 ok 0 8192 (by decide) (by decide) (.inr rfl)
      rw [show plN c.n 0 4096 = -1 by unfold plN; rw [if_pos (.inl (by decide))]] at hp
      rw [show plN c.n 0 8192 = -1 by unfold plN; rw [if_pos (.inl (by decide))]] at hp2
      clear h1 ok rb hF e f hX X0 X1
      go_enter Try.func33, Try.ntmps33
      go_wp2_with (first
        | (go_at_call 51; (with_reducible refine hp.mono ?_); rintro e w' ⟨rfl, hw⟩; obtain rfl := hw.symm)
        | (go_at_call 51; (with_reducible refine hp2.mono ?_); rintro e w' ⟨rfl, hw⟩; obtain rfl := hw.symm))
      go_ret
      exact ⟨rfl, H0.out, .refl w⟩
    · have e := (wr_eq rfl f x).1 rfl
      rw [e]
      have hp := j_place w q g c b h1 ok o 4096 o0 o1 (.inl rfl)
      rw [p1] at hp
      have cs := h1.sl
      have cl := h1.le k hk
      have zl := h1.fg k
      have hk' : (k : Int) < c.n := by omega
      have hv : ((X.toNat &&& 4294967294 : Nat) : Int) = X / 2 * 2 := by
        rw [ev_half _ (by omega)]
        omega
      have HP : Hid (Jx (w.setCell ⟨g, k, none⟩ (.int .u64 (X / 2 * 2))) F q (c.let k x) ∧ Only F w (w.setCell ⟨g, k, none⟩ (.int .u64 (X / 2 * 2)))) := by
        rw [← hv, hX]
        refine ⟨⟨g, b, ⟨(only_c w g k _).old h1.top h1.qg, setRowB w g k _ _ _ _ h1.tab (lec_set c k _ hk)⟩, ok.let k x, rb, hF⟩, (only_c w g k _).mono fun y _ z => (hF y).2 (.inr z)⟩
      clear h1 ok rb hF e f p1 hv
      generalize c.let k x = vc at *
      have hX2 := hX.symm
      clear hX
      go_enter Try.func33, Try.ntmps33
      go_wp2_with (go_at_call 51; refine hp.mono ?_; rintro e w' ⟨rfl, hw⟩; obtain rfl := hw.symm)
      go_ret
      exact ⟨rfl, HP.out.1, HP.out.2⟩
    · have e := (wr_eq rfl f x).2.1 rfl
      rw [e]
      have hp := j_place w q g c b h1 ok o 4096 o0 o1 (.inl rfl)
      have hp2 := j_place w q g c b h1 ok o 8192 o0 o1 (.inr rfl)
      rw [p1] at hp
      rw [p2] at hp2
      have hk' : (k : Int) < c.n := by omega
      have hX2 := hX.symm
      by_cases r : 1 ≤ X ∧ X ≤ 31
      · obtain ⟨t, ht⟩ : ∃ t : Nat, X = t := ⟨X.toNat, by omega⟩
        have t1 : 1 ≤ t := by omega
        have t2 : t < 32 := by omega
        have a1 := h1.by t t2
        have z1 := h1.fq (64 + t)
        have tt : (t : Int) ≤ 31 := by omega
        have tt1 : 1 ≤ (t : Int) := by omega
        rw [ht] at hX2
        obtain ⟨bi0, bi1⟩ := rb.in t t1 t2
        by_cases eb : b t = (k : Int)
        · have rb' := rb_cmp ok rb k t hk t1 t2 eb x hX2
          have HP : Hid (Jx (w.setCell ⟨q, 64 + t, none⟩ (.int .i64 (-1))) F q (c.cmp k x) ∧ Only F w (w.setCell ⟨q, 64 + t, none⟩ (.int .i64 (-1)))) := by
            have g1 : Jo (w.setCell ⟨q, 64 + t, none⟩ (.int .i64 (-1))) q g (c.cmp k x) (fun j => if j = t then -1 else b j) := h1.put (64 + t) _ (c.cmp k x) _ (by omega) (by unfold jc; rw [if_neg (by omega), if_neg (by omega), if_pos (by omega)]; show Value.int .i64 (if 64 + t - 64 = t then (-1 : Int) else b (64 + t - 64)) = _; rw [if_pos (by omega)]) (fun j hj hn => by
              unfold jc
              split
              · rfl
              · split
                · rfl
                · split
                  · show Value.int .i64 (if j - 64 = t then (-1 : Int) else b (j - 64)) = _
                    rw [if_neg (by omega)]
                  · rfl) rfl
            exact ⟨⟨g, _, g1, ok.cmp k x, rb', hF⟩, (only_c w q _ _).mono fun y _ z => (hF y).2 (.inl z)⟩
          rw [eb] at a1
          clear h1 ok rb hF e f p1 p2 rb' hX ht r X0 X1 H0
          generalize c.cmp k x = vc at *
          go_enter Try.func33, Try.ntmps33
          go_wp2_with (first
            | (go_at_call 51; (with_reducible refine hp.mono ?_); rintro e w' ⟨rfl, hw⟩; obtain rfl := hw.symm)
            | (go_at_call 51; (with_reducible refine hp2.mono ?_); rintro e w' ⟨rfl, hw⟩; obtain rfl := hw.symm))
          go_ret
          exact ⟨rfl, HP.out.1, HP.out.2⟩
        · rw [cmp_none ok rb k hk x (fun u hu _ _ => by
            obtain rfl : u = t := by omega
            exact eb) x0]
          have eb2 : (b t == (k : Int)) = false := by simp [eb]
          clear h1 ok rb hF e f p1 p2 hX ht r X0 X1
          go_enter Try.func33, Try.ntmps33
          go_wp2_with (first
            | (go_at_call 51; (with_reducible refine hp.mono ?_); rintro e w' ⟨rfl, hw⟩; obtain rfl := hw.symm)
            | (go_at_call 51; (with_reducible refine hp2.mono ?_); rintro e w' ⟨rfl, hw⟩; obtain rfl := hw.symm))
          go_ret
          exact ⟨rfl, H0.out, .refl w⟩
      · rw [cmp_none ok rb k hk x (fun u hu _ _ => by omega) x0]
        clear h1 ok rb hF e f p1 p2 hX
        by_cases r1 : 1 ≤ X
        · have r2 : ¬ X ≤ 31 := by omega
          go_enter Try.func33, Try.ntmps33
          go_wp2_with (first
            | (go_at_call 51; (with_reducible refine hp.mono ?_); rintro e w' ⟨rfl, hw⟩; obtain rfl := hw.symm)
            | (go_at_call 51; (with_reducible refine hp2.mono ?_); rintro e w' ⟨rfl, hw⟩; obtain rfl := hw.symm))
          go_ret
          exact ⟨rfl, H0.out, .refl w⟩
        · go_enter Try.func33, Try.ntmps33
          go_wp2_with (first
            | (go_at_call 51; (with_reducible refine hp.mono ?_); rintro e w' ⟨rfl, hw⟩; obtain rfl := hw.symm)
            | (go_at_call 51; (with_reducible refine hp2.mono ?_); rintro e w' ⟨rfl, hw⟩; obtain rfl := hw.symm))
          go_ret
          exact ⟨rfl, H0.out, .refl w⟩
    · have e : c.wr o 4 x = (false, c) := by unfold IV.wr; rw [if_pos f]
      rw [e]
      have hp := j_place w q g c b h1 ok o 4096 o0 o1 (.inl rfl)
      have hp2 := j_place w q g c b h1 ok o 8192 o0 o1 (.inr rfl)
      rw [p1] at hp
      rw [p2] at hp2
      clear h1 ok rb hF e f p1 p2 hX X0 X1
      go_enter Try.func33, Try.ntmps33
      go_wp2_with (first
        | (go_at_call 51; (with_reducible refine hp.mono ?_); rintro e w' ⟨rfl, hw⟩; obtain rfl := hw.symm)
        | (go_at_call 51; (with_reducible refine hp2.mono ?_); rintro e w' ⟨rfl, hw⟩; obtain rfl := hw.symm))
      go_ret
      exact ⟨rfl, H0.out, .refl w⟩
  · have e : c.wr o s x = (false, c) := by unfold IV.wr; rw [if_pos (fd_size qs)]
    rw [e]
    clear h e
    go_enter Try.func33, Try.ntmps33
    go_wp2
    go_ret
    exact ⟨rfl, H0.out, .refl w⟩
end Go.Proofs.Ytmpldaenakenlaa
namespace Go.Proofs.Ytmpldaenakenlaa
open Go.RowKit
open C (Only hid Still ret_bool ret_int)
set_option linter.unusedVariables false
set_option maxRecDepth 100000

def UV.dcells (v : UV) (a b : Value) : Array Value := #[a, b, .int .u8 (v.h 1), .int .u8 (v.h 2), .int .u8 (v.h 3), .int .u8 (v.h 4), .int .u8 (v.h 7), .int .u8 (v.d 0), .int .u8 (v.d 1), .bool v.ov, .bool v.em]
structure Do (w : World) (p : Nat) (a b : Value) (v : UV) : Prop where
  top : w.heap[p]? = some (.cells (v.dcells a b) 28 (0, 0))
  q : w.ownsRow 0 5 1 a v.q.length (bys v.q)
  s : w.ownsRow 0 5 1 b v.s.length (bys v.s)
  ab : ∀ k, Ug a k → ¬ Ug b k
/-- the document's, its blocks F -/
def Dx (w : World) (F : Nat → Prop) (p : Nat) (v : UV) : Prop := ∃ a b, Do w p a b v ∧ UOk v ∧ ∀ x, F x ↔ x = p ∨ Ug a x ∨ Ug b x
section
variable {w w1 w' : World} {p : Nat} {a b : Value} {v : UV} {F : Nat → Prop}
theorem Do.only (h : Do w p a b v) {T : Nat → Prop} (ho : Only T w w') (hp : ¬ T p) (ha : ∀ k, Ug a k → ¬ T k) (hb : ∀ k, Ug b k → ¬ T k) : Do w' p a b v :=
  ⟨ho.old h.top hp, own_only h.q ho ha, own_only h.s ho hb, h.ab⟩
theorem Do.put (h : Do w p a b v) (k : Nat) (u : Value) (v' : UV) (hq : v'.q = v.q) (hs : v'.s = v.s) (hc : (v.dcells a b).setIfInBounds k u = v'.dcells a b) : Do (w.setCell ⟨p, k, none⟩ u) p a b v' :=
  ⟨setRowB w p k _ _ _ _ h.top hc, by rw [hq]; exact own_only h.q (only_c w p k u) (own_ne h.q h.top (by decide)), by rw [hs]; exact own_only h.s (only_c w p k u) (own_ne h.s h.top (by decide)), h.ab⟩
theorem Do.newq (h : Do w p a b v) (a' : Value) (l : List Int) (ho : w1.ownsRow 0 5 1 a' l.length (bys l)) (hg : Only (Ug a) w w1) (hb : ∀ k, Ug a' k → Ug a k ∨ w.heap.size ≤ k) : Do (w1.setCell ⟨p, 0, none⟩ a') p a' b { v with q := l } := by
  have t1 := hg.old h.top fun z => own_ne h.q h.top (by decide) p z rfl
  have s1 := own_only h.s hg fun k hk z => h.ab k z hk
  refine ⟨setRowB w1 p 0 _ _ _ _ t1 rfl, own_only ho (only_c w1 p 0 a') (own_ne ho t1 (by decide)), own_only s1 (only_c w1 p 0 a') (own_ne s1 t1 (by decide)), fun k hk z => ?_⟩
  rcases hb k hk with y | y
  · exact h.ab k y z
  · have := own_lt h.s k z; omega
theorem Do.news (h : Do w p a b v) (b' : Value) (l : List Int) (ho : w1.ownsRow 0 5 1 b' l.length (bys l)) (hg : Only (Ug b) w w1) (hb : ∀ k, Ug b' k → Ug b k ∨ w.heap.size ≤ k) : Do (w1.setCell ⟨p, 1, none⟩ b') p a b' { v with s := l } := by
  have t1 := hg.old h.top fun z => own_ne h.s h.top (by decide) p z rfl
  have s1 := own_only h.q hg fun k hk z => h.ab k hk z
  refine ⟨setRowB w1 p 1 _ _ _ _ t1 rfl, own_only s1 (only_c w1 p 1 b') (own_ne s1 t1 (by decide)), own_only ho (only_c w1 p 1 b') (own_ne ho t1 (by decide)), fun k hk z => ?_⟩
  rcases hb k z with y | y
  · exact h.ab k hk y
  · have := own_lt h.q k hk; omega
theorem Dx.mk (hF : ∀ x, F x ↔ x = p ∨ Ug a x ∨ Ug b x) {a' b' : Value} {v' : UV} (h' : Do w' p a' b' v') (ok : UOk v') (ho : Only (fun x => x = p ∨ Ug a x ∨ Ug b x) w w') (ha : ∀ k, Ug a' k → Ug a k ∨ w.heap.size ≤ k) (hb : ∀ k, Ug b' k → Ug b k ∨ w.heap.size ≤ k) : ∃ F', Dx w' F' p v' ∧ Tn w w' F F' := by
  refine ⟨fun x => x = p ∨ Ug a' x ∨ Ug b' x, ⟨a', b', h', ok, fun x => Iff.rfl⟩, ho.mono fun k _ z => (hF k).2 z, ?_⟩
  rintro x (z | z | z)
  · exact .inl ((hF x).2 (.inl z))
  · exact (ha x z).imp (fun y => (hF x).2 (.inr (.inl y))) id
  · exact (hb x z).imp (fun y => (hF x).2 (.inr (.inr y))) id
theorem Dx.only (h : Dx w F p v) {T : Nat → Prop} (ho : Only T w w') (hd : ∀ x, F x → ¬ T x) : Dx w' F p v := by
  obtain ⟨a, b, h1, ok, hF⟩ := h
  exact ⟨a, b, h1.only ho (hd p ((hF p).2 (.inl rfl))) (fun k hk => hd k ((hF k).2 (.inr (.inl hk)))) (fun k hk => hd k ((hF k).2 (.inr (.inr hk)))), ok, hF⟩
theorem Dx.lt (h : Dx w F p v) {x : Nat} (hx : F x) : x < w.heap.size := by
  obtain ⟨a, b, h1, ok, hF⟩ := h
  rcases (hF x).1 hx with z | z | z
  · subst z; exact lt_of_block h1.top
  · exact own_lt h1.q x z
  · exact own_lt h1.s x z
end
section
variable {w : World} {p : Nat} {a b : Value} {v : UV} {F : Nat → Prop}
theorem Do.c0 (h : Do w p a b v) : w.cell? ⟨p, 0, none⟩ = some (a) := cell_of_row w p 0 _ _ _ h.top
theorem Do.c1 (h : Do w p a b v) : w.cell? ⟨p, 1, none⟩ = some (b) := cell_of_row w p 1 _ _ _ h.top
theorem Do.c2 (h : Do w p a b v) : w.cell? ⟨p, 2, none⟩ = some (.int .u8 (v.h 1)) := cell_of_row w p 2 _ _ _ h.top
theorem Do.c3 (h : Do w p a b v) : w.cell? ⟨p, 3, none⟩ = some (.int .u8 (v.h 2)) := cell_of_row w p 3 _ _ _ h.top
theorem Do.c4 (h : Do w p a b v) : w.cell? ⟨p, 4, none⟩ = some (.int .u8 (v.h 3)) := cell_of_row w p 4 _ _ _ h.top
theorem Do.c5 (h : Do w p a b v) : w.cell? ⟨p, 5, none⟩ = some (.int .u8 (v.h 4)) := cell_of_row w p 5 _ _ _ h.top
theorem Do.c6 (h : Do w p a b v) : w.cell? ⟨p, 6, none⟩ = some (.int .u8 (v.h 7)) := cell_of_row w p 6 _ _ _ h.top
theorem Do.c7 (h : Do w p a b v) : w.cell? ⟨p, 7, none⟩ = some (.int .u8 (v.d 0)) := cell_of_row w p 7 _ _ _ h.top
theorem Do.c8 (h : Do w p a b v) : w.cell? ⟨p, 8, none⟩ = some (.int .u8 (v.d 1)) := cell_of_row w p 8 _ _ _ h.top
theorem Do.c9 (h : Do w p a b v) : w.cell? ⟨p, 9, none⟩ = some (.bool v.ov) := cell_of_row w p 9 _ _ _ h.top
theorem Do.c10 (h : Do w p a b v) : w.cell? ⟨p, 10, none⟩ = some (.bool v.em) := cell_of_row w p 10 _ _ _ h.top
theorem Do.fz (h : Do w p a b v) (k : Nat) : w.frozen? ⟨p, k, none⟩ = false := frozen_of_row w p k _ _ h.top
theorem Do.one (h : Do w p a b v) (hF : ∀ x, F x ↔ x = p ∨ Ug a x ∨ Ug b x) (k : Nat) (u : Value) (v' : UV) (ok : UOk v') (hq : v'.q = v.q) (hs : v'.s = v.s) (hc : (v.dcells a b).setIfInBounds k u = v'.dcells a b) : ∃ F', Dx (w.setCell ⟨p, k, none⟩ u) F' p v' ∧ Tn w (w.setCell ⟨p, k, none⟩ u) F F' :=
  Dx.mk hF (h.put k u v' hq hs hc) ok ((only_c w p k u).mono fun x _ z => .inl z) (fun k hk => .inl hk) fun k hk => .inl hk
end
theorem bb4 : ∀ x : Fin 256, (((x.val : Int) / 4).tmod 2 == 1) = bt (x.val : Int) 4 ∧ (((x.val : Int)).tmod 2 == 1) = bt (x.val : Int) 1 ∧ (((x.val : Int) / 2).tmod 2 == 1) = bt (x.val : Int) 2 ∧ (((x.val : Int) / 2).tmod 2 == 0) = (!bt (x.val : Int) 2) ∧ decide (128 ≤ (x.val : Int)) = bt (x.val : Int) 128 := by decide +kernel
theorem bb4' : ∀ x : Fin 256, (((x.val : Int) / 4) % 2 == 1) = bt (x.val : Int) 4 ∧ (((x.val : Int)) % 2 == 1) = bt (x.val : Int) 1 ∧ (((x.val : Int) / 2) % 2 == 1) = bt (x.val : Int) 2 ∧ (((x.val : Int) / 2) % 2 == 0) = (!bt (x.val : Int) 2) := by decide +kernel
theorem cb {x : Int} (h : Byt x) : ((x / 4).tmod 2 == 1) = bt x 4 ∧ (x.tmod 2 == 1) = bt x 1 ∧ ((x / 2).tmod 2 == 1) = bt x 2 ∧ ((x / 2).tmod 2 == 0) = (!bt x 2) ∧ decide (128 ≤ x) = bt x 128 := by obtain ⟨y, rfl⟩ := byt_fin h; exact bb4 y
theorem cb' {x : Int} (h : Byt x) : ((x / 4) % 2 == 1) = bt x 4 ∧ (x % 2 == 1) = bt x 1 ∧ ((x / 2) % 2 == 1) = bt x 2 ∧ ((x / 2) % 2 == 0) = (!bt x 2) := by obtain ⟨y, rfl⟩ := byt_fin h; exact bb4' y
theorem d_cause (w : World) (p : Nat) (a b : Value) (v : UV) (h : Do w p a b v) (ok : UOk v) : Calls Try.prog 44 #[.pointer (some ⟨p, 0, none⟩)] w fun e w' => e = .returned (.int .u8 v.cau) ∧ w' = w := by
  have c0 := h.c0
  have c2 := h.c2
  have c9 := h.c9
  have c10 := h.c10
  obtain ⟨ad, cp, rfl⟩ := own_form h.q
  obtain ⟨k1, k2, k3, -, -⟩ := cb (ok.h 1)
  obtain ⟨k1', k2', k3', -⟩ := cb' (ok.h 1)
  obtain ⟨b0, b1⟩ := ok.h 1
  have hl := ok.l
  clear h ok
  have HC : Hid (v.cau = if v.ov && bt (v.h 1) 4 then 6 else if decide (0 < v.q.length) && bt (v.h 1) 1 then 4 else if v.em && bt (v.h 1) 2 then 2 else 1) := rfl
  generalize v.cau = c at *
  generalize v.ov = ov at *
  generalize v.em = em at *
  generalize v.h 1 = x at *
  generalize v.q.length = n at *
  clear v
  generalize bt x 4 = b4 at *
  generalize bt x 1 = b1' at *
  generalize bt x 2 = b2 at *
  by_cases hn : 0 < n
  · cases ov
    · cases b1'
      · cases em
        · (go_enter Try.func44, Try.ntmps44; go_wp2; go_ret; refine ⟨ret_int ?_, rfl⟩; rw [HC.out]; simp [hn])
        · cases b2
          · (go_enter Try.func44, Try.ntmps44; go_wp2; go_ret; refine ⟨ret_int ?_, rfl⟩; rw [HC.out]; simp [hn])
          · (go_enter Try.func44, Try.ntmps44; go_wp2; go_ret; refine ⟨ret_int ?_, rfl⟩; rw [HC.out]; simp [hn])
      · (go_enter Try.func44, Try.ntmps44; go_wp2; go_ret; refine ⟨ret_int ?_, rfl⟩; rw [HC.out]; simp [hn])
    · cases b4
      · cases b1'
        · cases em
          · (go_enter Try.func44, Try.ntmps44; go_wp2; go_ret; refine ⟨ret_int ?_, rfl⟩; rw [HC.out]; simp [hn])
          · cases b2
            · (go_enter Try.func44, Try.ntmps44; go_wp2; go_ret; refine ⟨ret_int ?_, rfl⟩; rw [HC.out]; simp [hn])
            · (go_enter Try.func44, Try.ntmps44; go_wp2; go_ret; refine ⟨ret_int ?_, rfl⟩; rw [HC.out]; simp [hn])
        · (go_enter Try.func44, Try.ntmps44; go_wp2; go_ret; refine ⟨ret_int ?_, rfl⟩; rw [HC.out]; simp [hn])
      · (go_enter Try.func44, Try.ntmps44; go_wp2; go_ret; refine ⟨ret_int ?_, rfl⟩; rw [HC.out]; simp)
  · cases ov
    · cases em
      · (go_enter Try.func44, Try.ntmps44; go_wp2; go_ret; refine ⟨ret_int ?_, rfl⟩; rw [HC.out]; simp [hn])
      · cases b2
        · (go_enter Try.func44, Try.ntmps44; go_wp2; go_ret; refine ⟨ret_int ?_, rfl⟩; rw [HC.out]; simp [hn])
        · (go_enter Try.func44, Try.ntmps44; go_wp2; go_ret; refine ⟨ret_int ?_, rfl⟩; rw [HC.out]; simp [hn])
    · cases b4
      · cases em
        · (go_enter Try.func44, Try.ntmps44; go_wp2; go_ret; refine ⟨ret_int ?_, rfl⟩; rw [HC.out]; simp [hn])
        · cases b2
          · (go_enter Try.func44, Try.ntmps44; go_wp2; go_ret; refine ⟨ret_int ?_, rfl⟩; rw [HC.out]; simp [hn])
          · (go_enter Try.func44, Try.ntmps44; go_wp2; go_ret; refine ⟨ret_int ?_, rfl⟩; rw [HC.out]; simp [hn])
      · (go_enter Try.func44, Try.ntmps44; go_wp2; go_ret; refine ⟨ret_int ?_, rfl⟩; rw [HC.out]; simp)
theorem d_Irq (w : World) (F : Nat → Prop) (p : Nat) (v : UV) (h : Dx w F p v) : Calls Try.prog 21 #[.pointer (some ⟨p, 0, none⟩)] w fun e w' => e = .returned (.bool (v.cau != 1)) ∧ w' = w := by
  obtain ⟨a, b, h1, ok, hF⟩ := h
  have hc := d_cause w p a b v h1 ok
  obtain ⟨b0, b1⟩ := cau_in v
  clear h1 ok hF
  generalize v.cau = c at *
  go_enter Try.func21, Try.ntmps21
  go_wp2_with (go_at_call 44; refine hc.mono ?_; rintro e w' ⟨rfl, hw⟩; obtain rfl := hw.symm)
  go_ret
  exact ⟨rfl, rfl⟩
theorem d_In (w : World) (F : Nat → Prop) (p : Nat) (v : UV) (x : Int) (h : Dx w F p v) (hx : Byt x) : Calls Try.prog 19 #[.pointer (some ⟨p, 0, none⟩), .int .u8 x] w fun e w' => e = .returned (.tuple #[]) ∧ ∃ F', Dx w' F' p (v.inn x) ∧ Tn w w' F F' := by
  obtain ⟨a, b, h1, ok, hF⟩ := h
  have c0 := h1.c0
  have z0 := h1.fz 0
  have c12 := h1.c9
  have z12 := h1.fz 9
  obtain ⟨ad, cp, rfl⟩ := own_form h1.q
  have hl := ok.l
  have H := hid h1
  have OK := hid ok
  have HF := hid hF
  have HX := hid hx
  clear h1 ok hF hx
  by_cases q : v.q.length = 16
  · have e1 : v.inn x = { v with ov := true } := by unfold UV.inn; rw [if_pos q]
    rw [e1]
    go_enter Try.func19, Try.ntmps19
    go_wp2
    go_returns
    exact ⟨rfl, H.out.one HF.out 9 _ { v with ov := true } ⟨OK.out.h, OK.out.d, OK.out.l, OK.out.q, OK.out.s⟩ rfl rfl rfl⟩
  · have e1 : v.inn x = { v with q := v.q ++ [x] } := by unfold UV.inn; rw [if_neg q]
    rw [e1]
    obtain ⟨i0, hi0, hz0, hz1, hz2⟩ := info_parts info_u8
    have HN := hid (one_cell w (.int .u8 x) 5)
    have HL := hid (own_below H.out.q ((Below.refl _ _).alloc (Nat.le_refl _) (.cells #[.int .u8 x] 5)))
    have hltp := lt_of_block H.out.top
    have HZ : Hid (∀ w3, (w.alloc (.cells #[.int .u8 x] 5)).grownBy w3 (Value.slice ad v.q.length cp).ownBlock → w3.heap[p]? = w.heap[p]? ∧ Only (Ug (.slice ad v.q.length cp)) w w3) := fun w3 hg =>
      ⟨(grew hg).block p hltp fun z => own_ne H.out.q H.out.top (by decide) p z rfl, grew hg⟩
    go_enter Try.func19, Try.ntmps19
    go_wp2_with (at_builtin; refine wpList_append_blk _ (.tmp 17) (.tmp 19) 26 rfl 5 i0 (.int .u8 0) 1 1 u_su8 hi0 hz0 hz1 hz2 rfl (by decide) (.slice ad v.q.length cp) v.q.length (bys v.q) rfl HL.out ⟨w.heap.size, 0, none⟩ 1 1 [.int .u8 x] rfl rfl HN.out (by intro u hu; simp at hu; subst hu; rfl) (show v.q.length + 1 ≤ 9223372036854775807 by omega) (by omega) rfl ?_; intro u' w3 hown hgrow hblk; obtain ⟨ad2, cp2, rfl⟩ := own_form hown; have HO3 := hid hown; have HG3 := hid (HZ.out w3 hgrow); have HB3 := hid hblk; have y4 : w3.cell? ⟨p, 0, none⟩ = some (.slice ad v.q.length cp) := (World.cell?_of_block (w := w) HG3.out.1).trans c0; have y8 : w3.frozen? ⟨p, 0, none⟩ = false := (World.frozen?_of_block (w := w) HG3.out.1).trans z0; clear hown hgrow hblk)
    go_returns
    refine ⟨rfl, ?_⟩
    have o3 := HO3.out
    rw [bys_app] at o3
    have hb : ∀ k, Ug (.slice ad2 (v.q.length + 1) cp2) k → Ug (.slice ad v.q.length cp) k ∨ w.heap.size ≤ k := fun k hk => (HB3.out k hk).imp id fun z => by simp at z; omega
    exact Dx.mk HF.out (H.out.newq _ (v.q ++ [x]) (by simpa using o3) HG3.out.2 hb) ⟨OK.out.h, OK.out.d, by simp; omega, fun y hy => by
      rcases List.mem_append.1 hy with z | z
      · exact OK.out.q y z
      · rw [List.mem_singleton.1 z]; exact HX.out, OK.out.s⟩ ((HG3.out.2.mono fun k _ z => .inr (.inl z)).setCell (.inl (.inl rfl)) _) hb fun k hk => .inl hk
end Go.Proofs.Ytmpldaenakenlaa
