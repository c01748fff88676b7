/- What a controller could tell, source by source; PlatLets' words. -/
import Derived.Test.YtmpldaenakenlaaMH2
namespace Go.Proofs.Ytmpldaenakenlaa
open Go.RowKit
open C (Only hid Still ret_bool ret_int)
set_option linter.unusedVariables false
set_option maxRecDepth 100000

theorem orN_at (c : Nat → Nat) (i : Nat) : ∀ n, (orN c n).testBit i = true ↔ ∃ k, k < n ∧ (c k).testBit i = true
  | 0 => by
    show (0 : Nat).testBit i = true ↔ _
    rw [Nat.zero_testBit]
    constructor
    · intro h; cases h
    · rintro ⟨k, h, _⟩; omega
  | n + 1 => by
    show (orN c n ||| c n).testBit i = true ↔ _
    rw [Nat.testBit_or, Bool.or_eq_true, orN_at c i n]
    constructor
    · rintro (⟨k, h1, h2⟩ | h)
      · exact ⟨k, by omega, h2⟩
      · exact ⟨n, by omega, h⟩
    · rintro ⟨k, h1, h2⟩
      rcases Nat.lt_or_ge k n with z | z
      · exact .inl ⟨k, z, h2⟩
      · obtain rfl : k = n := by omega
        exact .inr h2
def IV.isUp (v : IV) (i : Nat) : Prop := v.lv.testBit i = true ∨ v.pu.testBit i = true
def IV.isCl (v : IV) (i : Nat) : Prop := ∃ k, k < v.n ∧ (v.cl k).testBit i = true
theorem opn_at {v : IV} (ok : IOk v) (h i : Nat) : (v.opn h).testBit i = true ↔ v.isUp i ∧ ¬ v.isCl i ∧ (v.le h).testBit i = true := by
  unfold IV.opn IV.up IV.isUp IV.isCl
  rw [Nat.testBit_and, anN_at _ _ _ (orN_lt ok.cl _), Nat.testBit_or]
  simp only [Bool.and_eq_true, Bool.or_eq_true, decide_eq_true_eq, Bool.not_eq_true', ← Bool.not_eq_true, orN_at]
  constructor
  · rintro ⟨⟨h1, h2, h3⟩, h4⟩; exact ⟨h1, h3, h4⟩
  · rintro ⟨h1, h3, h4⟩
    refine ⟨⟨h1, ?_, h3⟩, h4⟩
    rcases Nat.lt_or_ge i 32 with z | z
    · exact z
    · rw [high (ok.le h) z] at h4; cases h4
theorem opn_0 {v : IV} (ok : IOk v) (h : Nat) : (v.opn h).testBit 0 = false := by
  cases e : (v.opn h).testBit 0
  · rfl
  · rcases ((opn_at ok h 0).1 e).1 with z | z
    · rw [ok.l0] at z; cases z
    · rw [ok.p0] at z; cases z
/-- the source that is claimed, told by what it is -/
theorem src_spec {v : IV} (ok : IOk v) (h : Nat) : (v.src h = 0 ∧ v.opn h = 0) ∨ (1 ≤ v.src h ∧ v.src h < 32 ∧ (v.opn h).testBit (v.src h) = true ∧ ∀ i, i < v.src h → (v.opn h).testBit i = false) := by
  have isI : ∀ i, isIn (v.opn h) i = (v.opn h).testBit i := fun i => by
    unfold isIn
    rcases Nat.eq_zero_or_pos i with z | z
    · subst z; rw [opn_0 ok]; rfl
    · rw [show decide (1 ≤ i) = true by simp; omega, Bool.true_and]
  rcases lowest_spec (v.opn h) with ⟨h1, h2⟩ | ⟨h1, h2, h3, h4⟩
  · left
    refine ⟨h1, ?_⟩
    apply set_ext (IV.opn_lt ok h) (by decide)
    intro i hi
    rw [← isI, h2 i hi, Nat.zero_testBit]
  · right
    exact ⟨h1, h2, by rw [← isI]; exact h3, fun i hi => by rw [← isI]; exact h4 i hi⟩
theorem src_is {v : IV} (ok : IOk v) (h s : Nat) (h1 : (v.opn h).testBit s = true) (h2 : ∀ i, i < s → (v.opn h).testBit i = false) : v.src h = s := by
  rcases src_spec ok h with ⟨_, z⟩ | ⟨z1, z2, z3, z4⟩
  · rw [z, Nat.zero_testBit] at h1; cases h1
  · rcases Nat.lt_trichotomy (v.src h) s with y | y | y
    · rw [h2 _ y] at z3; cases z3
    · exact y
    · rw [z4 _ y] at h1; cases h1
theorem src_none {v : IV} (ok : IOk v) (h : Nat) (h1 : v.opn h = 0) : v.src h = 0 := by
  rcases src_spec ok h with ⟨z, _⟩ | ⟨z1, z2, z3, z4⟩
  · exact z
  · rw [h1, Nat.zero_testBit] at z3; cases z3
theorem bitN_nat (s i : Nat) : (bitN (s : Int)).testBit i = true ↔ 1 ≤ s ∧ s < 32 ∧ s = i := by
  rw [bitN_at]
  simp only [decide_eq_true_eq]
  omega
theorem clm_cl {v : IV} (k i : Nat) (hk : k < v.n) : (v.clm k).isCl i ↔ v.isCl i ∨ (bitN (v.src k : Int)).testBit i = true := by
  unfold IV.isCl
  show (∃ j, j < v.n ∧ (upN v.cl k (v.cl k ||| bitN (v.src k)) j).testBit i = true) ↔ _
  constructor
  · rintro ⟨j, h1, h2⟩
    by_cases e : j = k
    · subst e
      rw [upN_same, Nat.testBit_or, Bool.or_eq_true] at h2
      exact h2.imp (fun z => ⟨j, h1, z⟩) id
    · rw [upN_other _ _ _ _ e] at h2
      exact .inl ⟨j, h1, h2⟩
  · rintro (⟨j, h1, h2⟩ | h)
    · by_cases e : j = k
      · subst e
        exact ⟨j, h1, by rw [upN_same, Nat.testBit_or, h2]; rfl⟩
      · exact ⟨j, h1, by rw [upN_other _ _ _ _ e]; exact h2⟩
    · exact ⟨k, hk, by rw [upN_same, Nat.testBit_or, h, Bool.or_true]⟩
theorem clm_up {v : IV} (ok : IOk v) (k i : Nat) : (v.clm k).isUp i ↔ v.lv.testBit i = true ∨ (v.pu.testBit i = true ∧ ¬ (bitN (v.src k : Int)).testBit i = true) := by
  unfold IV.isUp
  show v.lv.testBit i = true ∨ (anN v.pu (bitN (v.src k))).testBit i = true ↔ _
  rw [anN_at _ _ _ (bitN_lt _)]
  simp only [Bool.and_eq_true, decide_eq_true_eq, Bool.not_eq_true', ← Bool.not_eq_true]
  constructor
  · rintro (z | ⟨z1, z2, z3⟩)
    · exact .inl z
    · exact .inr ⟨z1, z3⟩
  · rintro (z | ⟨z1, z3⟩)
    · exact .inl z
    · refine .inr ⟨z1, ?_, z3⟩
      rcases Nat.lt_or_ge i 32 with z | z
      · exact z
      · rw [high ok.pu z] at z1; cases z1
theorem clm_opn {v : IV} (ok : IOk v) (k h i : Nat) (hk : k < v.n) : ((v.clm k).opn h).testBit i = true ↔ (v.opn h).testBit i = true ∧ i ≠ v.src k := by
  rw [opn_at (ok.clm k), opn_at ok, clm_cl k i hk, clm_up ok]
  show _ ∧ _ ∧ (v.le h).testBit i = true ↔ _
  unfold IV.isUp
  have e0 : ∀ i, v.src k = i → (v.lv.testBit i = true ∨ v.pu.testBit i = true) → (bitN (v.src k : Int)).testBit i = true := fun i hi hu => by
    rw [bitN_nat]
    rcases src_spec ok k with ⟨z, _⟩ | ⟨z1, z2, _⟩
    · rw [z] at hi
      subst hi
      rw [ok.l0, ok.p0] at hu
      rcases hu with y | y <;> cases y
    · omega
  constructor
  · rintro ⟨h1, h2, h3⟩
    have hb : ¬ (bitN (v.src k : Int)).testBit i = true := fun z => h2 (.inr z)
    have hu : v.lv.testBit i = true ∨ v.pu.testBit i = true := h1.imp id fun z => z.1
    exact ⟨⟨hu, fun z => h2 (.inl z), h3⟩, fun z => hb (e0 i z.symm hu)⟩
  · rintro ⟨⟨h1, h2, h3⟩, h4⟩
    have hb : ¬ (bitN (v.src k : Int)).testBit i = true := fun z => by rw [bitN_nat] at z; omega
    exact ⟨h1.imp id fun z => ⟨z, hb⟩, fun z => z.elim h2 hb, h3⟩
theorem opn_ne (v : IV) (h : Nat) : (v.opn h != 0) = decide (v.opn h ≠ 0) := by rw [Bool.eq_iff_iff]; simp
end Go.Proofs.Ytmpldaenakenlaa
namespace Go.Proofs.Ytmpldaenakenlaa
open Go.RowKit
open C (Only hid Still ret_bool ret_int)
set_option linter.unusedVariables false
set_option maxRecDepth 100000

theorem ev_at (i : Nat) : (4294967294 : Nat).testBit i = true ↔ 1 ≤ i ∧ i < 32 := by
  rcases Nat.lt_or_ge i 32 with z | z
  · have : ∀ k : Fin 32, (4294967294 : Nat).testBit k.val = decide (1 ≤ k.val) := by decide +kernel
    have h := this ⟨i, z⟩
    simp only at h
    rw [h]
    simp
    omega
  · rw [high (by decide) z]
    constructor
    · intro h; cases h
    · omega
theorem ev_lt (x : Nat) : x &&& 4294967294 < 4294967296 := by
  have : x &&& 4294967294 ≤ 4294967294 := Nat.and_le_right
  omega
theorem mod_at (x i : Nat) (hi : i < 32) : (x % 4294967296).testBit i = x.testBit i := by
  have := Nat.testBit_mod_two_pow x 32 i
  rw [show (2 : Nat) ^ 32 = 4294967296 by decide] at this
  rw [this]
  simp [hi]
/-- levels as far as source s -/
structure LV (u m o s : Nat) (c : IV) : Prop where
  ok : IOk c
  n : c.n = 2
  pu : c.pu = 0
  cl : ∀ i, c.cl i = 0
  e0 : c.le 0 = m % 4294967296 &&& 4294967294
  e1 : c.le 1 = o % 4294967296 &&& 4294967294
  lv : ∀ i, c.lv.testBit i = true ↔ u.testBit i = true ∧ 1 ≤ i ∧ i < 32 ∧ i < s
theorem LV.next {u m o s : Nat} {c : IV} (h : LV u m o s c) (hs : s < 32) : LV u m o (s + 1) (c.lev s (u.testBit s)) := by
  refine ⟨h.ok.lev _ _, h.n, h.pu, h.cl, h.e0, h.e1, fun i => ?_⟩
  show (if u.testBit s then anN c.lv (bitN s) ||| bitN s else anN c.lv (bitN s)).testBit i = true ↔ _
  have ha : (anN c.lv (bitN (s : Int))).testBit i = true ↔ u.testBit i = true ∧ 1 ≤ i ∧ i < 32 ∧ i < s := by
    rw [anN_at _ _ _ (bitN_lt _)]
    simp only [Bool.and_eq_true, decide_eq_true_eq, Bool.not_eq_true', ← Bool.not_eq_true, h.lv, bitN_nat]
    generalize u.testBit i = b
    cases b
    · simp
    · simp; omega
  cases e : u.testBit s
  · rw [if_neg (by decide), ha]
    constructor
    · rintro ⟨z1, z2, z3, z4⟩; exact ⟨z1, z2, z3, by omega⟩
    · rintro ⟨z1, z2, z3, z4⟩
      refine ⟨z1, z2, z3, ?_⟩
      rcases Nat.lt_or_ge i s with y | y
      · exact y
      · obtain rfl : i = s := by omega
        rw [e] at z1; cases z1
  · rw [if_pos rfl, Nat.testBit_or, Bool.or_eq_true, ha, bitN_nat]
    constructor
    · rintro (z | z)
      · exact ⟨z.1, z.2.1, z.2.2.1, by omega⟩
      · obtain ⟨z1, z2, rfl⟩ := z
        exact ⟨e, by omega, z2, by omega⟩
    · rintro ⟨z1, z2, z3, z4⟩
      rcases Nat.lt_or_ge i s with y | y
      · exact .inl ⟨z1, z2, z3, y⟩
      · obtain rfl : i = s := by omega
        exact .inr ⟨z2, z3, rfl⟩
theorem LV.up {u m o : Nat} {c : IV} (h : LV u m o 32 c) : c.up = u &&& 4294967294 := by
  unfold IV.up
  rw [h.pu, Nat.or_zero]
  apply set_ext h.ok.lv (ev_lt u)
  intro i hi
  rw [Bool.eq_iff_iff, h.lv, Nat.testBit_and, Bool.and_eq_true, ev_at]
  exact ⟨fun z => ⟨z.1, z.2.1, z.2.2.1⟩, fun z => ⟨z.1, z.2.1, z.2.2, z.2.2⟩⟩
theorem LV.opn {u m o : Nat} {c : IV} (h : LV u m o 32 c) (k x : Nat) (hk : c.le k = x % 4294967296 &&& 4294967294) : c.opn k = u &&& x &&& 4294967294 := by
  apply set_ext (IV.opn_lt h.ok k) (ev_lt _)
  intro i hi
  rw [Bool.eq_iff_iff, opn_at h.ok, hk, Nat.testBit_and, Nat.testBit_and, Nat.testBit_and, Bool.and_eq_true, Bool.and_eq_true, Bool.and_eq_true, ev_at, mod_at _ _ hi]
  unfold IV.isUp IV.isCl
  rw [h.lv, h.pu, Nat.zero_testBit]
  constructor
  · rintro ⟨z1, z2, z3, z4⟩
    rcases z1 with z1 | z1
    · exact ⟨⟨z1.1, z3⟩, z4⟩
    · cases z1
  · rintro ⟨⟨z1, z2⟩, z3⟩
    refine ⟨.inl ⟨z1, z3.1, z3.2, z3.2⟩, ?_, z2, z3⟩
    rintro ⟨j, _, y⟩
    rw [h.cl, Nat.zero_testBit] at y
    cases y
/-- what hart 0 has claimed as far as source s -/
structure LC (V s : Nat) (c : IV) : Prop where
  ok : IOk c
  n : c.n = 2
  op : ∀ i, (c.opn 0).testBit i = true ↔ V.testBit i = true ∧ s ≤ i
theorem LC.src {V s : Nat} {c : IV} (h : LC V s c) (hv : V.testBit s = true) : c.src 0 = s := by
  refine src_is h.ok 0 s ((h.op s).2 ⟨hv, Nat.le_refl _⟩) fun i hi => ?_
  cases e : (c.opn 0).testBit i
  · rfl
  · have := ((h.op i).1 e).2; omega
theorem LC.hit {V s : Nat} {c : IV} (h : LC V s c) (hv : V.testBit s = true) : LC V (s + 1) (c.clm 0) := by
  refine ⟨h.ok.clm 0, h.n, fun i => ?_⟩
  rw [clm_opn h.ok 0 0 i (by rw [h.n]; decide), h.op, h.src hv]
  exact ⟨fun z => ⟨z.1.1, by omega⟩, fun z => ⟨⟨z.1, by omega⟩, by omega⟩⟩
theorem LC.miss {V s : Nat} {c : IV} (h : LC V s c) (hv : V.testBit s = false) : LC V (s + 1) c := by
  refine ⟨h.ok, h.n, fun i => ?_⟩
  rw [h.op]
  constructor
  · rintro ⟨z1, z2⟩
    refine ⟨z1, ?_⟩
    rcases Nat.lt_or_ge s i with y | y
    · exact y
    · obtain rfl : i = s := by omega
      rw [hv] at z1; cases z1
  · rintro ⟨z1, z2⟩; exact ⟨z1, by omega⟩
theorem LC.done {V : Nat} {c : IV} (h : LC V 32 c) (hV : V < 4294967296) : c.opn 0 = 0 := by
  apply set_ext (IV.opn_lt h.ok 0) (by decide)
  intro i hi
  rw [Nat.zero_testBit]
  cases e : (c.opn 0).testBit i
  · rfl
  · have := ((h.op i).1 e).2; omega
theorem LC.end {V : Nat} {c : IV} (h : LC V 32 c) (hV : V < 4294967296) : c.src 0 = 0 ∧ (c.clm 0).opn 0 = 0 := by
  refine ⟨src_none h.ok 0 (h.done hV), ?_⟩
  apply set_ext (IV.opn_lt (h.ok.clm 0) 0) (by decide)
  intro i hi
  rw [Nat.zero_testBit]
  cases e : ((c.clm 0).opn 0).testBit i
  · rfl
  · have := ((clm_opn h.ok 0 0 i (by rw [h.n]; decide)).1 e).1
    rw [h.done hV, Nat.zero_testBit] at this
    cases this
theorem LV.lc {u m o : Nat} {c : IV} (h : LV u m o 32 c) : LC (u &&& m &&& 4294967294) 1 c := by
  refine ⟨h.ok, h.n, fun i => ?_⟩
  rw [h.opn 0 m h.e0]
  constructor
  · intro z
    refine ⟨z, ?_⟩
    rw [Nat.testBit_and, Bool.and_eq_true, ev_at] at z
    exact z.2.1
  · intro z; exact z.1
theorem lv_first (m o : Nat) (hm : m < 18446744073709551616) (ho : o < 18446744073709551616) (u : Nat) : ((iv0 2).wr 4096 4 m).1 = true ∧ (((iv0 2).wr 4096 4 m).2.wr 4100 4 o).1 = true ∧ LV u m o 0 (((iv0 2).wr 4096 4 m).2.wr 4100 4 o).2 := by
  have f0 : fdN 2 4096 4 = (4096, 0, true) := by decide +kernel
  have f1 : fdN 2 4100 4 = (4096, 1, true) := by decide +kernel
  have e0 : (iv0 2).wr 4096 4 m = (true, (iv0 2).let 0 m) := by
    unfold IV.wr
    rw [show (iv0 2).n = 2 from rfl, f0]
    rfl
  have e1 : ((iv0 2).let 0 m).wr 4100 4 o = (true, ((iv0 2).let 0 m).let 1 o) := by
    unfold IV.wr
    rw [show ((iv0 2).let 0 m).n = 2 from rfl, f1]
    rfl
  rw [e0]
  show true = true ∧ (((iv0 2).let 0 m).wr 4100 4 o).1 = true ∧ LV u m o 0 (((iv0 2).let 0 m).wr 4100 4 o).2
  rw [e1]
  refine ⟨rfl, rfl, ((iok0 2 (by decide) (by decide)).let 0 m).let 1 o, rfl, rfl, fun i => rfl, ?_, ?_, fun i => ?_⟩
  · show ((m : Int) % 4294967296).toNat &&& 4294967294 = _
    rw [show ((m : Int) % 4294967296).toNat = m % 4294967296 by omega]
  · show ((o : Int) % 4294967296).toNat &&& 4294967294 = _
    rw [show ((o : Int) % 4294967296).toNat = o % 4294967296 by omega]
  · show (0 : Nat).testBit i = true ↔ _
    rw [Nat.zero_testBit]
    constructor
    · intro z; cases z
    · omega
end Go.Proofs.Ytmpldaenakenlaa
namespace Go.Proofs.Ytmpldaenakenlaa
open Go.RowKit
open C (Only hid Still ret_bool ret_int)
set_option linter.unusedVariables false
set_option maxRecDepth 100000

theorem tb1 (u s : Nat) : ((((u : Int) / 2 ^ s).tmod 2) == 1) = u.testBit s := by
  have e : ((u : Int) / 2 ^ s) = ((u / 2 ^ s : Nat) : Int) := by simp
  rw [e, Nat.testBit_eq_decide_div_mod_eq]
  generalize u / 2 ^ s = n
  rw [Int.tmod_eq_emod_of_nonneg (by omega), Bool.eq_iff_iff]
  simp
  omega
theorem tb0 (u s : Nat) : ((((u : Int) / 2 ^ s).tmod 2) == 0) = !u.testBit s := by
  have e : ((u : Int) / 2 ^ s) = ((u / 2 ^ s : Nat) : Int) := by simp
  rw [e, Nat.testBit_eq_decide_div_mod_eq]
  generalize u / 2 ^ s = n
  rw [Int.tmod_eq_emod_of_nonneg (by omega), Bool.eq_iff_iff]
  simp
  omega
/-- the law's controller in PlatLets: levels as far as s -/
def LW (W w : World) (p u m o s : Nat) : Prop := ∃ c, LI W w p c ∧ LV u m o s c
/-- claims as far as s -/
def LX (W w : World) (p V s : Nat) : Prop := ∃ c, LI W w p c ∧ LC V s c
section
variable {W w : World} {p u m o s V : Nat}
theorem lw_level (h : LW W w p u m o s) (hs : s < 32) : Calls Try.prog 34 #[.pointer (some ⟨p, 0, none⟩), .int .i64 s, .bool (u.testBit s)] w fun e w' => e = .returned (.tuple #[]) ∧ LW W w' p u m o (s + 1) := by
  obtain ⟨c, h1, h2⟩ := h
  exact (l_Level h1 s (u.testBit s) (by omega) (by omega)).mono fun e w' hh => ⟨hh.1, _, hh.2, h2.next hs⟩
theorem lw_all (h : LW W w p u m o 32) : Calls Try.prog 30 #[.pointer (some ⟨p, 0, none⟩), .int .u64 0, .int .i64 4] w fun e w' => e = .returned (.tuple #[.int .u64 ((u &&& 4294967294 : Nat) : Int), .bool true]) ∧ LW W w' p u m o 32 := by
  obtain ⟨c, h1, h2⟩ := h
  have f : fdN c.n 0 4 = (0, 0, true) := by rw [h2.n]; decide +kernel
  have e : c.rd 0 4 = ((c.up : Int), true, c) := by unfold IV.rd; rw [f]; rfl
  have := l_ReadI h1 0 4 (by decide) (by decide) (by decide) (by decide)
  rw [e, h2.up] at this
  exact this.mono fun e w' hh => ⟨hh.1, _, hh.2, h2⟩
theorem lw_pen (h : LW W w p u m o 32) (k x : Nat) (hk : k < 2) (hx : (k = 0 ∧ x = m) ∨ (k = 1 ∧ x = o)) : Calls Try.prog 38 #[.pointer (some ⟨p, 0, none⟩), .int .i64 k] w fun e w' => e = .returned (.bool (((u &&& x &&& 4294967294 : Nat) : Int) != 0)) ∧ LW W w' p u m o 32 := by
  obtain ⟨c, h1, h2⟩ := h
  have e : c.pen k = (((u &&& x &&& 4294967294 : Nat) : Int) != 0) := by
    unfold IV.pen
    rw [h2.n, show decide (0 ≤ (k : Int)) = true by simp, show decide ((k : Int) < (2 : Nat)) = true by simp; omega, Int.toNat_natCast, h2.opn k x (hx.elim (fun z => by rw [z.1, z.2]; exact h2.e0) (fun z => by rw [z.1, z.2]; exact h2.e1))]
    generalize u &&& x &&& 4294967294 = n
    rw [Bool.true_and, Bool.true_and, Bool.eq_iff_iff]
    simp
  have := l_Pending h1 k (by omega) (by omega)
  rw [e] at this
  exact this.mono fun e w' hh => ⟨hh.1, _, hh.2.1, h2⟩
theorem lx_claim (h : LX W w p V s) (hv : V.testBit s = true) : Calls Try.prog 30 #[.pointer (some ⟨p, 0, none⟩), .int .u64 8192, .int .i64 4] w fun e w' => e = .returned (.tuple #[.int .u64 (s : Int), .bool true]) ∧ LX W w' p V (s + 1) := by
  obtain ⟨c, h1, h2⟩ := h
  have f : fdN c.n 8192 4 = (8192, 0, true) := by rw [h2.n]; decide +kernel
  have e : c.rd 8192 4 = ((c.src 0 : Int), true, c.clm 0) := by unfold IV.rd; rw [f]; rfl
  have := l_ReadI h1 8192 4 (by decide) (by decide) (by decide) (by decide)
  rw [e, h2.src hv] at this
  exact this.mono fun e w' hh => ⟨hh.1, _, hh.2, h2.hit hv⟩
theorem lx_end (h : LX W w p V 32) (hV : V < 4294967296) : Calls Try.prog 30 #[.pointer (some ⟨p, 0, none⟩), .int .u64 8192, .int .i64 4] w fun e w' => e = .returned (.tuple #[.int .u64 0, .bool true]) ∧ Calls Try.prog 38 #[.pointer (some ⟨p, 0, none⟩), .int .i64 0] w' fun e w2 => e = .returned (.bool false) ∧ Below W.heap.size W w2 := by
  obtain ⟨c, h1, h2⟩ := h
  have f : fdN c.n 8192 4 = (8192, 0, true) := by rw [h2.n]; decide +kernel
  have e : c.rd 8192 4 = ((c.src 0 : Int), true, c.clm 0) := by unfold IV.rd; rw [f]; rfl
  have := l_ReadI h1 8192 4 (by decide) (by decide) (by decide) (by decide)
  rw [e, (h2.end hV).1] at this
  refine this.mono fun e w' hh => ⟨hh.1, ?_⟩
  have hp := l_Pending hh.2 0 (by decide) (by decide)
  have e2 : (c.clm 0).pen 0 = false := by
    unfold IV.pen
    rw [show ((0 : Int)).toNat = 0 from rfl, (h2.end hV).2]
    simp
  rw [e2] at hp
  exact hp.mono fun e w2 hk => ⟨hk.1, hk.2.1.bel⟩
end
set_option maxHeartbeats 8000000 in
theorem w_PlatLets (W : World) (u0 : Int) (u1 : 0 ≤ u0) (u2 : u0 < 18446744073709551616) (m0 : Int) (m1 : 0 ≤ m0) (m2 : m0 < 18446744073709551616) (o0 : Int) (o1 : 0 ≤ o0) (o2 : o0 < 18446744073709551616) : Calls Try.prog 11 #[.int .u64 u0, .int .u64 m0, .int .u64 o0] W fun e w' => e = .returned (.bool true) ∧ Below W.heap.size W w' := by
  obtain ⟨u, rfl⟩ : ∃ u : Nat, u0 = u := ⟨u0.toNat, by omega⟩
  obtain ⟨m, rfl⟩ : ∃ m : Nat, m0 = m := ⟨m0.toNat, by omega⟩
  obtain ⟨o, rfl⟩ : ∃ o : Nat, o0 = o := ⟨o0.toNat, by omega⟩
  have hu : u < 18446744073709551616 := by omega
  have hm : m < 18446744073709551616 := by omega
  have ho : o < 18446744073709551616 := by omega
  have hN := l_NewI W W (.refl _ _) 2 (by decide) (by decide)
  obtain ⟨g1, g2, g3⟩ := lv_first m o hm ho u
  have HW1 : Hid (∀ w p, LI W w p (iv0 2) → Calls Try.prog 32 #[.pointer (some ⟨p, 0, none⟩), .int .u64 4096, .int .i64 4, .int .u64 m] w fun e w' => e = .returned (.bool true) ∧ LI W w' p ((iv0 2).wr 4096 4 m).2) := fun w p h => by
    have := l_WriteI h 4096 4 m (by decide) (by decide) (by decide) (by decide) m1 m2
    rw [g1] at this
    exact this
  have HW2 : Hid (∀ w p, LI W w p ((iv0 2).wr 4096 4 m).2 → Calls Try.prog 32 #[.pointer (some ⟨p, 0, none⟩), .int .u64 4100, .int .i64 4, .int .u64 o] w fun e w' => e = .returned (.bool true) ∧ LW W w' p u m o 0) := fun w p h => by
    have := l_WriteI h 4100 4 o (by decide) (by decide) (by decide) (by decide) o1 o2
    rw [g2] at this
    exact this.mono fun e w' hh => ⟨hh.1, _, hh.2, g3⟩
  have hA := l_awake
  have HLv : Hid (∀ w p (s : Nat), s < 32 → LW W w p u m o s → Calls Try.prog 34 #[.pointer (some ⟨p, 0, none⟩), .int .i64 s, .bool (u.testBit s)] w fun e w' => e = .returned (.tuple #[]) ∧ LW W w' p u m o (s + 1)) := fun w p s hs h => lw_level h hs
  clear g1 g2 g3
  generalize ((iv0 2).wr 4096 4 m).2 = c1 at *
  have HT1 : Hid (∀ s : Nat, (((u : Int) / 2 ^ s).tmod 2 == 1) = u.testBit s) := tb1 u
  have HT0 : Hid (∀ s : Nat, ((((u &&& m &&& 4294967294 : Nat) : Int) / 2 ^ s).tmod 2 == 0) = !(u &&& m &&& 4294967294).testBit s) := tb0 _
  have hum : u &&& m < 18446744073709551616 := Nat.lt_of_le_of_lt Nat.and_le_left hu
  have huo : u &&& o < 18446744073709551616 := Nat.lt_of_le_of_lt Nat.and_le_left hu
  have e1 : bits BinOp.and IntKind.u64 (u : Int) (m : Int) = ((u &&& m : Nat) : Int) := u64_and_nat _ _ hu hm
  have e2 : bits BinOp.and IntKind.u64 ((u &&& m : Nat) : Int) 4294967294 = ((u &&& m &&& 4294967294 : Nat) : Int) := u64_and_nat _ 4294967294 hum (by decide)
  have e3 : bits BinOp.and IntKind.u64 (u : Int) 4294967294 = ((u &&& 4294967294 : Nat) : Int) := u64_and_nat _ 4294967294 hu (by decide)
  have e4 : bits BinOp.and IntKind.u64 (u : Int) (o : Int) = ((u &&& o : Nat) : Int) := u64_and_nat _ _ hu ho
  have e5 : bits BinOp.and IntKind.u64 ((u &&& o : Nat) : Int) 4294967294 = ((u &&& o &&& 4294967294 : Nat) : Int) := u64_and_nat _ 4294967294 huo (by decide)
  have HR : Hid (∀ w p, LW W w p u m o 32 → Calls Try.prog 30 #[.pointer (some ⟨p, 0, none⟩), .int .u64 0, .int .i64 4] w fun e w' => e = .returned (.tuple #[.int .u64 ((u &&& 4294967294 : Nat) : Int), .bool true]) ∧ LW W w' p u m o 32) := fun w p h => lw_all h
  have HP0 : Hid (∀ w p, LW W w p u m o 32 → Calls Try.prog 38 #[.pointer (some ⟨p, 0, none⟩), .int .i64 0] w fun e w' => e = .returned (.bool (((u &&& m &&& 4294967294 : Nat) : Int) != 0)) ∧ LW W w' p u m o 32) := fun w p h => lw_pen h 0 m (by decide) (.inl ⟨rfl, rfl⟩)
  have HP1 : Hid (∀ w p, LW W w p u m o 32 → Calls Try.prog 38 #[.pointer (some ⟨p, 0, none⟩), .int .i64 1] w fun e w' => e = .returned (.bool (((u &&& o &&& 4294967294 : Nat) : Int) != 0)) ∧ LX W w' p (u &&& m &&& 4294967294) 1) := fun w p h => (lw_pen h 1 o (by decide) (.inr ⟨rfl, rfl⟩)).mono fun e w' hh => ⟨hh.1, by obtain ⟨c, k1, k2⟩ := hh.2; exact ⟨c, k1, k2.lc⟩⟩
  have hV : u &&& m &&& 4294967294 < 4294967296 := ev_lt _
  have HV := hid hV
  clear hV hum huo hu hm ho
  have a1 : (0 : Int) ≤ ((u &&& m : Nat) : Int) := by omega
  have a2 : (0 : Int) ≤ ((u &&& m &&& 4294967294 : Nat) : Int) := by omega
  generalize ((u &&& m &&& 4294967294 : Nat) : Int) = V at *
  generalize (u &&& m &&& 4294967294) = VN at *
  generalize ((u &&& o &&& 4294967294 : Nat) : Int) = C at *
  generalize ((u &&& 4294967294 : Nat) : Int) = L at *
  generalize ((u &&& m : Nat) : Int) = A at *
  generalize ((u &&& o : Nat) : Int) = B at *
  generalize (u : Int) = U at *
  generalize (m : Int) = M at *
  generalize (o : Int) = O at *
  go_enter Try.func11, Try.ntmps11
  go_wp2_with (first
    | (go_at_call 28; refine hN.mono ?_; rintro e w1 ⟨rfl, hl, -⟩; have h1 := HW1.out w1 _ hl; clear hl hN)
    | (go_at_call 32; (with_reducible refine h1.mono ?_); rintro e w2 ⟨rfl, hl⟩; have h2 := HW2.out w2 _ hl; clear hl h1)
    | (go_at_call 32; (with_reducible refine h2.mono ?_); rintro e w3 ⟨rfl, hl⟩; have H3 := hid hl; clear hl h2))
  generalize W.heap.size + 1 = p at *
  go_loopw [9] (fun i wr => ∃ s : Nat, s ≤ 32 ∧ i = .int .i64 s ∧ Hid (LW W wr p u m o s)) (fun i _ => 32 - (intOf i).toNat)
  case atStart => exact ⟨0, by omega, rfl, H3⟩
  case round =>
    obtain ⟨s, hs, rfl, ht⟩ := hrel
    by_cases hlt : s < 32
    · have hL := HLv.out wr p s hlt ht.out
      rw [← HT1.out s] at hL
      have hs32 : (s : Int) < 32 := by omega
      go_wp2_with (go_at_call 34; refine hL.mono ?_; rintro e w4 ⟨rfl, hl⟩; have H4 := hid hl; clear hl hL)
      go_roundw
      case rel => exact ⟨s + 1, by omega, by go_num, H4⟩
      case measure => simp [intOf]; omega
    · obtain rfl : s = 32 := by omega
      have hR := HR.out wr p ht.out
      clear ht HLv HT1 H3
      go_wp2_with (first
        | (go_at_call 30; refine hR.mono ?_; rintro e w4 ⟨rfl, hl⟩; have hP := HP0.out w4 p hl; clear hl hR HR)
        | (go_at_call 38; (with_reducible refine hP.mono ?_); rintro e w5 ⟨rfl, hl⟩; have hQ := HP1.out w5 p hl; clear hl hP)
        | (go_at_call 38; (with_reducible refine hQ.mono ?_); rintro e w6 ⟨rfl, hl⟩; have H6 := hid hl; clear hl hQ))
      go_loopw [13] (fun i wr => ∃ s : Nat, 1 ≤ s ∧ s ≤ 32 ∧ i = .int .u64 s ∧ Hid (LX W wr p VN s)) (fun i _ => 32 - (intOf i).toNat)
      case atStart => exact ⟨1, by omega, by omega, rfl, H6⟩
      case round =>
        obtain ⟨s, hs1, hs, rfl, ht⟩ := hrel
        by_cases hlt : s < 32
        · have et := HT0.out s
          have hs32 : (s : Int) < 32 := by omega
          cases ev : VN.testBit s <;> rw [ev] at et
          · have HX := ht.out
            go_wp2_with fail
            go_roundw
            case rel => exact ⟨s + 1, by omega, by omega, by go_num, by obtain ⟨c, k1, k2⟩ := ht.out; exact ⟨c, k1, k2.miss ev⟩⟩
            case measure => simp [intOf]; omega
          · have hC := lx_claim ht.out ev
            go_wp2_with (go_at_call 30; refine hC.mono ?_; rintro e w7 ⟨rfl, hl⟩; have H7 := hid hl; clear hl hC)
            go_roundw
            case rel => exact ⟨s + 1, by omega, by omega, by go_num, H7⟩
            case measure => simp [intOf]; omega
        · obtain rfl : s = 32 := by omega
          have hC := lx_end ht.out HV.out
          go_wp2_with (first
            | (go_at_call 30; refine hC.mono ?_; rintro e w7 ⟨rfl, hp⟩; clear hC)
            | (go_at_call 38; refine hp.mono ?_; rintro e w8 ⟨rfl, hb⟩; have HB := hid hb; clear hb hp)
            | (go_at_call 24; refine (hA _).mono ?_; rintro r w9 ⟨rfl, hb⟩; have HB6 := hid hb; clear hb))
          go_ret
          exact ⟨rfl, HB.out.trans (HB6.out.mono HB.out.size)⟩
end Go.Proofs.Ytmpldaenakenlaa
