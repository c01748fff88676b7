/- Sets of sources as numbers: bit, lowest. -/
import Derived.Test.YtmpldaenakenlaaLA
import Derived.Test.YtmpldaenakenlaaHQ
import Derived.Laws.BitsAllLaws
import Derived.Lib.SliceRun
import Derived.Laws.Cover3
namespace Go.Proofs.Ytmpldaenakenlaa
open Go.RowKit
open C (Only hid Still ret_bool ret_int)
set_option linter.unusedVariables false
set_option maxRecDepth 100000

/-- a source's bit -/
def bitN (x : Int) : Nat := if 1 ≤ x ∧ x < 32 then 2 ^ x.toNat else 0
theorem bitN_lt (x : Int) : bitN x < 4294967296 := by
  unfold bitN
  split
  · have : 2 ^ x.toNat ≤ 2 ^ 31 := Nat.pow_le_pow_right (by decide) (by omega)
    omega
  · decide
theorem bitN_at (x : Int) (i : Nat) : (bitN x).testBit i = decide (1 ≤ x ∧ x < 32 ∧ x = i) := by
  unfold bitN
  split
  · rename_i h
    rw [Nat.testBit_two_pow]
    by_cases e : x = i
    · subst e; simp; omega
    · simp [e, h]; omega
  · rename_i h
    rw [Nat.zero_testBit]
    symm
    simp only [decide_eq_false_iff_not]
    omega
/-- what is in a and not in b -/
def anN (a b : Nat) : Nat := a &&& (4294967295 - b)
theorem anN_at (a b i : Nat) (hb : b < 4294967296) : (anN a b).testBit i = (a.testBit i && (decide (i < 32) && !b.testBit i)) := by
  unfold anN
  rw [Nat.testBit_and]
  have := Nat.testBit_two_pow_sub_succ (n := 32) (x := b) hb i
  rw [← this, show (2 : Nat) ^ 32 - (b + 1) = 4294967295 - b by omega]
theorem anN_lt (a b : Nat) (h : a < 4294967296) : anN a b < 4294967296 := by
  have : anN a b ≤ a := Nat.and_le_left
  omega
theorem or_lt {a b : Nat} (h : a < 4294967296) (k : b < 4294967296) : a ||| b < 4294967296 := Nat.or_lt_two_pow (n := 32) h k
theorem and_lt {a b : Nat} (h : a < 4294967296) : a &&& b < 4294967296 := by
  have : a &&& b ≤ a := Nat.and_le_left
  omega
theorem high {a i : Nat} (h : a < 4294967296) (hi : 32 ≤ i) : a.testBit i = false := Nat.testBit_lt_two_pow (Nat.lt_of_lt_of_le h (show 2 ^ 32 ≤ 2 ^ i from Nat.pow_le_pow_right (by decide) hi))
theorem set_ext {a b : Nat} (ha : a < 4294967296) (hb : b < 4294967296) (h : ∀ i, i < 32 → a.testBit i = b.testBit i) : a = b := by
  apply Nat.eq_of_testBit_eq
  intro i
  rcases Nat.lt_or_ge i 32 with z | z
  · exact h i z
  · rw [high ha z, high hb z]
/-- is source i in s -/
def isIn (s i : Nat) : Bool := decide (1 ≤ i) && s.testBit i
/-- the first source from k on, below k + f -/
def low (s : Nat) : Nat → Nat → Nat
  | _, 0 => 0
  | k, f + 1 => if isIn s k then k else low s (k + 1) f
def lowest (s : Nat) : Nat := low s 0 32
theorem low_hit {s : Nat} : ∀ (f k j : Nat), k ≤ j → j < k + f → isIn s j = true → (∀ i, k ≤ i → i < j → isIn s i = false) → low s k f = j
  | 0, k, j, h1, h2, _, _ => by omega
  | f + 1, k, j, h1, h2, h3, h4 => by
    unfold low
    by_cases e : k = j
    · subst e; rw [if_pos h3]
    · rw [if_neg (by rw [h4 k (Nat.le_refl _) (by omega)]; decide)]
      exact low_hit f (k + 1) j (by omega) (by omega) h3 fun i q r => h4 i (by omega) r
theorem low_none {s : Nat} : ∀ (f k : Nat), (∀ i, k ≤ i → i < k + f → isIn s i = false) → low s k f = 0
  | 0, k, _ => rfl
  | f + 1, k, h => by
    unfold low
    rw [if_neg (by rw [h k (Nat.le_refl _) (by omega)]; decide)]
    exact low_none f (k + 1) fun i q r => h i (by omega) (by omega)
/-- the lowest one, told by what it is -/
theorem lowest_spec (s : Nat) : (lowest s = 0 ∧ ∀ i, i < 32 → isIn s i = false) ∨ (1 ≤ lowest s ∧ lowest s < 32 ∧ isIn s (lowest s) = true ∧ ∀ i, i < lowest s → isIn s i = false) := by
  by_cases h : ∃ i, i < 32 ∧ isIn s i = true
  · obtain ⟨i, hi, h1⟩ := h
    have : ∀ n, n < 32 → isIn s n = true → ∃ j, j ≤ n ∧ isIn s j = true ∧ ∀ i, i < j → isIn s i = false := by
      intro n
      induction n using Nat.strongRecOn with
      | _ n ih =>
        intro hn hs
        by_cases q : ∃ m, m < n ∧ isIn s m = true
        · obtain ⟨m, q1, q2⟩ := q
          obtain ⟨j, r1, r2, r3⟩ := ih m q1 (by omega) q2
          exact ⟨j, by omega, r2, r3⟩
        · refine ⟨n, Nat.le_refl _, hs, fun i hi => ?_⟩
          cases e : isIn s i
          · rfl
          · exact absurd ⟨i, hi, e⟩ q
    obtain ⟨j, r1, r2, r3⟩ := this i hi h1
    have e : lowest s = j := low_hit 32 0 j (Nat.zero_le _) (by omega) r2 fun i _ q => r3 i q
    right
    rw [e]
    refine ⟨?_, by omega, r2, r3⟩
    unfold isIn at r2
    simp at r2
    exact r2.1
  · left
    have h' : ∀ i, i < 32 → isIn s i = false := fun i hi => by
      cases e : isIn s i
      · rfl
      · exact absurd ⟨i, hi, e⟩ h
    exact ⟨low_none 32 0 fun i _ q => h' i (by omega), h'⟩
theorem and_bit (s k : Nat) (hs : s < 4294967296) (hk : k < 32) : (bits BinOp.and IntKind.u32 (s : Int) (bitN (k : Int) : Int) != 0) = isIn s k := by
  rw [u32_and_nat _ _ hs (bitN_lt _)]
  unfold isIn bitN
  rcases Nat.eq_zero_or_pos k with z | z
  · subst z
    simp
  · rw [if_pos (by omega), Int.toNat_natCast]
    have hk1 : decide (1 ≤ k) = true := by simp; omega
    rw [hk1, Bool.true_and]
    cases e : s.testBit k
    · have : s &&& 2 ^ k = 0 := by
        apply Nat.eq_of_testBit_eq
        intro i
        rw [Nat.testBit_and, Nat.testBit_two_pow, Nat.zero_testBit]
        by_cases q : k = i
        · subst q; rw [e]; rfl
        · simp [q]
      rw [this]
      rfl
    · have : s &&& 2 ^ k ≠ 0 := fun z => by
        have h2 : (s &&& 2 ^ k).testBit k = true := by rw [Nat.testBit_and, Nat.testBit_two_pow, e]; simp
        rw [z, Nat.zero_testBit] at h2
        cases h2
      simp
      exact_mod_cast this
theorem c_bit (x : Int) (x0 : -9223372036854775808 ≤ x) (x1 : x ≤ 9223372036854775807) (w : World) : Calls Try.prog 53 #[.int .i64 x] w fun e w' => e = .returned (.int .u32 (bitN x)) ∧ w' = w := by
  have HB : Hid ((bitN x : Int) = if 1 ≤ x ∧ x < 32 then ((2 ^ x.toNat : Nat) : Int) else 0) := by unfold bitN; show _ = _; split <;> rfl
  generalize bitN x = b at *
  by_cases q : 1 ≤ x ∧ x < 32
  · obtain ⟨q1, q2⟩ := q
    rw [if_pos ⟨q1, q2⟩] at HB
    go_enter Try.func53, Try.ntmps53
    go_wp2
    go_ret
    refine ⟨ret_int ?_, rfl⟩
    rw [HB.out]
    have : 2 ^ x.toNat ≤ 2 ^ 31 := Nat.pow_le_pow_right (by decide) (by omega)
    have e : (2 : Int) ^ x.toNat = ((2 ^ x.toNat : Nat) : Int) := by simp
    rw [e]
    clear HB e
    generalize 2 ^ x.toNat = n at *
    omega
  · rw [if_neg q] at HB
    by_cases q1 : x < 1
    · go_enter Try.func53, Try.ntmps53
      go_wp2
      go_ret
      exact ⟨ret_int HB.out.symm, rfl⟩
    · have q2 : 32 ≤ x := by omega
      go_enter Try.func53, Try.ntmps53
      go_wp2
      go_ret
      exact ⟨ret_int HB.out.symm, rfl⟩
theorem c_lowest (s : Nat) (hs : s < 4294967296) (w : World) : Calls Try.prog 56 #[.int .u32 s] w fun e w' => e = .returned (.int .i64 (lowest s)) ∧ w' = w := by
  have hb : ∀ (k : Nat), k < 32 → ∀ u, Calls Try.prog 53 #[.int .i64 k] u fun e w' => e = .returned (.int .u32 (bitN k)) ∧ w' = u := fun k hk u => c_bit k (by omega) (by omega) u
  have HB := hid hb
  have HA : Hid (∀ k : Nat, k < 32 → (bits BinOp.and IntKind.u32 (s : Int) (bitN (k : Int) : Int) != 0) = isIn s k) := fun k hk => and_bit s k hs hk
  have hs' : (s : Int) < 4294967296 := by omega
  have hs0 : (0 : Int) ≤ (s : Int) := by omega
  obtain ⟨L, hL⟩ : ∃ L : Nat, L = lowest s := ⟨_, rfl⟩
  rw [← hL]
  have HL := hid hL
  clear hL hs
  generalize (s : Int) = S at *
  clear hb
  go_enter Try.func56, Try.ntmps56
  go_wp2_with fail
  go_loopw [4] (fun i wr => ∃ k : Nat, k ≤ 32 ∧ i = .int .i64 k ∧ wr = w ∧ Hid (∀ j, j < k → isIn s j = false)) (fun i _ => 32 - (intOf i).toNat)
  case atStart => exact ⟨0, by omega, rfl, rfl, fun j hj => by omega⟩
  case round =>
    obtain ⟨k, hk, rfl, hw, hn⟩ := hrel
    obtain rfl := hw.symm
    by_cases hlt : k < 32
    · have hb := HB.out k hlt
      have ea := HA.out k hlt
      have bl : (bitN (k : Int) : Int) < 4294967296 := by have := bitN_lt (k : Int); omega
      have b0 : (0 : Int) ≤ (bitN (k : Int) : Int) := by omega
      generalize (bitN (k : Int) : Int) = B at *
      cases e : isIn s k <;> rw [e] at ea
      · go_wp2_with (go_at_call 53; refine (hb _).mono ?_; rintro e w' ⟨rfl, hw⟩; obtain rfl := hw.symm)
        go_roundw
        case rel => exact ⟨k + 1, by omega, by go_num, trivial, fun j hj => by
          rcases Nat.lt_or_ge j k with q | q
          · exact hn.out j q
          · obtain rfl : j = k := by omega
            exact e⟩
        case measure => simp [intOf]; omega
      · go_wp2_with (go_at_call 53; refine (hb _).mono ?_; rintro e w' ⟨rfl, hw⟩; obtain rfl := hw.symm)
        go_ret
        refine ⟨ret_int ?_, rfl⟩
        have : lowest s = k := low_hit 32 0 k (Nat.zero_le _) (by omega) e fun i _ q => hn.out i q
        rw [HL.out, this]
    · obtain rfl : k = 32 := by omega
      go_wp2
      go_ret
      refine ⟨ret_int ?_, rfl⟩
      have : lowest s = 0 := low_none 32 0 fun i _ q => hn.out i (by omega)
      rw [HL.out, this]
      rfl
end Go.Proofs.Ytmpldaenakenlaa
namespace Go.Proofs.Ytmpldaenakenlaa
open Go.RowKit
open C (Only hid Still ret_bool ret_int)
set_option linter.unusedVariables false
set_option maxRecDepth 100000

/-- a world in which all that was there is as it was -/
structure WB (w0 : World) where
  w : World
  h : Below w0.heap.size w0 w
theorem WB.cell {w0 : World} (x : WB w0) {b o : Nat} {v : Value} (hb : b < w0.heap.size) (h : w0.cell? ⟨b, o, none⟩ = some v) : x.w.cell? ⟨b, o, none⟩ = some v := by
  rw [← h]; exact Below.cell x.h (p := ⟨b, o, none⟩) hb
/-- a callee's contract, met in a world of the class -/
theorem Calls.wb {P : Program} {f : FuncId} {args : Array Value} {w0 : World} {v : Value} (x : WB w0) (h : Calls P f args x.w fun e w' => e = .returned v ∧ Below x.w.heap.size x.w w') : Calls P f args x.w fun e w'' => e = .returned v ∧ ∃ y : WB w0, w'' = y.w :=
  h.mono fun _ w' hh => ⟨hh.1, ⟨w', x.h.trans (hh.2.mono x.h.size)⟩, rfl⟩
theorem wp_region_wb {P : Program} {id : Nat} {Q : Exit → Act → World → Prop} {a : Act} {w : World} {l : List Oper} (hm : P.follows .mixedOrders = true) (hB : Region.lexB .any l.toArray = true)
    (h : wpQuiet P l.toArray (fun w' => ∃ x : WB w, w' = x.w) (fun a' => ∀ w', (∃ x : WB w, w' = x.w) → Q .normal a' w') l a) : (Code.region id l.toArray true).wp P Q a w :=
  wp_region_quiet (C := fun w' => ∃ x : WB w, w' = x.w) hm hB ⟨⟨w.drew, (Below.refl _ _).drew⟩, rfl⟩ (by simpa using h)
theorem wpList_made {P : Program} (w : World) {ops : Array Oper} {rest : List Oper} {o : Oper} {a : Act} {Q : Exit → Act → World → Prop} (hgd : o.guard = none) (x y : Operand) (T : TypeId) (ho : o.op = .makeSlice T x y) (e : TypeId) (z : Value) (size bytes : Nat)
    (ht : P.underlying T = some (.slice e)) (hi : (P.info? e).map (fun i => (i.zero, i.size, i.bytes)) = some (some z, size, bytes)) (n : Nat) (hx : a.eval x = .int .i64 n) (hy : a.eval y = .int .i64 n) (hn : n ≤ 9223372036854775807) (hby : bytes * n ≤ 281474976710656)
    (cs : Array Value) (hc : madeCells z.cells (n * size) = cs)
    (h : wpList P ops Q rest (a.put o.dst (.slice (some ⟨w.heap.size, 0, none⟩) n n)) (w.alloc (.cells cs e))) : wpList P ops Q (o :: rest) a w := by
  refine wpList_plain hgd fun K hK' => ?_
  obtain ⟨i, hi1, hz, hs, hb⟩ := info_parts hi
  have hb' : (i.bytes : Int) * (n : Int) ≤ 281474976710656 := by
    have h : ((i.bytes * n : Nat) : Int) ≤ 281474976710656 := by rw [hb]; omega
    rwa [Int.natCast_mul] at h
  have hr := run_make (P := P) w T e i z ht hi1 hz .i64 .i64 n n (by omega) (Int.le_refl _) hb' (by omega)
  have hcs : madeCells z.cells ((n : Int).toNat * i.size) = cs := by
    rw [← hc, hs]; rfl
  rw [hcs] at hr
  simp only [Int.toNat_natCast] at hr
  unfold Oper.wp
  simp [execOp, ho, hx, hy, hr, Result.andThen]
  exact hK' _ _ h

structure IV where
  lv : Nat
  pu : Nat
  n : Nat
  le : Nat → Nat
  cl : Nat → Nat
structure IOk (v : IV) : Prop where
  lv : v.lv < 4294967296
  pu : v.pu < 4294967296
  le : ∀ i, v.le i < 4294967296
  cl : ∀ i, v.cl i < 4294967296
  l0 : v.lv.testBit 0 = false
  p0 : v.pu.testBit 0 = false
  n1 : 1 ≤ v.n
  n2 : v.n ≤ 64
def IV.cells (v : IV) (g : Nat) : Array Value := #[.int .u32 v.lv, .int .u32 v.pu, .slice (some ⟨g, 0, none⟩) v.n v.n]
/-- the lines, cell by cell -/
def li1 (le cl : Nat → Nat) (j : Nat) : Value := if j % 2 = 0 then .int .u32 (le (j / 2)) else .int .u32 (cl (j / 2))
def lic (le cl : Nat → Nat) (n : Nat) : List Value := (List.range (n * 2)).map (li1 le cl)
theorem lic_len (le cl : Nat → Nat) (n : Nat) : (lic le cl n).length = n * 2 := by simp [lic]
theorem lic_at (le cl : Nat → Nat) (n j : Nat) (h : j < n * 2) : (lic le cl n)[j]? = some (li1 le cl j) := by
  unfold lic
  rw [List.getElem?_map, List.getElem?_range h]
  rfl
theorem li1_0 (le cl : Nat → Nat) (i : Nat) : li1 le cl (i * 2) = .int .u32 (le i) := by
  unfold li1
  rw [if_pos (by omega), show i * 2 / 2 = i by omega]
theorem li1_1 (le cl : Nat → Nat) (i : Nat) : li1 le cl (i * 2 + 1) = .int .u32 (cl i) := by
  unfold li1
  rw [if_neg (by omega), show (i * 2 + 1) / 2 = i by omega]
def upN (f : Nat → Nat) (i x : Nat) : Nat → Nat := fun j => if j = i then x else f j
theorem upN_same (f : Nat → Nat) (i x : Nat) : upN f i x i = x := by simp [upN]
theorem upN_other (f : Nat → Nat) (i x j : Nat) (h : j ≠ i) : upN f i x j = f j := by simp [upN, h]
theorem lic_set (le le' cl cl' : Nat → Nat) (n k : Nat) (x : Value) (hx : li1 le' cl' k = x) (h : ∀ j, j ≠ k → li1 le' cl' j = li1 le cl j) : (lic le cl n).toArray.setIfInBounds k x = (lic le' cl' n).toArray := by
  apply Array.ext'
  simp only [Array.toList_setIfInBounds]
  apply List.ext_getElem?
  intro j
  rw [List.getElem?_set]
  rcases Nat.lt_or_ge j (n * 2) with q | q
  · rw [lic_at _ _ _ _ q, lic_len, lic_at _ _ _ _ q]
    by_cases e : k = j
    · subst e; rw [if_pos rfl, if_pos q, hx]
    · rw [if_neg e, h j (fun z => e z.symm)]
  · rw [List.getElem?_eq_none (by rw [lic_len]; exact q), List.getElem?_eq_none (by rw [lic_len]; exact q), lic_len]
    split
    · rw [if_neg (by omega)]
    · rfl
theorem lic_le (le cl : Nat → Nat) (n i x : Nat) : (lic le cl n).toArray.setIfInBounds (i * 2) (.int .u32 x) = (lic (upN le i x) cl n).toArray := by
  refine lic_set _ _ _ _ _ _ _ (by rw [li1_0, upN_same]) fun j hj => ?_
  unfold li1
  split
  · rw [upN_other _ _ _ _ (by omega)]
  · rfl
theorem lic_cl (le cl : Nat → Nat) (n i x : Nat) : (lic le cl n).toArray.setIfInBounds (i * 2 + 1) (.int .u32 x) = (lic le (upN cl i x) n).toArray := by
  refine lic_set _ _ _ _ _ _ _ (by rw [li1_1, upN_same]) fun j hj => ?_
  unfold li1
  split
  · rfl
  · rw [upN_other _ _ _ _ (by omega)]
structure Io (w : World) (p g : Nat) (v : IV) : Prop where
  top : w.heap[p]? = some (.cells (v.cells g) 82 (0, 0))
  tab : w.heap[g]? = some (.cells (lic v.le v.cl v.n).toArray 90 (0, 0))
/-- a controller, its blocks F -/
def Ix (w : World) (F : Nat → Prop) (p : Nat) (v : IV) : Prop := ∃ g, Io w p g v ∧ IOk v ∧ ∀ x, F x ↔ x = p ∨ x = g
section
variable {w w' : World} {p g : Nat} {v : IV} {F : Nat → Prop}
theorem Io.pg (h : Io w p g v) : p ≠ g := fun e => by
  subst e
  have := h.top
  rw [h.tab] at this
  simp at this
theorem Io.only (h : Io w p g v) {T : Nat → Prop} (ho : Only T w w') (hp : ¬ T p) (hg : ¬ T g) : Io w' p g v := ⟨ho.old h.top hp, ho.old h.tab hg⟩
theorem Io.below (h : Io w p g v) (hb : Below w.heap.size w w') : Io w' p g v := h.only (T := fun _ => False) (.ofBelow hb) id id
theorem Ix.only (h : Ix w F p v) {T : Nat → Prop} (ho : Only T w w') (hd : ∀ x, F x → ¬ T x) : Ix w' F p v := by
  obtain ⟨g, h1, ok, hF⟩ := h
  exact ⟨g, h1.only ho (hd p ((hF p).2 (.inl rfl))) (hd g ((hF g).2 (.inr rfl))), ok, hF⟩
theorem Ix.below (h : Ix w F p v) (hb : Below w.heap.size w w') : Ix w' F p v := h.only (T := fun _ => False) (.ofBelow hb) fun _ _ z => z
theorem Ix.lt (h : Ix w F p v) {x : Nat} (hx : F x) : x < w.heap.size := by
  obtain ⟨g, h1, ok, hF⟩ := h
  rcases (hF x).1 hx with z | z
  · subst z; exact lt_of_block h1.top
  · subst z; exact lt_of_block h1.tab
theorem Io.c0 (h : Io w p g v) : w.cell? ⟨p, 0, none⟩ = some (.int .u32 v.lv) := cell_of_row w p 0 _ _ _ h.top
theorem Io.c1 (h : Io w p g v) : w.cell? ⟨p, 1, none⟩ = some (.int .u32 v.pu) := cell_of_row w p 1 _ _ _ h.top
theorem Io.c2 (h : Io w p g v) : w.cell? ⟨p, 2, none⟩ = some (.slice (some ⟨g, 0, none⟩) v.n v.n) := cell_of_row w p 2 _ _ _ h.top
theorem Io.fp (h : Io w p g v) (k : Nat) : w.frozen? ⟨p, k, none⟩ = false := frozen_of_row w p k _ _ h.top
theorem Io.fg (h : Io w p g v) (k : Nat) : w.frozen? ⟨g, k, none⟩ = false := frozen_of_row w g k _ _ h.tab
theorem Io.ce (h : Io w p g v) (i : Nat) (hi : i < v.n) : w.cell? ⟨g, i * 2, none⟩ = some (.int .u32 (v.le i)) := by
  rw [cell_of_row w g _ _ _ _ h.tab]
  have := lic_at v.le v.cl v.n (i * 2) (by omega)
  rw [li1_0] at this
  simpa using this
theorem Io.cc (h : Io w p g v) (i : Nat) (hi : i < v.n) : w.cell? ⟨g, i * 2 + 1, none⟩ = some (.int .u32 (v.cl i)) := by
  rw [cell_of_row w g _ _ _ _ h.tab]
  have := lic_at v.le v.cl v.n (i * 2 + 1) (by omega)
  rw [li1_1] at this
  simpa using this
theorem Io.putp (h : Io w p g v) (k : Nat) (u : Value) (v' : IV) (hc : (v.cells g).setIfInBounds k u = v'.cells g) (e : v'.le = v.le ∧ v'.cl = v.cl ∧ v'.n = v.n) : Io (w.setCell ⟨p, k, none⟩ u) p g v' :=
  ⟨setRowB w p k _ _ _ _ h.top hc, by rw [e.1, e.2.1, e.2.2]; exact (only_c w p k u).old h.tab fun z => h.pg z.symm⟩
theorem Io.pute (h : Io w p g v) (i x : Nat) : Io (w.setCell ⟨g, i * 2, none⟩ (.int .u32 x)) p g { v with le := upN v.le i x } :=
  ⟨(only_c w g _ _).old h.top h.pg, setRowB w g _ _ _ _ _ h.tab (lic_le v.le v.cl v.n i x)⟩
theorem Io.putc (h : Io w p g v) (i x : Nat) : Io (w.setCell ⟨g, i * 2 + 1, none⟩ (.int .u32 x)) p g { v with cl := upN v.cl i x } :=
  ⟨(only_c w g _ _).old h.top h.pg, setRowB w g _ _ _ _ _ h.tab (lic_cl v.le v.cl v.n i x)⟩
end
/-- what some hart has claimed -/
def orN (c : Nat → Nat) : Nat → Nat
  | 0 => 0
  | k + 1 => orN c k ||| c k
theorem orN_lt {c : Nat → Nat} (h : ∀ i, c i < 4294967296) : ∀ k, orN c k < 4294967296
  | 0 => by show 0 < 4294967296; decide
  | k + 1 => or_lt (orN_lt h k) (h k)
theorem dnB (w : World) (n : Nat) : Below w.heap.size w (w.drewN n) := ⟨rfl, rfl, rfl, Nat.le_refl _, fun _ _ => rfl⟩
def IV.up (v : IV) : Nat := v.lv ||| v.pu
def IV.opn (v : IV) (h : Nat) : Nat := anN v.up (orN v.cl v.n) &&& v.le h
section
variable {w : World} {p g : Nat} {v : IV}
theorem i_up (h : Io w p g v) (ok : IOk v) : Calls Try.prog 50 #[.pointer (some ⟨p, 0, none⟩)] w fun e w' => e = .returned (.int .u32 v.up) ∧ Below w.heap.size w w' := by
  have c0 := h.c0
  have c1 := h.c1
  have e : bits BinOp.or IntKind.u32 (v.lv : Int) (v.pu : Int) = (v.up : Int) := u32_or_nat _ _ ok.lv ok.pu
  have l1 : (v.lv : Int) < 4294967296 := by have := ok.lv; omega
  have l2 : (v.pu : Int) < 4294967296 := by have := ok.pu; omega
  have l3 : (0 : Int) ≤ v.lv := by omega
  have l4 : (0 : Int) ≤ v.pu := by omega
  clear h ok
  generalize (v.lv : Int) = a at *
  generalize (v.pu : Int) = b at *
  generalize (v.up : Int) = c at *
  go_enter Try.func50, Try.ntmps50
  go_wp2_with fail
  go_quiet (fail)
  go_wp2
  go_ret
  exact ⟨rfl, dnB w _⟩
theorem i_claimed (h : Io w p g v) (ok : IOk v) : Calls Try.prog 57 #[.pointer (some ⟨p, 0, none⟩)] w fun e w' => e = .returned (.int .u32 (orN v.cl v.n)) ∧ Below w.heap.size w w' := by
  have c2 := h.c2
  have HP := hid h
  have OK := hid ok
  have n2 := ok.n2
  have n1 := ok.n1
  clear h ok
  go_enter Try.func57, Try.ntmps57
  go_wp2_with fail
  go_loopw [3, 5, 11] (fun s u i wr => ∃ k : Nat, k ≤ v.n ∧ i = .int .i64 k ∧ s = .int .u32 (orN v.cl k) ∧ Hid (Below w.heap.size w wr)) (fun s u i _ => v.n - (intOf i).toNat)
  case atStart => exact ⟨0, by omega, rfl, rfl, .refl _ _⟩
  case round =>
    obtain ⟨k, hk, rfl, rfl, hb⟩ := hrel
    by_cases hlt : k < v.n
    · have h' := HP.out.below hb.out
      have d0 := h'.ce k hlt
      have d1 := h'.cc k hlt
      have e : bits BinOp.or IntKind.u32 (orN v.cl k : Int) (v.cl k : Int) = (orN v.cl (k + 1) : Int) := u32_or_nat _ _ (orN_lt OK.out.cl k) (OK.out.cl k)
      have l1 : (orN v.cl k : Int) < 4294967296 := by have := orN_lt OK.out.cl k; omega
      have l2 : (v.cl k : Int) < 4294967296 := by have := OK.out.cl k; omega
      have l3 : (0 : Int) ≤ orN v.cl k := by omega
      have l4 : (0 : Int) ≤ v.cl k := by omega
      clear h'
      generalize hA : (orN v.cl k : Int) = A at *
      generalize hB : (v.cl k : Int) = B at *
      generalize hC : (orN v.cl (k + 1) : Int) = C at *
      generalize hD : (v.le k : Int) = D at *
      go_wp2
      exact ⟨⟨k + 1, by omega, by go_num, by rw [hC], hb.out.alloc hb.out.size _⟩, by simp [intOf]; omega⟩
    · obtain rfl : k = v.n := by omega
      go_wp2
      go_ret
      exact ⟨rfl, hb.out⟩
end
end Go.Proofs.Ytmpldaenakenlaa
namespace Go.Proofs.Ytmpldaenakenlaa
open Go.RowKit
open C (Only hid Still ret_bool ret_int)
set_option linter.unusedVariables false
set_option maxRecDepth 100000

theorem Calls.both {P : Program} {f : FuncId} {args : Array Value} {w : World} {v : Value} {w0 : World} (x : WB w0) (h : Calls P f args x.w fun e w' => e = .returned v ∧ Below x.w.heap.size x.w w') : Calls P f args x.w fun e w'' => e = .returned v ∧ ∃ y : WB w0, w'' = y.w := Calls.wb x h
theorem IV.opn_lt {v : IV} (ok : IOk v) (h : Nat) : v.opn h < 4294967296 := and_lt (anN_lt _ _ (or_lt ok.lv ok.pu))
set_option maxHeartbeats 2000000 in
theorem i_open (w : World) (p g : Nat) (v : IV) (h : Io w p g v) (ok : IOk v) (k : Nat) (hk : k < v.n) : Calls Try.prog 54 #[.pointer (some ⟨p, 0, none⟩), .int .i64 k] w fun e w' => e = .returned (.int .u32 (v.opn k)) ∧ Below w.heap.size w w' := by
  have lp := lt_of_block h.top
  have lg := lt_of_block h.tab
  have c2 : ∀ x : WB w, x.w.cell? ⟨p, 2, none⟩ = some (.slice (some ⟨g, 0, none⟩) v.n v.n) := fun x => (h.below x.h).c2
  have ce : ∀ x : WB w, x.w.cell? ⟨g, k * 2, none⟩ = some (.int .u32 (v.le k)) := fun x => (h.below x.h).ce k hk
  have HU : Hid (∀ x : WB w, Calls Try.prog 50 #[.pointer (some ⟨p, 0, none⟩)] x.w fun e w' => e = .returned (.int .u32 v.up) ∧ Below x.w.heap.size x.w w') := fun x => i_up (h.below x.h) ok
  have HC : Hid (∀ x : WB w, Calls Try.prog 57 #[.pointer (some ⟨p, 0, none⟩)] x.w fun e w' => e = .returned (.int .u32 (orN v.cl v.n)) ∧ Below x.w.heap.size x.w w') := fun x => i_claimed (h.below x.h) ok
  have e1 : bits BinOp.andNot IntKind.u32 (v.up : Int) (orN v.cl v.n : Int) = (anN v.up (orN v.cl v.n) : Int) := u32_andNot_nat _ _ (or_lt ok.lv ok.pu) (orN_lt ok.cl _)
  have e2 : bits BinOp.and IntKind.u32 (anN v.up (orN v.cl v.n) : Int) (v.le k : Int) = (v.opn k : Int) := u32_and_nat _ _ (anN_lt _ _ (or_lt ok.lv ok.pu)) (ok.le k)
  have hk' : (k : Int) < v.n := by omega
  clear h ok
  generalize (v.up : Int) = U at *
  generalize (orN v.cl v.n : Int) = O at *
  generalize (anN v.up (orN v.cl v.n) : Int) = A at *
  generalize (v.le k : Int) = L at *
  generalize (v.opn k : Int) = R at *
  go_enter Try.func54, Try.ntmps54
  go_wp2_with fail
  refine wp_region_wb (by kernel_rfl) (by kernel_rfl) ?_
  repeat
    first
      | (refine wpQuiet_step (fun K hK => ?_)
         go_simp
         first
           | (refine hK _ ?_; clear hK K)
           | (refine ⟨_, fun _ => rfl, hK _ ?_⟩; clear hK K)
           | (refine ⟨.int .u32 U, fun x => ?_, hK _ ?_⟩
              · (go_at_call 50; exact Calls.wb x (HU.out x))
              clear hK K)
           | (refine ⟨.int .u32 O, fun x => ?_, hK _ ?_⟩
              · (go_at_call 57; exact Calls.wb x (HC.out x))
              clear hK K))
  refine wpQuiet_nil ?_
  intro _ hx
  obtain ⟨x, rfl⟩ := hx
  go_wp2
  go_ret
  exact ⟨rfl, x.h⟩
theorem Calls.bel {P : Program} {f : FuncId} {args : Array Value} {w : World} {v : Value} (h : Calls P f args w fun e w' => e = .returned v ∧ Below w.heap.size w w') : Calls P f args w fun e w' => e = .returned v ∧ Below w.heap.size w w' := h
/-- is a hart to be interrupted -/
def IV.pen (v : IV) (h : Int) : Bool := decide (0 ≤ h) && decide (h < v.n) && (v.opn h.toNat != 0)
theorem i_Pending (w : World) (p g : Nat) (v : IV) (h : Io w p g v) (ok : IOk v) (x : Int) (x0 : -9223372036854775808 ≤ x) (x1 : x ≤ 9223372036854775807) : Calls Try.prog 38 #[.pointer (some ⟨p, 0, none⟩), .int .i64 x] w fun e w' => e = .returned (.bool (v.pen x)) ∧ Below w.heap.size w w' := by
  have c2 := h.c2
  have n2 := ok.n2
  have HP : Hid (v.pen x = (decide (0 ≤ x) && decide (x < v.n) && (v.opn x.toNat != 0))) := rfl
  generalize v.pen x = P at *
  by_cases q0 : 0 ≤ x
  · by_cases q1 : x < v.n
    · obtain ⟨k, rfl⟩ : ∃ k : Nat, x = k := ⟨x.toNat, by omega⟩
      have hO := i_open w p g v h ok k (by omega)
      have l1 : (v.opn k : Int) < 4294967296 := by have := IV.opn_lt ok k; omega
      have l2 : (0 : Int) ≤ (v.opn k : Int) := by omega
      have HP2 : Hid (P = ((v.opn k : Int) != 0)) := by
        show _ = _
        rw [HP.out, Int.toNat_natCast]
        have a1 : decide (0 ≤ (k : Int)) = true := by simp
        have a2 : decide ((k : Int) < v.n) = true := by simpa using q1
        rw [a1, a2, Bool.true_and, Bool.true_and]
        rcases Nat.eq_zero_or_pos (v.opn k) with z | z
        · rw [z]; rfl
        · rw [show (v.opn k != 0) = true by simp; omega, show ((v.opn k : Int) != 0) = true by simp; omega]
      clear h ok HP
      generalize (v.opn k : Int) = R at *
      go_enter Try.func38, Try.ntmps38
      go_wp2_with (go_at_call 54; refine hO.mono ?_; rintro e w' ⟨rfl, hw⟩; have HW := hid hw; clear hw)
      go_ret
      exact ⟨ret_bool (by rw [HP2.out]), HW.out⟩
    · have e : P = false := by rw [HP.out]; simp [q1]
      subst e
      clear h ok
      go_enter Try.func38, Try.ntmps38
      go_wp2
      go_ret
      exact ⟨rfl, .refl _ _⟩
  · have e : P = false := by rw [HP.out]; simp [q0]
    subst e
    clear h ok
    go_enter Try.func38, Try.ntmps38
    go_wp2
    go_ret
    exact ⟨rfl, .refl _ _⟩
/-- which register stands at an offset -/
def fdN (n : Nat) (o s : Int) : Int × Int × Bool :=
  if s ≠ 4 ∨ o % 4096 % 4 ≠ 0 then (0, 0, false) else if o - o % 4096 = 0 then (0, o % 4096 / 4, decide (o % 4096 / 4 = 0)) else if o - o % 4096 = 4096 ∨ o - o % 4096 = 8192 then (o - o % 4096, o % 4096 / 4, decide (o % 4096 / 4 < n)) else (0, 0, false)
theorem i_find (w : World) (p g : Nat) (v : IV) (h : Io w p g v) (ok : IOk v) (o s : Int) (o0 : 0 ≤ o) (o1 : o < 18446744073709551616) (s0 : -9223372036854775808 ≤ s) (s1 : s ≤ 9223372036854775807) :
    Calls Try.prog 48 #[.pointer (some ⟨p, 0, none⟩), .int .u64 o, .int .i64 s] w fun e w' => e = .returned (.tuple #[.int .u64 (fdN v.n o s).1, .int .i64 (fdN v.n o s).2.1, .bool (fdN v.n o s).2.2]) ∧ Below w.heap.size w w' := by
  have c2 := h.c2
  have n2 := ok.n2
  clear h ok
  by_cases q : s ≠ 4 ∨ o % 4096 % 4 ≠ 0
  · have e : fdN v.n o s = (0, 0, false) := by unfold fdN; rw [if_pos q]
    rw [e]
    rcases q with q | q
    · go_enter Try.func48, Try.ntmps48
      go_wp2
      go_returns
      exact ⟨rfl, .refl _ _⟩
    · have q2 : (o % 4 != 0) = true := by simp; omega
      by_cases q' : s = 4
      · subst q'
        go_enter Try.func48, Try.ntmps48
        go_wp2
        go_returns
        exact ⟨rfl, .refl _ _⟩
      · go_enter Try.func48, Try.ntmps48
        go_wp2
        go_returns
        exact ⟨rfl, .refl _ _⟩
  · obtain ⟨rfl, q4⟩ : s = 4 ∧ o % 4096 % 4 = 0 := by
      refine ⟨Classical.byContradiction fun z => q (.inl z), Classical.byContradiction fun z => q (.inr z)⟩
    clear q
    obtain ⟨m, hm⟩ : ∃ m, m = o % 4096 := ⟨_, rfl⟩
    have m0 : 0 ≤ m := by omega
    have m1 : m < 4096 := by omega
    have m4 : m % 4096 = m := by omega
    have m5 : m % 4 = 0 := by omega
    obtain ⟨K, hk⟩ : ∃ K : Int, m / 4 = K := ⟨_, rfl⟩
    have k0 : 0 ≤ K := by omega
    have k1 : K < 1024 := by omega
    by_cases h0 : o = m
    · subst h0
      have e : fdN v.n o 4 = (0, o / 4, decide (o / 4 = 0)) := by unfold fdN; rw [m4, if_neg (by omega), if_pos (by omega)]
      rw [e]
      clear e hm hk k1 k0 K q4
      go_enter Try.func48, Try.ntmps48
      go_wp2
      go_returns
      exact ⟨rfl, .refl _ _⟩
    by_cases h1 : o = m + 4096
    · subst h1
      have e : fdN v.n (m + 4096) 4 = (4096, m / 4, decide (m / 4 < v.n)) := by unfold fdN; rw [← hm, if_neg (by omega), if_neg (by omega), if_pos (by omega), show m + 4096 - m = 4096 by omega]
      rw [e, hk]
      have r1 : m + 4096 - m = 4096 := by omega
      clear e hm h0 q4
      go_enter Try.func48, Try.ntmps48
      go_wp2_with fail
      go_quiet (fail)
      go_wp2
      go_returns
      exact ⟨rfl, dnB w _⟩
    by_cases h2 : o = m + 8192
    · subst h2
      have e : fdN v.n (m + 8192) 4 = (8192, m / 4, decide (m / 4 < v.n)) := by unfold fdN; rw [← hm, if_neg (by omega), if_neg (by omega), if_pos (by omega), show m + 8192 - m = 8192 by omega]
      rw [e, hk]
      have f1 : (m + 8192) % 4096 = m := hm.symm
      have r1 : m + 8192 - m = 8192 := by omega
      clear e hm h0 h1 q4
      go_enter Try.func48, Try.ntmps48
      go_wp2_with fail
      go_quiet (fail)
      go_wp2
      go_returns
      exact ⟨rfl, dnB w _⟩
    have e : fdN v.n o 4 = (0, 0, false) := by unfold fdN; rw [← hm, if_neg (by omega), if_neg (by omega), if_neg (by omega)]
    rw [e]
    have g0 : (o - m == 0) = false := by simp; omega
    have g1 : (o - m == 4096) = false := by simp; omega
    have g2 : (o - m == 8192) = false := by simp; omega
    have g3 : 0 ≤ o - m := by omega
    have f1 := hm.symm
    have g5 : o % 4 = 0 := by omega
    clear e hm q4 h0 h1 h2
    go_enter Try.func48, Try.ntmps48
    go_wp2
    go_returns
    exact ⟨rfl, .refl _ _⟩
end Go.Proofs.Ytmpldaenakenlaa
namespace Go.Proofs.Ytmpldaenakenlaa
open Go.RowKit
open C (Only hid Still ret_bool ret_int)
set_option linter.unusedVariables false
set_option maxRecDepth 100000

def IV.lev (v : IV) (x : Int) (u : Bool) : IV := { v with lv := if u then anN v.lv (bitN x) ||| bitN x else anN v.lv (bitN x) }
def IV.pls (v : IV) (x : Int) : IV := { v with pu := v.pu ||| bitN x }
def IV.src (v : IV) (k : Nat) : Nat := lowest (v.opn k)
def IV.clm (v : IV) (k : Nat) : IV := { v with pu := anN v.pu (bitN (v.src k)), cl := upN v.cl k (v.cl k ||| bitN (v.src k)) }
theorem bit0 (x : Int) : (bitN x).testBit 0 = false := by
  rw [bitN_at]
  simp only [decide_eq_false_iff_not]
  omega
theorem an0 (a b : Nat) (h : a.testBit 0 = false) (hb : b < 4294967296) : (anN a b).testBit 0 = false := by rw [anN_at _ _ _ hb, h]; rfl
theorem or0 {a b : Nat} (h : a.testBit 0 = false) (k : b.testBit 0 = false) : (a ||| b).testBit 0 = false := by rw [Nat.testBit_or, h, k]; rfl
theorem upN_lt {f : Nat → Nat} {B : Nat} (h : ∀ i, f i < B) (i : Nat) {x : Nat} (hx : x < B) : ∀ j, upN f i x j < B := fun j => by
  unfold upN
  split
  · exact hx
  · exact h j
theorem IOk.lev {v : IV} (ok : IOk v) (x : Int) (u : Bool) : IOk (v.lev x u) := by
  refine ⟨?_, ok.pu, ok.le, ok.cl, ?_, ok.p0, ok.n1, ok.n2⟩
  · show (if u then anN v.lv (bitN x) ||| bitN x else anN v.lv (bitN x)) < 4294967296
    split
    · exact or_lt (anN_lt _ _ ok.lv) (bitN_lt x)
    · exact anN_lt _ _ ok.lv
  · show (if u then anN v.lv (bitN x) ||| bitN x else anN v.lv (bitN x)).testBit 0 = false
    split
    · exact or0 (an0 _ _ ok.l0 (bitN_lt x)) (bit0 x)
    · exact an0 _ _ ok.l0 (bitN_lt x)
theorem IOk.pls {v : IV} (ok : IOk v) (x : Int) : IOk (v.pls x) := ⟨ok.lv, or_lt ok.pu (bitN_lt x), ok.le, ok.cl, ok.l0, or0 ok.p0 (bit0 x), ok.n1, ok.n2⟩
theorem IOk.clm {v : IV} (ok : IOk v) (k : Nat) : IOk (v.clm k) := ⟨ok.lv, anN_lt _ _ ok.pu, ok.le, upN_lt ok.cl k (or_lt (ok.cl k) (bitN_lt _)), ok.l0, an0 _ _ ok.p0 (bitN_lt _), ok.n1, ok.n2⟩
theorem lv_set (v : IV) (g x : Nat) : (v.cells g).setIfInBounds 0 (.int .u32 x) = ({ v with lv := x } : IV).cells g := rfl
theorem pu_set (v : IV) (g x : Nat) : (v.cells g).setIfInBounds 1 (.int .u32 x) = ({ v with pu := x } : IV).cells g := rfl
theorem Io.dn {w : World} {p g : Nat} {v : IV} (h : Io w p g v) (n : Nat) : Io (w.drewN n) p g v := h.below (dnB w n)
theorem i_Level (w : World) (F : Nat → Prop) (p : Nat) (v : IV) (h : Ix w F p v) (x : Int) (u : Bool) (x0 : -9223372036854775808 ≤ x) (x1 : x ≤ 9223372036854775807) : Calls Try.prog 34 #[.pointer (some ⟨p, 0, none⟩), .int .i64 x, .bool u] w fun e w' => e = .returned (.tuple #[]) ∧ Ix w' F p (v.lev x u) ∧ Only F w w' := by
  obtain ⟨g, h1, ok, hF⟩ := h
  have hb := c_bit x x0 x1
  have c0 := h1.c0
  have z0 := h1.fp 0
  have e1 : bits BinOp.andNot IntKind.u32 (v.lv : Int) (bitN x : Int) = (anN v.lv (bitN x) : Int) := u32_andNot_nat _ _ ok.lv (bitN_lt x)
  have e2 : bits BinOp.or IntKind.u32 (anN v.lv (bitN x) : Int) (bitN x : Int) = ((anN v.lv (bitN x) ||| bitN x : Nat) : Int) := u32_or_nat _ _ (anN_lt _ _ ok.lv) (bitN_lt x)
  have b0 : (0 : Int) ≤ (bitN x : Int) := by omega
  have b1 : (bitN x : Int) < 4294967296 := by have := bitN_lt x; omega
  have H := hid h1
  have OK := hid ok
  have HF := hid hF
  have ho : Hid (∀ n (y : Value), Only F w ((w.drewN n).setCell ⟨p, 0, none⟩ y)) := fun n y => (Only.ofBelow (dnB w n)).setCell (.inl ((hF p).2 (.inl rfl))) y
  have hi : Hid (∀ n (y : Nat), Io ((w.drewN n).setCell ⟨p, 0, none⟩ (.int .u32 y)) p g { v with lv := y }) := fun n y => (h1.dn n).putp 0 _ _ (lv_set v g y) ⟨rfl, rfl, rfl⟩
  clear h1 ok hF
  generalize hB : (bitN x : Int) = B at *
  generalize hA : (anN v.lv (bitN x) : Int) = A at *
  generalize hC : ((anN v.lv (bitN x) ||| bitN x : Nat) : Int) = C at *
  go_enter Try.func34, Try.ntmps34
  go_wp2_with fail
  refine wp_region_last_lit (by simp) (by kernel_rfl) (by kernel_rfl) (by kernel_rfl) ?_
  simp only [List.dropLast, List.getLast]
  repeat (go_big_quiet_step (first | (go_at_call 53; exact Calls.quiet_of_same (hb _))))
  refine wpQuiet_nil ?_
  intro _ hwq
  obtain ⟨nq, hwq⟩ := hwq
  subst hwq
  cases u
  · go_wp2
    go_returns
    refine ⟨rfl, ⟨g, ?_, OK.out.lev x false, HF.out⟩, ho.out nq _⟩
    rw [← hA]
    exact hi.out nq _
  · obtain ⟨w1, hw1⟩ : ∃ w1, w1 = (w.drewN nq).setCell ⟨p, 0, none⟩ (.int .u32 A) := ⟨_, rfl⟩
    have hi1 := hi.out nq (anN v.lv (bitN x))
    have ho1 := ho.out nq (.int .u32 A)
    rw [hA, ← hw1] at hi1
    rw [← hw1] at ho1
    have d0 := hi1.c0
    have y0 := hi1.fp 0
    rw [show (({ v with lv := anN v.lv (bitN x) } : IV).lv : Int) = A from hA] at d0
    have HI := hid hi1
    have HO := hid ho1
    have HW := hid hw1
    clear hi1 ho1 hw1 ho hi
    go_wp2_with fail
    rw [← HW.out]
    clear HW
    refine wp_region_last_lit (by simp) (by kernel_rfl) (by kernel_rfl) (by kernel_rfl) ?_
    simp only [List.dropLast, List.getLast]
    repeat (go_big_quiet_step (first | (go_at_call 53; exact Calls.quiet_of_same (hb _))))
    refine wpQuiet_nil ?_
    intro _ hwq
    obtain ⟨nq, hwq⟩ := hwq
    subst hwq
    go_wp2
    go_returns
    rename_i nr
    refine ⟨rfl, ⟨g, ?_, OK.out.lev x true, HF.out⟩, (HO.out.trans (Only.ofBelow (dnB w1 _))).setCell (.inl ((HF.out p).2 (.inl rfl))) _⟩
    rw [← hC]
    exact (HI.out.dn _).putp 0 _ (v.lev x true) (lv_set _ g _) ⟨rfl, rfl, rfl⟩
theorem i_Pulse (w : World) (F : Nat → Prop) (p : Nat) (v : IV) (h : Ix w F p v) (x : Int) (x0 : -9223372036854775808 ≤ x) (x1 : x ≤ 9223372036854775807) : Calls Try.prog 36 #[.pointer (some ⟨p, 0, none⟩), .int .i64 x] w fun e w' => e = .returned (.tuple #[]) ∧ Ix w' F p (v.pls x) ∧ Only F w w' := by
  obtain ⟨g, h1, ok, hF⟩ := h
  have hb := c_bit x x0 x1
  have c0 := h1.c1
  have z0 := h1.fp 1
  have e1 : bits BinOp.or IntKind.u32 (v.pu : Int) (bitN x : Int) = ((v.pu ||| bitN x : Nat) : Int) := u32_or_nat _ _ ok.pu (bitN_lt x)
  have b0 : (0 : Int) ≤ (bitN x : Int) := by omega
  have b1 : (bitN x : Int) < 4294967296 := by have := bitN_lt x; omega
  have OK := hid ok
  have HF := hid hF
  have ho : Hid (∀ n (y : Value), Only F w ((w.drewN n).setCell ⟨p, 1, none⟩ y)) := fun n y => (Only.ofBelow (dnB w n)).setCell (.inl ((hF p).2 (.inl rfl))) y
  have hi : Hid (∀ n (y : Nat), Io ((w.drewN n).setCell ⟨p, 1, none⟩ (.int .u32 y)) p g { v with pu := y }) := fun n y => (h1.dn n).putp 1 _ _ (pu_set v g y) ⟨rfl, rfl, rfl⟩
  clear h1 ok hF
  generalize hB : (bitN x : Int) = B at *
  generalize hC : ((v.pu ||| bitN x : Nat) : Int) = C at *
  go_enter Try.func36, Try.ntmps36
  go_wp2_with fail
  refine wp_region_last_lit (by simp) (by kernel_rfl) (by kernel_rfl) (by kernel_rfl) ?_
  simp only [List.dropLast, List.getLast]
  repeat (go_big_quiet_step (first | (go_at_call 53; exact Calls.quiet_of_same (hb _))))
  refine wpQuiet_nil ?_
  intro _ hwq
  obtain ⟨nq, hwq⟩ := hwq
  subst hwq
  go_wp2
  go_returns
  refine ⟨rfl, ⟨g, ?_, OK.out.pls x, HF.out⟩, ho.out nq _⟩
  rw [← hC]
  exact hi.out nq _
set_option maxHeartbeats 2000000 in
theorem i_claim (w : World) (F : Nat → Prop) (p : Nat) (v : IV) (h : Ix w F p v) (k : Nat) (hk : k < v.n) : Calls Try.prog 49 #[.pointer (some ⟨p, 0, none⟩), .int .i64 k] w fun e w' => e = .returned (.int .i64 (v.src k)) ∧ Ix w' F p (v.clm k) ∧ Only F w w' := by
  obtain ⟨g, h1, ok, hF⟩ := h
  have hO := i_open w p g v h1 ok k hk
  have hL := c_lowest (v.opn k) (IV.opn_lt ok k)
  have s32 : v.src k < 32 := by
    rcases lowest_spec (v.opn k) with z | z
    · unfold IV.src; omega
    · unfold IV.src; omega
  have hb := c_bit (v.src k) (by omega) (by omega)
  have e1 : bits BinOp.andNot IntKind.u32 (v.pu : Int) (bitN (v.src k) : Int) = (anN v.pu (bitN (v.src k)) : Int) := u32_andNot_nat _ _ ok.pu (bitN_lt _)
  have e2 : bits BinOp.or IntKind.u32 (v.cl k : Int) (bitN (v.src k) : Int) = ((v.cl k ||| bitN (v.src k) : Nat) : Int) := u32_or_nat _ _ (ok.cl k) (bitN_lt _)
  have b0 : (0 : Int) ≤ (bitN (v.src k) : Int) := by omega
  have b1 : (bitN (v.src k) : Int) < 4294967296 := by have := bitN_lt (v.src k); omega
  have s0 : (0 : Int) ≤ (v.src k : Int) := by omega
  have s1 : (v.src k : Int) < 32 := by omega
  have n2 := ok.n2
  have OK := hid ok
  have HF := hid hF
  have H := hid h1
  have HD : Hid (v.clm k = { v with pu := anN v.pu (bitN (v.src k)), cl := upN v.cl k (v.cl k ||| bitN (v.src k)) }) := rfl
  have OC := hid (ok.clm k)
  have hk' : (k : Int) < v.n := by omega
  clear h1 ok hF s32
  have es : (lowest (v.opn k) : Int) = (v.src k : Int) := rfl
  rw [es] at hL
  clear es
  generalize v.clm k = vc at *
  generalize hS : (v.src k : Int) = S at *
  generalize hB : (bitN S : Int) = B at *
  generalize hA : (anN v.pu (bitN S) : Int) = A at *
  generalize hC : ((v.cl k ||| bitN S : Nat) : Int) = C at *
  generalize (v.opn k : Int) = R at *
  go_enter Try.func49, Try.ntmps49
  go_upto_region 2 with (first | (go_at_call 54; refine hO.mono ?_; rintro e w1 ⟨rfl, hw⟩; have HW := hid hw; clear hw) | (go_at_call 56; refine (hL _).mono ?_; rintro e w' ⟨rfl, hw⟩; obtain rfl := hw.symm))
  have h1 := H.out.below HW.out
  have d1 := h1.c1
  have y1 := h1.fp 1
  have H1 := hid h1
  have HI : Hid (∀ n (y : Nat), Io ((w1.drewN n).setCell ⟨p, 1, none⟩ (.int .u32 y)) p g { v with pu := y }) := fun n y => (h1.dn n).putp 1 _ _ (pu_set v g y) ⟨rfl, rfl, rfl⟩
  clear h1
  refine wp_region_last_lit (by simp) (by kernel_rfl) (by kernel_rfl) (by kernel_rfl) ?_
  simp only [List.dropLast, List.getLast]
  repeat (go_big_quiet_step (first | (go_at_call 53; exact Calls.quiet_of_same (hb _))))
  refine wpQuiet_nil ?_
  intro _ hwq
  obtain ⟨nq, hwq⟩ := hwq
  subst hwq
  obtain ⟨w2, hw2⟩ : ∃ w2, w2 = (w1.drewN nq).setCell ⟨p, 1, none⟩ (.int .u32 A) := ⟨_, rfl⟩
  have hi1 := HI.out nq (anN v.pu (bitN S))
  rw [hA, ← hw2] at hi1
  have HO2 : Hid (Only F w w2) := by rw [hw2]; exact ((Only.ofBelow HW.out).trans (Only.ofBelow (dnB w1 nq))).setCell (.inl ((HF.out p).2 (.inl rfl))) _
  have d2 := hi1.c2
  have d3 := hi1.cc k hk
  have y3 := hi1.fg (k * 2 + 1)
  have HI2 := hid hi1
  have HW2 := hid hw2
  clear hi1 hw2 HI
  go_wp2_with fail
  rw [← HW2.out]
  clear HW2
  refine wp_region_last_lit (by simp) (by kernel_rfl) (by kernel_rfl) (by kernel_rfl) ?_
  simp only [List.dropLast, List.getLast]
  repeat (go_big_quiet_step (first | (go_at_call 53; exact Calls.quiet_of_same (hb _))))
  refine wpQuiet_nil ?_
  intro _ hwq
  obtain ⟨nq, hwq⟩ := hwq
  subst hwq
  go_wp2
  go_ret
  refine ⟨rfl, ⟨g, ?_, OC.out, HF.out⟩, (HO2.out.trans (Only.ofBelow (dnB w2 _))).setCell (.inl ((HF.out g).2 (.inr rfl))) _⟩
  rw [← hC, HD.out]
  have := (HI2.out.dn nq).putc k (v.cl k ||| bitN S)
  subst hS
  exact this
end Go.Proofs.Ytmpldaenakenlaa
namespace Go.Proofs.Ytmpldaenakenlaa
open Go.RowKit
open C (Only hid Still ret_bool ret_int)
set_option linter.unusedVariables false
set_option maxRecDepth 100000

/-- is a bit there -/
def bt (x k : Int) : Bool := bits BinOp.and IntKind.u8 x k != 0
def UV.lat (v : UV) : Bool := bt (v.h 3) 128
def UV.cau (v : UV) : Int := if v.ov && bt (v.h 1) 4 then 6 else if decide (0 < v.q.length) && bt (v.h 1) 1 then 4 else if v.em && bt (v.h 1) 2 then 2 else 1
section
variable {w : World} {p : Nat} {a b : Value} {v : UV}
theorem Uo.c0 (h : Uo w p a b v) : w.cell? ⟨p, 0, none⟩ = some (a) := cell_of_row w p 0 _ _ _ h.top
theorem Uo.c1 (h : Uo w p a b v) : w.cell? ⟨p, 1, none⟩ = some (b) := cell_of_row w p 1 _ _ _ h.top
theorem Uo.c2 (h : Uo w p a b v) : w.cell? ⟨p, 2, none⟩ = some (.int .u8 (v.h 0)) := cell_of_row w p 2 _ _ _ h.top
theorem Uo.c3 (h : Uo w p a b v) : w.cell? ⟨p, 3, none⟩ = some (.int .u8 (v.h 1)) := cell_of_row w p 3 _ _ _ h.top
theorem Uo.c4 (h : Uo w p a b v) : w.cell? ⟨p, 4, none⟩ = some (.int .u8 (v.h 2)) := cell_of_row w p 4 _ _ _ h.top
theorem Uo.c5 (h : Uo w p a b v) : w.cell? ⟨p, 5, none⟩ = some (.int .u8 (v.h 3)) := cell_of_row w p 5 _ _ _ h.top
theorem Uo.c6 (h : Uo w p a b v) : w.cell? ⟨p, 6, none⟩ = some (.int .u8 (v.h 4)) := cell_of_row w p 6 _ _ _ h.top
theorem Uo.c7 (h : Uo w p a b v) : w.cell? ⟨p, 7, none⟩ = some (.int .u8 (v.h 5)) := cell_of_row w p 7 _ _ _ h.top
theorem Uo.c8 (h : Uo w p a b v) : w.cell? ⟨p, 8, none⟩ = some (.int .u8 (v.h 6)) := cell_of_row w p 8 _ _ _ h.top
theorem Uo.c9 (h : Uo w p a b v) : w.cell? ⟨p, 9, none⟩ = some (.int .u8 (v.h 7)) := cell_of_row w p 9 _ _ _ h.top
theorem Uo.c10 (h : Uo w p a b v) : w.cell? ⟨p, 10, none⟩ = some (.int .u8 (v.d 0)) := cell_of_row w p 10 _ _ _ h.top
theorem Uo.c11 (h : Uo w p a b v) : w.cell? ⟨p, 11, none⟩ = some (.int .u8 (v.d 1)) := cell_of_row w p 11 _ _ _ h.top
theorem Uo.c12 (h : Uo w p a b v) : w.cell? ⟨p, 12, none⟩ = some (.bool v.ov) := cell_of_row w p 12 _ _ _ h.top
theorem Uo.c13 (h : Uo w p a b v) : w.cell? ⟨p, 13, none⟩ = some (.bool v.em) := cell_of_row w p 13 _ _ _ h.top
theorem Uo.fz (h : Uo w p a b v) (k : Nat) : w.frozen? ⟨p, k, none⟩ = false := frozen_of_row w p k _ _ h.top
end
theorem u_latched (w : World) (p : Nat) (a b : Value) (v : UV) (h : Uo w p a b v) (ok : UOk v) : Calls Try.prog 40 #[.pointer (some ⟨p, 0, none⟩)] w fun e w' => e = .returned (.bool v.lat) ∧ w' = w := by
  have c5 := h.c5
  obtain ⟨b0, b1⟩ := ok.h 3
  clear h ok
  go_enter Try.func40, Try.ntmps40
  go_wp2
  go_ret
  exact ⟨rfl, rfl⟩
theorem u_cause (w : World) (p : Nat) (a b : Value) (v : UV) (h : Uo w p a b v) (ok : UOk v) : Calls Try.prog 46 #[.pointer (some ⟨p, 0, none⟩)] w fun e w' => e = .returned (.int .u8 v.cau) ∧ w' = w := by
  have c3 := h.c3
  have c12 := h.c12
  have c13 := h.c13
  have c0 := h.c0
  obtain ⟨ad, cp, rfl⟩ := own_form h.q
  obtain ⟨b0, b1⟩ := ok.h 1
  have hl := ok.l
  clear h ok
  have HC : Hid (v.cau = if v.ov && bt (v.h 1) 4 then 6 else if decide (0 < v.q.length) && bt (v.h 1) 1 then 4 else if v.em && bt (v.h 1) 2 then 2 else 1) := rfl
  generalize v.cau = c at *
  generalize v.ov = ov at *
  generalize v.em = em at *
  generalize v.h 1 = x at *
  generalize v.q.length = n at *
  clear v
  unfold bt at HC
  by_cases hn : 0 < n
  all_goals
    cases ov <;> cases em <;>
    (go_enter Try.func46, Try.ntmps46
     go_wp2
     all_goals (go_ret; refine ⟨ret_int ?_, rfl⟩; rw [HC.out]; simp [*]))
end Go.Proofs.Ytmpldaenakenlaa
namespace Go.Proofs.Ytmpldaenakenlaa
open Go.RowKit
open C (Only hid Still ret_bool ret_int)
set_option linter.unusedVariables false
set_option maxRecDepth 100000

def UV.inn (v : UV) (x : Int) : UV := if v.q.length = 16 then { v with ov := true } else { v with q := v.q ++ [x] }
def UV.lin (v : UV) : Int := 96 + (if 0 < v.q.length then 1 else 0) + (if v.ov then 2 else 0)
def UV.tca (v : UV) : Int := if v.h 2 = 0 then v.cau else v.cau + 192
def UV.tcv (v : UV) : UV := if v.cau = 2 then { v with em := false } else v
theorem or_192 : ∀ c : Fin 7, bits BinOp.or IntKind.u8 (c.val : Int) 192 = (c.val : Int) + 192 := by decide +kernel
theorem cau_in (v : UV) : 0 ≤ v.cau ∧ v.cau < 7 := by
  unfold UV.cau
  split <;> (try split) <;> (try split) <;> decide
section
variable {w : World} {p : Nat} {a b : Value} {v : UV} {F : Nat → Prop}
/-- a cell of the block itself is stored -/
theorem Uo.one (h : Uo w p a b v) (hF : ∀ x, F x ↔ x = p ∨ Ug a x ∨ Ug b x) (k : Nat) (u : Value) (v' : UV) (ok : UOk v') (hq : v'.q = v.q) (hs : v'.s = v.s) (hc : (v.cells a b).setIfInBounds k u = v'.cells a b) : ∃ F', Ux (w.setCell ⟨p, k, none⟩ u) F' p v' ∧ Tn w (w.setCell ⟨p, k, none⟩ u) F F' :=
  Ux.mk hF (h.put k u v' hq hs hc) ok ((only_c w p k u).mono fun x _ z => .inl z) (fun k hk => .inl hk) fun k hk => .inl hk
end
theorem u_In (w : World) (F : Nat → Prop) (p : Nat) (v : UV) (x : Int) (h : Ux w F p v) (hx : Byt x) : Calls Try.prog 18 #[.pointer (some ⟨p, 0, none⟩), .int .u8 x] w fun e w' => e = .returned (.tuple #[]) ∧ ∃ F', Ux w' F' p (v.inn x) ∧ Tn w w' F F' := by
  obtain ⟨a, b, h1, ok, hF⟩ := h
  have c0 := h1.c0
  have z0 := h1.fz 0
  have c12 := h1.c12
  have z12 := h1.fz 12
  obtain ⟨ad, cp, rfl⟩ := own_form h1.q
  have hl := ok.l
  have H := hid h1
  have OK := hid ok
  have HF := hid hF
  have HX := hid hx
  clear h1 ok hF hx
  by_cases q : v.q.length = 16
  · have e1 : v.inn x = { v with ov := true } := by unfold UV.inn; rw [if_pos q]
    rw [e1]
    go_enter Try.func18, Try.ntmps18
    go_wp2
    go_returns
    exact ⟨rfl, H.out.one HF.out 12 _ { v with ov := true } ⟨OK.out.h, OK.out.d, OK.out.l, OK.out.q, OK.out.s⟩ rfl rfl rfl⟩
  · have e1 : v.inn x = { v with q := v.q ++ [x] } := by unfold UV.inn; rw [if_neg q]
    rw [e1]
    obtain ⟨i0, hi0, hz0, hz1, hz2⟩ := info_parts info_u8
    have HN := hid (one_cell w (.int .u8 x) 5)
    have HL := hid (own_below H.out.q ((Below.refl _ _).alloc (Nat.le_refl _) (.cells #[.int .u8 x] 5)))
    have hltp := lt_of_block H.out.top
    have HZ : Hid (∀ w3, (w.alloc (.cells #[.int .u8 x] 5)).grownBy w3 (Value.slice ad v.q.length cp).ownBlock → w3.heap[p]? = w.heap[p]? ∧ Only (Ug (.slice ad v.q.length cp)) w w3) := fun w3 hg =>
      ⟨(grew hg).block p hltp fun z => own_ne H.out.q H.out.top (by decide) p z rfl, grew hg⟩
    go_enter Try.func18, Try.ntmps18
    go_wp2_with (at_builtin; refine wpList_append_blk _ (.tmp 17) (.tmp 19) 26 rfl 5 i0 (.int .u8 0) 1 1 u_su8 hi0 hz0 hz1 hz2 rfl (by decide) (.slice ad v.q.length cp) v.q.length (bys v.q) rfl HL.out ⟨w.heap.size, 0, none⟩ 1 1 [.int .u8 x] rfl rfl HN.out (by intro u hu; simp at hu; subst hu; rfl) (show v.q.length + 1 ≤ 9223372036854775807 by omega) (by omega) rfl ?_; intro u' w3 hown hgrow hblk; obtain ⟨ad2, cp2, rfl⟩ := own_form hown; have HO3 := hid hown; have HG3 := hid (HZ.out w3 hgrow); have HB3 := hid hblk; have y4 : w3.cell? ⟨p, 0, none⟩ = some (.slice ad v.q.length cp) := (World.cell?_of_block (w := w) HG3.out.1).trans c0; have y8 : w3.frozen? ⟨p, 0, none⟩ = false := (World.frozen?_of_block (w := w) HG3.out.1).trans z0; clear hown hgrow hblk)
    go_returns
    refine ⟨rfl, ?_⟩
    have o3 := HO3.out
    rw [bys_app] at o3
    have hb : ∀ k, Ug (.slice ad2 (v.q.length + 1) cp2) k → Ug (.slice ad v.q.length cp) k ∨ w.heap.size ≤ k := fun k hk => (HB3.out k hk).imp id fun z => by simp at z; omega
    exact Ux.mk HF.out (H.out.newq _ (v.q ++ [x]) (by simpa using o3) HG3.out.2 hb) ⟨OK.out.h, OK.out.d, by simp; omega, fun y hy => by
      rcases List.mem_append.1 hy with z | z
      · exact OK.out.q y z
      · rw [List.mem_singleton.1 z]; exact HX.out, OK.out.s⟩ ((HG3.out.2.mono fun k _ z => .inr (.inl z)).setCell (.inl (.inl rfl)) _) hb fun k hk => .inl hk
theorem u_send (w : World) (F : Nat → Prop) (p : Nat) (v : UV) (x : Int) (h : Ux w F p v) (hx : Byt x) (hs : v.s.length < 140737488355328) : Calls Try.prog 45 #[.pointer (some ⟨p, 0, none⟩), .int .u8 x] w fun e w' => e = .returned (.tuple #[]) ∧ ∃ F', Ux w' F' p { v with s := v.s ++ [x], em := true } ∧ Tn w w' F F' := by
  obtain ⟨a, b, h1, ok, hF⟩ := h
  have c0 := h1.c1
  have z0 := h1.fz 1
  have c13 := h1.c13
  have z13 := h1.fz 13
  obtain ⟨ad, cp, rfl⟩ := own_form h1.s
  have H := hid h1
  have OK := hid ok
  have HF := hid hF
  have HX := hid hx
  clear h1 ok hF hx
  obtain ⟨i0, hi0, hz0, hz1, hz2⟩ := info_parts info_u8
  have HN := hid (one_cell w (.int .u8 x) 5)
  have HL := hid (own_below H.out.s ((Below.refl _ _).alloc (Nat.le_refl _) (.cells #[.int .u8 x] 5)))
  have hltp := lt_of_block H.out.top
  have HZ : Hid (∀ w3, (w.alloc (.cells #[.int .u8 x] 5)).grownBy w3 (Value.slice ad v.s.length cp).ownBlock → w3.heap[p]? = w.heap[p]? ∧ Only (Ug (.slice ad v.s.length cp)) w w3) := fun w3 hg =>
    ⟨(grew hg).block p hltp fun z => own_ne H.out.s H.out.top (by decide) p z rfl, grew hg⟩
  go_enter Try.func45, Try.ntmps45
  go_wp2_with (at_builtin; refine wpList_append_blk _ (.tmp 8) (.tmp 10) 26 rfl 5 i0 (.int .u8 0) 1 1 u_su8 hi0 hz0 hz1 hz2 rfl (by decide) (.slice ad v.s.length cp) v.s.length (bys v.s) rfl HL.out ⟨w.heap.size, 0, none⟩ 1 1 [.int .u8 x] rfl rfl HN.out (by intro u hu; simp at hu; subst hu; rfl) (show v.s.length + 1 ≤ 9223372036854775807 by omega) (by omega) rfl ?_; intro u' w3 hown hgrow hblk; obtain ⟨ad2, cp2, rfl⟩ := own_form hown; have HO3 := hid hown; have HG3 := hid (HZ.out w3 hgrow); have HB3 := hid hblk; have y4 : w3.cell? ⟨p, 1, none⟩ = some (.slice ad v.s.length cp) := (World.cell?_of_block (w := w) HG3.out.1).trans c0; have y8 : w3.frozen? ⟨p, 1, none⟩ = false := (World.frozen?_of_block (w := w) HG3.out.1).trans z0; have y9 : w3.cell? ⟨p, 13, none⟩ = some (.bool v.em) := (World.cell?_of_block (w := w) HG3.out.1).trans c13; have y10 : w3.frozen? ⟨p, 13, none⟩ = false := (World.frozen?_of_block (w := w) HG3.out.1).trans z13; clear hown hgrow hblk)
  go_returns
  refine ⟨rfl, ?_⟩
  have o3 := HO3.out
  rw [bys_app] at o3
  have hb : ∀ k, Ug (.slice ad2 (v.s.length + 1) cp2) k → Ug (.slice ad v.s.length cp) k ∨ w.heap.size ≤ k := fun k hk => (HB3.out k hk).imp id fun z => by simp at z; omega
  have h2 := H.out.news _ (v.s ++ [x]) (by simpa using o3) HG3.out.2 hb
  exact Ux.mk HF.out (h2.put 13 (.bool true) { v with s := v.s ++ [x], em := true } rfl rfl rfl) ⟨OK.out.h, OK.out.d, OK.out.l, OK.out.q, fun y hy => by
      rcases List.mem_append.1 hy with z | z
      · exact OK.out.s y z
      · rw [List.mem_singleton.1 z]; exact HX.out⟩ (((HG3.out.2.mono fun k _ z => .inr (.inr z)).setCell (.inl (.inl rfl)) _).setCell (.inl (.inl rfl)) _) (fun k hk => .inl hk) hb
theorem u_tellLine (w : World) (F : Nat → Prop) (p : Nat) (v : UV) (h : Ux w F p v) : Calls Try.prog 43 #[.pointer (some ⟨p, 0, none⟩)] w fun e w' => e = .returned (.int .u8 v.lin) ∧ ∃ F', Ux w' F' p { v with ov := false } ∧ Tn w w' F F' := by
  obtain ⟨a, b, h1, ok, hF⟩ := h
  have c0 := h1.c0
  have c12 := h1.c12
  have z12 := h1.fz 12
  obtain ⟨ad, cp, rfl⟩ := own_form h1.q
  have HP := hid (h1.one hF 12 (.bool false) { v with ov := false } ⟨ok.h, ok.d, ok.l, ok.q, ok.s⟩ rfl rfl rfl)
  have hl := ok.l
  have HC : Hid (v.lin = 96 + (if 0 < v.q.length then 1 else 0) + (if v.ov then 2 else 0)) := rfl
  clear h1 ok hF
  generalize v.lin = c at *
  cases e : v.ov <;> rw [e] at c12 HC <;> by_cases hn : 0 < v.q.length <;>
  (go_enter Try.func43, Try.ntmps43
   go_wp2
   go_ret
   refine ⟨ret_int ?_, HP.out⟩
   rw [HC.out]
   simp [hn]
   first | done | decide)
theorem u_tellCause (w : World) (F : Nat → Prop) (p : Nat) (v : UV) (h : Ux w F p v) : Calls Try.prog 42 #[.pointer (some ⟨p, 0, none⟩)] w fun e w' => e = .returned (.int .u8 v.tca) ∧ ∃ F', Ux w' F' p v.tcv ∧ Tn w w' F F' := by
  obtain ⟨a, b, h1, ok, hF⟩ := h
  have hc := u_cause w p a b v h1 ok
  have c4 := h1.c4
  have c13 := h1.c13
  have z13 := h1.fz 13
  obtain ⟨b0, b1⟩ := cau_in v
  have HO : Hid (bits BinOp.or IntKind.u8 v.cau 192 = v.cau + 192) := by
    have := or_192 ⟨v.cau.toNat, by omega⟩
    simp only [Int.toNat_of_nonneg b0] at this
    exact this
  have HT : Hid (v.tca = if v.h 2 = 0 then v.cau else v.cau + 192) := rfl
  generalize v.tca = c at *
  by_cases q : v.cau = 2
  · have e1 : v.tcv = { v with em := false } := by unfold UV.tcv; rw [if_pos q]
    rw [e1]
    have HP := hid (h1.one hF 13 (.bool false) { v with em := false } ⟨ok.h, ok.d, ok.l, ok.q, ok.s⟩ rfl rfl rfl)
    clear h1 ok hF
    by_cases r : v.h 2 = 0 <;>
    (go_enter Try.func42, Try.ntmps42
     go_wp2_with (go_at_call 46; refine hc.mono ?_; rintro e w' ⟨rfl, hw⟩; obtain rfl := hw.symm)
     go_ret
     refine ⟨ret_int ?_, HP.out⟩
     rw [HT.out]
     have := HO.out
     simp_all)
  · have e1 : v.tcv = v := by unfold UV.tcv; rw [if_neg q]
    rw [e1]
    have HP : Hid (∃ F', Ux w F' p v ∧ Tn w w F F') := ⟨F, ⟨a, b, h1, ok, hF⟩, .refl w F⟩
    clear h1 ok hF
    by_cases r : v.h 2 = 0 <;>
    (go_enter Try.func42, Try.ntmps42
     go_wp2_with (go_at_call 46; refine hc.mono ?_; rintro e w' ⟨rfl, hw⟩; obtain rfl := hw.symm)
     go_ret
     refine ⟨ret_int ?_, HP.out⟩
     rw [HT.out]
     have := HO.out
     simp_all)
theorem u_Irq (w : World) (F : Nat → Prop) (p : Nat) (v : UV) (h : Ux w F p v) : Calls Try.prog 20 #[.pointer (some ⟨p, 0, none⟩)] w fun e w' => e = .returned (.bool (v.cau != 1)) ∧ w' = w := by
  obtain ⟨a, b, h1, ok, hF⟩ := h
  have hc := u_cause w p a b v h1 ok
  obtain ⟨b0, b1⟩ := cau_in v
  clear h1 ok hF
  generalize v.cau = c at *
  go_enter Try.func20, Try.ntmps20
  go_wp2_with (go_at_call 46; refine hc.mono ?_; rintro e w' ⟨rfl, hw⟩; obtain rfl := hw.symm)
  go_ret
  exact ⟨rfl, rfl⟩
end Go.Proofs.Ytmpldaenakenlaa
namespace Go.Proofs.Ytmpldaenakenlaa
open Go.RowKit
open C (Only hid Still ret_bool ret_int)
set_option linter.unusedVariables false
set_option maxRecDepth 100000

/-- cells stored one after another: the block behind it -/
theorem cells_put (g : Nat) (t : TypeId) : ∀ (vs : List Value) (o : Nat) (w : World) (cur : Array Value), w.heap[g]? = some (.cells cur t (0, 0)) → o + vs.length ≤ cur.size →
    ∃ cur', (w.setCells g o vs).heap[g]? = some (.cells cur' t (0, 0)) ∧ cur'.size = cur.size ∧ (∀ j, j < o → cur'[j]? = cur[j]?) ∧ (∀ j, j < vs.length → cur'[o + j]? = vs[j]?) ∧ (∀ j, o + vs.length ≤ j → cur'[j]? = cur[j]?) ∧ Only (· = g) w (w.setCells g o vs)
  | [], o, w, cur, h, _ => ⟨cur, h, rfl, fun _ _ => rfl, fun j hj => by simp at hj, fun _ _ => rfl, .refl w⟩
  | v :: r, o, w, cur, h, hl => by
    simp only [List.length_cons] at hl
    obtain ⟨cur', h1, h2, h3, h4, h5, h6⟩ := cells_put g t r (o + 1) (w.setCell ⟨g, o, none⟩ v) (cur.setIfInBounds o v) (setRowB w g o _ _ _ _ h rfl) (by simp; omega)
    refine ⟨cur', h1, by rw [h2]; simp, fun j hj => ?_, fun j hj => ?_, fun j hj => ?_, (only_c w g o v).trans h6⟩
    · rw [h3 j (by omega), Array.getElem?_setIfInBounds, if_neg (by omega)]
    · rcases Nat.eq_zero_or_pos j with z | z
      · subst z
        rw [Nat.add_zero, h3 o (by omega), Array.getElem?_setIfInBounds, if_pos rfl, if_pos (by omega)]
        rfl
      · obtain ⟨i, rfl⟩ : ∃ i, j = i + 1 := ⟨j - 1, by omega⟩
        rw [show o + (i + 1) = o + 1 + i by omega, h4 i (by simp at hj; omega)]
        rfl
    · simp only [List.length_cons] at hj
      rw [h5 j (by omega), Array.getElem?_setIfInBounds, if_neg (by omega)]
theorem zero_u8 (w : World) : (zeroValue 5).run Try.prog w = .ok (.int .u8 0) w := Try.zeroValue5 w
theorem l_Delete (w : World) (g n cap : Nat) (cur : Array Value) (x : Int) (l : List Int) (hg : w.heap[g]? = some (.cells cur 5 (0, 0))) (hs : cur.size = cap) (hn : n = l.length + 1) (hc : n ≤ cap) (hm : cap ≤ 9223372036854775807) (ht : cur.toList.take n = bys (x :: l)) :
    Calls Try.prog 55 #[.slice (some ⟨g, 0, none⟩) n cap, .int .i64 0, .int .i64 1] w fun e w' => e = .returned (.slice (some ⟨g, 0, none⟩) (n - 1) cap) ∧ w'.ownsRow 0 5 1 (.slice (some ⟨g, 0, none⟩) (n - 1) cap) l.length (bys l) ∧ Only (· = g) w w' := by
  obtain ⟨i0, hi0, hz0, hz1, hz2⟩ := info_parts info_u8
  have hget : ∀ j, j < n → cur[j]? = (bys (x :: l))[j]? := fun j hj => by
    rw [← ht, List.getElem?_take_of_lt hj]; simp
  obtain ⟨cu1, k1, k2, k3, k4, k5, k6⟩ := cells_put g 5 (bys l) 0 w.drew cur hg (by rw [bys_len]; omega)
  obtain ⟨W1, hW1⟩ : ∃ W1, W1 = w.drew.setCells g (0 + 0 * 1) (bys l) := ⟨_, rfl⟩
  have hW1' : W1 = w.drew.setCells g 0 (bys l) := hW1
  rw [← hW1'] at k1 k6
  obtain ⟨cu2, m1, m2, m3, m4, m5, m6⟩ := cells_put g 5 [.int .u8 0] (n - 1) W1 cu1 k1 (by simp; omega)
  have hcell : ∀ (W : World) (c : Array Value), W.heap[g]? = some (.cells c 5 (0, 0)) → ∀ j, j < c.size → (W.cell? ⟨g, j, none⟩).isSome = true ∧ W.frozen? ⟨g, j, none⟩ = false := fun W c hW j hj => by
    refine ⟨?_, frozen_of_row W g j _ _ hW⟩
    rw [cell_of_row W g j _ _ _ hW]
    simp [hj]
  have hcl : ∀ ty, (Builtin.clear_ #[26] ty #[.slice (some ⟨g, n - 1, none⟩) 1 (cap - (n - 1))]).run Try.prog W1 = .ok (.tuple #[]) (W1.setCells g (n - 1) (List.replicate 1 (.int .u8 0))) := fun ty =>
    Lib.run_clear_slice W1 _ _ ty _ u_su8 zero_u8 rfl rfl g (n - 1) 1 _ (by omega) (fun j hj => (hcell W1 cu1 k1 _ (by omega)).1) (fun j hj => (hcell W1 cu1 k1 _ (by omega)).2)
  obtain ⟨A, hA, hsrc⟩ : ∃ A : Addr, (if cap = 1 then some (⟨g, 0, none⟩ : Addr) else some ⟨g, 1, none⟩) = some A ∧ Hid (∀ t u, (bys l)[t]? = some u → w.drew.cell? (A.add t) = some u) := by
    by_cases h : cap = 1
    · refine ⟨⟨g, 0, none⟩, by simp [h], fun t u hu => ?_⟩
      have h0 : (bys l).length = 0 := by rw [bys_len]; omega
      rw [List.length_eq_zero_iff.1 h0] at hu
      simp at hu
    · refine ⟨⟨g, 1, none⟩, by simp [h], fun t u hu => ?_⟩
      have ht' : t < l.length := by
        have := (List.getElem?_eq_some_iff.1 hu).1
        rwa [bys_len] at this
      rw [C.addr_add]
      show w.cell? _ = _
      rw [cell_of_row w g _ _ _ _ hg, hget _ (by omega), Nat.add_comm]
      exact hu
  have s1 : Hid ((bys l).length = l.length * 1) := by rw [bys_len, Nat.mul_one]; rfl
  have s3 : Hid (∀ t, t < (bys l).length → (w.drew.cell? ⟨g, 0 + 0 * 1 + t, none⟩).isSome = true ∧ w.drew.frozen? ⟨g, 0 + 0 * 1 + t, none⟩ = false) := fun t h => by
    rw [bys_len] at h
    have := hcell w cur hg (0 + 0 * 1 + t) (by omega)
    exact this
  have hW : Hid (W1 = w.drew.setCells g (0 + 0 * 1) (bys l)) := hW1
  have HE : Hid (((W1.setCells g (n - 1) [.int .u8 0]).ownsRow 0 5 1 (.slice (some ⟨g, 0, none⟩) (n - 1) cap) l.length (bys l)) ∧ Only (· = g) w (W1.setCells g (n - 1) [.int .u8 0])) := by
    refine ⟨⟨by rw [bys_len]; omega, .inr ⟨g, cap, cu2, by rw [hn]; rfl, Nat.zero_le _, m1, by omega, hm, by rw [m2, k2]; omega, ?_⟩⟩, (show Only (· = g) w W1 from ⟨k6.os, k6.tape, k6.output, k6.size, k6.block⟩).trans m6⟩
    apply List.ext_getElem?
    intro j
    rcases Nat.lt_or_ge j l.length with z | z
    · rw [List.getElem?_take_of_lt (by omega), Array.getElem?_toList, m3 j (by omega)]
      have := k4 j (by rw [bys_len]; exact z)
      rwa [Nat.zero_add] at this
    · rw [List.getElem?_eq_none (by simp; omega), List.getElem?_eq_none (by rw [bys_len]; omega)]
  subst hn
  simp only [Nat.add_sub_cancel] at *
  have h1l : (1 : Int) ≤ (l.length : Int) + 1 := by omega
  clear hW1 hW1' k1 k2 k3 k4 k5 k6 m1 m2 m3 m4 m5 m6 hcell hget ht hg
  go_enter Try.func55, Try.ntmps55
  go_wp2_with fail
  go_region_law (refine step_append_room rfl (.tmp 22) (.tmp 25) 26 rfl 5 i0 1 u_su8 hi0 hz1 g 0 0 cap (by simp [Act.eval, Act.put]) A l.length (cap - 1) (bys l) (by simp [Act.eval, Act.put]) s1.out hsrc.out (bys_one l) (by omega) s3.out ?_; rw [← hW.out])
  go_wp2
  go_ret
  exact ⟨rfl, HE.out.1, HE.out.2⟩
theorem own_head {w : World} {u : Value} {x : Int} {l : List Int} (h : w.ownsRow 0 5 1 u (l.length + 1) (bys (x :: l))) : ∃ g cap cur, u = .slice (some ⟨g, 0, none⟩) (l.length + 1) cap ∧ w.heap[g]? = some (.cells cur 5 (0, 0)) ∧ cur.size = cap ∧ l.length + 1 ≤ cap ∧ cap ≤ 9223372036854775807 ∧ cur.toList.take (l.length + 1) = bys (x :: l) := by
  rcases h.2 with ⟨_, z⟩ | ⟨g, cap, cur, h1, h2, h3, h4, h5, h6, h7⟩
  · omega
  · exact ⟨g, cap, cur, h1, h3, by omega, h4, h5, by simpa using h7⟩
def UV.nxt (v : UV) : Int × UV := match v.q with | [] => (0, v) | x :: l => (x, { v with q := l })
theorem u_next (w : World) (F : Nat → Prop) (p : Nat) (v : UV) (h : Ux w F p v) : Calls Try.prog 41 #[.pointer (some ⟨p, 0, none⟩)] w fun e w' => e = .returned (.int .u8 v.nxt.1) ∧ ∃ F', Ux w' F' p v.nxt.2 ∧ Tn w w' F F' := by
  obtain ⟨a, b, h1, ok, hF⟩ := h
  have c0 := h1.c0
  have z0 := h1.fz 0
  have H := hid h1
  have OK := hid ok
  have HF := hid hF
  have hl := ok.l
  cases e : v.q with
  | nil =>
    have e1 : v.nxt = (0, v) := by unfold UV.nxt; rw [e]
    rw [e1]
    obtain ⟨ad, cp, rfl⟩ := own_form h1.q
    rw [e] at c0
    clear h1 ok hF
    go_enter Try.func41, Try.ntmps41
    go_wp2
    go_ret
    exact ⟨rfl, F, ⟨_, b, H.out, OK.out, HF.out⟩, .refl w F⟩
  | cons x l =>
    have e1 : v.nxt = (x, { v with q := l }) := by unfold UV.nxt; rw [e]
    rw [e1]
    have hq := h1.q
    rw [e] at hq hl
    obtain ⟨g, cap, cur, rfl, hg, hs, hc, hm, ht⟩ := own_head hq
    have hD := l_Delete w g (l.length + 1) cap cur x l hg hs rfl hc hm ht
    have cg : w.cell? ⟨g, 0, none⟩ = some (.int .u8 x) := by
      rw [cell_of_row w g 0 _ _ _ hg]
      have : (cur.toList.take (l.length + 1))[0]? = some (.int .u8 x) := by rw [ht]; rfl
      rw [List.getElem?_take_of_lt (by omega)] at this
      simpa using this
    have hgp : g ≠ p := own_ne hq h1.top (by decide) g rfl
    have HZ : Hid (∀ w3, Only (· = g) w w3 → w3.heap[p]? = w.heap[p]?) := fun w3 ho => ho.block p (lt_of_block h1.top) fun z => hgp z.symm
    simp only [Nat.add_sub_cancel] at hD
    have hl1 : l.length + 1 ≤ 9223372036854775807 := by omega
    clear h1 ok hF hq hg ht hs
    go_enter Try.func41, Try.ntmps41
    go_wp2_with (go_at_call 55; refine hD.mono ?_; rintro r w2 ⟨rfl, hown, ho⟩; have HO := hid hown; have HT := hid ho; have y4 : w2.cell? ⟨p, 0, none⟩ = some (.slice (some ⟨g, 0, none⟩) (l.length + 1) cap) := (World.cell?_of_block (w := w) (HZ.out w2 ho)).trans (by simpa [e] using c0); have y8 : w2.frozen? ⟨p, 0, none⟩ = false := (World.frozen?_of_block (w := w) (HZ.out w2 ho)).trans z0; clear hown ho)
    go_ret
    refine ⟨rfl, ?_⟩
    have hg1 : Only (Ug (.slice (some ⟨g, 0, none⟩) (l.length + 1) cap)) w w2 := HT.out.mono fun k _ z => by subst z; rfl
    exact Ux.mk HF.out (H.out.newq (.slice (some ⟨g, 0, none⟩) l.length cap) l HO.out hg1 fun k hk => .inl hk) ⟨OK.out.h, OK.out.d, by have := hl; simp at this; show l.length ≤ 16; omega, fun y hy => OK.out.q y (by rw [e]; exact List.mem_cons_of_mem _ hy), OK.out.s⟩ ((hg1.mono fun k _ z => .inr (.inl z)).setCell (.inl (.inl rfl)) _) (fun k hk => .inl hk) fun k hk => .inl hk
theorem eq_nilB (w : World) (a : Option Addr) (l c : Nat) : (binOp .eql 26 (.slice a l c) (.slice none 0 0)).run Try.prog w = .ok (.bool a.isNone) w := by
  simp only [binOp]
  simp [run_equal_slice_nil w 26 5 a l c u_su8]
theorem l_Clone (w : World) (u : Value) (l : List Int) (hu : w.ownsRow 0 5 1 u l.length (bys l)) (hn : l.length ≤ 140737488355328) : Calls Try.prog 47 #[u] w fun r w' => ∃ v, r = .returned v ∧ w'.ownsRow 0 5 1 v l.length (bys l) ∧ Below w.heap.size w w' := by
  obtain ⟨i0, hi, hz0, hz1, hz2⟩ := info_parts info_u8
  have hne := eq_nilB
  have hlen := hu.1
  rcases hu.2 with ⟨rfl, h0⟩ | ⟨g, cap, cur, rfl, -, hg, hc, hcm, hcs, ht⟩
  · have HU := hid hu
    clear hu hlen
    go_enter Try.func47, Try.ntmps47
    go_wp2
    go_ret
    exact ⟨_, rfl, HU.out, .refl _ _⟩
  · have HC : Hid (∀ (o : Obj) j x, (bys l)[j]? = some x → (w.alloc o).cell? ((⟨g, 0, none⟩ : Addr).add j) = some x) := fun o j x hx => by
      rw [C.addr_add, Nat.zero_add, cell_of_row (w.alloc o) g j _ _ _ ((Below.heap_alloc w _ _ (lt_of_block hg)).trans hg)]
      rw [← ht, List.getElem?_take] at hx
      split at hx
      · simpa using hx
      · cases hx
    have H1 := hid (bys_one l)
    clear hu hg ht
    go_enter Try.func47, Try.ntmps47
    go_wp2_with (at_builtin; refine wpList_append_own _ rfl _ _ 26 rfl w.heap.size 5 i0 (.int .u8 0) 1 1 u_su8 hi hz0 hz1 hz2 rfl (by decide) _ 0 [] rfl (World.ownsRow_lit w #[] 0 (Nat.le_refl _) (by decide) rfl) ⟨g, 0, none⟩ l.length cap (bys l) rfl (by omega) (HC.out _) H1.out (by unfold maxLen; omega) (by omega) (by simp) ?_; intro v' w2 hown hgrow _; have HO3 := hid hown; have HG3 := hid hgrow; clear hown hgrow)
    go_ret
    have e1 := HO3.out
    rw [Nat.zero_add, List.nil_append] at e1
    refine ⟨v', rfl, ⟨e1.1, e1.2.imp id fun ⟨g', cap', cur', q1, q2, q3⟩ => ⟨g', cap', cur', q1, Nat.zero_le _, q3⟩⟩, ((Below.refl _ _).alloc (Nat.le_refl _) _).grown HG3.out (by simp) (fun r q => ?_)⟩
    obtain rfl : w.heap.size = r := by simpa [Value.ownBlock, Act.eval] using q
    exact Nat.le_refl _
theorem u_Out (w : World) (F : Nat → Prop) (p : Nat) (v : UV) (h : Ux w F p v) (hn : v.s.length ≤ 140737488355328) : Calls Try.prog 23 #[.pointer (some ⟨p, 0, none⟩)] w fun r w' => ∃ u, r = .returned u ∧ w'.ownsRow 0 5 1 u v.s.length (bys v.s) ∧ Below w.heap.size w w' := by
  obtain ⟨a, b, h1, ok, hF⟩ := h
  have c0 := h1.c1
  have hC := l_Clone w b v.s h1.s hn
  clear h1 ok hF
  go_enter Try.func23, Try.ntmps23
  go_wp2_with (go_at_call 47; refine hC.mono ?_; rintro r w2 ⟨u, rfl, hown, hb⟩; have HO := hid hown; have HB := hid hb; clear hown hb)
  go_ret
  exact ⟨u, rfl, HO.out, HB.out⟩
end Go.Proofs.Ytmpldaenakenlaa
namespace Go.Proofs.Ytmpldaenakenlaa
open Go.RowKit
open C (Only hid Still ret_bool ret_int)
set_option linter.unusedVariables false
set_option maxRecDepth 100000

def up1 (f : Nat → Int) (i : Nat) (x : Int) : Nat → Int := fun j => if j = i then x else f j
theorem up1_byt {f : Nat → Int} (h : ∀ i, Byt (f i)) (i : Nat) {x : Int} (hx : Byt x) : ∀ j, Byt (up1 f i x j) := fun j => by
  unfold up1
  split
  · exact hx
  · exact h j
def UV.rd (v : UV) (o : Int) : Int × UV :=
  if o = 0 then (if v.lat then (v.d 0, v) else v.nxt) else if o = 1 then ((if v.lat then v.d 1 else v.h 1), v) else if o = 2 then (v.tca, v.tcv) else if o = 3 then (v.h 3, v) else if o = 4 then (v.h 4, v)
  else if o = 5 then (v.lin, { v with ov := false }) else if o = 6 then (176, v) else if o = 7 then (v.h 7, v) else (0, v)
def UV.wr (v : UV) (o x : Int) : UV :=
  if o = 0 then (if v.lat then { v with d := up1 v.d 0 x } else { v with s := v.s ++ [x], em := true })
  else if o = 1 then (if v.lat then { v with d := up1 v.d 1 x } else { v with h := up1 v.h 1 (x % 16), em := v.em || (bt x 2 && !bt (v.h 1) 2) })
  else if o = 2 then (if bt x 2 then { v with h := up1 v.h 2 (x % 2), q := [] } else { v with h := up1 v.h 2 (x % 2) })
  else if o = 3 then { v with h := up1 v.h 3 x } else if o = 4 then { v with h := up1 v.h 4 (x % 32) } else if o = 7 then { v with h := up1 v.h 7 x } else v
set_option maxHeartbeats 4000000 in
theorem u_Read (w : World) (F : Nat → Prop) (p : Nat) (v : UV) (o : Int) (h : Ux w F p v) (o0 : 0 ≤ o) (o1 : o < 18446744073709551616) : Calls Try.prog 14 #[.pointer (some ⟨p, 0, none⟩), .int .u64 o] w fun e w' => e = .returned (.int .u8 (v.rd o).1) ∧ ∃ F', Ux w' F' p (v.rd o).2 ∧ Tn w w' F F' := by
  have H0 : Hid (∃ F', Ux w F' p v ∧ Tn w w F F') := ⟨F, h, .refl w F⟩
  have hN := u_next w F p v h
  have hT := u_tellCause w F p v h
  have hL := u_tellLine w F p v h
  obtain ⟨a, b, h1, ok, hF⟩ := h
  have hl := u_latched w p a b v h1 ok
  have c3 := h1.c3
  have c5 := h1.c5
  have c6 := h1.c6
  have c9 := h1.c9
  have c10 := h1.c10
  have c11 := h1.c11
  clear h1 ok hF
  by_cases q0 : o = 0
  · subst q0
    have e1 : v.rd 0 = if v.lat then (v.d 0, v) else v.nxt := rfl
    rw [e1]
    clear e1
    cases e : v.lat <;> rw [e] at hl
    · rw [if_neg (by decide)]
      go_enter Try.func14, Try.ntmps14
      go_wp2_with (first | (go_at_call 40; refine hl.mono ?_; rintro e w' ⟨rfl, hw⟩; obtain rfl := hw.symm) | (go_at_call 41; refine hN.mono ?_; rintro e w' ⟨rfl, hw⟩; have HW := hid hw; clear hw))
      go_ret
      exact ⟨rfl, HW.out⟩
    · rw [if_pos rfl]
      go_enter Try.func14, Try.ntmps14
      go_wp2_with (first | (go_at_call 40; refine hl.mono ?_; rintro e w' ⟨rfl, hw⟩; obtain rfl := hw.symm))
      go_ret
      exact ⟨rfl, H0.out⟩
  by_cases q1 : o = 1
  · subst q1
    have e1 : v.rd 1 = ((if v.lat then v.d 1 else v.h 1), v) := rfl
    rw [e1]
    clear e1
    cases e : v.lat <;> rw [e] at hl
    · rw [if_neg (by decide)]
      go_enter Try.func14, Try.ntmps14
      go_wp2_with (first | (go_at_call 40; refine hl.mono ?_; rintro e w' ⟨rfl, hw⟩; obtain rfl := hw.symm))
      go_ret
      exact ⟨rfl, H0.out⟩
    · rw [if_pos rfl]
      go_enter Try.func14, Try.ntmps14
      go_wp2_with (first | (go_at_call 40; refine hl.mono ?_; rintro e w' ⟨rfl, hw⟩; obtain rfl := hw.symm))
      go_ret
      exact ⟨rfl, H0.out⟩
  by_cases q2 : o = 2
  · subst q2
    have e1 : v.rd 2 = (v.tca, v.tcv) := rfl
    rw [e1]
    go_enter Try.func14, Try.ntmps14
    go_wp2_with (first | (go_at_call 42; refine hT.mono ?_; rintro e w' ⟨rfl, hw⟩; have HW := hid hw; clear hw))
    go_ret
    exact ⟨rfl, HW.out⟩
  by_cases q3 : o = 3
  · subst q3
    have e1 : v.rd 3 = (v.h 3, v) := rfl
    rw [e1]
    go_enter Try.func14, Try.ntmps14
    go_wp2
    go_ret
    exact ⟨rfl, H0.out⟩
  by_cases q4 : o = 4
  · subst q4
    have e1 : v.rd 4 = (v.h 4, v) := rfl
    rw [e1]
    go_enter Try.func14, Try.ntmps14
    go_wp2
    go_ret
    exact ⟨rfl, H0.out⟩
  by_cases q5 : o = 5
  · subst q5
    have e1 : v.rd 5 = (v.lin, { v with ov := false }) := rfl
    rw [e1]
    go_enter Try.func14, Try.ntmps14
    go_wp2_with (first | (go_at_call 43; refine hL.mono ?_; rintro e w' ⟨rfl, hw⟩; have HW := hid hw; clear hw))
    go_ret
    exact ⟨rfl, HW.out⟩
  by_cases q6 : o = 6
  · subst q6
    have e1 : v.rd 6 = (176, v) := rfl
    rw [e1]
    go_enter Try.func14, Try.ntmps14
    go_wp2
    go_ret
    exact ⟨rfl, H0.out⟩
  by_cases q7 : o = 7
  · subst q7
    have e1 : v.rd 7 = (v.h 7, v) := rfl
    rw [e1]
    go_enter Try.func14, Try.ntmps14
    go_wp2
    go_ret
    exact ⟨rfl, H0.out⟩
  have e1 : v.rd o = (0, v) := by unfold UV.rd; rw [if_neg q0, if_neg q1, if_neg q2, if_neg q3, if_neg q4, if_neg q5, if_neg q6, if_neg q7]
  rw [e1]
  go_enter Try.func14, Try.ntmps14
  go_wp2
  go_ret
  exact ⟨rfl, H0.out⟩
end Go.Proofs.Ytmpldaenakenlaa
namespace Go.Proofs.Ytmpldaenakenlaa
open Go.RowKit
open C (Only hid Still ret_bool ret_int)
set_option linter.unusedVariables false
set_option maxRecDepth 100000

theorem and_1 : ∀ x : Fin 256, bits BinOp.and IntKind.u8 (x.val : Int) 1 = (x.val : Int) % 2 := by decide +kernel
theorem and_31 : ∀ x : Fin 256, bits BinOp.and IntKind.u8 (x.val : Int) 31 = (x.val : Int) % 32 := by decide +kernel
theorem and_15 : ∀ x : Fin 256, bits BinOp.and IntKind.u8 (x.val : Int) 15 = (x.val : Int) % 16 := by decide +kernel
theorem and_n2a : ∀ (x : Fin 16) (y : Fin 256), (bits BinOp.and IntKind.u8 (bits BinOp.andNot IntKind.u8 (x.val : Int) (y.val : Int)) 2 != 0) = (bt (x.val : Int) 2 && !bt (y.val : Int) 2) := by decide +kernel
theorem and_n2b : ∀ x : Fin 256, bt ((x.val : Int) % 16) 2 = bt (x.val : Int) 2 := by decide +kernel
theorem byt_fin {x : Int} (h : Byt x) : ∃ y : Fin 256, x = (y.val : Int) := ⟨⟨x.toNat, by have := h.1; have := h.2; omega⟩, by have := h.1; simp; omega⟩
theorem byt_2 {x : Int} (h : Byt x) : Byt (x % 2) := ⟨by omega, by omega⟩
theorem byt_16 {x : Int} (h : Byt x) : Byt (x % 16) := ⟨by omega, by omega⟩
theorem byt_32 {x : Int} (h : Byt x) : Byt (x % 32) := ⟨by omega, by omega⟩
theorem a1 {x : Int} (h : Byt x) : bits BinOp.and IntKind.u8 x 1 = x % 2 := by obtain ⟨y, rfl⟩ := byt_fin h; exact and_1 y
theorem a15 {x : Int} (h : Byt x) : bits BinOp.and IntKind.u8 x 15 = x % 16 := by obtain ⟨y, rfl⟩ := byt_fin h; exact and_15 y
theorem a31 {x : Int} (h : Byt x) : bits BinOp.and IntKind.u8 x 31 = x % 32 := by obtain ⟨y, rfl⟩ := byt_fin h; exact and_31 y
theorem a31' {x : Int} (h : Byt x) : bits BinOp.and IntKind.u8 (x % 16) 31 = x % 16 := by
  rw [a31 (byt_16 h)]
  omega
theorem an2 {x y : Int} (h : Byt x) (k : Byt y) : (bits BinOp.and IntKind.u8 (bits BinOp.andNot IntKind.u8 (x % 16) y) 2 != 0) = (bt x 2 && !bt y 2) := by
  obtain ⟨a, rfl⟩ := byt_fin h
  obtain ⟨b, rfl⟩ := byt_fin k
  rw [← and_n2b a]
  have := and_n2a ⟨a.val % 16, by omega⟩ b
  simpa using this
set_option maxHeartbeats 4000000 in
theorem u_Write (w : World) (F : Nat → Prop) (p : Nat) (v : UV) (o x : Int) (h : Ux w F p v) (o0 : 0 ≤ o) (o1 : o < 18446744073709551616) (hx : Byt x) (hs : v.s.length < 140737488355328) : Calls Try.prog 16 #[.pointer (some ⟨p, 0, none⟩), .int .u64 o, .int .u8 x] w fun e w' => e = .returned (.tuple #[]) ∧ ∃ F', Ux w' F' p (v.wr o x) ∧ Tn w w' F F' := by
  have H0 : Hid (∃ F', Ux w F' p v ∧ Tn w w F F') := ⟨F, h, .refl w F⟩
  have hN := u_send w F p v x h hx hs
  obtain ⟨a, b, h1, ok, hF⟩ := h
  have hl := u_latched w p a b v h1 ok
  have H := hid h1
  have OK := hid ok
  have HF := hid hF
  have HX := hid hx
  obtain ⟨x0, x1⟩ := hx
  have kx1 := a1 HX.out
  have kx15 := a15 HX.out
  have kx31 := a31 HX.out
  have kx16 := a31' HX.out
  have kn2 := an2 HX.out (ok.h 1)
  have c0 := h1.c0
  have c3 := h1.c3
  have c4 := h1.c4
  have c5 := h1.c5
  have c6 := h1.c6
  have c9 := h1.c9
  have c10 := h1.c10
  have c11 := h1.c11
  have c13 := h1.c13
  have z0 := h1.fz 0
  have z3 := h1.fz 3
  have z4 := h1.fz 4
  have z5 := h1.fz 5
  have z6 := h1.fz 6
  have z9 := h1.fz 9
  have z10 := h1.fz 10
  have z11 := h1.fz 11
  have z13 := h1.fz 13
  obtain ⟨y0, y1⟩ := ok.h 1
  clear h1 ok hF
  by_cases q0 : o = 0
  · subst q0
    have e1 : v.wr 0 x = if v.lat then { v with d := up1 v.d 0 x } else { v with s := v.s ++ [x], em := true } := rfl
    rw [e1]
    clear e1
    cases e : v.lat <;> rw [e] at hl
    · rw [if_neg (by decide)]
      go_enter Try.func16, Try.ntmps16
      go_wp2_with (first | (go_at_call 40; refine hl.mono ?_; rintro e w' ⟨rfl, hw⟩; obtain rfl := hw.symm) | (go_at_call 45; refine hN.mono ?_; rintro e w' ⟨rfl, hw⟩; have HW := hid hw; clear hw))
      go_returns
      exact ⟨rfl, HW.out⟩
    · rw [if_pos rfl]
      go_enter Try.func16, Try.ntmps16
      go_wp2_with (first | (go_at_call 40; refine hl.mono ?_; rintro e w' ⟨rfl, hw⟩; obtain rfl := hw.symm))
      go_returns
      exact ⟨rfl, H.out.one HF.out 10 _ { v with d := up1 v.d 0 x } ⟨OK.out.h, up1_byt OK.out.d 0 HX.out, OK.out.l, OK.out.q, OK.out.s⟩ rfl rfl rfl⟩
  by_cases q1 : o = 1
  · subst q1
    have e1 : v.wr 1 x = if v.lat then { v with d := up1 v.d 1 x } else { v with h := up1 v.h 1 (x % 16), em := v.em || (bt x 2 && !bt (v.h 1) 2) } := rfl
    rw [e1]
    clear e1
    cases e : v.lat <;> rw [e] at hl
    · rw [if_neg (by decide)]
      have HE : Hid (∀ m, m = (v.em || (bt x 2 && !bt (v.h 1) 2)) → ∃ F', Ux ((w.setCell ⟨p, 13, none⟩ (.bool m)).setCell ⟨p, 3, none⟩ (.int .u8 (x % 16))) F' p { v with h := up1 v.h 1 (x % 16), em := v.em || (bt x 2 && !bt (v.h 1) 2) } ∧ Tn w ((w.setCell ⟨p, 13, none⟩ (.bool m)).setCell ⟨p, 3, none⟩ (.int .u8 (x % 16))) F F') := fun m hm => by
        subst hm
        exact Ux.mk HF.out ((H.out.put 13 (.bool (v.em || (bt x 2 && !bt (v.h 1) 2))) { v with em := v.em || (bt x 2 && !bt (v.h 1) 2) } rfl rfl rfl).put 3 (.int .u8 (x % 16)) { v with h := up1 v.h 1 (x % 16), em := v.em || (bt x 2 && !bt (v.h 1) 2) } rfl rfl rfl) ⟨up1_byt OK.out.h 1 (byt_16 HX.out), OK.out.d, OK.out.l, OK.out.q, OK.out.s⟩ (((only_c w p 13 _).mono fun x _ z => .inl z).setCell (.inl (.inl rfl)) _) (fun k hk => .inl hk) fun k hk => .inl hk
      generalize (bt x 2 && !bt (v.h 1) 2) = n at *
      cases e2 : v.em <;> rw [e2] at c13
      · have HE2 := hid (HE.out n (by rw [e2]; rfl))
        rw [e2] at HE2
        clear HE
        go_enter Try.func16, Try.ntmps16
        go_wp2_with (first | (go_at_call 40; refine hl.mono ?_; rintro e w' ⟨rfl, hw⟩; obtain rfl := hw.symm))
        go_returns
        exact ⟨rfl, HE2.out⟩
      · have HE2 := hid (HE.out true (by rw [e2]; rfl))
        rw [e2] at HE2
        clear HE
        go_enter Try.func16, Try.ntmps16
        go_wp2_with (first | (go_at_call 40; refine hl.mono ?_; rintro e w' ⟨rfl, hw⟩; obtain rfl := hw.symm))
        go_returns
        exact ⟨rfl, HE2.out⟩
    · rw [if_pos rfl]
      go_enter Try.func16, Try.ntmps16
      go_wp2_with (first | (go_at_call 40; refine hl.mono ?_; rintro e w' ⟨rfl, hw⟩; obtain rfl := hw.symm))
      go_returns
      exact ⟨rfl, H.out.one HF.out 11 _ { v with d := up1 v.d 1 x } ⟨OK.out.h, up1_byt OK.out.d 1 HX.out, OK.out.l, OK.out.q, OK.out.s⟩ rfl rfl rfl⟩
  by_cases q2 : o = 2
  · subst q2
    have e1 : v.wr 2 x = if bt x 2 then { v with h := up1 v.h 2 (x % 2), q := [] } else { v with h := up1 v.h 2 (x % 2) } := rfl
    rw [e1]
    clear e1
    have hp := H.out.put 4 (.int .u8 (x % 2)) { v with h := up1 v.h 2 (x % 2) } rfl rfl rfl
    have o1 : Only (fun x => x = p ∨ Ug a x ∨ Ug b x) w (w.setCell ⟨p, 4, none⟩ (.int .u8 (x % 2))) := (only_c w p 4 _).mono fun x _ z => .inl z
    have ok1 : UOk { v with h := up1 v.h 2 (x % 2) } := ⟨up1_byt OK.out.h 2 (byt_2 HX.out), OK.out.d, OK.out.l, OK.out.q, OK.out.s⟩
    cases e : bt x 2
    · have HP := hid (Ux.mk HF.out hp ok1 o1 (fun k hk => .inl hk) fun k hk => .inl hk)
      rw [if_neg (by decide)]
      have e3 : (bits BinOp.and IntKind.u8 x 2 != 0) = false := e
      clear hp o1 ok1 e
      go_enter Try.func16, Try.ntmps16
      go_wp2
      go_returns
      exact ⟨rfl, HP.out⟩
    · have HP := hid (Ux.mk HF.out (hp.newq (w1 := w.setCell ⟨p, 4, none⟩ (.int .u8 (x % 2))) (.slice none 0 0) [] ⟨rfl, .inl ⟨rfl, rfl⟩⟩ (.refl _) fun k hk => (by cases hk)) ⟨ok1.h, ok1.d, Nat.zero_le _, fun x hx => (by cases hx), ok1.s⟩ (o1.setCell (.inl (.inl rfl)) _) (fun k hk => (by cases hk)) fun k hk => .inl hk)
      rw [if_pos rfl]
      have e3 : (bits BinOp.and IntKind.u8 x 2 != 0) = true := e
      clear hp o1 ok1 e
      go_enter Try.func16, Try.ntmps16
      go_wp2
      go_returns
      exact ⟨rfl, HP.out⟩
  by_cases q3 : o = 3
  · subst q3
    have e1 : v.wr 3 x = { v with h := up1 v.h 3 x } := rfl
    rw [e1]
    go_enter Try.func16, Try.ntmps16
    go_wp2
    go_returns
    exact ⟨rfl, H.out.one HF.out 5 _ { v with h := up1 v.h 3 x } ⟨up1_byt OK.out.h 3 HX.out, OK.out.d, OK.out.l, OK.out.q, OK.out.s⟩ rfl rfl rfl⟩
  by_cases q4 : o = 4
  · subst q4
    have e1 : v.wr 4 x = { v with h := up1 v.h 4 (x % 32) } := rfl
    rw [e1]
    go_enter Try.func16, Try.ntmps16
    go_wp2
    go_returns
    exact ⟨rfl, H.out.one HF.out 6 _ { v with h := up1 v.h 4 (x % 32) } ⟨up1_byt OK.out.h 4 (byt_32 HX.out), OK.out.d, OK.out.l, OK.out.q, OK.out.s⟩ rfl rfl rfl⟩
  by_cases q7 : o = 7
  · subst q7
    have e1 : v.wr 7 x = { v with h := up1 v.h 7 x } := rfl
    rw [e1]
    go_enter Try.func16, Try.ntmps16
    go_wp2
    go_returns
    exact ⟨rfl, H.out.one HF.out 9 _ { v with h := up1 v.h 7 x } ⟨up1_byt OK.out.h 7 HX.out, OK.out.d, OK.out.l, OK.out.q, OK.out.s⟩ rfl rfl rfl⟩
  have e1 : v.wr o x = v := by unfold UV.wr; rw [if_neg q0, if_neg q1, if_neg q2, if_neg q3, if_neg q4, if_neg q7]
  rw [e1]
  go_enter Try.func16, Try.ntmps16
  go_wp2
  go_returns
  exact ⟨rfl, H0.out⟩
end Go.Proofs.Ytmpldaenakenlaa
