/- Blocks of memory that hold bytes: which have turned, what stands in them. -/
import Derived.WalkKit
import Derived.ProofKit
import Derived.Outline
import Derived.Laws.CopyOwn
import Derived.Deep.RegionLaw
import Derived.Test.YtjkihlpckgaggaaGreatProg
import Derived.Laws.Bits64b
namespace Go.Proofs.YtjkihlpckgaggaaGreat.C
open Go.RowKit
set_option linter.unusedVariables false
set_option maxRecDepth 100000

theorem hid {p : Prop} (h : p) : Hid p := h
/-- only blocks of S, and new ones, have turned -/
structure Only (S : Nat → Prop) (w w' : World) : Prop where
  os : w'.os = w.os
  tape : w'.tape = w.tape
  output : w'.output = w.output
  size : w.heap.size ≤ w'.heap.size
  block : ∀ k, k < w.heap.size → ¬ S k → w'.heap[k]? = w.heap[k]?
theorem Only.refl {S : Nat → Prop} (w : World) : Only S w w := ⟨rfl, rfl, rfl, Nat.le_refl _, fun _ _ _ => rfl⟩
theorem Only.trans {S : Nat → Prop} {a b c : World} (h : Only S a b) (k : Only S b c) : Only S a c :=
  ⟨k.os.trans h.os, k.tape.trans h.tape, k.output.trans h.output, Nat.le_trans h.size k.size, fun i hi hs => (k.block i (Nat.lt_of_lt_of_le hi h.size) hs).trans (h.block i hi hs)⟩
theorem Only.mono {S T : Nat → Prop} {a b : World} (h : Only S a b) (hs : ∀ k, k < a.heap.size → S k → T k) : Only T a b :=
  ⟨h.os, h.tape, h.output, h.size, fun i hi ht => h.block i hi fun q => ht (hs i hi q)⟩
/-- two steps, the second of which may turn what the first has made -/
theorem Only.trans' {S T : Nat → Prop} {a b c : World} (h : Only S a b) (k : Only T b c) (hs : ∀ i, i < a.heap.size → T i → S i) : Only S a c :=
  ⟨k.os.trans h.os, k.tape.trans h.tape, k.output.trans h.output, Nat.le_trans h.size k.size, fun i hi q => (k.block i (Nat.lt_of_lt_of_le hi h.size) fun t => q (hs i hi t)).trans (h.block i hi q)⟩
theorem Only.alloc {S : Nat → Prop} {a w : World} (h : Only S a w) (o : Obj) : Only S a (w.alloc o) :=
  ⟨h.os, h.tape, h.output, Nat.le_trans h.size (by simp), fun k hk hs => (Below.heap_alloc w o k (Nat.lt_of_lt_of_le hk h.size)).trans (h.block k hk hs)⟩
theorem Only.drew {S : Nat → Prop} {a w : World} (h : Only S a w) : Only S a w.drew := ⟨h.os, h.tape, h.output, h.size, h.block⟩
theorem Only.setCell {S : Nat → Prop} {a w : World} (h : Only S a w) {p : Addr} (hp : S p.block ∨ a.heap.size ≤ p.block) (u : Value) : Only S a (w.setCell p u) :=
  ⟨h.os, h.tape, h.output, by have := h.size; simpa [World.setCell] using this, fun k hk hs => (Below.heap_setCell w p u k (by rintro rfl; rcases hp with q | q; exact hs q; omega)).trans (h.block k hk hs)⟩
theorem Only.setRow {S : Nat → Prop} {a w : World} (h : Only S a w) {g : Nat} (hp : S g ∨ a.heap.size ≤ g) (cs : Array Value) : Only S a (w.setRow g cs) :=
  ⟨h.os, h.tape, h.output, by have := h.size; simpa [World.setRow] using this, fun k hk hs => (setRow_other w g k cs (by rintro rfl; rcases hp with q | q; exact hs q; omega)).trans (h.block k hk hs)⟩
theorem Only.ofBelow {S : Nat → Prop} {a w : World} (h : Below a.heap.size a w) : Only S a w := ⟨h.os, h.tape, h.output, h.size, fun k hk _ => h.block k hk⟩
theorem Only.below {S : Nat → Prop} {a w : World} (h : Only S a w) (B : Nat) (hB : B ≤ a.heap.size) (hs : ∀ k, S k → B ≤ k) : Below B a w :=
  ⟨h.os, h.tape, h.output, h.size, fun k hk => h.block k (by omega) fun q => by have := hs k q; omega⟩
theorem Only.old {S : Nat → Prop} {a w : World} (h : Only S a w) {k : Nat} {o : Obj} (hk : a.heap[k]? = some o) (hs : ¬ S k) : w.heap[k]? = some o :=
  (h.block k (lt_of_block hk) hs).trans hk
theorem Only.cell {S : Nat → Prop} {a w : World} (h : Only S a w) {k : Nat} (o : Nat) (hk : k < a.heap.size) (hs : ¬ S k) : w.cell? ⟨k, o, none⟩ = a.cell? ⟨k, o, none⟩ :=
  World.cell?_of_block (w := a) (h.block k hk hs)

/-- nothing has turned but what was drawn -/
structure Still (w w' : World) : Prop where
  heap : w'.heap = w.heap
  os : w'.os = w.os
  tape : w'.tape = w.tape
  output : w'.output = w.output
theorem Still.refl (w : World) : Still w w := ⟨rfl, rfl, rfl, rfl⟩
theorem Still.drew {w w' : World} (h : Still w w') : Still w w'.drew := ⟨h.heap, h.os, h.tape, h.output⟩
theorem Still.only {w w' : World} (h : Still w w') {S : Nat → Prop} : Only S w w' := ⟨h.os, h.tape, h.output, by rw [h.heap]; exact Nat.le_refl _, fun k _ _ => by rw [h.heap]⟩
theorem Still.below {w w' : World} (h : Still w w') (B : Nat) : Below B w w' := ⟨h.os, h.tape, h.output, by rw [h.heap]; exact Nat.le_refl _, fun k _ => by rw [h.heap]⟩
theorem Still.cell {w w' : World} (h : Still w w') (a : Addr) : w'.cell? a = w.cell? a := World.cell?_of_block (w := w) (by rw [h.heap])
theorem ret_int {k : IntKind} {a b : Int} (h : a = b) : Ending.returned (.int k a) = .returned (.int k b) := by rw [h]
theorem ret_bool {a b : Bool} (h : a = b) : Ending.returned (.bool a) = .returned (.bool b) := by rw [h]

/-- bytes as they stand in a row: n of them, f s and so on -/
def row (f : Nat → Int) (s n : Nat) : List Value := (List.range n).map fun j => .int .u8 (f (s + j))
theorem row_length (f : Nat → Int) (s n : Nat) : (row f s n).length = n := by simp [row]
theorem row_get (f : Nat → Int) (s n j : Nat) (h : j < n) : (row f s n)[j]? = some (.int .u8 (f (s + j))) := by simp [row, h]
theorem row_one (f : Nat → Int) (s n : Nat) : ∀ v ∈ row f s n, v.oneCell' = true := by
  intro v hv
  simp only [row, List.mem_map] at hv
  obtain ⟨j, _, rfl⟩ := hv
  rfl
theorem row_congr {f g : Nat → Int} {s t n : Nat} (h : ∀ j, j < n → f (s + j) = g (t + j)) : row f s n = row g t n := by
  unfold row
  apply List.map_congr_left
  intro j hj
  rw [h j (by simpa using hj)]
theorem row_inj {f g : Nat → Int} {s t n : Nat} (h : row f s n = row g t n) (j : Nat) (hj : j < n) : f (s + j) = g (t + j) := by
  have a := row_get f s n j hj
  rw [h, row_get g t n j hj] at a
  simpa using a.symm
/-- f, but from 'off' on n numbers are g's -/
def put (f : Nat → Int) (off n : Nat) (g : Nat → Int) : Nat → Int := fun j => if off ≤ j ∧ j < off + n then g (j - off) else f j
theorem put_in (f : Nat → Int) (off n : Nat) (g : Nat → Int) (j : Nat) (h : j < n) : put f off n g (off + j) = g j := by
  unfold put; rw [if_pos (by omega)]; congr 1; omega
theorem put_in' (f : Nat → Int) (off n : Nat) (g : Nat → Int) (j : Nat) (h0 : off ≤ j) (h : j < off + n) : put f off n g j = g (j - off) := by
  unfold put; rw [if_pos (by omega)]
theorem put_out (f : Nat → Int) (off n : Nat) (g : Nat → Int) (j : Nat) (h : j < off ∨ off + n ≤ j) : put f off n g j = f j := by
  unfold put; rw [if_neg (by omega)]
theorem put_zero (f : Nat → Int) (off : Nat) (g : Nat → Int) : put f off 0 g = f := by
  funext j; exact put_out _ _ _ _ _ (by omega)
theorem put_more (f : Nat → Int) (off k n : Nat) (g : Nat → Int) : put (put f off k g) (off + k) n (fun j => g (k + j)) = put f off (k + n) g := by
  funext j
  by_cases h1 : off ≤ j ∧ j < off + k
  · rw [put_out _ _ _ _ _ (by omega), put_in' _ _ _ _ _ h1.1 h1.2, put_in' _ _ _ _ _ h1.1 (by omega)]
  · by_cases h2 : off + k ≤ j ∧ j < off + k + n
    · rw [put_in' _ _ _ _ _ h2.1 h2.2, put_in' _ _ _ _ _ (by omega) (by omega)]
      congr 1; omega
    · rw [put_out _ _ _ _ _ (by omega), put_out _ _ _ _ _ (by omega), put_out _ _ _ _ _ (by omega)]
theorem splice_row (f g : Nat → Int) (s N off n : Nat) (t : Nat) (h : off + n ≤ N) : splice (row f s N) off (row g t n) = row (put f (s + off) n (fun j => g (t + j))) s N := by
  apply List.ext_getElem?
  intro j
  unfold splice
  rcases Nat.lt_or_ge j off with h1 | h1
  · rw [List.getElem?_append_left (by simp [row_length]; omega), List.getElem?_take_of_lt h1, row_get _ _ _ _ (by omega), row_get _ _ _ _ (by omega), put_out _ _ _ _ _ (by omega)]
  · rw [List.getElem?_append_right (by simp [row_length]; omega)]
    have e1 : (List.take off (row f s N)).length = off := by simp [row_length]; omega
    rw [e1]
    rcases Nat.lt_or_ge j (off + n) with h2 | h2
    · rw [List.getElem?_append_left (by simp [row_length]; omega), row_get _ _ _ _ (by omega), row_get _ _ _ _ (by omega), put_in' _ _ _ _ _ (by omega) (by omega)]
      congr 4; omega
    · rw [List.getElem?_append_right (by simp [row_length]; omega), row_length, List.getElem?_drop]
      rcases Nat.lt_or_ge j N with h3 | h3
      · rw [show off + n + (j - off - n) = j by omega, row_get _ _ _ _ h3, row_get _ _ _ _ h3, put_out _ _ _ _ _ (by omega)]
      · rw [show off + n + (j - off - n) = j by omega, List.getElem?_eq_none (by simp [row_length]; omega), List.getElem?_eq_none (by simp [row_length]; omega)]
theorem set_row (f : Nat → Int) (s N j : Nat) (x : Int) (h : j < N) : (row f s N).toArray.setIfInBounds j (.int .u8 x) = (row (put f (s + j) 1 (fun _ => x)) s N).toArray := by
  have := splice_row f (fun _ => x) s N j 1 0 (by omega)
  rw [← this]
  apply Array.ext'
  simp only [Array.toList_setIfInBounds]
  apply List.ext_getElem?
  intro i
  have e : row (fun _ => x) 0 1 = [.int .u8 x] := rfl
  rw [e]
  unfold splice
  simp only [List.getElem?_set, List.getElem?_append, List.length_take, row_length, List.length_cons, List.length_nil]
  rcases Nat.lt_trichotomy i j with q | q | q
  · rw [if_neg (by omega), if_pos (by omega), List.getElem?_take_of_lt q]
  · subst q; rw [if_pos rfl, if_pos h, if_neg (by omega), if_pos (by omega)]; simp [Nat.min_eq_left (Nat.le_of_lt h)]
  · rw [if_neg (by omega), if_neg (by omega), if_neg (by omega), List.getElem?_drop]
    congr 1; simp [Nat.min_eq_left (Nat.le_of_lt h)]; omega
theorem row_cell {w : World} {g : Nat} {f : Nat → Int} {s N : Nat} {t : TypeId} (hg : w.heap[g]? = some (.cells (row f s N).toArray t (0, 0))) (j : Nat) (h : j < N) : w.cell? ⟨g, j, none⟩ = some (.int .u8 (f (s + j))) := by
  rw [cell_of_row w g j _ t _ hg]
  simpa using row_get f s N j h
theorem replicate_row (n : Nat) (s : Nat) : List.replicate n (Value.int .u8 0) = row (fun _ => 0) s n := by
  apply List.ext_getElem?
  intro j
  rcases Nat.lt_or_ge j n with h | h
  · rw [row_get _ _ _ _ h]; simp [h]
  · rw [List.getElem?_eq_none (by simpa using h), List.getElem?_eq_none (by simpa [row_length] using h)]
/-- copy, as one step of a region that draws its order: only the row that is copied into has turned -/
theorem step_copy_only {P : Program} {ops : Array Oper} {o : Oper} {a : Act} {w : World} {K : Act → World → Prop} {Q : Exit → Act → World → Prop} {E : Prop} (hgd : o.guard = none) (d s : Operand) (dT sT : TypeId)
    (ho : o.op = .call { callee := .builtin .copy, args := #[d, s], argTypes := #[dT, sT] }) (elem : TypeId) (hu : P.underlying dT = some (.slice elem)) (hsz : (P.info? elem).map (·.size) = some 1)
    (ad : Addr) (dLen dCap sLen sCap : Nat) (g off : Nat) (hd : a.eval d = .slice (some ⟨g, off, none⟩) dLen dCap) (hs : a.eval s = .slice (some ad) sLen sCap)
    (cur : List Value) (t : TypeId) (hg : w.heap[g]? = some (.cells cur.toArray t (0, 0))) (cs : List Value) (hn : cs.length = Nat.min sLen dLen)
    (hsrc : ∀ j v, cs[j]? = some v → w.cell? (ad.add j) = some v) (hfit : off + cs.length ≤ cur.length) (h1 : ∀ v ∈ cs, v.oneCell' = true)
    (h : ∀ w', Hid (w'.heap[g]? = some (.cells (splice cur off cs).toArray t (0, 0))) → Hid (Only (· = g) w w') → K (a.put o.dst (goInt cs.length)) w') :
    if Region.wanted o (yielded ops a.tmps) = true then Oper.wp P o a w K Q else E := by
  have hw : Region.wanted o (yielded ops a.tmps) = true := by simp [Region.wanted, hgd]
  rw [if_pos hw]
  have hrun := run_copy_row (P := P) w dT sT o.type elem g off dLen dCap ad sLen sCap cur.toArray t cs hu hsz hg hn hsrc (by simpa using hfit) h1
  unfold Oper.wp
  simp [execOp, ho, resolve, invoke, builtin, hd, hs, hrun, Result.andThen]
  exact h _ (show _ = _ by simpa [splice] using setRow_heap w g _ _ t _ hg) (show Only _ _ _ from (Only.refl (S := (· = g)) w).setRow (.inl rfl) _)
theorem addr_add (b o j : Nat) : (⟨b, o, none⟩ : Addr).add j = ⟨b, o + j, none⟩ := by unfold Addr.add; split <;> simp_all
theorem copied {f : Nat → Int} {d : Nat → Int} {k n off N : Nat} (h : k + n ≤ N) : splice (row (put d 0 k fun j => f (off + j)) 0 N) k (row f (off + k) n) = row (put d 0 (k + n) fun j => f (off + j)) 0 N := by
  rw [splice_row _ _ _ _ _ _ _ h]
  have := put_more d 0 k n (fun j => f (off + j))
  simp only [Nat.add_assoc] at this ⊢
  rw [this]
end Go.Proofs.YtjkihlpckgaggaaGreat.C
namespace Go.Proofs.YtjkihlpckgaggaaGreat.C
open Go.RowKit
set_option linter.unusedVariables false
set_option maxRecDepth 100000

def ptr : Option Nat → Value
  | none => .pointer none
  | some h => .pointer (some ⟨h, 0, none⟩)
theorem ptr_one (h : Option Nat) : (ptr h).oneCell' = true := by cases h <;> rfl
/-- the blocks of a memory -/
def Foot (p g : Nat) (hs : List (Option Nat)) (k : Nat) : Prop := k = p ∨ k = g ∨ ∃ i : Nat, hs[i]? = some (some k)
structure RM (w : World) (p g : Nat) (base : Int) (hs : List (Option Nat)) (f : Nat → Int) : Prop where
  top : w.heap[p]? = some (.cells #[.int .u64 base, .slice (some ⟨g, 0, none⟩) hs.length hs.length] 159 (0, 0))
  tab : w.heap[g]? = some (.cells (hs.map ptr).toArray 246 (0, 0))
  bare : ∀ i : Nat, hs[i]? = some none → ∀ j, j < 4096 → f (4096 * i + j) = 0
  full : ∀ (i h : Nat), hs[i]? = some (some h) → w.heap[h]? = some (.cells (row f (4096 * i) 4096).toArray 253 (0, 0))
  inj : ∀ (i j h : Nat), hs[i]? = some (some h) → hs[j]? = some (some h) → i = j
  byt : ∀ j, 0 ≤ f j ∧ f j < 256
  base0 : 0 ≤ base
  base1 : base ≤ 4503599627370496
  len0 : 0 < hs.length
  len1 : hs.length ≤ 1024
/-- a memory of n frames from base on, that holds f; S: its blocks -/
def Mem (w : World) (S : Nat → Prop) (p : Nat) (base : Int) (n : Nat) (f : Nat → Int) : Prop :=
  ∃ g hs, RM w p g base hs f ∧ hs.length = n ∧ ∀ k, S k ↔ Foot p g hs k
theorem RM.lt {w : World} {p g : Nat} {base : Int} {hs : List (Option Nat)} {f : Nat → Int} (h : RM w p g base hs f) {k : Nat} (hk : Foot p g hs k) : k < w.heap.size := by
  rcases hk with rfl | rfl | ⟨i, hi⟩
  · exact lt_of_block h.top
  · exact lt_of_block h.tab
  · exact lt_of_block (h.full i k hi)
theorem RM.only {w w' : World} {p g : Nat} {base : Int} {hs : List (Option Nat)} {f : Nat → Int} (h : RM w p g base hs f) {T : Nat → Prop} (ho : Only T w w') (hd : ∀ k, Foot p g hs k → ¬ T k) : RM w' p g base hs f :=
  ⟨ho.old h.top (hd _ (.inl rfl)), ho.old h.tab (hd _ (.inr (.inl rfl))), h.bare, fun i k hk => ho.old (h.full i k hk) (hd _ (.inr (.inr ⟨i, hk⟩))), h.inj, h.byt, h.base0, h.base1, h.len0, h.len1⟩
theorem RM.typ {w : World} {p g : Nat} {base : Int} {hs : List (Option Nat)} {f : Nat → Int} (h : RM w p g base hs f) {b : Nat} {c : Array Value} {t : TypeId} {fr : Nat × Nat} (hb : w.heap[b]? = some (.cells c t fr)) (h1 : t ≠ 159) (h2 : t ≠ 246) (h3 : t ≠ 253) : ¬ Foot p g hs b := by
  rintro (rfl | rfl | ⟨i, hi⟩)
  · have := h.top; rw [hb] at this; simp at this; exact h1 this.2.1
  · have := h.tab; rw [hb] at this; simp at this; exact h2 this.2.1
  · have := h.full i b hi; rw [hb] at this; simp at this; exact h3 this.2.1
theorem Mem.lt {w : World} {S : Nat → Prop} {p : Nat} {base : Int} {n : Nat} {f : Nat → Int} (h : Mem w S p base n f) {k : Nat} (hk : S k) : k < w.heap.size := by
  obtain ⟨g, hs, hr, _, hS⟩ := h
  exact hr.lt ((hS k).1 hk)
theorem Mem.only {w w' : World} {S : Nat → Prop} {p : Nat} {base : Int} {n : Nat} {f : Nat → Int} (h : Mem w S p base n f) {T : Nat → Prop} (ho : Only T w w') (hd : ∀ k, S k → ¬ T k) : Mem w' S p base n f := by
  obtain ⟨g, hs, hr, hl, hS⟩ := h
  exact ⟨g, hs, hr.only ho fun k hk => hd k ((hS k).2 hk), hl, hS⟩
theorem Mem.below {w w' : World} {S : Nat → Prop} {p : Nat} {base : Int} {n : Nat} {f : Nat → Int} (h : Mem w S p base n f) (hb : Below w.heap.size w w') : Mem w' S p base n f :=
  h.only (T := fun _ => False) (.ofBelow hb) fun _ _ q => q
theorem Mem.typ {w : World} {S : Nat → Prop} {p : Nat} {base : Int} {n : Nat} {f : Nat → Int} (h : Mem w S p base n f) {b : Nat} {c : Array Value} {t : TypeId} {fr : Nat × Nat} (hb : w.heap[b]? = some (.cells c t fr)) (h1 : t ≠ 159) (h2 : t ≠ 246) (h3 : t ≠ 253) : ¬ S b := by
  obtain ⟨g, hs, hr, _, hS⟩ := h
  exact fun q => hr.typ hb h1 h2 h3 ((hS b).1 q)
theorem Mem.byt {w : World} {S : Nat → Prop} {p : Nat} {base : Int} {n : Nat} {f : Nat → Int} (h : Mem w S p base n f) (j : Nat) : 0 ≤ f j ∧ f j < 256 := by
  obtain ⟨g, hs, hr, _, _⟩ := h
  exact hr.byt j
theorem Mem.nums {w : World} {S : Nat → Prop} {p : Nat} {base : Int} {n : Nat} {f : Nat → Int} (h : Mem w S p base n f) : 0 ≤ base ∧ base ≤ 4503599627370496 ∧ 0 < n ∧ n ≤ 1024 := by
  obtain ⟨g, hs, hr, rfl, _⟩ := h
  exact ⟨hr.base0, hr.base1, hr.len0, hr.len1⟩

/-- the two cells of the struct -/
theorem RM.cell0 {w : World} {p g : Nat} {base : Int} {hs : List (Option Nat)} {f : Nat → Int} (h : RM w p g base hs f) : w.cell? ⟨p, 0, none⟩ = some (.int .u64 base) := by
  rw [cell_of_row w p 0 _ _ _ h.top]; rfl
theorem RM.cell1 {w : World} {p g : Nat} {base : Int} {hs : List (Option Nat)} {f : Nat → Int} (h : RM w p g base hs f) : w.cell? ⟨p, 1, none⟩ = some (.slice (some ⟨g, 0, none⟩) hs.length hs.length) := by
  rw [cell_of_row w p 1 _ _ _ h.top]; rfl
theorem RM.cellT {w : World} {p g : Nat} {base : Int} {hs : List (Option Nat)} {f : Nat → Int} (h : RM w p g base hs f) (i : Nat) (x : Option Nat) (hi : hs[i]? = some x) : w.cell? ⟨g, i, none⟩ = some (ptr x) := by
  rw [cell_of_row w g i _ _ _ h.tab]; simp [hi]

theorem c_isWidth (z : Int) (w : World) : Calls Tryz.prog 56 #[.int .i64 z] w fun e w' => e = .returned (.bool (decide (z = 1 ∨ z = 2 ∨ z = 4 ∨ z = 8))) ∧ w' = w := by
  go_enter Tryz.func56, Tryz.ntmps56
  by_cases h1 : z = 1
  · subst h1; go_wp2; go_ret; exact ⟨rfl, rfl⟩
  · by_cases h2 : z = 2
    · subst h2; go_wp2; go_ret; exact ⟨rfl, rfl⟩
    · by_cases h4 : z = 4
      · subst h4; go_wp2; go_ret; exact ⟨rfl, rfl⟩
      · have e1 : decide (z = 1 ∨ z = 2 ∨ z = 4 ∨ z = 8) = decide (z = 8) := by simp [h1, h2, h4]
        rw [e1]
        go_wp2
        go_ret
        exact ⟨ret_bool (by rw [Bool.eq_iff_iff]; simp; omega), rfl⟩
theorem c_place (w : World) (p g : Nat) (base : Int) (hs : List (Option Nat)) (f : Nat → Int) (h : RM w p g base hs f) (off : Nat) (ho : off ≤ 4194304) (addr : Int) (ha : addr = base + off) :
    Calls Tryz.prog 71 #[.pointer (some ⟨p, 0, none⟩), .int .u64 addr] w fun e w' => e = .returned (.tuple #[.int .i64 ((off / 4096 : Nat) : Int), .int .i64 ((off % 4096 : Nat) : Int)]) ∧ w' = w := by
  subst ha
  have c0 := h.cell0
  have h0 := h.base0
  have h1 := h.base1
  go_enter Tryz.func71, Tryz.ntmps71
  go_wp2
  go_ret2
  refine ⟨?_, rfl⟩
  have e1 : base + (off : Int) - base = off := by omega
  simp
  omega
/-- the bytes lie in the memory -/
def hasB (base : Int) (n : Nat) (addr size : Int) : Bool := decide (0 ≤ size ∧ base ≤ addr ∧ addr - base + size ≤ 4096 * n)
theorem c_Has (w : World) (p g : Nat) (base : Int) (hs : List (Option Nat)) (f : Nat → Int) (h : RM w p g base hs f) (addr size : Int) (a0 : 0 ≤ addr) (a1 : addr < 18446744073709551616) (s0 : -9223372036854775808 ≤ size) (s1 : size ≤ 9223372036854775807) :
    Calls Tryz.prog 57 #[.pointer (some ⟨p, 0, none⟩), .int .u64 addr, .int .i64 size] w fun e w' => e = .returned (.bool (hasB base hs.length addr size)) ∧ Still w w' := by
  have c0 := h.cell0
  have c1 := h.cell1
  have h0 := h.base0
  have h1 := h.base1
  have l0 := h.len0
  have l1 := h.len1
  go_enter Tryz.func57, Tryz.ntmps57
  by_cases q0 : size < 0
  · go_wp2
    go_ret
    exact ⟨ret_bool (by simp [hasB]; omega), .refl w⟩
  · by_cases q1 : addr < base
    · go_wp2
      go_ret
      exact ⟨ret_bool (by simp [hasB]; omega), .refl w⟩
    · by_cases q2 : addr - base ≤ (hs.length : Int) * 4096
      · by_cases q3 : size ≤ (hs.length : Int) * 4096 - (addr - base)
        · go_wp2
          go_region
          go_wp2
          go_ret
          exact ⟨ret_bool (by rw [Bool.eq_iff_iff]; simp [hasB]; omega), (Still.refl w).drew⟩
        · go_wp2
          go_region
          go_wp2
          go_ret
          exact ⟨ret_bool (by rw [Bool.eq_iff_iff]; simp [hasB]; omega), (Still.refl w).drew⟩
      · go_wp2
        go_region
        go_wp2
        go_ret
        exact ⟨ret_bool (by rw [Bool.eq_iff_iff]; simp [hasB]; omega), (Still.refl w).drew⟩
end Go.Proofs.YtjkihlpckgaggaaGreat.C
namespace Go.Proofs.YtjkihlpckgaggaaGreat.C
open Go.RowKit
set_option linter.unusedVariables false
set_option maxRecDepth 100000

theorem u_su8 : Tryz.prog.underlying 23 = some (.slice 5) := by kernel_rfl
theorem s_u8 : (Tryz.prog.info? 5).map (·.size) = some 1 := by kernel_rfl
theorem u_cells : Tryz.prog.underlying 253 = some (.array 4096 5) := by kernel_rfl
theorem run_cut (hh m : Nat) (h : m < 4096) (w : World) : (Instr.sliceAt 253 (.pointer (some ⟨hh, 0, none⟩)) (some (.int .i64 (m : Int))) none none).run Tryz.prog w = .ok (.slice (some ⟨hh, m, none⟩) (4096 - m) (4096 - m)) w := by
  have e : ¬ 4096 = m := by omega
  obtain ⟨i, hi, hsz⟩ : ∃ i, Tryz.prog.info? 5 = some i ∧ i.size = 1 := by
    cases hq : Tryz.prog.info? 5 with
    | none => have := s_u8; rw [hq] at this; cases this
    | some i => have := s_u8; rw [hq] at this; exact ⟨i, rfl, by simpa using this⟩
  have h0 : (0 : Int) ≤ (m : Int) ∧ (m : Int) ≤ 4096 := by omega
  simp [Instr.sliceAt, run_underlying u_cells, Instr.sureAddr, Instr.sliceBounds, Instr.sliceBound, asIntOf, sizeOf, typeInfo, hi, hsz, e, h0, addr_add]
  intro q; omega
theorem bare_row {f d : Nat → Int} {k n off N : Nat} (h : ∀ j, k ≤ j → j < k + n → f (off + j) = d j) : row (put d 0 (k + n) fun j => f (off + j)) 0 N = row (put d 0 k fun j => f (off + j)) 0 N := by
  apply row_congr
  intro j hj
  simp only [Nat.zero_add]
  rcases Nat.lt_or_ge j k with q | q
  · rw [put_in' _ _ _ _ _ (by omega) (by omega), put_in' _ _ _ _ _ (by omega) (by omega)]
  · rw [put_out _ _ k _ _ (by omega)]
    rcases Nat.lt_or_ge j (k + n) with q' | q'
    · rw [put_in' _ _ _ _ _ (by omega) (by omega)]; exact h j q q'
    · rw [put_out _ _ _ _ _ (by omega)]
theorem next_frame {off k n q m : Nat} (h : off + k = 4096 * q + m) (hn : n = 4096 - m) (hm : m < 4096) : Value.int .i64 ((q : Int) + 1) = .int .i64 (((off + (k + n)) / 4096 : Nat) : Int) := by
  congr 1; omega
theorem next_at {off k n q m : Nat} (h : off + k = 4096 * q + m) (hn : n = 4096 - m) (hm : m < 4096) : Value.int .i64 0 = .int .i64 (((off + (k + n)) % 4096 : Nat) : Int) := by
  congr 1; omega
def lenOf : Value → Nat
  | .slice _ l _ => l
  | _ => 0
theorem c_load (w : World) (p g : Nat) (base : Int) (hs : List (Option Nat)) (f : Nat → Int) (h : RM w p g base hs f) (off len cap : Nat) (addr : Int) (ha : addr = base + off) (hl : off + len ≤ 4096 * hs.length)
    (b N : Nat) (d : Nat → Int) (t : TypeId) (hb : w.heap[b]? = some (.cells (row d 0 N).toArray t (0, 0))) (hN : len ≤ N) (hc : len ≤ cap) (hz : ∀ j, j < len → d j = 0) (t1 : t ≠ 159) (t2 : t ≠ 246) (t3 : t ≠ 253) :
    Calls Tryz.prog 193 #[.pointer (some ⟨p, 0, none⟩), .int .u64 addr, .slice (some ⟨b, 0, none⟩) len cap] w fun e w' => e = .returned (.tuple #[]) ∧
      w'.heap[b]? = some (.cells (row (put d 0 len (fun j => f (off + j))) 0 N).toArray t (0, 0)) ∧ Only (· = b) w w' := by
  subst ha
  have hbf : ¬ Foot p g hs b := h.typ hb t1 t2 t3
  have l1 := h.len1
  go_enter Tryz.func193, Tryz.ntmps193
  go_wp2_with (first | (go_at_call 71; refine (c_place w p g base hs f h off (by omega) _ rfl).mono ?_; rintro e w' ⟨rfl, hw⟩; obtain rfl := hw.symm))
  go_loopw [2, 6, 7] (fun v fr at' wr => ∃ (k L C : Nat) (ad : Option Addr), k + L = len ∧ k + C = cap ∧ v = .slice ad L C ∧ (0 < L → ad = some ⟨b, k, none⟩ ∧ fr = .int .i64 ((off + k) / 4096 : Nat) ∧ at' = .int .i64 ((off + k) % 4096 : Nat)) ∧
      wr.heap[b]? = some (.cells (row (put d 0 k (fun j => f (off + j))) 0 N).toArray t (0, 0)) ∧ Only (· = b) w wr) (fun v _ _ _ => lenOf v)
  case atStart => exact ⟨0, len, cap, _, by omega, by omega, rfl, fun _ => ⟨rfl, by simp, by simp⟩, by rw [put_zero]; exact hb, .refl w⟩
  case round =>
    obtain ⟨k, L, C, ad, rfl, rfl, rfl, hpos, hbw, ho⟩ := hrel
    by_cases hlt : 0 < L
    · obtain ⟨rfl, rfl, rfl⟩ := hpos hlt
      have ha4 : (off + k) / 4096 < hs.length := by omega
      obtain ⟨x, hx⟩ : ∃ x, hs[(off + k) / 4096]? = some x := ⟨_, List.getElem?_eq_getElem ha4⟩
      have hR := h.only ho (fun k' hk' (e : k' = b) => hbf (e ▸ hk'))
      have c1 := hR.cell1
      have cT := hR.cellT _ x hx
      have hmod : (off + k) % 4096 < 4096 := Nat.mod_lt _ (by decide)
      have hqm : off + k = 4096 * ((off + k) / 4096) + (off + k) % 4096 := (Nat.div_add_mod _ _).symm
      generalize hq : (off + k) / 4096 = q at *
      generalize hm : (off + k) % 4096 = m at *
      have HQ : Hid (off + k = 4096 * q + m) := hqm
      obtain ⟨n, hn⟩ : ∃ n : Nat, (if 4096 - (m : Int) < (L : Int) then 4096 - (m : Int) else (L : Int)) = (n : Int) := ⟨min (4096 - m) L, by split <;> omega⟩
      have n0 : 0 < n ∧ n ≤ L ∧ n ≤ 4096 - m ∧ (n < L → n = 4096 - m) := by split at hn <;> omega
      obtain ⟨n0, n1, n2, n3⟩ := n0
      clear hqm hq hm
      have HN : Hid (n < L → n = 4096 - m) := n3
      clear n3 hpos
      cases x with
      | none =>
        simp only [ptr] at cT
        have HB : Hid (wr.heap[b]? = some (.cells (row (put d 0 (k + n) (fun j => f (off + j))) 0 N).toArray t (0, 0))) := by
          show _ = _
          rw [hbw, bare_row (k := k) (n := n) (off := off) (by
            intro j h0 h1
            have q1 := HQ.out
            have := hR.bare _ hx (m + (j - k)) (by omega)
            rw [show off + j = 4096 * q + (m + (j - k)) by omega, this, hz j (by omega)])]
        go_wp2
        go_roundw
        case rel => exact ⟨k + n, L - n, C - n, _, by omega, by omega, rfl, fun hp => ⟨by rw [if_neg (by omega)], next_frame HQ.out (HN.out (by omega)) (by omega), next_at HQ.out (HN.out (by omega)) (by omega)⟩, HB.out, ho⟩
        case measure => simp only [lenOf]; omega
      | some hh =>
        simp only [ptr] at cT
        have hh1 := hR.full _ _ hx
        have HH : Hid (∀ j v, (row f (off + k) n)[j]? = some v → wr.drew.cell? ((⟨hh, m, none⟩ : Addr).add j) = some v) := by
          intro j v hv
          have hj : j < n := by
            rcases Nat.lt_or_ge j n with q | q
            · exact q
            · rw [List.getElem?_eq_none (by simpa [row_length] using q)] at hv; cases hv
          rw [row_get _ _ _ _ hj] at hv
          rw [addr_add, show wr.drew.cell? ⟨hh, m + j, none⟩ = wr.cell? ⟨hh, m + j, none⟩ from rfl, row_cell hh1 (m + j) (by omega), ← hv]
          have := HQ.out
          congr 3; omega
        have HF : Hid (k + (row f (off + k) n).length ≤ (row (put d 0 k fun j => f (off + j)) 0 N).length) := by show _ ≤ _; rw [row_length, row_length]; omega
        have HB : Hid (wr.drew.heap[b]? = some (.cells (row (put d 0 k fun j => f (off + j)) 0 N).toArray t (0, 0))) := hbw
        have HL : Hid ((row f (off + k) n).length = Nat.min (4096 - m) n) := by show _ = _; rw [row_length]; exact (Nat.min_eq_right n2).symm
        have hnC : n ≤ C := by omega
        have hm1 : m ≤ 4096 := by omega
        have hm2 := run_cut hh m hmod wr.drew
        clear hh1 hbw
        go_wp2
        go_region_law (refine step_copy_only rfl (.tmp 35) (.tmp 39) 23 23 rfl 5 u_su8 s_u8 ⟨hh, m, none⟩ n C (4096 - m) (4096 - m) b k (by go_simp) (by go_simp) _ t HB.out (row f (off + k) n) HL.out HH.out HF.out (row_one _ _ _) ?_; intro w4 HG4 HO4)
        have HG5 : Hid (w4.heap[b]? = some (.cells (row (put d 0 (k + n) fun j => f (off + j)) 0 N).toArray t (0, 0))) := by
          have := HG4.out
          rwa [copied (by omega)] at this
        have HO5 : Hid (Only (· = b) w w4) := ho.drew.trans HO4.out
        clear HG4 HO4 HB HF HH HL c1 cT hR ho hm2
        go_wp2
        go_roundw
        case rel => exact ⟨k + n, L - n, C - n, _, by omega, by omega, rfl, fun hp => ⟨by rw [if_neg (by omega)], next_frame HQ.out (HN.out (by omega)) (by omega), next_at HQ.out (HN.out (by omega)) (by omega)⟩, HG5.out, HO5.out⟩
        case measure => simp only [lenOf]; omega
    · obtain rfl : L = 0 := by omega
      go_wp2
      go_end0
      exact ⟨rfl, hbw, ho⟩
end Go.Proofs.YtjkihlpckgaggaaGreat.C
namespace Go.Proofs.YtjkihlpckgaggaaGreat.C
open Go.RowKit
set_option linter.unusedVariables false
set_option maxRecDepth 100000

set_option maxRecDepth 1000000 in
theorem z_cells : (Tryz.prog.info? 253).map (fun i => i.zero) = some (some (.agg (List.replicate 4096 (Value.int .u8 0)).toArray)) := by kernel_rfl
theorem c_cells : (Value.agg (List.replicate 4096 (Value.int .u8 0)).toArray).cells = (row (fun _ => 0) 0 4096).toArray := by rw [← replicate_row]; rfl
theorem wpList_new {P : Program} {ops : Array Oper} {rest : List Oper} {d : Option Nat} {ty e : TypeId} {pos : String} {after : Array Edge} {Q : Exit → Act → World → Prop} {a : Act} {w : World} {z : Value} (c : Array Value) (hc : z.cells = c)
    (hz : (P.info? e).map (fun i => i.zero) = some (some z)) (h : wpList P ops Q rest (a.put d (.pointer (some ⟨w.heap.size, 0, none⟩))) (w.alloc (.cells c e))) :
    wpList P ops Q ({ dst := d, op := Op.alloc e, type := ty, pos := pos, after := after, guard := none } :: rest) a w := by
  subst hc
  refine wpList_plain rfl fun K' hK' => ?_
  have hr : (Instr.alloc e true (.tuple #[])).run P w = .ok (.pointer (some ⟨w.heap.size, 0, none⟩)) (w.alloc (.cells z.cells e)) := by
    cases hq : P.info? e with
    | none => rw [hq] at hz; cases hz
    | some i =>
      have hi : i.zero = some z := by rw [hq] at hz; simpa using hz
      simp [Instr.alloc, zeroValue, typeInfo, hq, hi, newVar, newRow]
  unfold Oper.wp
  simp [execOp, hr, Result.andThen]
  exact hK' _ _ h
/-- a frame that is not there is made -/
theorem RM.make {w : World} {p g : Nat} {base : Int} {hs : List (Option Nat)} {f : Nat → Int} (h : RM w p g base hs f) (i : Nat) (hi : hs[i]? = some none) :
    RM ((w.alloc (.cells (row (fun _ => 0) 0 4096).toArray 253)).setCell ⟨g, i, none⟩ (.pointer (some ⟨w.heap.size, 0, none⟩))) p g base (hs.set i (some w.heap.size)) f := by
  have hgl := lt_of_block h.tab
  have hpl := lt_of_block h.top
  have hil : i < hs.length := by
    rcases Nat.lt_or_ge i hs.length with q | q
    · exact q
    · rw [List.getElem?_eq_none q] at hi; cases hi
  have hpg : p ≠ g := by rintro rfl; have := h.top; rw [h.tab] at this; simp at this
  have hold : ∀ k, k < w.heap.size → k ≠ g → ((w.alloc (.cells (row (fun _ => 0) 0 4096).toArray 253)).setCell ⟨g, i, none⟩ (.pointer (some ⟨w.heap.size, 0, none⟩))).heap[k]? = w.heap[k]? := fun k hk hkg =>
    (Below.heap_setCell _ _ _ k hkg).trans (Below.heap_alloc w _ k hk)
  have hnew : ((w.alloc (.cells (row (fun _ => 0) 0 4096).toArray 253)).setCell ⟨g, i, none⟩ (.pointer (some ⟨w.heap.size, 0, none⟩))).heap[w.heap.size]? = some (.cells (row (fun _ => 0) 0 4096).toArray 253) :=
    (Below.heap_setCell _ _ _ _ (by show w.heap.size ≠ g; omega)).trans (heap_alloc_new w _)
  have hg' : (w.alloc (.cells (row (fun _ => 0) 0 4096).toArray 253)).heap[g]? = some (.cells (hs.map ptr).toArray 246 (0, 0)) := (Below.heap_alloc w _ g hgl).trans h.tab
  refine ⟨?_, ?_, ?_, ?_, ?_, h.byt, h.base0, h.base1, by simpa using h.len0, by simpa using h.len1⟩
  · rw [hold p hpl hpg, List.length_set]; exact h.top
  · rw [heap_setCell_same _ g i _ _ _ hg']
    congr 2
    simp [List.map_set, ptr]
  · intro j hj k hk
    by_cases e : j = i
    · subst e; rw [List.getElem?_set_self hil] at hj; cases hj
    · rw [List.getElem?_set_ne (by omega)] at hj; exact h.bare j hj k hk
  · intro j hh hj
    by_cases e : j = i
    · subst e
      rw [List.getElem?_set_self hil] at hj
      obtain rfl : w.heap.size = hh := by simpa using hj
      have e : row (fun _ => 0) 0 4096 = row f (4096 * j) 4096 := row_congr fun k hk => (h.bare j hi k hk).symm
      rw [hnew, e]
    · rw [List.getElem?_set_ne (by omega)] at hj
      have := h.full j hh hj
      rw [hold hh (lt_of_block this) (by rintro rfl; rw [h.tab] at this; simp at this)]
      exact this
  · intro j k hh hj hk
    by_cases e : j = i <;> by_cases e' : k = i
    · omega
    · subst e
      rw [List.getElem?_set_self hil] at hj
      rw [List.getElem?_set_ne (by omega)] at hk
      have := lt_of_block (h.full k hh hk)
      simp at hj; omega
    · subst e'
      rw [List.getElem?_set_self hil] at hk
      rw [List.getElem?_set_ne (by omega)] at hj
      have := lt_of_block (h.full j hh hj)
      simp at hk; omega
    · rw [List.getElem?_set_ne (by omega)] at hj hk
      exact h.inj j k hh hj hk
set_option maxRecDepth 100000 in
theorem c_made (w : World) (p g : Nat) (base : Int) (hs : List (Option Nat)) (f : Nat → Int) (h : RM w p g base hs f) (i : Nat) (hi : i < hs.length) :
    Calls Tryz.prog 72 #[.pointer (some ⟨p, 0, none⟩), .int .i64 (i : Int)] w fun e w' => ∃ hh hs', e = .returned (.pointer (some ⟨hh, 0, none⟩)) ∧ RM w' p g base hs' f ∧ hs'[i]? = some (some hh) ∧ hs'.length = hs.length ∧ Only (· = g) w w' ∧
      ∀ (j h' : Nat), hs'[j]? = some (some h') → hs[j]? = some (some h') ∨ w.heap.size ≤ h' := by
  obtain ⟨x, hx⟩ : ∃ x, hs[i]? = some x := ⟨_, List.getElem?_eq_getElem hi⟩
  have c1 := h.cell1
  have cT := h.cellT _ x hx
  have l1 := h.len1
  go_enter Tryz.func72, Tryz.ntmps72
  cases x with
  | some hh =>
    simp only [ptr] at cT
    go_wp2
    go_ret
    exact ⟨hh, hs, rfl, h, hx, rfl, .refl w, fun j h' q => .inl q⟩
  | none =>
    simp only [ptr] at cT
    have hf : w.frozen? ⟨g, i, none⟩ = false := frozen_of_row w g i _ _ h.tab
    have hpl := lt_of_block h.top
    have hgl := lt_of_block h.tab
    have hpg : p ≠ g := by rintro rfl; have := h.top; rw [h.tab] at this; simp at this
    have k1 : (w.setCell ⟨g, i, none⟩ (.pointer (some ⟨w.heap.size, 0, none⟩))).cell? ⟨p, 1, none⟩ = some (.slice (some ⟨g, 0, none⟩) hs.length hs.length) := by
      rw [World.cell?_setCell_other _ _ _ _ (by intro e; cases e; exact hpg rfl)]; exact c1
    have k2 : (w.setCell ⟨g, i, none⟩ (.pointer (some ⟨w.heap.size, 0, none⟩))).cell? ⟨g, i, none⟩ = some (.pointer (some ⟨w.heap.size, 0, none⟩)) := World.cell?_setCell_same _ _ _ cT
    have HM := hid (h.make i hx)
    go_wp2_with (with_reducible refine wpList_new _ c_cells z_cells ?_)
    go_ret
    rw [World.setCell_alloc_past _ _ _ _ hgl] at HM
    refine ⟨w.heap.size, hs.set i (some w.heap.size), rfl, HM.out, List.getElem?_set_self hi, List.length_set, ((Only.refl (S := (· = g)) w).setCell (p := ⟨g, i, none⟩) (.inl rfl) _).alloc _, fun j h' q => ?_⟩
    by_cases e : j = i
    · subst e; rw [List.getElem?_set_self hi] at q; simp at q; exact .inr (by omega)
    · rw [List.getElem?_set_ne (by omega)] at q; exact .inl q
end Go.Proofs.YtjkihlpckgaggaaGreat.C
namespace Go.Proofs.YtjkihlpckgaggaaGreat.C
open Go.RowKit
set_option linter.unusedVariables false
set_option maxRecDepth 100000

/-- a call of a function, as one step of a region that draws its order -/
theorem step_call {P : Program} {ops : Array Oper} {o : Oper} {a : Act} {w : World} {K : Act → World → Prop} {Q : Exit → Act → World → Prop} {E : Prop} (hgd : o.guard = none) (f : FuncId) (x y : Operand) (tx ty : TypeId)
    (ho : o.op = .call { callee := .value (.func f), args := #[x, y], argTypes := #[tx, ty] }) (vx vy : Value) (hx : a.eval x = vx) (hy : a.eval y = vy) (hnf : (callFunc f #[vx, vy]).run P w = .ok (.enter f #[vx, vy]) w) {R : Ending → World → Prop} (hc : Calls P f #[vx, vy] w R)
    (h : ∀ e w', R e w' → ∃ v, e = .returned v ∧ K (a.put o.dst v) w') :
    if Region.wanted o (yielded ops a.tmps) = true then Oper.wp P o a w K Q else E := by
  have hw : Region.wanted o (yielded ops a.tmps) = true := by simp [Region.wanted, hgd]
  rw [if_pos hw]
  have he : (execOp a.eval o).run P w = .ok (.enter f #[vx, vy]) w := by
    have hv : a.eval (.func f) = .func (.func f) #[] #[] := rfl
    simp [execOp, ho, resolve, invoke, Deferred.ofValue, hv, hx, hy, hnf]
  unfold Oper.wp
  rw [he, Oper.upon_enter]
  refine hc.mono fun e w' hR => ?_
  obtain ⟨v, rfl, hk⟩ := h e w' hR
  exact hk

/-- bytes of one frame that is there are written -/
theorem RM.wrote {w w4 : World} {p g : Nat} {base : Int} {hs : List (Option Nat)} {f : Nat → Int} (h : RM w p g base hs f) {q hh m n : Nat} {s : Nat → Int} (hq : hs[q]? = some (some hh)) (hm : m + n ≤ 4096) (hs0 : ∀ j, 0 ≤ s j ∧ s j < 256)
    (hw : w4.heap[hh]? = some (.cells (row (put f (4096 * q + m) n s) (4096 * q) 4096).toArray 253 (0, 0))) (ho : Only (· = hh) w w4) : RM w4 p g base hs (put f (4096 * q + m) n s) := by
  have hfull := h.full q hh hq
  have hph : p ≠ hh := by rintro rfl; have := h.top; rw [hfull] at this; simp at this
  have hgh : g ≠ hh := by rintro rfl; have := h.tab; rw [hfull] at this; simp at this
  refine ⟨ho.old h.top hph, ho.old h.tab hgh, ?_, ?_, h.inj, ?_, h.base0, h.base1, h.len0, h.len1⟩
  · intro i hi j hj
    have : i ≠ q := by rintro rfl; rw [hq] at hi; cases hi
    rw [put_out _ _ _ _ _ (by omega)]
    exact h.bare i hi j hj
  · intro i h' hi
    by_cases e : i = q
    · subst e
      obtain rfl : hh = h' := by rw [hq] at hi; simpa using hi
      exact hw
    · have e' : h' ≠ hh := by rintro rfl; exact e (h.inj i q h' hi hq)
      rw [ho.old (h.full i h' hi) e']
      have : row f (4096 * i) 4096 = row (put f (4096 * q + m) n s) (4096 * i) 4096 := row_congr fun j hj => (put_out _ _ _ _ _ (by omega)).symm
      rw [this]
  · intro j
    unfold put
    split
    · exact hs0 _
    · exact h.byt j
theorem RM.drew {w : World} {p g : Nat} {base : Int} {hs : List (Option Nat)} {f : Nat → Int} (h : RM w p g base hs f) : RM w.drew p g base hs f :=
  h.only (T := fun _ => False) (Only.refl w).drew fun _ _ q => q
set_option maxHeartbeats 1000000 in
theorem c_store (w : World) (p g : Nat) (base : Int) (hs : List (Option Nat)) (f : Nat → Int) (h : RM w p g base hs f) (off len cap : Nat) (ad : Option Addr) (s : Nat → Int) (hs0 : ∀ j, 0 ≤ s j ∧ s j < 256) (addr : Int) (ha : addr = base + off)
    (hl : off + len ≤ 4096 * hs.length) (hc : len ≤ cap) (src : ∃ sb so, 0 < len → ad = some ⟨sb, so, none⟩ ∧ sb < w.heap.size ∧ ¬ Foot p g hs sb ∧ ∀ j, j < len → w.cell? ⟨sb, so + j, none⟩ = some (.int .u8 (s j))) :
    Calls Tryz.prog 59 #[.pointer (some ⟨p, 0, none⟩), .int .u64 addr, .slice ad len cap] w fun e w' => ∃ hs', e = .returned (.tuple #[]) ∧ RM w' p g base hs' (put f off len s) ∧ hs'.length = hs.length ∧ Only (Foot p g hs) w w' ∧
      ∀ (j h' : Nat), hs'[j]? = some (some h') → hs[j]? = some (some h') ∨ w.heap.size ≤ h' := by
  subst ha
  have l1 := h.len1
  obtain ⟨sb, so, hsrc⟩ := src
  have HS := hid (hsrc)
  clear hsrc
  go_enter Tryz.func59, Tryz.ntmps59
  go_wp2_with (first | (go_at_call 71; refine (c_place w p g base hs f h off (by omega) _ rfl).mono ?_; rintro e w' ⟨rfl, hw⟩; obtain rfl := hw.symm))
  go_loopw [2, 6, 7] (fun v fr at' wr => ∃ (k L C : Nat) (ad' : Option Addr) (hs' : List (Option Nat)), k + L = len ∧ k + C = cap ∧ v = .slice ad' L C ∧ (0 < L → ad' = some ⟨sb, so + k, none⟩ ∧ fr = .int .i64 ((off + k) / 4096 : Nat) ∧ at' = .int .i64 ((off + k) % 4096 : Nat)) ∧
      RM wr p g base hs' (put f off k s) ∧ hs'.length = hs.length ∧ Only (Foot p g hs) w wr ∧ ∀ (j h' : Nat), hs'[j]? = some (some h') → hs[j]? = some (some h') ∨ w.heap.size ≤ h') (fun v _ _ _ => lenOf v)
  case atStart => exact ⟨0, len, cap, ad, hs, by omega, by omega, rfl, fun q => ⟨(HS.out q).1, by simp, by simp⟩, by rw [put_zero]; exact h, rfl, .refl w, fun j h' q => .inl q⟩
  case round =>
    obtain ⟨k, L, C, ad', hs', rfl, rfl, rfl, hpos, hR, hlen, ho, hnew⟩ := hrel
    by_cases hlt : 0 < L
    · obtain ⟨rfl, rfl, rfl⟩ := hpos hlt
      obtain ⟨-, hsb, hsf, hsc⟩ := HS.out (by omega)
      have ha4 : (off + k) / 4096 < hs'.length := by omega
      have hmod : (off + k) % 4096 < 4096 := Nat.mod_lt _ (by decide)
      have hqm : off + k = 4096 * ((off + k) / 4096) + (off + k) % 4096 := (Nat.div_add_mod _ _).symm
      generalize hq : (off + k) / 4096 = q at *
      generalize hm : (off + k) % 4096 = m at *
      have HQ : Hid (off + k = 4096 * q + m) := hqm
      obtain ⟨n, hn⟩ : ∃ n : Nat, (if 4096 - (m : Int) < (L : Int) then 4096 - (m : Int) else (L : Int)) = (n : Int) := ⟨min (4096 - m) L, by split <;> omega⟩
      have n0 : 0 < n ∧ n ≤ L ∧ n ≤ 4096 - m ∧ (n < L → n = 4096 - m) := by split at hn <;> omega
      obtain ⟨n0, n1, n2, n3⟩ := n0
      clear hqm hq hm
      have HN : Hid (n < L → n = 4096 - m) := n3
      have HSC : Hid (∀ j, j < k + L → w.cell? ⟨sb, so + j, none⟩ = some (.int .u8 (s j))) := hsc
      have HNW : Hid (∀ (j h' : Nat), hs'[j]? = some (some h') → hs[j]? = some (some h') ∨ w.heap.size ≤ h') := hnew
      clear n3 hpos hsc hnew
      have hnC : n ≤ C := by omega
      have HC : Hid (∀ w1, Only (· = g) wr.drew w1 → ∀ j v, (row s k n)[j]? = some v → w1.cell? ((⟨sb, so + k, none⟩ : Addr).add j) = some v) := by
        intro w1 ho1 j v hv
        have hj : j < n := by
          rcases Nat.lt_or_ge j n with q | q
          · exact q
          · rw [List.getElem?_eq_none (by simpa [row_length] using q)] at hv; cases hv
        rw [row_get _ _ _ _ hj] at hv
        rw [addr_add, ho1.cell _ (Nat.lt_of_lt_of_le hsb ho.size) (fun e => hsf (.inr (.inl e))), show wr.drew.cell? ⟨sb, so + k + j, none⟩ = wr.cell? ⟨sb, so + k + j, none⟩ from rfl, ho.cell _ hsb hsf, Nat.add_assoc, HSC.out _ (by omega)]
        exact hv
      have HF : Hid (m + (row s k n).length ≤ (row (put f off k s) (4096 * q) 4096).length) := by show _ ≤ _; rw [row_length, row_length]; omega
      have HL : Hid ((row s k n).length = Nat.min n (4096 - m)) := by show _ = _; rw [row_length]; exact (Nat.min_eq_left n2).symm
      have hcut : ∀ hh w, (Instr.sliceAt 253 (.pointer (some ⟨hh, 0, none⟩)) (some (.int .i64 (m : Int))) none none).run Tryz.prog w = .ok (.slice (some ⟨hh, m, none⟩) (4096 - m) (4096 - m)) w := fun hh w => run_cut hh m hmod w
      go_wp2
      go_region_law (first
        | (refine step_call rfl 72 (.tmp 23) (.tmp 24) 30 3 rfl (.pointer (some ⟨p, 0, none⟩)) (.int .i64 (q : Int)) (by go_simp) (by go_simp) (Tryz.call72 _ _) (c_made _ p g base hs' _ hR.drew q ha4) ?_; rintro e w1 ⟨hh, hs2, rfl, hR2, hq2, hlen2, ho2, hnew2⟩; have HX : Hid (RM w1 p g base hs2 (put f off k s) ∧ hs2[q]? = some (some hh) ∧ hs2.length = hs'.length ∧ Only (· = g) wr.drew w1 ∧ ∀ (j h' : Nat), hs2[j]? = some (some h') → hs'[j]? = some (some h') ∨ wr.drew.heap.size ≤ h') := ⟨hR2, hq2, hlen2, ho2, hnew2⟩; clear hR2 hq2 hlen2 ho2 hnew2; refine ⟨_, rfl, ?_⟩)
        | (refine step_copy_only rfl (.tmp 28) (.tmp 31) 23 23 rfl 5 u_su8 s_u8 ⟨sb, so + k, none⟩ (4096 - m) (4096 - m) n C hh m (by go_simp) (by go_simp) (row (put f off k s) (4096 * q) 4096) 253 (HX.out.1.full q hh HX.out.2.1) (row s k n) HL.out (HC.out _ HX.out.2.2.2.1) HF.out (row_one _ _ _) ?_; intro w4 HG4 HO4))
      obtain ⟨hR2, hq2, hlen2, ho2, hnew2⟩ := HX.out
      have hnw : ∀ (j h' : Nat), hs2[j]? = some (some h') → hs[j]? = some (some h') ∨ w.heap.size ≤ h' := fun j h' e => by
        rcases hnew2 j h' e with e | e
        · exact HNW.out j h' e
        · exact .inr (Nat.le_trans ho.size e)
      have HR3 : Hid (RM w4 p g base hs2 (put f off (k + n) s)) := by
        have e := HG4.out
        rw [splice_row _ _ _ _ _ _ _ (by omega)] at e
        have := hR2.wrote hq2 (by omega) (fun j => hs0 (k + j)) e HO4.out
        rw [← HQ.out, put_more] at this
        exact this
      have HO3 : Hid (Only (Foot p g hs) w w4) := by
        refine ((ho.drew).trans' ho2 fun i _ e => .inr (.inl e)).trans' HO4.out ?_
        rintro i hi rfl
        rcases hnw q i hq2 with e | e
        · exact .inr (.inr ⟨q, e⟩)
        · omega
      have HW3 : Hid (∀ (j h' : Nat), hs2[j]? = some (some h') → hs[j]? = some (some h') ∨ w.heap.size ≤ h') := hnw
      have HL3 : Hid (hs2.length = hs.length) := hlen2.trans hlen
      have hq9 : q < 1024 := by omega
      clear hnw HG4 HO4 HX HC HF HL hcut hR2 hq2 hlen2 ho2 hnew2 hR ho hlen
      go_wp2
      go_roundw
      case rel => exact ⟨k + n, L - n, C - n, _, hs2, by omega, by omega, rfl, fun hp => ⟨by rw [if_neg (by omega), Nat.add_assoc], next_frame HQ.out (HN.out (by omega)) (by omega), next_at HQ.out (HN.out (by omega)) (by omega)⟩, HR3.out, HL3.out, HO3.out, HW3.out⟩
      case measure => simp only [lenOf]; omega
    · obtain rfl : L = 0 := by omega
      go_wp2
      go_end0
      exact ⟨hs', rfl, hR, hlen, ho, hnew⟩
end Go.Proofs.YtjkihlpckgaggaaGreat.C
namespace Go.Proofs.YtjkihlpckgaggaaGreat.C
open Go.RowKit
set_option linter.unusedVariables false
set_option maxRecDepth 100000

def nu (b : Nat → Int) : Nat → Int
  | 0 => 0
  | k + 1 => nu b k + b k * 256 ^ k
theorem nu_lt (b : Nat → Int) (hb : ∀ j, 0 ≤ b j ∧ b j < 256) : ∀ k, 0 ≤ nu b k ∧ nu b k < 256 ^ k
  | 0 => by simp [nu]
  | k + 1 => by
    have ih := nu_lt b hb k
    have h := hb k
    have hp : (0 : Int) < 256 ^ k := Int.pow_pos (by decide)
    have h1 : b k * 256 ^ k ≤ 255 * 256 ^ k := Int.mul_le_mul_of_nonneg_right (by omega) (by omega)
    have h2 : 0 ≤ b k * 256 ^ k := Int.mul_nonneg h.1 (by omega)
    have h3 : (256 : Int) ^ (k + 1) = 256 * 256 ^ k := by rw [Int.pow_succ]; omega
    simp only [nu]
    omega
theorem or_nu (x y : Int) (k : Nat) (hk : k < 8) (h0 : 0 ≤ x) (h1 : x < 256 ^ k) (h2 : 0 ≤ y) (h3 : y < 256) : bits .or .u64 x (y * 256 ^ k) = x + y * 256 ^ k := by
  obtain ⟨a, rfl⟩ := Int.eq_ofNat_of_zero_le h0
  obtain ⟨b, rfl⟩ := Int.eq_ofNat_of_zero_le h2
  have e : (256 : Nat) ^ k = 2 ^ (8 * k) := by rw [Nat.pow_mul]
  have ec : (256 : Int) ^ k = ((256 ^ k : Nat) : Int) := (Int.natCast_pow 256 k).symm
  have ha : a < 2 ^ (8 * k) := by rw [← e]; rw [ec] at h1; exact Int.ofNat_lt.1 h1
  have hp : 2 ^ (8 * k) * 256 ≤ 2 ^ 64 := by
    have : 2 ^ (8 * k) ≤ 2 ^ 56 := Nat.pow_le_pow_right (by decide) (by omega)
    omega
  have hb : b < 256 := by omega
  have hbk : b * 2 ^ (8 * k) ≤ 255 * 2 ^ (8 * k) := Nat.mul_le_mul_right _ (by omega)
  have hy : (b : Int) * 256 ^ k = ((b * 2 ^ (8 * k) : Nat) : Int) := by rw [ec, e]; exact (Int.natCast_mul _ _).symm
  have hor := Nat.two_pow_add_eq_or_of_lt ha b
  rw [hy, bits_or_u64_nat _ _ (by omega) (by omega), Nat.or_comm, Nat.mul_comm b, ← hor]
  omega
theorem nu_step (b : Nat → Int) (k : Nat) : nu b k + b k * 256 ^ k = nu b (k + 1) := rfl
set_option maxHeartbeats 1000000 in
theorem c_number (b : Nat → Int) (hb : ∀ j, 0 ≤ b j ∧ b j < 256) (w : World) :
    Calls Tryz.prog 194 #[.agg #[.int .u8 (b 0), .int .u8 (b 1), .int .u8 (b 2), .int .u8 (b 3), .int .u8 (b 4), .int .u8 (b 5), .int .u8 (b 6), .int .u8 (b 7)]] w fun e w' => e = .returned (.int .u64 (nu b 8)) ∧ Below w.heap.size w w' := by
  go_enter Tryz.func194, Tryz.ntmps194
  go_wp2
  go_loop [3, 7] (fun v i => ∃ k : Nat, k ≤ 8 ∧ i = .int .i64 k ∧ v = .int .u64 (nu b k)) (fun _ i => 8 - (intOf i).toNat)
  case atStart => exact ⟨0, by omega, rfl, rfl⟩
  case round =>
    obtain ⟨k, hk, rfl, rfl⟩ := hrel
    have h0 := hb 0
    have hn := nu_lt b hb k
    rcases (show k = 0 ∨ k = 1 ∨ k = 2 ∨ k = 3 ∨ k = 4 ∨ k = 5 ∨ k = 6 ∨ k = 7 ∨ k = 8 by omega) with rfl | rfl | rfl | rfl | rfl | rfl | rfl | rfl | rfl
    · have hx : ∀ W, (Instr.index 170 (.agg #[.int .u8 (b 0), .int .u8 (b 1), .int .u8 (b 2), .int .u8 (b 3), .int .u8 (b 4), .int .u8 (b 5), .int .u8 (b 6), .int .u8 (b 7)]) (.int .i64 0)).run Tryz.prog W = .ok (.int .u8 (b 0)) W := fun W => by kernel_rfl
      have hk := hb 0
      have hor := or_nu (nu b 0) (b 0) 0 (by decide) hn.1 hn.2 hk.1 hk.2
      clear hn h0
      go_wp2
      go_round
      case rel => exact ⟨1, by omega, by go_num, congrArg (Value.int .u64) (by simpa using hor.trans (nu_step b 0))⟩
      case measure => simp [intOf]
    · have hx : ∀ W, (Instr.index 170 (.agg #[.int .u8 (b 0), .int .u8 (b 1), .int .u8 (b 2), .int .u8 (b 3), .int .u8 (b 4), .int .u8 (b 5), .int .u8 (b 6), .int .u8 (b 7)]) (.int .i64 1)).run Tryz.prog W = .ok (.int .u8 (b 1)) W := fun W => by kernel_rfl
      have hk := hb 1
      have hor := or_nu (nu b 1) (b 1) 1 (by decide) hn.1 hn.2 hk.1 hk.2
      clear hn h0
      go_wp2
      go_round
      case rel => exact ⟨2, by omega, by go_num, congrArg (Value.int .u64) (hor.trans (nu_step b 1))⟩
      case measure => simp [intOf]
    · have hx : ∀ W, (Instr.index 170 (.agg #[.int .u8 (b 0), .int .u8 (b 1), .int .u8 (b 2), .int .u8 (b 3), .int .u8 (b 4), .int .u8 (b 5), .int .u8 (b 6), .int .u8 (b 7)]) (.int .i64 2)).run Tryz.prog W = .ok (.int .u8 (b 2)) W := fun W => by kernel_rfl
      have hk := hb 2
      have hor := or_nu (nu b 2) (b 2) 2 (by decide) hn.1 hn.2 hk.1 hk.2
      clear hn h0
      go_wp2
      go_round
      case rel => exact ⟨3, by omega, by go_num, congrArg (Value.int .u64) (hor.trans (nu_step b 2))⟩
      case measure => simp [intOf]
    · have hx : ∀ W, (Instr.index 170 (.agg #[.int .u8 (b 0), .int .u8 (b 1), .int .u8 (b 2), .int .u8 (b 3), .int .u8 (b 4), .int .u8 (b 5), .int .u8 (b 6), .int .u8 (b 7)]) (.int .i64 3)).run Tryz.prog W = .ok (.int .u8 (b 3)) W := fun W => by kernel_rfl
      have hk := hb 3
      have hor := or_nu (nu b 3) (b 3) 3 (by decide) hn.1 hn.2 hk.1 hk.2
      clear hn h0
      go_wp2
      go_round
      case rel => exact ⟨4, by omega, by go_num, congrArg (Value.int .u64) (hor.trans (nu_step b 3))⟩
      case measure => simp [intOf]
    · have hx : ∀ W, (Instr.index 170 (.agg #[.int .u8 (b 0), .int .u8 (b 1), .int .u8 (b 2), .int .u8 (b 3), .int .u8 (b 4), .int .u8 (b 5), .int .u8 (b 6), .int .u8 (b 7)]) (.int .i64 4)).run Tryz.prog W = .ok (.int .u8 (b 4)) W := fun W => by kernel_rfl
      have hk := hb 4
      have hor := or_nu (nu b 4) (b 4) 4 (by decide) hn.1 hn.2 hk.1 hk.2
      clear hn h0
      go_wp2
      go_round
      case rel => exact ⟨5, by omega, by go_num, congrArg (Value.int .u64) (hor.trans (nu_step b 4))⟩
      case measure => simp [intOf]
    · have hx : ∀ W, (Instr.index 170 (.agg #[.int .u8 (b 0), .int .u8 (b 1), .int .u8 (b 2), .int .u8 (b 3), .int .u8 (b 4), .int .u8 (b 5), .int .u8 (b 6), .int .u8 (b 7)]) (.int .i64 5)).run Tryz.prog W = .ok (.int .u8 (b 5)) W := fun W => by kernel_rfl
      have hk := hb 5
      have hor := or_nu (nu b 5) (b 5) 5 (by decide) hn.1 hn.2 hk.1 hk.2
      clear hn h0
      go_wp2
      go_round
      case rel => exact ⟨6, by omega, by go_num, congrArg (Value.int .u64) (hor.trans (nu_step b 5))⟩
      case measure => simp [intOf]
    · have hx : ∀ W, (Instr.index 170 (.agg #[.int .u8 (b 0), .int .u8 (b 1), .int .u8 (b 2), .int .u8 (b 3), .int .u8 (b 4), .int .u8 (b 5), .int .u8 (b 6), .int .u8 (b 7)]) (.int .i64 6)).run Tryz.prog W = .ok (.int .u8 (b 6)) W := fun W => by kernel_rfl
      have hk := hb 6
      have hor := or_nu (nu b 6) (b 6) 6 (by decide) hn.1 hn.2 hk.1 hk.2
      clear hn h0
      go_wp2
      go_round
      case rel => exact ⟨7, by omega, by go_num, congrArg (Value.int .u64) (hor.trans (nu_step b 6))⟩
      case measure => simp [intOf]
    · have hx : ∀ W, (Instr.index 170 (.agg #[.int .u8 (b 0), .int .u8 (b 1), .int .u8 (b 2), .int .u8 (b 3), .int .u8 (b 4), .int .u8 (b 5), .int .u8 (b 6), .int .u8 (b 7)]) (.int .i64 7)).run Tryz.prog W = .ok (.int .u8 (b 7)) W := fun W => by kernel_rfl
      have hk := hb 7
      have hor := or_nu (nu b 7) (b 7) 7 (by decide) hn.1 hn.2 hk.1 hk.2
      clear hn h0
      go_wp2
      go_round
      case rel => exact ⟨8, by omega, by go_num, congrArg (Value.int .u64) (hor.trans (nu_step b 7))⟩
      case measure => simp [intOf]
    · go_wp2
      go_ret
      exact ⟨rfl, (Below.refl _ _).alloc (Nat.le_refl _) _⟩
end Go.Proofs.YtjkihlpckgaggaaGreat.C
namespace Go.Proofs.YtjkihlpckgaggaaGreat.C
open Go.RowKit
set_option linter.unusedVariables false
set_option maxRecDepth 100000

theorem u_a8 : Tryz.prog.underlying 170 = some (.array 8 5) := by kernel_rfl
theorem s_a8 : (Tryz.prog.info? 170).map (·.size) = some 8 := by kernel_rfl
def bstep (v : Int) : Nat → Array Value
  | 0 => #[.int .u8 0, .int .u8 0, .int .u8 0, .int .u8 0, .int .u8 0, .int .u8 0, .int .u8 0, .int .u8 0]
  | 1 => #[.int .u8 (v % 256), .int .u8 0, .int .u8 0, .int .u8 0, .int .u8 0, .int .u8 0, .int .u8 0, .int .u8 0]
  | 2 => #[.int .u8 (v % 256), .int .u8 (v / 256 % 256), .int .u8 0, .int .u8 0, .int .u8 0, .int .u8 0, .int .u8 0, .int .u8 0]
  | 3 => #[.int .u8 (v % 256), .int .u8 (v / 256 % 256), .int .u8 (v / 65536 % 256), .int .u8 0, .int .u8 0, .int .u8 0, .int .u8 0, .int .u8 0]
  | 4 => #[.int .u8 (v % 256), .int .u8 (v / 256 % 256), .int .u8 (v / 65536 % 256), .int .u8 (v / 16777216 % 256), .int .u8 0, .int .u8 0, .int .u8 0, .int .u8 0]
  | 5 => #[.int .u8 (v % 256), .int .u8 (v / 256 % 256), .int .u8 (v / 65536 % 256), .int .u8 (v / 16777216 % 256), .int .u8 (v / 4294967296 % 256), .int .u8 0, .int .u8 0, .int .u8 0]
  | 6 => #[.int .u8 (v % 256), .int .u8 (v / 256 % 256), .int .u8 (v / 65536 % 256), .int .u8 (v / 16777216 % 256), .int .u8 (v / 4294967296 % 256), .int .u8 (v / 1099511627776 % 256), .int .u8 0, .int .u8 0]
  | 7 => #[.int .u8 (v % 256), .int .u8 (v / 256 % 256), .int .u8 (v / 65536 % 256), .int .u8 (v / 16777216 % 256), .int .u8 (v / 4294967296 % 256), .int .u8 (v / 1099511627776 % 256), .int .u8 (v / 281474976710656 % 256), .int .u8 0]
  | _ => #[.int .u8 (v % 256), .int .u8 (v / 256 % 256), .int .u8 (v / 65536 % 256), .int .u8 (v / 16777216 % 256), .int .u8 (v / 4294967296 % 256), .int .u8 (v / 1099511627776 % 256), .int .u8 (v / 281474976710656 % 256), .int .u8 (v / 72057594037927936)]
set_option maxHeartbeats 2000000 in
theorem c_bytesOf (v : Int) (v0 : 0 ≤ v) (v1 : v < 18446744073709551616) (w : World) :
    Calls Tryz.prog 58 #[.int .u64 v] w fun e w' => e = .returned (.agg (bstep v 8)) ∧ Below w.heap.size w w' := by
  go_enter Tryz.func58, Tryz.ntmps58
  go_wp2
  go_loopw [5] (fun i wr => ∃ k : Nat, k ≤ 8 ∧ i = .int .i64 k ∧ wr = (w.alloc (.cells (bstep v 0) 170)).alloc (.cells (bstep v k) 170)) (fun i _ => 8 - (intOf i).toNat)
  case atStart => exact ⟨0, by omega, rfl, rfl⟩
  case round =>
    obtain ⟨k, hk, rfl, rfl⟩ := hrel
    rcases (show k = 0 ∨ k = 1 ∨ k = 2 ∨ k = 3 ∨ k = 4 ∨ k = 5 ∨ k = 6 ∨ k = 7 ∨ k = 8 by omega) with rfl | rfl | rfl | rfl | rfl | rfl | rfl | rfl | rfl
    · simp only [bstep]
      go_wp2
      go_roundw
      case rel => exact ⟨1, by omega, by go_num, rfl⟩
      case measure => simp [intOf]
    · simp only [bstep]
      go_wp2
      go_roundw
      case rel => exact ⟨2, by omega, by go_num, rfl⟩
      case measure => simp [intOf]
    · simp only [bstep]
      go_wp2
      go_roundw
      case rel => exact ⟨3, by omega, by go_num, rfl⟩
      case measure => simp [intOf]
    · simp only [bstep]
      go_wp2
      go_roundw
      case rel => exact ⟨4, by omega, by go_num, rfl⟩
      case measure => simp [intOf]
    · simp only [bstep]
      go_wp2
      go_roundw
      case rel => exact ⟨5, by omega, by go_num, rfl⟩
      case measure => simp [intOf]
    · simp only [bstep]
      go_wp2
      go_roundw
      case rel => exact ⟨6, by omega, by go_num, rfl⟩
      case measure => simp [intOf]
    · simp only [bstep]
      go_wp2
      go_roundw
      case rel => exact ⟨7, by omega, by go_num, rfl⟩
      case measure => simp [intOf]
    · simp only [bstep]
      go_wp2
      go_roundw
      case rel => exact ⟨8, by omega, by go_num, rfl⟩
      case measure => simp [intOf]
    · simp only [bstep]
      go_wp2

      refine bodyPost_ret_by (results_cell_row (fn := Tryz.f58) rfl _ _ w.heap.size 170 (bstep v 8) (0, 0) (.array 8 5) rfl ?_ u_a8 rfl s_a8) rfl ⟨rfl, ?_⟩
      · exact heap_alloc2_old w _ _
      · exact ((Below.refl _ _).alloc (Nat.le_refl _) _).alloc (by simp) _
end Go.Proofs.YtjkihlpckgaggaaGreat.C
namespace Go.Proofs.YtjkihlpckgaggaaGreat.C
open Go.RowKit
set_option linter.unusedVariables false
set_option maxRecDepth 100000

theorem info_pc : (Tryz.prog.info? 246).map (fun i => (i.zero, i.size, i.bytes)) = some (some (.pointer none), 1, 8) := by kernel_rfl
theorem info_u8 : (Tryz.prog.info? 5).map (fun i => (i.zero, i.size, i.bytes)) = some (some (.int .u8 0), 1, 1) := by kernel_rfl
theorem u_spc : Tryz.prog.underlying 157 = some (.slice 246) := by kernel_rfl
/-- a byte of a number -/
def byt (v : Int) (j : Nat) : Int := v / 256 ^ j % 256
theorem byt_b (v : Int) (j : Nat) : 0 ≤ byt v j ∧ byt v j < 256 := by unfold byt; omega
theorem bstep_row (v : Int) (v0 : 0 ≤ v) (v1 : v < 18446744073709551616) : bstep v 8 = (row (byt v) 0 8).toArray := by
  have e7 : v / 72057594037927936 = v / 72057594037927936 % 256 := by omega
  show #[_, _, _, _, _, _, _, _] = _
  rw [e7]
  simp [row, byt, List.range, List.range.loop]
theorem wpList_makes {P : Program} (w : World) {ops : Array Oper} {rest : List Oper} {o : Oper} {a : Act} {Q : Exit → Act → World → Prop} (hgd : o.guard = none) (x y : Operand) (T : TypeId) (ho : o.op = .makeSlice T x y) (e : TypeId) (z : Value) (bytes : Nat)
    (ht : P.underlying T = some (.slice e)) (hi : (P.info? e).map (fun i => (i.zero, i.size, i.bytes)) = some (some z, 1, bytes)) (hzc : z.cells = #[z]) (n : Nat) (hx : a.eval x = .int .i64 n) (hy : a.eval y = .int .i64 n) (hn : n ≤ 9223372036854775807) (hby : bytes * n ≤ 281474976710656)
    (cs : Array Value) (hc : (List.replicate n z).toArray = cs)
    (h : wpList P ops Q rest (a.put o.dst (.slice (some ⟨w.heap.size, 0, none⟩) n n)) (w.alloc (.cells cs e))) : wpList P ops Q (o :: rest) a w := by
  refine wpList_plain hgd fun K hK' => ?_
  obtain ⟨i, hi1, hz, hs, hb⟩ := info_parts hi
  have hb' : (i.bytes : Int) * (n : Int) ≤ 281474976710656 := by
    have h : ((i.bytes * n : Nat) : Int) ≤ 281474976710656 := by rw [hb]; omega
    rwa [Int.natCast_mul] at h
  have hr := run_make (P := P) w T e i z ht hi1 hz .i64 .i64 n n (by omega) (Int.le_refl _) hb' (by omega)
  have hcs : madeCells z.cells ((n : Int).toNat * i.size) = cs := by
    rw [← hc, hzc, hs]
    apply Array.ext'
    simpa using toList_madeCells_one z n
  rw [hcs] at hr
  simp only [Int.toNat_natCast] at hr
  unfold Oper.wp
  simp [execOp, ho, hx, hy, hr, Result.andThen]
  exact hK' _ _ h
theorem rowz (n : Nat) : (List.replicate n (Value.int .u8 0)).toArray = (row (fun _ => 0) 0 n).toArray := by rw [replicate_row n 0]
theorem c_New (w : World) (base : Int) (n : Nat) (b0 : 0 ≤ base) (b1 : base ≤ 4503599627370496) (bm : base % 4096 = 0) (n0 : 0 < n) (n1 : n ≤ 1024) :
    Calls Tryz.prog 28 #[.int .u64 base, .int .i64 n] w fun e w' => ∃ p S, e = .returned (.tuple #[.pointer (some ⟨p, 0, none⟩), .int .i64 0]) ∧ Mem w' S p base n (fun _ => 0) ∧ Below w.heap.size w w' ∧ ∀ k, S k → w.heap.size ≤ k := by
  go_enter Tryz.func28, Tryz.ntmps28
  go_wp2_with (at_make; refine wpList_makes _ rfl _ _ 157 rfl 246 _ 8 u_spc info_pc rfl n rfl rfl (by omega) (by omega) _ rfl ?_)
  go_ret2
  refine ⟨w.heap.size + 1, Foot (w.heap.size + 1) w.heap.size (List.replicate n none), by simp, ⟨w.heap.size, List.replicate n none, ⟨?_, ?_, fun i _ j _ => rfl, fun i h hi => ?_, fun i j h hi _ => ?_, fun j => by simp, b0, b1, by simpa using n0, by simpa using n1⟩, by simp, fun k => Iff.rfl⟩, ?_, ?_⟩
  · rw [heap_alloc2_new]; simp
  · rw [heap_alloc2_old]; simp [ptr]
  · rw [List.getElem?_replicate] at hi; split at hi <;> simp at hi
  · rw [List.getElem?_replicate] at hi; split at hi <;> simp at hi
  · exact ((Below.refl _ _).alloc (Nat.le_refl _) _).alloc (by simp) _
  · rintro k (rfl | rfl | ⟨i, hi⟩)
    · omega
    · omega
    · rw [List.getElem?_replicate] at hi; split at hi <;> simp at hi
theorem c_bytesOf2 (v : Int) (v0 : 0 ≤ v) (v1 : v < 18446744073709551616) (w : World) :
    Calls Tryz.prog 58 #[.int .u64 v] w fun e w' => e = .returned (.agg #[.int .u8 (byt v 0), .int .u8 (byt v 1), .int .u8 (byt v 2), .int .u8 (byt v 3), .int .u8 (byt v 4), .int .u8 (byt v 5), .int .u8 (byt v 6), .int .u8 (byt v 7)]) ∧ Below w.heap.size w w' := by
  refine (c_bytesOf v v0 v1 w).mono fun e w' h => ⟨?_, h.2⟩
  rw [h.1, bstep_row v v0 v1]
  rfl
theorem run_cut8 (b m : Nat) (h : m ≤ 8) (h0 : 0 < m) (w : World) : (Instr.sliceAt 170 (.pointer (some ⟨b, 0, none⟩)) none (some (.int .i64 (m : Int))) none).run Tryz.prog w = .ok (.slice (some ⟨b, 0, none⟩) m 8) w := by
  obtain ⟨i, hi, hsz⟩ : ∃ i, Tryz.prog.info? 5 = some i ∧ i.size = 1 := by
    cases hq : Tryz.prog.info? 5 with
    | none => have := s_u8; rw [hq] at this; cases this
    | some i => have := s_u8; rw [hq] at this; exact ⟨i, rfl, by simpa using this⟩
  have h1 : (0 : Int) ≤ (m : Int) ∧ (m : Int) ≤ 8 := by omega
  simp [Instr.sliceAt, run_underlying u_a8, Instr.sureAddr, Instr.sliceBounds, Instr.sliceBound, asIntOf, sizeOf, typeInfo, hi, h1, addr_add]
  intro q; omega
end Go.Proofs.YtjkihlpckgaggaaGreat.C
namespace Go.Proofs.YtjkihlpckgaggaaGreat.C
open Go.RowKit
set_option linter.unusedVariables false
set_option maxRecDepth 100000

def wid (z : Int) : Bool := decide (z = 1 ∨ z = 2 ∨ z = 4 ∨ z = 8)
theorem hasB_of {base : Int} {n : Nat} {off size : Nat} (hl : off + size ≤ 4096 * n) : hasB base n (base + off) size = true := by simp [hasB]; omega
theorem nu_tail (b : Nat → Int) (s : Nat) (h : ∀ j, s ≤ j → b j = 0) : ∀ k, nu b (s + k) = nu b s
  | 0 => rfl
  | k + 1 => by show nu b (s + k) + b (s + k) * 256 ^ (s + k) = _; rw [nu_tail b s h k, h _ (by omega)]; simp
theorem nu_congr {b c : Nat → Int} : ∀ k, (∀ j, j < k → b j = c j) → nu b k = nu c k
  | 0, _ => rfl
  | k + 1, h => by show nu b k + b k * _ = nu c k + c k * _; rw [nu_congr k fun j hj => h j (by omega), h k (by omega)]
theorem nu_put (g : Nat → Int) (s : Nat) (h : s ≤ 8) : nu (put (fun _ => 0) 0 s g) 8 = nu g s := by
  obtain ⟨k, hk⟩ : ∃ k, 8 = s + k := ⟨8 - s, by omega⟩
  rw [hk, nu_tail (put (fun _ => 0) 0 s g) s (fun j hj => put_out _ _ _ _ _ (by omega))]
  exact nu_congr _ fun j hj => by rw [put_in' _ _ _ _ _ (by omega) (by omega)]; rfl
theorem Mem.drew {w : World} {S : Nat → Prop} {p : Nat} {base : Int} {n : Nat} {f : Nat → Int} (h : Mem w S p base n f) : Mem w.drew S p base n f := h.only (T := fun _ => False) (Only.refl w).drew fun _ _ q => q
theorem RM.alloc {w : World} {p g : Nat} {base : Int} {hs : List (Option Nat)} {f : Nat → Int} (h : RM w p g base hs f) (o : Obj) : RM (w.alloc o) p g base hs f :=
  h.only (T := fun _ => False) ((Only.refl w).alloc o) fun _ _ q => q
theorem RM.still {w w' : World} {p g : Nat} {base : Int} {hs : List (Option Nat)} {f : Nat → Int} (h : RM w p g base hs f) (hs' : Still w w') : RM w' p g base hs f :=
  h.only (T := fun _ => False) hs'.only fun _ _ q => q
theorem RM.below {w w' : World} {p g : Nat} {base : Int} {hs : List (Option Nat)} {f : Nat → Int} (h : RM w p g base hs f) (hb : Below w.heap.size w w') : RM w' p g base hs f :=
  h.only (T := fun _ => False) (.ofBelow hb) fun _ _ q => q
theorem only_below {w w' : World} {b : Nat} (h : Only (· = b) w w') {B : Nat} (hb : B ≤ b) (hB : B ≤ w.heap.size) : Below B w w' := h.below B hB (by rintro k rfl; exact hb)
theorem Mem.of_store {w w1 w' : World} {S : Nat → Prop} {p g : Nat} {base : Int} {hs hs' : List (Option Nat)} {f : Nat → Int} (hS : ∀ k, S k ↔ Foot p g hs k) (h1 : Below w.heap.size w w1) (hr : RM w' p g base hs' f) (ho : Only (Foot p g hs) w1 w') (hlen : hs'.length = hs.length)
    (hn : ∀ (j h' : Nat), hs'[j]? = some (some h') → hs[j]? = some (some h') ∨ w1.heap.size ≤ h') : ∃ S', Mem w' S' p base hs.length f ∧ Only S w w' ∧ ∀ k, S' k → S k ∨ w.heap.size ≤ k := by
  refine ⟨Foot p g hs', ⟨g, hs', hr, hlen, fun k => Iff.rfl⟩, (Only.ofBelow h1).trans' ho fun i _ q => (hS i).2 q, ?_⟩
  rintro k (rfl | rfl | ⟨i, hi⟩)
  · exact .inl ((hS _).2 (.inl rfl))
  · exact .inl ((hS _).2 (.inr (.inl rfl)))
  · rcases hn i k hi with e | e
    · exact .inl ((hS _).2 (.inr (.inr ⟨i, e⟩)))
    · exact .inr (Nat.le_trans h1.size e)
theorem RM.clear {w : World} {p g : Nat} {base : Int} {hs : List (Option Nat)} {f : Nat → Int} (h : RM w p g base hs f) (i : Nat) (hil : i < hs.length) :
    RM (w.setCell ⟨g, i, none⟩ (.pointer none)) p g base (hs.set i none) (put f (4096 * i) 4096 fun _ => 0) := by
  have hpg : p ≠ g := by rintro rfl; have := h.top; rw [h.tab] at this; simp at this
  have hold : ∀ k, k ≠ g → (w.setCell ⟨g, i, none⟩ (.pointer none)).heap[k]? = w.heap[k]? := fun k hkg => Below.heap_setCell _ _ _ k hkg
  refine ⟨?_, ?_, ?_, ?_, ?_, ?_, h.base0, h.base1, by simpa using h.len0, by simpa using h.len1⟩
  · rw [hold p hpg, List.length_set]; exact h.top
  · rw [heap_setCell_same _ g i _ _ _ h.tab]
    congr 2
    simp [List.map_set, ptr]
  · intro j hj k hk
    by_cases e : j = i
    · subst e; rw [put_in _ _ _ _ _ hk]
    · rw [List.getElem?_set_ne (by omega)] at hj; rw [put_out _ _ _ _ _ (by omega)]; exact h.bare j hj k hk
  · intro j hh hj
    by_cases e : j = i
    · subst e; rw [List.getElem?_set_self hil] at hj; cases hj
    · rw [List.getElem?_set_ne (by omega)] at hj
      have := h.full j hh hj
      rw [hold hh (by rintro rfl; rw [h.tab] at this; simp at this), this]
      have : row f (4096 * j) 4096 = row (put f (4096 * i) 4096 fun _ => 0) (4096 * j) 4096 := row_congr fun k hk => (put_out _ _ _ _ _ (by omega)).symm
      rw [this]
  · intro j k hh hj hk
    by_cases e : j = i
    · subst e; rw [List.getElem?_set_self hil] at hj; cases hj
    · by_cases e' : k = i
      · subst e'; rw [List.getElem?_set_self hil] at hk; cases hk
      · rw [List.getElem?_set_ne (by omega)] at hj hk
        exact h.inj j k hh hj hk
  · intro j
    unfold put
    split
    · exact ⟨Int.le_refl _, show (0 : Int) < 256 by decide⟩
    · exact h.byt j
set_option maxHeartbeats 1000000 in
theorem c_Read (w : World) (S : Nat → Prop) (p : Nat) (base : Int) (n : Nat) (f : Nat → Int) (h : Mem w S p base n f) (off size : Nat) (hl : off + size ≤ 4096 * n) (hw : size = 1 ∨ size = 2 ∨ size = 4 ∨ size = 8) (addr : Int) (ha : addr = base + off) :
    Calls Tryz.prog 192 #[.pointer (some ⟨p, 0, none⟩), .int .u64 addr, .int .i64 size] w fun e w' => e = .returned (.tuple #[.int .u64 (nu (fun j => f (off + j)) size), .bool true]) ∧ Below w.heap.size w w' := by
  subst ha
  obtain ⟨g, hs, hr, rfl, hS⟩ := h
  have l1 := hr.len1
  have b0 := hr.base0
  have b1 := hr.base1
  have hh := hasB_of (base := base) hl
  have hwd : decide ((size : Int) = 1 ∨ (size : Int) = 2 ∨ (size : Int) = 4 ∨ (size : Int) = 8) = true := by simp; omega
  have hcut : ∀ b w, (Instr.sliceAt 170 (.pointer (some ⟨b, 0, none⟩)) none (some (.int .i64 (size : Int))) none).run Tryz.prog w = .ok (.slice (some ⟨b, 0, none⟩) size 8) w := fun b w => run_cut8 b size (by omega) (by omega) w
  obtain ⟨D, hD⟩ : ∃ D, D = put (fun _ => 0) 0 size fun j => f (off + j) := ⟨_, rfl⟩
  have HD : Hid (put (fun _ => 0) 0 size (fun j => f (off + j)) = D) := hD.symm
  have HV : Hid (nu D 8 = nu (fun j => f (off + j)) size) := by show _ = _; rw [hD]; exact nu_put _ _ (by omega)
  have HB : Hid (∀ j, 0 ≤ D j ∧ D j < 256) := by
    intro j; rw [hD]; unfold put; split
    · exact hr.byt _
    · exact ⟨Int.le_refl _, show (0 : Int) < 256 by decide⟩
  have hs8 : size ≤ 8 := by omega
  clear hD hw
  go_enter Tryz.func192, Tryz.ntmps192
  go_wp2_with (first
    | (go_at_call 56; refine (c_isWidth _ w).mono ?_; rintro e w1 ⟨rfl, hw1⟩; obtain rfl := hw1.symm; rw [hwd])
    | (go_at_call 57; refine (c_Has w p g base hs f hr _ _ (by omega) (by omega) (by omega) (by omega)).mono ?_; rintro e w1 ⟨rfl, hst⟩; rw [hh])
    | (go_at_call 193; refine (c_load _ p g base hs f ((hr.still hst).alloc _) off size 8 _ rfl hl w1.heap.size 8 (fun _ => 0) 170 (heap_alloc_new w1 _) hs8 hs8 (fun _ _ => rfl) (by decide) (by decide) (by decide)).mono ?_; rintro e w2 ⟨rfl, hg2, ho2⟩; rw [HD.out] at hg2; have HO := hid (ho2); have k0 := row_cell hg2 0 (by decide); have k1 := row_cell hg2 1 (by decide); have k2 := row_cell hg2 2 (by decide); have k3 := row_cell hg2 3 (by decide); have k4 := row_cell hg2 4 (by decide); have k5 := row_cell hg2 5 (by decide); have k6 := row_cell hg2 6 (by decide); have k7 := row_cell hg2 7 (by decide); clear hg2 ho2)
    | (go_at_call 194; refine (c_number D HB.out w2).mono ?_; rintro e w3 ⟨rfl, hb3⟩; have HB3 := hid (hb3); clear hb3))
  go_ret2
  have hsz : w1.heap.size = w.heap.size := by rw [hst.heap]
  refine ⟨by rw [← HV.out]; simp, ?_⟩
  have q1 : Below w.heap.size w (w1.alloc (.cells #[.int .u8 0, .int .u8 0, .int .u8 0, .int .u8 0, .int .u8 0, .int .u8 0, .int .u8 0, .int .u8 0] 170)) := (hst.below _).alloc (by omega) _
  exact (q1.trans (only_below HO.out (by omega) q1.size)).trans (HB3.out.mono (Nat.le_trans q1.size HO.out.size))
theorem by8 (v : Int) (w : World) (j : Nat) (hj : j < 8) : (w.alloc (.cells #[.int .u8 (byt v 0), .int .u8 (byt v 1), .int .u8 (byt v 2), .int .u8 (byt v 3), .int .u8 (byt v 4), .int .u8 (byt v 5), .int .u8 (byt v 6), .int .u8 (byt v 7)] 170)).cell? ⟨w.heap.size, 0 + j, none⟩ = some (.int .u8 (byt v j)) := by
  have := row_cell (f := byt v) (s := 0) (N := 8) (t := 170) (heap_alloc_new w (.cells (row (byt v) 0 8).toArray 170 (0, 0))) j hj
  rw [Nat.zero_add] at this
  rw [Nat.zero_add]
  exact this
set_option maxHeartbeats 1000000 in
theorem c_Write (w : World) (S : Nat → Prop) (p : Nat) (base : Int) (n : Nat) (f : Nat → Int) (h : Mem w S p base n f) (off size : Nat) (hl : off + size ≤ 4096 * n) (hw : size = 1 ∨ size = 2 ∨ size = 4 ∨ size = 8) (addr : Int) (ha : addr = base + off) (v : Int) (v0 : 0 ≤ v) (v1 : v < 18446744073709551616) :
    Calls Tryz.prog 45 #[.pointer (some ⟨p, 0, none⟩), .int .u64 addr, .int .i64 size, .int .u64 v] w fun e w' => ∃ S', e = .returned (.bool true) ∧ Mem w' S' p base n (put f off size (byt v)) ∧ Only S w w' ∧ ∀ k, S' k → S k ∨ w.heap.size ≤ k := by
  subst ha
  obtain ⟨g, hs, hr, rfl, hS⟩ := h
  have l1 := hr.len1
  have b0 := hr.base0
  have b1 := hr.base1
  have hh := hasB_of (base := base) hl
  have hwd : decide ((size : Int) = 1 ∨ (size : Int) = 2 ∨ (size : Int) = 4 ∨ (size : Int) = 8) = true := by simp; omega
  have hcut : ∀ b w, (Instr.sliceAt 170 (.pointer (some ⟨b, 0, none⟩)) none (some (.int .i64 (size : Int))) none).run Tryz.prog w = .ok (.slice (some ⟨b, 0, none⟩) size 8) w := fun b w => run_cut8 b size (by omega) (by omega) w
  have hs8 : size ≤ 8 := by omega
  clear hw
  go_enter Tryz.func45, Tryz.ntmps45
  go_wp2_with (first
    | (go_at_call 56; refine (c_isWidth _ w).mono ?_; rintro e w1 ⟨rfl, hw1⟩; obtain rfl := hw1.symm; rw [hwd])
    | (go_at_call 57; refine (c_Has w p g base hs f hr _ _ (by omega) (by omega) (by omega) (by omega)).mono ?_; rintro e w1 ⟨rfl, hst⟩; rw [hh])
    | (go_at_call 58; refine (c_bytesOf2 v v0 v1 w1).mono ?_; rintro e w2 ⟨rfl, hb2⟩; have HB2 := hid (hb2); clear hb2)
    | (go_at_call 59; (refine (c_store _ p g base hs f (((hr.still hst).below HB2.out).alloc _) off size 8 _ (byt v) (byt_b v) _ rfl hl hs8 ⟨w2.heap.size, 0, fun _ => ⟨rfl, by simp, fun e => Nat.lt_irrefl _ (((hr.still hst).below HB2.out).lt e), fun j hj => by8 v w2 j (by omega)⟩⟩).mono ?_); rintro e w3 ⟨hs', rfl, hr3, hlen3, ho3, hn3⟩; have HX := hid (Mem.of_store (w := w) hS (((hst.below _).trans (HB2.out.mono (by rw [hst.heap]; exact Nat.le_refl _))).alloc (by have := HB2.out.size; rw [hst.heap] at this; exact this) _) hr3 ho3 hlen3 hn3); clear hr3 hlen3 ho3 hn3))
  go_ret
  obtain ⟨S', a, b, c⟩ := HX.out
  exact ⟨S', rfl, a, b, c⟩
end Go.Proofs.YtjkihlpckgaggaaGreat.C
