/- Blocks of memory that hold bytes: which have turned, what stands in them. -/
import Derived.WalkKit
import Derived.ProofKit
import Derived.Outline
import Derived.Laws.CopyOwn
import Derived.Deep.RegionLaw
namespace Go.Proofs.Ytioodijiejipiaa
open Go.RowKit
set_option linter.unusedVariables false

theorem hid {p : Prop} (h : p) : Hid p := h
/-- only blocks of S, and new ones, have turned -/
structure Only (S : Nat → Prop) (w w' : World) : Prop where
  os : w'.os = w.os
  tape : w'.tape = w.tape
  output : w'.output = w.output
  size : w.heap.size ≤ w'.heap.size
  block : ∀ k, k < w.heap.size → ¬ S k → w'.heap[k]? = w.heap[k]?
theorem Only.refl {S : Nat → Prop} (w : World) : Only S w w := ⟨rfl, rfl, rfl, Nat.le_refl _, fun _ _ _ => rfl⟩
theorem Only.trans {S : Nat → Prop} {a b c : World} (h : Only S a b) (k : Only S b c) : Only S a c :=
  ⟨k.os.trans h.os, k.tape.trans h.tape, k.output.trans h.output, Nat.le_trans h.size k.size, fun i hi hs => (k.block i (Nat.lt_of_lt_of_le hi h.size) hs).trans (h.block i hi hs)⟩
theorem Only.mono {S T : Nat → Prop} {a b : World} (h : Only S a b) (hs : ∀ k, k < a.heap.size → S k → T k) : Only T a b :=
  ⟨h.os, h.tape, h.output, h.size, fun i hi ht => h.block i hi fun q => ht (hs i hi q)⟩
/-- two steps, the second of which may turn what the first has made -/
theorem Only.trans' {S T : Nat → Prop} {a b c : World} (h : Only S a b) (k : Only T b c) (hs : ∀ i, i < a.heap.size → T i → S i) : Only S a c :=
  ⟨k.os.trans h.os, k.tape.trans h.tape, k.output.trans h.output, Nat.le_trans h.size k.size, fun i hi q => (k.block i (Nat.lt_of_lt_of_le hi h.size) fun t => q (hs i hi t)).trans (h.block i hi q)⟩
theorem Only.alloc {S : Nat → Prop} {a w : World} (h : Only S a w) (o : Obj) : Only S a (w.alloc o) :=
  ⟨h.os, h.tape, h.output, Nat.le_trans h.size (by simp), fun k hk hs => (Below.heap_alloc w o k (Nat.lt_of_lt_of_le hk h.size)).trans (h.block k hk hs)⟩
theorem Only.drew {S : Nat → Prop} {a w : World} (h : Only S a w) : Only S a w.drew := ⟨h.os, h.tape, h.output, h.size, h.block⟩
theorem Only.setCell {S : Nat → Prop} {a w : World} (h : Only S a w) {p : Addr} (hp : S p.block ∨ a.heap.size ≤ p.block) (u : Value) : Only S a (w.setCell p u) :=
  ⟨h.os, h.tape, h.output, by have := h.size; simpa [World.setCell] using this, fun k hk hs => (Below.heap_setCell w p u k (by rintro rfl; rcases hp with q | q; exact hs q; omega)).trans (h.block k hk hs)⟩
theorem Only.setRow {S : Nat → Prop} {a w : World} (h : Only S a w) {g : Nat} (hp : S g ∨ a.heap.size ≤ g) (cs : Array Value) : Only S a (w.setRow g cs) :=
  ⟨h.os, h.tape, h.output, by have := h.size; simpa [World.setRow] using this, fun k hk hs => (setRow_other w g k cs (by rintro rfl; rcases hp with q | q; exact hs q; omega)).trans (h.block k hk hs)⟩
theorem Only.ofBelow {S : Nat → Prop} {a w : World} (h : Below a.heap.size a w) : Only S a w := ⟨h.os, h.tape, h.output, h.size, fun k hk _ => h.block k hk⟩
theorem Only.below {S : Nat → Prop} {a w : World} (h : Only S a w) (B : Nat) (hB : B ≤ a.heap.size) (hs : ∀ k, S k → B ≤ k) : Below B a w :=
  ⟨h.os, h.tape, h.output, h.size, fun k hk => h.block k (by omega) fun q => by have := hs k q; omega⟩
theorem Only.old {S : Nat → Prop} {a w : World} (h : Only S a w) {k : Nat} {o : Obj} (hk : a.heap[k]? = some o) (hs : ¬ S k) : w.heap[k]? = some o :=
  (h.block k (lt_of_block hk) hs).trans hk
theorem Only.cell {S : Nat → Prop} {a w : World} (h : Only S a w) {k : Nat} (o : Nat) (hk : k < a.heap.size) (hs : ¬ S k) : w.cell? ⟨k, o, none⟩ = a.cell? ⟨k, o, none⟩ :=
  World.cell?_of_block (w := a) (h.block k hk hs)

/-- nothing has turned but what was drawn -/
structure Still (w w' : World) : Prop where
  heap : w'.heap = w.heap
  os : w'.os = w.os
  tape : w'.tape = w.tape
  output : w'.output = w.output
theorem Still.refl (w : World) : Still w w := ⟨rfl, rfl, rfl, rfl⟩
theorem Still.drew {w w' : World} (h : Still w w') : Still w w'.drew := ⟨h.heap, h.os, h.tape, h.output⟩
theorem Still.only {w w' : World} (h : Still w w') {S : Nat → Prop} : Only S w w' := ⟨h.os, h.tape, h.output, by rw [h.heap]; exact Nat.le_refl _, fun k _ _ => by rw [h.heap]⟩
theorem Still.below {w w' : World} (h : Still w w') (B : Nat) : Below B w w' := ⟨h.os, h.tape, h.output, by rw [h.heap]; exact Nat.le_refl _, fun k _ => by rw [h.heap]⟩
theorem Still.cell {w w' : World} (h : Still w w') (a : Addr) : w'.cell? a = w.cell? a := World.cell?_of_block (w := w) (by rw [h.heap])
theorem ret_int {k : IntKind} {a b : Int} (h : a = b) : Ending.returned (.int k a) = .returned (.int k b) := by rw [h]
theorem ret_bool {a b : Bool} (h : a = b) : Ending.returned (.bool a) = .returned (.bool b) := by rw [h]

/-- bytes as they stand in a row: n of them, f s and so on -/
def row (f : Nat → Int) (s n : Nat) : List Value := (List.range n).map fun j => .int .u8 (f (s + j))
theorem row_length (f : Nat → Int) (s n : Nat) : (row f s n).length = n := by simp [row]
theorem row_get (f : Nat → Int) (s n j : Nat) (h : j < n) : (row f s n)[j]? = some (.int .u8 (f (s + j))) := by simp [row, h]
theorem row_one (f : Nat → Int) (s n : Nat) : ∀ v ∈ row f s n, v.oneCell' = true := by
  intro v hv
  simp only [row, List.mem_map] at hv
  obtain ⟨j, _, rfl⟩ := hv
  rfl
theorem row_congr {f g : Nat → Int} {s t n : Nat} (h : ∀ j, j < n → f (s + j) = g (t + j)) : row f s n = row g t n := by
  unfold row
  apply List.map_congr_left
  intro j hj
  rw [h j (by simpa using hj)]
theorem row_inj {f g : Nat → Int} {s t n : Nat} (h : row f s n = row g t n) (j : Nat) (hj : j < n) : f (s + j) = g (t + j) := by
  have a := row_get f s n j hj
  rw [h, row_get g t n j hj] at a
  simpa using a.symm
/-- f, but from 'off' on n numbers are g's -/
def put (f : Nat → Int) (off n : Nat) (g : Nat → Int) : Nat → Int := fun j => if off ≤ j ∧ j < off + n then g (j - off) else f j
theorem put_in (f : Nat → Int) (off n : Nat) (g : Nat → Int) (j : Nat) (h : j < n) : put f off n g (off + j) = g j := by
  unfold put; rw [if_pos (by omega)]; congr 1; omega
theorem put_in' (f : Nat → Int) (off n : Nat) (g : Nat → Int) (j : Nat) (h0 : off ≤ j) (h : j < off + n) : put f off n g j = g (j - off) := by
  unfold put; rw [if_pos (by omega)]
theorem put_out (f : Nat → Int) (off n : Nat) (g : Nat → Int) (j : Nat) (h : j < off ∨ off + n ≤ j) : put f off n g j = f j := by
  unfold put; rw [if_neg (by omega)]
theorem put_zero (f : Nat → Int) (off : Nat) (g : Nat → Int) : put f off 0 g = f := by
  funext j; exact put_out _ _ _ _ _ (by omega)
theorem put_more (f : Nat → Int) (off k n : Nat) (g : Nat → Int) : put (put f off k g) (off + k) n (fun j => g (k + j)) = put f off (k + n) g := by
  funext j
  by_cases h1 : off ≤ j ∧ j < off + k
  · rw [put_out _ _ _ _ _ (by omega), put_in' _ _ _ _ _ h1.1 h1.2, put_in' _ _ _ _ _ h1.1 (by omega)]
  · by_cases h2 : off + k ≤ j ∧ j < off + k + n
    · rw [put_in' _ _ _ _ _ h2.1 h2.2, put_in' _ _ _ _ _ (by omega) (by omega)]
      congr 1; omega
    · rw [put_out _ _ _ _ _ (by omega), put_out _ _ _ _ _ (by omega), put_out _ _ _ _ _ (by omega)]
theorem splice_row (f g : Nat → Int) (s N off n : Nat) (t : Nat) (h : off + n ≤ N) : splice (row f s N) off (row g t n) = row (put f (s + off) n (fun j => g (t + j))) s N := by
  apply List.ext_getElem?
  intro j
  unfold splice
  rcases Nat.lt_or_ge j off with h1 | h1
  · rw [List.getElem?_append_left (by simp [row_length]; omega), List.getElem?_take_of_lt h1, row_get _ _ _ _ (by omega), row_get _ _ _ _ (by omega), put_out _ _ _ _ _ (by omega)]
  · rw [List.getElem?_append_right (by simp [row_length]; omega)]
    have e1 : (List.take off (row f s N)).length = off := by simp [row_length]; omega
    rw [e1]
    rcases Nat.lt_or_ge j (off + n) with h2 | h2
    · rw [List.getElem?_append_left (by simp [row_length]; omega), row_get _ _ _ _ (by omega), row_get _ _ _ _ (by omega), put_in' _ _ _ _ _ (by omega) (by omega)]
      congr 4; omega
    · rw [List.getElem?_append_right (by simp [row_length]; omega), row_length, List.getElem?_drop]
      rcases Nat.lt_or_ge j N with h3 | h3
      · rw [show off + n + (j - off - n) = j by omega, row_get _ _ _ _ h3, row_get _ _ _ _ h3, put_out _ _ _ _ _ (by omega)]
      · rw [show off + n + (j - off - n) = j by omega, List.getElem?_eq_none (by simp [row_length]; omega), List.getElem?_eq_none (by simp [row_length]; omega)]
theorem set_row (f : Nat → Int) (s N j : Nat) (x : Int) (h : j < N) : (row f s N).toArray.setIfInBounds j (.int .u8 x) = (row (put f (s + j) 1 (fun _ => x)) s N).toArray := by
  have := splice_row f (fun _ => x) s N j 1 0 (by omega)
  rw [← this]
  apply Array.ext'
  simp only [Array.toList_setIfInBounds]
  apply List.ext_getElem?
  intro i
  have e : row (fun _ => x) 0 1 = [.int .u8 x] := rfl
  rw [e]
  unfold splice
  simp only [List.getElem?_set, List.getElem?_append, List.length_take, row_length, List.length_cons, List.length_nil]
  rcases Nat.lt_trichotomy i j with q | q | q
  · rw [if_neg (by omega), if_pos (by omega), List.getElem?_take_of_lt q]
  · subst q; rw [if_pos rfl, if_pos h, if_neg (by omega), if_pos (by omega)]; simp [Nat.min_eq_left (Nat.le_of_lt h)]
  · rw [if_neg (by omega), if_neg (by omega), if_neg (by omega), List.getElem?_drop]
    congr 1; simp [Nat.min_eq_left (Nat.le_of_lt h)]; omega
theorem row_cell {w : World} {g : Nat} {f : Nat → Int} {s N : Nat} {t : TypeId} (hg : w.heap[g]? = some (.cells (row f s N).toArray t (0, 0))) (j : Nat) (h : j < N) : w.cell? ⟨g, j, none⟩ = some (.int .u8 (f (s + j))) := by
  rw [cell_of_row w g j _ t _ hg]
  simpa using row_get f s N j h
theorem replicate_row (n : Nat) (s : Nat) : List.replicate n (Value.int .u8 0) = row (fun _ => 0) s n := by
  apply List.ext_getElem?
  intro j
  rcases Nat.lt_or_ge j n with h | h
  · rw [row_get _ _ _ _ h]; simp [h]
  · rw [List.getElem?_eq_none (by simpa using h), List.getElem?_eq_none (by simpa [row_length] using h)]
/-- copy, as one step of a region that draws its order: only the row that is copied into has turned -/
theorem step_copy_only {P : Program} {ops : Array Oper} {o : Oper} {a : Act} {w : World} {K : Act → World → Prop} {Q : Exit → Act → World → Prop} {E : Prop} (hgd : o.guard = none) (d s : Operand) (dT sT : TypeId)
    (ho : o.op = .call { callee := .builtin .copy, args := #[d, s], argTypes := #[dT, sT] }) (elem : TypeId) (hu : P.underlying dT = some (.slice elem)) (hsz : (P.info? elem).map (·.size) = some 1)
    (ad : Addr) (dLen dCap sLen sCap : Nat) (g off : Nat) (hd : a.eval d = .slice (some ⟨g, off, none⟩) dLen dCap) (hs : a.eval s = .slice (some ad) sLen sCap)
    (cur : List Value) (t : TypeId) (hg : w.heap[g]? = some (.cells cur.toArray t (0, 0))) (cs : List Value) (hn : cs.length = Nat.min sLen dLen)
    (hsrc : ∀ j v, cs[j]? = some v → w.cell? (ad.add j) = some v) (hfit : off + cs.length ≤ cur.length) (h1 : ∀ v ∈ cs, v.oneCell' = true)
    (h : ∀ w', Hid (w'.heap[g]? = some (.cells (splice cur off cs).toArray t (0, 0))) → Hid (Only (· = g) w w') → K (a.put o.dst (goInt cs.length)) w') :
    if Region.wanted o (yielded ops a.tmps) = true then Oper.wp P o a w K Q else E := by
  have hw : Region.wanted o (yielded ops a.tmps) = true := by simp [Region.wanted, hgd]
  rw [if_pos hw]
  have hrun := run_copy_row (P := P) w dT sT o.type elem g off dLen dCap ad sLen sCap cur.toArray t cs hu hsz hg hn hsrc (by simpa using hfit) h1
  unfold Oper.wp
  simp [execOp, ho, resolve, invoke, builtin, hd, hs, hrun, Result.andThen]
  exact h _ (show _ = _ by simpa [splice] using setRow_heap w g _ _ t _ hg) (show Only _ _ _ from (Only.refl (S := (· = g)) w).setRow (.inl rfl) _)
theorem addr_add (b o j : Nat) : (⟨b, o, none⟩ : Addr).add j = ⟨b, o + j, none⟩ := by unfold Addr.add; split <;> simp_all
theorem copied {f : Nat → Int} {d : Nat → Int} {k n off N : Nat} (h : k + n ≤ N) : splice (row (put d 0 k fun j => f (off + j)) 0 N) k (row f (off + k) n) = row (put d 0 (k + n) fun j => f (off + j)) 0 N := by
  rw [splice_row _ _ _ _ _ _ _ h]
  have := put_more d 0 k n (fun j => f (off + j))
  simp only [Nat.add_assoc] at this ⊢
  rw [this]
end Go.Proofs.Ytioodijiejipiaa
