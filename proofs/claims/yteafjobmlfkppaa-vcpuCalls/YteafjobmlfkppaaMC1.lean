/- Blocks of memory that hold bytes: which have turned, what stands in them. -/
import Derived.WalkKit
import Derived.ProofKit
import Derived.Outline
import Derived.Laws.CopyOwn
import Derived.Deep.RegionLaw
import Derived.Test.YteafjobmlfkppaaProg
import Derived.Laws.Bits64b
namespace Go.Proofs.Yteafjobmlfkppaa.C
open Go.RowKit
set_option linter.unusedVariables false
set_option maxRecDepth 100000

theorem hid {p : Prop} (h : p) : Hid p := h
/-- only blocks of S, and new ones, have turned -/
structure Only (S : Nat → Prop) (w w' : World) : Prop where
  os : w'.os = w.os
  tape : w'.tape = w.tape
  output : w'.output = w.output
  size : w.heap.size ≤ w'.heap.size
  block : ∀ k, k < w.heap.size → ¬ S k → w'.heap[k]? = w.heap[k]?
theorem Only.refl {S : Nat → Prop} (w : World) : Only S w w := ⟨rfl, rfl, rfl, Nat.le_refl _, fun _ _ _ => rfl⟩
theorem Only.trans {S : Nat → Prop} {a b c : World} (h : Only S a b) (k : Only S b c) : Only S a c :=
  ⟨k.os.trans h.os, k.tape.trans h.tape, k.output.trans h.output, Nat.le_trans h.size k.size, fun i hi hs => (k.block i (Nat.lt_of_lt_of_le hi h.size) hs).trans (h.block i hi hs)⟩
theorem Only.mono {S T : Nat → Prop} {a b : World} (h : Only S a b) (hs : ∀ k, k < a.heap.size → S k → T k) : Only T a b :=
  ⟨h.os, h.tape, h.output, h.size, fun i hi ht => h.block i hi fun q => ht (hs i hi q)⟩
/-- two steps, the second of which may turn what the first has made -/
theorem Only.trans' {S T : Nat → Prop} {a b c : World} (h : Only S a b) (k : Only T b c) (hs : ∀ i, i < a.heap.size → T i → S i) : Only S a c :=
  ⟨k.os.trans h.os, k.tape.trans h.tape, k.output.trans h.output, Nat.le_trans h.size k.size, fun i hi q => (k.block i (Nat.lt_of_lt_of_le hi h.size) fun t => q (hs i hi t)).trans (h.block i hi q)⟩
theorem Only.alloc {S : Nat → Prop} {a w : World} (h : Only S a w) (o : Obj) : Only S a (w.alloc o) :=
  ⟨h.os, h.tape, h.output, Nat.le_trans h.size (by simp), fun k hk hs => (Below.heap_alloc w o k (Nat.lt_of_lt_of_le hk h.size)).trans (h.block k hk hs)⟩
theorem Only.drew {S : Nat → Prop} {a w : World} (h : Only S a w) : Only S a w.drew := ⟨h.os, h.tape, h.output, h.size, h.block⟩
theorem Only.setCell {S : Nat → Prop} {a w : World} (h : Only S a w) {p : Addr} (hp : S p.block ∨ a.heap.size ≤ p.block) (u : Value) : Only S a (w.setCell p u) :=
  ⟨h.os, h.tape, h.output, by have := h.size; simpa [World.setCell] using this, fun k hk hs => (Below.heap_setCell w p u k (by rintro rfl; rcases hp with q | q; exact hs q; omega)).trans (h.block k hk hs)⟩
theorem Only.setRow {S : Nat → Prop} {a w : World} (h : Only S a w) {g : Nat} (hp : S g ∨ a.heap.size ≤ g) (cs : Array Value) : Only S a (w.setRow g cs) :=
  ⟨h.os, h.tape, h.output, by have := h.size; simpa [World.setRow] using this, fun k hk hs => (setRow_other w g k cs (by rintro rfl; rcases hp with q | q; exact hs q; omega)).trans (h.block k hk hs)⟩
theorem Only.ofBelow {S : Nat → Prop} {a w : World} (h : Below a.heap.size a w) : Only S a w := ⟨h.os, h.tape, h.output, h.size, fun k hk _ => h.block k hk⟩
theorem Only.below {S : Nat → Prop} {a w : World} (h : Only S a w) (B : Nat) (hB : B ≤ a.heap.size) (hs : ∀ k, S k → B ≤ k) : Below B a w :=
  ⟨h.os, h.tape, h.output, h.size, fun k hk => h.block k (by omega) fun q => by have := hs k q; omega⟩
theorem Only.old {S : Nat → Prop} {a w : World} (h : Only S a w) {k : Nat} {o : Obj} (hk : a.heap[k]? = some o) (hs : ¬ S k) : w.heap[k]? = some o :=
  (h.block k (lt_of_block hk) hs).trans hk
theorem Only.cell {S : Nat → Prop} {a w : World} (h : Only S a w) {k : Nat} (o : Nat) (hk : k < a.heap.size) (hs : ¬ S k) : w.cell? ⟨k, o, none⟩ = a.cell? ⟨k, o, none⟩ :=
  World.cell?_of_block (w := a) (h.block k hk hs)

/-- nothing has turned but what was drawn -/
structure Still (w w' : World) : Prop where
  heap : w'.heap = w.heap
  os : w'.os = w.os
  tape : w'.tape = w.tape
  output : w'.output = w.output
theorem Still.refl (w : World) : Still w w := ⟨rfl, rfl, rfl, rfl⟩
theorem Still.drew {w w' : World} (h : Still w w') : Still w w'.drew := ⟨h.heap, h.os, h.tape, h.output⟩
theorem Still.only {w w' : World} (h : Still w w') {S : Nat → Prop} : Only S w w' := ⟨h.os, h.tape, h.output, by rw [h.heap]; exact Nat.le_refl _, fun k _ _ => by rw [h.heap]⟩
theorem Still.below {w w' : World} (h : Still w w') (B : Nat) : Below B w w' := ⟨h.os, h.tape, h.output, by rw [h.heap]; exact Nat.le_refl _, fun k _ => by rw [h.heap]⟩
theorem Still.cell {w w' : World} (h : Still w w') (a : Addr) : w'.cell? a = w.cell? a := World.cell?_of_block (w := w) (by rw [h.heap])
theorem ret_int {k : IntKind} {a b : Int} (h : a = b) : Ending.returned (.int k a) = .returned (.int k b) := by rw [h]
theorem ret_bool {a b : Bool} (h : a = b) : Ending.returned (.bool a) = .returned (.bool b) := by rw [h]

/-- bytes as they stand in a row: n of them, f s and so on -/
def row (f : Nat → Int) (s n : Nat) : List Value := (List.range n).map fun j => .int .u8 (f (s + j))
theorem row_length (f : Nat → Int) (s n : Nat) : (row f s n).length = n := by simp [row]
theorem row_get (f : Nat → Int) (s n j : Nat) (h : j < n) : (row f s n)[j]? = some (.int .u8 (f (s + j))) := by simp [row, h]
theorem row_one (f : Nat → Int) (s n : Nat) : ∀ v ∈ row f s n, v.oneCell' = true := by
  intro v hv
  simp only [row, List.mem_map] at hv
  obtain ⟨j, _, rfl⟩ := hv
  rfl
theorem row_congr {f g : Nat → Int} {s t n : Nat} (h : ∀ j, j < n → f (s + j) = g (t + j)) : row f s n = row g t n := by
  unfold row
  apply List.map_congr_left
  intro j hj
  rw [h j (by simpa using hj)]
theorem row_inj {f g : Nat → Int} {s t n : Nat} (h : row f s n = row g t n) (j : Nat) (hj : j < n) : f (s + j) = g (t + j) := by
  have a := row_get f s n j hj
  rw [h, row_get g t n j hj] at a
  simpa using a.symm
/-- f, but from 'off' on n numbers are g's -/
def put (f : Nat → Int) (off n : Nat) (g : Nat → Int) : Nat → Int := fun j => if off ≤ j ∧ j < off + n then g (j - off) else f j
theorem put_in (f : Nat → Int) (off n : Nat) (g : Nat → Int) (j : Nat) (h : j < n) : put f off n g (off + j) = g j := by
  unfold put; rw [if_pos (by omega)]; congr 1; omega
theorem put_in' (f : Nat → Int) (off n : Nat) (g : Nat → Int) (j : Nat) (h0 : off ≤ j) (h : j < off + n) : put f off n g j = g (j - off) := by
  unfold put; rw [if_pos (by omega)]
theorem put_out (f : Nat → Int) (off n : Nat) (g : Nat → Int) (j : Nat) (h : j < off ∨ off + n ≤ j) : put f off n g j = f j := by
  unfold put; rw [if_neg (by omega)]
theorem put_zero (f : Nat → Int) (off : Nat) (g : Nat → Int) : put f off 0 g = f := by
  funext j; exact put_out _ _ _ _ _ (by omega)
theorem put_more (f : Nat → Int) (off k n : Nat) (g : Nat → Int) : put (put f off k g) (off + k) n (fun j => g (k + j)) = put f off (k + n) g := by
  funext j
  by_cases h1 : off ≤ j ∧ j < off + k
  · rw [put_out _ _ _ _ _ (by omega), put_in' _ _ _ _ _ h1.1 h1.2, put_in' _ _ _ _ _ h1.1 (by omega)]
  · by_cases h2 : off + k ≤ j ∧ j < off + k + n
    · rw [put_in' _ _ _ _ _ h2.1 h2.2, put_in' _ _ _ _ _ (by omega) (by omega)]
      congr 1; omega
    · rw [put_out _ _ _ _ _ (by omega), put_out _ _ _ _ _ (by omega), put_out _ _ _ _ _ (by omega)]
theorem splice_row (f g : Nat → Int) (s N off n : Nat) (t : Nat) (h : off + n ≤ N) : splice (row f s N) off (row g t n) = row (put f (s + off) n (fun j => g (t + j))) s N := by
  apply List.ext_getElem?
  intro j
  unfold splice
  rcases Nat.lt_or_ge j off with h1 | h1
  · rw [List.getElem?_append_left (by simp [row_length]; omega), List.getElem?_take_of_lt h1, row_get _ _ _ _ (by omega), row_get _ _ _ _ (by omega), put_out _ _ _ _ _ (by omega)]
  · rw [List.getElem?_append_right (by simp [row_length]; omega)]
    have e1 : (List.take off (row f s N)).length = off := by simp [row_length]; omega
    rw [e1]
    rcases Nat.lt_or_ge j (off + n) with h2 | h2
    · rw [List.getElem?_append_left (by simp [row_length]; omega), row_get _ _ _ _ (by omega), row_get _ _ _ _ (by omega), put_in' _ _ _ _ _ (by omega) (by omega)]
      congr 4; omega
    · rw [List.getElem?_append_right (by simp [row_length]; omega), row_length, List.getElem?_drop]
      rcases Nat.lt_or_ge j N with h3 | h3
      · rw [show off + n + (j - off - n) = j by omega, row_get _ _ _ _ h3, row_get _ _ _ _ h3, put_out _ _ _ _ _ (by omega)]
      · rw [show off + n + (j - off - n) = j by omega, List.getElem?_eq_none (by simp [row_length]; omega), List.getElem?_eq_none (by simp [row_length]; omega)]
theorem set_row (f : Nat → Int) (s N j : Nat) (x : Int) (h : j < N) : (row f s N).toArray.setIfInBounds j (.int .u8 x) = (row (put f (s + j) 1 (fun _ => x)) s N).toArray := by
  have := splice_row f (fun _ => x) s N j 1 0 (by omega)
  rw [← this]
  apply Array.ext'
  simp only [Array.toList_setIfInBounds]
  apply List.ext_getElem?
  intro i
  have e : row (fun _ => x) 0 1 = [.int .u8 x] := rfl
  rw [e]
  unfold splice
  simp only [List.getElem?_set, List.getElem?_append, List.length_take, row_length, List.length_cons, List.length_nil]
  rcases Nat.lt_trichotomy i j with q | q | q
  · rw [if_neg (by omega), if_pos (by omega), List.getElem?_take_of_lt q]
  · subst q; rw [if_pos rfl, if_pos h, if_neg (by omega), if_pos (by omega)]; simp [Nat.min_eq_left (Nat.le_of_lt h)]
  · rw [if_neg (by omega), if_neg (by omega), if_neg (by omega), List.getElem?_drop]
    congr 1; simp [Nat.min_eq_left (Nat.le_of_lt h)]; omega
theorem row_cell {w : World} {g : Nat} {f : Nat → Int} {s N : Nat} {t : TypeId} (hg : w.heap[g]? = some (.cells (row f s N).toArray t (0, 0))) (j : Nat) (h : j < N) : w.cell? ⟨g, j, none⟩ = some (.int .u8 (f (s + j))) := by
  rw [cell_of_row w g j _ t _ hg]
  simpa using row_get f s N j h
theorem replicate_row (n : Nat) (s : Nat) : List.replicate n (Value.int .u8 0) = row (fun _ => 0) s n := by
  apply List.ext_getElem?
  intro j
  rcases Nat.lt_or_ge j n with h | h
  · rw [row_get _ _ _ _ h]; simp [h]
  · rw [List.getElem?_eq_none (by simpa using h), List.getElem?_eq_none (by simpa [row_length] using h)]
/-- copy, as one step of a region that draws its order: only the row that is copied into has turned -/
theorem step_copy_only {P : Program} {ops : Array Oper} {o : Oper} {a : Act} {w : World} {K : Act → World → Prop} {Q : Exit → Act → World → Prop} {E : Prop} (hgd : o.guard = none) (d s : Operand) (dT sT : TypeId)
    (ho : o.op = .call { callee := .builtin .copy, args := #[d, s], argTypes := #[dT, sT] }) (elem : TypeId) (hu : P.underlying dT = some (.slice elem)) (hsz : (P.info? elem).map (·.size) = some 1)
    (ad : Addr) (dLen dCap sLen sCap : Nat) (g off : Nat) (hd : a.eval d = .slice (some ⟨g, off, none⟩) dLen dCap) (hs : a.eval s = .slice (some ad) sLen sCap)
    (cur : List Value) (t : TypeId) (hg : w.heap[g]? = some (.cells cur.toArray t (0, 0))) (cs : List Value) (hn : cs.length = Nat.min sLen dLen)
    (hsrc : ∀ j v, cs[j]? = some v → w.cell? (ad.add j) = some v) (hfit : off + cs.length ≤ cur.length) (h1 : ∀ v ∈ cs, v.oneCell' = true)
    (h : ∀ w', Hid (w'.heap[g]? = some (.cells (splice cur off cs).toArray t (0, 0))) → Hid (Only (· = g) w w') → K (a.put o.dst (goInt cs.length)) w') :
    if Region.wanted o (yielded ops a.tmps) = true then Oper.wp P o a w K Q else E := by
  have hw : Region.wanted o (yielded ops a.tmps) = true := by simp [Region.wanted, hgd]
  rw [if_pos hw]
  have hrun := run_copy_row (P := P) w dT sT o.type elem g off dLen dCap ad sLen sCap cur.toArray t cs hu hsz hg hn hsrc (by simpa using hfit) h1
  unfold Oper.wp
  simp [execOp, ho, resolve, invoke, builtin, hd, hs, hrun, Result.andThen]
  exact h _ (show _ = _ by simpa [splice] using setRow_heap w g _ _ t _ hg) (show Only _ _ _ from (Only.refl (S := (· = g)) w).setRow (.inl rfl) _)
theorem addr_add (b o j : Nat) : (⟨b, o, none⟩ : Addr).add j = ⟨b, o + j, none⟩ := by unfold Addr.add; split <;> simp_all
theorem copied {f : Nat → Int} {d : Nat → Int} {k n off N : Nat} (h : k + n ≤ N) : splice (row (put d 0 k fun j => f (off + j)) 0 N) k (row f (off + k) n) = row (put d 0 (k + n) fun j => f (off + j)) 0 N := by
  rw [splice_row _ _ _ _ _ _ _ h]
  have := put_more d 0 k n (fun j => f (off + j))
  simp only [Nat.add_assoc] at this ⊢
  rw [this]
end Go.Proofs.Yteafjobmlfkppaa.C
namespace Go.Proofs.Yteafjobmlfkppaa.C
open Go.RowKit
set_option linter.unusedVariables false
set_option maxRecDepth 100000

def ptr : Option Nat → Value
  | none => .pointer none
  | some h => .pointer (some ⟨h, 0, none⟩)
theorem ptr_one (h : Option Nat) : (ptr h).oneCell' = true := by cases h <;> rfl
/-- the blocks of a memory -/
def Foot (p g : Nat) (hs : List (Option Nat)) (k : Nat) : Prop := k = p ∨ k = g ∨ ∃ i : Nat, hs[i]? = some (some k)
/-- the bytes lie in the memory -/
def hasB (base : Int) (n : Nat) (addr size : Int) : Bool := decide (0 ≤ size ∧ base ≤ addr ∧ addr - base + size ≤ 4096 * n)
end Go.Proofs.Yteafjobmlfkppaa.C
namespace Go.Proofs.Yteafjobmlfkppaa.C
open Go.RowKit
set_option linter.unusedVariables false
set_option maxRecDepth 100000

theorem u_su8 : Try.prog.underlying 38 = some (.slice 5) := by kernel_rfl
theorem s_u8 : (Try.prog.info? 5).map (·.size) = some 1 := by kernel_rfl
theorem bare_row {f d : Nat → Int} {k n off N : Nat} (h : ∀ j, k ≤ j → j < k + n → f (off + j) = d j) : row (put d 0 (k + n) fun j => f (off + j)) 0 N = row (put d 0 k fun j => f (off + j)) 0 N := by
  apply row_congr
  intro j hj
  simp only [Nat.zero_add]
  rcases Nat.lt_or_ge j k with q | q
  · rw [put_in' _ _ _ _ _ (by omega) (by omega), put_in' _ _ _ _ _ (by omega) (by omega)]
  · rw [put_out _ _ k _ _ (by omega)]
    rcases Nat.lt_or_ge j (k + n) with q' | q'
    · rw [put_in' _ _ _ _ _ (by omega) (by omega)]; exact h j q q'
    · rw [put_out _ _ _ _ _ (by omega)]
theorem next_frame {off k n q m : Nat} (h : off + k = 4096 * q + m) (hn : n = 4096 - m) (hm : m < 4096) : Value.int .i64 ((q : Int) + 1) = .int .i64 (((off + (k + n)) / 4096 : Nat) : Int) := by
  congr 1; omega
theorem next_at {off k n q m : Nat} (h : off + k = 4096 * q + m) (hn : n = 4096 - m) (hm : m < 4096) : Value.int .i64 0 = .int .i64 (((off + (k + n)) % 4096 : Nat) : Int) := by
  congr 1; omega
def lenOf : Value → Nat
  | .slice _ l _ => l
  | _ => 0
end Go.Proofs.Yteafjobmlfkppaa.C
namespace Go.Proofs.Yteafjobmlfkppaa.C
open Go.RowKit
set_option linter.unusedVariables false
set_option maxRecDepth 100000

theorem c_cells : (Value.agg (List.replicate 4096 (Value.int .u8 0)).toArray).cells = (row (fun _ => 0) 0 4096).toArray := by rw [← replicate_row]; rfl
theorem wpList_new {P : Program} {ops : Array Oper} {rest : List Oper} {d : Option Nat} {ty e : TypeId} {pos : String} {after : Array Edge} {Q : Exit → Act → World → Prop} {a : Act} {w : World} {z : Value} (c : Array Value) (hc : z.cells = c)
    (hz : (P.info? e).map (fun i => i.zero) = some (some z)) (h : wpList P ops Q rest (a.put d (.pointer (some ⟨w.heap.size, 0, none⟩))) (w.alloc (.cells c e))) :
    wpList P ops Q ({ dst := d, op := Op.alloc e, type := ty, pos := pos, after := after, guard := none } :: rest) a w := by
  subst hc
  refine wpList_plain rfl fun K' hK' => ?_
  have hr : (Instr.alloc e true (.tuple #[])).run P w = .ok (.pointer (some ⟨w.heap.size, 0, none⟩)) (w.alloc (.cells z.cells e)) := by
    cases hq : P.info? e with
    | none => rw [hq] at hz; cases hz
    | some i =>
      have hi : i.zero = some z := by rw [hq] at hz; simpa using hz
      simp [Instr.alloc, zeroValue, typeInfo, hq, hi, newVar, newRow]
  unfold Oper.wp
  simp [execOp, hr, Result.andThen]
  exact hK' _ _ h
end Go.Proofs.Yteafjobmlfkppaa.C
namespace Go.Proofs.Yteafjobmlfkppaa.C
open Go.RowKit
set_option linter.unusedVariables false
set_option maxRecDepth 100000

/-- a call of a function, as one step of a region that draws its order -/
theorem step_call {P : Program} {ops : Array Oper} {o : Oper} {a : Act} {w : World} {K : Act → World → Prop} {Q : Exit → Act → World → Prop} {E : Prop} (hgd : o.guard = none) (f : FuncId) (x y : Operand) (tx ty : TypeId)
    (ho : o.op = .call { callee := .value (.func f), args := #[x, y], argTypes := #[tx, ty] }) (vx vy : Value) (hx : a.eval x = vx) (hy : a.eval y = vy) (hnf : (callFunc f #[vx, vy]).run P w = .ok (.enter f #[vx, vy]) w) {R : Ending → World → Prop} (hc : Calls P f #[vx, vy] w R)
    (h : ∀ e w', R e w' → ∃ v, e = .returned v ∧ K (a.put o.dst v) w') :
    if Region.wanted o (yielded ops a.tmps) = true then Oper.wp P o a w K Q else E := by
  have hw : Region.wanted o (yielded ops a.tmps) = true := by simp [Region.wanted, hgd]
  rw [if_pos hw]
  have he : (execOp a.eval o).run P w = .ok (.enter f #[vx, vy]) w := by
    have hv : a.eval (.func f) = .func (.func f) #[] #[] := rfl
    simp [execOp, ho, resolve, invoke, Deferred.ofValue, hv, hx, hy, hnf]
  unfold Oper.wp
  rw [he, Oper.upon_enter]
  refine hc.mono fun e w' hR => ?_
  obtain ⟨v, rfl, hk⟩ := h e w' hR
  exact hk

end Go.Proofs.Yteafjobmlfkppaa.C
namespace Go.Proofs.Yteafjobmlfkppaa.C
open Go.RowKit
set_option linter.unusedVariables false
set_option maxRecDepth 100000

def nu (b : Nat → Int) : Nat → Int
  | 0 => 0
  | k + 1 => nu b k + b k * 256 ^ k
theorem nu_lt (b : Nat → Int) (hb : ∀ j, 0 ≤ b j ∧ b j < 256) : ∀ k, 0 ≤ nu b k ∧ nu b k < 256 ^ k
  | 0 => by simp [nu]
  | k + 1 => by
    have ih := nu_lt b hb k
    have h := hb k
    have hp : (0 : Int) < 256 ^ k := Int.pow_pos (by decide)
    have h1 : b k * 256 ^ k ≤ 255 * 256 ^ k := Int.mul_le_mul_of_nonneg_right (by omega) (by omega)
    have h2 : 0 ≤ b k * 256 ^ k := Int.mul_nonneg h.1 (by omega)
    have h3 : (256 : Int) ^ (k + 1) = 256 * 256 ^ k := by rw [Int.pow_succ]; omega
    simp only [nu]
    omega
theorem or_nu (x y : Int) (k : Nat) (hk : k < 8) (h0 : 0 ≤ x) (h1 : x < 256 ^ k) (h2 : 0 ≤ y) (h3 : y < 256) : bits .or .u64 x (y * 256 ^ k) = x + y * 256 ^ k := by
  obtain ⟨a, rfl⟩ := Int.eq_ofNat_of_zero_le h0
  obtain ⟨b, rfl⟩ := Int.eq_ofNat_of_zero_le h2
  have e : (256 : Nat) ^ k = 2 ^ (8 * k) := by rw [Nat.pow_mul]
  have ec : (256 : Int) ^ k = ((256 ^ k : Nat) : Int) := (Int.natCast_pow 256 k).symm
  have ha : a < 2 ^ (8 * k) := by rw [← e]; rw [ec] at h1; exact Int.ofNat_lt.1 h1
  have hp : 2 ^ (8 * k) * 256 ≤ 2 ^ 64 := by
    have : 2 ^ (8 * k) ≤ 2 ^ 56 := Nat.pow_le_pow_right (by decide) (by omega)
    omega
  have hb : b < 256 := by omega
  have hbk : b * 2 ^ (8 * k) ≤ 255 * 2 ^ (8 * k) := Nat.mul_le_mul_right _ (by omega)
  have hy : (b : Int) * 256 ^ k = ((b * 2 ^ (8 * k) : Nat) : Int) := by rw [ec, e]; exact (Int.natCast_mul _ _).symm
  have hor := Nat.two_pow_add_eq_or_of_lt ha b
  rw [hy, bits_or_u64_nat _ _ (by omega) (by omega), Nat.or_comm, Nat.mul_comm b, ← hor]
  omega
theorem nu_step (b : Nat → Int) (k : Nat) : nu b k + b k * 256 ^ k = nu b (k + 1) := rfl
end Go.Proofs.Yteafjobmlfkppaa.C
namespace Go.Proofs.Yteafjobmlfkppaa.C
open Go.RowKit
set_option linter.unusedVariables false
set_option maxRecDepth 100000

def bstep (v : Int) : Nat → Array Value
  | 0 => #[.int .u8 0, .int .u8 0, .int .u8 0, .int .u8 0, .int .u8 0, .int .u8 0, .int .u8 0, .int .u8 0]
  | 1 => #[.int .u8 (v % 256), .int .u8 0, .int .u8 0, .int .u8 0, .int .u8 0, .int .u8 0, .int .u8 0, .int .u8 0]
  | 2 => #[.int .u8 (v % 256), .int .u8 (v / 256 % 256), .int .u8 0, .int .u8 0, .int .u8 0, .int .u8 0, .int .u8 0, .int .u8 0]
  | 3 => #[.int .u8 (v % 256), .int .u8 (v / 256 % 256), .int .u8 (v / 65536 % 256), .int .u8 0, .int .u8 0, .int .u8 0, .int .u8 0, .int .u8 0]
  | 4 => #[.int .u8 (v % 256), .int .u8 (v / 256 % 256), .int .u8 (v / 65536 % 256), .int .u8 (v / 16777216 % 256), .int .u8 0, .int .u8 0, .int .u8 0, .int .u8 0]
  | 5 => #[.int .u8 (v % 256), .int .u8 (v / 256 % 256), .int .u8 (v / 65536 % 256), .int .u8 (v / 16777216 % 256), .int .u8 (v / 4294967296 % 256), .int .u8 0, .int .u8 0, .int .u8 0]
  | 6 => #[.int .u8 (v % 256), .int .u8 (v / 256 % 256), .int .u8 (v / 65536 % 256), .int .u8 (v / 16777216 % 256), .int .u8 (v / 4294967296 % 256), .int .u8 (v / 1099511627776 % 256), .int .u8 0, .int .u8 0]
  | 7 => #[.int .u8 (v % 256), .int .u8 (v / 256 % 256), .int .u8 (v / 65536 % 256), .int .u8 (v / 16777216 % 256), .int .u8 (v / 4294967296 % 256), .int .u8 (v / 1099511627776 % 256), .int .u8 (v / 281474976710656 % 256), .int .u8 0]
  | _ => #[.int .u8 (v % 256), .int .u8 (v / 256 % 256), .int .u8 (v / 65536 % 256), .int .u8 (v / 16777216 % 256), .int .u8 (v / 4294967296 % 256), .int .u8 (v / 1099511627776 % 256), .int .u8 (v / 281474976710656 % 256), .int .u8 (v / 72057594037927936)]
end Go.Proofs.Yteafjobmlfkppaa.C
namespace Go.Proofs.Yteafjobmlfkppaa.C
open Go.RowKit
set_option linter.unusedVariables false
set_option maxRecDepth 100000

theorem info_u8 : (Try.prog.info? 5).map (fun i => (i.zero, i.size, i.bytes)) = some (some (.int .u8 0), 1, 1) := by kernel_rfl
/-- a byte of a number -/
def byt (v : Int) (j : Nat) : Int := v / 256 ^ j % 256
theorem byt_b (v : Int) (j : Nat) : 0 ≤ byt v j ∧ byt v j < 256 := by unfold byt; omega
theorem bstep_row (v : Int) (v0 : 0 ≤ v) (v1 : v < 18446744073709551616) : bstep v 8 = (row (byt v) 0 8).toArray := by
  have e7 : v / 72057594037927936 = v / 72057594037927936 % 256 := by omega
  show #[_, _, _, _, _, _, _, _] = _
  rw [e7]
  simp [row, byt, List.range, List.range.loop]
theorem wpList_makes {P : Program} (w : World) {ops : Array Oper} {rest : List Oper} {o : Oper} {a : Act} {Q : Exit → Act → World → Prop} (hgd : o.guard = none) (x y : Operand) (T : TypeId) (ho : o.op = .makeSlice T x y) (e : TypeId) (z : Value) (bytes : Nat)
    (ht : P.underlying T = some (.slice e)) (hi : (P.info? e).map (fun i => (i.zero, i.size, i.bytes)) = some (some z, 1, bytes)) (hzc : z.cells = #[z]) (n : Nat) (hx : a.eval x = .int .i64 n) (hy : a.eval y = .int .i64 n) (hn : n ≤ 9223372036854775807) (hby : bytes * n ≤ 281474976710656)
    (cs : Array Value) (hc : (List.replicate n z).toArray = cs)
    (h : wpList P ops Q rest (a.put o.dst (.slice (some ⟨w.heap.size, 0, none⟩) n n)) (w.alloc (.cells cs e))) : wpList P ops Q (o :: rest) a w := by
  refine wpList_plain hgd fun K hK' => ?_
  obtain ⟨i, hi1, hz, hs, hb⟩ := info_parts hi
  have hb' : (i.bytes : Int) * (n : Int) ≤ 281474976710656 := by
    have h : ((i.bytes * n : Nat) : Int) ≤ 281474976710656 := by rw [hb]; omega
    rwa [Int.natCast_mul] at h
  have hr := run_make (P := P) w T e i z ht hi1 hz .i64 .i64 n n (by omega) (Int.le_refl _) hb' (by omega)
  have hcs : madeCells z.cells ((n : Int).toNat * i.size) = cs := by
    rw [← hc, hzc, hs]
    apply Array.ext'
    simpa using toList_madeCells_one z n
  rw [hcs] at hr
  simp only [Int.toNat_natCast] at hr
  unfold Oper.wp
  simp [execOp, ho, hx, hy, hr, Result.andThen]
  exact hK' _ _ h
theorem rowz (n : Nat) : (List.replicate n (Value.int .u8 0)).toArray = (row (fun _ => 0) 0 n).toArray := by rw [replicate_row n 0]
end Go.Proofs.Yteafjobmlfkppaa.C
namespace Go.Proofs.Yteafjobmlfkppaa.C
open Go.RowKit
set_option linter.unusedVariables false
set_option maxRecDepth 100000

def wid (z : Int) : Bool := decide (z = 1 ∨ z = 2 ∨ z = 4 ∨ z = 8)
theorem hasB_of {base : Int} {n : Nat} {off size : Nat} (hl : off + size ≤ 4096 * n) : hasB base n (base + off) size = true := by simp [hasB]; omega
theorem nu_tail (b : Nat → Int) (s : Nat) (h : ∀ j, s ≤ j → b j = 0) : ∀ k, nu b (s + k) = nu b s
  | 0 => rfl
  | k + 1 => by show nu b (s + k) + b (s + k) * 256 ^ (s + k) = _; rw [nu_tail b s h k, h _ (by omega)]; simp
theorem nu_congr {b c : Nat → Int} : ∀ k, (∀ j, j < k → b j = c j) → nu b k = nu c k
  | 0, _ => rfl
  | k + 1, h => by show nu b k + b k * _ = nu c k + c k * _; rw [nu_congr k fun j hj => h j (by omega), h k (by omega)]
theorem nu_put (g : Nat → Int) (s : Nat) (h : s ≤ 8) : nu (put (fun _ => 0) 0 s g) 8 = nu g s := by
  obtain ⟨k, hk⟩ : ∃ k, 8 = s + k := ⟨8 - s, by omega⟩
  rw [hk, nu_tail (put (fun _ => 0) 0 s g) s (fun j hj => put_out _ _ _ _ _ (by omega))]
  exact nu_congr _ fun j hj => by rw [put_in' _ _ _ _ _ (by omega) (by omega)]; rfl
theorem only_below {w w' : World} {b : Nat} (h : Only (· = b) w w') {B : Nat} (hb : B ≤ b) (hB : B ≤ w.heap.size) : Below B w w' := h.below B hB (by rintro k rfl; exact hb)
end Go.Proofs.Yteafjobmlfkppaa.C
