/- What the statements share: Place, SameBytes, awake. -/
import Derived.Test.YtpppljlfljoccaaMC1
import Derived.Laws.Cover3
import Derived.BigRegion
namespace Go.Proofs.Ytpppljlfljoccaa.C
open Go.RowKit
set_option linter.unusedVariables false
set_option maxRecDepth 100000

theorem tmod_place (z n : Int) (hn : 0 < n) : (z.tmod n < 0 → z.tmod n + n = z % n) ∧ (¬ z.tmod n < 0 → z.tmod n = z % n) := by
  have h0 := Int.emod_nonneg z (by omega : n ≠ 0)
  have h1 := Int.emod_lt_of_pos z hn
  rw [Int.tmod_eq_emod]
  split
  · omega
  · have : ((n.natAbs : Nat) : Int) = n := by omega
    constructor
    · intro _; omega
    · intro q; exfalso; omega
/-- a slice of bytes as it stands: n of them, f 0 and so on -/
def Sl (w : World) (v : Value) (n : Nat) (f : Nat → Int) : Prop := ∃ ad cap, v = .slice ad n cap ∧ n ≤ cap ∧ ∃ a : Addr, 0 < n → ad = some a ∧ a.block < w.heap.size ∧ ∀ j, j < n → w.cell? (a.add j) = some (.int .u8 (f j))
theorem Sl.still {w w' : World} {v : Value} {n : Nat} {f : Nat → Int} (h : Sl w v n f) (hs : Still w w') : Sl w' v n f := by
  obtain ⟨ad, cap, rfl, hc, a, hh⟩ := h
  exact ⟨ad, cap, rfl, hc, a, fun q => ⟨(hh q).1, by rw [hs.heap]; exact (hh q).2.1, fun j hj => by rw [hs.cell]; exact (hh q).2.2 j hj⟩⟩
theorem add_block (a : Addr) (j : Nat) : (a.add j).block = a.block := by unfold Addr.add; split <;> rfl
theorem Sl.only {w w' : World} {v : Value} {n : Nat} {f : Nat → Int} (h : Sl w v n f) {T : Nat → Prop} (ho : Only T w w') (hd : ∀ k, k < w.heap.size → (∀ ad c, v = .slice (some ad) n c → ad.block = k → ¬ T k)) : Sl w' v n f := by
  obtain ⟨ad, cap, rfl, hc, a, hh⟩ := h
  refine ⟨ad, cap, rfl, hc, a, fun q => ?_⟩
  obtain ⟨e, hl, hcell⟩ := hh q
  refine ⟨e, Nat.lt_of_lt_of_le hl ho.size, fun j hj => ?_⟩
  rw [← hcell j hj]
  exact World.cell?_of_block (w := w) (by rw [add_block]; exact ho.block _ hl (hd _ hl a cap (by rw [e]) rfl))
theorem Sl.below {w w' : World} {v : Value} {n : Nat} {f : Nat → Int} (h : Sl w v n f) (hb : Below w.heap.size w w') : Sl w' v n f := h.only (T := fun _ => False) (.ofBelow hb) fun _ _ _ _ _ _ q => q
theorem Sl.row {w : World} {b n : Nat} {f : Nat → Int} {t : TypeId} (h : w.heap[b]? = some (.cells (row f 0 n).toArray t (0, 0))) : Sl w (.slice (some ⟨b, 0, none⟩) n n) n f :=
  ⟨_, n, rfl, Nat.le_refl _, ⟨b, 0, none⟩, fun _ => ⟨rfl, lt_of_block h, fun j hj => by rw [addr_add, Nat.zero_add, row_cell h j hj, Nat.zero_add]⟩⟩
end Go.Proofs.Ytpppljlfljoccaa.C
namespace Go.Proofs.Ytpppljlfljoccaa.C
open Go.RowKit
set_option linter.unusedVariables false
set_option maxRecDepth 100000

def fv : Option (Nat × Nat) → Value
  | none => .slice none 0 0
  | some (h, c) => .slice (some ⟨h, 0, none⟩) 4096 c
def FootQ (p g : Nat) (hs : List (Option (Nat × Nat))) (k : Nat) : Prop := k = p ∨ k = g ∨ ∃ (i : Nat) (c : Nat), hs[i]? = some (some (k, c))
theorem eq_nil (w : World) (a : Option Addr) (l c : Nat) : (binOp .eql 34 (.slice a l c) (.slice none 0 0)).run Try.prog w = .ok (.bool a.isNone) w := by
  have h := run_equal_slice_nil (P := Try.prog) w 34 5 a l c u_su8
  simp [binOp, h]
theorem ne_nil (w : World) (a : Option Addr) (l c : Nat) : (binOp .neq 34 (.slice a l c) (.slice none 0 0)).run Try.prog w = .ok (.bool (!a.isNone)) w := run_neq_slice_nil (P := Try.prog) w 34 5 a l c u_su8
end Go.Proofs.Ytpppljlfljoccaa.C
namespace Go.Proofs.Ytpppljlfljoccaa.C
open Go.RowKit
set_option linter.unusedVariables false
set_option maxRecDepth 100000

theorem put1_byt {f : Nat → Int} (hf : ∀ j, 0 ≤ f j ∧ f j < 256) (off : Nat) (x : Int) (x0 : 0 ≤ x) (x1 : x < 256) (j : Nat) : 0 ≤ put f off 1 (fun _ => x) j ∧ put f off 1 (fun _ => x) j < 256 := by
  unfold put
  split
  · exact ⟨x0, x1⟩
  · exact hf j
theorem run_makeB (w : World) (n : Nat) (hn : n ≤ 281474976710656) : (Instr.makeSlice 34 (.int .i64 (n : Int)) (.int .i64 (n : Int))).run Try.prog w = .ok (.slice (some ⟨w.heap.size, 0, none⟩) n n) (w.alloc (.cells (row (fun _ => 0) 0 n).toArray 5)) := by
  obtain ⟨i, hi1, hz, hs, hb⟩ := info_parts info_u8
  have hr := run_make (P := Try.prog) w 34 5 i _ u_su8 hi1 hz .i64 .i64 n n (by omega) (by omega) (by rw [hb]; omega) (by omega)
  have hcs : madeCells (Value.int .u8 0).cells ((n : Int).toNat * i.size) = (row (fun _ => 0) 0 n).toArray := by
    rw [← rowz, hs]
    apply Array.ext'
    simpa [Value.cells] using toList_madeCells_one (.int .u8 0) n
  rw [hcs] at hr
  simpa using hr
theorem run_make4 (w : World) : (Instr.makeSlice 34 (.int .i64 4096) (.int .i64 4096)).run Try.prog w = .ok (.slice (some ⟨w.heap.size, 0, none⟩) 4096 4096) (w.alloc (.cells (row (fun _ => 0) 0 4096).toArray 5)) := run_makeB w 4096 (by decide)
theorem fv_set (hs : List (Option (Nat × Nat))) (q h c : Nat) : (hs.map fv).toArray.setIfInBounds q (fv (some (h, c))) = ((hs.set q (some (h, c))).map fv).toArray := by simp [List.map_set]
end Go.Proofs.Ytpppljlfljoccaa.C
namespace Go.Proofs.Ytpppljlfljoccaa.C
open Go.RowKit
set_option linter.unusedVariables false
set_option maxRecDepth 100000

/-- what stands in the list behind k rounds -/
def fillB (ar : Nat → Int) (la k : Nat) : Nat → Int := put (fun _ => 0) 0 k (fun j => ar (j % la))
theorem fillB_step (ar : Nat → Int) (la k : Nat) (hk : k < 8192) : (row (fillB ar la k) 0 8192).toArray.setIfInBounds k (.int .u8 (ar (k % la))) = (row (fillB ar la (k + 1)) 0 8192).toArray := by
  rw [set_row _ _ _ _ _ hk, Nat.zero_add]
  have := put_more (fun _ => 0) 0 k 1 (fun j => ar (j % la))
  have e : row (put (fillB ar la k) k 1 fun _ => ar (k % la)) 0 8192 = row (fillB ar la (k + 1)) 0 8192 := by
    unfold fillB
    rw [← this]
    apply row_congr
    intro j hj
    simp only [Nat.zero_add]
    by_cases q : j = k
    · subst q; rw [put_in' _ _ _ _ _ (by omega) (by omega), put_in' _ _ _ _ _ (by omega) (by omega)]; simp
    · rw [put_out _ _ _ _ _ (by omega), put_out _ _ 1 _ _ (by omega)]
  rw [e]
theorem fillB_b (ar : Nat → Int) (har : ∀ j, 0 ≤ ar j ∧ ar j < 256) (la k j : Nat) : 0 ≤ fillB ar la k j ∧ fillB ar la k j < 256 := by
  unfold fillB put
  split
  · exact har _
  · exact ⟨Int.le_refl _, show (0 : Int) < 256 by decide⟩
theorem put_step (A B : Nat → Int) (a k : Nat) (x : Int) (hx : x = B k) : put (put A a k B) (a + k) 1 (fun _ => x) = put A a (k + 1) B := by
  rw [← put_more A a k 1 B]
  funext j
  by_cases q : j = a + k
  · subst q; rw [put_in' _ _ _ _ _ (by omega) (by omega), put_in' _ _ _ _ _ (by omega) (by omega), hx]; simp
  · rw [put_out _ _ _ _ _ (by omega), put_out _ _ 1 _ _ (by omega)]
theorem put_step0 (A B : Nat → Int) (a : Nat) (x : Int) (hx : x = B 0) : put (put A a 0 B) a 1 (fun _ => x) = put A a (0 + 1) B := put_step A B a 0 x hx
theorem nu_byt (v : Int) (v0 : 0 ≤ v) : ∀ k, nu (byt v) k = v % 256 ^ k
  | 0 => by simp [nu]
  | k + 1 => by
    show nu (byt v) k + byt v k * 256 ^ k = _
    rw [nu_byt v v0 k]
    obtain ⟨m, rfl⟩ := Int.eq_ofNat_of_zero_le v0
    have e : ∀ i : Nat, (256 : Int) ^ i = ((256 ^ i : Nat) : Int) := fun i => (Int.natCast_pow 256 i).symm
    unfold byt
    rw [e k, e (k + 1)]
    have := Nat.mod_mul (x := m) (a := 256 ^ k) (b := 256)
    rw [Nat.pow_succ]
    have h1 : ((m : Int) % ((256 ^ k : Nat) : Int)) = ((m % 256 ^ k : Nat) : Int) := (Int.natCast_emod m (256 ^ k)).symm
    have h2 : ((m : Int) / ((256 ^ k : Nat) : Int)) = ((m / 256 ^ k : Nat) : Int) := (Int.natCast_ediv m (256 ^ k)).symm
    have h3 : ((m : Int) % ((256 ^ k * 256 : Nat) : Int)) = ((m % (256 ^ k * 256) : Nat) : Int) := (Int.natCast_emod m _).symm
    have h4 : ((m / 256 ^ k : Nat) : Int) % 256 = ((m / 256 ^ k % 256 : Nat) : Int) := (Int.natCast_emod _ 256).symm
    rw [h1, h2, h3, h4, ← Int.natCast_mul, ← Int.natCast_add, this, Nat.mul_comm (256 ^ k)]
theorem same_at (A B : Nat → Int) (a n j : Nat) (hj : j < 8192) : (fun i => put (put (fun _ => 0) 0 8192 A) a n B (0 + i)) j = put A a n B j := by
  simp only [Nat.zero_add]
  unfold put
  split
  · rfl
  · rw [if_pos (by omega)]; rfl
end Go.Proofs.Ytpppljlfljoccaa.C
namespace Go.Proofs.Ytpppljlfljoccaa.C
open Go.RowKit
set_option linter.unusedVariables false
set_option maxRecDepth 100000

theorem nu_shift (b : Nat → Int) : ∀ m, nu b (m + 1) = b 0 + 256 * nu (fun j => b (1 + j)) m
  | 0 => by simp [nu]
  | m + 1 => by
    have ih := nu_shift b m
    show nu b (m + 1) + b (m + 1) * 256 ^ (m + 1) = b 0 + 256 * (nu (fun j => b (1 + j)) m + b (1 + m) * 256 ^ m)
    rw [ih, Int.pow_succ, Nat.add_comm 1 m, Int.mul_add, ← Int.add_assoc]
    congr 1
    ac_rfl
theorem nu_small (b : Nat → Int) (hb : ∀ j, 0 ≤ b j ∧ b j < 256) (k : Nat) (hk : k ≤ 7) : 0 ≤ nu b k ∧ nu b k < 72057594037927936 := by
  have h := nu_lt b hb k
  have : (256 : Int) ^ k ≤ 72057594037927936 := by
    rcases (show k = 0 ∨ k = 1 ∨ k = 2 ∨ k = 3 ∨ k = 4 ∨ k = 5 ∨ k = 6 ∨ k = 7 by omega) with rfl | rfl | rfl | rfl | rfl | rfl | rfl | rfl <;> decide
  omega
theorem div_pow (v : Int) (k : Nat) : v / 256 ^ k / 256 = v / 256 ^ (k + 1) := by rw [Int.pow_succ, Int.ediv_ediv_of_nonneg (Int.pow_nonneg (by decide))]
theorem div_b (v : Int) (v0 : 0 ≤ v) (v1 : v < 18446744073709551616) (k : Nat) : 0 ≤ v / 256 ^ k ∧ v / 256 ^ k < 18446744073709551616 := by
  have hp : (0 : Int) < 256 ^ k := Int.pow_pos (by decide)
  exact ⟨Int.ediv_nonneg v0 (by omega), Int.lt_of_le_of_lt (Int.ediv_le_self _ v0) v1⟩
end Go.Proofs.Ytpppljlfljoccaa.C
namespace Go.Proofs.Ytpppljlfljoccaa.C
open Go.RowKit
set_option linter.unusedVariables false
set_option maxRecDepth 100000

end Go.Proofs.Ytpppljlfljoccaa.C
namespace Go.Proofs.Ytpppljlfljoccaa.C
open Go.RowKit
set_option linter.unusedVariables false
set_option maxRecDepth 100000

theorem u_ssu8 : Try.prog.underlying 23 = some (.slice 34) := by kernel_rfl
theorem info_su8 : (Try.prog.info? 34).map (fun i => (i.zero, i.size, i.bytes)) = some (some (.slice none 0 0), 1, 24) := by kernel_rfl
theorem map_fv (n : Nat) : (List.replicate n (Value.slice none 0 0)).toArray = ((List.replicate n (none : Option (Nat × Nat))).map fv).toArray := by simp [fv]
/-- a base and a number of frames that are a memory's -/
def newB (base n : Int) : Bool := decide (1 ≤ n ∧ n ≤ 1024 ∧ base % 4096 = 0 ∧ base ≤ 4503599627370496)
end Go.Proofs.Ytpppljlfljoccaa.C
namespace Go.Proofs.Ytpppljlfljoccaa.C
open Go.RowKit
set_option linter.unusedVariables false
set_option maxRecDepth 100000

theorem own_some {w : World} {base : Nat} {e : TypeId} {v : Value} {n : Nat} {xs : List Value} (h : w.ownsRow base e 1 v n xs) (hn : 0 < n) : ∃ g cap cur, v = .slice (some ⟨g, 0, none⟩) n cap ∧ base ≤ g ∧ w.heap[g]? = some (.cells cur e (0, 0)) ∧ n ≤ cap ∧ cur.toList.take n = xs := by
  rcases h.2 with ⟨_, h0⟩ | ⟨g, cap, cur, rfl, hg, hh, hle, _, _, ht⟩
  · omega
  · exact ⟨g, cap, cur, rfl, hg, hh, hle, by simpa using ht⟩
theorem step_append_own {P : Program} {w : World} {ops : Array Oper} {o : Oper} {a : Act} {K : Act → World → Prop} {Q : Exit → Act → World → Prop} {E : Prop} (hgd : o.guard = none) (s x : Operand) (t : TypeId)
    (ho : o.op = .call { callee := .builtin .append, args := #[s, x], argTypes := #[t, t] })
    (base : Nat) (e : TypeId) (i : TypeInfo) (z : Value) (size bytes : Nat) (ht : P.underlying t = some (.slice e)) (hi : P.info? e = some i) (hz : i.zero = some z)
    (hsize : i.size = size) (hby : i.bytes = bytes) (hzs : z.cells.size = size) (hsz : 0 < size)
    (v : Value) (n : Nat) (xs : List Value) (hs : a.eval s = v) (hown : w.ownsRow base e size v n xs)
    (ad : Addr) (m c : Nat) (news : List Value) (hx : a.eval x = .slice (some ad) m c) (hl : news.length = m * size) (hnews : ∀ j u, news[j]? = some u → w.cell? (ad.add j) = some u) (h1 : ∀ u ∈ news, u.oneCell' = true)
    (h63 : n + m ≤ maxLen) (hbytes : (n + m) * bytes ≤ 140737488355328) (hbase : base ≤ w.heap.size)
    (h : ∀ v' w', w'.ownsRow base e size v' (n + m) (xs ++ news) → w.grownBy w' v.ownBlock → K (a.put o.dst v') w') :
    if Region.wanted o (yielded ops a.tmps) = true then Oper.wp P o a w K Q else E := by
  have hw : Region.wanted o (yielded ops a.tmps) = true := by simp [Region.wanted, hgd]
  rw [if_pos hw]
  exact wp_append_own w s x t ho base e i z size bytes ht hi hz hsize hby hzs hsz v n xs hs hown ad m c news hx hl hnews h1 h63 hbytes hbase fun v' w' h2 h3 _ => h v' w' h2 h3
theorem take_get2 {cur : Array Value} {f : Nat → Int} {s n : Nat} (h : cur.toList.take (0 + n) = [] ++ row f s n) (j : Nat) (hj : j < n) : cur[j]? = some (.int .u8 (f (s + j))) := by
  have := row_get f s n j hj
  rw [Nat.zero_add, List.nil_append] at h
  rw [← h, List.getElem?_take_of_lt hj] at this
  simpa using this
theorem grown_only {w w2 : World} (h : w.drew.grownBy w2 none) : Only (fun _ => False) w w2 := ⟨h.os, h.tape, h.output, h.size, fun k hk _ => h.block k hk (by simp)⟩
theorem run_makeT (w : World) (n : Nat) (hn : n ≤ 1024) : (Instr.makeSlice 23 (.int .i64 (n : Int)) (.int .i64 (n : Int))).run Try.prog w = .ok (.slice (some ⟨w.heap.size, 0, none⟩) n n) (w.alloc (.cells ((List.replicate n (none : Option (Nat × Nat))).map fv).toArray 34)) := by
  obtain ⟨i, hi1, hz, hs, hb⟩ := info_parts info_su8
  have hr := run_make (P := Try.prog) w 23 34 i _ u_ssu8 hi1 hz .i64 .i64 n n (by omega) (by omega) (by rw [hb]; omega) (by omega)
  have hcs : madeCells (Value.slice none 0 0).cells ((n : Int).toNat * i.size) = ((List.replicate n (none : Option (Nat × Nat))).map fv).toArray := by
    rw [← map_fv, hs]
    apply Array.ext'
    simpa [Value.cells] using toList_madeCells_one (.slice none 0 0) n
  rw [hcs] at hr
  simpa using hr
end Go.Proofs.Ytpppljlfljoccaa.C
namespace Go.Proofs.Ytpppljlfljoccaa.C
open Go.RowKit
set_option linter.unusedVariables false
set_option maxRecDepth 100000

theorem put1_b {B : Nat → Int} (hB : ∀ j, 0 ≤ B j ∧ B j < 256) (k : Nat) (x : Int) (hx : 0 ≤ x ∧ x < 256) (j : Nat) : 0 ≤ put B k 1 (fun _ => x) j ∧ put B k 1 (fun _ => x) j < 256 := by
  unfold put
  split
  · exact hx
  · exact hB j
/-- a call of a function of three arguments, as one step of a region that draws its order; its guard, if it has one, says yes -/
theorem step_call3 {P : Program} {ops : Array Oper} {o : Oper} {a : Act} {w : World} {K : Act → World → Prop} {Q : Exit → Act → World → Prop} {E : Prop} (hw : Region.wanted o (yielded ops a.tmps) = true) (f : FuncId) (x y z : Operand) (ts : Array TypeId)
    (ho : o.op = .call { callee := .value (.func f), args := #[x, y, z], argTypes := ts }) (vx vy vz : Value) (hx : a.eval x = vx) (hy : a.eval y = vy) (hz : a.eval z = vz) (hnf : (callFunc f #[vx, vy, vz]).run P w = .ok (.enter f #[vx, vy, vz]) w) {R : Ending → World → Prop} (hc : Calls P f #[vx, vy, vz] w R)
    (h : ∀ e w', R e w' → ∃ v, e = .returned v ∧ K (a.put o.dst v) w') :
    if Region.wanted o (yielded ops a.tmps) = true then Oper.wp P o a w K Q else E := by
  rw [if_pos hw]
  have he : (execOp a.eval o).run P w = .ok (.enter f #[vx, vy, vz]) w := by
    have hf : a.eval (.func f) = .func (.func f) #[] #[] := rfl
    simp [execOp, ho, resolve, invoke, Deferred.ofValue, hf, hx, hy, hz, hnf]
  unfold Oper.wp
  rw [he, Oper.upon_enter]
  refine hc.mono fun e w' hR => ?_
  obtain ⟨v, rfl, hk⟩ := h e w' hR
  exact hk
end Go.Proofs.Ytpppljlfljoccaa.C
