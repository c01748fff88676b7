/- The reference's memory: Copy. -/
import Derived.Test.YtehghhonhfmieaaMC2
import Derived.BigRegion
import Derived.Deep.QuietTactic
import Derived.BigQuiet
namespace Go.Proofs.Ytehghhonhfmieaa.C
open Go.RowKit
set_option linter.unusedVariables false
set_option maxRecDepth 100000

theorem own_some {w : World} {base : Nat} {e : TypeId} {v : Value} {n : Nat} {xs : List Value} (h : w.ownsRow base e 1 v n xs) (hn : 0 < n) : ∃ g cap cur, v = .slice (some ⟨g, 0, none⟩) n cap ∧ base ≤ g ∧ w.heap[g]? = some (.cells cur e (0, 0)) ∧ n ≤ cap ∧ cur.toList.take n = xs := by
  rcases h.2 with ⟨_, h0⟩ | ⟨g, cap, cur, rfl, hg, hh, hle, _, _, ht⟩
  · omega
  · exact ⟨g, cap, cur, rfl, hg, hh, hle, by simpa using ht⟩
theorem step_append_own {P : Program} {w : World} {ops : Array Oper} {o : Oper} {a : Act} {K : Act → World → Prop} {Q : Exit → Act → World → Prop} {E : Prop} (hgd : o.guard = none) (s x : Operand) (t : TypeId)
    (ho : o.op = .call { callee := .builtin .append, args := #[s, x], argTypes := #[t, t] })
    (base : Nat) (e : TypeId) (i : TypeInfo) (z : Value) (size bytes : Nat) (ht : P.underlying t = some (.slice e)) (hi : P.info? e = some i) (hz : i.zero = some z)
    (hsize : i.size = size) (hby : i.bytes = bytes) (hzs : z.cells.size = size) (hsz : 0 < size)
    (v : Value) (n : Nat) (xs : List Value) (hs : a.eval s = v) (hown : w.ownsRow base e size v n xs)
    (ad : Addr) (m c : Nat) (news : List Value) (hx : a.eval x = .slice (some ad) m c) (hl : news.length = m * size) (hnews : ∀ j u, news[j]? = some u → w.cell? (ad.add j) = some u) (h1 : ∀ u ∈ news, u.oneCell' = true)
    (h63 : n + m ≤ maxLen) (hbytes : (n + m) * bytes ≤ 140737488355328) (hbase : base ≤ w.heap.size)
    (h : ∀ v' w', w'.ownsRow base e size v' (n + m) (xs ++ news) → w.grownBy w' v.ownBlock → K (a.put o.dst v') w') :
    if Region.wanted o (yielded ops a.tmps) = true then Oper.wp P o a w K Q else E := by
  have hw : Region.wanted o (yielded ops a.tmps) = true := by simp [Region.wanted, hgd]
  rw [if_pos hw]
  exact wp_append_own w s x t ho base e i z size bytes ht hi hz hsize hby hzs hsz v n xs hs hown ad m c news hx hl hnews h1 h63 hbytes hbase fun v' w' h2 h3 _ => h v' w' h2 h3
theorem take_get2 {cur : Array Value} {f : Nat → Int} {s n : Nat} (h : cur.toList.take (0 + n) = [] ++ row f s n) (j : Nat) (hj : j < n) : cur[j]? = some (.int .u8 (f (s + j))) := by
  have := row_get f s n j hj
  rw [Nat.zero_add, List.nil_append] at h
  rw [← h, List.getElem?_take_of_lt hj] at this
  simpa using this
theorem grown_only {w w2 : World} (h : w.drew.grownBy w2 none) : Only (fun _ => False) w w2 := ⟨h.os, h.tape, h.output, h.size, fun k hk _ => h.block k hk (by simp)⟩
/-- how far a copy has come: k frames -/
structure QPC (w wr : World) (base : Int) (hs : List (Option (Nat × Nat))) (f : Nat → Int) (k : Nat) (hs' : List (Option (Nat × Nat))) : Prop where
  top : wr.heap[w.heap.size + 1]? = some (.cells #[.int .u64 base, .int .i64 hs.length, .slice (some ⟨w.heap.size, 0, none⟩) hs.length hs.length] 89 (0, 0))
  tab : wr.heap[w.heap.size]? = some (.cells (hs'.map fv).toArray 99 (0, 0))
  len : hs'.length = hs.length
  bare : ∀ i : Nat, i < k → hs'[i]? = some none → hs[i]? = some none
  full : ∀ (i h c : Nat), hs'[i]? = some (some (h, c)) → i < k ∧ w.heap.size + 1 < h ∧ 4096 ≤ c ∧ ∃ cur : Array Value, wr.heap[h]? = some (.cells cur 5 (0, 0)) ∧ ∀ j, j < 4096 → cur[j]? = some (.int .u8 (f (4096 * i + j)))
  inj : ∀ (i j h c c' : Nat), hs'[i]? = some (some (h, c)) → hs'[j]? = some (some (h, c')) → i = j
  below : Below w.heap.size w wr
theorem QPC.bareStep {w wr : World} {base : Int} {hs : List (Option (Nat × Nat))} {f : Nat → Int} {k : Nat} {hs' : List (Option (Nat × Nat))} (h : QPC w wr base hs f k hs') (hk : hs[k]? = some none) : QPC w wr base hs f (k + 1) hs' :=
  ⟨h.top, h.tab, h.len, fun i hi q => by
    by_cases e : i = k
    · subst e; exact hk
    · exact h.bare i (by omega) q, fun i hh c q => ⟨by have := (h.full i hh c q).1; omega, (h.full i hh c q).2⟩, h.inj, h.below⟩
theorem QPC.fullStep {w wr w2 : World} {base : Int} {hs : List (Option (Nat × Nat))} {f : Nat → Int} {k : Nat} {hs' : List (Option (Nat × Nat))} (h : QPC w wr base hs f k hs') (hk : k < hs.length) {g2 c2 : Nat} {cur : Array Value} (hg : w2.heap[g2]? = some (.cells cur 5 (0, 0))) (hgw : wr.heap.size ≤ g2) (hc2 : 4096 ≤ c2)
    (hcur : ∀ j, j < 4096 → cur[j]? = some (.int .u8 (f (4096 * k + j)))) (ho : Only (fun _ => False) wr w2) : QPC w (w2.setCell ⟨w.heap.size, k, none⟩ (.slice (some ⟨g2, 0, none⟩) 4096 c2)) base hs f (k + 1) (hs'.set k (some (g2, c2))) := by
  have hk' : k < hs'.length := by rw [h.len]; exact hk
  have hgl := lt_of_block h.tab
  have htl := lt_of_block h.top
  have hold : ∀ j o, wr.heap[j]? = some o → j ≠ w.heap.size → (w2.setCell ⟨w.heap.size, k, none⟩ (.slice (some ⟨g2, 0, none⟩) 4096 c2)).heap[j]? = some o := fun j o hj hne => (Below.heap_setCell _ _ _ j hne).trans (ho.old hj fun q => q)
  refine ⟨hold _ _ h.top (by omega), ?_, by simpa using h.len, ?_, ?_, ?_, ?_⟩
  · rw [heap_setCell_same _ _ k _ _ _ (ho.old h.tab fun q => q), ← fv_set]
    rfl
  · intro i hi q
    by_cases e : i = k
    · subst e; rw [List.getElem?_set_self hk'] at q; cases q
    · rw [List.getElem?_set_ne (by omega)] at q; exact h.bare i (by omega) q
  · intro i hh c q
    by_cases e : i = k
    · subst e
      rw [List.getElem?_set_self hk'] at q
      obtain ⟨rfl, rfl⟩ : g2 = hh ∧ c2 = c := by simpa using q
      exact ⟨by omega, by omega, hc2, cur, (Below.heap_setCell _ _ _ _ (by show g2 ≠ w.heap.size; omega)).trans hg, hcur⟩
    · rw [List.getElem?_set_ne (by omega)] at q
      obtain ⟨a, b, c', cur', hg', hc'⟩ := h.full i hh c q
      exact ⟨by omega, b, c', cur', hold _ _ hg' (by omega), hc'⟩
  · intro i j hh c c' hi hj
    by_cases e : i = k <;> by_cases e' : j = k
    · omega
    · subst e
      rw [List.getElem?_set_self hk'] at hi
      rw [List.getElem?_set_ne (by omega)] at hj
      obtain ⟨_, _, _, _, hg', _⟩ := h.full j hh c' hj
      have := lt_of_block hg'
      simp at hi; omega
    · subst e'
      rw [List.getElem?_set_self hk'] at hj
      rw [List.getElem?_set_ne (by omega)] at hi
      obtain ⟨_, _, _, _, hg', _⟩ := h.full i hh c hi
      have := lt_of_block hg'
      simp at hj; omega
    · rw [List.getElem?_set_ne (by omega)] at hi hj
      exact h.inj i j hh c c' hi hj
  · exact (h.below.trans (ho.below _ h.below.size (fun _ q => q.elim))).setCell (p := ⟨w.heap.size, k, none⟩) (Nat.le_refl _) _
theorem run_makeT (w : World) (n : Nat) (hn : n ≤ 1024) : (Instr.makeSlice 87 (.int .i64 (n : Int)) (.int .i64 (n : Int))).run Try.prog w = .ok (.slice (some ⟨w.heap.size, 0, none⟩) n n) (w.alloc (.cells ((List.replicate n (none : Option (Nat × Nat))).map fv).toArray 99)) := by
  obtain ⟨i, hi1, hz, hs, hb⟩ := info_parts info_su8
  have hr := run_make (P := Try.prog) w 87 99 i _ u_ssu8 hi1 hz .i64 .i64 n n (by omega) (by omega) (by rw [hb]; omega) (by omega)
  have hcs : madeCells (Value.slice none 0 0).cells ((n : Int).toNat * i.size) = ((List.replicate n (none : Option (Nat × Nat))).map fv).toArray := by
    rw [← map_fv, hs]
    apply Array.ext'
    simpa [Value.cells] using toList_madeCells_one (.slice none 0 0) n
  rw [hcs] at hr
  simpa using hr
end Go.Proofs.Ytehghhonhfmieaa.C
namespace Go.Proofs.Ytehghhonhfmieaa.C
open Go.RowKit
set_option linter.unusedVariables false
set_option maxRecDepth 100000

end Go.Proofs.Ytehghhonhfmieaa.C
namespace Go.Proofs.Ytehghhonhfmieaa.C
open Go.RowKit
set_option linter.unusedVariables false
set_option maxRecDepth 100000

/-- a walk, as it stands: its six cells, and what stands behind them -/
def wkL (p : Nat) (addr table level wrong leaf : Int) (tail : List Value) : List Value :=
  .pointer (some ⟨p, 0, none⟩) :: .int .u64 addr :: .int .u64 table :: .int .i64 level :: .int .i64 wrong :: .int .u64 leaf :: tail
def WK (w : World) (b : Nat) (ty : TypeId) (tail : List Value) (p : Nat) (addr table level wrong leaf : Int) : Prop :=
  w.heap[b]? = some (.cells (wkL p addr table level wrong leaf tail).toArray ty (0, 0))
section
variable {w : World} {b : Nat} {ty : TypeId} {tail : List Value} {p : Nat} {addr table level wrong leaf : Int}
theorem WK.c0 (h : WK w b ty tail p addr table level wrong leaf) : w.cell? ⟨b, 0, none⟩ = some (.pointer (some ⟨p, 0, none⟩)) := by rw [cell_of_row w b 0 _ _ _ h]; rfl
theorem WK.c1 (h : WK w b ty tail p addr table level wrong leaf) : w.cell? ⟨b, 1, none⟩ = some (.int .u64 addr) := by rw [cell_of_row w b 1 _ _ _ h]; rfl
theorem WK.c2 (h : WK w b ty tail p addr table level wrong leaf) : w.cell? ⟨b, 2, none⟩ = some (.int .u64 table) := by rw [cell_of_row w b 2 _ _ _ h]; rfl
theorem WK.c3 (h : WK w b ty tail p addr table level wrong leaf) : w.cell? ⟨b, 3, none⟩ = some (.int .i64 level) := by rw [cell_of_row w b 3 _ _ _ h]; rfl
theorem WK.c4 (h : WK w b ty tail p addr table level wrong leaf) : w.cell? ⟨b, 4, none⟩ = some (.int .i64 wrong) := by rw [cell_of_row w b 4 _ _ _ h]; rfl
theorem WK.c5 (h : WK w b ty tail p addr table level wrong leaf) : w.cell? ⟨b, 5, none⟩ = some (.int .u64 leaf) := by rw [cell_of_row w b 5 _ _ _ h]; rfl
theorem WK.fz (h : WK w b ty tail p addr table level wrong leaf) (j : Nat) : w.frozen? ⟨b, j, none⟩ = false := frozen_of_row w b j _ _ h
theorem WK.s2 (h : WK w b ty tail p addr table level wrong leaf) (x : Int) : WK (w.setCell ⟨b, 2, none⟩ (.int .u64 x)) b ty tail p addr x level wrong leaf := by
  unfold WK; rw [heap_setCell_same _ _ 2 _ _ _ h]; simp [wkL]
theorem WK.s3 (h : WK w b ty tail p addr table level wrong leaf) (x : Int) : WK (w.setCell ⟨b, 3, none⟩ (.int .i64 x)) b ty tail p addr table x wrong leaf := by
  unfold WK; rw [heap_setCell_same _ _ 3 _ _ _ h]; simp [wkL]
theorem WK.s5 (h : WK w b ty tail p addr table level wrong leaf) (x : Int) : WK (w.setCell ⟨b, 5, none⟩ (.int .u64 x)) b ty tail p addr table level wrong x := by
  unfold WK; rw [heap_setCell_same _ _ 5 _ _ _ h]; simp [wkL]
theorem WK.below {w' : World} (h : WK w b ty tail p addr table level wrong leaf) (hb : Below w.heap.size w w') : WK w' b ty tail p addr table level wrong leaf := (hb.block b (lt_of_block h)).trans h
theorem WK.drewN (h : WK w b ty tail p addr table level wrong leaf) (m : Nat) : WK (w.drewN m) b ty tail p addr table level wrong leaf := h
theorem WK.lt (h : WK w b ty tail p addr table level wrong leaf) : b < w.heap.size := lt_of_block h
end

theorem c_Read8 (w : World) (S : Nat → Prop) (p n : Nat) (f : Nat → Int) (h : Mem w S p 0 n f) (a : Int) (a0 : 0 ≤ a) (a1 : a < 18446744073709551616) (v : Int) (ok : Bool) (hv : (rdm n f a).1 = v) (ho : decide ((rdm n f a).2 = 0) = ok) :
    Calls Try.prog 29 #[.pointer (some ⟨p, 0, none⟩), .int .u64 a, .int .i64 8] w fun e w' => e = .returned (.tuple #[.int .u64 v, .bool ok]) ∧ Below w.heap.size w w' := by
  subst hv ho
  by_cases q : a + 8 ≤ 4096 * n
  · have hr : rdm n f a = (nu (fun j => f (a.toNat + j)) 8, 0) := by unfold rdm; rw [if_pos q]
    rw [hr]
    exact c_Read w S p 0 n f h a.toNat 8 (by omega) (by decide) a (by omega)
  · have hr : rdm n f a = (0, 3) := by unfold rdm; rw [if_neg q]
    rw [hr]
    exact (c_Read_bad w S p 0 n f h a 8 a0 a1 (by decide) (by decide) (by simp [hasB]; omega)).mono fun e w' hh => ⟨hh.1, hh.2.below _⟩
/-- what stop says, and the leaf that it keeps -/
def stF (k : Nat) (e wrong : Int) : Int := if num e % pw k ≠ 0 then wrong else 0
def stL (k : Nat) (e : Int) : Int := if num e % pw k ≠ 0 then 0 else e
theorem num_b {e : Int} (h0 : 0 ≤ e) (h1 : e < 18014398509481984) : 0 ≤ num e ∧ num e < 17592186044416 := by unfold num; omega
end Go.Proofs.Ytehghhonhfmieaa.C
