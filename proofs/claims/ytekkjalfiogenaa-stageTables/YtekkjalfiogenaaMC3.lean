/- The reference's memory: Copy. -/
import Derived.Test.YtekkjalfiogenaaMC2
import Derived.BigRegion
import Derived.Deep.QuietTactic
import Derived.BigQuiet
namespace Go.Proofs.Ytekkjalfiogenaa.C
open Go.RowKit
set_option linter.unusedVariables false
set_option maxRecDepth 100000

theorem own_some {w : World} {base : Nat} {e : TypeId} {v : Value} {n : Nat} {xs : List Value} (h : w.ownsRow base e 1 v n xs) (hn : 0 < n) : ∃ g cap cur, v = .slice (some ⟨g, 0, none⟩) n cap ∧ base ≤ g ∧ w.heap[g]? = some (.cells cur e (0, 0)) ∧ n ≤ cap ∧ cur.toList.take n = xs := by
  rcases h.2 with ⟨_, h0⟩ | ⟨g, cap, cur, rfl, hg, hh, hle, _, _, ht⟩
  · omega
  · exact ⟨g, cap, cur, rfl, hg, hh, hle, by simpa using ht⟩
theorem step_append_own {P : Program} {w : World} {ops : Array Oper} {o : Oper} {a : Act} {K : Act → World → Prop} {Q : Exit → Act → World → Prop} {E : Prop} (hgd : o.guard = none) (s x : Operand) (t : TypeId)
    (ho : o.op = .call { callee := .builtin .append, args := #[s, x], argTypes := #[t, t] })
    (base : Nat) (e : TypeId) (i : TypeInfo) (z : Value) (size bytes : Nat) (ht : P.underlying t = some (.slice e)) (hi : P.info? e = some i) (hz : i.zero = some z)
    (hsize : i.size = size) (hby : i.bytes = bytes) (hzs : z.cells.size = size) (hsz : 0 < size)
    (v : Value) (n : Nat) (xs : List Value) (hs : a.eval s = v) (hown : w.ownsRow base e size v n xs)
    (ad : Addr) (m c : Nat) (news : List Value) (hx : a.eval x = .slice (some ad) m c) (hl : news.length = m * size) (hnews : ∀ j u, news[j]? = some u → w.cell? (ad.add j) = some u) (h1 : ∀ u ∈ news, u.oneCell' = true)
    (h63 : n + m ≤ maxLen) (hbytes : (n + m) * bytes ≤ 140737488355328) (hbase : base ≤ w.heap.size)
    (h : ∀ v' w', w'.ownsRow base e size v' (n + m) (xs ++ news) → w.grownBy w' v.ownBlock → K (a.put o.dst v') w') :
    if Region.wanted o (yielded ops a.tmps) = true then Oper.wp P o a w K Q else E := by
  have hw : Region.wanted o (yielded ops a.tmps) = true := by simp [Region.wanted, hgd]
  rw [if_pos hw]
  exact wp_append_own w s x t ho base e i z size bytes ht hi hz hsize hby hzs hsz v n xs hs hown ad m c news hx hl hnews h1 h63 hbytes hbase fun v' w' h2 h3 _ => h v' w' h2 h3
theorem take_get2 {cur : Array Value} {f : Nat → Int} {s n : Nat} (h : cur.toList.take (0 + n) = [] ++ row f s n) (j : Nat) (hj : j < n) : cur[j]? = some (.int .u8 (f (s + j))) := by
  have := row_get f s n j hj
  rw [Nat.zero_add, List.nil_append] at h
  rw [← h, List.getElem?_take_of_lt hj] at this
  simpa using this
theorem grown_only {w w2 : World} (h : w.drew.grownBy w2 none) : Only (fun _ => False) w w2 := ⟨h.os, h.tape, h.output, h.size, fun k hk _ => h.block k hk (by simp)⟩
/-- how far a copy has come: k frames -/
structure QPC (w wr : World) (base : Int) (hs : List (Option (Nat × Nat))) (f : Nat → Int) (k : Nat) (hs' : List (Option (Nat × Nat))) : Prop where
  top : wr.heap[w.heap.size + 1]? = some (.cells #[.int .u64 base, .int .i64 hs.length, .slice (some ⟨w.heap.size, 0, none⟩) hs.length hs.length] 46 (0, 0))
  tab : wr.heap[w.heap.size]? = some (.cells (hs'.map fv).toArray 124 (0, 0))
  len : hs'.length = hs.length
  bare : ∀ i : Nat, i < k → hs'[i]? = some none → hs[i]? = some none
  full : ∀ (i h c : Nat), hs'[i]? = some (some (h, c)) → i < k ∧ w.heap.size + 1 < h ∧ 4096 ≤ c ∧ ∃ cur : Array Value, wr.heap[h]? = some (.cells cur 5 (0, 0)) ∧ ∀ j, j < 4096 → cur[j]? = some (.int .u8 (f (4096 * i + j)))
  inj : ∀ (i j h c c' : Nat), hs'[i]? = some (some (h, c)) → hs'[j]? = some (some (h, c')) → i = j
  below : Below w.heap.size w wr
theorem QPC.bareStep {w wr : World} {base : Int} {hs : List (Option (Nat × Nat))} {f : Nat → Int} {k : Nat} {hs' : List (Option (Nat × Nat))} (h : QPC w wr base hs f k hs') (hk : hs[k]? = some none) : QPC w wr base hs f (k + 1) hs' :=
  ⟨h.top, h.tab, h.len, fun i hi q => by
    by_cases e : i = k
    · subst e; exact hk
    · exact h.bare i (by omega) q, fun i hh c q => ⟨by have := (h.full i hh c q).1; omega, (h.full i hh c q).2⟩, h.inj, h.below⟩
theorem QPC.fullStep {w wr w2 : World} {base : Int} {hs : List (Option (Nat × Nat))} {f : Nat → Int} {k : Nat} {hs' : List (Option (Nat × Nat))} (h : QPC w wr base hs f k hs') (hk : k < hs.length) {g2 c2 : Nat} {cur : Array Value} (hg : w2.heap[g2]? = some (.cells cur 5 (0, 0))) (hgw : wr.heap.size ≤ g2) (hc2 : 4096 ≤ c2)
    (hcur : ∀ j, j < 4096 → cur[j]? = some (.int .u8 (f (4096 * k + j)))) (ho : Only (fun _ => False) wr w2) : QPC w (w2.setCell ⟨w.heap.size, k, none⟩ (.slice (some ⟨g2, 0, none⟩) 4096 c2)) base hs f (k + 1) (hs'.set k (some (g2, c2))) := by
  have hk' : k < hs'.length := by rw [h.len]; exact hk
  have hgl := lt_of_block h.tab
  have htl := lt_of_block h.top
  have hold : ∀ j o, wr.heap[j]? = some o → j ≠ w.heap.size → (w2.setCell ⟨w.heap.size, k, none⟩ (.slice (some ⟨g2, 0, none⟩) 4096 c2)).heap[j]? = some o := fun j o hj hne => (Below.heap_setCell _ _ _ j hne).trans (ho.old hj fun q => q)
  refine ⟨hold _ _ h.top (by omega), ?_, by simpa using h.len, ?_, ?_, ?_, ?_⟩
  · rw [heap_setCell_same _ _ k _ _ _ (ho.old h.tab fun q => q), ← fv_set]
    rfl
  · intro i hi q
    by_cases e : i = k
    · subst e; rw [List.getElem?_set_self hk'] at q; cases q
    · rw [List.getElem?_set_ne (by omega)] at q; exact h.bare i (by omega) q
  · intro i hh c q
    by_cases e : i = k
    · subst e
      rw [List.getElem?_set_self hk'] at q
      obtain ⟨rfl, rfl⟩ : g2 = hh ∧ c2 = c := by simpa using q
      exact ⟨by omega, by omega, hc2, cur, (Below.heap_setCell _ _ _ _ (by show g2 ≠ w.heap.size; omega)).trans hg, hcur⟩
    · rw [List.getElem?_set_ne (by omega)] at q
      obtain ⟨a, b, c', cur', hg', hc'⟩ := h.full i hh c q
      exact ⟨by omega, b, c', cur', hold _ _ hg' (by omega), hc'⟩
  · intro i j hh c c' hi hj
    by_cases e : i = k <;> by_cases e' : j = k
    · omega
    · subst e
      rw [List.getElem?_set_self hk'] at hi
      rw [List.getElem?_set_ne (by omega)] at hj
      obtain ⟨_, _, _, _, hg', _⟩ := h.full j hh c' hj
      have := lt_of_block hg'
      simp at hi; omega
    · subst e'
      rw [List.getElem?_set_self hk'] at hj
      rw [List.getElem?_set_ne (by omega)] at hi
      obtain ⟨_, _, _, _, hg', _⟩ := h.full i hh c hi
      have := lt_of_block hg'
      simp at hj; omega
    · rw [List.getElem?_set_ne (by omega)] at hi hj
      exact h.inj i j hh c c' hi hj
  · exact (h.below.trans (ho.below _ h.below.size (fun _ q => q.elim))).setCell (p := ⟨w.heap.size, k, none⟩) (Nat.le_refl _) _
theorem run_makeT (w : World) (n : Nat) (hn : n ≤ 1024) : (Instr.makeSlice 44 (.int .i64 (n : Int)) (.int .i64 (n : Int))).run Try.prog w = .ok (.slice (some ⟨w.heap.size, 0, none⟩) n n) (w.alloc (.cells ((List.replicate n (none : Option (Nat × Nat))).map fv).toArray 124)) := by
  obtain ⟨i, hi1, hz, hs, hb⟩ := info_parts info_su8
  have hr := run_make (P := Try.prog) w 44 124 i _ u_ssu8 hi1 hz .i64 .i64 n n (by omega) (by omega) (by rw [hb]; omega) (by omega)
  have hcs : madeCells (Value.slice none 0 0).cells ((n : Int).toNat * i.size) = ((List.replicate n (none : Option (Nat × Nat))).map fv).toArray := by
    rw [← map_fv, hs]
    apply Array.ext'
    simpa [Value.cells] using toList_madeCells_one (.slice none 0 0) n
  rw [hcs] at hr
  simpa using hr
end Go.Proofs.Ytekkjalfiogenaa.C
namespace Go.Proofs.Ytekkjalfiogenaa.C
open Go.RowKit
set_option linter.unusedVariables false
set_option maxRecDepth 100000

theorem c_has (e : Int) (h0 : 0 ≤ e) (h1 : e < 18446744073709551616) (m : Nat) (mi : Int) (hm : m < 256) (hmi : mi = m) (w : World) :
    Calls Try.prog 116 #[.int .u64 e, .int .u64 mi] w fun r w' => r = .returned (.bool (hs e m)) ∧ w' = w := by
  subst hmi
  have ha := and_lo e h0 h1 m hm
  go_enter Try.func116, Try.ntmps116
  go_wp2
  go_ret
  refine ⟨ret_bool ?_, rfl⟩
  rw [Bool.eq_iff_iff]; simp [hs]; omega
theorem c_has1 (e : Int) (h0 : 0 ≤ e) (h1 : e < 18446744073709551616) (b : Bool) (hb : hs e 1 = b) (w : World) :
    Calls Try.prog 116 #[.int .u64 e, .int .u64 1] w fun r w' => r = .returned (.bool b) ∧ w' = w := by
  subst hb; exact c_has e h0 h1 1 _ (by decide) rfl w
theorem c_has2 (e : Int) (h0 : 0 ≤ e) (h1 : e < 18446744073709551616) (b : Bool) (hb : hs e 2 = b) (w : World) :
    Calls Try.prog 116 #[.int .u64 e, .int .u64 2] w fun r w' => r = .returned (.bool b) ∧ w' = w := by
  subst hb; exact c_has e h0 h1 2 _ (by decide) rfl w
theorem c_has4 (e : Int) (h0 : 0 ≤ e) (h1 : e < 18446744073709551616) (b : Bool) (hb : hs e 4 = b) (w : World) :
    Calls Try.prog 116 #[.int .u64 e, .int .u64 4] w fun r w' => r = .returned (.bool b) ∧ w' = w := by
  subst hb; exact c_has e h0 h1 4 _ (by decide) rfl w
theorem c_has8 (e : Int) (h0 : 0 ≤ e) (h1 : e < 18446744073709551616) (b : Bool) (hb : hs e 8 = b) (w : World) :
    Calls Try.prog 116 #[.int .u64 e, .int .u64 8] w fun r w' => r = .returned (.bool b) ∧ w' = w := by
  subst hb; exact c_has e h0 h1 8 _ (by decide) rfl w
theorem c_has16 (e : Int) (h0 : 0 ≤ e) (h1 : e < 18446744073709551616) (b : Bool) (hb : hs e 16 = b) (w : World) :
    Calls Try.prog 116 #[.int .u64 e, .int .u64 16] w fun r w' => r = .returned (.bool b) ∧ w' = w := by
  subst hb; exact c_has e h0 h1 16 _ (by decide) rfl w
theorem c_has64 (e : Int) (h0 : 0 ≤ e) (h1 : e < 18446744073709551616) (b : Bool) (hb : hs e 64 = b) (w : World) :
    Calls Try.prog 116 #[.int .u64 e, .int .u64 64] w fun r w' => r = .returned (.bool b) ∧ w' = w := by
  subst hb; exact c_has e h0 h1 64 _ (by decide) rfl w
theorem c_has80 (e : Int) (h0 : 0 ≤ e) (h1 : e < 18446744073709551616) (b : Bool) (hb : hs e 80 = b) (w : World) :
    Calls Try.prog 116 #[.int .u64 e, .int .u64 80] w fun r w' => r = .returned (.bool b) ∧ w' = w := by
  subst hb; exact c_has e h0 h1 80 _ (by decide) rfl w
theorem c_has128 (e : Int) (h0 : 0 ≤ e) (h1 : e < 18446744073709551616) (b : Bool) (hb : hs e 128 = b) (w : World) :
    Calls Try.prog 116 #[.int .u64 e, .int .u64 128] w fun r w' => r = .returned (.bool b) ∧ w' = w := by
  subst hb; exact c_has e h0 h1 128 _ (by decide) rfl w
theorem c_has132 (e : Int) (h0 : 0 ≤ e) (h1 : e < 18446744073709551616) (b : Bool) (hb : hs e 132 = b) (w : World) :
    Calls Try.prog 116 #[.int .u64 e, .int .u64 132] w fun r w' => r = .returned (.bool b) ∧ w' = w := by
  subst hb; exact c_has e h0 h1 132 _ (by decide) rfl w
theorem c_num (e : Int) (h0 : 0 ≤ e) (h1 : e < 18446744073709551616) (w : World) :
    Calls Try.prog 114 #[.int .u64 e] w fun r w' => r = .returned (.int .u64 (num e)) ∧ w' = w := by
  go_enter Try.func114, Try.ntmps114
  go_wp2
  go_ret
  exact ⟨rfl, rfl⟩
theorem c_isLeaf (e : Int) (h0 : 0 ≤ e) (h1 : e < 18446744073709551616) (w : World) :
    Calls Try.prog 119 #[.int .u64 e] w fun r w' => r = .returned (.bool (lf e)) ∧ w' = w := by
  have ha : bits .and .u64 e 10 = _ := and_lo e h0 h1 10 (by decide)
  go_enter Try.func119, Try.ntmps119
  go_wp2
  go_ret
  refine ⟨ret_bool ?_, rfl⟩
  rw [Bool.eq_iff_iff]; simp [lf]
theorem c_perm (e : Int) (h0 : 0 ≤ e) (h1 : e < 18446744073709551616) (w : World) :
    Calls Try.prog 103 #[.int .u64 e] w fun r w' => r = .returned (.int .i64 (pm e)) ∧ w' = w := by
  have ha : bits .and .u64 e 10 = _ := and_lo e h0 h1 10 (by decide)
  have hb : bits .and .u64 e 14 = _ := and_lo e h0 h1 14 (by decide)
  have hl : lo e &&& 10 ≤ 10 := Nat.and_le_right
  have hl2 : lo e &&& 14 ≤ 14 := Nat.and_le_right
  go_enter Try.func103, Try.ntmps103
  cases hd : hs e 128
  · go_wp2_with (go_at_call 116; refine (c_has128 e h0 h1 _ hd _).mono ?_; rintro r w2 ⟨rfl, rfl⟩)
    go_ret
    refine ⟨ret_int ?_, rfl⟩
    unfold pm; rw [hd]; simp only [Bool.false_eq_true, if_false]
  · go_wp2_with (go_at_call 116; refine (c_has128 e h0 h1 _ hd _).mono ?_; rintro r w2 ⟨rfl, rfl⟩)
    go_ret
    refine ⟨ret_int ?_, rfl⟩
    unfold pm; rw [hd]; simp only [if_true]
theorem c_isWrong (e : Int) (h0 : 0 ≤ e) (h1 : e < 18446744073709551616) (w : World) :
    Calls Try.prog 118 #[.int .u64 e] w fun r w' => r = .returned (.bool (wr e)) ∧ w' = w := by
  go_enter Try.func118, Try.ntmps118
  cases b1 : hs e 1
  · go_wp2_with (first
      | (go_at_call 116; (with_reducible refine (c_has1 e h0 h1 _ b1 _).mono ?_); rintro r w2 ⟨rfl, rfl⟩))
    go_ret
    exact ⟨ret_bool (by simp [wr, b1]), rfl⟩
  · cases b4 : hs e 4
    · go_wp2_with (first
        | (go_at_call 116; (with_reducible refine (c_has1 e h0 h1 _ b1 _).mono ?_); rintro r w2 ⟨rfl, rfl⟩)
        | (go_at_call 116; (with_reducible refine (c_has4 e h0 h1 _ b4 _).mono ?_); rintro r w2 ⟨rfl, rfl⟩))
      go_ret
      exact ⟨ret_bool (by rw [Bool.eq_iff_iff]; simp [wr, b1, b4]; omega), rfl⟩
    · cases b2 : hs e 2
      · go_wp2_with (first
          | (go_at_call 116; (with_reducible refine (c_has1 e h0 h1 _ b1 _).mono ?_); rintro r w2 ⟨rfl, rfl⟩)
          | (go_at_call 116; (with_reducible refine (c_has4 e h0 h1 _ b4 _).mono ?_); rintro r w2 ⟨rfl, rfl⟩)
          | (go_at_call 116; (with_reducible refine (c_has2 e h0 h1 _ b2 _).mono ?_); rintro r w2 ⟨rfl, rfl⟩))
        go_ret
        exact ⟨ret_bool (by simp [wr, b1, b4, b2]), rfl⟩
      · go_wp2_with (first
          | (go_at_call 116; (with_reducible refine (c_has1 e h0 h1 _ b1 _).mono ?_); rintro r w2 ⟨rfl, rfl⟩)
          | (go_at_call 116; (with_reducible refine (c_has4 e h0 h1 _ b4 _).mono ?_); rintro r w2 ⟨rfl, rfl⟩)
          | (go_at_call 116; (with_reducible refine (c_has2 e h0 h1 _ b2 _).mono ?_); rintro r w2 ⟨rfl, rfl⟩))
        go_ret
        exact ⟨ret_bool (by rw [Bool.eq_iff_iff]; simp [wr, b1, b4, b2]; omega), rfl⟩
end Go.Proofs.Ytekkjalfiogenaa.C
namespace Go.Proofs.Ytekkjalfiogenaa.C
open Go.RowKit
set_option linter.unusedVariables false
set_option maxRecDepth 100000

/-- a walk, as it stands: its six cells, and what stands behind them -/
def wkL (p : Nat) (addr table level wrong leaf : Int) (tail : List Value) : List Value :=
  .pointer (some ⟨p, 0, none⟩) :: .int .u64 addr :: .int .u64 table :: .int .i64 level :: .int .i64 wrong :: .int .u64 leaf :: tail
def WK (w : World) (b : Nat) (ty : TypeId) (tail : List Value) (p : Nat) (addr table level wrong leaf : Int) : Prop :=
  w.heap[b]? = some (.cells (wkL p addr table level wrong leaf tail).toArray ty (0, 0))
section
variable {w : World} {b : Nat} {ty : TypeId} {tail : List Value} {p : Nat} {addr table level wrong leaf : Int}
theorem WK.c0 (h : WK w b ty tail p addr table level wrong leaf) : w.cell? ⟨b, 0, none⟩ = some (.pointer (some ⟨p, 0, none⟩)) := by rw [cell_of_row w b 0 _ _ _ h]; rfl
theorem WK.c1 (h : WK w b ty tail p addr table level wrong leaf) : w.cell? ⟨b, 1, none⟩ = some (.int .u64 addr) := by rw [cell_of_row w b 1 _ _ _ h]; rfl
theorem WK.c2 (h : WK w b ty tail p addr table level wrong leaf) : w.cell? ⟨b, 2, none⟩ = some (.int .u64 table) := by rw [cell_of_row w b 2 _ _ _ h]; rfl
theorem WK.c3 (h : WK w b ty tail p addr table level wrong leaf) : w.cell? ⟨b, 3, none⟩ = some (.int .i64 level) := by rw [cell_of_row w b 3 _ _ _ h]; rfl
theorem WK.c4 (h : WK w b ty tail p addr table level wrong leaf) : w.cell? ⟨b, 4, none⟩ = some (.int .i64 wrong) := by rw [cell_of_row w b 4 _ _ _ h]; rfl
theorem WK.c5 (h : WK w b ty tail p addr table level wrong leaf) : w.cell? ⟨b, 5, none⟩ = some (.int .u64 leaf) := by rw [cell_of_row w b 5 _ _ _ h]; rfl
theorem WK.fz (h : WK w b ty tail p addr table level wrong leaf) (j : Nat) : w.frozen? ⟨b, j, none⟩ = false := frozen_of_row w b j _ _ h
theorem WK.s2 (h : WK w b ty tail p addr table level wrong leaf) (x : Int) : WK (w.setCell ⟨b, 2, none⟩ (.int .u64 x)) b ty tail p addr x level wrong leaf := by
  unfold WK; rw [heap_setCell_same _ _ 2 _ _ _ h]; simp [wkL]
theorem WK.s3 (h : WK w b ty tail p addr table level wrong leaf) (x : Int) : WK (w.setCell ⟨b, 3, none⟩ (.int .i64 x)) b ty tail p addr table x wrong leaf := by
  unfold WK; rw [heap_setCell_same _ _ 3 _ _ _ h]; simp [wkL]
theorem WK.s5 (h : WK w b ty tail p addr table level wrong leaf) (x : Int) : WK (w.setCell ⟨b, 5, none⟩ (.int .u64 x)) b ty tail p addr table level wrong x := by
  unfold WK; rw [heap_setCell_same _ _ 5 _ _ _ h]; simp [wkL]
theorem WK.below {w' : World} (h : WK w b ty tail p addr table level wrong leaf) (hb : Below w.heap.size w w') : WK w' b ty tail p addr table level wrong leaf := (hb.block b (lt_of_block h)).trans h
theorem WK.drewN (h : WK w b ty tail p addr table level wrong leaf) (m : Nat) : WK (w.drewN m) b ty tail p addr table level wrong leaf := h
theorem WK.lt (h : WK w b ty tail p addr table level wrong leaf) : b < w.heap.size := lt_of_block h
end

theorem c_at (w : World) (b : Nat) (ty : TypeId) (tail : List Value) (p : Nat) (addr table wrong leaf : Int) (k : Nat) (hk : k ≤ 2) (a0 : 0 ≤ addr) (a1 : addr < 18446744073709551616) (t0 : 0 ≤ table) (t1 : table ≤ 4503599627370495)
    (h : WK w b ty tail p addr table k wrong leaf) :
    Calls Try.prog 117 #[.pointer (some ⟨b, 0, none⟩)] w fun r w' => r = .returned (.int .u64 (atF addr k table)) ∧ ∃ m, w' = w.drewN m := by
  have c1 := h.c1
  have c2 := h.c2
  have c3 := h.c3
  clear h
  go_enter Try.func117, Try.ntmps117
  rcases (show k = 0 ∨ k = 1 ∨ k = 2 by omega) with rfl | rfl | rfl
  · go_wp2
    go_quiet (fail)
    go_wp2
    go_ret
    refine ⟨ret_int ?_, _, rfl⟩
    unfold atF; rw [pw0]; omega
  · go_wp2
    go_quiet (fail)
    go_wp2
    go_ret
    refine ⟨ret_int ?_, _, rfl⟩
    unfold atF; rw [pw1]
  · go_wp2
    go_quiet (fail)
    go_wp2
    go_ret
    refine ⟨ret_int ?_, _, rfl⟩
    unfold atF; rw [pw2]
theorem c_pages (w : World) (b : Nat) (ty : TypeId) (tail : List Value) (p : Nat) (addr table wrong leaf : Int) (k : Nat) (hk : k ≤ 2)
    (h : WK w b ty tail p addr table k wrong leaf) (pk : Int) (hpk : pw k = pk) :
    Calls Try.prog 115 #[.pointer (some ⟨b, 0, none⟩)] w fun r w' => r = .returned (.int .u64 pk) ∧ w' = w := by
  have c3 := h.c3
  clear h
  subst hpk
  go_enter Try.func115, Try.ntmps115
  rcases (show k = 0 ∨ k = 1 ∨ k = 2 by omega) with rfl | rfl | rfl
  · go_wp2
    go_ret
    exact ⟨rfl, rfl⟩
  · go_wp2
    go_ret
    exact ⟨rfl, rfl⟩
  · go_wp2
    go_ret
    exact ⟨rfl, rfl⟩
theorem c_Read8 (w : World) (S : Nat → Prop) (p n : Nat) (f : Nat → Int) (h : Mem w S p 0 n f) (a : Int) (a0 : 0 ≤ a) (a1 : a < 18446744073709551616) (v : Int) (ok : Bool) (hv : (rdm n f a).1 = v) (ho : decide ((rdm n f a).2 = 0) = ok) :
    Calls Try.prog 87 #[.pointer (some ⟨p, 0, none⟩), .int .u64 a, .int .i64 8] w fun e w' => e = .returned (.tuple #[.int .u64 v, .bool ok]) ∧ Below w.heap.size w w' := by
  subst hv ho
  by_cases q : a + 8 ≤ 4096 * n
  · have hr : rdm n f a = (nu (fun j => f (a.toNat + j)) 8, 0) := by unfold rdm; rw [if_pos q]
    rw [hr]
    exact c_Read w S p 0 n f h a.toNat 8 (by omega) (by decide) a (by omega)
  · have hr : rdm n f a = (0, 3) := by unfold rdm; rw [if_neg q]
    rw [hr]
    exact (c_Read_bad w S p 0 n f h a 8 a0 a1 (by decide) (by decide) (by simp [hasB]; omega)).mono fun e w' hh => ⟨hh.1, hh.2.below _⟩
theorem c_loadW (w : World) (b : Nat) (ty : TypeId) (tail : List Value) (p : Nat) (addr table level wrong leaf : Int) (h : WK w b ty tail p addr table level wrong leaf)
    (S : Nat → Prop) (n : Nat) (f : Nat → Int) (hm : Mem w S p 0 n f) (a : Int) (a0 : 0 ≤ a) (a1 : a < 18446744073709551616) :
    Calls Try.prog 112 #[.pointer (some ⟨b, 0, none⟩), .int .u64 a] w fun e w' => e = .returned (.tuple #[.int .u64 (rdm n f a).1, .int .i64 (rdm n f a).2]) ∧ Below w.heap.size w w' := by
  have c0 := h.c0
  have HM := hid hm
  clear h hm
  go_enter Try.func112, Try.ntmps112
  by_cases q : a + 8 ≤ 4096 * n
  · have hr : rdm n f a = (nu (fun j => f (a.toNat + j)) 8, 0) := by unfold rdm; rw [if_pos q]
    go_wp2_with (go_at_call 87; refine (c_Read8 w S p n f HM.out a a0 a1 (rdm n f a).1 true rfl (by rw [hr]; rfl)).mono ?_; rintro e w1 ⟨rfl, hb⟩; have HB := hid hb; clear hb)
    go_ret2
    rw [hr]
    exact ⟨rfl, HB.out⟩
  · have hr : rdm n f a = (0, 3) := by unfold rdm; rw [if_neg q]
    go_wp2_with (go_at_call 87; refine (c_Read8 w S p n f HM.out a a0 a1 (rdm n f a).1 false rfl (by rw [hr]; rfl)).mono ?_; rintro e w1 ⟨rfl, hb⟩; have HB := hid hb; clear hb)
    go_ret2
    rw [hr]
    exact ⟨rfl, HB.out⟩
theorem c_stop (w : World) (b : Nat) (ty : TypeId) (tail : List Value) (p : Nat) (addr table wrong leaf : Int) (k : Nat) (hk : k ≤ 2) (h : WK w b ty tail p addr table k wrong leaf) (e : Int) (h0 : 0 ≤ e) (h1 : e < 18446744073709551616) (hz : num e % pw k = 0) :
    Calls Try.prog 120 #[.pointer (some ⟨b, 0, none⟩), .int .u64 e] w fun r w' => r = .returned (.int .i64 0) ∧ WK w' b ty tail p addr table k wrong e ∧ Only (· = b) w w' := by
  have c5 := h.c5
  have z5 := h.fz 5
  have HW := hid h
  clear h
  go_enter Try.func120, Try.ntmps120
  rcases (show k = 0 ∨ k = 1 ∨ k = 2 by omega) with rfl | rfl | rfl
  · rw [pw0] at hz
    go_wp2_with (first
      | (go_at_call 114; refine (c_num e h0 h1 _).mono ?_; rintro r w2 ⟨rfl, rfl⟩)
      | (go_at_call 115; refine (c_pages _ b ty tail p addr table wrong leaf 0 hk HW.out _ pw0).mono ?_; rintro r w2 ⟨rfl, rfl⟩))
    go_ret
    exact ⟨rfl, HW.out.s5 _, (Only.refl (S := (· = b)) _).setCell (.inl rfl) _⟩
  · rw [pw1] at hz
    have hn : 0 ≤ num e := by unfold num; omega
    go_wp2_with (first
      | (go_at_call 114; refine (c_num e h0 h1 _).mono ?_; rintro r w2 ⟨rfl, rfl⟩)
      | (go_at_call 115; refine (c_pages _ b ty tail p addr table wrong leaf 1 hk HW.out _ pw1).mono ?_; rintro r w2 ⟨rfl, rfl⟩))
    go_ret
    exact ⟨rfl, HW.out.s5 _, (Only.refl (S := (· = b)) _).setCell (.inl rfl) _⟩
  · rw [pw2] at hz
    have hn : 0 ≤ num e := by unfold num; omega
    go_wp2_with (first
      | (go_at_call 114; refine (c_num e h0 h1 _).mono ?_; rintro r w2 ⟨rfl, rfl⟩)
      | (go_at_call 115; refine (c_pages _ b ty tail p addr table wrong leaf 2 hk HW.out _ pw2).mono ?_; rintro r w2 ⟨rfl, rfl⟩))
    go_ret
    exact ⟨rfl, HW.out.s5 _, (Only.refl (S := (· = b)) _).setCell (.inl rfl) _⟩
theorem c_stop_bad (w : World) (b : Nat) (ty : TypeId) (tail : List Value) (p : Nat) (addr table wrong leaf : Int) (k : Nat) (hk : k ≤ 2) (h : WK w b ty tail p addr table k wrong leaf) (e : Int) (h0 : 0 ≤ e) (h1 : e < 18446744073709551616) (hz : num e % pw k ≠ 0) :
    Calls Try.prog 120 #[.pointer (some ⟨b, 0, none⟩), .int .u64 e] w fun r w' => r = .returned (.int .i64 wrong) ∧ w' = w := by
  have c4 := h.c4
  have HW := hid h
  clear h
  go_enter Try.func120, Try.ntmps120
  rcases (show k = 0 ∨ k = 1 ∨ k = 2 by omega) with rfl | rfl | rfl
  · rw [pw0] at hz; omega
  · rw [pw1] at hz
    have hn : 0 ≤ num e := by unfold num; omega
    go_wp2_with (first
      | (go_at_call 114; refine (c_num e h0 h1 _).mono ?_; rintro r w2 ⟨rfl, rfl⟩)
      | (go_at_call 115; refine (c_pages _ b ty tail p addr table wrong leaf 1 hk HW.out _ pw1).mono ?_; rintro r w2 ⟨rfl, rfl⟩))
    go_ret
    exact ⟨rfl, rfl⟩
  · rw [pw2] at hz
    have hn : 0 ≤ num e := by unfold num; omega
    go_wp2_with (first
      | (go_at_call 114; refine (c_num e h0 h1 _).mono ?_; rintro r w2 ⟨rfl, rfl⟩)
      | (go_at_call 115; refine (c_pages _ b ty tail p addr table wrong leaf 2 hk HW.out _ pw2).mono ?_; rintro r w2 ⟨rfl, rfl⟩))
    go_ret
    exact ⟨rfl, rfl⟩
/-- what stop says, and the leaf that it keeps -/
def stF (k : Nat) (e wrong : Int) : Int := if num e % pw k ≠ 0 then wrong else 0
def stL (k : Nat) (e : Int) : Int := if num e % pw k ≠ 0 then 0 else e
theorem c_stopC (w : World) (b : Nat) (ty : TypeId) (tail : List Value) (p : Nat) (addr table wrong : Int) (k : Nat) (hk : k ≤ 2) (h : WK w b ty tail p addr table k wrong 0) (e : Int) (h0 : 0 ≤ e) (h1 : e < 18446744073709551616) :
    Calls Try.prog 120 #[.pointer (some ⟨b, 0, none⟩), .int .u64 e] w fun r w' => r = .returned (.int .i64 (stF k e wrong)) ∧ WK w' b ty tail p addr table k wrong (stL k e) ∧ Only (· = b) w w' := by
  by_cases hz : num e % pw k = 0
  · have q := c_stop w b ty tail p addr table wrong 0 k hk h e h0 h1 hz
    unfold stF stL; rw [if_neg (by rw [hz]; decide), if_neg (by rw [hz]; decide)]; exact q
  · unfold stF stL; rw [if_pos hz, if_pos hz]
    exact (c_stop_bad w b ty tail p addr table wrong 0 k hk h e h0 h1 hz).mono fun r w' q => ⟨q.1, by rw [q.2]; exact h, by rw [q.2]; exact .refl w⟩
theorem num_b {e : Int} (h0 : 0 ≤ e) (h1 : e < 18014398509481984) : 0 ≤ num e ∧ num e < 17592186044416 := by unfold num; omega
theorem c_place4 (w : World) (b : Nat) (ty : TypeId) (tail : List Value) (p : Nat) (addr table wrong leaf : Int) (k : Nat) (hk : k ≤ 2) (h : WK w b ty tail p addr table k wrong leaf) (h0 : 0 ≤ leaf) (h1 : leaf < 18014398509481984) (a0 : 0 ≤ addr) (a1 : addr < 18446744073709551616) :
    Calls Try.prog 102 #[.pointer (some ⟨b, 0, none⟩)] w fun r w' => r = .returned (.int .u64 ((num leaf + addr / 4096 % pw k) * 4096 + addr % 4096)) ∧ ∃ m, w' = w.drewN m := by
  have c1 := h.c1
  have c5 := h.c5
  have HW := hid h
  obtain ⟨n0, n1⟩ := num_b h0 h1
  clear h
  go_enter Try.func102, Try.ntmps102
  rcases (show k = 0 ∨ k = 1 ∨ k = 2 by omega) with rfl | rfl | rfl
  · rw [pw0]
    go_wp2_with fail
    go_quiet (first
      | (go_at_call 114; exact Calls.quiet_of_same (c_num leaf h0 (by omega) _))
      | (go_at_call 115; exact Calls.quiet_of_same (c_pages _ b ty tail p addr table wrong leaf 0 hk (HW.out.drewN _) _ pw0)))
    go_wp2
    go_ret
    refine ⟨ret_int ?_, _, rfl⟩
    omega
  · rw [pw1]
    go_wp2_with fail
    go_quiet (first
      | (go_at_call 114; exact Calls.quiet_of_same (c_num leaf h0 (by omega) _))
      | (go_at_call 115; exact Calls.quiet_of_same (c_pages _ b ty tail p addr table wrong leaf 1 hk (HW.out.drewN _) _ pw1)))
    go_wp2
    go_ret
    refine ⟨ret_int ?_, _, rfl⟩
    omega
  · rw [pw2]
    go_wp2_with fail
    go_quiet (first
      | (go_at_call 114; exact Calls.quiet_of_same (c_num leaf h0 (by omega) _))
      | (go_at_call 115; exact Calls.quiet_of_same (c_pages _ b ty tail p addr table wrong leaf 2 hk (HW.out.drewN _) _ pw2)))
    go_wp2
    go_ret
    refine ⟨ret_int ?_, _, rfl⟩
    omega
end Go.Proofs.Ytekkjalfiogenaa.C
