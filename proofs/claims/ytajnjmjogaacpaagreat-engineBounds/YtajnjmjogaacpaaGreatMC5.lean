/- A case's length, out of its weight; a list of cells as an argument. -/
import Derived.Test.YtajnjmjogaacpaaGreatMC4
import Derived.SizedLaws
import Derived.Test.YtajnjmjogaacpaaGreatMC3
import Derived.BigRegion
import Derived.Test.YtajnjmjogaacpaaGreatMC1
namespace Go.Proofs.YtajnjmjogaacpaaGreat.C
open Go.ChangeShapes Go.WideShapes Go.ChangeAt Go.RowKit Go.Deep
set_option linter.unusedVariables false
set_option maxRecDepth 100000

theorem bytes_cell : Tryz.prog.bytesOf 26 = 16 := by kernel_rfl
set_option maxRecDepth 100000 in
/-- a list of cells, as an argument -/
theorem open_list {H : Type} {enc : TypeId × Value → H} {W : World} {base : Nat} {r : Reach} {b0 : Nat} {v : Value} {d : DataW H} {p : List MemPlace} (hv : Value.okWide Tryz.prog W r b0 22 v) (h : DataW.Trod enc Tryz.prog W base (fun _ => true) true 22 v d p) (hlt : ∀ x ∈ p, x.block < W.heap.size) :
    ∃ (ad : Option Addr) (la cap ab ao : Nat) (X : Nat → Int × Int), v = .slice ad la cap ∧ Cl W ad la cap ab ao X := by
  obtain ⟨fuel, hf⟩ := h
  obtain ⟨ad, la, cap, ab, ao, X, hcs, hC⟩ := open_cells hf hlt
  obtain ⟨ad', la', cap', rfl⟩ := okWide_slice u_sCell hv
  simp [Value.cells] at hcs
  obtain ⟨rfl, rfl, rfl⟩ := hcs
  exact ⟨_, _, _, ab, ao, X, rfl, hC⟩
end Go.Proofs.YtajnjmjogaacpaaGreat.C
namespace Go.Proofs.YtajnjmjogaacpaaGreat.C
open Go.RowKit
set_option linter.unusedVariables false
set_option maxRecDepth 100000

theorem own_some {w : World} {base : Nat} {e : TypeId} {v : Value} {n : Nat} {xs : List Value} (h : w.ownsRow base e 1 v n xs) (hn : 0 < n) : ∃ g cap cur, v = .slice (some ⟨g, 0, none⟩) n cap ∧ base ≤ g ∧ w.heap[g]? = some (.cells cur e (0, 0)) ∧ n ≤ cap ∧ cur.toList.take n = xs := by
  rcases h.2 with ⟨_, h0⟩ | ⟨g, cap, cur, rfl, hg, hh, hle, _, _, ht⟩
  · omega
  · exact ⟨g, cap, cur, rfl, hg, hh, hle, by simpa using ht⟩
theorem step_append_own {P : Program} {w : World} {ops : Array Oper} {o : Oper} {a : Act} {K : Act → World → Prop} {Q : Exit → Act → World → Prop} {E : Prop} (hgd : o.guard = none) (s x : Operand) (t : TypeId)
    (ho : o.op = .call { callee := .builtin .append, args := #[s, x], argTypes := #[t, t] })
    (base : Nat) (e : TypeId) (i : TypeInfo) (z : Value) (size bytes : Nat) (ht : P.underlying t = some (.slice e)) (hi : P.info? e = some i) (hz : i.zero = some z)
    (hsize : i.size = size) (hby : i.bytes = bytes) (hzs : z.cells.size = size) (hsz : 0 < size)
    (v : Value) (n : Nat) (xs : List Value) (hs : a.eval s = v) (hown : w.ownsRow base e size v n xs)
    (ad : Addr) (m c : Nat) (news : List Value) (hx : a.eval x = .slice (some ad) m c) (hl : news.length = m * size) (hnews : ∀ j u, news[j]? = some u → w.cell? (ad.add j) = some u) (h1 : ∀ u ∈ news, u.oneCell' = true)
    (h63 : n + m ≤ maxLen) (hbytes : (n + m) * bytes ≤ 140737488355328) (hbase : base ≤ w.heap.size)
    (h : ∀ v' w', w'.ownsRow base e size v' (n + m) (xs ++ news) → w.grownBy w' v.ownBlock → K (a.put o.dst v') w') :
    if Region.wanted o (yielded ops a.tmps) = true then Oper.wp P o a w K Q else E := by
  have hw : Region.wanted o (yielded ops a.tmps) = true := by simp [Region.wanted, hgd]
  rw [if_pos hw]
  exact wp_append_own w s x t ho base e i z size bytes ht hi hz hsize hby hzs hsz v n xs hs hown ad m c news hx hl hnews h1 h63 hbytes hbase fun v' w' h2 h3 _ => h v' w' h2 h3
theorem take_get2 {cur : Array Value} {f : Nat → Int} {s n : Nat} (h : cur.toList.take (0 + n) = [] ++ row f s n) (j : Nat) (hj : j < n) : cur[j]? = some (.int .u8 (f (s + j))) := by
  have := row_get f s n j hj
  rw [Nat.zero_add, List.nil_append] at h
  rw [← h, List.getElem?_take_of_lt hj] at this
  simpa using this
theorem grown_only {w w2 : World} (h : w.drew.grownBy w2 none) : Only (fun _ => False) w w2 := ⟨h.os, h.tape, h.output, h.size, fun k hk _ => h.block k hk (by simp)⟩
/-- how far a copy has come: k frames -/
structure QPC (w wr : World) (base : Int) (hs : List (Option (Nat × Nat))) (f : Nat → Int) (k : Nat) (hs' : List (Option (Nat × Nat))) : Prop where
  top : wr.heap[w.heap.size + 1]? = some (.cells #[.int .u64 base, .int .i64 hs.length, .slice (some ⟨w.heap.size, 0, none⟩) hs.length hs.length] 164 (0, 0))
  tab : wr.heap[w.heap.size]? = some (.cells (hs'.map fv).toArray 63 (0, 0))
  len : hs'.length = hs.length
  bare : ∀ i : Nat, i < k → hs'[i]? = some none → hs[i]? = some none
  full : ∀ (i h c : Nat), hs'[i]? = some (some (h, c)) → i < k ∧ w.heap.size + 1 < h ∧ 4096 ≤ c ∧ ∃ cur : Array Value, wr.heap[h]? = some (.cells cur 5 (0, 0)) ∧ ∀ j, j < 4096 → cur[j]? = some (.int .u8 (f (4096 * i + j)))
  inj : ∀ (i j h c c' : Nat), hs'[i]? = some (some (h, c)) → hs'[j]? = some (some (h, c')) → i = j
  below : Below w.heap.size w wr
theorem QPC.bareStep {w wr : World} {base : Int} {hs : List (Option (Nat × Nat))} {f : Nat → Int} {k : Nat} {hs' : List (Option (Nat × Nat))} (h : QPC w wr base hs f k hs') (hk : hs[k]? = some none) : QPC w wr base hs f (k + 1) hs' :=
  ⟨h.top, h.tab, h.len, fun i hi q => by
    by_cases e : i = k
    · subst e; exact hk
    · exact h.bare i (by omega) q, fun i hh c q => ⟨by have := (h.full i hh c q).1; omega, (h.full i hh c q).2⟩, h.inj, h.below⟩
theorem QPC.fullStep {w wr w2 : World} {base : Int} {hs : List (Option (Nat × Nat))} {f : Nat → Int} {k : Nat} {hs' : List (Option (Nat × Nat))} (h : QPC w wr base hs f k hs') (hk : k < hs.length) {g2 c2 : Nat} {cur : Array Value} (hg : w2.heap[g2]? = some (.cells cur 5 (0, 0))) (hgw : wr.heap.size ≤ g2) (hc2 : 4096 ≤ c2)
    (hcur : ∀ j, j < 4096 → cur[j]? = some (.int .u8 (f (4096 * k + j)))) (ho : Only (fun _ => False) wr w2) : QPC w (w2.setCell ⟨w.heap.size, k, none⟩ (.slice (some ⟨g2, 0, none⟩) 4096 c2)) base hs f (k + 1) (hs'.set k (some (g2, c2))) := by
  have hk' : k < hs'.length := by rw [h.len]; exact hk
  have hgl := lt_of_block h.tab
  have htl := lt_of_block h.top
  have hold : ∀ j o, wr.heap[j]? = some o → j ≠ w.heap.size → (w2.setCell ⟨w.heap.size, k, none⟩ (.slice (some ⟨g2, 0, none⟩) 4096 c2)).heap[j]? = some o := fun j o hj hne => (Below.heap_setCell _ _ _ j hne).trans (ho.old hj fun q => q)
  refine ⟨hold _ _ h.top (by omega), ?_, by simpa using h.len, ?_, ?_, ?_, ?_⟩
  · rw [heap_setCell_same _ _ k _ _ _ (ho.old h.tab fun q => q), ← fv_set]
    rfl
  · intro i hi q
    by_cases e : i = k
    · subst e; rw [List.getElem?_set_self hk'] at q; cases q
    · rw [List.getElem?_set_ne (by omega)] at q; exact h.bare i (by omega) q
  · intro i hh c q
    by_cases e : i = k
    · subst e
      rw [List.getElem?_set_self hk'] at q
      obtain ⟨rfl, rfl⟩ : g2 = hh ∧ c2 = c := by simpa using q
      exact ⟨by omega, by omega, hc2, cur, (Below.heap_setCell _ _ _ _ (by show g2 ≠ w.heap.size; omega)).trans hg, hcur⟩
    · rw [List.getElem?_set_ne (by omega)] at q
      obtain ⟨a, b, c', cur', hg', hc'⟩ := h.full i hh c q
      exact ⟨by omega, b, c', cur', hold _ _ hg' (by omega), hc'⟩
  · intro i j hh c c' hi hj
    by_cases e : i = k <;> by_cases e' : j = k
    · omega
    · subst e
      rw [List.getElem?_set_self hk'] at hi
      rw [List.getElem?_set_ne (by omega)] at hj
      obtain ⟨_, _, _, _, hg', _⟩ := h.full j hh c' hj
      have := lt_of_block hg'
      simp at hi; omega
    · subst e'
      rw [List.getElem?_set_self hk'] at hj
      rw [List.getElem?_set_ne (by omega)] at hi
      obtain ⟨_, _, _, _, hg', _⟩ := h.full i hh c hi
      have := lt_of_block hg'
      simp at hj; omega
    · rw [List.getElem?_set_ne (by omega)] at hi hj
      exact h.inj i j hh c c' hi hj
  · exact (h.below.trans (ho.below _ h.below.size (fun _ q => q.elim))).setCell (p := ⟨w.heap.size, k, none⟩) (Nat.le_refl _) _
theorem run_makeT (w : World) (n : Nat) (hn : n ≤ 1024) : (Instr.makeSlice 162 (.int .i64 (n : Int)) (.int .i64 (n : Int))).run Tryz.prog w = .ok (.slice (some ⟨w.heap.size, 0, none⟩) n n) (w.alloc (.cells ((List.replicate n (none : Option (Nat × Nat))).map fv).toArray 63)) := by
  obtain ⟨i, hi1, hz, hs, hb⟩ := info_parts info_su8
  have hr := run_make (P := Tryz.prog) w 162 63 i _ u_ssu8 hi1 hz .i64 .i64 n n (by omega) (by omega) (by rw [hb]; omega) (by omega)
  have hcs : madeCells (Value.slice none 0 0).cells ((n : Int).toNat * i.size) = ((List.replicate n (none : Option (Nat × Nat))).map fv).toArray := by
    rw [← map_fv, hs]
    apply Array.ext'
    simpa [Value.cells] using toList_madeCells_one (.slice none 0 0) n
  rw [hcs] at hr
  simpa using hr
end Go.Proofs.YtajnjmjogaacpaaGreat.C
namespace Go.Proofs.YtajnjmjogaacpaaGreat.C
open Go.RowKit
set_option linter.unusedVariables false
set_option maxRecDepth 100000

theorem put1_b {B : Nat → Int} (hB : ∀ j, 0 ≤ B j ∧ B j < 256) (k : Nat) (x : Int) (hx : 0 ≤ x ∧ x < 256) (j : Nat) : 0 ≤ put B k 1 (fun _ => x) j ∧ put B k 1 (fun _ => x) j < 256 := by
  unfold put
  split
  · exact hx
  · exact hB j
theorem c_BytesF (w : World) (S : Nat → Prop) (p : Nat) (base : Int) (n : Nat) (f : Nat → Int) (h : Mem w S p base n f) (off : Nat) (hl : off + 4096 ≤ 4096 * n) (addr : Int) (ha : addr = base + off) :
    Calls Tryz.prog 16 #[.pointer (some ⟨p, 0, none⟩), .int .u64 addr, .int .i64 4096] w fun e w' => ∃ b, e = .returned (.tuple #[.slice (some ⟨b, 0, none⟩) 4096 4096, .bool true]) ∧ w'.heap[b]? = some (.cells (row (fun j => f (off + j)) 0 4096).toArray 5 (0, 0)) ∧ w.heap.size ≤ b ∧ Below w.heap.size w w' :=
  c_Bytes w S p base n f h off 4096 hl addr ha
/-- a call of a function of three arguments, as one step of a region that draws its order; its guard, if it has one, says yes -/
theorem step_call3 {P : Program} {ops : Array Oper} {o : Oper} {a : Act} {w : World} {K : Act → World → Prop} {Q : Exit → Act → World → Prop} {E : Prop} (hw : Region.wanted o (yielded ops a.tmps) = true) (f : FuncId) (x y z : Operand) (ts : Array TypeId)
    (ho : o.op = .call { callee := .value (.func f), args := #[x, y, z], argTypes := ts }) (vx vy vz : Value) (hx : a.eval x = vx) (hy : a.eval y = vy) (hz : a.eval z = vz) (hnf : (callFunc f #[vx, vy, vz]).run P w = .ok (.enter f #[vx, vy, vz]) w) {R : Ending → World → Prop} (hc : Calls P f #[vx, vy, vz] w R)
    (h : ∀ e w', R e w' → ∃ v, e = .returned v ∧ K (a.put o.dst v) w') :
    if Region.wanted o (yielded ops a.tmps) = true then Oper.wp P o a w K Q else E := by
  rw [if_pos hw]
  have he : (execOp a.eval o).run P w = .ok (.enter f #[vx, vy, vz]) w := by
    have hf : a.eval (.func f) = .func (.func f) #[] #[] := rfl
    simp [execOp, ho, resolve, invoke, Deferred.ofValue, hf, hx, hy, hz, hnf]
  unfold Oper.wp
  rw [he, Oper.upon_enter]
  refine hc.mono fun e w' hR => ?_
  obtain ⟨v, rfl, hk⟩ := h e w' hR
  exact hk
end Go.Proofs.YtajnjmjogaacpaaGreat.C
namespace Go.Proofs.YtajnjmjogaacpaaGreat.C
open Go.RowKit
set_option linter.unusedVariables false
set_option maxRecDepth 100000

theorem s_cells : (Tryz.prog.info? 123).map (·.size) = some 4096 := by kernel_rfl
theorem wpL_load {ops : Array Oper} {rest : List Oper} {d : Option Nat} {ty : TypeId} {x : Operand} {pos : String} {after : Array Edge} {Q : Exit → Act → World → Prop} {a : Act} {w : World} (h : Nat) (hx : a.eval x = .pointer (some ⟨h, 0, none⟩)) (f : Nat → Int) (s : Nat)
    (hg : w.heap[h]? = some (.cells (row f s 4096).toArray 123 (0, 0))) (hK : wpList Tryz.prog ops Q rest (a.put d (.agg (row f s 4096).toArray)) w) :
    wpList Tryz.prog ops Q ({ dst := d, op := Op.load 123 x, type := ty, pos := pos, after := after, guard := none } :: rest) a w :=
  wpList_load_row rfl 123 x rfl h hx 123 _ (0, 0) (.array 4096 5) hg u_cells rfl (by rw [s_cells]; simp [row_length]) hK
theorem setRow_alloc (w : World) (a b : Array Value) (t : TypeId) : (w.alloc (.cells a t)).setRow w.heap.size b = w.alloc (.cells b t) := by
  unfold World.setRow World.alloc
  congr 1
  apply Array.ext_getElem?
  intro k
  simp only [Array.getElem?_modify, Array.getElem?_push]
  by_cases hk : k = w.heap.size
  · subst hk; simp
  · simp [hk]
    intro e; exact absurd e.symm hk
theorem wpL_store {ops : Array Oper} {rest : List Oper} {d : Option Nat} {ty : TypeId} {x y : Operand} {pos : String} {after : Array Edge} {Q : Exit → Act → World → Prop} {a : Act} {w : World} (f : Nat → Int) (s : Nat) (z : List Value) (hz : z.length = 4096) (hx : a.eval x = .pointer (some ⟨w.heap.size, 0, none⟩)) (hy : a.eval y = .agg (row f s 4096).toArray)
    (hK : wpList Tryz.prog ops Q rest (a.put d undef) (w.alloc (.cells (row f s 4096).toArray 123))) :
    wpList Tryz.prog ops Q ({ dst := d, op := Op.store 123 x y, type := ty, pos := pos, after := after, guard := none } :: rest) a (w.alloc (.cells z.toArray 123)) := by
  refine wpList_store_row rfl 123 x y rfl w.heap.size _ hx hy 123 z.toArray (heap_alloc_new w _) (by rw [s_cells]; simp [row_length]) (by simp [row_length, hz]) ?_ (by rw [setRow_alloc]; exact hK)
  rw [Array.all_eq_true_iff_forall_mem]
  intro v hv
  exact row_one f s 4096 v (by simpa using hv)
/-- how far a copy has come: k frames -/
structure PC (w wr : World) (hs : List (Option Nat)) (f : Nat → Int) (k : Nat) (hs' : List (Option Nat)) : Prop where
  tab : wr.heap[w.heap.size]? = some (.cells (hs'.map ptr).toArray 121 (0, 0))
  len : hs'.length = hs.length
  bare : ∀ i : Nat, i < k → hs'[i]? = some none → hs[i]? = some none
  full : ∀ (i h : Nat), hs'[i]? = some (some h) → i < k ∧ w.heap.size < h ∧ wr.heap[h]? = some (.cells (row f (4096 * i) 4096).toArray 123 (0, 0))
  inj : ∀ (i j h : Nat), hs'[i]? = some (some h) → hs'[j]? = some (some h) → i = j
  below : Below w.heap.size w wr
theorem PC.bareStep {w wr : World} {hs : List (Option Nat)} {f : Nat → Int} {k : Nat} {hs' : List (Option Nat)} (h : PC w wr hs f k hs') (hk : hs[k]? = some none) : PC w wr hs f (k + 1) hs' :=
  ⟨h.tab, h.len, fun i hi q => by
    by_cases e : i = k
    · subst e; exact hk
    · exact h.bare i (by omega) q, fun i hh q => ⟨by have := (h.full i hh q).1; omega, (h.full i hh q).2⟩, h.inj, h.below⟩
theorem PC.fullStep {w wr : World} {hs : List (Option Nat)} {f : Nat → Int} {k : Nat} {hs' : List (Option Nat)} (h : PC w wr hs f k hs') (hk : k < hs.length) :
    PC w ((wr.setCell ⟨w.heap.size, k, none⟩ (.pointer (some ⟨wr.heap.size, 0, none⟩))).alloc (.cells (row f (4096 * k) 4096).toArray 123)) hs f (k + 1) (hs'.set k (some wr.heap.size)) := by
  have hk' : k < hs'.length := by rw [h.len]; exact hk
  have hgl := lt_of_block h.tab
  have hsz : (wr.setCell ⟨w.heap.size, k, none⟩ (.pointer (some ⟨wr.heap.size, 0, none⟩))).heap.size = wr.heap.size := by simp [World.setCell]
  have hnew : ((wr.setCell ⟨w.heap.size, k, none⟩ (.pointer (some ⟨wr.heap.size, 0, none⟩))).alloc (.cells (row f (4096 * k) 4096).toArray 123)).heap[wr.heap.size]? = some (.cells (row f (4096 * k) 4096).toArray 123 (0, 0)) := by
    have := heap_alloc_new (wr.setCell ⟨w.heap.size, k, none⟩ (.pointer (some ⟨wr.heap.size, 0, none⟩))) (.cells (row f (4096 * k) 4096).toArray 123)
    rwa [hsz] at this
  have hold : ∀ j, j < wr.heap.size → j ≠ w.heap.size → ((wr.setCell ⟨w.heap.size, k, none⟩ (.pointer (some ⟨wr.heap.size, 0, none⟩))).alloc (.cells (row f (4096 * k) 4096).toArray 123)).heap[j]? = wr.heap[j]? := fun j hj hne =>
    (Below.heap_alloc _ _ j (by rw [hsz]; exact hj)).trans (Below.heap_setCell _ _ _ j hne)
  refine ⟨?_, by simpa using h.len, ?_, ?_, ?_, ?_⟩
  · rw [Below.heap_alloc _ _ _ (by rw [hsz]; exact hgl), heap_setCell_same _ _ k _ _ _ h.tab]
    congr 2
    simp [List.map_set, ptr]
  · intro i hi q
    by_cases e : i = k
    · subst e; rw [List.getElem?_set_self hk'] at q; cases q
    · rw [List.getElem?_set_ne (by omega)] at q; exact h.bare i (by omega) q
  · intro i hh q
    by_cases e : i = k
    · subst e
      rw [List.getElem?_set_self hk'] at q
      obtain rfl : wr.heap.size = hh := by simpa using q
      exact ⟨by omega, hgl, hnew⟩
    · rw [List.getElem?_set_ne (by omega)] at q
      obtain ⟨a, b, c⟩ := h.full i hh q
      exact ⟨by omega, b, (hold hh (lt_of_block c) (by omega)).trans c⟩
  · intro i j hh hi hj
    by_cases e : i = k <;> by_cases e' : j = k
    · omega
    · subst e
      rw [List.getElem?_set_self hk'] at hi
      rw [List.getElem?_set_ne (by omega)] at hj
      have := lt_of_block (h.full j hh hj).2.2
      simp at hi; omega
    · subst e'
      rw [List.getElem?_set_self hk'] at hj
      rw [List.getElem?_set_ne (by omega)] at hi
      have := lt_of_block (h.full i hh hi).2.2
      simp at hj; omega
    · rw [List.getElem?_set_ne (by omega)] at hi hj
      exact h.inj i j hh hi hj
  · exact (h.below.setCell (Nat.le_refl _) _).alloc (by rw [hsz]; omega) _
set_option maxHeartbeats 1000000 in
theorem c_Copy (w : World) (S : Nat → Prop) (p : Nat) (base : Int) (n : Nat) (f : Nat → Int) (h : Mem w S p base n f) :
    Calls Tryz.prog 14 #[.pointer (some ⟨p, 0, none⟩)] w fun e w' => ∃ p' S', e = .returned (.pointer (some ⟨p', 0, none⟩)) ∧ Mem w' S' p' base n f ∧ Below w.heap.size w w' ∧ ∀ k, S' k → w.heap.size ≤ k := by
  obtain ⟨g, hs, hr, rfl, hS⟩ := h
  have l1 := hr.len1
  have c1 := hr.cell1
  have hpl := lt_of_block hr.top
  go_enter Tryz.func14, Tryz.ntmps14
  go_wp2_with (at_make; refine wpList_makes _ rfl _ _ 118 rfl 121 _ 8 u_spc info_pc rfl hs.length rfl rfl (by omega) (by omega) _ rfl ?_)
  go_loopw [18] (fun i wr => ∃ (k : Nat) (hs' : List (Option Nat)), k ≤ hs.length ∧ i = .int .i64 k ∧ PC w wr hs f k hs') (fun i _ => hs.length - (intOf i).toNat)
  case atStart => exact ⟨0, List.replicate hs.length none, by omega, rfl, ⟨by rw [heap_alloc_new]; simp [ptr], by simp, fun i hi => by omega, fun i hh q => by rw [List.getElem?_replicate] at q; split at q <;> simp at q, fun i j hh q => by rw [List.getElem?_replicate] at q; split at q <;> simp at q, (Below.refl _ _).alloc (Nat.le_refl _) _⟩⟩
  case round =>
    obtain ⟨k, hs', hk, rfl, hpc⟩ := hrel
    have hR := hr.below hpc.below
    have c2 := hR.cell1
    have c3 := hR.cell0
    by_cases hlt : k < hs.length
    · obtain ⟨x, hx⟩ : ∃ x, hs[k]? = some x := ⟨_, List.getElem?_eq_getElem hlt⟩
      have cT := hR.cellT _ x hx
      cases x with
      | none =>
        simp only [ptr] at cT
        have HP := hid (hpc.bareStep hx)
        clear hpc hR
        go_wp2
        go_roundw
        case rel => exact ⟨k + 1, hs', by omega, by go_num, HP.out⟩
        case measure => simp [intOf]; omega
      | some hh =>
        simp only [ptr] at cT
        have HF := hid (hR.full _ _ hx)
        have HP := hid (hpc.fullStep hlt)
        have hgl := lt_of_block hpc.tab
        have f1 : wr.frozen? ⟨w.heap.size, k, none⟩ = false := frozen_of_row wr _ _ _ _ hpc.tab
        obtain ⟨y, c4⟩ : ∃ y, wr.cell? ⟨w.heap.size, k, none⟩ = some y := by
          have hk' : k < hs'.length := by rw [hpc.len]; exact hlt
          exact ⟨ptr hs'[k], by rw [cell_of_row wr _ k _ _ _ hpc.tab]; simp [hk']⟩
        clear hpc hR
        go_wp2_with (first
          | ((with_reducible refine wpL_load (x := .tmp 26) hh ?_ f (4096 * k) ?_ ?_); rfl; exact HF.out)
          | ((with_reducible refine wpList_new (z := .agg (List.replicate 4096 (Value.int .u8 0)).toArray) (row (fun _ => 0) 0 4096).toArray ?_ ?_ ?_); exact c_cells; exact z_cells)
          | ((with_reducible refine wpL_store (x := .tmp 6) (y := .tmp 27) f (4096 * k) (row (fun _ => 0) 0 4096) (row_length _ _ _) ?_ ?_ ?_); rfl; rfl))
        go_roundw
        case rel => exact ⟨k + 1, _, by omega, by go_num, HP.out⟩
        case measure => simp [intOf]; omega
    · obtain rfl : k = hs.length := by omega
      go_wp2
      go_ret
      have hgl := lt_of_block hpc.tab
      have htop := heap_alloc_new wr (.cells #[.int .u64 base, .slice (some ⟨w.heap.size, 0, none⟩) hs.length hs.length] 120)
      have hold : ∀ j o, wr.heap[j]? = some o → (wr.alloc (.cells #[.int .u64 base, .slice (some ⟨w.heap.size, 0, none⟩) hs.length hs.length] 120)).heap[j]? = some o := fun j o ho => (Below.heap_alloc _ _ j (lt_of_block ho)).trans ho
      refine ⟨wr.heap.size, Foot wr.heap.size w.heap.size hs', rfl, ⟨w.heap.size, hs', ⟨by rw [hpc.len]; exact htop, hold _ _ hpc.tab, fun i q => hr.bare i (hpc.bare i ?_ q), fun i h' q => hold _ _ (hpc.full i h' q).2.2, hpc.inj, hr.byt, hr.base0, hr.base1, by rw [hpc.len]; exact hr.len0, by rw [hpc.len]; exact hr.len1⟩, hpc.len, fun k => Iff.rfl⟩, hpc.below.alloc hpc.below.size _, ?_⟩
      · rcases Nat.lt_or_ge i hs'.length with e | e
        · rw [← hpc.len]; exact e
        · rw [List.getElem?_eq_none e] at q; cases q
      · rintro k (rfl | rfl | ⟨i, hi⟩)
        · exact hpc.below.size
        · exact Nat.le_refl _
        · exact Nat.le_of_lt (hpc.full i k hi).2.1
end Go.Proofs.YtajnjmjogaacpaaGreat.C
namespace Go.Proofs.YtajnjmjogaacpaaGreat.C
open Go.RowKit
set_option linter.unusedVariables false
set_option maxRecDepth 100000

theorem nat_clear (x a n : Nat) (c : Nat) (hc : ∀ i, c.testBit i = (decide (i < 64) && !(decide (a ≤ i) && decide (i < a + n)))) (hx : x < 2 ^ 64) : x &&& c = x / 2 ^ (a + n) * 2 ^ (a + n) + x % 2 ^ a := by
  have h1 : x % 2 ^ a < 2 ^ (a + n) := Nat.lt_of_lt_of_le (Nat.mod_lt _ (Nat.two_pow_pos a)) (Nat.pow_le_pow_right (by decide) (by omega))
  have h2 := Nat.two_pow_add_eq_or_of_lt h1 (x / 2 ^ (a + n))
  rw [Nat.mul_comm (x / 2 ^ (a + n)), h2]
  apply Nat.eq_of_testBit_eq
  intro i
  rw [Nat.testBit_and, Nat.testBit_or, hc, Nat.testBit_mod_two_pow]
  rw [Nat.mul_comm, ← Nat.shiftLeft_eq, ← Nat.shiftRight_eq_div_pow, Nat.testBit_shiftLeft, Nat.testBit_shiftRight]
  by_cases q1 : i < a
  · have : ¬ (a + n ≤ i) := by omega
    by_cases q3 : i < 64
    · simp [q1, q3, this]
      try omega
    · have hz : x.testBit i = false := Nat.testBit_lt_two_pow (Nat.lt_of_lt_of_le hx (Nat.pow_le_pow_right (by decide) (by omega)))
      simp [hz, this]
  · by_cases q2 : i < a + n
    · have h3 : ¬ (a + n ≤ i) := by omega
      have h4 : a ≤ i := by omega
      simp [q1, q2, h3, h4]
    · have h3 : a + n ≤ i := by omega
      have e : a + n + (i - (a + n)) = i := by omega
      by_cases q3 : i < 64
      · simp [q1, q2, q3, h3, e]
      · have hz : x.testBit i = false := Nat.testBit_lt_two_pow (Nat.lt_of_lt_of_le hx (Nat.pow_le_pow_right (by decide) (by omega)))
        simp [q1, h3, e, hz]
theorem andn_eq (x M M' : Int) (h : ~~~(BitVec.ofInt 64 M) = BitVec.ofInt 64 M') : bits .andNot .u64 x M = bits .and .u64 x M' := by
  show IntKind.u64.wrap ((BitVec.ofInt 64 x &&& ~~~BitVec.ofInt 64 M).toNat : Int) = IntKind.u64.wrap ((BitVec.ofInt 64 x &&& BitVec.ofInt 64 M').toNat : Int)
  rw [h]
theorem bit_of_fin (c a n : Nat) (hc : c < 2 ^ 64) (h : ∀ k : Fin 64, c.testBit k.val = !(decide (a ≤ k.val) && decide (k.val < a + n))) (i : Nat) : c.testBit i = (decide (i < 64) && !(decide (a ≤ i) && decide (i < a + n))) := by
  by_cases q : i < 64
  · rw [h ⟨i, q⟩, decide_eq_true q, Bool.true_and]
  · rw [Nat.testBit_lt_two_pow (Nat.lt_of_lt_of_le hc (Nat.pow_le_pow_right (by decide) (by omega))), decide_eq_false q, Bool.false_and]
theorem clear_num (x : Int) (h0 : 0 ≤ x) (h1 : x < 18446744073709551616) : bits .andNot .u64 x 18014398509480960 = x / 18014398509481984 * 18014398509481984 + x % 1024 := by
  obtain ⟨n, rfl⟩ := Int.eq_ofNat_of_zero_le h0
  rw [andn_eq _ _ 18428729675200070655 (by decide), show (18428729675200070655 : Int) = ((18428729675200070655 : Nat) : Int) from rfl, bits_and_u64_nat _ _ (by omega) (by decide), nat_clear n 10 44 _ (bit_of_fin _ 10 44 (by decide) (by decide)) (by omega)]
  omega
theorem clear_low (x : Int) (h0 : 0 ≤ x) (h1 : x < 18446744073709551616) : bits .andNot .u64 x 17592186044415 = x / 17592186044416 * 17592186044416 := by
  obtain ⟨n, rfl⟩ := Int.eq_ofNat_of_zero_le h0
  rw [andn_eq _ _ 18446726481523507200 (by decide), show (18446726481523507200 : Int) = ((18446726481523507200 : Nat) : Int) from rfl, bits_and_u64_nat _ _ (by omega) (by decide), nat_clear n 0 44 _ (bit_of_fin _ 0 44 (by decide) (by decide)) (by omega)]
  omega
theorem or_low (x y : Int) (h0 : 0 ≤ x) (h1 : x < 18446744073709551616) (y0 : 0 ≤ y) (y1 : y < 17592186044416) : bits .or .u64 (x / 17592186044416 * 17592186044416) y = x / 17592186044416 * 17592186044416 + y := by
  obtain ⟨n, rfl⟩ := Int.eq_ofNat_of_zero_le h0
  obtain ⟨m, rfl⟩ := Int.eq_ofNat_of_zero_le y0
  have h := Nat.two_pow_add_eq_or_of_lt (i := 44) (b := m) (by omega) (n / 17592186044416)
  rw [show ((n : Int) / 17592186044416 * 17592186044416) = ((2 ^ 44 * (n / 17592186044416) : Nat) : Int) by omega, bits_or_u64_nat _ _ (by omega) (by omega), ← h]
  omega
/-- an entry, its number taken away where it is no leaf and leads above 5 -/
def lowV7 (V : Int) : Int := if lf V = true ∨ numR V ≤ 6 then V else V / 18014398509481984 * 18014398509481984 + V % 1024
theorem lowV_ok7 (V : Int) (h0 : 0 ≤ V) (h1 : V < 18446744073709551616) : (0 ≤ lowV7 V ∧ lowV7 V < 18446744073709551616) ∧ okT7 (lowV7 V) := by
  unfold lowV7
  split
  · rename_i h; exact ⟨⟨h0, h1⟩, h⟩
  · exact ⟨by omega, .inr (by unfold numR; omega)⟩
theorem lf_and (V : Int) (h0 : 0 ≤ V) (h1 : V < 18446744073709551616) : (bits .and .u64 V 10 == 0) = !lf V := by
  have h := and_lo V h0 h1 10 (by decide)
  have h' : bits .and .u64 V 10 = ((lo V &&& 10 : Nat) : Int) := h
  rw [h']
  unfold lf
  by_cases q : lo V &&& 10 = 0
  · rw [q]; simp
  · simp [q]
/-- the cells that are laid -/
def Yof7 (X : Nat → Int × Int) (i : Nat) : Int × Int := ((X i).1 % 3584, lowV7 (X i).2)
def cy (Y : Nat → Int × Int) : Nat → List Value
  | 0 => []
  | k + 1 => cy Y k ++ [.int .i64 (Y k).1, .int .u64 (Y k).2]
theorem cy_len (Y : Nat → Int × Int) : ∀ k, (cy Y k).length = k * 2
  | 0 => rfl
  | k + 1 => by show (cy Y k ++ _).length = _; rw [List.length_append, cy_len Y k]; simp; omega
theorem cy_get (Y : Nat → Int × Int) : ∀ k i, i < k → (cy Y k)[i * 2]? = some (.int .i64 (Y i).1) ∧ (cy Y k)[i * 2 + 1]? = some (.int .u64 (Y i).2)
  | k + 1, i, h => by
    show (cy Y k ++ _)[i * 2]? = _ ∧ (cy Y k ++ _)[i * 2 + 1]? = _
    by_cases q : i < k
    · rw [List.getElem?_append_left (by rw [cy_len]; omega), List.getElem?_append_left (by rw [cy_len]; omega)]
      exact cy_get Y k i q
    · obtain rfl : i = k := by omega
      rw [List.getElem?_append_right (by rw [cy_len]; omega), List.getElem?_append_right (by rw [cy_len]; omega), cy_len, Nat.sub_self, show i * 2 + 1 - i * 2 = 1 by omega]
      exact ⟨rfl, rfl⟩
theorem add_mk (g n : Nat) : (⟨g, 0, none⟩ : Addr).add n = ⟨g, 0 + n, none⟩ := by
  cases n with
  | zero => rfl
  | succ n => simp [Addr.add]
/-- what is laid, as Memory takes it -/
theorem cl_of_own {w : World} {base : Nat} {v : Value} {k : Nat} {Y : Nat → Int × Int} (h : w.ownsRow base 26 2 v k (cy Y k)) (hk : k ≤ 9223372036854775807) (hY : ∀ i, i < k → (-9223372036854775808 ≤ (Y i).1 ∧ (Y i).1 ≤ 9223372036854775807) ∧ 0 ≤ (Y i).2 ∧ (Y i).2 < 18446744073709551616) : ∃ ad cap ab, v = .slice ad k cap ∧ Cl w ad k cap ab 0 Y := by
  rcases h.2 with ⟨rfl, rfl⟩ | ⟨g, cap, cur, rfl, hbg, hg, hnc, hcm, hcs, htake⟩
  · exact ⟨none, 0, 0, rfl, Nat.le_refl _, by decide, fun q => absurd q (by decide), fun i q => absurd q (Nat.not_lt_zero _), fun i q => absurd q (Nat.not_lt_zero _)⟩
  · have hc := h.cells (g := g) rfl
    refine ⟨_, cap, g, rfl, hnc, by unfold maxLen at hcm; omega, fun _ => ⟨rfl, ?_⟩, fun i hi => ?_, hY⟩
    · exact lt_of_block hg
    · obtain ⟨e1, e2⟩ := cy_get Y k i hi
      have h1 := hc _ _ e1
      have h2 := hc _ _ e2
      rw [add_mk] at h1 h2
      exact ⟨h1, by rw [← Nat.add_assoc] at h2; exact h2⟩
end Go.Proofs.YtajnjmjogaacpaaGreat.C
