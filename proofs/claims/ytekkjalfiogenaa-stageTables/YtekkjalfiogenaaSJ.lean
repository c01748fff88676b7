/- Where the bytes of a guest's number lie. -/
import Derived.Test.YtekkjalfiogenaaMH5
import Derived.Laws.Tables
namespace Go.Proofs.Ytekkjalfiogenaa
open Go.RowKit
open C (Only hid Mem Still ret_bool ret_int put byt rd8 lo and_lo)
set_option linter.unusedVariables false
set_option maxRecDepth 100000

/-- eight numbers -/
def a8c (h : Nat → Int) : Array Value := ((List.range 8).map fun j => Value.int .u64 (h j)).toArray
theorem a8c_0 : a8c (fun _ => 0) = #[.int .u64 0, .int .u64 0, .int .u64 0, .int .u64 0, .int .u64 0, .int .u64 0, .int .u64 0, .int .u64 0] := rfl
theorem a8c_size (h : Nat → Int) : (a8c h).size = 8 := by simp [a8c]
theorem a8c_at (h : Nat → Int) (k : Nat) (hk : k < 8) : (a8c h)[k]? = some (.int .u64 (h k)) := by
  unfold a8c
  simp [hk]
theorem a8c_set (h : Nat → Int) (k : Nat) (x : Int) (hk : k < 8) : (a8c h).setIfInBounds k (.int .u64 x) = a8c (fun j => if j = k then x else h j) := by
  apply Array.ext_getElem?
  intro j
  rw [Array.getElem?_setIfInBounds]
  rcases Nat.lt_or_ge j 8 with q | q
  · rw [a8c_at _ _ q, a8c_at _ _ q, a8c_size]
    by_cases e : k = j
    · subst e; simp [hk]
    · rw [if_neg e]; simp [Ne.symm e]
  · rw [Array.getElem?_eq_none (by rw [a8c_size]; exact q), Array.getElem?_eq_none (by rw [a8c_size]; exact q), a8c_size]
    split
    · exfalso; omega
    · rfl
theorem u_a8u : Try.prog.underlying 140 = some (.array 8 22) := by kernel_rfl
theorem s_a8u : (Try.prog.info? 140).map (·.size) = some 8 := by kernel_rfl
theorem wpL_load8 {ops : Array Oper} {rest : List Oper} {d : Option Nat} {ty : TypeId} {x : Operand} {pos : String} {after : Array Edge} {Q : Exit → Act → World → Prop} {a : Act} {w : World} (g : Nat) (hx : a.eval x = .pointer (some ⟨g, 0, none⟩)) (h : Nat → Int)
    (hg : w.heap[g]? = some (.cells (a8c h) 140 (0, 0))) (hK : wpList Try.prog ops Q rest (a.put d (.agg (a8c h))) w) :
    wpList Try.prog ops Q ({ dst := d, op := Op.load 140 x, type := ty, pos := pos, after := after, guard := none } :: rest) a w :=
  wpList_load_row rfl 140 x rfl g hx 140 _ (0, 0) (.array 8 22) hg u_a8u rfl (by rw [s_a8u, a8c_size]) hK
theorem wpL_store8 {ops : Array Oper} {rest : List Oper} {d : Option Nat} {ty : TypeId} {x y : Operand} {pos : String} {after : Array Edge} {Q : Exit → Act → World → Prop} {a : Act} {w : World} (g : Nat) (hx : a.eval x = .pointer (some ⟨g, 0, none⟩)) (h h' : Nat → Int) (hy : a.eval y = .agg (a8c h'))
    (hg : w.heap[g]? = some (.cells (a8c h) 140 (0, 0))) (hK : wpList Try.prog ops Q rest (a.put d undef) (w.setRow g (a8c h'))) :
    wpList Try.prog ops Q ({ dst := d, op := Op.store 140 x y, type := ty, pos := pos, after := after, guard := none } :: rest) a w := by
  refine wpList_store_row rfl 140 x y rfl g _ hx hy 140 _ hg (by rw [s_a8u, a8c_size]) (by rw [a8c_size, a8c_size]) ?_ hK
  rw [Array.all_eq_true_iff_forall_mem]
  intro v hv
  simp [a8c] at hv
  obtain ⟨j, -, rfl⟩ := hv
  rfl
def wdt (x : Int) : Bool := decide (x = 1 ∨ x = 2 ∨ x = 4 ∨ x = 8)
theorem c_isWidth (x : Int) (w : World) : Calls Try.prog 95 #[.int .i64 x] w fun r w' => r = .returned (.bool (wdt x)) ∧ w' = w := by
  go_enter Try.func95, Try.ntmps95
  by_cases h1 : x = 1
  · subst h1; go_wp2; go_ret; exact ⟨rfl, rfl⟩
  · by_cases h2 : x = 2
    · subst h2; go_wp2; go_ret; exact ⟨rfl, rfl⟩
    · by_cases h3 : x = 4
      · subst h3; go_wp2; go_ret; exact ⟨rfl, rfl⟩
      · go_wp2; go_ret; exact ⟨ret_bool (by unfold wdt; rw [Bool.eq_iff_iff]; simp [h1, h2, h3]), rfl⟩
def okR (rt pm : Nat) : Bool := decide ((209 + pm) &&& rt = rt)
/-- whether a page has these rights -/
def pgOk (s : SV) (rt : Nat) (p : Nat) : Bool := decide (s.pp p ≠ 0) && okR rt (s.pp p)
/-- where a guest's byte lies -/
def po (s : SV) (a : Nat) : Nat := 4096 * s.pf (a / 4096) + a % 4096
theorem below_row {w wa : World} (h : Below w.heap.size w wa) {g : Nat} (hg : w.heap.size ≤ g) (c : Array Value) : Below w.heap.size w (wa.setRow g c) :=
  ⟨h.os, h.tape, h.output, by have := h.size; simpa [World.setRow] using this, fun k hk => (Go.setRow_other wa g k c (by omega)).trans (h.block k hk)⟩
theorem t_places_bad (w : World) (q : Nat) (a sz rt : Int) (hs : wdt sz = false) : Calls Try.prog 64 #[.pointer (some ⟨q, 0, none⟩), .int .u64 a, .int .i64 sz, .int .u64 rt] w fun r w' => (∃ h, r = .returned (.tuple #[.agg (a8c h), .bool false])) ∧ Below w.heap.size w w' := by
  have hw := c_isWidth sz
  rw [hs] at hw
  obtain ⟨wa, hwa⟩ : ∃ wa, wa = w.alloc (.cells (a8c fun _ => 0) 140) := ⟨_, rfl⟩
  have HA : Hid (wa.heap[w.heap.size]? = some (.cells (a8c fun _ => 0) 140 (0, 0))) := hwa ▸ heap_alloc_new w _
  have HB : Hid (Below w.heap.size w wa) := hwa ▸ (Below.refl _ _).alloc (Nat.le_refl _) _
  go_enter Try.func64, Try.ntmps64
  go_upto_region 1 with fail
  rw [← a8c_0, ← hwa]
  clear hwa
  go_wp2_with (first
    | (go_at_call 95; refine (hw _).mono ?_; rintro r w1 ⟨rfl, hw'⟩; obtain rfl := hw'.symm)
    | ((with_reducible refine wpL_load8 w.heap.size ?_ (fun _ => 0) HA.out ?_); rfl)
    | ((with_reducible refine wpL_store8 w.heap.size ?_ (fun _ => 0) (fun _ => 0) ?_ HA.out ?_); rfl; rfl))
  exact bodyPost_ret_by (results_pair (fn := Try.f64) rfl _ _ w.heap.size 140 _ (0, 0) _ rfl (setRow_heap _ w.heap.size _ _ _ _ HA.out) u_a8u rfl (by rw [s_a8u, a8c_size]) _ rfl) rfl ⟨⟨_, rfl⟩, below_row HB.out (Nat.le_refl _) _⟩
theorem st_step {s : SV} {rt : Nat} {v : PV} {a : Int} {n k A : Nat} {g : Nat → Int} {x : Int} (h : ∀ j, j < k → pgOk s rt ((a.toNat + j) / 4096) = true ∧ g j = v.b + (po s (a.toNat + j) : Nat)) (hA : A = a.toNat + k) (hk : k < 8) (hp : pgOk s rt (A / 4096) = true) (hx : x = v.b + (po s A : Nat)) :
    ∀ j, j < k + 1 → pgOk s rt ((a.toNat + j) / 4096) = true ∧ (if j = k then x else g j) = v.b + (po s (a.toNat + j) : Nat) := fun j hj => by
  by_cases e : j = k
  · subst e; rw [if_pos rfl, ← hA]; exact ⟨hp, hx⟩
  · rw [if_neg e]; exact h j (by omega)
set_option maxHeartbeats 2000000 in
theorem x_places (w : World) (F : Nat → Prop) (u : Value) (q pl : Nat) (s : SV) (v : PV) (f : Nat → Int) (vm : Int) (h : SPs w F u q pl s v f vm) (a : Int) (a0 : 0 ≤ a) (a1 : a < 18446744073709551616) (n : Nat) (hn : wdt n = true) (rt : Nat) (hrt : rt = 0 ∨ rt = 4) (b : Bool) (hb : (∀ j, j < n → pgOk s rt ((a.toNat + j) / 4096) = true) ↔ b = true) :
    Calls Try.prog 64 #[.pointer (some ⟨q, 0, none⟩), .int .u64 a, .int .i64 n, .int .u64 rt] w fun r w' => (∃ g, r = .returned (.tuple #[.agg (a8c g), .bool b]) ∧ (b = true → a < 549755813888 ∧ ∀ j, j < n → g j = v.b + (po s (a.toNat + j) : Nat))) ∧ Below w.heap.size w w' := by
  have hw := c_isWidth (n : Int)
  rw [hn] at hw
  have hn' : n ≤ 8 ∧ 0 < n := by simp [wdt] at hn; omega
  obtain ⟨wa, hwa⟩ : ∃ wa, wa = w.alloc (.cells (a8c fun _ => 0) 140) := ⟨_, rfl⟩
  have HA : Hid (wa.heap[w.heap.size]? = some (.cells (a8c fun _ => 0) 140 (0, 0))) := hwa ▸ heap_alloc_new w _
  have HB : Hid (Below w.heap.size w wa) := hwa ▸ (Below.refl _ _).alloc (Nat.le_refl _) _
  have H := hid h
  have bm := h.iv.ba.bm
  have b0 := h.iv.ba.b0
  have b1 := h.iv.ba.b1
  have n2 := h.iv.ba.n2
  have HR := hid hrt
  have HBB := hid hb
  clear h hn hrt hb
  go_enter Try.func64, Try.ntmps64
  go_upto_region 1 with fail
  rw [← a8c_0, ← hwa]
  clear hwa
  go_wp2_with (go_at_call 95; refine (hw _).mono ?_; rintro r w1 ⟨rfl, hw'⟩; obtain rfl := hw'.symm)
  clear hw
  go_loopw [1, 9, 10, 11, 17] (fun ad ok e i c wr => ∃ (k : Nat) (ev : Int) (g : Nat → Int), k ≤ n ∧ c = .int .i64 k ∧ ad = .int .u64 ((a + k) % 18446744073709551616) ∧ e = .int .u64 ev ∧ Hid (wr.heap[w.heap.size]? = some (.cells (a8c g) 140 (0, 0)) ∧ Below w.heap.size w wr ∧ (∀ j, j < k → pgOk s rt ((a.toNat + j) / 4096) = true ∧ g j = v.b + (po s (a.toNat + j) : Nat)) ∧ (0 < k → a < 549755813888 ∧ ev = lE v.b (s.pf ((a.toNat + k - 1) / 4096)) (s.pp ((a.toNat + k - 1) / 4096))))) (fun ad ok e i c _ => n - (intOf c).toNat)
  case atStart => exact ⟨0, 0, fun _ => 0, by omega, rfl, by congr 1; omega, rfl, HA.out, HB.out, fun j hj => by omega, fun z => by omega⟩
  case round =>
    obtain ⟨k, ev, g, hk, rfl, rfl, rfl, hI⟩ := hrel
    by_cases hlt : k < n
    · have hk8 : k < 8 := by omega
      obtain ⟨A, hA⟩ : ∃ A : Nat, A = a.toNat + k := ⟨_, rfl⟩
      obtain ⟨x, hx⟩ : ∃ x : Int, x = (a + k) % 18446744073709551616 := ⟨_, rfl⟩
      have hxA : x = (A : Int) := by
        rcases Nat.eq_zero_or_pos k with z | z
        · subst z; omega
        · have := (hI.out.2.2.2 z).1; omega
      have hxp : (x / 4096).toNat = A / 4096 := by omega
      have hxq : ((A / 4096 : Nat) : Int) = x / 4096 := by omega
      have HX1 : Hid (IntKind.u64.wrap (x + 1) = (a + ((k + 1 : Nat) : Int)) % 18446744073709551616) := by
        show _ = _
        rw [IntKind.wrap_u64]
        omega
      have x0 : 0 ≤ x := by omega
      have x1 : x < 18446744073709551616 := by omega
      rw [← hx]
      rcases Nat.eq_zero_or_pos k with hz | hz
      · have hzd : ((k : Int) == 0) = true := by rw [beq_iff_eq]; omega
        by_cases hm : s.pp (A / 4096) = 0
        · have hL := r_leaf_no wr F u q pl s v f vm (H.out.below hI.out.2.1) (x / 4096) (by omega) (by rw [hxp]; exact hm)
          have hbf : b = false := by
            rcases hbc : b with _ | _
            · rfl
            · have := HBB.out.2 hbc k hlt
              rw [← hA] at this
              simp [pgOk, hm] at this
          clear hA hx hxA hxp hxq hz
          go_wp2_with (first
            | (go_at_call 45; refine hL.mono ?_; rintro r w1 ⟨⟨y1, y2, rfl⟩, hb1⟩; have HB1 : Hid (Below w.heap.size w w1) := hI.out.2.1.trans (hb1.mono hI.out.2.1.size); have HA1 : Hid (w1.heap[w.heap.size]? = some (.cells (a8c g) 140 (0, 0))) := (hb1.block _ (lt_of_block hI.out.1)).trans hI.out.1; clear hb1)
            | ((with_reducible refine wpL_load8 w.heap.size ?_ g HA1.out ?_); rfl)
            | ((with_reducible refine wpL_store8 w.heap.size ?_ g g ?_ HA1.out ?_); rfl; rfl))
          exact bodyPost_ret_by (results_pair (fn := Try.f64) rfl _ _ w.heap.size 140 _ (0, 0) _ rfl (setRow_heap _ w.heap.size _ _ _ _ HA1.out) u_a8u rfl (by rw [s_a8u, a8c_size]) _ rfl) rfl ⟨⟨_, by rw [hbf]; rfl, fun z => by rw [hbf] at z; cases z⟩, below_row HB1.out (Nat.le_refl _) _⟩
        · have hL := r_leaf_yes wr F u q pl s v f vm (H.out.below hI.out.2.1) (A / 4096) hm
          rw [hxq] at hL
          obtain ⟨k0', hkp, hfl, -⟩ := H.out.iv.ap _ hm
          have hpl := H.out.iv.pplt hm
          have eb := lE_b (t := s.pf (A / 4096)) (pm := s.pp (A / 4096)) b0 b1 (by omega) (.inr hkp)
          have hand := and_lo _ eb.1 eb.2 rt (by have := HR.out; omega)
          rw [lo_lE _ _ _ b0 (.inr hkp), if_neg hm] at hand
          by_cases hr : okR rt (s.pp (A / 4096)) = true
          · have hr' : (209 + s.pp (A / 4096)) &&& rt = rt := by simpa [okR] using hr
            rw [hr'] at hand
            have hnu := c_number _ eb.1 eb.2
            rw [num_l _ _ _ hkp] at hnu
            have hst := hid (st_step (s := s) (rt := rt) (v := v) (a := a) (n := n) hI.out.2.2.1 hA hk8 (by unfold pgOk; rw [hr]; simp [hm]) (x := (v.b / 4096 + s.pf (A / 4096)) * 4096 + x % 4096) (by unfold po; rw [hxA]; omega))
            have hpos : Hid (a < 549755813888) := by show _ < _; omega
            have hnm : IntKind.u64.wrap (IntKind.u64.wrap ((v.b / 4096 + s.pf (A / 4096)) * 4096) + x % 4096) = (v.b / 4096 + s.pf (A / 4096)) * 4096 + x % 4096 := by rw [IntKind.wrap_u64, IntKind.wrap_u64]; omega
            have HEV : Hid (lE v.b (s.pf (A / 4096)) (s.pp (A / 4096)) = lE v.b (s.pf ((a.toNat + (k + 1) - 1) / 4096)) (s.pp ((a.toNat + (k + 1) - 1) / 4096))) := by rw [show a.toNat + (k + 1) - 1 = A by omega]; exact hid rfl
            generalize lE v.b (s.pf (A / 4096)) (s.pp (A / 4096)) = e2 at *
            generalize hpq : (v.b / 4096 + s.pf (A / 4096)) = pq at *
            clear hr hr' hkp hfl hpl k0' hpq
            clear hA hx hxA hxp hxq hz
            go_wp2_with (first
              | (go_at_call 45; refine hL.mono ?_; rintro r w1 ⟨rfl, hb1⟩; have HB1 : Hid (Below w.heap.size w w1) := hI.out.2.1.trans (hb1.mono hI.out.2.1.size); have HA1 : Hid (w1.heap[w.heap.size]? = some (.cells (a8c g) 140 (0, 0))) := (hb1.block _ (lt_of_block hI.out.1)).trans hI.out.1; have c8 : w1.cell? ⟨w.heap.size, k, none⟩ = some (.int .u64 (g k)) := (cell_of_row w1 _ k _ _ _ HA1.out).trans (a8c_at g k hk8); have y8 : w1.frozen? ⟨w.heap.size, k, none⟩ = false := frozen_of_row w1 _ k _ _ HA1.out; clear hb1)
              | (go_at_call 63; refine (hnu _).mono ?_; rintro r w2 ⟨rfl, hw'⟩; obtain rfl := hw'.symm))
            go_roundw
            case rel => exact ⟨k + 1, e2, _, by omega, by go_num, by first | exact congrArg (Value.int .u64) HX1.out | go_num, rfl, setRowB w1 w.heap.size k _ _ _ _ HA1.out (a8c_set g k _ hk8), HB1.out.setCell (p := ⟨w.heap.size, k, none⟩) (Nat.le_refl _) _, hst.out, fun _ => ⟨hpos.out, HEV.out⟩⟩
            case measure => first | (simp [intOf]; done) | (simp [intOf]; omega)
          · have hbf : b = false := by
              rcases hbc : b with _ | _
              · rfl
              · have := HBB.out.2 hbc k hlt
                rw [← hA] at this
                simp [pgOk] at this
                exact absurd this.2 hr
            have hr' : ¬ (((209 + s.pp (A / 4096)) &&& rt : Nat) : Int) = (rt : Int) := fun z => hr (by unfold okR; exact decide_eq_true (by omega))
            generalize lE v.b (s.pf (A / 4096)) (s.pp (A / 4096)) = e2 at *
            clear hA hx hxA hxp hxq hz
            go_wp2_with (first
              | (go_at_call 45; refine hL.mono ?_; rintro r w1 ⟨rfl, hb1⟩; have HB1 : Hid (Below w.heap.size w w1) := hI.out.2.1.trans (hb1.mono hI.out.2.1.size); have HA1 : Hid (w1.heap[w.heap.size]? = some (.cells (a8c g) 140 (0, 0))) := (hb1.block _ (lt_of_block hI.out.1)).trans hI.out.1; clear hb1)
              | ((with_reducible refine wpL_load8 w.heap.size ?_ g HA1.out ?_); rfl)
              | ((with_reducible refine wpL_store8 w.heap.size ?_ g g ?_ HA1.out ?_); rfl; rfl))
            exact bodyPost_ret_by (results_pair (fn := Try.f64) rfl _ _ w.heap.size 140 _ (0, 0) _ rfl (setRow_heap _ w.heap.size _ _ _ _ HA1.out) u_a8u rfl (by rw [s_a8u, a8c_size]) _ rfl) rfl ⟨⟨_, by rw [hbf]; rfl, fun z => by rw [hbf] at z; cases z⟩, below_row HB1.out (Nat.le_refl _) _⟩
      · have hz' : ((k : Int) == 0) = false := by rw [beq_eq_false_iff_ne]; omega
        by_cases hxm : x % 4096 = 0
        · have hxb : (x % 4096 == 0) = true := by rw [beq_iff_eq]; exact hxm
          clear hxm
          by_cases hm : s.pp (A / 4096) = 0
          · have hL := r_leaf_no wr F u q pl s v f vm (H.out.below hI.out.2.1) (x / 4096) (by omega) (by rw [hxp]; exact hm)
            have hbf : b = false := by
              rcases hbc : b with _ | _
              · rfl
              · have := HBB.out.2 hbc k hlt
                rw [← hA] at this
                simp [pgOk, hm] at this
            clear hA hx hxA hxp hxq hz
            go_wp2_with (first
              | (go_at_call 45; refine hL.mono ?_; rintro r w1 ⟨⟨y1, y2, rfl⟩, hb1⟩; have HB1 : Hid (Below w.heap.size w w1) := hI.out.2.1.trans (hb1.mono hI.out.2.1.size); have HA1 : Hid (w1.heap[w.heap.size]? = some (.cells (a8c g) 140 (0, 0))) := (hb1.block _ (lt_of_block hI.out.1)).trans hI.out.1; clear hb1)
              | ((with_reducible refine wpL_load8 w.heap.size ?_ g HA1.out ?_); rfl)
              | ((with_reducible refine wpL_store8 w.heap.size ?_ g g ?_ HA1.out ?_); rfl; rfl))
            exact bodyPost_ret_by (results_pair (fn := Try.f64) rfl _ _ w.heap.size 140 _ (0, 0) _ rfl (setRow_heap _ w.heap.size _ _ _ _ HA1.out) u_a8u rfl (by rw [s_a8u, a8c_size]) _ rfl) rfl ⟨⟨_, by rw [hbf]; rfl, fun z => by rw [hbf] at z; cases z⟩, below_row HB1.out (Nat.le_refl _) _⟩
          · have hL := r_leaf_yes wr F u q pl s v f vm (H.out.below hI.out.2.1) (A / 4096) hm
            rw [hxq] at hL
            obtain ⟨k0', hkp, hfl, -⟩ := H.out.iv.ap _ hm
            have hpl := H.out.iv.pplt hm
            have eb := lE_b (t := s.pf (A / 4096)) (pm := s.pp (A / 4096)) b0 b1 (by omega) (.inr hkp)
            have hand := and_lo _ eb.1 eb.2 rt (by have := HR.out; omega)
            rw [lo_lE _ _ _ b0 (.inr hkp), if_neg hm] at hand
            by_cases hr : okR rt (s.pp (A / 4096)) = true
            · have hr' : (209 + s.pp (A / 4096)) &&& rt = rt := by simpa [okR] using hr
              rw [hr'] at hand
              have hnu := c_number _ eb.1 eb.2
              rw [num_l _ _ _ hkp] at hnu
              have hst := hid (st_step (s := s) (rt := rt) (v := v) (a := a) (n := n) hI.out.2.2.1 hA hk8 (by unfold pgOk; rw [hr]; simp [hm]) (x := (v.b / 4096 + s.pf (A / 4096)) * 4096 + x % 4096) (by unfold po; rw [hxA]; omega))
              have hpos : Hid (a < 549755813888) := by show _ < _; omega
              have hnm : IntKind.u64.wrap (IntKind.u64.wrap ((v.b / 4096 + s.pf (A / 4096)) * 4096) + x % 4096) = (v.b / 4096 + s.pf (A / 4096)) * 4096 + x % 4096 := by rw [IntKind.wrap_u64, IntKind.wrap_u64]; omega
              have HEV : Hid (lE v.b (s.pf (A / 4096)) (s.pp (A / 4096)) = lE v.b (s.pf ((a.toNat + (k + 1) - 1) / 4096)) (s.pp ((a.toNat + (k + 1) - 1) / 4096))) := by rw [show a.toNat + (k + 1) - 1 = A by omega]; exact hid rfl
              generalize lE v.b (s.pf (A / 4096)) (s.pp (A / 4096)) = e2 at *
              generalize hpq : (v.b / 4096 + s.pf (A / 4096)) = pq at *
              clear hr hr' hkp hfl hpl k0' hpq
              clear hA hx hxA hxp hxq hz
              go_wp2_with (first
                | (go_at_call 45; refine hL.mono ?_; rintro r w1 ⟨rfl, hb1⟩; have HB1 : Hid (Below w.heap.size w w1) := hI.out.2.1.trans (hb1.mono hI.out.2.1.size); have HA1 : Hid (w1.heap[w.heap.size]? = some (.cells (a8c g) 140 (0, 0))) := (hb1.block _ (lt_of_block hI.out.1)).trans hI.out.1; have c8 : w1.cell? ⟨w.heap.size, k, none⟩ = some (.int .u64 (g k)) := (cell_of_row w1 _ k _ _ _ HA1.out).trans (a8c_at g k hk8); have y8 : w1.frozen? ⟨w.heap.size, k, none⟩ = false := frozen_of_row w1 _ k _ _ HA1.out; clear hb1)
                | (go_at_call 63; refine (hnu _).mono ?_; rintro r w2 ⟨rfl, hw'⟩; obtain rfl := hw'.symm))
              go_roundw
              case rel => exact ⟨k + 1, e2, _, by omega, by go_num, by first | exact congrArg (Value.int .u64) HX1.out | go_num, rfl, setRowB w1 w.heap.size k _ _ _ _ HA1.out (a8c_set g k _ hk8), HB1.out.setCell (p := ⟨w.heap.size, k, none⟩) (Nat.le_refl _) _, hst.out, fun _ => ⟨hpos.out, HEV.out⟩⟩
              case measure => first | (simp [intOf]; done) | (simp [intOf]; omega)
            · have hbf : b = false := by
                rcases hbc : b with _ | _
                · rfl
                · have := HBB.out.2 hbc k hlt
                  rw [← hA] at this
                  simp [pgOk] at this
                  exact absurd this.2 hr
              have hr' : ¬ (((209 + s.pp (A / 4096)) &&& rt : Nat) : Int) = (rt : Int) := fun z => hr (by unfold okR; exact decide_eq_true (by omega))
              generalize lE v.b (s.pf (A / 4096)) (s.pp (A / 4096)) = e2 at *
              clear hA hx hxA hxp hxq hz
              go_wp2_with (first
                | (go_at_call 45; refine hL.mono ?_; rintro r w1 ⟨rfl, hb1⟩; have HB1 : Hid (Below w.heap.size w w1) := hI.out.2.1.trans (hb1.mono hI.out.2.1.size); have HA1 : Hid (w1.heap[w.heap.size]? = some (.cells (a8c g) 140 (0, 0))) := (hb1.block _ (lt_of_block hI.out.1)).trans hI.out.1; clear hb1)
                | ((with_reducible refine wpL_load8 w.heap.size ?_ g HA1.out ?_); rfl)
                | ((with_reducible refine wpL_store8 w.heap.size ?_ g g ?_ HA1.out ?_); rfl; rfl))
              exact bodyPost_ret_by (results_pair (fn := Try.f64) rfl _ _ w.heap.size 140 _ (0, 0) _ rfl (setRow_heap _ w.heap.size _ _ _ _ HA1.out) u_a8u rfl (by rw [s_a8u, a8c_size]) _ rfl) rfl ⟨⟨_, by rw [hbf]; rfl, fun z => by rw [hbf] at z; cases z⟩, below_row HB1.out (Nat.le_refl _) _⟩
        · have hxb : (x % 4096 == 0) = false := by rw [beq_eq_false_iff_ne]; exact hxm
          have hev := (hI.out.2.2.2 hz).2
          have hpg := (hI.out.2.2.1 (k - 1) (by omega)).1
          rw [show (a.toNat + (k - 1)) / 4096 = A / 4096 by omega] at hpg
          rw [show (a.toNat + k - 1) / 4096 = A / 4096 by omega] at hev
          have hm : s.pp (A / 4096) ≠ 0 := fun z => by simp [pgOk, z] at hpg
          obtain ⟨k0', hkp, hfl, -⟩ := H.out.iv.ap _ hm
          have hpl := H.out.iv.pplt hm
          have eb := lE_b (t := s.pf (A / 4096)) (pm := s.pp (A / 4096)) b0 b1 (by omega) (.inr hkp)
          rw [← hev] at eb
          have hnu := c_number _ eb.1 eb.2
          rw [hev, num_l _ _ _ hkp, ← hev] at hnu
          have hst := hid (st_step (s := s) (rt := rt) (v := v) (a := a) (n := n) hI.out.2.2.1 hA hk8 hpg (x := (v.b / 4096 + s.pf (A / 4096)) * 4096 + x % 4096) (by unfold po; rw [hxA]; omega))
          have hpos : Hid (a < 549755813888) := (hI.out.2.2.2 hz).1
          have hnm : IntKind.u64.wrap (IntKind.u64.wrap ((v.b / 4096 + s.pf (A / 4096)) * 4096) + x % 4096) = (v.b / 4096 + s.pf (A / 4096)) * 4096 + x % 4096 := by rw [IntKind.wrap_u64, IntKind.wrap_u64]; omega
          have HEV : Hid (ev = lE v.b (s.pf ((a.toNat + (k + 1) - 1) / 4096)) (s.pp ((a.toNat + (k + 1) - 1) / 4096))) := by rw [show a.toNat + (k + 1) - 1 = A by omega]; exact hid hev
          have c8 : wr.cell? ⟨w.heap.size, k, none⟩ = some (.int .u64 (g k)) := (cell_of_row wr _ k _ _ _ hI.out.1).trans (a8c_at g k hk8)
          have y8 : wr.frozen? ⟨w.heap.size, k, none⟩ = false := frozen_of_row wr _ k _ _ hI.out.1
          generalize hpq : (v.b / 4096 + s.pf (A / 4096)) = pq at *
          clear hpg hkp hfl hpl k0' hev hpq
          clear hA hx hxA hxp hxq hz
          go_wp2_with (go_at_call 63; refine (hnu _).mono ?_; rintro r w2 ⟨rfl, hw'⟩; obtain rfl := hw'.symm)
          go_roundw
          case rel => exact ⟨k + 1, ev, _, by omega, by go_num, by first | exact congrArg (Value.int .u64) HX1.out | go_num, rfl, setRowB wr w.heap.size k _ _ _ _ hI.out.1 (a8c_set g k _ hk8), hI.out.2.1.setCell (p := ⟨w.heap.size, k, none⟩) (Nat.le_refl _) _, hst.out, fun _ => ⟨hpos.out, HEV.out⟩⟩
          case measure => first | (simp [intOf]; done) | (simp [intOf]; omega)
    · obtain rfl : k = n := by omega
      have hbt : b = true := HBB.out.1 fun j hj => (hI.out.2.2.1 j hj).1
      generalize (a + (k : Int)) % 18446744073709551616 = x
      go_wp2_with (first
        | ((with_reducible refine wpL_load8 w.heap.size ?_ g hI.out.1 ?_); rfl)
        | ((with_reducible refine wpL_store8 w.heap.size ?_ g g ?_ hI.out.1 ?_); rfl; rfl))
      exact bodyPost_ret_by (results_pair (fn := Try.f64) rfl _ _ w.heap.size 140 _ (0, 0) _ rfl (setRow_heap _ w.heap.size _ _ _ _ hI.out.1) u_a8u rfl (by rw [s_a8u, a8c_size]) _ rfl) rfl ⟨⟨g, by rw [hbt]; rfl, fun _ => ⟨(hI.out.2.2.2 (by omega)).1, fun j hj => (hI.out.2.2.1 j hj).2⟩⟩, below_row hI.out.2.1 (Nat.le_refl _) _⟩
end Go.Proofs.Ytekkjalfiogenaa
