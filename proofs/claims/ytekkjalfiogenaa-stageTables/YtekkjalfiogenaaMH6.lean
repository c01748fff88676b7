/- A guest's memory: Write. -/
import Derived.Test.YtekkjalfiogenaaSJ
import Derived.Test.YtekkjalfiogenaaMH1
import Derived.Test.YtekkjalfiogenaaMC5
import Derived.Deep.DeepCutAuto
namespace Go.Proofs.Ytekkjalfiogenaa
open Go.RowKit
open C (Only hid Mem Still ret_bool ret_int put byt rd8 lo and_lo nu)
set_option linter.unusedVariables false
set_option maxRecDepth 100000

/-- the memory when the first i bytes of x have been written -/
def wG (s : SV) (f : Nat → Int) (a : Nat) (x : Int) : Nat → Nat → Int
  | 0 => f
  | i + 1 => put (wG s f a x i) (po s (a + i)) 1 (byt (x / 2 ^ (8 * i)))
/-- a byte is written into a pool's memory -/
theorem x_poke (w : World) (F : Nat → Prop) (p : Nat) (v : PV) (f : Nat → Int) (hp : Pool w F p v f) (off : Nat) (hl : off + 1 ≤ 4096 * v.n) (a : Int) (ha : a = v.b + off) (y : Int) (y0 : 0 ≤ y) (y1 : y < 18446744073709551616) :
    Calls Try.prog 65 #[.pointer (some ⟨v.m, 0, none⟩), .int .u64 a, .int .i64 1, .int .u64 y] w fun r w' => r = .returned (.bool true) ∧ ∃ F', Pool w' F' p v (put f off 1 (byt y)) ∧ Only F w w' ∧ ∀ k, F' k → F k ∨ w.heap.size ≤ k := by
  obtain ⟨S, hm, hS, hback⟩ := hp.open
  refine (C.c_Write w S v.m v.b v.n f hm off 1 hl (by decide) a ha y y0 y1).mono ?_
  rintro r w' ⟨S', rfl, h1, h2, h3⟩
  exact ⟨rfl, hback w' S' _ h1 h2 h3⟩
theorem po_lt {s : SV} {v : PV} {f : Nat → Int} (hi : Inv s v f) {a : Nat} (h : s.pp (a / 4096) ≠ 0) : po s a + 1 ≤ 4096 * v.n := by
  have := (hi.ap _ h).2.2.1
  unfold po; omega
theorem pg_pp {s : SV} {rt p : Nat} (h : pgOk s rt p = true) : s.pp p ≠ 0 := fun e => by simp [pgOk, e] at h
theorem Inv.poke {s : SV} {v : PV} {f : Nat → Int} (hi : Inv s v f) {a : Nat} (h : s.pp (a / 4096) ≠ 0) (y : Int) : Inv s v (put f (po s a) 1 (byt y)) := by
  refine hi.keep fun x hx j hj => C.put_out _ _ _ _ _ ?_
  have h1 := (hi.ap _ h).2.2.2
  have h2 := (hi.tr x hx).2.1
  have : x ≠ s.pf (a / 4096) := fun e => h1 (e ▸ h2)
  unfold po; omega
theorem t_write_no (w : World) (q : Nat) (a sz x : Int) (hp : Calls Try.prog 64 #[.pointer (some ⟨q, 0, none⟩), .int .u64 a, .int .i64 sz, .int .u64 4] w fun r w' => (∃ h, r = .returned (.tuple #[.agg (a8c h), .bool false])) ∧ Below w.heap.size w w') :
    Calls Try.prog 19 #[.pointer (some ⟨q, 0, none⟩), .int .u64 a, .int .i64 sz, .int .u64 x] w fun r w' => r = .returned (.bool false) ∧ Below w.heap.size w w' := by
  go_enter Try.func19, Try.ntmps19
  go_wp2_with (first
    | (go_at_call 64; refine hp.mono ?_; rintro r w1 ⟨⟨h, rfl⟩, hb⟩; have HB := hid hb; clear hb)
    | ((with_reducible refine wpL_store8 w1.heap.size ?_ (fun _ => 0) h ?_ (heap_alloc_new w1 _) ?_); rfl; rfl))
  go_ret
  exact ⟨rfl, below_row (HB.out.alloc HB.out.size _) HB.out.size _⟩
set_option maxHeartbeats 2000000 in
theorem x_Write (w : World) (F : Nat → Prop) (u : Value) (q pl : Nat) (s : SV) (v : PV) (f : Nat → Int) (vm : Int) (h : SPs w F u q pl s v f vm) (a : Int) (a0 : 0 ≤ a) (a1 : a < 18446744073709551616) (n : Nat) (hn : wdt n = true) (x : Int) (x0 : 0 ≤ x) (x1 : x < 18446744073709551616) (hb : ∀ j, j < n → pgOk s 4 ((a.toNat + j) / 4096) = true) :
    Calls Try.prog 19 #[.pointer (some ⟨q, 0, none⟩), .int .u64 a, .int .i64 n, .int .u64 x] w fun r w' => r = .returned (.bool true) ∧ ∃ F', SPs w' F' u q pl s v (wG s f a.toNat x n) vm ∧ Only F w w' ∧ ∀ k, F' k → F k ∨ w.heap.size ≤ k := by
  have hp := x_places w F u q pl s v f vm h a a0 a1 n hn 4 (.inr rfl) true ⟨fun _ => rfl, fun _ => hb⟩
  have hn' : n ≤ 8 ∧ 0 < n := by simp [wdt] at hn; omega
  have H := hid h
  have HBB := hid hb
  clear h hn hb
  go_enter Try.func19, Try.ntmps19
  go_upto_region 2 with (first
    | (go_at_call 64; refine hp.mono ?_; rintro r w1 ⟨⟨g, rfl, hg⟩, hb⟩; have HG := hid hg; have HB1 := hid hb; clear hb hg)
    | ((with_reducible refine wpL_store8 w1.heap.size ?_ (fun _ => 0) g ?_ (heap_alloc_new w1 _) ?_); rfl; rfl))
  obtain ⟨wb, hwb⟩ : ∃ wb, (w1.alloc (.cells (a8c fun _ => 0) 140)).setRow w1.heap.size (a8c g) = wb := ⟨_, rfl⟩
  have HA : Hid (wb.heap[w1.heap.size]? = some (.cells (a8c g) 140 (0, 0))) := hwb ▸ setRow_heap _ _ _ _ _ _ (heap_alloc_new w1 _)
  have HB : Hid (Below w.heap.size w wb) := hwb ▸ below_row (HB1.out.alloc HB1.out.size _) HB1.out.size _
  rw [a8c_0] at hwb
  try rw [hwb]
  clear hwb hp
  have hlen : (n : Int) ≤ 8 := by omega
  go_wp2_with fail
  go_loopw [11, 12, 25] (fun i y c wr => ∃ (k : Nat) (F' : Nat → Prop), k ≤ n ∧ c = .int .i64 k ∧ Hid (SPs wr F' u q pl s v (wG s f a.toNat x k) vm ∧ wr.heap[w1.heap.size]? = some (.cells (a8c g) 140 (0, 0)) ∧ Only F w wr ∧ ∀ k, F' k → F k ∨ w.heap.size ≤ k)) (fun i y c _ => n - (intOf c).toNat)
  case atStart => exact ⟨0, F, by omega, rfl, H.out.below HB.out, HA.out, .ofBelow HB.out, fun _ z => .inl z⟩
  case round =>
    obtain ⟨k, F', hk, rfl, hI⟩ := hrel
    by_cases hlt : k < n
    · have c8 : wr.cell? ⟨w1.heap.size, k, none⟩ = some (.int .u64 (g k)) := (cell_of_row wr _ k _ _ _ hI.out.2.1).trans (a8c_at g k (by omega))
      have d0 := hI.out.1.sq.c0
      go_wp2_with fail
      have hpp := pg_pp (HBB.out k hlt)
      have hiv := hid (hI.out.1.iv.poke (a := a.toNat + k) hpp (x / 2 ^ (8 * k)))
      have hgk := (HG.out (by trivial)).2 k hlt
      have hpo := po_lt hI.out.1.iv hpp
      have y0 : 0 ≤ x / 2 ^ (8 * k) := Int.ediv_nonneg x0 (by exact_mod_cast Nat.zero_le (2 ^ (8 * k)))
      have y1 : x / 2 ^ (8 * k) < 18446744073709551616 := by
        have h2 : (0 : Int) < 2 ^ (8 * k) := by exact_mod_cast Nat.two_pow_pos (8 * k)
        have := Int.ediv_le_self (2 ^ (8 * k)) x0
        omega
      have HG1 := hid hgk
      have HPO := hid hpo
      clear hpp hgk hpo
      refine wp_region_last_lit (by simp) (by kernel_rfl) (by kernel_rfl) (by kernel_rfl) ?_
      simp only [List.dropLast, List.getLast]
      repeat (go_big_quiet_step (fail))
      refine wpQuiet_nil ?_
      intro _ hwq
      obtain ⟨nq, hwq⟩ := hwq
      subst hwq
      have hW := x_poke (wr.drewN nq) F' pl v (wG s f a.toNat x k) (hI.out.1.pl.dn nq) (po s (a.toNat + k)) HPO.out (g k) HG1.out (x / 2 ^ (8 * k)) y0 y1
      go_wp2_with (go_at_call 65; refine hW.mono ?_; rintro r w3 ⟨rfl, F3, h1, h2, h3⟩; have H1 := hid h1; have H2 := hid (only_dn h2); have H3 := hid h3; clear h1 h2 h3)
      go_roundw
      case rel =>
        have hz := hI.out.2.2.1.size
        exact ⟨k + 1, F3, by omega, by go_num, hI.out.1.turn H1.out H2.out rfl rfl hiv.out, H2.out.old hI.out.2.1 (hI.out.1.pl.ne hI.out.2.1 rfl), hI.out.2.2.1.trans' H2.out fun i hi z => (hI.out.2.2.2 i z).resolve_right (by omega), fun i z => (H3.out i z).elim (hI.out.2.2.2 i) fun y => .inr (Nat.le_trans hz y)⟩
      case measure => first | (simp [intOf]; done) | (simp [intOf]; omega)
    · obtain rfl : k = n := by omega
      go_wp2_with fail
      go_ret
      exact ⟨rfl, F', hI.out.1, hI.out.2.2.1, hI.out.2.2.2⟩
end Go.Proofs.Ytekkjalfiogenaa
namespace Go.Proofs.Ytekkjalfiogenaa
open Go.RowKit
open C (Only hid Mem RMem Still ret_bool ret_int put)
set_option linter.unusedVariables false
set_option maxRecDepth 100000

/-- a row of n cells -/
def rg (g : Nat → Value) (n : Nat) : List Value := (List.range n).map g
theorem rg_at (g : Nat → Value) (n j : Nat) (h : j < n) : (rg g n)[j]? = some (g j) := by unfold rg; rw [List.getElem?_map, List.getElem?_range h]; rfl
theorem rg_set (g g' : Nat → Value) (n k : Nat) (x : Value) (hx : g' k = x) (h : ∀ j, j ≠ k → g' j = g j) : (rg g n).toArray.setIfInBounds k x = (rg g' n).toArray := by
  apply Array.ext'
  simp only [Array.toList_setIfInBounds]
  apply List.ext_getElem?
  intro j
  have hl : ∀ g, (rg g n).length = n := fun g => by simp [rg]
  rw [List.getElem?_set]
  rcases Nat.lt_or_ge j n with q | q
  · rw [rg_at _ _ _ q, hl, rg_at _ _ _ q]
    by_cases e : k = j
    · subst e; rw [if_pos rfl, if_pos q, hx]
    · rw [if_neg e, h j (fun z => e z.symm)]
  · rw [List.getElem?_eq_none (by rw [hl]; exact q), List.getElem?_eq_none (by rw [hl]; exact q), hl]
    split
    · rw [if_neg (by omega)]
    · rfl
def owv (o : Nat → Int) : Nat → Value := fun i => .int .i64 (o i)
/-- who a bit is for -/
def wh (k : Nat) : Int := if k = 8 then 63 else (k : Int)
/-- what is waited for, as a list -/
def lsN (h s : Nat) : List Nat := (8 :: List.range h).filter fun k => s / 2 ^ k % 2 == 1
def orL (l : List Nat) : Nat := l.foldl (fun a k => a ||| bkN k) 0
theorem orL_0 : ∀ h : Fin 9, 0 < (h : Nat) → ∀ s : Fin 512, (s : Nat) &&& msk h = s → orL (lsN h s) = encN s ∧ ((lsN h s).length = 0 ↔ (s : Nat) = 0) ∧ (lsN h s).length ≤ 9 := by decide +kernel
theorem ls_msk0 : ∀ h : Fin 9, 0 < (h : Nat) → lsN h (msk h) = 8 :: List.range h := by decide +kernel
theorem bq_rm0 : ∀ s : Fin 512, ∀ a b : Fin 9, (rm a s / 2 ^ (b : Nat) % 2 == 1) = ((s : Nat) / 2 ^ (b : Nat) % 2 == 1 && decide (b ≠ a)) := by decide +kernel
theorem ls_rm {h s k : Nat} (hs : s < 512) (hk : k < 9) (h8 : h ≤ 8) : lsN h (rm k s) = (lsN h s).filter (fun j => decide (j ≠ k)) := by
  unfold lsN
  rw [List.filter_filter]
  apply List.filter_congr
  intro j hj
  have hj9 : j < 9 := by
    simp at hj
    omega
  have := bq_rm0 ⟨s, hs⟩ ⟨k, hk⟩ ⟨j, hj9⟩
  rw [show (rm k s / 2 ^ j % 2 == 1) = _ from this, Bool.and_comm]
  congr 1
  rw [Bool.eq_iff_iff]; simp [Fin.ext_iff]
theorem ls_mem {h s j : Nat} (h8 : h ≤ 8) (hj : j ∈ lsN h s) : j < 9 := by
  unfold lsN at hj
  have := (List.mem_filter.1 hj).1
  simp at this
  omega
/-- a list that waits, as it stands -/
def Ls (w : World) (go : Nat) (u : Value) (l : List Nat) : Prop := ∃ b c cur, u = .slice (some ⟨b, 0, none⟩) l.length c ∧ b ≠ go ∧ w.heap[b]? = some (.cells cur 3 (0, 0)) ∧ ∀ t (ht : t < l.length), cur[t]? = some (.int .i64 (wh l[t]))
def dcs (v : PV) (dm go gw : Nat) : Array Value := #[.pointer (some ⟨dm, 0, none⟩), .int .i64 v.r, .int .i64 v.h, .slice (some ⟨go, 0, none⟩) v.n v.n, .slice (some ⟨gw, 0, none⟩) v.n v.n]
structure DL (w : World) (q go gw dm : Nat) (T : Nat → Prop) (L : Nat → Value) (v : PV) (f : Nat → Int) : Prop where
  top : w.heap[q]? = some (.cells (dcs v dm go gw) 123 (0, 0))
  tab : w.heap[go]? = some (.cells (rg (owv v.o) v.n).toArray 3 (0, 0))
  wts : w.heap[gw]? = some (.cells (rg L v.n).toArray 58 (0, 0))
  mem : RMem w T dm v.b v.n f
  sl : ∀ i, i < v.n → ∃ ad l c, L i = .slice ad l c
  ls : ∀ i, i < v.n → v.s i ≠ 0 → Ls w go (L i) (lsN v.h (v.s i))
/-- the blocks of lists that wait -/
def Lb (v : PV) (L : Nat → Value) (x : Nat) : Prop := ∃ i, i < v.n ∧ v.s i ≠ 0 ∧ ∃ a l c, L i = .slice (some a) l c ∧ a.block = x
/-- the document's pool; G: its blocks -/
def DPool (w : World) (G : Nat → Prop) (q dm : Nat) (v : PV) (f : Nat → Int) : Prop := ∃ go gw T L, DL w q go gw dm T L v f ∧ v.Ok ∧ ∀ x, G x ↔ x = q ∨ x = go ∨ x = gw ∨ Lb v L x ∨ T x
theorem rmem_typ {w : World} {T : Nat → Prop} {q : Nat} {bs : Int} {n : Nat} {f : Nat → Int} (h : RMem w T q bs n f) {x : Nat} {c : Array Value} {t : TypeId} {fr : Nat × Nat} (hx : w.heap[x]? = some (.cells c t fr)) (h1 : t ≠ 46) (h2 : t ≠ 124) (h3 : t ≠ 5) : ¬ T x := by
  obtain ⟨g, hs, hr, rfl, hS⟩ := h
  intro z
  rcases (hS x).1 z with rfl | rfl | ⟨i, c', hi⟩
  · have := hr.top; rw [hx] at this; simp at this; exact h1 this.2.1
  · have := hr.tab; rw [hx] at this; simp at this; exact h2 this.2.1
  · obtain ⟨_, cur, hg, _⟩ := hr.full i x c' hi
    rw [hx] at hg; simp at hg; exact h3 hg.2.1
section
variable {w w' : World} {q go gw dm : Nat} {T : Nat → Prop} {L : Nat → Value} {v : PV} {f : Nat → Int}
theorem DL.only (h : DL w q go gw dm T L v f) {U : Nat → Prop} (ho : Only U w w') (h1 : ¬ U q) (h2 : ¬ U go) (h3 : ¬ U gw) (h4 : ∀ x, Lb v L x → ¬ U x) (h5 : ∀ x, T x → ¬ U x) : DL w' q go gw dm T L v f :=
  ⟨ho.old h.top h1, ho.old h.tab h2, ho.old h.wts h3, h.mem.only ho h5, h.sl, fun i hi hs => by
    obtain ⟨b, c, cur, e1, e2, e3, e4⟩ := h.ls i hi hs
    exact ⟨b, c, cur, e1, e2, ho.old e3 (h4 b ⟨i, hi, hs, _, _, _, e1, rfl⟩), e4⟩⟩
theorem DL.below (h : DL w q go gw dm T L v f) (hb : Below w.heap.size w w') : DL w' q go gw dm T L v f :=
  h.only (U := fun _ => False) (.ofBelow hb) (fun q => q) (fun q => q) (fun q => q) (fun _ _ q => q) fun _ _ q => q
theorem DL.c0 (h : DL w q go gw dm T L v f) : w.cell? ⟨q, 0, none⟩ = some (.pointer (some ⟨dm, 0, none⟩)) := cell_of_row w q 0 _ _ _ h.top
theorem DL.c1 (h : DL w q go gw dm T L v f) : w.cell? ⟨q, 1, none⟩ = some (.int .i64 v.r) := cell_of_row w q 1 _ _ _ h.top
theorem DL.c2 (h : DL w q go gw dm T L v f) : w.cell? ⟨q, 2, none⟩ = some (.int .i64 v.h) := cell_of_row w q 2 _ _ _ h.top
theorem DL.c3 (h : DL w q go gw dm T L v f) : w.cell? ⟨q, 3, none⟩ = some (.slice (some ⟨go, 0, none⟩) v.n v.n) := cell_of_row w q 3 _ _ _ h.top
theorem DL.c4 (h : DL w q go gw dm T L v f) : w.cell? ⟨q, 4, none⟩ = some (.slice (some ⟨gw, 0, none⟩) v.n v.n) := cell_of_row w q 4 _ _ _ h.top
theorem DL.co (h : DL w q go gw dm T L v f) (i : Nat) (hi : i < v.n) : w.cell? ⟨go, i, none⟩ = some (.int .i64 (v.o i)) ∧ w.frozen? ⟨go, i, none⟩ = false := by
  refine ⟨?_, frozen_of_row _ _ i _ _ h.tab⟩
  rw [cell_of_row w go _ _ _ _ h.tab]
  have := rg_at (owv v.o) v.n i hi
  simpa [owv] using this
theorem DL.cw (h : DL w q go gw dm T L v f) (i : Nat) (hi : i < v.n) : w.cell? ⟨gw, i, none⟩ = some (L i) ∧ w.frozen? ⟨gw, i, none⟩ = false := by
  refine ⟨?_, frozen_of_row _ _ i _ _ h.wts⟩
  rw [cell_of_row w gw _ _ _ _ h.wts]
  have := rg_at L v.n i hi
  simpa using this
/-- blocks that are unlike -/
theorem DL.ne (h : DL w q go gw dm T L v f) : q ≠ go ∧ q ≠ gw ∧ go ≠ gw ∧ ¬ T q ∧ ¬ T go ∧ ¬ T gw := by
  refine ⟨fun e => ?_, fun e => ?_, fun e => ?_, rmem_typ h.mem h.top (by decide) (by decide) (by decide), rmem_typ h.mem h.tab (by decide) (by decide) (by decide), rmem_typ h.mem h.wts (by decide) (by decide) (by decide)⟩
  · subst e; have := h.top; rw [h.tab] at this; simp at this
  · subst e; have := h.top; rw [h.wts] at this; simp at this
  · subst e; have := h.tab; rw [h.wts] at this; simp at this
theorem DL.lb (h : DL w q go gw dm T L v f) {x : Nat} (hx : Lb v L x) : x < w.heap.size ∧ x ≠ q ∧ x ≠ go ∧ x ≠ gw ∧ ¬ T x := by
  obtain ⟨i, hi, hs, a, l, c, e, rfl⟩ := hx
  obtain ⟨b, c', cur, e1, e2, e3, e4⟩ := h.ls i hi hs
  rw [e] at e1
  cases e1
  refine ⟨lt_of_block e3, fun (z : b = q) => ?_, e2, fun (z : b = gw) => ?_, rmem_typ h.mem e3 (by decide) (by decide) (by decide)⟩
  · rw [z] at e3; have := h.top; rw [e3] at this; simp at this
  · rw [z] at e3; have := h.wts; rw [e3] at this; simp at this
theorem DPool.lt {G : Nat → Prop} (h : DPool w G q dm v f) {x : Nat} (hx : G x) : x < w.heap.size := by
  obtain ⟨go, gw, T, L, h, _, hG⟩ := h
  rcases (hG x).1 hx with rfl | rfl | rfl | z | z
  · exact lt_of_block h.top
  · exact lt_of_block h.tab
  · exact lt_of_block h.wts
  · exact (h.lb z).1
  · exact h.mem.lt z
theorem DPool.only {G : Nat → Prop} (h : DPool w G q dm v f) {U : Nat → Prop} (ho : Only U w w') (hd : ∀ x, G x → ¬ U x) : DPool w' G q dm v f := by
  obtain ⟨go, gw, T, L, h, ok, hG⟩ := h
  exact ⟨go, gw, T, L, h.only ho (hd _ ((hG _).2 (.inl rfl))) (hd _ ((hG _).2 (.inr (.inl rfl)))) (hd _ ((hG _).2 (.inr (.inr (.inl rfl))))) (fun x hx => hd _ ((hG _).2 (.inr (.inr (.inr (.inl hx)))))) (fun x hx => hd _ ((hG _).2 (.inr (.inr (.inr (.inr hx)))))), ok, hG⟩
end
section
variable (w : World) (q go gw dm : Nat) (T : Nat → Prop) (L : Nat → Value) (v : PV) (f : Nat → Int) (h : DL w q go gw dm T L v f) (ok : v.Ok)
include h ok
theorem z_Owner (x : Int) : Calls Try.prog 13 #[.pointer (some ⟨q, 0, none⟩), .int .i64 x] w fun e w' => e = .returned (.int .i64 (ownF v x)) ∧ w' = w := by
  have c3 := h.c3
  have n1 := ok.n1
  unfold ownF
  cases hx : hasF v x
  · clear h
    simp [hasF] at hx
    go_enter Try.func13, Try.ntmps13
    by_cases h1 : x < 0
    · go_wp2; go_ret; exact ⟨rfl, rfl⟩
    · have h2 : x ≥ (v.n : Int) := by omega
      go_wp2; go_ret; exact ⟨rfl, rfl⟩
  · have hx' : 0 ≤ x ∧ x < (v.n : Int) := by simpa [hasF] using hx
    obtain ⟨i, rfl⟩ := Int.eq_ofNat_of_zero_le hx'.1
    have c4 := (h.co i (by omega)).1
    clear h
    go_enter Try.func13, Try.ntmps13
    go_wp2
    go_ret; exact ⟨rfl, rfl⟩
theorem z_Count (x : Int) : Calls Try.prog 82 #[.pointer (some ⟨q, 0, none⟩), .int .i64 x] w fun e w' => e = .returned (.int .i64 (cnt v.o x v.n)) ∧ w' = w := by
  have c3 := h.c3
  have n1 := ok.n1
  have H := hid h
  clear h
  go_enter Try.func82, Try.ntmps82
  go_wp2
  go_loopw [5, 6] (fun c i wr => ∃ j : Nat, j ≤ v.n ∧ i = .int .i64 j ∧ c = .int .i64 (cnt v.o x j) ∧ wr = w) (fun c i _ => v.n - (intOf i).toNat)
  case atStart => exact ⟨0, by omega, rfl, rfl, rfl⟩
  case round =>
    obtain ⟨j, hj, rfl, rfl, hw⟩ := hrel
    obtain rfl := hw.symm
    have hc := cnt_le v.o x j
    by_cases hlt : j < v.n
    · have c4 := (H.out.co j hlt).1
      by_cases he : v.o j = x
      · have e1 : cnt v.o x (j + 1) = cnt v.o x j + 1 := by simp [cnt, he]
        subst he
        go_wp2
        go_roundw
        case rel => exact ⟨j + 1, by omega, by go_num, by rw [e1]; go_num, trivial⟩
        case measure => simp [intOf]; omega
      · have e1 : cnt v.o x (j + 1) = cnt v.o x j := by simp [cnt, he]
        go_wp2
        go_roundw
        case rel => exact ⟨j + 1, by omega, by go_num, by rw [e1], trivial⟩
        case measure => simp [intOf]; omega
    · obtain rfl : j = v.n := by omega
      go_wp2
      go_ret
      exact ⟨rfl, rfl⟩
end
end Go.Proofs.Ytekkjalfiogenaa
namespace Go.Proofs.Ytekkjalfiogenaa
open Go.RowKit
open C (Only hid Mem RMem Still ret_bool ret_int put)
set_option linter.unusedVariables false
set_option maxRecDepth 100000

section
variable {w w' : World} {q go gw dm : Nat} {T : Nat → Prop} {L : Nat → Value} {v : PV} {f : Nat → Int}
/-- the owners have turned -/
theorem DL.setO (h : DL w q go gw dm T L v f) (i : Nat) (x : Int) : DL (w.setCell ⟨go, i, none⟩ (.int .i64 x)) q go gw dm T L (v.own i x) f := by
  have ho := only_c w go i (.int .i64 x)
  have hn := h.ne
  refine ⟨ho.old h.top hn.1, setRowB w go i _ _ _ _ h.tab (rg_set _ _ _ _ _ (by unfold owv; rw [show (v.own i x).o i = x from upd_same _ _ _]) fun j hj => ?_), ho.old h.wts (fun e => hn.2.2.1 e.symm), h.mem.only ho fun y hy e => hn.2.2.2.2.1 (e ▸ hy), h.sl, fun j hj hs => ?_⟩
  · unfold owv; rw [show (v.own i x).o j = v.o j from upd_other _ _ _ _ hj]
  · obtain ⟨b, c, cur, e1, e2, e3, e4⟩ := h.ls j hj hs
    exact ⟨b, c, cur, e1, e2, ho.old e3 e2, e4⟩
end
theorem z_Take (w : World) (G : Nat → Prop) (q dm : Nat) (v : PV) (f : Nat → Int) (h : DPool w G q dm v f) (x : Int) :
    Calls Try.prog 40 #[.pointer (some ⟨q, 0, none⟩), .int .i64 x] w fun e w' => e = .returned (.tuple #[.int .i64 (tk v x).1, .int .i64 (tk v x).2.1]) ∧ DPool w' G q dm (tk v x).2.2 f ∧ Only G w w' := by
  obtain ⟨go, gw, T, L, hp, ok, hG⟩ := h
  have hok := ok.take x
  have H := hid hp
  have HG := hid hG
  have OK := hid hok
  have HO := hid ok
  have n1 := ok.n1
  have c3 := hp.c3
  clear hp hG hok ok
  cases hx : may x
  · have hx' : ¬ (x = -1 ∨ 1 ≤ x ∧ x ≤ 8) := by simpa [may] using hx
    have e1 : tk v x = (0, 1, v) := by unfold tk; rw [hx]; rfl
    have q1 : ¬ x = -1 := fun e => hx' (.inl e)
    rw [e1]
    go_enter Try.func40, Try.ntmps40
    by_cases q2 : x < 1
    · go_wp2
      go_ret2
      exact ⟨rfl, ⟨go, gw, T, L, H.out, HO.out, HG.out⟩, .refl w⟩
    · have q3 : x > 8 := by omega
      go_wp2
      go_ret2
      exact ⟨rfl, ⟨go, gw, T, L, H.out, HO.out, HG.out⟩, .refl w⟩
  · have hx' : x = -1 ∨ 1 ≤ x ∧ x ≤ 8 := by simpa [may] using hx
    rcases hx' with rfl | ⟨hx1, hx2⟩
    · go_enter Try.func40, Try.ntmps40
      go_wp2
      go_loopw [6] (fun i wr => ∃ j : Nat, j ≤ v.n ∧ i = .int .i64 j ∧ wr = w ∧ Hid (∀ a, a < j → v.o a ≠ 0)) (fun i _ => v.n - (intOf i).toNat)
      case atStart => exact ⟨0, by omega, rfl, rfl, fun a ha => by omega⟩
      case round =>
        obtain ⟨j, hj, rfl, hw, hn⟩ := hrel
        obtain rfl := hw.symm
        by_cases hlt : j < v.n
        · have c4 := (H.out.co j hlt).1
          have z4 := (H.out.co j hlt).2
          by_cases he : v.o j = 0
          · have e1 : tk v (-1) = ((j : Int), 0, v.own j (-1)) := by
              unfold tk
              rw [hx, ff_eq hlt he hn.out]
              simp [hlt]
            rw [e1] at OK
            rw [he] at c4
            have HP := hid (H.out.setO j (-1))
            go_wp2
            go_ret2
            exact ⟨rfl, ⟨go, gw, T, L, HP.out, OK.out, HG.out⟩, (only_c _ _ _ _).mono fun a _ e => (HG.out a).2 (.inr (.inl e))⟩
          · go_wp2
            go_roundw
            case rel => exact ⟨j + 1, by omega, by go_num, trivial, fun a ha => by
              rcases Nat.lt_or_ge a j with q | q
              · exact hn.out a q
              · obtain rfl : a = j := by omega
                exact he⟩
            case measure => simp [intOf]; omega
        · obtain rfl : j = v.n := by omega
          have e1 : tk v (-1) = (0, 10, v) := by
            unfold tk
            rw [hx, ff_none hn.out]
            simp
          go_wp2
          go_ret2
          exact ⟨rfl, ⟨go, gw, T, L, H.out, HO.out, HG.out⟩, .refl w⟩
    · go_enter Try.func40, Try.ntmps40
      go_wp2
      go_loopw [6] (fun i wr => ∃ j : Nat, j ≤ v.n ∧ i = .int .i64 j ∧ wr = w ∧ Hid (∀ a, a < j → v.o a ≠ 0)) (fun i _ => v.n - (intOf i).toNat)
      case atStart => exact ⟨0, by omega, rfl, rfl, fun a ha => by omega⟩
      case round =>
        obtain ⟨j, hj, rfl, hw, hn⟩ := hrel
        obtain rfl := hw.symm
        by_cases hlt : j < v.n
        · have c4 := (H.out.co j hlt).1
          have z4 := (H.out.co j hlt).2
          by_cases he : v.o j = 0
          · have e1 : tk v x = ((j : Int), 0, v.own j x) := by
              unfold tk
              rw [hx, ff_eq hlt he hn.out]
              simp [hlt]
            rw [e1] at OK
            rw [he] at c4
            have HP := hid (H.out.setO j x)
            go_wp2
            go_ret2
            exact ⟨rfl, ⟨go, gw, T, L, HP.out, OK.out, HG.out⟩, (only_c _ _ _ _).mono fun a _ e => (HG.out a).2 (.inr (.inl e))⟩
          · go_wp2
            go_roundw
            case rel => exact ⟨j + 1, by omega, by go_num, trivial, fun a ha => by
              rcases Nat.lt_or_ge a j with q | q
              · exact hn.out a q
              · obtain rfl : a = j := by omega
                exact he⟩
            case measure => simp [intOf]; omega
        · obtain rfl : j = v.n := by omega
          have e1 : tk v x = (0, 10, v) := by
            unfold tk
            rw [hx, ff_none hn.out]
            simp
          go_wp2
          go_ret2
          exact ⟨rfl, ⟨go, gw, T, L, H.out, HO.out, HG.out⟩, .refl w⟩
theorem orL_take (l : List Nat) (t : Nat) (ht : t < l.length) : orL (l.take (t + 1)) = orL (l.take t) ||| bkN l[t] := by
  unfold orL
  rw [List.take_succ_eq_append_getElem ht, List.foldl_append]
  rfl
theorem orL_lt (l : List Nat) : orL l < 18446744073709551616 := by
  have : ∀ (l : List Nat) (a : Nat), a < 2 ^ 64 → l.foldl (fun a k => a ||| bkN k) a < 2 ^ 64 := fun l => by
    induction l with
    | nil => intro a ha; exact ha
    | cons k l ih => intro a ha; exact ih _ (Nat.or_lt_two_pow ha (bk_lt k))
  exact this l 0 (by decide)
theorem wh_shl (k : Nat) (hk : k < 9) : IntKind.u64.wrap (2 ^ (wh k).toNat) = (bkN k : Int) := by
  have : ∀ k : Fin 9, IntKind.u64.wrap (2 ^ (wh k).toNat) = (bkN k : Int) := by decide +kernel
  exact this ⟨k, hk⟩
theorem wh_b (k : Nat) (hk : k < 9) : 0 ≤ wh k ∧ wh k ≤ 63 := by unfold wh; split <;> omega
end Go.Proofs.Ytekkjalfiogenaa
namespace Go.Proofs.Ytekkjalfiogenaa
open Go.RowKit
open C (Only hid Mem RMem Still ret_bool ret_int put)
set_option linter.unusedVariables false
set_option maxRecDepth 100000

theorem wait_self (v : PV) (i : Nat) (s : Nat) (h : v.s i = s) : v.wait i s = v := by
  subst h
  unfold PV.wait
  have : upd v.s i (v.s i) = v.s := by funext j; unfold upd; split <;> simp_all
  rw [this]
section
variable {w w' : World} {q go gw dm : Nat} {T : Nat → Prop} {L : Nat → Value} {v : PV} {f : Nat → Int}
/-- a list is laid for a frame -/
theorem DL.putL (h : DL w q go gw dm T L v f) (i : Nat) (u : Value) (hu : ∃ ad l c, u = .slice ad l c) (s : Nat) (hl : s ≠ 0 → Ls w go u (lsN v.h s)) : DL (w.setCell ⟨gw, i, none⟩ u) q go gw dm T (upd L i u) (v.wait i s) f := by
  have ho := only_c w gw i u
  have hn := h.ne
  refine ⟨ho.old h.top hn.2.1, ho.old h.tab hn.2.2.1, setRowB w gw i _ _ _ _ h.wts (rg_set _ _ _ _ _ (upd_same _ _ _) fun j hj => upd_other _ _ _ _ hj), h.mem.only ho fun y hy e => hn.2.2.2.2.2 (e ▸ hy), fun j hj => ?_, fun j hj hs => ?_⟩
  · unfold upd; split
    · exact hu
    · exact h.sl j hj
  · have key : ∀ u l, Ls w go u l → Ls (w.setCell ⟨gw, i, none⟩ (upd L i u i)) go u l ∧ ∀ x : Value, Ls (w.setCell ⟨gw, i, none⟩ x) go u l := fun u l => by
      rintro ⟨b, c, cur, e1, e2, e3, e4⟩
      have hb : b ≠ gw := fun z => by subst z; have := h.wts; rw [e3] at this; simp at this
      exact ⟨⟨b, c, cur, e1, e2, (only_c _ _ _ _).old e3 hb, e4⟩, fun x => ⟨b, c, cur, e1, e2, (only_c _ _ _ _).old e3 hb, e4⟩⟩
    by_cases z : j = i
    · subst z
      rw [show (v.wait j s).s j = s from upd_same _ _ _] at hs ⊢
      rw [upd_same]
      exact (key u _ (hl hs)).2 u
    · rw [show (v.wait i s).s j = v.s j from upd_other _ _ _ _ z] at hs ⊢
      rw [upd_other _ _ _ _ z]
      exact (key _ _ (h.ls j hj hs)).2 u
/-- what a frame waits for is a list that lies there already -/
theorem DL.waitL (h : DL w q go gw dm T L v f) (i : Nat) (s : Nat) (hl : s ≠ 0 → Ls w go (L i) (lsN v.h s)) : DL w q go gw dm T L (v.wait i s) f :=
  ⟨h.top, h.tab, h.wts, h.mem, h.sl, fun j hj hs => by
    by_cases z : j = i
    · subst z
      rw [show (v.wait j s).s j = s from upd_same _ _ _] at hs ⊢
      exact hl hs
    · rw [show (v.wait i s).s j = v.s j from upd_other _ _ _ _ z] at hs ⊢
      exact h.ls j hj hs⟩
end
def ivs (l : List Nat) : List Value := l.map fun k => .int .i64 (wh k)
theorem own_ls {w : World} {base go : Nat} {u : Value} {l : List Nat} (h : w.ownsRow base 3 1 u l.length (ivs l)) (hg : go < base) (hl : l ≠ []) : Ls w go u l := by
  obtain ⟨b, c, cur, e1, e2, e3, e4, e5⟩ := C.own_some h (by cases l; exact absurd rfl hl; simp)
  refine ⟨b, c, cur, e1, by omega, e3, fun t ht => ?_⟩
  have h5 : (ivs l)[t]? = some (.int .i64 (wh l[t])) := by simp [ivs, ht]
  rw [← e5, List.getElem?_take_of_lt ht] at h5
  simpa using h5
theorem info_int : (Try.prog.info? 3).map (fun i => (i.zero, i.size, i.bytes)) = some (some (.int .i64 0), 1, 8) := by kernel_rfl
theorem info_sint : (Try.prog.info? 58).map (fun i => (i.zero, i.size, i.bytes)) = some (some (.slice none 0 0), 1, 24) := by kernel_rfl
theorem u_sint : Try.prog.underlying 58 = some (.slice 3) := by kernel_rfl
theorem u_ssint : Try.prog.underlying 121 = some (.slice 58) := by kernel_rfl
theorem run_mkO (w : World) (n : Nat) (hn : n ≤ 1024) : (Instr.makeSlice 58 (.int .i64 (n : Int)) (.int .i64 (n : Int))).run Try.prog w = .ok (.slice (some ⟨w.heap.size, 0, none⟩) n n) (w.alloc (.cells (rg (owv fun _ => 0) n).toArray 3)) := by
  obtain ⟨i, hi1, hz, hs, hb⟩ := info_parts info_int
  have hr := run_make (P := Try.prog) w 58 3 i _ u_sint hi1 hz .i64 .i64 n n (by omega) (by omega) (by rw [hb]; omega) (by omega)
  have hcs : madeCells (Value.int .i64 0).cells ((n : Int).toNat * i.size) = (rg (owv fun _ => 0) n).toArray := by
    rw [hs]
    apply Array.ext'
    simp only [rg, Value.cells, Int.toNat_natCast, Nat.mul_one, toList_madeCells_one]
    rw [show (owv fun _ => 0) = fun _ => Value.int .i64 0 from rfl, List.map_const', List.length_range]
  rw [hcs] at hr
  simpa using hr
theorem run_mkW (w : World) (n : Nat) (hn : n ≤ 1024) : (Instr.makeSlice 121 (.int .i64 (n : Int)) (.int .i64 (n : Int))).run Try.prog w = .ok (.slice (some ⟨w.heap.size, 0, none⟩) n n) (w.alloc (.cells (rg (fun _ => .slice none 0 0) n).toArray 58)) := by
  obtain ⟨i, hi1, hz, hs, hb⟩ := info_parts info_sint
  have hr := run_make (P := Try.prog) w 121 58 i _ u_ssint hi1 hz .i64 .i64 n n (by omega) (by omega) (by rw [hb]; omega) (by omega)
  have hcs : madeCells (Value.slice none 0 0).cells ((n : Int).toNat * i.size) = (rg (fun _ => .slice none 0 0) n).toArray := by
    rw [hs]
    apply Array.ext'
    simp [rg, Value.cells, toList_madeCells_one, List.map_const']
  rw [hcs] at hr
  simpa using hr
theorem z_New_bad (bs : Int) (w : World) (S : Nat → Prop) (m n : Nat) (f : Nat → Int) (h : RMem w S m bs n f) (r hh : Int) (hb : newOk n r hh = false) :
    Calls Try.prog 29 #[.pointer (some ⟨m, 0, none⟩), .int .i64 r, .int .i64 hh] w fun e w' => e = .returned (.tuple #[.pointer none, .int .i64 1]) ∧ w' = w := by
  obtain ⟨g, hs, hr, rfl, hS⟩ := h
  have c1 := hr.cell1
  have l1 := hr.len1
  clear hr hS
  simp [newOk] at hb
  go_enter Try.func29, Try.ntmps29
  by_cases h1 : r < 0
  · go_wp2; go_ret2; exact ⟨rfl, rfl⟩
  · by_cases h2 : r > (hs.length : Int)
    · go_wp2; go_ret2; exact ⟨rfl, rfl⟩
    · by_cases h3 : hh < 1
      · go_wp2; go_ret2; exact ⟨rfl, rfl⟩
      · have h4 : hh > 8 := by omega
        go_wp2; go_ret2; exact ⟨rfl, rfl⟩
theorem vj_self (m : Nat) (bs : Int) (r h n : Nat) (hr : r ≤ n) : ∀ i, (vj m bs r h n r).o i = (v0 m bs r h n).o i := fun i => by
  show (if i < r then (if i < r then (-1 : Int) else 0) else 0) = if i < r then -1 else 0
  split <;> simp_all
theorem DL.rn {w : World} {q go gw dm : Nat} {T : Nat → Prop} {L : Nat → Value} {v v' : PV} {f : Nat → Int} (h : DL w q go gw dm T L v f) (e : v' = v) : DL w q go gw dm T L v' f := e ▸ h
theorem al3 (w : World) (a b c : Obj) : (((w.alloc a).alloc b).alloc c).heap[w.heap.size]? = some a ∧ (((w.alloc a).alloc b).alloc c).heap[w.heap.size + 1]? = some b ∧ (((w.alloc a).alloc b).alloc c).heap[w.heap.size + 1 + 1]? = some c ∧ Below w.heap.size w (((w.alloc a).alloc b).alloc c) := by
  have e1 : (w.alloc a).heap.size = w.heap.size + 1 := by simp
  have e2 : ((w.alloc a).alloc b).heap.size = w.heap.size + 1 + 1 := by simp
  refine ⟨?_, ?_, ?_, (((Below.refl _ _).alloc (Nat.le_refl _) _).alloc (by omega) _).alloc (by omega) _⟩
  · rw [heap_alloc_old _ _ (by omega), heap_alloc_old _ _ (by omega)]; exact heap_alloc_new w a
  · rw [heap_alloc_old _ _ (by omega), ← e1]; exact heap_alloc_new _ b
  · rw [← e2]; exact heap_alloc_new _ c
theorem dl_new {bs : Int} {w wx : World} {S : Nat → Prop} {pm m n r hh q go gw : Nat} {f : Nat → Int} (hM : RMem w S m bs n f) (hb : Below w.heap.size w wx) (h1 : wx.heap[q]? = some (.cells #[.pointer (some ⟨m, 0, none⟩), .int .i64 r, .int .i64 hh, .slice (some ⟨go, 0, none⟩) n n, .slice (some ⟨gw, 0, none⟩) n n] 123 (0, 0))) (h2 : wx.heap[go]? = some (.cells (rg (owv fun _ => 0) n).toArray 3 (0, 0))) (h3 : wx.heap[gw]? = some (.cells (rg (fun _ => .slice none 0 0) n).toArray 58 (0, 0))) : DL wx q go gw m S (fun _ => .slice none 0 0) (vj pm bs r hh n 0) f := by
  have e : (vj pm bs r hh n 0).o = fun _ => 0 := by funext i; simp [vj]
  exact ⟨h1, by rw [e]; exact h2, h3, hM.below hb, fun i _ => ⟨none, 0, 0, rfl⟩, fun i _ hs => absurd rfl hs⟩
set_option maxHeartbeats 2000000 in
theorem z_New (bs : Int) (w : World) (S : Nat → Prop) (pm m n : Nat) (f : Nat → Int) (h : RMem w S m bs n f) (r hh : Nat) (h0 : 0 < hh) (h1 : hh ≤ 8) (hr : r ≤ n) :
    Calls Try.prog 29 #[.pointer (some ⟨m, 0, none⟩), .int .i64 r, .int .i64 hh] w fun e w' => ∃ q G, e = .returned (.tuple #[.pointer (some ⟨q, 0, none⟩), .int .i64 0]) ∧ DPool w' G q m (v0 pm bs r hh n) f ∧ Below w.heap.size w w' ∧ ∀ k, G k → S k ∨ w.heap.size ≤ k := by
  obtain ⟨-, -, hn0, hn1⟩ := h.nums
  have c1 : w.cell? ⟨m, 1, none⟩ = some (.int .i64 n) := by
    obtain ⟨g, hs, hq, rfl, hS⟩ := h
    exact hq.cell1
  have HM := hid h
  have hmo := fun W => run_mkO W n hn1
  have hmw := fun W => run_mkW W n hn1
  have hml : m < w.heap.size := by
    obtain ⟨g, hs, hq, rfl, hS⟩ := h
    exact lt_of_block hq.top
  clear h
  go_enter Try.func29, Try.ntmps29
  go_wp2_with fail
  go_cut [8] from 28 to 42 (fun a wx => ∃ (qq go gw : Nat), a = .pointer (some ⟨qq, 0, none⟩) ∧ Hid (DL wx qq go gw m S (fun _ => .slice none 0 0) (vj pm bs r hh n 0) f ∧ Below w.heap.size w wx ∧ w.heap.size ≤ qq ∧ w.heap.size ≤ go ∧ w.heap.size ≤ gw))
  case first =>
    go_region
    all_goals (
      go_wp2
      go_meet
      first
      | exact ⟨w.heap.size + 1 + 1, w.heap.size, w.heap.size + 1, rfl, dl_new HM.out (al3 w _ _ _).2.2.2.drew (al3 w _ _ _).2.2.1 (al3 w _ _ _).1 (al3 w _ _ _).2.1, (al3 w _ _ _).2.2.2.drew, by omega, by omega, by omega⟩
      | exact ⟨w.heap.size + 1 + 1, w.heap.size + 1, w.heap.size, rfl, dl_new HM.out (al3 w _ _ _).2.2.2.drew (al3 w _ _ _).2.2.1 (al3 w _ _ _).2.1 (al3 w _ _ _).1, (al3 w _ _ _).2.2.2.drew, by omega, by omega, by omega⟩)
  case rest =>
    obtain ⟨qq, go, gw, rfl, HD⟩ := hcut
    clear hmo hmw c1
    go_wp2
    go_loopw [9] (fun i wr => ∃ j : Nat, j ≤ r ∧ i = .int .i64 j ∧ Hid (DL wr qq go gw m S (fun _ => .slice none 0 0) (vj pm bs r hh n j) f ∧ Below w.heap.size w wr)) (fun i _ => r - (intOf i).toNat)
    case atStart => exact ⟨0, by omega, rfl, HD.out.1, HD.out.2.1⟩
    case round =>
      obtain ⟨j, hj, rfl, hp⟩ := hrel
      have d3 : wr.cell? ⟨qq, 3, none⟩ = some (.slice (some ⟨go, 0, none⟩) n n) := hp.out.1.c3
      by_cases hlt : j < r
      · obtain ⟨c4, z4⟩ := hp.out.1.co j (show j < n by omega)
        have hs := hp.out.1.setO j (-1)
        rw [show (vj pm bs r hh n j).own j (-1) = vj pm bs r hh n (j + 1) by rw [← vj_step, if_pos hlt]] at hs
        have HS := hid hs
        clear hs
        have hgo := HD.out.2.2.2.1
        have HB := hid (hp.out.2.setCell (p := ⟨go, j, none⟩) hgo (.int .i64 (-1)))
        clear hp
        go_wp2
        go_roundw
        case rel => exact ⟨j + 1, by omega, by go_num, HS.out, HB.out⟩
        case measure => simp [intOf]; omega
      · obtain rfl : j = r := by omega
        go_wp2
        go_ret2
        refine ⟨qq, fun x => x = qq ∨ x = go ∨ x = gw ∨ False ∨ S x, rfl, ⟨go, gw, S, fun _ => .slice none 0 0, hp.out.1.rn ?_, v0_ok pm bs j hh n hn0 hn1 h0 h1 hr, fun x => ?_⟩, hp.out.2, fun k hk => ?_⟩
        · unfold v0 vj
          congr 1
          funext i
          by_cases z : i < j
          · rw [if_pos z, if_pos z]
          · rw [if_neg z, if_neg z]
        · constructor
          · rintro (z | z | z | z | z)
            · exact .inl z
            · exact .inr (.inl z)
            · exact .inr (.inr (.inl z))
            · exact z.elim
            · exact .inr (.inr (.inr (.inr z)))
          · rintro (z | z | z | ⟨i, _, hs, _⟩ | z)
            · exact .inl z
            · exact .inr (.inl z)
            · exact .inr (.inr (.inl z))
            · exact absurd rfl hs
            · exact .inr (.inr (.inr (.inr z)))
        · rcases hk with rfl | rfl | rfl | z | z
          · exact .inr HD.out.2.2.1
          · exact .inr HD.out.2.2.2.1
          · exact .inr HD.out.2.2.2.2
          · exact z.elim
          · exact .inl z
end Go.Proofs.Ytekkjalfiogenaa
