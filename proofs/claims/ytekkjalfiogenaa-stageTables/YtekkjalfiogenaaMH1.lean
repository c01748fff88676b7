/- A pool as it stands in memory; what only reads it. -/
import Derived.Test.YtekkjalfiogenaaFA
import Derived.Test.YtekkjalfiogenaaMC2
import Derived.Test.YtekkjalfiogenaaMC3
import Derived.BigQuiet
import Derived.Handy
import Derived.Deep.RegionWith
import Derived.Deep.RegionLaw
import Derived.Defers
import Derived.Laws.Pointers
import Derived.Laws.LoneSync
import Derived.RegionTactic
import Derived.RegionCalls
import Derived.Laws.NewBlocks
namespace Go.Proofs.Ytekkjalfiogenaa
open Go.RowKit
open C (Only hid Mem Still ret_bool ret_int put)
set_option linter.unusedVariables false
set_option maxRecDepth 100000

def PV.cells (v : PV) (g : Nat) (d s : Int) (k : Value) : Array Value := #[.pointer (some ⟨v.m, 0, none⟩), .int .i64 v.r, .int .i64 v.h, .slice (some ⟨g, 0, none⟩) v.n v.n, .int .u32 d, .int .i32 s, .int .u32 0, k]
/-- a frame's state, cell by cell -/
def st1 (o : Nat → Int) (s : Nat → Nat) (j : Nat) : Value := if j % 2 = 0 then .int .i64 (o (j / 2)) else .int .u64 (encN (s (j / 2)))
/-- the frames' states in a row -/
def stc (o : Nat → Int) (s : Nat → Nat) (n : Nat) : List Value := (List.range (n * 2)).map (st1 o s)
theorem stc_len (o : Nat → Int) (s : Nat → Nat) (n : Nat) : (stc o s n).length = n * 2 := by simp [stc]
theorem stc_at (o : Nat → Int) (s : Nat → Nat) (n j : Nat) (h : j < n * 2) : (stc o s n)[j]? = some (st1 o s j) := by
  unfold stc
  rw [List.getElem?_map, List.getElem?_range h]
  rfl
theorem st1_0 (o : Nat → Int) (s : Nat → Nat) (i : Nat) : st1 o s (i * 2) = .int .i64 (o i) := by
  unfold st1
  rw [if_pos (by omega), show i * 2 / 2 = i by omega]
theorem st1_1 (o : Nat → Int) (s : Nat → Nat) (i : Nat) : st1 o s (i * 2 + 1) = .int .u64 (encN (s i)) := by
  unfold st1
  rw [if_neg (by omega), show (i * 2 + 1) / 2 = i by omega]
theorem stc_set (o o' : Nat → Int) (s s' : Nat → Nat) (n k : Nat) (x : Value) (hx : st1 o' s' k = x) (h : ∀ j, j ≠ k → st1 o' s' j = st1 o s j) : (stc o s n).toArray.setIfInBounds k x = (stc o' s' n).toArray := by
  apply Array.ext'
  simp only [Array.toList_setIfInBounds]
  apply List.ext_getElem?
  intro j
  rw [List.getElem?_set]
  rcases Nat.lt_or_ge j (n * 2) with q | q
  · rw [stc_at _ _ _ _ q, stc_len, stc_at _ _ _ _ q]
    by_cases e : k = j
    · subst e; rw [if_pos rfl, if_pos q, hx]
    · rw [if_neg e, h j (fun z => e z.symm)]
  · rw [List.getElem?_eq_none (by rw [stc_len]; exact q), List.getElem?_eq_none (by rw [stc_len]; exact q), stc_len]
    split
    · rw [if_neg (by omega)]
    · rfl
theorem stc_o (o : Nat → Int) (s : Nat → Nat) (n i : Nat) (x : Int) : (stc o s n).toArray.setIfInBounds (i * 2) (.int .i64 x) = (stc (upd o i x) s n).toArray := by
  refine stc_set _ _ _ _ _ _ _ (by rw [st1_0, upd_same]) fun j hj => ?_
  unfold st1
  split
  · rw [upd_other _ _ _ _ (by omega)]
  · rfl
theorem stc_s (o : Nat → Int) (s : Nat → Nat) (n i : Nat) (x : Nat) : (stc o s n).toArray.setIfInBounds (i * 2 + 1) (.int .u64 (encN x)) = (stc o (upd s i x) n).toArray := by
  refine stc_set _ _ _ _ _ _ _ (by rw [st1_1, upd_same]) fun j hj => ?_
  unfold st1
  split
  · rfl
  · rw [upd_other _ _ _ _ (by omega)]
/-- the list of bits: made or not; its block -/
def Bt (w : World) (h : Nat) (d : Int) (k : Value) (B : Nat → Prop) : Prop :=
  (d = 0 ∧ k = .slice none 0 0 ∧ ∀ x, ¬ B x) ∨ (d = 1 ∧ ∃ b c cur, k = .slice (some ⟨b, 0, none⟩) (h + 1) c ∧ h + 1 ≤ c ∧ w.heap[b]? = some (.cells cur 22 (0, 0)) ∧ (∀ j, j ≤ h → cur[j]? = some (.int .u64 (btN h j))) ∧ ∀ x, B x ↔ x = b)
structure PL (w : World) (p g : Nat) (d : Int) (k : Value) (B S : Nat → Prop) (v : PV) (f : Nat → Int) : Prop where
  top : w.heap[p]? = some (.cells (v.cells g d 0 k) 120 (0, 0))
  tab : w.heap[g]? = some (.cells (stc v.o v.s v.n).toArray 107 (0, 0))
  bits : Bt w v.h d k B
  mem : Mem w S v.m v.b v.n f
/-- a pool, its memory in it; F: its blocks -/
def Pool (w : World) (F : Nat → Prop) (p : Nat) (v : PV) (f : Nat → Int) : Prop := ∃ g d k B S, PL w p g d k B S v f ∧ v.Ok ∧ ∀ x, F x ↔ x = p ∨ x = g ∨ B x ∨ S x
section
variable {w w' : World} {p g : Nat} {d : Int} {k : Value} {B S : Nat → Prop} {v : PV} {f : Nat → Int}
theorem Bt.typ {h : Nat} (hb : Bt w h d k B) {x : Nat} (hx : B x) : ∃ cur, w.heap[x]? = some (.cells cur 22 (0, 0)) := by
  rcases hb with ⟨_, _, z⟩ | ⟨_, b, c, cur, _, _, z, _, y⟩
  · exact absurd hx (z x)
  · obtain rfl := (y x).1 hx
    exact ⟨cur, z⟩
theorem Bt.only {h : Nat} (hb : Bt w h d k B) {T : Nat → Prop} (ho : Only T w w') (hd : ∀ x, B x → ¬ T x) : Bt w' h d k B := by
  rcases hb with z | ⟨z, b, c, cur, z1, z2, z3, z4, z5⟩
  · exact .inl z
  · exact .inr ⟨z, b, c, cur, z1, z2, ho.old z3 (hd b ((z5 b).2 rfl)), z4, z5⟩
theorem PL.pg (h : PL w p g d k B S v f) : p ≠ g := fun e => by
  subst e
  have := h.top
  rw [h.tab] at this
  simp at this
theorem PL.pS (h : PL w p g d k B S v f) : ¬ S p := h.mem.typ h.top (by decide) (by decide) (by decide)
theorem PL.gS (h : PL w p g d k B S v f) : ¬ S g := h.mem.typ h.tab (by decide) (by decide) (by decide)
theorem PL.BS (h : PL w p g d k B S v f) (x : Nat) (hx : B x) : ¬ S x ∧ x ≠ p ∧ x ≠ g := by
  obtain ⟨cur, z⟩ := h.bits.typ hx
  refine ⟨h.mem.typ z (by decide) (by decide) (by decide), fun e => ?_, fun e => ?_⟩
  · subst e; have := h.top; rw [z] at this; simp at this
  · subst e; have := h.tab; rw [z] at this; simp at this
theorem PL.only (h : PL w p g d k B S v f) {T : Nat → Prop} (ho : Only T w w') (h1 : ¬ T p) (h2 : ¬ T g) (h3 : ∀ x, B x → ¬ T x) (h4 : ∀ x, S x → ¬ T x) : PL w' p g d k B S v f :=
  ⟨ho.old h.top h1, ho.old h.tab h2, h.bits.only ho h3, h.mem.only ho h4⟩
theorem PL.below (h : PL w p g d k B S v f) (hb : Below w.heap.size w w') : PL w' p g d k B S v f :=
  h.only (T := fun _ => False) (.ofBelow hb) (fun q => q) (fun q => q) (fun _ _ q => q) fun _ _ q => q
theorem PL.c0 (h : PL w p g d k B S v f) : w.cell? ⟨p, 0, none⟩ = some (.pointer (some ⟨v.m, 0, none⟩)) := cell_of_row w p 0 _ _ _ h.top
theorem PL.c1 (h : PL w p g d k B S v f) : w.cell? ⟨p, 1, none⟩ = some (.int .i64 v.r) := cell_of_row w p 1 _ _ _ h.top
theorem PL.c2 (h : PL w p g d k B S v f) : w.cell? ⟨p, 2, none⟩ = some (.int .i64 v.h) := cell_of_row w p 2 _ _ _ h.top
theorem PL.c3 (h : PL w p g d k B S v f) : w.cell? ⟨p, 3, none⟩ = some (.slice (some ⟨g, 0, none⟩) v.n v.n) := cell_of_row w p 3 _ _ _ h.top
theorem PL.c7 (h : PL w p g d k B S v f) : w.cell? ⟨p, 7, none⟩ = some k := cell_of_row w p 7 _ _ _ h.top
theorem PL.co (h : PL w p g d k B S v f) (i : Nat) (hi : i < v.n) : w.cell? ⟨g, i * 2, none⟩ = some (.int .i64 (v.o i)) := by
  rw [cell_of_row w g _ _ _ _ h.tab]
  have := stc_at v.o v.s v.n (i * 2) (by omega)
  rw [st1_0] at this
  simpa using this
theorem PL.cs (h : PL w p g d k B S v f) (i : Nat) (hi : i < v.n) : w.cell? ⟨g, i * 2 + 1, none⟩ = some (.int .u64 (encN (v.s i))) := by
  rw [cell_of_row w g _ _ _ _ h.tab]
  have := stc_at v.o v.s v.n (i * 2 + 1) (by omega)
  rw [st1_1] at this
  simpa using this
theorem PL.fz (h : PL w p g d k B S v f) (j : Nat) : w.frozen? ⟨g, j, none⟩ = false := frozen_of_row _ _ j _ _ h.tab
theorem PL.fp (h : PL w p g d k B S v f) (j : Nat) : w.frozen? ⟨p, j, none⟩ = false := frozen_of_row _ _ j _ _ h.top
theorem setRowB (w : World) (g k : Nat) (cs cs' : Array Value) (t : TypeId) (v : Value) (hg : w.heap[g]? = some (.cells cs t (0, 0))) (he : cs.setIfInBounds k v = cs') : (w.setCell ⟨g, k, none⟩ v).heap[g]? = some (.cells cs' t (0, 0)) := by
  rw [setCell_eq_setRow w g k cs t (0, 0) v hg, he]
  exact setRow_heap w g cs _ t _ hg
theorem only_c (w : World) (g k : Nat) (x : Value) : Only (· = g) w (w.setCell ⟨g, k, none⟩ x) := (Only.refl (S := (· = g)) w).setCell (.inl rfl) x
/-- a block of the frames' states that has turned -/
theorem PL.turn (h : PL w p g d k B S v f) {v' : PV} (ho : Only (· = g) w w') (ht : w'.heap[g]? = some (.cells (stc v'.o v'.s v'.n).toArray 107 (0, 0))) (h1 : v'.m = v.m) (h2 : v'.r = v.r) (h3 : v'.h = v.h) (h4 : v'.n = v.n) (h5 : v'.b = v.b) : PL w' p g d k B S v' f := by
  have q := ho.old h.top (fun e => h.pg e)
  have e : v'.cells g d 0 k = v.cells g d 0 k := by unfold PV.cells; rw [h1, h2, h3, h4]
  refine ⟨by rw [e]; exact q, ht, ?_, ?_⟩
  · rw [h3]; exact h.bits.only ho fun x hx e => (h.BS x hx).2.2 e
  · rw [h1, h4, h5]; exact h.mem.only ho fun x hx e => h.gS (e ▸ hx)
theorem PL.setO (h : PL w p g d k B S v f) (i : Nat) (x : Int) : PL (w.setCell ⟨g, i * 2, none⟩ (.int .i64 x)) p g d k B S (v.own i x) f :=
  h.turn (only_c _ _ _ _) (setRowB w g _ _ _ _ _ h.tab (stc_o v.o v.s v.n i x)) rfl rfl rfl rfl rfl
theorem PL.setS (h : PL w p g d k B S v f) (i : Nat) (x : Nat) : PL (w.setCell ⟨g, i * 2 + 1, none⟩ (.int .u64 (encN x))) p g d k B S (v.wait i x) f :=
  h.turn (only_c _ _ _ _) (setRowB w g _ _ _ _ _ h.tab (stc_s v.o v.s v.n i x)) rfl rfl rfl rfl rfl
theorem Pool.lt {F : Nat → Prop} (h : Pool w F p v f) {x : Nat} (hx : F x) : x < w.heap.size := by
  obtain ⟨g, d, k, B, S, h, _, hF⟩ := h
  rcases (hF x).1 hx with rfl | rfl | z | z
  · exact lt_of_block h.top
  · exact lt_of_block h.tab
  · obtain ⟨cur, y⟩ := h.bits.typ z
    exact lt_of_block y
  · exact h.mem.lt z
theorem Pool.only {F : Nat → Prop} (h : Pool w F p v f) {T : Nat → Prop} (ho : Only T w w') (hd : ∀ x, F x → ¬ T x) : Pool w' F p v f := by
  obtain ⟨g, d, k, B, S, h, hv, hF⟩ := h
  exact ⟨g, d, k, B, S, h.only ho (hd _ ((hF _).2 (.inl rfl))) (hd _ ((hF _).2 (.inr (.inl rfl)))) (fun x hx => hd _ ((hF _).2 (.inr (.inr (.inl hx))))) fun x hx => hd _ ((hF _).2 (.inr (.inr (.inr hx)))), hv, hF⟩
theorem Pool.below {F : Nat → Prop} (h : Pool w F p v f) (hb : Below w.heap.size w w') : Pool w' F p v f :=
  h.only (T := fun _ => False) (.ofBelow hb) fun _ _ q => q
theorem Pool.ok {F : Nat → Prop} (h : Pool w F p v f) : v.Ok := by obtain ⟨_, _, _, _, _, _, z, _⟩ := h; exact z
theorem Pool.self {F : Nat → Prop} (h : Pool w F p v f) : F p := by obtain ⟨_, _, _, _, _, _, _, z⟩ := h; exact (z p).2 (.inl rfl)
end
theorem c_mayTake (x : Int) (w : World) : Calls Try.prog 66 #[.int .i64 x] w fun e w' => e = .returned (.bool (may x)) ∧ w' = w := by
  go_enter Try.func66, Try.ntmps66
  by_cases h1 : x = -1
  · subst h1; go_wp2; go_ret; exact ⟨rfl, rfl⟩
  · by_cases h2 : 1 ≤ x
    · go_wp2; go_ret; exact ⟨ret_bool (by unfold may; rw [Bool.eq_iff_iff]; simp; omega), rfl⟩
    · go_wp2; go_ret; exact ⟨ret_bool (by unfold may; rw [Bool.eq_iff_iff]; simp; omega), rfl⟩
def cnt (o : Nat → Int) (x : Int) : Nat → Nat
  | 0 => 0
  | n + 1 => bif decide (o n = x) then cnt o x n + 1 else cnt o x n
theorem cnt_le (o : Nat → Int) (x : Int) : ∀ n, cnt o x n ≤ n
  | 0 => Nat.le_refl _
  | n + 1 => by
    have := cnt_le o x n
    unfold cnt
    cases decide (o n = x) <;> simp <;> omega
section
variable (w : World) (p g : Nat) (d : Int) (k : Value) (B S : Nat → Prop) (v : PV) (f : Nat → Int) (h : PL w p g d k B S v f) (ok : v.Ok)
include h ok
def hasF (v : PV) (x : Int) : Bool := decide (0 ≤ x) && decide (x < (v.n : Int))
theorem c_has (x : Int) : Calls Try.prog 47 #[.pointer (some ⟨p, 0, none⟩), .int .i64 x] w fun e w' => e = .returned (.bool (hasF v x)) ∧ w' = w := by
  have c3 := h.c3
  have n1 := ok.n1
  clear h
  go_enter Try.func47, Try.ntmps47
  by_cases h1 : 0 ≤ x
  · go_wp2; go_ret; exact ⟨ret_bool (by unfold hasF; rw [Bool.eq_iff_iff]; simp; omega), rfl⟩
  · go_wp2; go_ret; exact ⟨ret_bool (by unfold hasF; rw [Bool.eq_iff_iff]; simp; omega), rfl⟩
def ownF (v : PV) (x : Int) : Int := bif hasF v x then v.o x.toNat else -1
def waitF (v : PV) (x : Int) : Int := bif hasF v x then (encN (v.s x.toNat) : Int) else 0
theorem c_Owner (x : Int) : Calls Try.prog 12 #[.pointer (some ⟨p, 0, none⟩), .int .i64 x] w fun e w' => e = .returned (.int .i64 (ownF v x)) ∧ w' = w := by
  have c3 := h.c3
  have n1 := ok.n1
  have hh := c_has w p g d k B S v f h ok x
  unfold ownF
  cases hx : hasF v x
  · rw [hx] at hh
    clear h
    go_enter Try.func12, Try.ntmps12
    go_wp2_with (go_at_call 47; refine hh.mono ?_; rintro e w' ⟨rfl, rfl⟩)
    go_ret; exact ⟨rfl, rfl⟩
  · rw [hx] at hh
    have hx' : 0 ≤ x ∧ x < (v.n : Int) := by simpa [hasF] using hx
    obtain ⟨i, rfl⟩ := Int.eq_ofNat_of_zero_le hx'.1
    have c4 := h.co i (by omega)
    clear h
    go_enter Try.func12, Try.ntmps12
    go_wp2_with (go_at_call 47; refine hh.mono ?_; rintro e w' ⟨rfl, rfl⟩)
    go_ret; exact ⟨rfl, rfl⟩
theorem c_Count (x : Int) : Calls Try.prog 26 #[.pointer (some ⟨p, 0, none⟩), .int .i64 x] w fun e w' => e = .returned (.int .i64 (cnt v.o x v.n)) ∧ w' = w := by
  have c3 := h.c3
  have n1 := ok.n1
  have H := hid h
  clear h
  go_enter Try.func26, Try.ntmps26
  go_wp2
  go_loopw [5, 12] (fun c i wr => ∃ j : Nat, j ≤ v.n ∧ i = .int .i64 j ∧ c = .int .i64 (cnt v.o x j) ∧ wr = w) (fun c i _ => v.n - (intOf i).toNat)
  case atStart => exact ⟨0, by omega, rfl, rfl, rfl⟩
  case round =>
    obtain ⟨j, hj, rfl, rfl, hw⟩ := hrel
    obtain rfl := hw.symm
    have hc := cnt_le v.o x j
    by_cases hlt : j < v.n
    · have c4 := H.out.co j hlt
      by_cases he : v.o j = x
      · have e1 : cnt v.o x (j + 1) = cnt v.o x j + 1 := by simp [cnt, he]
        subst he
        go_wp2
        go_roundw
        case rel => exact ⟨j + 1, by omega, by go_num, by rw [e1]; go_num, trivial⟩
        case measure => simp [intOf]; omega
      · have e1 : cnt v.o x (j + 1) = cnt v.o x j := by simp [cnt, he]
        go_wp2
        go_roundw
        case rel => exact ⟨j + 1, by omega, by go_num, by rw [e1], trivial⟩
        case measure => simp [intOf]; omega
    · obtain rfl : j = v.n := by omega
      go_wp2
      go_ret
      exact ⟨rfl, rfl⟩
end
end Go.Proofs.Ytekkjalfiogenaa
namespace Go.Proofs.Ytekkjalfiogenaa
open Go.RowKit
open C (Only hid Mem Still ret_bool ret_int put)
set_option linter.unusedVariables false
set_option maxRecDepth 100000

theorem Pool.own {w w' : World} {F : Nat → Prop} {p : Nat} {v : PV} {f : Nat → Int} (h : Pool w F p v f) {g : Nat} (hg : F g) {T : Nat → Prop} (ho : Only (· = g) w w') : Only F w w' := ho.mono fun k _ e => e ▸ hg
theorem x_Take (w : World) (F : Nat → Prop) (p : Nat) (v : PV) (f : Nat → Int) (h : Pool w F p v f) (x : Int) :
    Calls Try.prog 20 #[.pointer (some ⟨p, 0, none⟩), .int .i64 x] w fun e w' => e = .returned (.tuple #[.int .i64 (tk v x).1, .int .i64 (tk v x).2.1]) ∧ Pool w' F p (tk v x).2.2 f ∧ Only F w w' := by
  have hok := h.ok.take x
  obtain ⟨g, d, k, B, S, hp, ok, hF⟩ := h
  have H := hid hp
  have HF := hid hF
  have OK := hid hok
  have HO := hid ok
  have n1 := ok.n1
  have c3 := hp.c3
  have hm := c_mayTake x w
  clear hp hF hok ok
  cases hx : may x
  · rw [hx] at hm
    have e1 : tk v x = (0, 1, v) := by unfold tk; rw [hx]; rfl
    rw [e1]
    go_enter Try.func20, Try.ntmps20
    go_wp2_with (go_at_call 66; refine hm.mono ?_; rintro e w' ⟨rfl, hw⟩; obtain rfl := hw.symm)
    go_ret2
    exact ⟨rfl, ⟨g, d, k, B, S, H.out, HO.out, HF.out⟩, .refl w⟩
  · rw [hx] at hm
    go_enter Try.func20, Try.ntmps20
    go_wp2_with (go_at_call 66; refine hm.mono ?_; rintro e w' ⟨rfl, hw⟩; obtain rfl := hw.symm)
    go_loopw [15] (fun i wr => ∃ j : Nat, j ≤ v.n ∧ i = .int .i64 j ∧ wr = w ∧ Hid (∀ a, a < j → v.o a ≠ 0)) (fun i _ => v.n - (intOf i).toNat)
    case atStart => exact ⟨0, by omega, rfl, rfl, fun a ha => by omega⟩
    case round =>
      obtain ⟨j, hj, rfl, hw, hn⟩ := hrel
      obtain rfl := hw.symm
      by_cases hlt : j < v.n
      · have c4 := H.out.co j hlt
        have z4 := H.out.fz (j * 2)
        by_cases he : v.o j = 0
        · have e1 : tk v x = ((j : Int), 0, v.own j x) := by
            unfold tk
            rw [hx, ff_eq hlt he hn.out]
            simp [hlt]
          rw [e1] at OK
          rw [he] at c4
          have HP := hid (H.out.setO j x)
          go_wp2
          go_ret2
          exact ⟨rfl, ⟨g, d, k, B, S, HP.out, OK.out, HF.out⟩, (only_c _ _ _ _).mono fun a _ e => (HF.out a).2 (.inr (.inl e))⟩
        · go_wp2
          go_roundw
          case rel => exact ⟨j + 1, by omega, by go_num, trivial, fun a ha => by
            rcases Nat.lt_or_ge a j with q | q
            · exact hn.out a q
            · obtain rfl : a = j := by omega
              exact he⟩
          case measure => simp [intOf]; omega
      · obtain rfl : j = v.n := by omega
        have e1 : tk v x = (0, 10, v) := by
          unfold tk
          rw [hx, ff_none hn.out]
          simp
        go_wp2
        go_ret2
        exact ⟨rfl, ⟨g, d, k, B, S, H.out, HO.out, HF.out⟩, .refl w⟩
/-- a pool at its beginning -/
def v0 (m : Nat) (bs : Int) (r h n : Nat) : PV := ⟨m, bs, r, h, n, fun i => if i < r then -1 else 0, fun _ => 0⟩
def newOk (n : Nat) (r h : Int) : Bool := decide (0 ≤ r) && decide (r ≤ (n : Int)) && decide (1 ≤ h) && decide (h ≤ 8)
theorem v0_ok (m : Nat) (bs : Int) (r h n : Nat) (n0 : 0 < n) (n1 : n ≤ 1024) (h0 : 0 < h) (h1 : h ≤ 8) (hr : r ≤ n) : (v0 m bs r h n).Ok := by
  refine ⟨n0, n1, h0, h1, hr, fun i => Nat.zero_and _, fun i => ?_, fun i => ?_, fun i hi => ?_⟩
  · show -2 ≤ (if i < r then (-1 : Int) else 0) ∧ (if i < r then (-1 : Int) else 0) ≤ 8
    split <;> omega
  · show (if i < r then (-1 : Int) else 0) = -2 ↔ (0 : Nat) ≠ 0
    split <;> simp
  · show (if i < r then (-1 : Int) else 0) = -1
    exact if_pos hi
theorem info_state : (Try.prog.info? 107).map (fun i => (i.zero, i.size, i.bytes)) = some (some (.agg #[.int .i64 0, .int .u64 0]), 2, 16) := by kernel_rfl
theorem u_sstate : Try.prog.underlying 108 = some (.slice 107) := by kernel_rfl
theorem made2 (n : Nat) : madeCells (Value.agg #[.int .i64 0, .int .u64 0]).cells (n * 2) = (stc (fun _ => 0) (fun _ => 0) n).toArray := by
  apply Array.ext
  · rw [size_madeCells]; simp [stc]
  · intro j h1 h2
    rw [size_madeCells] at h1
    have a := stc_at (fun _ => 0) (fun _ => 0) n j h1
    have b : (stc (fun _ => 0) (fun _ => 0) n).toArray[j]? = some (st1 (fun _ => 0) (fun _ => 0) j) := by simpa using a
    rw [Array.getElem?_eq_getElem h2] at b
    rw [Option.some.inj b]
    have e : (Value.agg #[.int .i64 0, .int .u64 0]).cells = #[.int .i64 0, .int .u64 0] := by rfl
    simp only [madeCells, Array.getElem_map, Array.getElem_range, e]
    unfold st1
    rcases Nat.mod_two_eq_zero_or_one j with q | q
    · simp [q]
    · simp [q]; rfl
theorem wpList_made {P : Program} (w : World) {ops : Array Oper} {rest : List Oper} {o : Oper} {a : Act} {Q : Exit → Act → World → Prop} (hgd : o.guard = none) (x y : Operand) (T : TypeId) (ho : o.op = .makeSlice T x y) (e : TypeId) (z : Value) (size bytes : Nat)
    (ht : P.underlying T = some (.slice e)) (hi : (P.info? e).map (fun i => (i.zero, i.size, i.bytes)) = some (some z, size, bytes)) (n : Nat) (hx : a.eval x = .int .i64 n) (hy : a.eval y = .int .i64 n) (hn : n ≤ 9223372036854775807) (hby : bytes * n ≤ 281474976710656)
    (cs : Array Value) (hc : madeCells z.cells (n * size) = cs)
    (h : wpList P ops Q rest (a.put o.dst (.slice (some ⟨w.heap.size, 0, none⟩) n n)) (w.alloc (.cells cs e))) : wpList P ops Q (o :: rest) a w := by
  refine wpList_plain hgd fun K hK' => ?_
  obtain ⟨i, hi1, hz, hs, hb⟩ := info_parts hi
  have hb' : (i.bytes : Int) * (n : Int) ≤ 281474976710656 := by
    have h : ((i.bytes * n : Nat) : Int) ≤ 281474976710656 := by rw [hb]; omega
    rwa [Int.natCast_mul] at h
  have hr := run_make (P := P) w T e i z ht hi1 hz .i64 .i64 n n (by omega) (Int.le_refl _) hb' (by omega)
  have hcs : madeCells z.cells ((n : Int).toNat * i.size) = cs := by
    rw [← hc, hs]; rfl
  rw [hcs] at hr
  simp only [Int.toNat_natCast] at hr
  unfold Oper.wp
  simp [execOp, ho, hx, hy, hr, Result.andThen]
  exact hK' _ _ h
theorem x_New_bad (bs : Int) (w : World) (S : Nat → Prop) (m n : Nat) (f : Nat → Int) (h : Mem w S m bs n f) (r hh : Int) (hb : newOk n r hh = false) :
    Calls Try.prog 28 #[.pointer (some ⟨m, 0, none⟩), .int .i64 r, .int .i64 hh] w fun e w' => e = .returned (.tuple #[.pointer none, .int .i64 1]) ∧ w' = w := by
  have hn := h.nums
  obtain ⟨g, hs, hr, rfl, hS⟩ := h
  have hf := C.c_Frames w m g bs hs f hr
  clear hr hS
  simp [newOk] at hb
  go_enter Try.func28, Try.ntmps28
  by_cases h1 : r < 0
  · go_wp2_with (go_at_call 52; refine hf.mono ?_; rintro e w' ⟨rfl, hw⟩; obtain rfl := hw.symm)
    go_ret2; exact ⟨rfl, rfl⟩
  · by_cases h2 : r > (hs.length : Int)
    · go_wp2_with (go_at_call 52; refine hf.mono ?_; rintro e w' ⟨rfl, hw⟩; obtain rfl := hw.symm)
      go_ret2; exact ⟨rfl, rfl⟩
    · by_cases h3 : hh < 1
      · go_wp2_with (go_at_call 52; refine hf.mono ?_; rintro e w' ⟨rfl, hw⟩; obtain rfl := hw.symm)
        go_ret2; exact ⟨rfl, rfl⟩
      · have h4 : hh > 8 := by omega
        go_wp2_with (go_at_call 52; refine hf.mono ?_; rintro e w' ⟨rfl, hw⟩; obtain rfl := hw.symm)
        go_ret2; exact ⟨rfl, rfl⟩
/-- a pool that is being made: the owners of the first j frames are laid -/
def vj (m : Nat) (bs : Int) (r h n j : Nat) : PV := ⟨m, bs, r, h, n, fun i => if i < j then (if i < r then -1 else 0) else 0, fun _ => 0⟩
theorem vj_step (m : Nat) (bs : Int) (r h n j : Nat) : (vj m bs r h n j).own j (if j < r then -1 else 0) = vj m bs r h n (j + 1) := by
  unfold PV.own vj
  simp only
  congr 1
  funext i
  unfold upd
  by_cases e : i = j
  · subst e; simp
  · rw [if_neg e]
    show (if i < j then (if i < r then (-1 : Int) else 0) else 0) = _
    by_cases q : i < j
    · simp only [if_pos q, if_pos (show i < j + 1 by omega)]
    · simp only [if_neg q, if_neg (show ¬ i < j + 1 by omega)]
theorem vj_0 (m : Nat) (bs : Int) (r h n : Nat) (w : World) : stc (vj m bs r h n 0).o (vj m bs r h n 0).s n = stc (fun _ => 0) (fun _ => 0) n := by
  have : (vj m bs r h n 0).o = fun _ => 0 := by funext i; simp [vj]
  rw [this]; rfl
set_option maxHeartbeats 1000000 in
theorem x_New (bs : Int) (w : World) (S : Nat → Prop) (m n : Nat) (f : Nat → Int) (h : Mem w S m bs n f) (r hh : Nat) (h0 : 0 < hh) (h1 : hh ≤ 8) (hr : r ≤ n) :
    Calls Try.prog 28 #[.pointer (some ⟨m, 0, none⟩), .int .i64 r, .int .i64 hh] w fun e w' => ∃ p F, e = .returned (.tuple #[.pointer (some ⟨p, 0, none⟩), .int .i64 0]) ∧ Pool w' F p (v0 m bs r hh n) f ∧ Below w.heap.size w w' ∧ ∀ k, F k → S k ∨ w.heap.size ≤ k := by
  obtain ⟨-, -, hn0, hn1⟩ := h.nums
  have hf : Calls Try.prog 52 #[.pointer (some ⟨m, 0, none⟩)] w fun e w' => e = .returned (.int .i64 n) ∧ w' = w := by
    obtain ⟨g, hs, hq, rfl, hS⟩ := h
    exact C.c_Frames w m g bs hs f hq
  have HM := hid h
  have b1 : Below w.heap.size w (w.alloc (.cells (stc (fun _ => 0) (fun _ => 0) n).toArray 107)) := (Below.refl _ _).alloc (Nat.le_refl _) _
  have z1 : (w.alloc (.cells (stc (fun _ => 0) (fun _ => 0) n).toArray 107)).heap.size = w.heap.size + 1 := by simp
  have b2 : Below w.heap.size w ((w.alloc (.cells (stc (fun _ => 0) (fun _ => 0) n).toArray 107)).alloc (.cells ((v0 m bs r hh n).cells w.heap.size 0 0 (.slice none 0 0)) 120)) := b1.alloc (by omega) _
  have HP : Hid (PL ((w.alloc (.cells (stc (fun _ => 0) (fun _ => 0) n).toArray 107)).alloc (.cells ((v0 m bs r hh n).cells w.heap.size 0 0 (.slice none 0 0)) 120)) (w.heap.size + 1) w.heap.size 0 (.slice none 0 0) (fun _ => False) S (vj m bs r hh n 0) f) := by
    refine ⟨?_, ?_, .inl ⟨rfl, rfl, fun _ q => q⟩, h.below b2⟩
    · rw [heap_alloc2_new]; rfl
    · rw [heap_alloc2_old]
      show _ = some (Obj.cells (stc (vj m bs r hh n 0).o (vj m bs r hh n 0).s n).toArray 107 (0, 0))
      rw [vj_0 m bs r hh n w]
  have HB := hid b2
  obtain ⟨w2, hw2⟩ : ∃ w2, w2 = ((w.alloc (.cells (stc (fun _ => 0) (fun _ => 0) n).toArray 107)).alloc (.cells ((v0 m bs r hh n).cells w.heap.size 0 0 (.slice none 0 0)) 120)) := ⟨_, rfl⟩
  have HW2 := hid hw2
  rw [← hw2] at HP HB
  clear h b1 b2
  have c3 := HP.out.c3
  unfold PV.cells at hw2
  simp only [v0] at hw2
  go_enter Try.func28, Try.ntmps28
  go_wp2_with (first
    | (go_at_call 52; refine hf.mono ?_; rintro e w' ⟨rfl, hw⟩; obtain rfl := hw.symm)
    | (at_make; refine wpList_made _ rfl _ _ 108 rfl 107 _ 2 16 u_sstate info_state n rfl rfl (by omega) (by omega) _ (made2 n) ?_))
  rw [← hw2]
  clear hw2
  go_loopw [9, 39] (fun u i wr => ∃ j : Nat, j ≤ n ∧ i = .int .i64 j ∧ Hid (PL wr (w.heap.size + 1) w.heap.size 0 (.slice none 0 0) (fun _ => False) S (vj m bs r hh n j) f) ∧ Hid (Below w.heap.size w wr)) (fun u i _ => n - (intOf i).toNat)
  case atStart => exact ⟨0, by omega, rfl, HP, HB⟩
  case round =>
    obtain ⟨j, hj, rfl, hp, hb⟩ := hrel
    have d3 := hp.out.c3
    by_cases hlt : j < n
    · have c4 := hp.out.co j hlt
      have z4 := hp.out.fz (j * 2)
      have hs := hid (hp.out.setO j (if j < r then -1 else 0))
      rw [vj_step] at hs
      have hb2 := hid (hb.out.setCell (p := ⟨w.heap.size, j * 2, none⟩) (Nat.le_refl _) (.int .i64 (if j < r then -1 else 0)))
      by_cases hq : j < r
      · rw [if_pos hq] at hs hb2
        go_wp2
        go_roundw
        case rel => exact ⟨j + 1, by omega, by go_num, hs, hb2⟩
        case measure => simp [intOf]; omega
      · rw [if_neg hq] at hs hb2
        go_wp2
        go_roundw
        case rel => exact ⟨j + 1, by omega, by go_num, hs, hb2⟩
        case measure => simp [intOf]; omega
    · obtain rfl : j = n := by omega
      go_wp2
      go_ret2
      refine ⟨w.heap.size + 1, fun x => x = w.heap.size + 1 ∨ x = w.heap.size ∨ False ∨ S x, rfl, ⟨w.heap.size, 0, .slice none 0 0, fun _ => False, S, ?_, v0_ok m bs r hh j hn0 hn1 h0 h1 hr, fun x => Iff.rfl⟩, hb.out, fun k hk => ?_⟩
      · have e : PL wr (w.heap.size + 1) w.heap.size 0 (.slice none 0 0) (fun _ => False) S (vj m bs r hh j j) f := hp.out
        have e2 : (stc (vj m bs r hh j j).o (vj m bs r hh j j).s j) = stc (v0 m bs r hh j).o (v0 m bs r hh j).s j := by
          unfold stc
          apply List.map_congr_left
          intro i hi
          have hi' : i < j * 2 := by simpa using hi
          unfold st1
          split
          · show Value.int .i64 (if i / 2 < j then _ else _) = _
            rw [if_pos (by omega)]; rfl
          · rfl
        exact ⟨e.top, by have := e.tab; rw [show (vj m bs r hh j j).n = j from rfl, e2] at this; exact this, e.bits, e.mem⟩
      · rcases hk with rfl | rfl | hk | hk
        · exact .inr (by omega)
        · exact .inr (Nat.le_refl _)
        · exact hk.elim
        · exact .inl hk
end Go.Proofs.Ytekkjalfiogenaa
