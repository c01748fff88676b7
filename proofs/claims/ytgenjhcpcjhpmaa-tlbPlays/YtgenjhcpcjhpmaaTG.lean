/- A TLB: Look, Entries. -/
import Derived.Test.YtgenjhcpcjhpmaaTF
import Derived.Laws.Cover3
namespace Go.Proofs.Ytgenjhcpcjhpmaa
open Go.RowKit
set_option linter.unusedVariables false

def lk (L : List TV) (v p : Int) : TV × Bool := match L.find? (fun x => x.here v p) with | some x => (x, true) | none => (TV.zero, false)
theorem lk_some {L : List TV} {v p : Int} {k : Nat} {x : TV} (hx : L[k]? = some x) (h : x.here v p = true) (hn : ∀ j y, j < k → L[j]? = some y → y.here v p = false) : lk L v p = (x, true) := by
  have : L.find? (fun x => x.here v p) = some x := by
    induction L generalizing k with
    | nil => simp at hx
    | cons z L ih =>
      cases k with
      | zero => simp at hx; subst hx; simp [List.find?, h]
      | succ k =>
        have := hn 0 z (by omega) rfl
        rw [List.find?, this]
        exact ih (by simpa using hx) (fun j y hj hy => hn (j + 1) y (by omega) (by simpa using hy))
  unfold lk
  rw [this]
theorem lk_none {L : List TV} {v p : Int} (hn : ∀ (j : Nat) (y : TV), L[j]? = some y → y.here v p = false) : lk L v p = (TV.zero, false) := by
  have : L.find? (fun x => x.here v p) = none := by
    rw [List.find?_eq_none]
    intro x hx
    obtain ⟨j, hj⟩ := List.mem_iff_getElem?.1 hx
    rw [hn j x hj]; decide
  unfold lk
  rw [this]
theorem set4 {w : World} {b : Nat} {x : TV} (h : Rw w b [x]) (y : TV) : Rw ((((w.setCell ⟨b, 0, none⟩ (.int .i64 y.v)).setCell ⟨b, 1, none⟩ (.int .u64 y.p)).setCell ⟨b, 2, none⟩ (.int .u64 y.f)).setCell ⟨b, 3, none⟩ (.int .i64 y.r)) b [y] := by
  have h0 := heap_setCell_same w b 0 _ 33 (.int .i64 y.v) h
  have h1 := heap_setCell_same _ b 1 _ 33 (.int .u64 y.p) h0
  have h2 := heap_setCell_same _ b 2 _ 33 (.int .u64 y.f) h1
  have h3 := heap_setCell_same _ b 3 _ 33 (.int .i64 y.r) h2
  exact h3.trans (by simp [flat, TV.cs])
theorem below4 {B : Nat} {w0 w : World} (h : Below B w0 w) {b : Nat} (hb : B ≤ b) (y : TV) : Below B w0 ((((w.setCell ⟨b, 0, none⟩ (.int .i64 y.v)).setCell ⟨b, 1, none⟩ (.int .u64 y.p)).setCell ⟨b, 2, none⟩ (.int .u64 y.f)).setCell ⟨b, 3, none⟩ (.int .i64 y.r)) :=
  (((h.setCell (p := ⟨b, 0, none⟩) hb _).setCell (p := ⟨b, 1, none⟩) hb _).setCell (p := ⟨b, 2, none⟩) hb _).setCell (p := ⟨b, 3, none⟩) hb _
set_option maxHeartbeats 1000000 in
theorem c_Look (w : World) (p g room : Nat) (L : List TV) (h : TM w p g room L) (v pg : Int) : Calls Try.prog 12 #[.pointer (some ⟨p, 0, none⟩), .int .i64 v, .int .u64 pg] w fun e w' => e = .returned (.tuple #[(lk L v pg).1.ag, .bool (lk L v pg).2]) ∧ Below w.heap.size w w' := by
  have hl := h.len
  have h64 := h.r1
  have H := hid h
  have c1 := h.c1
  have hpl := h.lt (.inl rfl)
  clear h
  go_enter Try.func12, Try.ntmps12
  go_wp2_with fail
  go_loopw [15] (fun i wr => ∃ (k : Nat), k ≤ L.length ∧ i = .int .i64 k ∧ (∀ j y, j < k → L[j]? = some y → y.here v pg = false) ∧ Rw wr w.heap.size [TV.zero] ∧ Below w.heap.size w wr) (fun i _ => L.length - (intOf i).toNat)
  case atStart => exact ⟨0, by omega, rfl, fun j y hj => by omega, by show _ = _; rw [heap_alloc_new]; rfl, (Below.refl _ _).alloc (Nat.le_refl _) _⟩
  case round =>
    obtain ⟨k, hk, rfl, hn, hr, hb⟩ := hrel
    have HN := hid hn
    have HR := hid hr
    have HB := hid hb
    have HMr := hid (H.out.below hb)
    have d1 := HMr.out.c1
    obtain ⟨r0, r1, r2, r3⟩ := cells1 hr
    have z0 := hr.z 0
    have z1 := hr.z 1
    have z2 := hr.z 2
    have z3 := hr.z 3
    have hrl := hr.lt
    clear hn hr hb c1
    by_cases hlt : k < L.length
    · obtain ⟨x, hx⟩ : ∃ x, L[k]? = some x := ⟨_, List.getElem?_eq_getElem hlt⟩
      obtain ⟨x0, x1, x2, x3⟩ := HMr.out.cell hx
      have HX := hid hx
      have hgl := HMr.out.lt (.inr rfl)
      have HA : Hid (∀ w1, Below (wr.alloc (Obj.cells x.cs.toArray 33)).heap.size (wr.alloc (Obj.cells x.cs.toArray 33)) w1 → Rw w1 wr.heap.size [x] ∧ Rw w1 w.heap.size [TV.zero] ∧ wr.heap.size < w1.heap.size) := fun w1 hb1 => ⟨(hb1.block _ (by simp)).trans (by unfold TV.cs; rw [heap_alloc_new]; simp [flat, TV.cs]), (hb1.block _ (by simp; omega)).trans ((Below.heap_alloc wr _ _ hrl).trans HR.out), by have := hb1.size; simp at this; omega⟩
      clear hx
      cases hh : x.here v pg
      · go_wp2_with (go_at_call 24; refine (c_isOf _ x v pg).mono ?_; rintro e w1 ⟨rfl, hb1⟩; rw [hh]; have HB1 := hid hb1; have HA1 := hid (HA.out w1 hb1); clear hb1)
        go_roundw
        case rel => exact ⟨k + 1, by omega, by go_num, fun j y hj hy => by
          by_cases e : j = k
          · subst e; rw [HX.out] at hy; cases hy; exact hh
          · exact HN.out j y (by omega) hy, HA1.out.2.1, (HB.out.alloc HB.out.size _).trans (HB1.out.mono (by have := HB.out.size; simp; omega))⟩
        case measure => simp [intOf]; omega
      · go_wp2_with (go_at_call 24; refine (c_isOf _ x v pg).mono ?_; rintro e w1 ⟨rfl, hb1⟩; rw [hh]; have HB1 := hid hb1; have HA1 := hid (HA.out w1 hb1); obtain ⟨y0, y1, y2, y3⟩ := cells1 HA1.out.1; obtain ⟨s0, s1, s2, s3⟩ := cells1 HA1.out.2.1; have t0 := HA1.out.2.1.z 0; have t1 := HA1.out.2.1.z 1; have t2 := HA1.out.2.1.z 2; have t3 := HA1.out.2.1.z 3; clear hb1)
        obtain ⟨v0, v1, v2, v3⟩ := cells1 (set4 HA1.out.2.1 x)
        refine bodyPost_ret (v := .tuple #[x.ag, .bool true]) (by simp [results, Try.results12, go_sem, v0, v1, v2, v3]) rfl ?_
        refine ⟨by rw [lk_some HX.out hh HN.out], below4 ((HB.out.alloc HB.out.size _).trans (HB1.out.mono (by have := HB.out.size; simp; omega))) (Nat.le_refl _) x⟩
    · obtain rfl : k = L.length := by omega
      obtain ⟨v0, v1, v2, v3⟩ := cells1 (set4 HR.out TV.zero)
      simp only [TV.zero] at v0 v1 v2 v3
      go_wp2_with fail
      refine bodyPost_ret (v := .tuple #[TV.zero.ag, .bool false]) (by simp [results, Try.results12, go_sem, v0, v1, v2, v3, TV.zero]) rfl ?_
      refine ⟨by rw [lk_none fun j y hy => HN.out j y (List.getElem?_eq_some_iff.1 hy).1 hy], below4 HB.out (Nat.le_refl _) TV.zero⟩
/-- a list of entries in memory of its own -/
def Es (w : World) (base : Nat) (v : Value) (L : List TV) : Prop := w.ownsRow base 33 4 v L.length (flat L)
theorem eq_nil (w : World) (a : Option Addr) (l c : Nat) : (binOp .eql 43 (.slice a l c) (.slice none 0 0)).run Try.prog w = .ok (.bool a.isNone) w := by
  simp only [binOp]
  simp [run_equal_slice_nil w 43 33 a l c u_sT]
theorem c_Clone (w : World) (g n cap : Nat) (L Z : List TV) (hZ : Rw w g Z) (ht : Z.take n = L) (hn : L.length = n) (h64 : n ≤ 64) (hc : n ≤ cap) : Calls Try.prog 29 #[.slice (some ⟨g, 0, none⟩) n cap] w fun e w' => ∃ v, e = .returned v ∧ Es w' w.heap.size v L ∧ Below w.heap.size w w' := by
  obtain ⟨i0, hi, hz0, hz1, hz2⟩ := info_parts info_t
  have hne := eq_nil
  have HZ := hid hZ
  have HT := hid ht
  have HC : Hid (∀ (o : Obj) j u, (flat L)[j]? = some u → (w.alloc o).cell? ((⟨g, 0, none⟩ : Addr).add j) = some u) := fun o j u hu => by
    rw [addr_add, Nat.zero_add, cell_of_row (w.alloc o) g j _ _ _ ((Below.heap_alloc w _ _ HZ.out.lt).trans HZ.out)]
    rw [← HT.out, ← flat_take, List.getElem?_take] at hu
    split at hu
    · simpa using hu
    · cases hu
  clear hZ ht
  go_enter Try.func29, Try.ntmps29
  go_wp2_with (at_builtin; refine wpList_append_own _ rfl _ _ 43 rfl w.heap.size 33 i0 (.agg #[.int .i64 0, .int .u64 0, .int .u64 0, .int .i64 0]) 4 32 u_sT hi hz0 hz1 hz2 rfl (by decide) _ 0 [] rfl (World.ownsRow_lit w #[] 0 (Nat.le_refl _) (by decide) rfl) ⟨g, 0, none⟩ n cap (flat L) rfl (by rw [flat_length, hn]) (HC.out _) (flat_one' _) (by unfold maxLen; omega) (by omega) (by simp) ?_; intro v' w2 hown hgrow _; have HO3 := hid hown; have HG3 := hid hgrow; clear hown hgrow)
  go_ret
  have e1 := HO3.out
  rw [Nat.zero_add, List.nil_append, ← hn] at e1
  refine ⟨v', rfl, e1, ((Below.refl _ _).alloc (Nat.le_refl _) _).grown HG3.out (by simp) (fun r q => ?_)⟩
  obtain rfl : w.heap.size = r := by simpa [Value.ownBlock, Act.eval] using q
  exact Nat.le_refl _
theorem c_Entries (w : World) (p g room : Nat) (L : List TV) (h : TM w p g room L) : Calls Try.prog 22 #[.pointer (some ⟨p, 0, none⟩)] w fun e w' => ∃ v, e = .returned v ∧ Es w' w.heap.size v L ∧ Below w.heap.size w w' := by
  obtain ⟨Z, hZ, hl, ht⟩ := h.row
  have HZ := hid hZ
  have HT := hid ht
  have c1 := h.c1
  have h64 := h.r1
  have hn := h.len
  clear h hZ ht
  go_enter Try.func22, Try.ntmps22
  go_wp2_with (go_at_call 29; refine (c_Clone _ g L.length room L Z HZ.out HT.out rfl (by omega) hn).mono ?_; rintro e w1 ⟨v, rfl, he, hb⟩; have HE := hid he; have HB := hid hb; clear he hb)
  go_ret
  exact ⟨v, rfl, HE.out, HB.out⟩
/-- a list of entries that can be read -/
def Rd (w : World) (v : Value) (L : List TV) : Prop := ∃ ad cap, v = .slice ad L.length cap ∧ ∀ i x, L[i]? = some x → ∃ g, ad = some ⟨g, 0, none⟩ ∧ g < w.heap.size ∧ w.cell? ⟨g, i * 4, none⟩ = some (.int .i64 x.v) ∧ w.cell? ⟨g, i * 4 + 1, none⟩ = some (.int .u64 x.p) ∧ w.cell? ⟨g, i * 4 + 2, none⟩ = some (.int .u64 x.f) ∧ w.cell? ⟨g, i * 4 + 3, none⟩ = some (.int .i64 x.r)
theorem Rd.below {w w' : World} {v : Value} {L : List TV} (h : Rd w v L) (hb : Below w.heap.size w w') : Rd w' v L := by
  obtain ⟨ad, cap, rfl, hc⟩ := h
  refine ⟨ad, cap, rfl, fun i x hx => ?_⟩
  obtain ⟨g, e, hg, h0⟩ := hc i x hx
  have e1 : ∀ o, w'.cell? ⟨g, o, none⟩ = w.cell? ⟨g, o, none⟩ := fun o => World.cell?_of_block (w := w) (hb.block g hg)
  refine ⟨g, e, Nat.lt_of_lt_of_le hg hb.size, ?_⟩
  rw [e1, e1, e1, e1]; exact h0
theorem Es.rd {w : World} {base : Nat} {v : Value} {L : List TV} (h : Es w base v L) : Rd w v L := by
  rcases h.2 with ⟨rfl, hn⟩ | ⟨g, cap, cur, rfl, hbg, hg, hnc, hcm, hcs, ht⟩
  · obtain rfl : L = [] := List.eq_nil_of_length_eq_zero hn
    exact ⟨none, 0, rfl, fun i x hx => by simp at hx⟩
  · refine ⟨_, cap, rfl, fun i x hx => ⟨g, rfl, lt_of_block hg, ?_⟩⟩
    have hi : i < L.length := (List.getElem?_eq_some_iff.1 hx).1
    have e : ∀ j, j < 4 → w.cell? ⟨g, i * 4 + j, none⟩ = x.cs[j]? := fun j hj => by
      rw [cell_of_row w g _ _ _ _ hg, ← flat_get L i x hx j hj, ← ht, List.getElem?_take, if_pos (by omega)]
      simp
    exact ⟨e 0 (by decide), e 1 (by decide), e 2 (by decide), e 3 (by decide)⟩
set_option maxHeartbeats 1000000 in
theorem c_Same (w : World) (a b : Value) (L : List TV) (ha : Rd w a L) (hb : Rd w b L) (hl : L.length ≤ 64) : Calls Try.prog 21 #[a, b] w fun e w' => e = .returned (.bool true) ∧ Still w w' := by
  obtain ⟨ad, ca, rfl, ha⟩ := ha
  obtain ⟨bd, cb, rfl, hb⟩ := hb
  have HA := hid ha
  have HB := hid hb
  have heq := run_eqT
  clear ha hb
  go_enter Try.func21, Try.ntmps21
  go_wp2_with fail
  go_loopw [5] (fun i wr => ∃ (k : Nat), k ≤ L.length ∧ i = .int .i64 k ∧ Still w wr) (fun i _ => L.length - (intOf i).toNat)
  case atStart => exact ⟨0, by omega, rfl, Still.refl w⟩
  case round =>
    obtain ⟨k, hk, rfl, hs⟩ := hrel
    have HS := hid hs
    have HC := hid hs.cell
    clear hs
    by_cases hlt : k < L.length
    · obtain ⟨x, hx⟩ : ∃ x, L[k]? = some x := ⟨_, List.getElem?_eq_getElem hlt⟩
      obtain ⟨g, rfl, hg, a0, a1, a2, a3⟩ := HA.out k x hx
      obtain ⟨g', rfl, hg', b0, b1, b2, b3⟩ := HB.out k x hx
      rw [← HC.out] at a0 a1 a2 a3 b0 b1 b2 b3
      have hq := run_eqT x wr
      have hq2 := fun n => run_eqT x (wr.drewN n)
      clear hx
      go_wp2_with fail
      go_quiet (fail)
      go_wp2_with fail
      go_roundw
      case rel => exact ⟨k + 1, by omega, by go_num, ⟨HS.out.heap, HS.out.os, HS.out.tape, HS.out.output⟩⟩
      case measure => simp [intOf]; omega
    · obtain rfl : k = L.length := by omega
      go_wp2_with fail
      go_ret
      exact ⟨rfl, HS.out⟩
end Go.Proofs.Ytgenjhcpcjhpmaa
