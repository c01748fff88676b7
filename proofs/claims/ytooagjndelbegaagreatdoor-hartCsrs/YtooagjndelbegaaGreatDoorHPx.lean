/- A core and the document's, of a case without cells and entries. -/
import Derived.Test.YtooagjndelbegaaGreatDoorHO
namespace Go.Proofs.YtooagjndelbegaaGreatDoor
open Go.RowKit
open C (Only)
set_option linter.unusedVariables false
set_option maxRecDepth 100000

/-- a case: four bytes of code at block cb, a hart -/
def caseL (h : HV) (cb : Nat) : List Value := [.int .u64 2147483648, .int .i64 0, .slice (some ⟨cb, 0, none⟩) 4 4, .slice none 0 0, .int .u64 0, .int .i64 0, .slice none 0 0] ++ (h.cs ++ [.int .u64 0])
def caseA (h : HV) (cb : Nat) : Array Value := (caseL h cb).toArray
/-- a core over a memory that holds the bytes -/
def BothPost (w : World) (s : Nat → Int) (e : Ending) (w' : World) : Prop := ∃ c x t p q S, e = .returned (.tuple #[.pointer (some ⟨c, 0, none⟩), .pointer (some ⟨x, 0, none⟩), .pointer (some ⟨t, 0, none⟩), .agg #[.pointer (some ⟨p, 0, none⟩), .pointer (some ⟨q, 0, none⟩)], .bool true]) ∧ Cr w' c ⟨p, t, 0, 0⟩ ∧ C.Mem w' S p 2147483648 1 (C.put (fun _ => 0) 0 4 s) ∧ Below w.heap.size w w' ∧ w.heap.size ≤ c
/-- the three blocks that both makes first -/
structure Bx (w u : World) (h : HV) (cb r p q : Nat) : Prop where
  a : u.heap[w.heap.size]? = some (.cells (caseA h cb) 30 (0, 0))
  b : u.heap[w.heap.size + 1]? = some (.cells #[.pointer none, .pointer none] 37 (0, 0))
  c : u.heap[r]? = some (.cells #[.pointer (some ⟨p, 0, none⟩), .pointer (some ⟨q, 0, none⟩)] 37 (0, 0))
theorem Bx.below {w u u' : World} {h : HV} {cb r p q : Nat} (x : Bx w u h cb r p q) (hb : Below u.heap.size u u') : Bx w u' h cb r p q := ⟨(hb.block _ (lt_of_block x.a)).trans x.a, (hb.block _ (lt_of_block x.b)).trans x.b, (hb.block _ (lt_of_block x.c)).trans x.c⟩
theorem Bx.only {w u u' : World} {h : HV} {cb r p q : Nat} {T : Nat → Prop} (x : Bx w u h cb r p q) (ho : Only T u u') (h1 : ¬ T w.heap.size) (h2 : ¬ T (w.heap.size + 1)) (h3 : ¬ T r) : Bx w u' h cb r p q := ⟨ho.old x.a h1, ho.old x.b h2, ho.old x.c h3⟩
set_option maxHeartbeats 4000000 in
theorem m_both0 (w : World) (h : HV) (cb : Nat) (s : Nat → Int) (hs0 : ∀ j, 0 ≤ s j ∧ s j < 256) (hcb : cb < w.heap.size) (hsrc : ∀ j, j < 4 → w.cell? ⟨cb, j, none⟩ = some (.int .u8 (s j))) :
    Calls Tryz.prog 9 #[.agg (caseA h cb)] w (BothPost w s) := by
  have sz : (caseA h cb).size = 57 := rfl
  have c0 : ∀ p : 0 < (caseA h cb).size, (caseA h cb)[0]'p = .int .u64 2147483648 := fun _ => rfl
  have c2 : ∀ p : 2 < (caseA h cb).size, (caseA h cb)[2]'p = .slice (some ⟨cb, 0, none⟩) 4 4 := fun _ => rfl
  have HFL : Hid (∀ w3 wr, Below wr.heap.size wr w3 → (∀ j, j < 4 → wr.cell? ⟨cb, j, none⟩ = some (.int .u8 (s j))) → ∀ {S T : Nat → Prop} {p q : Nat}, Tb wr S T p q 2147483648 1 (fun _ => 0) → cb < wr.heap.size → (∀ k, S k ∨ T k → w.heap.size + 2 ≤ k) → Calls Tryz.prog 31 #[.agg #[.pointer (some ⟨p, 0, none⟩), .pointer (some ⟨q, 0, none⟩)], .int .u64 2147483648, .slice (some ⟨cb, 0, none⟩) 4 4] w3 (TFillPost w3 S T p q 2147483648 1 (C.put (fun _ => 0) 0 4 s))) := fun w3 wr hb hs {S T p q} ht hc hn =>
    m_TFill w3 S T p q 2147483648 1 _ (ht.below hb) cb 4 4 s hs0 (by decide) (by decide) (by decide) 0 (by decide) _ rfl (Nat.lt_of_lt_of_le hc hb.size) (fun z => by have := hn _ (.inl z); omega) (fun z => by have := hn _ (.inr z); omega) (fun j hj => (hb.cell (p := ⟨cb, j, none⟩) hc).trans (hs j hj))
  go_enter Tryz.func9, Tryz.ntmps9
  go_wp2
  refine wp_region_any (by kernel_rfl) ?_
  refine C.wpAny_inv (fun listed fr wr => ∃ (b0 b1 b2 b3 b4 b5 b6 b7 b8 b9 b10 b11 b12 b13 : Bool) (r : Nat) (p : Nat) (q : Nat) (S : Nat → Prop) (T : Nat → Prop), listed = #[b0, b1, b2, b3, b4, b5, b6, b7, b8, b9, b10, b11, b12, b13] ∧ fr = { tmps := #[.agg (caseA h cb), .pointer (some ⟨w.heap.size, 0, none⟩), .pointer none, .pointer none, .pointer none, .pointer (some ⟨w.heap.size + 1, 0, none⟩), .bool false, .int .u64 2147483648, C.svd b11 (.pointer (some ⟨r, 0, none⟩)) (undef), C.svd b13 (.bool true) (undef), undef, undef, undef, undef, undef, undef, undef, .pointer (some ⟨w.heap.size, 0, none⟩), .int .u64 2147483648, .int .u64 2147483648, .int .u64 524288, .int .u64 2147483648, C.svd b8 (.tuple #[.agg #[.pointer (some ⟨p, 0, none⟩), .pointer (some ⟨q, 0, none⟩)], .bool true]) (undef), C.svd b0 (.int .u64 2147483648) (undef), C.svd b1 (.pointer (some ⟨w.heap.size, 1, none⟩)) (undef), C.svd b2 (.int .i64 0) (undef), C.svd b3 (.int .i64 0) (undef), C.svd b4 (.int .i64 1) (undef), C.svd b5 (.pointer (some ⟨w.heap.size, 3, none⟩)) (undef), C.svd b6 (.slice none 0 0) (undef), C.svd b7 (.tuple #[.agg #[.pointer (some ⟨p, 0, none⟩), .pointer (some ⟨q, 0, none⟩)], .bool true]) (undef), C.svd b9 (.agg #[.pointer (some ⟨p, 0, none⟩), .pointer (some ⟨q, 0, none⟩)]) (undef), C.svd b10 (.bool true) (undef), undef, undef, undef, undef, undef, undef, undef, undef, undef, undef, undef, undef, undef, undef, undef, undef, undef, undef, undef, undef, undef, undef, undef, undef, undef, undef, undef, undef, undef, undef, undef, undef, undef, undef, undef, undef, undef, undef, undef, undef, undef, undef, undef, undef, undef, undef, undef, undef, undef, undef, undef, undef, undef, undef, undef, undef, undef, undef, undef, undef, undef, undef, undef, undef, undef, undef, undef, undef, undef, undef, undef, undef, undef, undef, undef, undef], defers := [] } ∧ Below ((w.alloc (.cells (caseA h cb) 30)).alloc (.cells #[.pointer none, .pointer none] 37)).heap.size ((w.alloc (.cells (caseA h cb) 30)).alloc (.cells #[.pointer none, .pointer none] 37)) wr ∧ (b7 = true → Tb wr S T p q 2147483648 1 (fun _ => 0) ∧ ∀ k, S k ∨ T k → ((w.alloc (.cells (caseA h cb) 30)).alloc (.cells #[.pointer none, .pointer none] 37)).heap.size ≤ k) ∧ (b11 = true → ((w.alloc (.cells (caseA h cb) 30)).alloc (.cells #[.pointer none, .pointer none] 37)).heap.size ≤ r ∧ wr.heap[r]? = some (.cells (C.svd b12 (.agg #[.pointer (some ⟨p, 0, none⟩), .pointer (some ⟨q, 0, none⟩)]) (.agg #[.pointer none, .pointer none])).cells 37 (0, 0)) ∧ (b7 = true → ¬ (S r ∨ T r))) ∧ (b12 = true → b7 = true ∧ b11 = true) ∧ (b8 = true → b7 = true) ∧ (b9 = true → b8 = true)) ?step ?fin _ _ _ _ (by simp) ?start
  case start => exact ⟨false, false, false, false, false, false, false, false, false, false, false, false, false, false, 0, 0, 0, (fun _ => False), (fun _ => False), rfl, rfl, (Below.refl _ _).drew, (fun h => by cases h), (fun h => by cases h), (fun h => by cases h), (fun h => by cases h), fun h => by cases h⟩
  case fin =>
    rintro listed fr wr ⟨b0, b1, b2, b3, b4, b5, b6, b7, b8, b9, b10, b11, b12, b13, r, p, q, S, T, rfl, rfl, hR⟩ hr
    obtain rfl : b0 = true := by
      cases b0 with
      | true => rfl
      | false => exact (C.ready_no hr (j := 0) rfl rfl (by kernel_rfl)).elim
    obtain rfl : b1 = true := by
      cases b1 with
      | true => rfl
      | false => exact (C.ready_no hr (j := 1) rfl rfl (by kernel_rfl)).elim
    obtain rfl : b2 = true := by
      cases b2 with
      | true => rfl
      | false => exact (C.ready_no hr (j := 2) rfl rfl (by kernel_rfl)).elim
    obtain rfl : b3 = true := by
      cases b3 with
      | true => rfl
      | false => exact (C.ready_no hr (j := 3) rfl rfl (by kernel_rfl)).elim
    obtain rfl : b4 = true := by
      cases b4 with
      | true => rfl
      | false => exact (C.ready_no hr (j := 4) rfl rfl (by kernel_rfl)).elim
    obtain rfl : b5 = true := by
      cases b5 with
      | true => rfl
      | false => exact (C.ready_no hr (j := 5) rfl rfl (by kernel_rfl)).elim
    obtain rfl : b6 = true := by
      cases b6 with
      | true => rfl
      | false => exact (C.ready_no hr (j := 6) rfl rfl (by kernel_rfl)).elim
    obtain rfl : b7 = true := by
      cases b7 with
      | true => rfl
      | false => exact (C.ready_no hr (j := 7) rfl rfl (by kernel_rfl)).elim
    obtain rfl : b8 = true := by
      cases b8 with
      | true => rfl
      | false => exact (C.ready_no hr (j := 8) rfl rfl (by kernel_rfl)).elim
    obtain rfl : b9 = true := by
      cases b9 with
      | true => rfl
      | false => exact (C.ready_no hr (j := 9) rfl rfl (by kernel_rfl)).elim
    obtain rfl : b10 = true := by
      cases b10 with
      | true => rfl
      | false => exact (C.ready_no hr (j := 10) rfl rfl (by kernel_rfl)).elim
    obtain rfl : b11 = true := by
      cases b11 with
      | true => rfl
      | false => exact (C.ready_no hr (j := 11) rfl rfl (by kernel_rfl)).elim
    obtain rfl : b12 = true := by
      cases b12 with
      | true => rfl
      | false => exact (C.ready_no hr (j := 12) rfl rfl (by kernel_rfl)).elim
    obtain rfl : b13 = true := by
      cases b13 with
      | true => rfl
      | false => exact (C.ready_no hr (j := 13) rfl rfl (by kernel_rfl)).elim
    clear hr
    simp only [C.svd]
    obtain ⟨hB, hM, hQ, _, _, _⟩ := hR
    obtain ⟨ht, htl⟩ := hM rfl
    obtain ⟨hq1, hq2, hq3⟩ := hQ rfl
    have hx : Bx w wr h cb r p q := ⟨(hB.block _ (by simp; omega)).trans (heap2 _ _ _), (hB.block _ (by simp)).trans (heap2' _ _ _), hq2⟩
    have hcbr : cb < wr.heap.size := by have := hB.size; simp at this; omega
    have hsr : ∀ j, j < 4 → wr.cell? ⟨cb, j, none⟩ = some (.int .u8 (s j)) := fun j hj => ((hB.cell (p := ⟨cb, j, none⟩) (by show cb < _; simp; omega)).trans ((World.cell?_alloc_past _ _ _ (by simp; omega)).trans (World.cell?_alloc_past _ _ _ hcb))).trans (hsrc j hj)
    have HX := C.hid hx
    have HT := C.hid ht
    have HTL := C.hid htl
    have HNR := C.hid (hq3 rfl)
    have HSR := C.hid hsr
    have HWB := C.hid ((((Below.refl w.heap.size w).alloc (Nat.le_refl _) (.cells (caseA h cb) 30)).alloc (by simp) (.cells #[.pointer none, .pointer none] 37)).trans (hB.mono (by simp; omega)))
    have hrl : w.heap.size + 2 ≤ r := by simpa using hq1
    have HTL2 : Hid (∀ k, S k ∨ T k → w.heap.size + 2 ≤ k) := fun k hk => by simpa using htl k hk
    clear hB hM hQ ht htl hq1 hq2 hq3 hx hsr hsrc
    go_wp2_with (first
      | (go_at_call 29; refine (E.c_New wr 8 (by decide) (by decide) 8 rfl).mono ?_; rintro e w2 ⟨pt, gt, rfl, htm, hb2, hft⟩; have HTM := C.hid htm; have HB2 := C.hid hb2; have HFT := C.hid hft; clear htm hb2 hft)
      | (go_at_call 30; refine (m_refNew8 w2).mono ?_; rintro e w3 ⟨rfl, hb3⟩; have hb23 := HB2.out.trans (hb3.mono HB2.out.size); have hx3 := HX.out.below hb23; have g2 : w3.cell? ⟨w.heap.size, 2, none⟩ = some (.slice (some ⟨cb, 0, none⟩) 4 4) := cell_of_row _ _ 2 _ _ _ hx3.a; have v0 : w3.cell? ⟨r, 0, none⟩ = some (.pointer (some ⟨p, 0, none⟩)) := cell_of_row _ _ 0 _ _ _ hx3.c; have v1 : w3.cell? ⟨r, 1, none⟩ = some (.pointer (some ⟨q, 0, none⟩)) := cell_of_row _ _ 1 _ _ _ hx3.c; have HB3 := C.hid hb3; have HB23 := C.hid hb23; have HX3 := C.hid hx3; clear hb3 hb23 hx3)
      | (go_at_call 31; refine (HFL.out w3 wr HB23.out HSR.out HT.out hcbr HTL2.out).mono ?_; rintro e w4 ⟨S4, T4, rfl, ht4, ho4, hs4⟩; have hx4 := HX3.out.only ho4 (fun z => by have := HTL2.out _ z; omega) (fun z => by have := HTL2.out _ z; omega) HNR.out; have g6 : w4.cell? ⟨w.heap.size, 6, none⟩ = some (.slice none 0 0) := cell_of_row _ _ 6 _ _ _ hx4.a; have u0 : w4.cell? ⟨r, 0, none⟩ = some (.pointer (some ⟨p, 0, none⟩)) := cell_of_row _ _ 0 _ _ _ hx4.c; have HT4 := C.hid ht4; have HO4 := C.hid ho4; have HS4 := C.hid hs4; have HX4 := C.hid hx4; clear ht4 ho4 hs4 hx4))
    go_loop [15] (fun i => i = .int .i64 0) (fun _ => 0)
    case atStart => rfl
    case round =>
      subst hrel
      go_wp2_with (first
        | (go_at_call 34; refine (m_NewC w4 p pt).mono ?_; rintro e w5 ⟨rfl, hw5⟩; have hx5 : Bx w w5 h cb r p q := (by rw [hw5]; exact HX4.out.below ((Below.refl _ _).alloc (Nat.le_refl _) _)); have hk5 : w5.heap[w4.heap.size]? = some (.cells (CV.cells ⟨p, pt, 0, 0⟩ 0 0 (.map none)) 118 (0, 0)) := (by rw [hw5]; exact heap_alloc_new _ _); have g4 : w5.cell? ⟨w.heap.size, 4, none⟩ = some (.int .u64 0) := cell_of_row _ _ 4 _ _ _ hx5.a; have g5 : w5.cell? ⟨w.heap.size, 5, none⟩ = some (.int .i64 0) := cell_of_row _ _ 5 _ _ _ hx5.a; have HX5 := C.hid hx5; have HK5 := C.hid hk5; have HW5 := C.hid hw5; clear hw5 hx5 hk5)
        | (go_at_call 35; refine (m_EnterC w5 w4.heap.size p pt 0 0 0 0 HK5.out).mono ?_; rintro e w6 ⟨rfl, hk6, ho6⟩; have HK6 := C.hid hk6; have HO6 := C.hid ho6; clear hk6 ho6))
      have HX6 := C.hid (HX5.out.only HO6.out (by have := lt_of_block HX4.out.a; omega) (by have := lt_of_block HX4.out.b; omega) (by have := lt_of_block HX4.out.c; omega))
      clear g4 g5 g6 u0
      refine wp_region_any (by kernel_rfl) ?_
      refine C.wpAny_inv (fun listed fr wr => ∃ (b0 b1 b2 b3 b4 b5 b6 b7 b8 b9 b10 b11 b12 b13 b14 b15 b16 : Bool) (x : Nat), listed = #[b0, b1, b2, b3, b4, b5, b6, b7, b8, b9, b10, b11, b12, b13, b14, b15, b16] ∧ fr = { tmps := #[Value.agg (caseA h cb), Value.pointer (some { block := w.heap.size, off := 0 }), C.svd b12 (.pointer (some ⟨w4.heap.size, 0, none⟩)) (Value.pointer none), C.svd b13 (.pointer (some ⟨x, 0, none⟩)) (Value.pointer none), C.svd b14 (.pointer (some ⟨pt, 0, none⟩)) (Value.pointer none), Value.pointer (some { block := w.heap.size + 1, off := 0 }), C.svd b16 (.bool true) (Value.bool false), Value.int IntKind.u64 2147483648, Value.pointer (some { block := r, off := 0 }), Value.bool true, Value.pointer (some { block := pt, off := 0 }), Value.int IntKind.i64 0, Value.pointer (some { block := w2.heap.size, off := 0 }), Value.int IntKind.i64 0, Value.slice (some { block := cb, off := 0 }) 4 4, Value.int IntKind.i64 0, Value.pointer (some { block := w4.heap.size, off := 0 }), Value.pointer (some { block := w.heap.size, off := 0 }), Value.int IntKind.u64 2147483648, Value.int IntKind.u64 2147483648, Value.int IntKind.u64 524288, Value.int IntKind.u64 2147483648, Value.tuple #[Value.agg #[Value.pointer (some { block := p, off := 0 }), Value.pointer (some { block := q, off := 0 })], Value.bool true], Value.int IntKind.u64 2147483648, Value.pointer (some { block := w.heap.size, off := 1 }), Value.int IntKind.i64 0, Value.int IntKind.i64 0, Value.int IntKind.i64 1, Value.pointer (some { block := w.heap.size, off := 3 }), Value.slice none 0 0, Value.tuple #[Value.agg #[Value.pointer (some { block := p, off := 0 }), Value.pointer (some { block := q, off := 0 })], Value.bool true], Value.agg #[Value.pointer (some { block := p, off := 0 }), Value.pointer (some { block := q, off := 0 })], Value.bool true, Value.tuple #[Value.pointer (some { block := pt, off := 0 }), Value.int IntKind.i64 0], Value.tuple #[Value.pointer (some { block := pt, off := 0 }), Value.int IntKind.i64 0], Value.pointer (some { block := pt, off := 0 }), Value.int IntKind.i64 0, Value.tuple #[Value.pointer (some { block := w2.heap.size, off := 0 }), Value.int IntKind.i64 0], Value.tuple #[Value.pointer (some { block := w2.heap.size, off := 0 }), Value.int IntKind.i64 0], Value.pointer (some { block := w2.heap.size, off := 0 }), Value.int IntKind.i64 0, Value.bool true, Value.bool false, Value.bool false, Value.int IntKind.i64 0, Value.bool false, Value.bool false, Value.bool false, Value.pointer (some { block := pt, off := 0 }), Value.bool false, Value.bool false, undef, Value.pointer (some { block := w.heap.size, off := 2 }), Value.slice (some { block := cb, off := 0 }) 4 4, Value.slice (some { block := cb, off := 0 }) 4 4, Value.int IntKind.i64 4, Value.bool false, undef, undef, Value.agg #[Value.pointer (some { block := p, off := 0 }), Value.pointer (some { block := q, off := 0 })], Value.int IntKind.u64 2147483648, Value.slice (some { block := cb, off := 0 }) 4 4, Value.tuple #[], Value.int IntKind.i64 0, Value.pointer (some { block := w.heap.size, off := 6 }), Value.slice none 0 0, Value.int IntKind.i64 0, Value.bool false, u68, u69, u70, u71, u72, u73, u74, u75, u76, u77, u78, u79, u80, u81, u82, u83, Value.pointer (some { block := r, off := 0 }), Value.pointer (some { block := p, off := 0 }), Value.pointer (some { block := pt, off := 0 }), Value.pointer (some { block := w4.heap.size, off := 0 }), Value.pointer (some { block := w4.heap.size, off := 0 }), Value.bool false, undef, Value.pointer (some { block := w4.heap.size, off := 0 }), Value.pointer (some { block := w.heap.size, off := 4 }), Value.int IntKind.u64 0, Value.pointer (some { block := w.heap.size, off := 5 }), Value.int IntKind.i64 0, Value.tuple #[], C.svd b0 (.pointer (some ⟨w4.heap.size, 0, none⟩)) (undef), C.svd b1 (.pointer (some ⟨r, 1, none⟩)) (undef), C.svd b2 (.pointer (some ⟨q, 0, none⟩)) (undef), C.svd b3 (.pointer (some ⟨w2.heap.size, 0, none⟩)) (undef), C.svd b4 (.pointer (some ⟨w.heap.size, 4, none⟩)) (undef), C.svd b5 (.int .u64 0) (undef), C.svd b6 (.pointer (some ⟨w.heap.size, 5, none⟩)) (undef), C.svd b7 (.int .i64 0) (undef), C.svd b8 (.agg #[.pointer (some ⟨q, 0, none⟩), .pointer (some ⟨w2.heap.size, 0, none⟩), .int .u64 0, .int .i64 0, .bool false]) (undef), C.svd b9 (.pointer (some ⟨x, 0, none⟩)) (undef), C.svd b10 (.pointer (some ⟨pt, 0, none⟩)) (undef), C.svd b11 (.agg #[.pointer (some ⟨p, 0, none⟩), .pointer (some ⟨q, 0, none⟩)]) (undef)], defers := [] } ∧ Only (· = w.heap.size + 1) w6 wr ∧ wr.heap[w.heap.size + 1]? = some (.cells (C.svd b15 (.agg #[.pointer (some ⟨p, 0, none⟩), .pointer (some ⟨q, 0, none⟩)]) (.agg #[.pointer none, .pointer none])).cells 37 (0, 0)) ∧ (b13 = true → b9 = true)) ?stepB ?finB _ _ _ _ (by simp) ?startB
      case startB => exact ⟨false, false, false, false, false, false, false, false, false, false, false, false, false, false, false, false, false, 0, rfl, rfl, (Only.refl _).drew, HX6.out.b, fun h => by cases h⟩
      case finB =>
        rintro listed fr wr ⟨b0, b1, b2, b3, b4, b5, b6, b7, b8, b9, b10, b11, b12, b13, b14, b15, b16, x, rfl, rfl, hR⟩ hr
        obtain rfl : b0 = true := by
          cases b0 with
          | true => rfl
          | false => exact (C.ready_no hr (j := 0) rfl rfl (by kernel_rfl)).elim
        obtain rfl : b1 = true := by
          cases b1 with
          | true => rfl
          | false => exact (C.ready_no hr (j := 1) rfl rfl (by kernel_rfl)).elim
        obtain rfl : b2 = true := by
          cases b2 with
          | true => rfl
          | false => exact (C.ready_no hr (j := 2) rfl rfl (by kernel_rfl)).elim
        obtain rfl : b3 = true := by
          cases b3 with
          | true => rfl
          | false => exact (C.ready_no hr (j := 3) rfl rfl (by kernel_rfl)).elim
        obtain rfl : b4 = true := by
          cases b4 with
          | true => rfl
          | false => exact (C.ready_no hr (j := 4) rfl rfl (by kernel_rfl)).elim
        obtain rfl : b5 = true := by
          cases b5 with
          | true => rfl
          | false => exact (C.ready_no hr (j := 5) rfl rfl (by kernel_rfl)).elim
        obtain rfl : b6 = true := by
          cases b6 with
          | true => rfl
          | false => exact (C.ready_no hr (j := 6) rfl rfl (by kernel_rfl)).elim
        obtain rfl : b7 = true := by
          cases b7 with
          | true => rfl
          | false => exact (C.ready_no hr (j := 7) rfl rfl (by kernel_rfl)).elim
        obtain rfl : b8 = true := by
          cases b8 with
          | true => rfl
          | false => exact (C.ready_no hr (j := 8) rfl rfl (by kernel_rfl)).elim
        obtain rfl : b9 = true := by
          cases b9 with
          | true => rfl
          | false => exact (C.ready_no hr (j := 9) rfl rfl (by kernel_rfl)).elim
        obtain rfl : b10 = true := by
          cases b10 with
          | true => rfl
          | false => exact (C.ready_no hr (j := 10) rfl rfl (by kernel_rfl)).elim
        obtain rfl : b11 = true := by
          cases b11 with
          | true => rfl
          | false => exact (C.ready_no hr (j := 11) rfl rfl (by kernel_rfl)).elim
        obtain rfl : b12 = true := by
          cases b12 with
          | true => rfl
          | false => exact (C.ready_no hr (j := 12) rfl rfl (by kernel_rfl)).elim
        obtain rfl : b13 = true := by
          cases b13 with
          | true => rfl
          | false => exact (C.ready_no hr (j := 13) rfl rfl (by kernel_rfl)).elim
        obtain rfl : b14 = true := by
          cases b14 with
          | true => rfl
          | false => exact (C.ready_no hr (j := 14) rfl rfl (by kernel_rfl)).elim
        obtain rfl : b15 = true := by
          cases b15 with
          | true => rfl
          | false => exact (C.ready_no hr (j := 15) rfl rfl (by kernel_rfl)).elim
        obtain rfl : b16 = true := by
          cases b16 with
          | true => rfl
          | false => exact (C.ready_no hr (j := 16) rfl rfl (by kernel_rfl)).elim
        clear hr
        simp only [C.svd]
        obtain ⟨hO, hZ, _⟩ := hR
        have z0 : wr.cell? ⟨w.heap.size + 1, 0, none⟩ = some (.pointer (some ⟨p, 0, none⟩)) := cell_of_row _ _ 0 _ _ _ hZ
        have z1 : wr.cell? ⟨w.heap.size + 1, 1, none⟩ = some (.pointer (some ⟨q, 0, none⟩)) := cell_of_row _ _ 1 _ _ _ hZ
        have HZO := C.hid hO
        clear hO hZ
        go_wp2
        have hlt4 := lt_of_block HX4.out.b
        have hS4 : ∀ k, S4 k → w.heap.size + 2 ≤ k ∧ k < w4.heap.size := fun k hk => ⟨by
          rcases HS4.out k (.inl hk) with z | z
          · exact HTL2.out k z
          · have := lt_of_block HX3.out.b; have := lt_of_block HX3.out.c; omega, C.Mem.lt HT4.out.m hk⟩
        have hw54 : w5.heap.size = w4.heap.size + 1 := by rw [HW5.out]; simp
        have m5 : C.Mem w5 S4 p 2147483648 1 (C.put (fun _ => 0) 0 4 s) := by rw [HW5.out]; exact C.Mem.below HT4.out.m ((Below.refl _ _).alloc (Nat.le_refl _) _)
        have m6 := C.Mem.only m5 HO6.out (fun k hk e => by have := hS4 k hk; omega)
        have m7 := C.Mem.only m6 HZO.out (fun k hk e => by have := hS4 k hk; omega)
        have b3 : Below w.heap.size w w3 := HWB.out.trans (HB23.out.mono HWB.out.size)
        have b4 : Below w.heap.size w w4 := b3.trans (HO4.out.below _ b3.size (fun k hk => by have := HTL2.out k hk; omega))
        have b5 : Below w.heap.size w w5 := by rw [HW5.out]; exact b4.alloc b4.size _
        have b6 : Below w.heap.size w w6 := b5.trans (HO6.out.below _ b5.size (fun k hk => by have := b4.size; omega))
        have b7 : Below w.heap.size w wr := b6.trans (HZO.out.below _ b6.size (fun k hk => by omega))
        refine bodyPost_ret (v := .tuple #[.pointer (some ⟨w4.heap.size, 0, none⟩), .pointer (some ⟨x, 0, none⟩), .pointer (some ⟨pt, 0, none⟩), .agg #[.pointer (some ⟨p, 0, none⟩), .pointer (some ⟨q, 0, none⟩)], .bool true]) (by simp [results, Tryz.results9, go_sem, z0, z1]) rfl ?_
        exact ⟨w4.heap.size, x, pt, p, q, S4, rfl, .inl (HZO.out.old HK6.out (by omega)), m7, b7, b4.size⟩
      case stepB =>
        rintro listed fr wr ⟨b0, b1, b2, b3, b4, b5, b6, b7, b8, b9, b10, b11, b12, b13, b14, b15, b16, x, rfl, rfl, hR⟩ j hj
        obtain ⟨hl, o, ho, he⟩ := mem_ready.1 hj
        clear hj
        have bx : wr.heap[w.heap.size]? = some (.cells (caseA h cb) 30 (0, 0)) := hR.1.old HX6.out.a (by omega)
        have br : wr.heap[r]? = some (.cells #[.pointer (some ⟨p, 0, none⟩), .pointer (some ⟨q, 0, none⟩)] 37 (0, 0)) := hR.1.old HX6.out.c (by omega)
        have g4 : wr.cell? ⟨w.heap.size, 4, none⟩ = some (.int .u64 0) := cell_of_row _ _ 4 _ _ _ bx
        have g5 : wr.cell? ⟨w.heap.size, 5, none⟩ = some (.int .i64 0) := cell_of_row _ _ 5 _ _ _ bx
        have r0 : wr.cell? ⟨r, 0, none⟩ = some (.pointer (some ⟨p, 0, none⟩)) := cell_of_row _ _ 0 _ _ _ br
        have r1 : wr.cell? ⟨r, 1, none⟩ = some (.pointer (some ⟨q, 0, none⟩)) := cell_of_row _ _ 1 _ _ _ br
        have HH := C.hid hR
        clear hR bx br
        have hsv : ∀ v u, C.svd true v u = v := fun _ _ => rfl
        match j, ho, hl, he with
        | 0, ho, hl, he =>
          obtain rfl := Option.some.inj ho
          simp [Region.binds] at hl he
          clear ho
          have hL := hl
          clear hl he
          subst hL
          refine wpOp_step rfl (fun K hK => ?_)
          go_simp
          refine hK _ _ ⟨true, _, _, _, _, _, _, _, _, _, _, _, _, _, _, _, _, x, rfl, ?_, HH.out⟩
          first | rfl | simp [C.svd]
        | 1, ho, hl, he =>
          obtain rfl := Option.some.inj ho
          simp [Region.binds] at hl he
          clear ho
          have hL := hl
          clear hl he
          subst hL
          refine wpOp_step rfl (fun K hK => ?_)
          go_simp
          refine hK _ _ ⟨_, true, _, _, _, _, _, _, _, _, _, _, _, _, _, _, _, x, rfl, ?_, HH.out⟩
          first | rfl | simp [C.svd]
        | 2, ho, hl, he =>
          obtain rfl := Option.some.inj ho
          simp [Region.binds] at hl he
          clear ho
          have hL := hl
          (try (have e1 : b1 = true := (by revert he; cases b1 <;> simp)))
          clear hl he
          (try subst e1)
          subst hL
          refine wpOp_step rfl (fun K hK => ?_)
          go_simp
          refine hK _ _ ⟨_, _, true, _, _, _, _, _, _, _, _, _, _, _, _, _, _, x, rfl, ?_, HH.out⟩
          first | rfl | simp [C.svd]
        | 3, ho, hl, he =>
          obtain rfl := Option.some.inj ho
          simp [Region.binds] at hl he
          clear ho
          have hL := hl
          clear hl he
          subst hL
          refine wpOp_step rfl (fun K hK => ?_)
          go_simp
          refine hK _ _ ⟨_, _, _, true, _, _, _, _, _, _, _, _, _, _, _, _, _, x, rfl, ?_, HH.out⟩
          first | rfl | simp [C.svd]
        | 4, ho, hl, he =>
          obtain rfl := Option.some.inj ho
          simp [Region.binds] at hl he
          clear ho
          have hL := hl
          clear hl he
          subst hL
          refine wpOp_step rfl (fun K hK => ?_)
          go_simp
          refine hK _ _ ⟨_, _, _, _, true, _, _, _, _, _, _, _, _, _, _, _, _, x, rfl, ?_, HH.out⟩
          first | rfl | simp [C.svd]
        | 5, ho, hl, he =>
          obtain rfl := Option.some.inj ho
          simp [Region.binds] at hl he
          clear ho
          have hL := hl
          (try (have e4 : b4 = true := (by revert he; cases b4 <;> simp)))
          clear hl he
          (try subst e4)
          subst hL
          refine wpOp_step rfl (fun K hK => ?_)
          go_simp
          refine hK _ _ ⟨_, _, _, _, _, true, _, _, _, _, _, _, _, _, _, _, _, x, rfl, ?_, HH.out⟩
          first | rfl | simp [C.svd]
        | 6, ho, hl, he =>
          obtain rfl := Option.some.inj ho
          simp [Region.binds] at hl he
          clear ho
          have hL := hl
          clear hl he
          subst hL
          refine wpOp_step rfl (fun K hK => ?_)
          go_simp
          refine hK _ _ ⟨_, _, _, _, _, _, true, _, _, _, _, _, _, _, _, _, _, x, rfl, ?_, HH.out⟩
          first | rfl | simp [C.svd]
        | 7, ho, hl, he =>
          obtain rfl := Option.some.inj ho
          simp [Region.binds] at hl he
          clear ho
          have hL := hl
          (try (have e6 : b6 = true := (by revert he; cases b6 <;> simp)))
          clear hl he
          (try subst e6)
          subst hL
          refine wpOp_step rfl (fun K hK => ?_)
          go_simp
          refine hK _ _ ⟨_, _, _, _, _, _, _, true, _, _, _, _, _, _, _, _, _, x, rfl, ?_, HH.out⟩
          first | rfl | simp [C.svd]
        | 8, ho, hl, he =>
          obtain rfl := Option.some.inj ho
          simp [Region.binds] at hl he
          clear ho
          have hL := hl
          (try (have e2 : b2 = true := (by revert he; cases b2 <;> simp)))
          (try (have e3 : b3 = true := (by revert he; cases b3 <;> simp)))
          (try (have e5 : b5 = true := (by revert he; cases b5 <;> simp)))
          (try (have e7 : b7 = true := (by revert he; cases b7 <;> simp)))
          clear hl he
          (try subst e2)
          (try subst e3)
          (try subst e5)
          (try subst e7)
          subst hL
          refine wpOp_step rfl (fun K hK => ?_)
          go_simp
          refine hK _ _ ⟨_, _, _, _, _, _, _, _, true, _, _, _, _, _, _, _, _, x, rfl, ?_, HH.out⟩
          first | rfl | simp [C.svd]
        | 9, ho, hl, he =>
          obtain rfl := Option.some.inj ho
          simp [Region.binds] at hl he
          clear ho
          have hL := hl
          (try (have e8 : b8 = true := (by revert he; cases b8 <;> simp)))
          clear hl he
          (try subst e8)
          subst hL
          refine wpOp_step rfl (fun K hK => ?_)
          go_simp
          have hb13 : b13 = false := by cases b13 with | false => rfl | true => exact absurd (HH.out.2.2 rfl) (by simp)
          subst hb13
          refine hK _ _ ⟨_, _, _, _, _, _, _, _, _, true, _, _, _, _, _, _, _, wr.heap.size, rfl, ?_, HH.out.1.alloc _, (heap_alloc_old _ _ (lt_of_block HH.out.2.1)).trans HH.out.2.1, fun _ => rfl⟩
          first | rfl | simp [C.svd]
        | 10, ho, hl, he =>
          obtain rfl := Option.some.inj ho
          simp [Region.binds] at hl he
          clear ho
          have hL := hl
          clear hl he
          subst hL
          refine wpOp_step rfl (fun K hK => ?_)
          go_simp
          refine hK _ _ ⟨_, _, _, _, _, _, _, _, _, _, true, _, _, _, _, _, _, x, rfl, ?_, HH.out⟩
          first | rfl | simp [C.svd]
        | 11, ho, hl, he =>
          obtain rfl := Option.some.inj ho
          simp [Region.binds] at hl he
          clear ho
          have hL := hl
          clear hl he
          subst hL
          refine wpOp_step rfl (fun K hK => ?_)
          go_simp
          refine hK _ _ ⟨_, _, _, _, _, _, _, _, _, _, _, true, _, _, _, _, _, x, rfl, ?_, HH.out⟩
          first | rfl | simp [C.svd]
        | 12, ho, hl, he =>
          obtain rfl := Option.some.inj ho
          simp [Region.binds] at hl he
          clear ho
          have hL := hl
          (try (have e0 : b0 = true := (by revert he; cases b0 <;> simp)))
          clear hl he
          (try subst e0)
          subst hL
          refine wpOp_step rfl (fun K hK => ?_)
          go_simp
          refine hK _ _ ⟨_, _, _, _, _, _, _, _, _, _, _, _, true, _, _, _, _, x, rfl, ?_, HH.out⟩
          first | rfl | simp [C.svd]
        | 13, ho, hl, he =>
          obtain rfl := Option.some.inj ho
          simp [Region.binds] at hl he
          clear ho
          have hL := hl
          (try (have e0 : b0 = true := (by revert he; cases b0 <;> simp)))
          (try (have e1 : b1 = true := (by revert he; cases b1 <;> simp)))
          (try (have e2 : b2 = true := (by revert he; cases b2 <;> simp)))
          (try (have e3 : b3 = true := (by revert he; cases b3 <;> simp)))
          (try (have e4 : b4 = true := (by revert he; cases b4 <;> simp)))
          (try (have e5 : b5 = true := (by revert he; cases b5 <;> simp)))
          (try (have e6 : b6 = true := (by revert he; cases b6 <;> simp)))
          (try (have e7 : b7 = true := (by revert he; cases b7 <;> simp)))
          (try (have e8 : b8 = true := (by revert he; cases b8 <;> simp)))
          (try (have e9 : b9 = true := (by revert he; cases b9 <;> simp)))
          (try (have e12 : b12 = true := (by revert he; cases b12 <;> simp)))
          clear hl he
          (try subst e0)
          (try subst e1)
          (try subst e2)
          (try subst e3)
          (try subst e4)
          (try subst e5)
          (try subst e6)
          (try subst e7)
          (try subst e8)
          (try subst e9)
          (try subst e12)
          subst hL
          refine wpOp_step rfl (fun K hK => ?_)
          go_simp
          refine hK _ _ ⟨_, _, _, _, _, _, _, _, _, _, _, _, _, true, _, _, _, x, rfl, ?_, HH.out.1, HH.out.2.1, fun _ => rfl⟩
          first | rfl | simp [C.svd]
        | 14, ho, hl, he =>
          obtain rfl := Option.some.inj ho
          simp [Region.binds] at hl he
          clear ho
          have hL := hl
          (try (have e0 : b0 = true := (by revert he; cases b0 <;> simp)))
          (try (have e1 : b1 = true := (by revert he; cases b1 <;> simp)))
          (try (have e2 : b2 = true := (by revert he; cases b2 <;> simp)))
          (try (have e3 : b3 = true := (by revert he; cases b3 <;> simp)))
          (try (have e4 : b4 = true := (by revert he; cases b4 <;> simp)))
          (try (have e5 : b5 = true := (by revert he; cases b5 <;> simp)))
          (try (have e6 : b6 = true := (by revert he; cases b6 <;> simp)))
          (try (have e7 : b7 = true := (by revert he; cases b7 <;> simp)))
          (try (have e8 : b8 = true := (by revert he; cases b8 <;> simp)))
          (try (have e9 : b9 = true := (by revert he; cases b9 <;> simp)))
          (try (have e10 : b10 = true := (by revert he; cases b10 <;> simp)))
          (try (have e12 : b12 = true := (by revert he; cases b12 <;> simp)))
          (try (have e13 : b13 = true := (by revert he; cases b13 <;> simp)))
          clear hl he
          (try subst e0)
          (try subst e1)
          (try subst e2)
          (try subst e3)
          (try subst e4)
          (try subst e5)
          (try subst e6)
          (try subst e7)
          (try subst e8)
          (try subst e9)
          (try subst e10)
          (try subst e12)
          (try subst e13)
          subst hL
          refine wpOp_step rfl (fun K hK => ?_)
          go_simp
          refine hK _ _ ⟨_, _, _, _, _, _, _, _, _, _, _, _, _, _, true, _, _, x, rfl, ?_, HH.out⟩
          first | rfl | simp [C.svd]
        | 15, ho, hl, he =>
          obtain rfl := Option.some.inj ho
          simp [Region.binds] at hl he
          clear ho
          have hL := hl
          (try (have e0 : b0 = true := (by revert he; cases b0 <;> simp)))
          (try (have e1 : b1 = true := (by revert he; cases b1 <;> simp)))
          (try (have e2 : b2 = true := (by revert he; cases b2 <;> simp)))
          (try (have e3 : b3 = true := (by revert he; cases b3 <;> simp)))
          (try (have e4 : b4 = true := (by revert he; cases b4 <;> simp)))
          (try (have e5 : b5 = true := (by revert he; cases b5 <;> simp)))
          (try (have e6 : b6 = true := (by revert he; cases b6 <;> simp)))
          (try (have e7 : b7 = true := (by revert he; cases b7 <;> simp)))
          (try (have e8 : b8 = true := (by revert he; cases b8 <;> simp)))
          (try (have e9 : b9 = true := (by revert he; cases b9 <;> simp)))
          (try (have e10 : b10 = true := (by revert he; cases b10 <;> simp)))
          (try (have e11 : b11 = true := (by revert he; cases b11 <;> simp)))
          (try (have e12 : b12 = true := (by revert he; cases b12 <;> simp)))
          (try (have e13 : b13 = true := (by revert he; cases b13 <;> simp)))
          (try (have e14 : b14 = true := (by revert he; cases b14 <;> simp)))
          clear hl he
          (try subst e0)
          (try subst e1)
          (try subst e2)
          (try subst e3)
          (try subst e4)
          (try subst e5)
          (try subst e6)
          (try subst e7)
          (try subst e8)
          (try subst e9)
          (try subst e10)
          (try subst e11)
          (try subst e12)
          (try subst e13)
          (try subst e14)
          subst hL
          have y0 : wr.cell? ⟨w.heap.size + 1, 0, none⟩ = some (.pointer none) := cell_of_row _ _ 0 _ _ _ HH.out.2.1
          have y1 : wr.cell? ⟨w.heap.size + 1, 1, none⟩ = some (.pointer none) := cell_of_row _ _ 1 _ _ _ HH.out.2.1
          have yf : ∀ k, wr.frozen? ⟨w.heap.size + 1, k, none⟩ = false := fun k => frozen_of_row _ _ k _ _ HH.out.2.1
          refine wpOp_step rfl (fun K hK => ?_)
          go_simp
          refine hK _ _ ⟨_, _, _, _, _, _, _, _, _, _, _, _, _, _, _, true, _, x, rfl, ?_, (HH.out.1.setCell (.inl rfl) _).setCell (.inl rfl) _, ?_, HH.out.2.2⟩
          · first | rfl | simp [C.svd]
          · exact setCell_row _ (w.heap.size + 1) 1 _ #[.pointer (some ⟨p, 0, none⟩), .pointer (some ⟨q, 0, none⟩)] 37 (.pointer (some ⟨q, 0, none⟩)) (setCell_row wr (w.heap.size + 1) 0 _ #[.pointer (some ⟨p, 0, none⟩), .pointer none] 37 (.pointer (some ⟨p, 0, none⟩)) HH.out.2.1 rfl) rfl
        | 16, ho, hl, he =>
          obtain rfl := Option.some.inj ho
          simp [Region.binds] at hl he
          clear ho
          have hL := hl
          (try (have e0 : b0 = true := (by revert he; cases b0 <;> simp)))
          (try (have e1 : b1 = true := (by revert he; cases b1 <;> simp)))
          (try (have e2 : b2 = true := (by revert he; cases b2 <;> simp)))
          (try (have e3 : b3 = true := (by revert he; cases b3 <;> simp)))
          (try (have e4 : b4 = true := (by revert he; cases b4 <;> simp)))
          (try (have e5 : b5 = true := (by revert he; cases b5 <;> simp)))
          (try (have e6 : b6 = true := (by revert he; cases b6 <;> simp)))
          (try (have e7 : b7 = true := (by revert he; cases b7 <;> simp)))
          (try (have e8 : b8 = true := (by revert he; cases b8 <;> simp)))
          (try (have e9 : b9 = true := (by revert he; cases b9 <;> simp)))
          (try (have e10 : b10 = true := (by revert he; cases b10 <;> simp)))
          (try (have e11 : b11 = true := (by revert he; cases b11 <;> simp)))
          (try (have e12 : b12 = true := (by revert he; cases b12 <;> simp)))
          (try (have e13 : b13 = true := (by revert he; cases b13 <;> simp)))
          (try (have e14 : b14 = true := (by revert he; cases b14 <;> simp)))
          (try (have e15 : b15 = true := (by revert he; cases b15 <;> simp)))
          clear hl he
          (try subst e0)
          (try subst e1)
          (try subst e2)
          (try subst e3)
          (try subst e4)
          (try subst e5)
          (try subst e6)
          (try subst e7)
          (try subst e8)
          (try subst e9)
          (try subst e10)
          (try subst e11)
          (try subst e12)
          (try subst e13)
          (try subst e14)
          (try subst e15)
          subst hL
          refine wpOp_step rfl (fun K hK => ?_)
          go_simp
          refine hK _ _ ⟨_, _, _, _, _, _, _, _, _, _, _, _, _, _, _, _, true, x, rfl, ?_, HH.out⟩
          first | rfl | simp [C.svd]
        | k + 17, ho, hl, he => simp at ho
  case step =>
    rintro listed fr wr ⟨b0, b1, b2, b3, b4, b5, b6, b7, b8, b9, b10, b11, b12, b13, r, p, q, S, T, rfl, rfl, hR⟩ j hj
    obtain ⟨hl, o, ho, he⟩ := mem_ready.1 hj
    clear hj
    have bx : wr.heap[w.heap.size]? = some (.cells (caseA h cb) 30 (0, 0)) := (hR.1.block _ (by simp; omega)).trans (heap2 _ _ _)
    have g1 : wr.cell? ⟨w.heap.size, 1, none⟩ = some (.int .i64 0) := cell_of_row _ _ 1 _ _ _ bx
    have g3 : wr.cell? ⟨w.heap.size, 3, none⟩ = some (.slice none 0 0) := cell_of_row _ _ 3 _ _ _ bx
    have HH := C.hid hR
    clear hR bx
    have hsv : ∀ v u, C.svd true v u = v := fun _ _ => rfl
    match j, ho, hl, he with
    | 0, ho, hl, he =>
      obtain rfl := Option.some.inj ho
      simp [Region.binds] at hl he
      clear ho
      have hL := hl
      clear hl he
      subst hL
      refine wpOp_step rfl (fun K hK => ?_)
      go_simp
      refine hK _ _ ⟨true, _, _, _, _, _, _, _, _, _, _, _, _, _, r, p, q, S, T, rfl, ?_, HH.out⟩
      first | rfl | simp [C.svd]
    | 1, ho, hl, he =>
      obtain rfl := Option.some.inj ho
      simp [Region.binds] at hl he
      clear ho
      have hL := hl
      clear hl he
      subst hL
      refine wpOp_step rfl (fun K hK => ?_)
      go_simp
      refine hK _ _ ⟨_, true, _, _, _, _, _, _, _, _, _, _, _, _, r, p, q, S, T, rfl, ?_, HH.out⟩
      first | rfl | simp [C.svd]
    | 2, ho, hl, he =>
      obtain rfl := Option.some.inj ho
      simp [Region.binds] at hl he
      clear ho
      have hL := hl
      (try (have e1 : b1 = true := (by revert he; cases b1 <;> simp)))
      clear hl he
      (try subst e1)
      subst hL
      refine wpOp_step rfl (fun K hK => ?_)
      go_simp
      refine hK _ _ ⟨_, _, true, _, _, _, _, _, _, _, _, _, _, _, r, p, q, S, T, rfl, ?_, HH.out⟩
      first | rfl | simp [C.svd]
    | 3, ho, hl, he =>
      obtain rfl := Option.some.inj ho
      simp [Region.binds] at hl he
      clear ho
      have hL := hl
      (try (have e2 : b2 = true := (by revert he; cases b2 <;> simp)))
      clear hl he
      (try subst e2)
      subst hL
      refine wpOp_step rfl (fun K hK => ?_)
      go_simp
      refine (C.c_Place 0 8 (by decide) (by decide) (by decide) (by decide) wr).mono ?_
      rintro e w' ⟨rfl, hw'⟩
      obtain rfl := hw'.symm
      refine hK _ _ ⟨_, _, _, true, _, _, _, _, _, _, _, _, _, _, r, p, q, S, T, rfl, ?_, HH.out⟩
      first | rfl | simp [C.svd]
    | 4, ho, hl, he =>
      obtain rfl := Option.some.inj ho
      simp [Region.binds] at hl he
      clear ho
      have hL := hl
      (try (have e3 : b3 = true := (by revert he; cases b3 <;> simp)))
      clear hl he
      (try subst e3)
      subst hL
      refine wpOp_step rfl (fun K hK => ?_)
      go_simp
      refine hK _ _ ⟨_, _, _, _, true, _, _, _, _, _, _, _, _, _, r, p, q, S, T, rfl, ?_, HH.out⟩
      first | rfl | simp [C.svd]
    | 5, ho, hl, he =>
      obtain rfl := Option.some.inj ho
      simp [Region.binds] at hl he
      clear ho
      have hL := hl
      clear hl he
      subst hL
      refine wpOp_step rfl (fun K hK => ?_)
      go_simp
      refine hK _ _ ⟨_, _, _, _, _, true, _, _, _, _, _, _, _, _, r, p, q, S, T, rfl, ?_, HH.out⟩
      first | rfl | simp [C.svd]
    | 6, ho, hl, he =>
      obtain rfl := Option.some.inj ho
      simp [Region.binds] at hl he
      clear ho
      have hL := hl
      (try (have e5 : b5 = true := (by revert he; cases b5 <;> simp)))
      clear hl he
      (try subst e5)
      subst hL
      refine wpOp_step rfl (fun K hK => ?_)
      go_simp
      refine hK _ _ ⟨_, _, _, _, _, _, true, _, _, _, _, _, _, _, r, p, q, S, T, rfl, ?_, HH.out⟩
      first | rfl | simp [C.svd]
    | 7, ho, hl, he =>
      obtain rfl := Option.some.inj ho
      simp [Region.binds] at hl he
      clear ho
      have hL := hl
      (try (have e0 : b0 = true := (by revert he; cases b0 <;> simp)))
      (try (have e3 : b3 = true := (by revert he; cases b3 <;> simp)))
      (try (have e4 : b4 = true := (by revert he; cases b4 <;> simp)))
      (try (have e6 : b6 = true := (by revert he; cases b6 <;> simp)))
      clear hl he
      (try subst e0)
      (try subst e3)
      (try subst e4)
      (try subst e6)
      subst hL
      refine wpOp_step rfl (fun K hK => ?_)
      go_simp
      refine (m_Memory0 wr 2147483648 1 (by decide) (by decide) (by decide) (by decide) (by decide)).mono ?_
      rintro e w' ⟨p', q', S', T', rfl, ht, hb, hn⟩
      have hb12 : b12 = false := by cases b12 with | false => rfl | true => exact absurd (HH.out.2.2.2.1 rfl).1 (by simp)
      subst hb12
      have hb8 : b8 = false := by cases b8 with | false => rfl | true => exact absurd (HH.out.2.2.2.2.1 rfl) (by simp)
      subst hb8
      have hb9 : b9 = false := by cases b9 with | false => rfl | true => exact absurd (HH.out.2.2.2.2.2 rfl) (by simp)
      subst hb9
      refine hK _ _ ⟨_, _, _, _, _, _, _, true, _, _, _, _, _, _, r, p', q', S', T', rfl, ?_, HH.out.1.trans (hb.mono HH.out.1.size), (fun _ => ⟨ht, fun k hk => Nat.le_trans HH.out.1.size (hn k hk)⟩), (fun h11 => ⟨(HH.out.2.2.1 h11).1, (hb.block r (lt_of_block (HH.out.2.2.1 h11).2.1)).trans (HH.out.2.2.1 h11).2.1, fun _ z => ?_⟩), (fun h => by cases h), (fun _ => rfl), fun h => absurd h (by simp)⟩
      · first | rfl | simp [C.svd]
      · have := hn r z; have := lt_of_block (HH.out.2.2.1 h11).2.1; omega
    | 8, ho, hl, he =>
      obtain rfl := Option.some.inj ho
      simp [Region.binds] at hl he
      clear ho
      have hL := hl
      (try (have e7 : b7 = true := (by revert he; cases b7 <;> simp)))
      clear hl he
      (try subst e7)
      subst hL
      refine wpOp_step rfl (fun K hK => ?_)
      go_simp
      refine hK _ _ ⟨_, _, _, _, _, _, _, _, true, _, _, _, _, _, r, p, q, S, T, rfl, ?_, HH.out.1, HH.out.2.1, HH.out.2.2.1, HH.out.2.2.2.1, (fun _ => rfl), fun _ => rfl⟩
      first | rfl | simp [C.svd]
    | 9, ho, hl, he =>
      obtain rfl := Option.some.inj ho
      simp [Region.binds] at hl he
      clear ho
      have hL := hl
      (try (have e8 : b8 = true := (by revert he; cases b8 <;> simp)))
      clear hl he
      (try subst e8)
      subst hL
      refine wpOp_step rfl (fun K hK => ?_)
      go_simp
      refine hK _ _ ⟨_, _, _, _, _, _, _, _, _, true, _, _, _, _, r, p, q, S, T, rfl, ?_, HH.out.1, HH.out.2.1, HH.out.2.2.1, HH.out.2.2.2.1, HH.out.2.2.2.2.1, fun _ => rfl⟩
      first | rfl | simp [C.svd]
    | 10, ho, hl, he =>
      obtain rfl := Option.some.inj ho
      simp [Region.binds] at hl he
      clear ho
      have hL := hl
      (try (have e8 : b8 = true := (by revert he; cases b8 <;> simp)))
      clear hl he
      (try subst e8)
      subst hL
      refine wpOp_step rfl (fun K hK => ?_)
      go_simp
      refine hK _ _ ⟨_, _, _, _, _, _, _, _, _, _, true, _, _, _, r, p, q, S, T, rfl, ?_, HH.out⟩
      first | rfl | simp [C.svd]
    | 11, ho, hl, he =>
      obtain rfl := Option.some.inj ho
      simp [Region.binds] at hl he
      clear ho
      have hL := hl
      clear hl he
      subst hL
      refine wpOp_step rfl (fun K hK => ?_)
      go_simp
      have hb12 : b12 = false := by cases b12 with | false => rfl | true => exact absurd (HH.out.2.2.2.1 rfl).2 (by simp)
      subst hb12
      refine hK _ _ ⟨_, _, _, _, _, _, _, _, _, _, _, true, _, _, wr.heap.size, p, q, S, T, rfl, ?_, HH.out.1.alloc HH.out.1.size _, (fun h7 => ⟨(HH.out.2.1 h7).1.below ((Below.refl _ _).alloc (Nat.le_refl _) _), (HH.out.2.1 h7).2⟩), (fun _ => ⟨HH.out.1.size, heap_alloc_new _ _, fun h7 z => ?_⟩), (fun h => by cases h), HH.out.2.2.2.2⟩
      · first | rfl | simp [C.svd]
      · rcases z with z | z
        · have := C.Mem.lt (HH.out.2.1 h7).1.m z; omega
        · have := C.RMem.lt (HH.out.2.1 h7).1.r z; omega
    | 12, ho, hl, he =>
      obtain rfl := Option.some.inj ho
      simp [Region.binds] at hl he
      clear ho
      have hL := hl
      (try (have e0 : b0 = true := (by revert he; cases b0 <;> simp)))
      (try (have e1 : b1 = true := (by revert he; cases b1 <;> simp)))
      (try (have e2 : b2 = true := (by revert he; cases b2 <;> simp)))
      (try (have e3 : b3 = true := (by revert he; cases b3 <;> simp)))
      (try (have e4 : b4 = true := (by revert he; cases b4 <;> simp)))
      (try (have e5 : b5 = true := (by revert he; cases b5 <;> simp)))
      (try (have e6 : b6 = true := (by revert he; cases b6 <;> simp)))
      (try (have e7 : b7 = true := (by revert he; cases b7 <;> simp)))
      (try (have e8 : b8 = true := (by revert he; cases b8 <;> simp)))
      (try (have e9 : b9 = true := (by revert he; cases b9 <;> simp)))
      (try (have e11 : b11 = true := (by revert he; cases b11 <;> simp)))
      clear hl he
      (try subst e0)
      (try subst e1)
      (try subst e2)
      (try subst e3)
      (try subst e4)
      (try subst e5)
      (try subst e6)
      (try subst e7)
      (try subst e8)
      (try subst e9)
      (try subst e11)
      subst hL
      obtain ⟨hq1, hq2, hq3⟩ := HH.out.2.2.1 rfl
      obtain ⟨ht, htl⟩ := HH.out.2.1 rfl
      have y0 : wr.cell? ⟨r, 0, none⟩ = some (.pointer none) := cell_of_row _ _ 0 _ _ _ hq2
      have y1 : wr.cell? ⟨r, 1, none⟩ = some (.pointer none) := cell_of_row _ _ 1 _ _ _ hq2
      have yf : ∀ k, wr.frozen? ⟨r, k, none⟩ = false := fun k => frozen_of_row _ _ k _ _ hq2
      have hO : Only (· = r) wr ((wr.setCell ⟨r, 0, none⟩ (.pointer (some ⟨p, 0, none⟩))).setCell ⟨r, 1, none⟩ (.pointer (some ⟨q, 0, none⟩))) := (only_set _ _ _ _).trans (only_set _ _ _ _)
      have hqq := C.hid hq3
      refine wpOp_step rfl (fun K hK => ?_)
      go_simp
      refine hK _ _ ⟨_, _, _, _, _, _, _, _, _, _, _, _, true, _, r, p, q, S, T, rfl, ?_, (HH.out.1.setCell hq1 _).setCell hq1 _, (fun _ => ⟨⟨C.Mem.only ht.m hO (fun k hk e => hqq.out rfl (.inl (e ▸ hk))), C.RMem.only ht.r hO (fun k hk e => hqq.out rfl (.inr (e ▸ hk))), ht.d⟩, htl⟩), (fun _ => ⟨hq1, ?_, fun _ => hqq.out rfl⟩), (fun _ => ⟨rfl, rfl⟩), HH.out.2.2.2.2⟩
      · first | rfl | simp [C.svd]
      · exact setCell_row _ r 1 _ #[.pointer (some ⟨p, 0, none⟩), .pointer (some ⟨q, 0, none⟩)] 37 (.pointer (some ⟨q, 0, none⟩)) (setCell_row wr r 0 _ #[.pointer (some ⟨p, 0, none⟩), .pointer none] 37 (.pointer (some ⟨p, 0, none⟩)) hq2 rfl) rfl
    | 13, ho, hl, he =>
      obtain rfl := Option.some.inj ho
      simp [Region.binds] at hl he
      clear ho
      have hL := hl
      (try (have e0 : b0 = true := (by revert he; cases b0 <;> simp)))
      (try (have e1 : b1 = true := (by revert he; cases b1 <;> simp)))
      (try (have e2 : b2 = true := (by revert he; cases b2 <;> simp)))
      (try (have e3 : b3 = true := (by revert he; cases b3 <;> simp)))
      (try (have e4 : b4 = true := (by revert he; cases b4 <;> simp)))
      (try (have e5 : b5 = true := (by revert he; cases b5 <;> simp)))
      (try (have e6 : b6 = true := (by revert he; cases b6 <;> simp)))
      (try (have e7 : b7 = true := (by revert he; cases b7 <;> simp)))
      (try (have e8 : b8 = true := (by revert he; cases b8 <;> simp)))
      (try (have e9 : b9 = true := (by revert he; cases b9 <;> simp)))
      (try (have e10 : b10 = true := (by revert he; cases b10 <;> simp)))
      (try (have e11 : b11 = true := (by revert he; cases b11 <;> simp)))
      (try (have e12 : b12 = true := (by revert he; cases b12 <;> simp)))
      clear hl he
      (try subst e0)
      (try subst e1)
      (try subst e2)
      (try subst e3)
      (try subst e4)
      (try subst e5)
      (try subst e6)
      (try subst e7)
      (try subst e8)
      (try subst e9)
      (try subst e10)
      (try subst e11)
      (try subst e12)
      subst hL
      refine wpOp_step rfl (fun K hK => ?_)
      go_simp
      refine hK _ _ ⟨_, _, _, _, _, _, _, _, _, _, _, _, _, true, r, p, q, S, T, rfl, ?_, HH.out⟩
      first | rfl | simp [C.svd]
    | k + 14, ho, hl, he => simp at ho
end Go.Proofs.YtooagjndelbegaaGreatDoor
