/- RamBytes answers true: the walk, where the list that is handed in is empty. -/
import Derived.Test.YthjlhiigaccapaaRZA
namespace Go.Proofs.Ythjlhiigaccapaa
open Go.RowKit
set_option linter.unusedVariables false

set_option maxHeartbeats 4000000 in
set_option maxRecDepth 100000 in
theorem w_RamBytes0 (w : World) (at' size v : Int) (z0 : -9223372036854775808 ≤ at') (z1 : at' ≤ 9223372036854775807) (s0 : -9223372036854775808 ≤ size) (s1 : size ≤ 9223372036854775807) (v0 : 0 ≤ v) (v1 : v < 18446744073709551616) (ad : Option Addr) (cap : Nat) (ar : Nat → Int) (har : ∀ j, 0 ≤ ar j ∧ ar j < 256)  :
    Calls Try.prog 4 #[.int .i64 at', .int .i64 size, .int .u64 v, .slice ad 0 cap] w fun e w' => e = .returned (.bool true) ∧ Below w.heap.size w w' := by
  go_enter Try.func4, Try.ntmps4
  go_wp2_with (first
    | (go_at_call 9; refine (c_New w 0 2 (by decide) (by decide) (by decide) (by decide) (by decide)).mono ?_; rintro e w1 ⟨p, S, rfl, hm, hb, hS⟩; have HM := hid hm; have HB := hid hb; have HS := hid hS; clear hm hb hS)
    | (at_make; refine wpList_makes _ rfl _ _ 35 rfl 5 _ 1 u_su8 info_u8 rfl 8192 rfl rfl (by omega) (by omega) _ (rowz 8192) ?_))
  go_loopw [12] (fun i wr => ∃ k : Nat, k = 0 ∧ i = .int .i64 k ∧ wr.heap[w1.heap.size]? = some (.cells (row (fillB ar 0 0) 0 8192).toArray 5 (0, 0)) ∧ Only (fun _ => False) w1 wr) (fun i _ => 0)
  case atStart => exact ⟨0, by omega, rfl, by unfold fillB; rw [put_zero]; exact heap_alloc_new w1 _, (Only.refl w1).alloc _⟩
  case round =>
    obtain ⟨k, hk, rfl, hbl, ho⟩ := hrel
    subst hk
    have hr4 : 0 ≤ size % 4 ∧ size % 4 < 4 := by omega
    obtain ⟨r, hr⟩ : ∃ r : Nat, size % 4 = (r : Int) := ⟨(size % 4).toNat, by omega⟩
    have hr4 : r < 4 := by omega
    obtain ⟨n, hix, hn⟩ : ∃ n : Nat, ([.int .i64 1, .int .i64 2, .int .i64 4, .int .i64 8] : List Value)[r]'(by simpa using hr4) = .int .i64 (n : Int) ∧ (n = 1 ∨ n = 2 ∨ n = 4 ∨ n = 8) := by
      rcases (show r = 0 ∨ r = 1 ∨ r = 2 ∨ r = 3 by omega) with rfl | rfl | rfl | rfl
      · exact ⟨1, rfl, by omega⟩
      · exact ⟨2, rfl, by omega⟩
      · exact ⟨4, rfl, by omega⟩
      · exact ⟨8, rfl, by omega⟩
    have hn8 : 0 < n ∧ n ≤ 8 := by omega
    obtain ⟨a0, ha0⟩ : ∃ a0 : Nat, at' % (8192 - (n : Int) + 1) = (a0 : Int) := ⟨(at' % (8192 - (n : Int) + 1)).toNat, by have := Int.emod_nonneg at' (show (8192 - (n : Int) + 1) ≠ 0 by omega); omega⟩
    have ha1 : a0 + n ≤ 8192 := by have := Int.emod_lt_of_pos at' (show 0 < (8192 - (n : Int) + 1) by omega); omega
    have HK : Hid (∀ j, 0 ≤ fillB ar 0 0 j ∧ fillB ar 0 0 j < 256) := fillB_b ar har 0 _
    have HBL := hid hbl
    have HO := hid ho
    have HM2 : Hid (Mem wr S p 0 2 fun _ => 0) := Mem.only HM.out ho fun _ _ q => q
    clear hbl ho
    go_wp2_with (first
      | (go_at_call 21; refine (c_Fill wr S p 0 2 _ HM2.out 0 8192 8192 (by decide) (by decide) _ rfl _ (fillB ar 0 0) HK.out ⟨w1.heap.size, 0, fun _ => ⟨rfl, lt_of_block HBL.out, fun q => Nat.lt_irrefl _ (Mem.lt HM.out q), fun j hj => by rw [Nat.zero_add, row_cell HBL.out j hj, Nat.zero_add]⟩⟩).mono ?_; rintro e w2 ⟨S2, rfl, hm2, ho2, hS2⟩; have HM3 := hid hm2; have HO2 := hid ho2; have HS2 := hid hS2; clear hm2 ho2 hS2)
      | (go_at_call 16; with_reducible refine (c_Place size 4 (by decide) (by decide) s0 s1 _).mono ?_; rintro e w3 ⟨rfl, hw3⟩; obtain rfl := hw3.symm; rw [hr])
      | (go_at_call 16; with_reducible refine (c_Place at' (8192 - (n : Int) + 1) (by omega) (by omega) z0 z1 _).mono ?_; rintro e w3 ⟨rfl, hw3⟩; obtain rfl := hw3.symm; rw [ha0])
      | (go_at_call 17; refine (c_Write _ S2 p 0 2 _ (Mem.only HM3.out ((Only.refl (S := fun _ => False) w2).alloc _) fun _ _ q => q) a0 n (by omega) hn _ (by omega) v v0 v1).mono ?_; rintro e w4 ⟨S3, rfl, hm4, ho4, hS4⟩; have HM4 := hid hm4; have HO4 := hid ho4; have HS4 := hid hS4; clear hm4 ho4 hS4))
    have HBw2 : Hid (Below w.heap.size w w2) := (HB.out.trans ((HO.out.below w1.heap.size (Nat.le_refl _) (fun _ q => q.elim)).mono HB.out.size)).trans (HO2.out.below _ (Nat.le_trans HB.out.size HO.out.size) HS.out)
    have HBw4 : Hid (Below w.heap.size w w4) := (HBw2.out.alloc HBw2.out.size _).trans (HO4.out.below _ (Nat.le_trans HBw2.out.size (by simp)) fun i hi => by
      rcases HS2.out i hi with q | q
      · exact HS.out i q
      · exact Nat.le_trans (Nat.le_trans HB.out.size HO.out.size) q)
    have hnS : ¬ S w1.heap.size := fun q => Nat.lt_irrefl _ (Mem.lt HM.out q)
    have hg2 : w2.heap[w1.heap.size]? = some (.cells (row (fillB ar 0 0) 0 8192).toArray 5 (0, 0)) := HO2.out.old HBL.out hnS
    have hg3 : ∀ o, (w2.alloc o).heap[w1.heap.size]? = some (.cells (row (fillB ar 0 0) 0 8192).toArray 5 (0, 0)) := fun o => (Below.heap_alloc w2 o _ (lt_of_block hg2)).trans hg2
    have hg4 : w4.heap[w1.heap.size]? = some (.cells (row (fillB ar 0 0) 0 8192).toArray 5 (0, 0)) := HO4.out.old (hg3 _) (Mem.typ HM3.out hg2 (by decide) (by decide) (by decide))
    have HG4 := hid hg4
    clear hg2 hg3 hg4
    go_loopw [15] (fun i wr2 => ∃ k2 : Nat, k2 ≤ n ∧ i = .int .i64 k2 ∧ wr2.heap[w1.heap.size]? = some (.cells (row (put (fillB ar 0 0) a0 k2 (byt v)) 0 8192).toArray 5 (0, 0)) ∧ Only (· = w1.heap.size) w4 wr2 ∧ Below w.heap.size w wr2) (fun i _ => n - (intOf i).toNat)
    case atStart => exact ⟨0, by omega, rfl, by rw [put_zero]; exact HG4.out, .refl w4, HBw4.out⟩
    case round =>
      obtain ⟨k2, hk2, rfl, hb6, ho6, hb7⟩ := hrel
      have HB6 := hid hb6
      have HO6 := hid ho6
      have HB7 := hid hb7
      clear hb6 ho6 hb7
      by_cases hlt2 : k2 < n
      · rcases (show k2 = 0 ∨ k2 = 1 ∨ k2 = 2 ∨ k2 = 3 ∨ k2 = 4 ∨ k2 = 5 ∨ k2 = 6 ∨ k2 = 7 by omega) with rfl | rfl | rfl | rfl | rfl | rfl | rfl | rfl
        · have HG : Hid ((wr.setCell ⟨w1.heap.size, a0, none⟩ (.int .u8 (v % 256))).heap[w1.heap.size]? = some (.cells (row (put (fillB ar 0 0) a0 (0 + 1) (byt v)) 0 8192).toArray 5 (0, 0))) := by
            show _ = _
            rw [heap_setCell_same _ _ _ _ _ _ HB6.out, set_row _ _ _ _ _ (by omega), Nat.zero_add, put_step0 _ _ _ _ (by unfold byt; simp)]
          have c1 : ∃ x, wr.cell? ⟨w1.heap.size, a0, none⟩ = some x := ⟨_, row_cell HB6.out (a0) (by omega)⟩
          obtain ⟨x1, c1⟩ := c1
          have f1 : wr.frozen? ⟨w1.heap.size, a0, none⟩ = false := frozen_of_row wr _ _ _ _ HB6.out
          go_wp2
          go_roundw
          case rel => exact ⟨1, by omega, by go_num, HG.out, HO6.out.setCell (p := ⟨w1.heap.size, a0, none⟩) (.inl rfl) _, HB7.out.setCell (p := ⟨w1.heap.size, a0, none⟩) HB.out.size _⟩
          case measure => simp [intOf]; omega
        · have HG : Hid ((wr.setCell ⟨w1.heap.size, a0 + 1, none⟩ (.int .u8 (v / 256 % 256))).heap[w1.heap.size]? = some (.cells (row (put (fillB ar 0 0) a0 (1 + 1) (byt v)) 0 8192).toArray 5 (0, 0))) := by
            show _ = _
            rw [heap_setCell_same _ _ _ _ _ _ HB6.out, set_row _ _ _ _ _ (by omega), Nat.zero_add, put_step _ _ _ _ _ (by unfold byt; simp)]
          have c1 : ∃ x, wr.cell? ⟨w1.heap.size, a0 + 1, none⟩ = some x := ⟨_, row_cell HB6.out (a0 + 1) (by omega)⟩
          obtain ⟨x1, c1⟩ := c1
          have f1 : wr.frozen? ⟨w1.heap.size, a0 + 1, none⟩ = false := frozen_of_row wr _ _ _ _ HB6.out
          go_wp2
          go_roundw
          case rel => exact ⟨2, by omega, by go_num, HG.out, HO6.out.setCell (p := ⟨w1.heap.size, a0 + 1, none⟩) (.inl rfl) _, HB7.out.setCell (p := ⟨w1.heap.size, a0 + 1, none⟩) HB.out.size _⟩
          case measure => simp [intOf]; omega
        · have HG : Hid ((wr.setCell ⟨w1.heap.size, a0 + 2, none⟩ (.int .u8 (v / 65536 % 256))).heap[w1.heap.size]? = some (.cells (row (put (fillB ar 0 0) a0 (2 + 1) (byt v)) 0 8192).toArray 5 (0, 0))) := by
            show _ = _
            rw [heap_setCell_same _ _ _ _ _ _ HB6.out, set_row _ _ _ _ _ (by omega), Nat.zero_add, put_step _ _ _ _ _ (by unfold byt; simp)]
          have c1 : ∃ x, wr.cell? ⟨w1.heap.size, a0 + 2, none⟩ = some x := ⟨_, row_cell HB6.out (a0 + 2) (by omega)⟩
          obtain ⟨x1, c1⟩ := c1
          have f1 : wr.frozen? ⟨w1.heap.size, a0 + 2, none⟩ = false := frozen_of_row wr _ _ _ _ HB6.out
          go_wp2
          go_roundw
          case rel => exact ⟨3, by omega, by go_num, HG.out, HO6.out.setCell (p := ⟨w1.heap.size, a0 + 2, none⟩) (.inl rfl) _, HB7.out.setCell (p := ⟨w1.heap.size, a0 + 2, none⟩) HB.out.size _⟩
          case measure => simp [intOf]; omega
        · have HG : Hid ((wr.setCell ⟨w1.heap.size, a0 + 3, none⟩ (.int .u8 (v / 16777216 % 256))).heap[w1.heap.size]? = some (.cells (row (put (fillB ar 0 0) a0 (3 + 1) (byt v)) 0 8192).toArray 5 (0, 0))) := by
            show _ = _
            rw [heap_setCell_same _ _ _ _ _ _ HB6.out, set_row _ _ _ _ _ (by omega), Nat.zero_add, put_step _ _ _ _ _ (by unfold byt; simp)]
          have c1 : ∃ x, wr.cell? ⟨w1.heap.size, a0 + 3, none⟩ = some x := ⟨_, row_cell HB6.out (a0 + 3) (by omega)⟩
          obtain ⟨x1, c1⟩ := c1
          have f1 : wr.frozen? ⟨w1.heap.size, a0 + 3, none⟩ = false := frozen_of_row wr _ _ _ _ HB6.out
          go_wp2
          go_roundw
          case rel => exact ⟨4, by omega, by go_num, HG.out, HO6.out.setCell (p := ⟨w1.heap.size, a0 + 3, none⟩) (.inl rfl) _, HB7.out.setCell (p := ⟨w1.heap.size, a0 + 3, none⟩) HB.out.size _⟩
          case measure => simp [intOf]; omega
        · have HG : Hid ((wr.setCell ⟨w1.heap.size, a0 + 4, none⟩ (.int .u8 (v / 4294967296 % 256))).heap[w1.heap.size]? = some (.cells (row (put (fillB ar 0 0) a0 (4 + 1) (byt v)) 0 8192).toArray 5 (0, 0))) := by
            show _ = _
            rw [heap_setCell_same _ _ _ _ _ _ HB6.out, set_row _ _ _ _ _ (by omega), Nat.zero_add, put_step _ _ _ _ _ (by unfold byt; simp)]
          have c1 : ∃ x, wr.cell? ⟨w1.heap.size, a0 + 4, none⟩ = some x := ⟨_, row_cell HB6.out (a0 + 4) (by omega)⟩
          obtain ⟨x1, c1⟩ := c1
          have f1 : wr.frozen? ⟨w1.heap.size, a0 + 4, none⟩ = false := frozen_of_row wr _ _ _ _ HB6.out
          go_wp2
          go_roundw
          case rel => exact ⟨5, by omega, by go_num, HG.out, HO6.out.setCell (p := ⟨w1.heap.size, a0 + 4, none⟩) (.inl rfl) _, HB7.out.setCell (p := ⟨w1.heap.size, a0 + 4, none⟩) HB.out.size _⟩
          case measure => simp [intOf]; omega
        · have HG : Hid ((wr.setCell ⟨w1.heap.size, a0 + 5, none⟩ (.int .u8 (v / 1099511627776 % 256))).heap[w1.heap.size]? = some (.cells (row (put (fillB ar 0 0) a0 (5 + 1) (byt v)) 0 8192).toArray 5 (0, 0))) := by
            show _ = _
            rw [heap_setCell_same _ _ _ _ _ _ HB6.out, set_row _ _ _ _ _ (by omega), Nat.zero_add, put_step _ _ _ _ _ (by unfold byt; simp)]
          have c1 : ∃ x, wr.cell? ⟨w1.heap.size, a0 + 5, none⟩ = some x := ⟨_, row_cell HB6.out (a0 + 5) (by omega)⟩
          obtain ⟨x1, c1⟩ := c1
          have f1 : wr.frozen? ⟨w1.heap.size, a0 + 5, none⟩ = false := frozen_of_row wr _ _ _ _ HB6.out
          go_wp2
          go_roundw
          case rel => exact ⟨6, by omega, by go_num, HG.out, HO6.out.setCell (p := ⟨w1.heap.size, a0 + 5, none⟩) (.inl rfl) _, HB7.out.setCell (p := ⟨w1.heap.size, a0 + 5, none⟩) HB.out.size _⟩
          case measure => simp [intOf]; omega
        · have HG : Hid ((wr.setCell ⟨w1.heap.size, a0 + 6, none⟩ (.int .u8 (v / 281474976710656 % 256))).heap[w1.heap.size]? = some (.cells (row (put (fillB ar 0 0) a0 (6 + 1) (byt v)) 0 8192).toArray 5 (0, 0))) := by
            show _ = _
            rw [heap_setCell_same _ _ _ _ _ _ HB6.out, set_row _ _ _ _ _ (by omega), Nat.zero_add, put_step _ _ _ _ _ (by unfold byt; simp)]
          have c1 : ∃ x, wr.cell? ⟨w1.heap.size, a0 + 6, none⟩ = some x := ⟨_, row_cell HB6.out (a0 + 6) (by omega)⟩
          obtain ⟨x1, c1⟩ := c1
          have f1 : wr.frozen? ⟨w1.heap.size, a0 + 6, none⟩ = false := frozen_of_row wr _ _ _ _ HB6.out
          go_wp2
          go_roundw
          case rel => exact ⟨7, by omega, by go_num, HG.out, HO6.out.setCell (p := ⟨w1.heap.size, a0 + 6, none⟩) (.inl rfl) _, HB7.out.setCell (p := ⟨w1.heap.size, a0 + 6, none⟩) HB.out.size _⟩
          case measure => simp [intOf]; omega
        · have HG : Hid ((wr.setCell ⟨w1.heap.size, a0 + 7, none⟩ (.int .u8 (v / 72057594037927936))).heap[w1.heap.size]? = some (.cells (row (put (fillB ar 0 0) a0 (7 + 1) (byt v)) 0 8192).toArray 5 (0, 0))) := by
            show _ = _
            rw [heap_setCell_same _ _ _ _ _ _ HB6.out, set_row _ _ _ _ _ (by omega), Nat.zero_add, put_step _ _ _ _ _ (by unfold byt; have e7 : v / 256 ^ 7 = v / 72057594037927936 := rfl; omega)]
          have c1 : ∃ x, wr.cell? ⟨w1.heap.size, a0 + 7, none⟩ = some x := ⟨_, row_cell HB6.out (a0 + 7) (by omega)⟩
          obtain ⟨x1, c1⟩ := c1
          have f1 : wr.frozen? ⟨w1.heap.size, a0 + 7, none⟩ = false := frozen_of_row wr _ _ _ _ HB6.out
          go_wp2
          go_roundw
          case rel => exact ⟨8, by omega, by go_num, HG.out, HO6.out.setCell (p := ⟨w1.heap.size, a0 + 7, none⟩) (.inl rfl) _, HB7.out.setCell (p := ⟨w1.heap.size, a0 + 7, none⟩) HB.out.size _⟩
          case measure => simp [intOf]; omega
      · obtain rfl : k2 = n := by omega
        have HM6 : Hid (Mem wr S3 p 0 2 (put (put (fun _ => 0) 0 8192 (fillB ar 0 0)) a0 k2 (byt v))) := Mem.only HM4.out HO6.out fun i hi e => Mem.typ HM4.out HG4.out (by decide) (by decide) (by decide) (e ▸ hi)
        rcases hn with rfl | rfl | rfl | rfl
        · have hnu : nu (fun j => put (put (fun _ => 0) 0 8192 (fillB ar 0 0)) a0 1 (byt v) (a0 + j)) 1 = v % 256 := by
            rw [nu_congr 1 (c := byt v) fun j hj => put_in _ _ _ _ _ hj, nu_byt v v0]
            rfl
          go_wp2_with (first
            | (go_at_call 24; refine (c_Bytes wr S3 p 0 2 _ HM6.out 0 8192 (by decide) _ rfl).mono ?_; rintro e w5 ⟨b2, rfl, hg5, hb25, hb5⟩; have HG5 := hid hg5; have HB5 := hid hb5; clear hg5 hb5)
            | (go_at_call 19; refine (c_Read w5 S3 p 0 2 _ (Mem.below HM6.out HB5.out) a0 1 (by omega) (by decide) _ (by omega)).mono ?_; rintro e w6 ⟨rfl, hb6⟩; rw [hnu]; have HB66 := hid hb6; clear hb6)
            | (go_at_call 26; refine (c_SameBytes w6 8192 (by decide) _ _ _ _ (Sl.row (HB66.out.block _ (lt_of_block HG5.out) |>.trans HG5.out)) (Sl.row ((HB66.out.block _ (Nat.lt_of_lt_of_le (lt_of_block HB6.out) HB5.out.size)).trans ((HB5.out.block _ (lt_of_block HB6.out)).trans HB6.out))) (fun j hj => same_at _ _ a0 1 j hj)).mono ?_; rintro e w7 ⟨rfl, hst7⟩; have HST := hid hst7; clear hst7)
            | (go_at_call 11; refine (c_awake w7).mono ?_; rintro e w8 ⟨rfl, hb8⟩; have HB8 := hid hb8; clear hb8))
          go_ret
          have q5 := HB7.out.trans (HB5.out.mono HB7.out.size)
          have q6 := q5.trans (HB66.out.mono q5.size)
          have q7 := q6.trans (HST.out.below _)
          exact ⟨rfl, q7.trans (HB8.out.mono q7.size)⟩
        · have hnu : nu (fun j => put (put (fun _ => 0) 0 8192 (fillB ar 0 0)) a0 2 (byt v) (a0 + j)) 2 = v % 65536 := by
            rw [nu_congr 2 (c := byt v) fun j hj => put_in _ _ _ _ _ hj, nu_byt v v0]
            rfl
          go_wp2_with (first
            | (go_at_call 24; refine (c_Bytes wr S3 p 0 2 _ HM6.out 0 8192 (by decide) _ rfl).mono ?_; rintro e w5 ⟨b2, rfl, hg5, hb25, hb5⟩; have HG5 := hid hg5; have HB5 := hid hb5; clear hg5 hb5)
            | (go_at_call 19; refine (c_Read w5 S3 p 0 2 _ (Mem.below HM6.out HB5.out) a0 2 (by omega) (by decide) _ (by omega)).mono ?_; rintro e w6 ⟨rfl, hb6⟩; rw [hnu]; have HB66 := hid hb6; clear hb6)
            | (go_at_call 26; refine (c_SameBytes w6 8192 (by decide) _ _ _ _ (Sl.row (HB66.out.block _ (lt_of_block HG5.out) |>.trans HG5.out)) (Sl.row ((HB66.out.block _ (Nat.lt_of_lt_of_le (lt_of_block HB6.out) HB5.out.size)).trans ((HB5.out.block _ (lt_of_block HB6.out)).trans HB6.out))) (fun j hj => same_at _ _ a0 2 j hj)).mono ?_; rintro e w7 ⟨rfl, hst7⟩; have HST := hid hst7; clear hst7)
            | (go_at_call 11; refine (c_awake w7).mono ?_; rintro e w8 ⟨rfl, hb8⟩; have HB8 := hid hb8; clear hb8))
          go_ret
          have q5 := HB7.out.trans (HB5.out.mono HB7.out.size)
          have q6 := q5.trans (HB66.out.mono q5.size)
          have q7 := q6.trans (HST.out.below _)
          exact ⟨rfl, q7.trans (HB8.out.mono q7.size)⟩
        · have hnu : nu (fun j => put (put (fun _ => 0) 0 8192 (fillB ar 0 0)) a0 4 (byt v) (a0 + j)) 4 = v % 4294967296 := by
            rw [nu_congr 4 (c := byt v) fun j hj => put_in _ _ _ _ _ hj, nu_byt v v0]
            rfl
          go_wp2_with (first
            | (go_at_call 24; refine (c_Bytes wr S3 p 0 2 _ HM6.out 0 8192 (by decide) _ rfl).mono ?_; rintro e w5 ⟨b2, rfl, hg5, hb25, hb5⟩; have HG5 := hid hg5; have HB5 := hid hb5; clear hg5 hb5)
            | (go_at_call 19; refine (c_Read w5 S3 p 0 2 _ (Mem.below HM6.out HB5.out) a0 4 (by omega) (by decide) _ (by omega)).mono ?_; rintro e w6 ⟨rfl, hb6⟩; rw [hnu]; have HB66 := hid hb6; clear hb6)
            | (go_at_call 26; refine (c_SameBytes w6 8192 (by decide) _ _ _ _ (Sl.row (HB66.out.block _ (lt_of_block HG5.out) |>.trans HG5.out)) (Sl.row ((HB66.out.block _ (Nat.lt_of_lt_of_le (lt_of_block HB6.out) HB5.out.size)).trans ((HB5.out.block _ (lt_of_block HB6.out)).trans HB6.out))) (fun j hj => same_at _ _ a0 4 j hj)).mono ?_; rintro e w7 ⟨rfl, hst7⟩; have HST := hid hst7; clear hst7)
            | (go_at_call 11; refine (c_awake w7).mono ?_; rintro e w8 ⟨rfl, hb8⟩; have HB8 := hid hb8; clear hb8))
          go_ret
          have q5 := HB7.out.trans (HB5.out.mono HB7.out.size)
          have q6 := q5.trans (HB66.out.mono q5.size)
          have q7 := q6.trans (HST.out.below _)
          exact ⟨rfl, q7.trans (HB8.out.mono q7.size)⟩
        · have hnu : nu (fun j => put (put (fun _ => 0) 0 8192 (fillB ar 0 0)) a0 8 (byt v) (a0 + j)) 8 = v := by
            rw [nu_congr 8 (c := byt v) fun j hj => put_in _ _ _ _ _ hj, nu_byt v v0]
            have e8 : (256 : Int) ^ 8 = 18446744073709551616 := rfl; rw [e8]; omega
          go_wp2_with (first
            | (go_at_call 24; refine (c_Bytes wr S3 p 0 2 _ HM6.out 0 8192 (by decide) _ rfl).mono ?_; rintro e w5 ⟨b2, rfl, hg5, hb25, hb5⟩; have HG5 := hid hg5; have HB5 := hid hb5; clear hg5 hb5)
            | (go_at_call 19; refine (c_Read w5 S3 p 0 2 _ (Mem.below HM6.out HB5.out) a0 8 (by omega) (by decide) _ (by omega)).mono ?_; rintro e w6 ⟨rfl, hb6⟩; rw [hnu]; have HB66 := hid hb6; clear hb6)
            | (go_at_call 26; refine (c_SameBytes w6 8192 (by decide) _ _ _ _ (Sl.row (HB66.out.block _ (lt_of_block HG5.out) |>.trans HG5.out)) (Sl.row ((HB66.out.block _ (Nat.lt_of_lt_of_le (lt_of_block HB6.out) HB5.out.size)).trans ((HB5.out.block _ (lt_of_block HB6.out)).trans HB6.out))) (fun j hj => same_at _ _ a0 8 j hj)).mono ?_; rintro e w7 ⟨rfl, hst7⟩; have HST := hid hst7; clear hst7)
            | (go_at_call 11; refine (c_awake w7).mono ?_; rintro e w8 ⟨rfl, hb8⟩; have HB8 := hid hb8; clear hb8))
          go_ret
          have q5 := HB7.out.trans (HB5.out.mono HB7.out.size)
          have q6 := q5.trans (HB66.out.mono q5.size)
          have q7 := q6.trans (HST.out.below _)
          exact ⟨rfl, q7.trans (HB8.out.mono q7.size)⟩
end Go.Proofs.Ythjlhiigaccapaa
