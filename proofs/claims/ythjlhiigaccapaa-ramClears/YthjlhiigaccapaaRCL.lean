/- RamClears answers true: the walk. -/
import Derived.Test.YthjlhiigaccapaaRC
import Derived.Test.YthjlhiigaccapaaRY
namespace Go.Proofs.Ythjlhiigaccapaa
open Go.RowKit
set_option linter.unusedVariables false

theorem put1_b {B : Nat → Int} (hB : ∀ j, 0 ≤ B j ∧ B j < 256) (k : Nat) (x : Int) (hx : 0 ≤ x ∧ x < 256) (j : Nat) : 0 ≤ put B k 1 (fun _ => x) j ∧ put B k 1 (fun _ => x) j < 256 := by
  unfold put
  split
  · exact hx
  · exact hB j
theorem c_BytesF (w : World) (S : Nat → Prop) (p : Nat) (base : Int) (n : Nat) (f : Nat → Int) (h : Mem w S p base n f) (off : Nat) (hl : off + 4096 ≤ 4096 * n) (addr : Int) (ha : addr = base + off) :
    Calls Try.prog 24 #[.pointer (some ⟨p, 0, none⟩), .int .u64 addr, .int .i64 4096] w fun e w' => ∃ b, e = .returned (.tuple #[.slice (some ⟨b, 0, none⟩) 4096 4096, .bool true]) ∧ w'.heap[b]? = some (.cells (row (fun j => f (off + j)) 0 4096).toArray 5 (0, 0)) ∧ w.heap.size ≤ b ∧ Below w.heap.size w w' :=
  c_Bytes w S p base n f h off 4096 hl addr ha
set_option maxHeartbeats 1000000 in
set_option maxRecDepth 100000 in
theorem w_RamClears (w : World) (frames which : Int) (f0 : -9223372036854775808 ≤ frames) (f1 : frames ≤ 9223372036854775807) (s0 : -9223372036854775808 ≤ which) (s1 : which ≤ 9223372036854775807) (ad : Option Addr) (la cap : Nat) (ar : Nat → Int) (har : ∀ j, 0 ≤ ar j ∧ ar j < 256) (hla : la ≤ 9223372036854775807) (aa : Addr) (hsl : 0 < la → ad = some aa ∧ aa.block < w.heap.size ∧ ∀ j, j < la → w.cell? (aa.add j) = some (.int .u8 (ar j))) :
    Calls Try.prog 8 #[.int .i64 frames, .int .i64 which, .slice ad la cap] w fun e w' => e = .returned (.bool true) ∧ Below w.heap.size w w' := by
  have HSL := hid hsl
  clear hsl
  obtain ⟨q, hq⟩ : ∃ q : Nat, frames % 4 = (q : Int) := ⟨(frames % 4).toNat, by omega⟩
  have hq1 : q < 4 := by omega
  obtain ⟨nn, hnn⟩ : ∃ nn : Nat, (1 : Int) + (q : Int) = (nn : Int) := ⟨1 + q, by omega⟩
  have hn0 : 0 < nn ∧ nn ≤ 4 := by omega
  obtain ⟨hn0, hn1⟩ := hn0
  obtain ⟨kk, hkk⟩ : ∃ kk : Nat, which % (nn : Int) = (kk : Int) := ⟨(which % (nn : Int)).toNat, by have := Int.emod_nonneg which (show (nn : Int) ≠ 0 by omega); omega⟩
  have hk1 : kk < nn := by have := Int.emod_lt_of_pos which (show 0 < (nn : Int) by omega); omega
  go_enter Try.func8, Try.ntmps8
  go_wp2_with (first
    | (go_at_call 16; (with_reducible refine (c_Place frames 4 (by decide) (by decide) f0 f1 _).mono ?_); rintro e w3 ⟨rfl, hw3⟩; obtain rfl := hw3.symm; rw [hq])
    | (go_at_call 9; refine (c_New w 0 nn (by decide) (by decide) (by decide) hn0 (by omega)).mono ?_; rintro e w1 ⟨p, S1, rfl, hm, hb, hS⟩; have HM1 := hid hm; have HB1 := hid hb; have HS1 := hid hS; clear hm hb hS))
  go_loopw [10] (fun i wr => ∃ (k : Nat) (F : Nat → Int) (S : Nat → Prop), k ≤ nn ∧ i = .int .i64 k ∧ Mem wr S p 0 nn F ∧ Below w.heap.size w wr ∧ ∀ k, S k → w.heap.size ≤ k) (fun i _ => nn - (intOf i).toNat)
  case atStart => exact ⟨0, _, S1, by omega, rfl, HM1.out, HB1.out, HS1.out⟩
  case round =>
    rename World => wo
    obtain ⟨i, F, S, hi, rfl, hm, hb, hS⟩ := hrel
    have HM := hid hm
    have HBo := hid hb
    have HSo := hid hS
    clear hm hb hS
    by_cases hlt : i < nn
    · go_wp2_with (at_make; refine wpList_makes _ rfl _ _ 35 rfl 5 _ 1 u_su8 info_u8 rfl 4096 rfl rfl (by omega) (by omega) _ (rowz 4096) ?_)
      go_loopw [12] (fun v wr => ∃ (k : Nat) (B : Nat → Int), k ≤ 4096 ∧ v = .int .i64 k ∧ (∀ j, 0 ≤ B j ∧ B j < 256) ∧ wr.heap[wo.heap.size]? = some (.cells (row B 0 4096).toArray 5 (0, 0)) ∧ Only (fun _ => False) wo wr) (fun i _ => 4096 - (intOf i).toNat)
      case atStart => exact ⟨0, fun _ => 0, by omega, rfl, fun _ => ⟨Int.le_refl _, show (0 : Int) < 256 by decide⟩, heap_alloc_new wo _, (Only.refl wo).alloc _⟩
      case round =>
        obtain ⟨k, B, hk, rfl, hB, hbl, ho⟩ := hrel
        by_cases hlt2 : k < 4096 ∧ 0 < la
        · obtain ⟨hlt2, hl0⟩ := hlt2
          obtain ⟨rfl, haw, hac⟩ := HSL.out hl0
          obtain ⟨sm, hsm⟩ : ∃ sm : Nat, (k : Int) + (i : Int) = (sm : Int) := ⟨k + i, by omega⟩
          have hml : sm % la < la := Nat.mod_lt _ hl0
          have c1 : wr.cell? ⟨wo.heap.size, k, none⟩ = some (.int .u8 (B k)) := by rw [row_cell hbl k hlt2, Nat.zero_add]
          have f1 : wr.frozen? ⟨wo.heap.size, k, none⟩ = false := frozen_of_row wr _ k _ _ hbl
          have c2 : wr.cell? (aa.add (sm % la)) = some (.int .u8 (ar (sm % la))) := by
            rw [← hac _ hml]
            exact World.cell?_of_block (w := w) (by rw [add_block, ho.block _ (Nat.lt_of_lt_of_le haw HBo.out.size) (fun q => q), HBo.out.block _ haw])
          have HG : Hid ((wr.setCell ⟨wo.heap.size, k, none⟩ (.int .u8 (ar (sm % la)))).heap[wo.heap.size]? = some (.cells (row (put B k 1 fun _ => ar (sm % la)) 0 4096).toArray 5 (0, 0))) := by
            show _ = _
            rw [heap_setCell_same _ _ k _ _ _ hbl, set_row _ _ _ _ _ hlt2, Nat.zero_add]
          have HO := hid ho
          have HBB := hid hB
          clear hac hbl ho hB
          go_wp2
          go_roundw
          case rel => exact ⟨k + 1, _, by omega, by go_num, put1_b HBB.out k _ (har _), HG.out, HO.out.setCell (.inr (Nat.le_refl _)) _⟩
          case measure => simp [intOf]; omega
        · by_cases hk4 : k < 4096
          · have hl0 : ¬ 0 < la := by omega
            have HF := hid hbl
            have HO := hid ho
            have HM2 : Hid (Mem wr S p 0 nn F) := Mem.only HM.out ho fun _ _ q => q
            clear hbl ho
            go_wp2_with (first
              | (go_at_call 21; refine (c_Fill wr S p 0 nn _ HM2.out (i * 4096) 4096 4096 (by omega) (by decide) _ (by omega) _ B hB ⟨wo.heap.size, 0, fun _ => ⟨rfl, lt_of_block HF.out, fun q => Nat.lt_irrefl _ (Mem.lt HM.out q), fun j hj => by rw [Nat.zero_add, row_cell HF.out j hj, Nat.zero_add]⟩⟩).mono ?_; rintro e w2 ⟨S2, rfl, hm2, ho2, hS2⟩; have HM3 := hid hm2; have HO2 := hid ho2; have HS2 := hid hS2; clear hm2 ho2 hS2))
            go_roundw
            case rel => exact ⟨i + 1, _, S2, by omega, by go_num, HM3.out, (HBo.out.trans (HO.out.below _ HBo.out.size (fun _ q => q.elim))).trans (HO2.out.below _ (Nat.le_trans HBo.out.size HO.out.size) HSo.out), fun k q => by
              rcases HS2.out k q with q | q
              · exact HSo.out k q
              · exact Nat.le_trans (Nat.le_trans HBo.out.size HO.out.size) q⟩
            case measure => simp [intOf]; omega
          · have hl0 : k = 4096 := by omega
            have HF := hid hbl
            have HO := hid ho
            have HM2 : Hid (Mem wr S p 0 nn F) := Mem.only HM.out ho fun _ _ q => q
            clear hbl ho
            go_wp2_with (first
              | (go_at_call 21; refine (c_Fill wr S p 0 nn _ HM2.out (i * 4096) 4096 4096 (by omega) (by decide) _ (by omega) _ B hB ⟨wo.heap.size, 0, fun _ => ⟨rfl, lt_of_block HF.out, fun q => Nat.lt_irrefl _ (Mem.lt HM.out q), fun j hj => by rw [Nat.zero_add, row_cell HF.out j hj, Nat.zero_add]⟩⟩).mono ?_; rintro e w2 ⟨S2, rfl, hm2, ho2, hS2⟩; have HM3 := hid hm2; have HO2 := hid ho2; have HS2 := hid hS2; clear hm2 ho2 hS2))
            go_roundw
            case rel => exact ⟨i + 1, _, S2, by omega, by go_num, HM3.out, (HBo.out.trans (HO.out.below _ HBo.out.size (fun _ q => q.elim))).trans (HO2.out.below _ (Nat.le_trans HBo.out.size HO.out.size) HSo.out), fun k q => by
              rcases HS2.out k q with q | q
              · exact HSo.out k q
              · exact Nat.le_trans (Nat.le_trans HBo.out.size HO.out.size) q⟩
            case measure => simp [intOf]; omega
    · obtain rfl : i = nn := by omega
      go_wp2_with (first
        | (go_at_call 16; (with_reducible refine (c_Place which (i : Int) (by omega) (by omega) s0 s1 _).mono ?_); rintro e w3 ⟨rfl, hw3⟩; obtain rfl := hw3.symm; rw [hkk])
        | (go_at_call 29; refine (c_Copy wo S p 0 i F HM.out).mono ?_; rintro e w2 ⟨p2, S2, rfl, hm, hb, hS2⟩; have HM2 := hid hm; have HB2 := hid hb; have HS2 := hid hS2; clear hm hb hS2)
        | (go_at_call 27; (with_reducible refine (c_Clear w2 S p 0 i F (Mem.below HM.out HB2.out) kk hk1).mono ?_); rintro e w4 ⟨S4, rfl, hm, ho, hS4⟩; have HM4 := hid hm; have HO4 := hid ho; have HS4 := hid hS4; clear hm ho hS4)
        | (go_at_call 27; (with_reducible refine (c_Clear_bad w4 S4 p 0 i _ HM4.out _ (by omega)).mono ?_); rintro e w5 ⟨rfl, hw5⟩; obtain rfl := hw5.symm))
      have HMc : Hid (Mem w4 S2 p2 0 i F) := Mem.only HM2.out HO4.out fun k h2 h1 => by
        have q1 := HS2.out k h2
        have q2 := Mem.lt HM.out h1
        omega
      have HBw : Hid (Below w.heap.size w w4) := (HBo.out.trans (HB2.out.mono HBo.out.size)).trans (HO4.out.below _ (Nat.le_trans HBo.out.size HB2.out.size) HSo.out)
      clear HM HB2 HO4 HS2 HS4 HM2 HSo HBo
      go_loopw [15] (fun v wr => ∃ (j : Nat), j ≤ i ∧ v = .int .i64 j ∧ Below w4.heap.size w4 wr) (fun v _ => i - (intOf v).toNat)
      case atStart => exact ⟨0, by omega, rfl, Below.refl _ _⟩
      case round =>
        obtain ⟨j, hj, rfl, hb⟩ := hrel
        have HBr := hid hb
        clear hb
        by_cases hlt2 : j < i
        · by_cases hjk : j = kk
          · subst hjk
            go_wp2_with (first
              | (go_at_call 24; (with_reducible refine (c_BytesF wr S4 p 0 i _ (Mem.below HM4.out HBr.out) (j * 4096) (by omega) _ (by omega)).mono ?_); rintro e w5 ⟨b5, rfl, hg, hb25, hb⟩; have HG5 := hid hg; have HB5 := hid hb; clear hg hb)
              | (go_at_call 24; (with_reducible refine (c_BytesF w5 S2 p2 0 i _ (Mem.below (Mem.below HMc.out HBr.out) HB5.out) (j * 4096) (by omega) _ (by omega)).mono ?_); rintro e w6 ⟨b6, rfl, hg, hb26, hb⟩; have HG6 := hid hg; have HB6 := hid hb; clear hg hb)
              | (at_make; refine wpList_makes _ rfl _ _ 35 rfl 5 _ 1 u_su8 info_u8 rfl 4096 rfl rfl (by omega) (by omega) _ (rowz 4096) ?_)
              | (go_at_call 26; refine (c_SameBytes _ 4096 (by decide) _ _ _ _ (Sl.row ((Below.heap_alloc w6 _ _ (Nat.lt_of_lt_of_le (lt_of_block HG5.out) HB6.out.size)).trans ((HB6.out.block _ (lt_of_block HG5.out)).trans HG5.out))) (Sl.row (heap_alloc_new w6 _)) (fun t ht => by show put F (4096 * j) 4096 (fun _ => 0) (j * 4096 + t) = 0; rw [put_in' _ _ _ _ _ (by omega) (by omega)])).mono ?_; rintro e w7 ⟨rfl, hst7⟩; have HST := hid hst7; clear hst7))
            go_roundw
            case rel => exact ⟨j + 1, by omega, by go_num, ((HBr.out.trans (HB5.out.mono HBr.out.size)).trans (HB6.out.mono (Nat.le_trans HBr.out.size HB5.out.size))).alloc (Nat.le_trans HBr.out.size (Nat.le_trans HB5.out.size HB6.out.size)) _ |>.trans (HST.out.below _)⟩
            case measure => simp [intOf]; omega
          · go_wp2_with (first
              | (go_at_call 24; (with_reducible refine (c_BytesF wr S4 p 0 i _ (Mem.below HM4.out HBr.out) (j * 4096) (by omega) _ (by omega)).mono ?_); rintro e w5 ⟨b5, rfl, hg, hb25, hb⟩; have HG5 := hid hg; have HB5 := hid hb; clear hg hb)
              | (go_at_call 24; (with_reducible refine (c_BytesF w5 S2 p2 0 i _ (Mem.below (Mem.below HMc.out HBr.out) HB5.out) (j * 4096) (by omega) _ (by omega)).mono ?_); rintro e w6 ⟨b6, rfl, hg, hb26, hb⟩; have HG6 := hid hg; have HB6 := hid hb; clear hg hb)
              | (go_at_call 26; refine (c_SameBytes w6 4096 (by decide) _ _ _ _ (Sl.row ((HB6.out.block _ (lt_of_block HG5.out)).trans HG5.out)) (Sl.row HG6.out) (fun t ht => by show put F (4096 * kk) 4096 (fun _ => 0) (j * 4096 + t) = F (j * 4096 + t); rw [put_out _ _ _ _ _ (by omega)])).mono ?_; rintro e w7 ⟨rfl, hst7⟩; have HST := hid hst7; clear hst7))
            go_roundw
            case rel => exact ⟨j + 1, by omega, by go_num, ((HBr.out.trans (HB5.out.mono HBr.out.size)).trans (HB6.out.mono (Nat.le_trans HBr.out.size HB5.out.size))).trans (HST.out.below _)⟩
            case measure => simp [intOf]; omega
        · obtain rfl : j = i := by omega
          go_wp2_with (first
            | (go_at_call 11; refine (c_awake wr).mono ?_; rintro e w8 ⟨rfl, hb⟩; have HB8 := hid hb; clear hb))
          go_ret
          have q1 := HBw.out.trans (HBr.out.mono HBw.out.size)
          exact ⟨rfl, q1.trans (HB8.out.mono q1.size)⟩
end Go.Proofs.Ythjlhiigaccapaa
