/- RamCopies answers true: the walk. -/
import Derived.Test.YthjlhiigaccapaaRC
import Derived.Test.YthjlhiigaccapaaRY
namespace Go.Proofs.Ythjlhiigaccapaa
open Go.RowKit
set_option linter.unusedVariables false

theorem c_Bytes8 (w : World) (S : Nat → Prop) (p : Nat) (f : Nat → Int) (h : Mem w S p 0 2 f) :
    Calls Try.prog 24 #[.pointer (some ⟨p, 0, none⟩), .int .u64 0, .int .i64 8192] w fun e w' => ∃ b, e = .returned (.tuple #[.slice (some ⟨b, 0, none⟩) 8192 8192, .bool true]) ∧ w'.heap[b]? = some (.cells (row f 0 8192).toArray 5 (0, 0)) ∧ Below w.heap.size w w' := by
  refine (c_Bytes w S p 0 2 f h 0 8192 (by decide) 0 (by decide)).mono ?_
  rintro e w' ⟨b, rfl, hg, _, hb⟩
  refine ⟨b, rfl, ?_, hb⟩
  rw [hg]
  have : row (fun j => f (0 + j)) 0 8192 = row f 0 8192 := row_congr fun j hj => by rw [Nat.zero_add]
  rw [this]
set_option maxHeartbeats 1000000 in
set_option maxRecDepth 100000 in
theorem w_RamCopies (w : World) (ad : Option Addr) (la cap : Nat) (ar : Nat → Int) (har : ∀ j, -9223372036854775808 ≤ ar j ∧ ar j ≤ 9223372036854775807) (hla : la ≤ 9223372036854775807) (aa : Addr) (hsl : 0 < la → ad = some aa ∧ aa.block < w.heap.size ∧ ∀ j, j < la → w.cell? (aa.add j) = some (.int .i64 (ar j)))
    (ad1 : Option Addr) (la1 cap1 : Nat) (ar1 : Nat → Int) (har1 : ∀ j, 0 ≤ ar1 j ∧ ar1 j < 18446744073709551616) (hla1 : la1 ≤ 9223372036854775807) (aa1 : Addr) (hsl1 : 0 < la1 → ad1 = some aa1 ∧ aa1.block < w.heap.size ∧ ∀ j, j < la1 → w.cell? (aa1.add j) = some (.int .u64 (ar1 j)))
    (ad2 : Option Addr) (la2 cap2 : Nat) (ar2 : Nat → Int) (har2 : ∀ j, -9223372036854775808 ≤ ar2 j ∧ ar2 j ≤ 9223372036854775807) (hla2 : la2 ≤ 9223372036854775807) (aa2 : Addr) (hsl2 : 0 < la2 → ad2 = some aa2 ∧ aa2.block < w.heap.size ∧ ∀ j, j < la2 → w.cell? (aa2.add j) = some (.int .i64 (ar2 j))) :
    Calls Try.prog 7 #[.slice ad la cap, .slice ad1 la1 cap1, .slice ad2 la2 cap2] w fun e w' => e = .returned (.bool true) ∧ Below w.heap.size w w' := by
  have HSL := hid hsl
  have HSL1 := hid hsl1
  have HSL2 := hid hsl2
  have HR := hid har
  have HR1 := hid har1
  have HR2 := hid har2
  clear hsl hsl1 hsl2 har har1 har2
  go_enter Try.func7, Try.ntmps7
  go_wp2_with (first
    | (go_at_call 9; refine (c_New w 0 2 (by decide) (by decide) (by decide) (by decide) (by decide)).mono ?_; rintro e w1 ⟨p, S1, rfl, hm, hb, hS⟩; have HM1 := hid hm; have HB1 := hid hb; have HS1 := hid hS; clear hm hb hS))
  go_loopw [9] (fun i wr => ∃ (k : Nat) (F : Nat → Int) (S : Nat → Prop), k ≤ la ∧ i = .int .i64 k ∧ Mem wr S p 0 2 F ∧ Below w.heap.size w wr ∧ ∀ k, S k → w.heap.size ≤ k) (fun i _ => la - (intOf i).toNat)
  case atStart => exact ⟨0, _, S1, by omega, rfl, HM1.out, HB1.out, HS1.out⟩
  case round =>
    rename World => wo
    obtain ⟨i, F, S, hi, rfl, hm, hb, hS⟩ := hrel
    have HM := hid hm
    have HBo := hid hb
    have HSo := hid hS
    clear hm hb hS
    by_cases hlt : i < la
    · obtain ⟨rfl, haw, hac⟩ := HSL.out (by omega)
      have c1 : wo.cell? (aa.add i) = some (.int .i64 (ar i)) := by
        rw [← hac _ hlt]
        exact World.cell?_of_block (w := w) (by rw [add_block, HBo.out.block _ haw])
      clear hac
      obtain ⟨a0, ha0⟩ : ∃ a0 : Nat, ar i % 1024 = (a0 : Int) := ⟨(ar i % 1024).toNat, by omega⟩
      have ha1 : a0 < 1024 := by omega
      by_cases hl1 : i < la1
      · obtain ⟨rfl, haw1, hac1⟩ := HSL1.out (by omega)
        have c2 : wo.cell? (aa1.add i) = some (.int .u64 (ar1 i)) := by
          rw [← hac1 _ hl1]
          exact World.cell?_of_block (w := w) (by rw [add_block, HBo.out.block _ haw1])
        clear hac1
        go_wp2_with (first
          | (go_at_call 16; refine (c_Place (ar i) 1024 (by decide) (by decide) (HR.out i).1 (HR.out i).2 _).mono ?_; rintro e w3 ⟨rfl, hw3⟩; obtain rfl := hw3.symm; rw [ha0])
          | (go_at_call 17; refine (c_Write wo S p 0 2 F HM.out (8 * a0) 8 (by omega) (by decide) _ (by omega) (ar1 i) (HR1.out i).1 (HR1.out i).2).mono ?_; rintro e w4 ⟨S4, rfl, hm4, ho4, hS4⟩; have HM4 := hid hm4; have HO4 := hid ho4; have HS4 := hid hS4; clear hm4 ho4 hS4))
        go_roundw
        case rel => exact ⟨i + 1, _, S4, by omega, by go_num, HM4.out, HBo.out.trans (HO4.out.below _ HBo.out.size HSo.out), fun k q => by
          rcases HS4.out k q with q | q
          · exact HSo.out k q
          · exact Nat.le_trans HBo.out.size q⟩
        case measure => simp [intOf]; omega
      · go_wp2_with (first
          | (go_at_call 16; refine (c_Place (ar i) 1024 (by decide) (by decide) (HR.out i).1 (HR.out i).2 _).mono ?_; rintro e w3 ⟨rfl, hw3⟩; obtain rfl := hw3.symm; rw [ha0])
          | (go_at_call 17; refine (c_Write wo S p 0 2 F HM.out (8 * a0) 8 (by omega) (by decide) _ (by omega) (i : Int) (by omega) (by omega)).mono ?_; rintro e w4 ⟨S4, rfl, hm4, ho4, hS4⟩; have HM4 := hid hm4; have HO4 := hid ho4; have HS4 := hid hS4; clear hm4 ho4 hS4))
        go_roundw
        case rel => exact ⟨i + 1, _, S4, by omega, by go_num, HM4.out, HBo.out.trans (HO4.out.below _ HBo.out.size HSo.out), fun k q => by
          rcases HS4.out k q with q | q
          · exact HSo.out k q
          · exact Nat.le_trans HBo.out.size q⟩
        case measure => simp [intOf]; omega
    · go_wp2_with (first
        | (go_at_call 24; (with_reducible refine (c_Bytes8 wo S p F HM.out).mono ?_); rintro e w2 ⟨bw, rfl, hg, hb⟩; have HGw := hid hg; have HB2 := hid hb; clear hg hb)
        | (go_at_call 29; refine (c_Copy w2 S p 0 2 F (Mem.below HM.out HB2.out)).mono ?_; rintro e w3 ⟨p2, S2, rfl, hm, hb, hS2⟩; have HMc := hid hm; have HB3 := hid hb; have HS2 := hid hS2; clear hm hb hS2))
      have HMm : Hid (Mem w3 S p 0 2 F) := Mem.below (Mem.below HM.out HB2.out) HB3.out
      have HG3 : Hid (w3.heap[bw]? = some (.cells (row F 0 8192).toArray 5 (0, 0))) := (HB3.out.block _ (lt_of_block HGw.out)).trans HGw.out
      have HBw : Hid (Below w.heap.size w w3) := (HBo.out.trans (HB2.out.mono HBo.out.size)).trans (HB3.out.mono (Nat.le_trans HBo.out.size HB2.out.size))
      have HD : Hid (∀ k, S k → ¬ S2 k) := fun k q1 q2 => by
        have := HS2.out k q2
        have := Mem.lt HM.out q1
        have := HB2.out.size
        omega
      have HS2w : Hid (∀ k, S2 k → w.heap.size ≤ k) := fun k q => Nat.le_trans (Nat.le_trans HBo.out.size HB2.out.size) (HS2.out k q)
      clear HM HGw HB2 HB3 HS2 HBo
      go_loopw [14] (fun v wr => ∃ (j : Nat) (F2 : Nat → Int) (S' : Nat → Prop), j ≤ la2 ∧ v = .int .i64 j ∧ Mem wr S' p 0 2 F2 ∧ Mem wr S2 p2 0 2 F ∧ wr.heap[bw]? = some (.cells (row F 0 8192).toArray 5 (0, 0)) ∧ Below w.heap.size w wr ∧ (∀ k, S' k → w.heap.size ≤ k) ∧ ∀ k, S' k → ¬ S2 k) (fun v _ => la2 - (intOf v).toNat)
      case atStart => exact ⟨0, _, S, by omega, rfl, HMm.out, HMc.out, HG3.out, HBw.out, HSo.out, HD.out⟩
      case round =>
        clear HMm HMc HG3 HBw HSo HD
        obtain ⟨j, F2, S', hj, rfl, hm, hmc, hg, hb, hS, hd⟩ := hrel
        have HMm := hid hm
        have HMc := hid hmc
        have HG3 := hid hg
        have HBw := hid hb
        have HSo := hid hS
        have HD := hid hd
        clear hm hmc hg hb hS hd
        by_cases hlt2 : j < la2
        · obtain ⟨rfl, haw, hac⟩ := HSL2.out (by omega)
          have c1 : wr.cell? (aa2.add j) = some (.int .i64 (ar2 j)) := by
            rw [← hac _ hlt2]
            exact World.cell?_of_block (w := w) (by rw [add_block, HBw.out.block _ haw])
          clear hac
          by_cases hpar : (j : Int) % 2 = 0
          · obtain ⟨a0, ha0⟩ : ∃ a0 : Nat, ar2 j % 1024 = (a0 : Int) := ⟨(ar2 j % 1024).toNat, by omega⟩
            have ha1 : a0 < 1024 := by omega
            go_wp2_with (first
              | (go_at_call 16; refine (c_Place (ar2 j) 1024 (by decide) (by decide) (HR2.out j).1 (HR2.out j).2 _).mono ?_; rintro e w3 ⟨rfl, hw3⟩; obtain rfl := hw3.symm; rw [ha0])
              | (go_at_call 17; refine (c_Write wr S' p 0 2 F2 HMm.out (8 * a0) 8 (by omega) (by decide) _ (by omega) 18446744073709551615 (by decide) (by decide)).mono ?_; rintro e w4 ⟨S4, rfl, hm4, ho4, hS4⟩; have HM4 := hid hm4; have HO4 := hid ho4; have HS4 := hid hS4; clear hm4 ho4 hS4))
            go_roundw
            case rel => exact ⟨j + 1, _, S4, by omega, by go_num, HM4.out, Mem.only HMc.out HO4.out (fun k q1 q2 => HD.out k q2 q1), HO4.out.old HG3.out (Mem.typ HMm.out HG3.out (by decide) (by decide) (by decide)), HBw.out.trans (HO4.out.below _ HBw.out.size HSo.out), fun k q => by
                rcases HS4.out k q with q | q
                · exact HSo.out k q
                · exact Nat.le_trans HBw.out.size q, fun k q q2 => by
                rcases HS4.out k q with q | q
                · exact HD.out k q q2
                · have := Mem.lt HMc.out q2; omega⟩
            case measure => simp [intOf]; omega
          · obtain ⟨a0, ha0⟩ : ∃ a0 : Nat, ar2 j % 2 = (a0 : Int) := ⟨(ar2 j % 2).toNat, by omega⟩
            have ha1 : a0 < 2 := by omega
            go_wp2_with (first
              | (go_at_call 16; refine (c_Place (ar2 j) 2 (by decide) (by decide) (HR2.out j).1 (HR2.out j).2 _).mono ?_; rintro e w3 ⟨rfl, hw3⟩; obtain rfl := hw3.symm; rw [ha0])
              | (go_at_call 27; refine (c_Clear wr S' p 0 2 F2 HMm.out a0 ha1).mono ?_; rintro e w4 ⟨S4, rfl, hm4, ho4, hS4⟩; have HM4 := hid hm4; have HO4 := hid ho4; have HS4 := hid hS4; clear hm4 ho4 hS4))
            go_roundw
            case rel => exact ⟨j + 1, _, S4, by omega, by go_num, HM4.out, Mem.only HMc.out HO4.out (fun k q1 q2 => HD.out k q2 q1), HO4.out.old HG3.out (Mem.typ HMm.out HG3.out (by decide) (by decide) (by decide)), HBw.out.trans (HO4.out.below _ HBw.out.size HSo.out), fun k q => HSo.out k (HS4.out k q), fun k q q2 => HD.out k (HS4.out k q) q2⟩
            case measure => simp [intOf]; omega
        · go_wp2_with (first
            | (go_at_call 24; (with_reducible refine (c_Bytes8 wr S2 p2 F HMc.out).mono ?_); rintro e w5 ⟨b5, rfl, hg, hb⟩; have HG5 := hid hg; have HB5 := hid hb; have HT := hid trivial; clear hg hb)
            | (go_at_call 26; have HT2 := HT.out; refine (c_SameBytes w5 8192 (by decide) _ _ _ _ (Sl.row HG5.out) (Sl.row ((HB5.out.block _ (lt_of_block HG3.out)).trans HG3.out)) (fun _ _ => rfl)).mono ?_; rintro e w6 ⟨rfl, hst⟩; have HST := hid hst; have HM6 := hid (Mem.below (Mem.below HMm.out HB5.out) (hst.below _)); have HMc6 := hid (Mem.below (Mem.below HMc.out HB5.out) (hst.below _)); clear hst HT HT2)
            | (go_at_call 24; (with_reducible refine (c_Bytes8 w6 S' p F2 HM6.out).mono ?_); rintro e w7 ⟨b7, rfl, hg, hb⟩; have HG7 := hid hg; have HB7 := hid hb; have HM7 := hid (Mem.below HM6.out hb); have HMc7 := hid (Mem.below HMc6.out hb); clear hg hb HM6 HMc6)
            | (go_at_call 27; refine (c_Clear w7 S2 p2 0 2 F HMc7.out 0 (by decide)).mono ?_; rintro e w8 ⟨S3, rfl, hm, ho, hS3⟩; have HMc8 := hid hm; have HO8 := hid ho; have HS3 := hid hS3; clear hm ho hS3 HMc7)
            | (go_at_call 27; refine (c_Clear w8 S3 p2 0 2 _ HMc8.out 1 (by decide)).mono ?_; rintro e w9 ⟨S5, rfl, hm, ho, hS5⟩; have HO9 := hid ho; have HM9 := hid (Mem.only (Mem.only HM7.out HO8.out fun k q q2 => HD.out k q q2) ho fun k q q2 => HD.out k q (HS3.out k q2)); have HG9 := hid (Only.old ho (Only.old HO8.out HG7.out (Mem.typ (Mem.below (Mem.below (Mem.below HMc.out HB5.out) (HST.out.below _)) HB7.out) HG7.out (by decide) (by decide) (by decide))) (Mem.typ HMc8.out (Only.old HO8.out HG7.out (Mem.typ (Mem.below (Mem.below (Mem.below HMc.out HB5.out) (HST.out.below _)) HB7.out) HG7.out (by decide) (by decide) (by decide))) (by decide) (by decide) (by decide))); clear hm ho hS5)
            | (go_at_call 24; (with_reducible refine (c_Bytes8 w9 S' p F2 HM9.out).mono ?_); rintro e w10 ⟨b10, rfl, hg, hb⟩; have HG10 := hid hg; have HB10 := hid hb; clear hg hb)
            | (go_at_call 26; refine (c_SameBytes w10 8192 (by decide) _ _ _ _ (Sl.row ((HB10.out.block _ (lt_of_block HG9.out)).trans HG9.out)) (Sl.row HG10.out) (fun _ _ => rfl)).mono ?_; rintro e w11 ⟨rfl, hst⟩; have HST2 := hid hst; clear hst)
            | (go_at_call 11; refine (c_awake w11).mono ?_; rintro e w12 ⟨rfl, hb⟩; have HB12 := hid hb; clear hb))
          go_ret
          have q5 := HBw.out.trans (HB5.out.mono HBw.out.size)
          have q6 := q5.trans (HST.out.below _)
          have q7 := q6.trans (HB7.out.mono q6.size)
          have q8 := q7.trans (HO8.out.below _ q7.size HS2w.out)
          have q9 := q8.trans (HO9.out.below _ q8.size fun k q => HS2w.out k (HS3.out k q))
          have q10 := q9.trans (HB10.out.mono q9.size)
          have q11 := q10.trans (HST2.out.below _)
          exact ⟨rfl, q11.trans (HB12.out.mono q11.size)⟩
end Go.Proofs.Ythjlhiigaccapaa
