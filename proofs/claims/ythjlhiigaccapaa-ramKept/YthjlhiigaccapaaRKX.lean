/- RamKept answers true: the walk, for lists that are longer than a frame. -/
import Derived.Test.YthjlhiigaccapaaRKW
namespace Go.Proofs.Ythjlhiigaccapaa
open Go.RowKit
set_option linter.unusedVariables false

set_option maxHeartbeats 1000000 in
set_option maxRecDepth 100000 in
theorem w_RamKept1 (w : World) (at' : Int) (z0 : -9223372036854775808 ≤ at') (z1 : at' ≤ 9223372036854775807) (ad : Option Addr) (la cap : Nat) (ar : Nat → Int) (har : ∀ j, 0 ≤ ar j ∧ ar j < 256) (hlc : la ≤ cap) (hcm : cap ≤ 9223372036854775807) (hnone : ad = none → la = 0 ∧ cap = 0) (hla : 4096 < la) (aa : Addr) (hsl : 0 < la → ad = some aa ∧ aa.block < w.heap.size ∧ ∀ j, j < la → w.cell? (aa.add j) = some (.int .u8 (ar j))) :
    Calls Try.prog 5 #[.int .i64 at', .slice ad la cap] w fun e w' => e = .returned (.bool true) ∧ Below w.heap.size w w' := by
  have HSL : Hid (0 < 4096 → ad = some aa ∧ aa.block < w.heap.size ∧ ∀ j, j < 4096 → w.cell? (aa.add j) = some (.int .u8 (ar j))) := fun q => ⟨(hsl (by omega)).1, (hsl (by omega)).2.1, fun j hj => (hsl (by omega)).2.2 j (by omega)⟩
  have HNO : Hid (ad = none → 4096 = 0 ∧ cap = 0) := fun q => by have := hnone q; omega
  clear hsl hnone
  have HAR := hid har
  clear har
  obtain ⟨a0, ha0⟩ : ∃ a0 : Nat, at' % 4096 = (a0 : Int) := ⟨(at' % 4096).toNat, by omega⟩
  have ha1 : a0 < 4096 := by omega
  have hcap4 : 4096 ≤ cap := by omega
  go_enter Try.func5, Try.ntmps5
  go_wp2_with (first
    | (go_at_call 9; refine (c_New w 4096 3 (by decide) (by decide) (by decide) (by decide) (by decide)).mono ?_; rintro e w1 ⟨p, S, rfl, hm, hb, hS⟩; have HM := hid hm; have HB := hid hb; have HS := hid hS; clear hm hb hS)
    | (go_at_call 16; refine (c_Place at' 4096 (by decide) (by decide) z0 z1 _).mono ?_; rintro e w3 ⟨rfl, hw3⟩; obtain rfl := hw3.symm; rw [ha0])
    | (go_at_call 32; refine (c_Lend w1 ad 4096 cap ar aa (by omega) HNO.out (fun q => ⟨(HSL.out q).1, Nat.lt_of_lt_of_le (HSL.out q).2.1 HB.out.size, fun j hj => by rw [← (HSL.out q).2.2 j hj]; exact World.cell?_of_block (w := w) (by rw [add_block]; exact HB.out.block _ (HSL.out q).2.1)⟩)).mono ?_; rintro e w2 ⟨g, cp, cur, rfl, hcp, hg, hgw, htk, hb⟩; have HG := hid hg; have HT := hid htk; have HB2 := hid hb; clear hg htk hb)
    | (go_at_call 21; refine (c_Fill w2 S p 4096 3 _ (Mem.below HM.out HB2.out) a0 4096 cp (by omega) (by omega) _ (by omega) _ ar HAR.out ⟨g, 0, fun q => ⟨rfl, lt_of_block HG.out, fun e => by have := Mem.lt HM.out e; omega, fun j hj => by rw [Nat.zero_add, cell_of_row w2 g j _ _ _ HG.out, take_get HT.out j (by omega)]; unfold lendF; rw [put_out _ _ _ _ _ (by omega)]⟩⟩).mono ?_; rintro e w3 ⟨S3, rfl, hm, ho, hS3⟩; have HM3 := hid hm; have HO3 := hid ho; have HS3 := hid hS3; have HG3 := hid (Only.old ho HG.out (fun e => by have := Mem.lt HM.out e; omega)); clear hm ho hS3)
    | (go_at_call 33; refine (c_Back w3 ad 4096 cap cp g ar HAR.out aa (by omega) (fun q => ⟨(HSL.out q).1, fun j hj => by rw [← (HSL.out q).2.2 j hj]; exact World.cell?_of_block (w := w) (by rw [add_block, HO3.out.block _ (Nat.lt_of_lt_of_le (Nat.lt_of_lt_of_le (HSL.out q).2.1 HB.out.size) HB2.out.size) (fun e => by have := HS.out _ e; have := (HSL.out q).2.1; omega), HB2.out.block _ (Nat.lt_of_lt_of_le (HSL.out q).2.1 HB.out.size), HB.out.block _ (HSL.out q).2.1])⟩) (fun j hj => by rw [cell_of_row w3 g j _ _ _ HG3.out]; exact take_get HT.out j hj)).mono ?_; rintro e w4 ⟨rfl, hst⟩; have HST := hid hst; clear hst))
  have hgw2 : w.heap.size ≤ g := Nat.le_trans HB.out.size hgw
  have HBw2 : Hid (Below w.heap.size w w2) := HB.out.trans (HB2.out.mono HB.out.size)
  have HBw4 : Hid (Below w.heap.size w w4) := (HBw2.out.trans (HO3.out.below _ HBw2.out.size HS.out)).trans (HST.out.below _)
  have HM4 : Hid (Mem w4 S3 p 4096 3 (put (fun _ => 0) a0 4096 ar)) := Mem.below HM3.out (HST.out.below _)
  have HR4 : Hid (ByteRow w4 g (4096 + 70)) := ⟨cur, by rw [HST.out.heap]; exact HG3.out, fun j hj => ⟨lendF ar 4096 j, (lendF_b HAR.out _ j).1, (lendF_b HAR.out _ j).2, take_get HT.out j hj⟩⟩
  clear HM HB HS HG HT HB2 HM3 HO3 HS3 HG3 HST HBw2
  go_loopw [10] (fun i wr => ∃ k : Nat, k ≤ 4096 + 70 ∧ i = .int .i64 k ∧ ByteRow wr g (4096 + 70) ∧ Mem wr S3 p 4096 3 (put (fun _ => 0) a0 4096 ar) ∧ Below w.heap.size w wr) (fun i _ => 4096 + 70 - (intOf i).toNat)
  case atStart => exact ⟨0, by omega, rfl, HR4.out, HM4.out, HBw4.out⟩
  case round =>
    clear HR4 HM4 HBw4
    obtain ⟨k, hk, rfl, hr, hm, hb⟩ := hrel
    have HR := hid hr
    have HM := hid hm
    have HBr := hid hb
    clear hr hm hb
    by_cases hlt : k < 4096 + 70
    · obtain ⟨x, x0, x1, c1, f1⟩ := ByteRow.get HR.out k hlt
      go_wp2
      go_roundw
      case rel => exact ⟨k + 1, by omega, by go_num, ByteRow.set HR.out k _ (by omega) (by omega), Mem.only HM.out ((Only.refl (S := (· = g)) wr).setCell (p := ⟨g, k, none⟩) (.inl rfl) _) (fun i hi e => ByteRow.not HR.out HM.out (e ▸ hi)), Below.setCell HBr.out (p := ⟨g, k, none⟩) hgw2 _⟩
      case measure => simp [intOf]; omega
    · obtain ⟨X, hX⟩ : ∃ X : Nat → Int, X = fun j => put (fun _ => 0) a0 4096 ar (a0 + j) := ⟨_, rfl⟩
      have HX : Hid ((fun j => put (fun _ => 0) a0 4096 ar (a0 + j)) = X) := hX.symm
      have HXe : Hid (∀ j, j < 4096 → X j = ar j) := fun j hj => by rw [hX]; exact put_in _ _ _ _ _ hj
      have HXb : Hid (∀ j, 0 ≤ X j ∧ X j < 256) := fun j => by rw [hX]; exact Mem.byt HM.out _
      have T1 := hid trivial
      clear hX
      go_wp2_with (first
        | (go_at_call 24; have T1' := T1.out; refine (c_Bytes wr S3 p 4096 3 _ HM.out a0 4096 (by omega) _ (by omega)).mono ?_; rintro e w5 ⟨bx, rfl, hg, hbx, hb⟩; rw [HX.out] at hg; have HG5 := hid hg; have HB5 := hid hb; clear hg hb T1 T1')
        | (go_at_call 24; refine (c_Bytes w5 S3 p 4096 3 _ (Mem.below HM.out HB5.out) a0 4096 (by omega) _ (by omega)).mono ?_; rintro e w6 ⟨by', rfl, hg, hby, hb⟩; rw [HX.out] at hg; have HG6 := hid hg; have HB6 := hid hb; clear hg hb))
      have hxy : by' ≠ bx := fun e => by have := lt_of_block HG5.out; omega
      have hbxw : w.heap.size ≤ bx := Nat.le_trans HBr.out.size hbx
      have HM6 : Hid (Mem w6 S3 p 4096 3 (put (fun _ => 0) a0 4096 ar)) := Mem.below (Mem.below HM.out HB5.out) HB6.out
      have HBw6 : Hid (Below w.heap.size w w6) := (HBr.out.trans (HB5.out.mono HBr.out.size)).trans (HB6.out.mono (Nat.le_trans HBr.out.size HB5.out.size))
      have HRx : Hid (ByteRow w6 bx 4096) := ByteRow.row HXb.out ((HB6.out.block _ (lt_of_block HG5.out)).trans HG5.out)
      clear HR HM HBr HG5 HB5 HB6
      go_loopw [15] (fun i wr => ∃ k : Nat, k ≤ 4096 ∧ i = .int .i64 k ∧ ByteRow wr bx 4096 ∧ Mem wr S3 p 4096 3 (put (fun _ => 0) a0 4096 ar) ∧ wr.heap[by']? = some (.cells (row X 0 4096).toArray 5 (0, 0)) ∧ Below w.heap.size w wr) (fun i _ => 4096 - (intOf i).toNat)
      case atStart => exact ⟨0, by omega, rfl, HRx.out, HM6.out, HG6.out, HBw6.out⟩
      case round =>
        clear HRx HM6 HG6 HBw6
        obtain ⟨k2, hk2, rfl, hr, hm, hg, hb⟩ := hrel
        have HR := hid hr
        have HM := hid hm
        have HGy := hid hg
        have HBr := hid hb
        clear hr hm hg hb
        by_cases hlt2 : k2 < 4096
        · obtain ⟨x, x0, x1, c1, f1⟩ := ByteRow.get HR.out k2 hlt2
          go_wp2
          go_roundw
          case rel => exact ⟨k2 + 1, by omega, by go_num, ByteRow.set HR.out k2 _ (by omega) (by omega), Mem.only HM.out ((Only.refl (S := (· = bx)) wr).setCell (p := ⟨bx, k2, none⟩) (.inl rfl) _) (fun i hi e => ByteRow.not HR.out HM.out (e ▸ hi)), ((Only.refl (S := (· = bx)) wr).setCell (p := ⟨bx, k2, none⟩) (.inl rfl) _).old HGy.out hxy, Below.setCell HBr.out (p := ⟨bx, k2, none⟩) hbxw _⟩
          case measure => simp [intOf]; omega
        · have HSb : Hid (Sl w (.slice ad 4096 cap) 4096 ar) := ⟨ad, cap, rfl, by omega, aa, HSL.out⟩
          have T2 := hid trivial
          go_wp2_with (first
            | (go_at_call 24; refine (c_Bytes wr S3 p 4096 3 _ HM.out a0 4096 (by omega) _ (by omega)).mono ?_; rintro e w8 ⟨bz, rfl, hg, hbz, hb⟩; rw [HX.out] at hg; have HG8 := hid hg; have HB8 := hid hb; have HBw8 := hid (HBr.out.trans (hb.mono HBr.out.size)); clear hg hb)
            | (go_at_call 26; have T2' := T2.out; refine (c_SameBytes w8 4096 (by omega) _ _ _ _ (Sl.row ((HB8.out.block _ (lt_of_block HGy.out)).trans HGy.out)) (Sl.below HSb.out HBw8.out) HXe.out).mono ?_; rintro e w9 ⟨rfl, hst⟩; have HST := hid hst; clear hst T2 T2')
            | (go_at_call 26; refine (c_SameBytes w9 4096 (by omega) _ _ _ _ (Sl.still (Sl.row HG8.out) HST.out) (Sl.still (Sl.below HSb.out HBw8.out) HST.out) HXe.out).mono ?_; rintro e w10 ⟨rfl, hst⟩; have HST2 := hid hst; clear hst)
            | (go_at_call 11; refine (c_awake w10).mono ?_; rintro e w12 ⟨rfl, hb⟩; have HB12 := hid hb; clear hb))
          go_ret
          have q9 := HBw8.out.trans (HST.out.below _)
          have q10 := q9.trans (HST2.out.below _)
          exact ⟨rfl, q10.trans (HB12.out.mono q10.size)⟩
end Go.Proofs.Ythjlhiigaccapaa
