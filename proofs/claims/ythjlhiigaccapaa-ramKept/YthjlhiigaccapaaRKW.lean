/- What RamKept's walks lean on, and the walk for lists of at most a frame's length. -/
import Derived.Test.YthjlhiigaccapaaRKB
namespace Go.Proofs.Ythjlhiigaccapaa
open Go.RowKit
set_option linter.unusedVariables false

/-- a row of bytes, whatever they are -/
def ByteRow (w : World) (g n : Nat) : Prop := ∃ cur : Array Value, w.heap[g]? = some (.cells cur 5 (0, 0)) ∧ ∀ j, j < n → ∃ x : Int, 0 ≤ x ∧ x < 256 ∧ cur[j]? = some (.int .u8 x)
theorem ByteRow.get {w : World} {g n : Nat} (h : ByteRow w g n) (j : Nat) (hj : j < n) : ∃ x : Int, 0 ≤ x ∧ x < 256 ∧ w.cell? ⟨g, j, none⟩ = some (.int .u8 x) ∧ w.frozen? ⟨g, j, none⟩ = false := by
  obtain ⟨cur, hg, hc⟩ := h
  obtain ⟨x, x0, x1, hx⟩ := hc j hj
  exact ⟨x, x0, x1, by rw [cell_of_row w g j _ _ _ hg]; exact hx, frozen_of_row w g j _ _ hg⟩
theorem ByteRow.set {w : World} {g n : Nat} (h : ByteRow w g n) (j : Nat) (y : Int) (y0 : 0 ≤ y) (y1 : y < 256) : ByteRow (w.setCell ⟨g, j, none⟩ (.int .u8 y)) g n := by
  obtain ⟨cur, hg, hc⟩ := h
  refine ⟨cur.setIfInBounds j (.int .u8 y), heap_setCell_same w g j cur _ _ hg, fun i hi => ?_⟩
  by_cases e : j = i
  · subst e
    obtain ⟨x, x0, x1, hx⟩ := hc j hi
    have hl : j < cur.size := (Array.getElem?_eq_some_iff.1 hx).1
    exact ⟨y, y0, y1, by simp [hl]⟩
  · obtain ⟨x, x0, x1, hx⟩ := hc i hi
    exact ⟨x, x0, x1, by rw [Array.getElem?_setIfInBounds_ne (h := e)]; exact hx⟩
theorem ByteRow.not {w : World} {g n : Nat} (h : ByteRow w g n) {S : Nat → Prop} {p : Nat} {base : Int} {m : Nat} {f : Nat → Int} (hm : Mem w S p base m f) : ¬ S g := by
  obtain ⟨cur, hg, _⟩ := h
  exact Mem.typ hm hg (by decide) (by decide) (by decide)
theorem ByteRow.row {w : World} {g n : Nat} {f : Nat → Int} (hf : ∀ j, 0 ≤ f j ∧ f j < 256) (h : w.heap[g]? = some (.cells (row f 0 n).toArray 5 (0, 0))) : ByteRow w g n :=
  ⟨_, h, fun j hj => ⟨f j, (hf j).1, (hf j).2, by have := row_get f 0 n j hj; simpa using this⟩⟩
theorem take_get {cur : Array Value} {f : Nat → Int} {n : Nat} (h : cur.toList.take n = row f 0 n) (j : Nat) (hj : j < n) : cur[j]? = some (.int .u8 (f j)) := by
  have := row_get f 0 n j hj
  rw [← h, List.getElem?_take_of_lt hj, Nat.zero_add] at this
  simpa using this
theorem lendF_b {f : Nat → Int} (hf : ∀ j, 0 ≤ f j ∧ f j < 256) (n j : Nat) : 0 ≤ lendF f n j ∧ lendF f n j < 256 := by
  unfold lendF put
  split
  · show (0 : Int) ≤ 101 + ((j - n : Nat) : Int) ∧ 101 + ((j - n : Nat) : Int) < 256; omega
  · exact hf j
set_option maxHeartbeats 1000000 in
set_option maxRecDepth 100000 in
theorem w_RamKept0 (w : World) (at' : Int) (z0 : -9223372036854775808 ≤ at') (z1 : at' ≤ 9223372036854775807) (ad : Option Addr) (la cap : Nat) (ar : Nat → Int) (har : ∀ j, 0 ≤ ar j ∧ ar j < 256) (hlc : la ≤ cap) (hcm : cap ≤ 9223372036854775807) (hnone : ad = none → la = 0 ∧ cap = 0) (hla : la ≤ 4096) (aa : Addr) (hsl : 0 < la → ad = some aa ∧ aa.block < w.heap.size ∧ ∀ j, j < la → w.cell? (aa.add j) = some (.int .u8 (ar j))) :
    Calls Try.prog 5 #[.int .i64 at', .slice ad la cap] w fun e w' => e = .returned (.bool true) ∧ Below w.heap.size w w' := by
  have HSL : Hid (0 < la → ad = some aa ∧ aa.block < w.heap.size ∧ ∀ j, j < la → w.cell? (aa.add j) = some (.int .u8 (ar j))) := fun q => ⟨(hsl (by omega)).1, (hsl (by omega)).2.1, fun j hj => (hsl (by omega)).2.2 j (by omega)⟩
  have HNO : Hid (ad = none → la = 0 ∧ cap = 0) := fun q => by have := hnone q; omega
  clear hsl hnone
  have HAR := hid har
  clear har
  obtain ⟨a0, ha0⟩ : ∃ a0 : Nat, at' % 4096 = (a0 : Int) := ⟨(at' % 4096).toNat, by omega⟩
  have ha1 : a0 < 4096 := by omega
  go_enter Try.func5, Try.ntmps5
  go_wp2_with (first
    | (go_at_call 9; refine (c_New w 4096 3 (by decide) (by decide) (by decide) (by decide) (by decide)).mono ?_; rintro e w1 ⟨p, S, rfl, hm, hb, hS⟩; have HM := hid hm; have HB := hid hb; have HS := hid hS; clear hm hb hS)
    | (go_at_call 16; refine (c_Place at' 4096 (by decide) (by decide) z0 z1 _).mono ?_; rintro e w3 ⟨rfl, hw3⟩; obtain rfl := hw3.symm; rw [ha0])
    | (go_at_call 32; refine (c_Lend w1 ad la cap ar aa (by omega) HNO.out (fun q => ⟨(HSL.out q).1, Nat.lt_of_lt_of_le (HSL.out q).2.1 HB.out.size, fun j hj => by rw [← (HSL.out q).2.2 j hj]; exact World.cell?_of_block (w := w) (by rw [add_block]; exact HB.out.block _ (HSL.out q).2.1)⟩)).mono ?_; rintro e w2 ⟨g, cp, cur, rfl, hcp, hg, hgw, htk, hb⟩; have HG := hid hg; have HT := hid htk; have HB2 := hid hb; clear hg htk hb)
    | (go_at_call 21; refine (c_Fill w2 S p 4096 3 _ (Mem.below HM.out HB2.out) a0 la cp (by omega) (by omega) _ (by omega) _ ar HAR.out ⟨g, 0, fun q => ⟨rfl, lt_of_block HG.out, fun e => by have := Mem.lt HM.out e; omega, fun j hj => by rw [Nat.zero_add, cell_of_row w2 g j _ _ _ HG.out, take_get HT.out j (by omega)]; unfold lendF; rw [put_out _ _ _ _ _ (by omega)]⟩⟩).mono ?_; rintro e w3 ⟨S3, rfl, hm, ho, hS3⟩; have HM3 := hid hm; have HO3 := hid ho; have HS3 := hid hS3; have HG3 := hid (Only.old ho HG.out (fun e => by have := Mem.lt HM.out e; omega)); clear hm ho hS3)
    | (go_at_call 33; refine (c_Back w3 ad la cap cp g ar HAR.out aa (by omega) (fun q => ⟨(HSL.out q).1, fun j hj => by rw [← (HSL.out q).2.2 j hj]; exact World.cell?_of_block (w := w) (by rw [add_block, HO3.out.block _ (Nat.lt_of_lt_of_le (Nat.lt_of_lt_of_le (HSL.out q).2.1 HB.out.size) HB2.out.size) (fun e => by have := HS.out _ e; have := (HSL.out q).2.1; omega), HB2.out.block _ (Nat.lt_of_lt_of_le (HSL.out q).2.1 HB.out.size), HB.out.block _ (HSL.out q).2.1])⟩) (fun j hj => by rw [cell_of_row w3 g j _ _ _ HG3.out]; exact take_get HT.out j hj)).mono ?_; rintro e w4 ⟨rfl, hst⟩; have HST := hid hst; clear hst))
  have hgw2 : w.heap.size ≤ g := Nat.le_trans HB.out.size hgw
  have HBw2 : Hid (Below w.heap.size w w2) := HB.out.trans (HB2.out.mono HB.out.size)
  have HBw4 : Hid (Below w.heap.size w w4) := (HBw2.out.trans (HO3.out.below _ HBw2.out.size HS.out)).trans (HST.out.below _)
  have HM4 : Hid (Mem w4 S3 p 4096 3 (put (fun _ => 0) a0 la ar)) := Mem.below HM3.out (HST.out.below _)
  have HR4 : Hid (ByteRow w4 g (la + 70)) := ⟨cur, by rw [HST.out.heap]; exact HG3.out, fun j hj => ⟨lendF ar la j, (lendF_b HAR.out _ j).1, (lendF_b HAR.out _ j).2, take_get HT.out j hj⟩⟩
  clear HM HB HS HG HT HB2 HM3 HO3 HS3 HG3 HST HBw2
  go_loopw [10] (fun i wr => ∃ k : Nat, k ≤ la + 70 ∧ i = .int .i64 k ∧ ByteRow wr g (la + 70) ∧ Mem wr S3 p 4096 3 (put (fun _ => 0) a0 la ar) ∧ Below w.heap.size w wr) (fun i _ => la + 70 - (intOf i).toNat)
  case atStart => exact ⟨0, by omega, rfl, HR4.out, HM4.out, HBw4.out⟩
  case round =>
    clear HR4 HM4 HBw4
    obtain ⟨k, hk, rfl, hr, hm, hb⟩ := hrel
    have HR := hid hr
    have HM := hid hm
    have HBr := hid hb
    clear hr hm hb
    by_cases hlt : k < la + 70
    · obtain ⟨x, x0, x1, c1, f1⟩ := ByteRow.get HR.out k hlt
      go_wp2
      go_roundw
      case rel => exact ⟨k + 1, by omega, by go_num, ByteRow.set HR.out k _ (by omega) (by omega), Mem.only HM.out ((Only.refl (S := (· = g)) wr).setCell (p := ⟨g, k, none⟩) (.inl rfl) _) (fun i hi e => ByteRow.not HR.out HM.out (e ▸ hi)), Below.setCell HBr.out (p := ⟨g, k, none⟩) hgw2 _⟩
      case measure => simp [intOf]; omega
    · obtain ⟨X, hX⟩ : ∃ X : Nat → Int, X = fun j => put (fun _ => 0) a0 la ar (a0 + j) := ⟨_, rfl⟩
      have HX : Hid ((fun j => put (fun _ => 0) a0 la ar (a0 + j)) = X) := hX.symm
      have HXe : Hid (∀ j, j < la → X j = ar j) := fun j hj => by rw [hX]; exact put_in _ _ _ _ _ hj
      have HXb : Hid (∀ j, 0 ≤ X j ∧ X j < 256) := fun j => by rw [hX]; exact Mem.byt HM.out _
      have T1 := hid trivial
      clear hX
      go_wp2_with (first
        | (go_at_call 24; have T1' := T1.out; refine (c_Bytes wr S3 p 4096 3 _ HM.out a0 la (by omega) _ (by omega)).mono ?_; rintro e w5 ⟨bx, rfl, hg, hbx, hb⟩; rw [HX.out] at hg; have HG5 := hid hg; have HB5 := hid hb; clear hg hb T1 T1')
        | (go_at_call 24; refine (c_Bytes w5 S3 p 4096 3 _ (Mem.below HM.out HB5.out) a0 la (by omega) _ (by omega)).mono ?_; rintro e w6 ⟨by', rfl, hg, hby, hb⟩; rw [HX.out] at hg; have HG6 := hid hg; have HB6 := hid hb; clear hg hb))
      have hxy : by' ≠ bx := fun e => by have := lt_of_block HG5.out; omega
      have hbxw : w.heap.size ≤ bx := Nat.le_trans HBr.out.size hbx
      have HM6 : Hid (Mem w6 S3 p 4096 3 (put (fun _ => 0) a0 la ar)) := Mem.below (Mem.below HM.out HB5.out) HB6.out
      have HBw6 : Hid (Below w.heap.size w w6) := (HBr.out.trans (HB5.out.mono HBr.out.size)).trans (HB6.out.mono (Nat.le_trans HBr.out.size HB5.out.size))
      have HRx : Hid (ByteRow w6 bx la) := ByteRow.row HXb.out ((HB6.out.block _ (lt_of_block HG5.out)).trans HG5.out)
      clear HR HM HBr HG5 HB5 HB6
      go_loopw [15] (fun i wr => ∃ k : Nat, k ≤ la ∧ i = .int .i64 k ∧ ByteRow wr bx la ∧ Mem wr S3 p 4096 3 (put (fun _ => 0) a0 la ar) ∧ wr.heap[by']? = some (.cells (row X 0 la).toArray 5 (0, 0)) ∧ Below w.heap.size w wr) (fun i _ => la - (intOf i).toNat)
      case atStart => exact ⟨0, by omega, rfl, HRx.out, HM6.out, HG6.out, HBw6.out⟩
      case round =>
        clear HRx HM6 HG6 HBw6
        obtain ⟨k2, hk2, rfl, hr, hm, hg, hb⟩ := hrel
        have HR := hid hr
        have HM := hid hm
        have HGy := hid hg
        have HBr := hid hb
        clear hr hm hg hb
        by_cases hlt2 : k2 < la
        · obtain ⟨x, x0, x1, c1, f1⟩ := ByteRow.get HR.out k2 hlt2
          go_wp2
          go_roundw
          case rel => exact ⟨k2 + 1, by omega, by go_num, ByteRow.set HR.out k2 _ (by omega) (by omega), Mem.only HM.out ((Only.refl (S := (· = bx)) wr).setCell (p := ⟨bx, k2, none⟩) (.inl rfl) _) (fun i hi e => ByteRow.not HR.out HM.out (e ▸ hi)), ((Only.refl (S := (· = bx)) wr).setCell (p := ⟨bx, k2, none⟩) (.inl rfl) _).old HGy.out hxy, Below.setCell HBr.out (p := ⟨bx, k2, none⟩) hbxw _⟩
          case measure => simp [intOf]; omega
        · have HSb : Hid (Sl w (.slice ad la cap) la ar) := ⟨ad, cap, rfl, by omega, aa, HSL.out⟩
          have T2 := hid trivial
          go_wp2_with (first
            | (go_at_call 24; refine (c_Bytes wr S3 p 4096 3 _ HM.out a0 la (by omega) _ (by omega)).mono ?_; rintro e w8 ⟨bz, rfl, hg, hbz, hb⟩; rw [HX.out] at hg; have HG8 := hid hg; have HB8 := hid hb; have HBw8 := hid (HBr.out.trans (hb.mono HBr.out.size)); clear hg hb)
            | (go_at_call 26; have T2' := T2.out; refine (c_SameBytes w8 la (by omega) _ _ _ _ (Sl.row ((HB8.out.block _ (lt_of_block HGy.out)).trans HGy.out)) (Sl.below HSb.out HBw8.out) HXe.out).mono ?_; rintro e w9 ⟨rfl, hst⟩; have HST := hid hst; clear hst T2 T2')
            | (go_at_call 26; refine (c_SameBytes w9 la (by omega) _ _ _ _ (Sl.still (Sl.row HG8.out) HST.out) (Sl.still (Sl.below HSb.out HBw8.out) HST.out) HXe.out).mono ?_; rintro e w10 ⟨rfl, hst⟩; have HST2 := hid hst; clear hst)
            | (go_at_call 11; refine (c_awake w10).mono ?_; rintro e w12 ⟨rfl, hb⟩; have HB12 := hid hb; clear hb))
          go_ret
          have q9 := HBw8.out.trans (HST.out.below _)
          have q10 := q9.trans (HST2.out.below _)
          exact ⟨rfl, q10.trans (HB12.out.mono q10.size)⟩
end Go.Proofs.Ythjlhiigaccapaa
