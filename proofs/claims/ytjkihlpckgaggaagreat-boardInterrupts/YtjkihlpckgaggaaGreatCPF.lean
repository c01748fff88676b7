/- A memory of cells is made. -/
import Derived.Test.YtjkihlpckgaggaaGreatMC4
namespace Go.Proofs.YtjkihlpckgaggaaGreat.C
open Go.RowKit
set_option linter.unusedVariables false
set_option maxRecDepth 100000

set_option maxHeartbeats 1000000 in
set_option maxRecDepth 100000 in
theorem c_Memory (w : World) (n : Nat) (n0 : 0 < n) (n1 : n ≤ 1024) (ad : Option Addr) (la cap ab ao : Nat) (X : Nat → Int × Int) (hX : Cl w ad la cap ab ao X) :
    Calls Tryz.prog 20 #[.int .u64 0, .int .i64 n, .slice ad la cap] w fun r w' => ∃ p q U, r = .returned (.tuple #[.agg #[.pointer (some ⟨p, 0, none⟩), .pointer (some ⟨q, 0, none⟩)], .bool true]) ∧ Tw w' U p q n (fcl n X la) ∧ Below w.heap.size w w' ∧ ∀ k, U k → w.heap.size ≤ k := by
  have HX := hid hX
  have hlc := hX.len
  have hcm := hX.cap
  clear hX
  go_enter Tryz.func20, Tryz.ntmps20
  go_wp2_with (first
    | (go_at_call 28; refine (c_New _ 0 n (by decide) (by decide) (by decide) n0 n1).mono ?_; rintro e w1 ⟨p, S, rfl, hm, hb, hS⟩; have HM1 := hid hm; have HB1 := hid hb; have HS1 := hid hS; clear hm hb hS)
    | (go_at_call 29; refine (q_New w1 0 n (by decide) (by decide) (by decide) n0 n1).mono ?_; rintro e w2 ⟨q, T, rfl, hm, hb, hS⟩; have HM2 := hid hm; have HB2 := hid hb; have HS2 := hid hS; clear hm hb hS))
  have q1 := HB1.out.size
  have q2 := HB2.out.size
  have HP1 : Hid (w1.heap[w.heap.size]? = some (.cells #[.pointer none, .pointer none] 33 (0, 0))) := (HB1.out.block _ (by simp)).trans (heap_alloc_new w _)
  have HP2 : Hid (w2.heap[w.heap.size]? = some (.cells #[.pointer none, .pointer none] 33 (0, 0))) := (HB2.out.block _ (lt_of_block HP1.out)).trans HP1.out
  have HT0 : Hid (Tw w2 (fun k => S k ∨ T k) p q n (fun _ => 0)) := ⟨S, T, Mem.below HM1.out HB2.out, HM2.out, fun k => Iff.rfl, fun k hk ht => by have := Mem.lt HM1.out hk; have := HS2.out k ht; omega⟩
  have HBw : Hid (Below w.heap.size w w2) := ((Below.refl _ _).alloc (Nat.le_refl _) _).trans ((HB1.out.mono (by simp)).trans (HB2.out.mono (by simp at q1; omega)))
  have HU : Hid (∀ k, S k ∨ T k → w.heap.size < k ∧ k < w2.heap.size) := fun k hk => by
    rcases hk with z | z
    · have h1 := HS1.out k z; have h2 := Mem.lt HM1.out z; simp at h1; omega
    · have := HS2.out k z; have := RMem.lt HM2.out z; simp at q1; omega
  clear HM1 HS1 HM2 HS2 HP1 HB1 HB2 q1 q2
  go_loopw [13] (fun i wr => ∃ (k : Nat) (U : Nat → Prop), k ≤ la ∧ i = .int .i64 k ∧ Tw wr U p q n (fcl n X k) ∧ wr.heap[w.heap.size]? = some (.cells #[.pointer none, .pointer none] 33 (0, 0)) ∧ wr.heap[w2.heap.size]? = some (.cells #[.pointer (some ⟨p, 0, none⟩), .pointer (some ⟨q, 0, none⟩)] 33 (0, 0)) ∧ Below w.heap.size w wr ∧ ∀ k, U k → w.heap.size < k ∧ k ≠ w2.heap.size) (fun i _ => la - (intOf i).toNat)
  case atStart => exact ⟨0, _, by omega, rfl, Tw.below HT0.out ((Below.refl _ _).alloc (Nat.le_refl _) _), (Below.heap_alloc w2 _ _ (lt_of_block HP2.out)).trans HP2.out, heap_alloc_new w2 _, HBw.out.alloc HBw.out.size _, fun k hk => ⟨(HU.out k hk).1, by have := (HU.out k hk).2; omega⟩⟩
  case round =>
    obtain ⟨k, U, hk, rfl, ht, hb1, hb2, hbw, hu⟩ := hrel
    have r0 : wr.cell? ⟨w.heap.size, 0, none⟩ = some (.pointer none) := by rw [cell_of_row wr _ 0 _ _ _ hb1]; rfl
    have r1 : wr.cell? ⟨w.heap.size, 1, none⟩ = some (.pointer none) := by rw [cell_of_row wr _ 1 _ _ _ hb1]; rfl
    have s0 : wr.cell? ⟨w2.heap.size, 0, none⟩ = some (.pointer (some ⟨p, 0, none⟩)) := by rw [cell_of_row wr _ 0 _ _ _ hb2]; rfl
    have s1 : wr.cell? ⟨w2.heap.size, 1, none⟩ = some (.pointer (some ⟨q, 0, none⟩)) := by rw [cell_of_row wr _ 1 _ _ _ hb2]; rfl
    have z0 : wr.frozen? ⟨w.heap.size, 0, none⟩ = false := frozen_of_row wr _ 0 _ _ hb1
    have z1 : wr.frozen? ⟨w.heap.size, 1, none⟩ = false := frozen_of_row wr _ 1 _ _ hb1
    have HT := hid ht
    have HB1 := hid hb1
    have HB2 := hid hb2
    have HBw2 := hid hbw
    have HU2 := hid hu
    clear ht hb1 hb2 hbw hu
    by_cases hlt : k < la
    · obtain ⟨rfl, hab⟩ := HX.out.at0 (by omega)
      obtain ⟨x0, x1⟩ := (Cl.below HX.out HBw2.out).cell k hlt
      obtain ⟨⟨v0, v1⟩, u0, u1⟩ := HX.out.num k hlt
      obtain ⟨pl, hpl⟩ : ∃ pl : Nat, (X k).1 % (512 * (n : Int)) = pl := ⟨((X k).1 % (512 * (n : Int))).toNat, by have := Int.emod_nonneg (X k).1 (show (512 * (n : Int)) ≠ 0 by omega); omega⟩
      have hpl2 : pl < 512 * n := by have := Int.emod_lt_of_pos (X k).1 (show 0 < 512 * (n : Int) by omega); omega
      have HF : Hid (fcl n X (k + 1) = put (fcl n X k) (8 * pl) 8 (byt (X k).2)) := by
        show put _ _ _ _ = _
        rw [hpl]; rfl
      have HPL := hid hpl
      obtain ⟨A, hA⟩ : ∃ A, (X k).1 = A := ⟨_, rfl⟩
      obtain ⟨V, hV⟩ : ∃ V, (X k).2 = V := ⟨_, rfl⟩
      rw [hA] at x0 v0 v1 HPL
      rw [hV] at x1 u0 u1 HF
      have HW1 : Hid (IntKind.i64.wrap (512 * (n : Int)) = 512 * (n : Int)) := by show _ = _; rw [IntKind.wrap_i64]; omega
      have HW2 : Hid (IntKind.u64.wrap (IntKind.u64.wrap (8 * IntKind.u64.wrap (pl : Int))) = 8 * (pl : Int)) := by show _ = _; rw [IntKind.wrap_u64, IntKind.wrap_u64, IntKind.wrap_u64]; omega
      clear hpl hA hV
      go_wp2_with fail
      go_region_law (first
        | (refine step_call rfl 12 (.tmp 52) (.tmp 54) _ _ rfl (.int .i64 A) (.int .i64 (512 * (n : Int))) (by go_simp) (by go_simp; exact HW1.out) (Tryz.call12 _ _) (c_Place A (512 * (n : Int)) (by omega) (by omega) v0 v1 _) ?_; rintro e w4 ⟨rfl, hw4⟩; obtain rfl := hw4.symm; rw [HPL.out]; refine ⟨_, rfl, ?_⟩)
        | (refine step_call4 rfl 30 (.tmp 46) (.tmp 58) (.const (.int .i64 8)) (.tmp 63) _ rfl (.agg #[.pointer (some ⟨p, 0, none⟩), .pointer (some ⟨q, 0, none⟩)]) (.int .u64 ((8 * pl : Nat) : Int)) (.int .i64 8) (.int .u64 V) (by go_simp) (by go_simp; exact HW2.out) rfl (by go_simp) (Tryz.call30 _ _) (c_TwoWrite wr.drew U p q n _ (Tw.below HT.out ((Below.refl _ _).drew)) (8 * pl) (by omega) V u0 u1 _ rfl) ?_; rintro e w4 ⟨rfl, U4, ht4, ho4, hu4⟩; have HT4 := hid ht4; have HO4 := hid ho4; have HU4 := hid hu4; clear ht4 ho4 hu4; refine ⟨_, rfl, ?_⟩))
      all_goals
        go_wp2_with fail
        go_roundw
        case rel => exact ⟨k + 1, U4, by omega, by go_num, by rw [HF.out]; exact HT4.out, HO4.out.old (w := w4) (a := wr.drew) HB1.out (fun z => Nat.lt_irrefl _ (HU2.out _ z).1), HO4.out.old (w := w4) (a := wr.drew) HB2.out (fun z => (HU2.out _ z).2 rfl), HBw2.out.drew.trans (HO4.out.below _ HBw2.out.size (fun k z => Nat.le_of_lt (HU2.out k z).1)), fun k' hk' => by
          rcases HU4.out k' hk' with z | z
          · exact HU2.out k' z
          · have z' : wr.heap.size ≤ k' := z
            have h1 := lt_of_block HB1.out
            have h2 := lt_of_block HB2.out
            omega⟩
        case measure => simp [intOf]; omega
    · obtain rfl : k = la := by omega
      have y0 : (wr.setCell ⟨w.heap.size, 0, none⟩ (.pointer (some ⟨p, 0, none⟩))).cell? ⟨w.heap.size, 0, none⟩ = some (.pointer (some ⟨p, 0, none⟩)) := World.cell?_setCell_same _ _ _ r0
      have y1 : ((wr.setCell ⟨w.heap.size, 0, none⟩ (.pointer (some ⟨p, 0, none⟩))).setCell ⟨w.heap.size, 1, none⟩ (.pointer (some ⟨q, 0, none⟩))).cell? ⟨w.heap.size, 1, none⟩ = some (.pointer (some ⟨q, 0, none⟩)) := by
        have r1' : (wr.setCell ⟨w.heap.size, 0, none⟩ (.pointer (some ⟨p, 0, none⟩))).cell? ⟨w.heap.size, 1, none⟩ = some (.pointer none) := by
          rw [World.cell?_setCell_other _ _ _ _ (by intro e; cases e)]; exact r1
        exact World.cell?_setCell_same _ _ _ r1'
      go_wp2_with fail
      refine bodyPost_ret (by simp [results, Tryz.results20, go_sem, y0, y1]; rfl) rfl ?_
      refine ⟨p, q, U, rfl, Tw.only HT.out (V := (· = w.heap.size)) (((Only.refl (S := (· = w.heap.size)) wr).setCell (.inl rfl) _).setCell (.inl rfl) _) (fun k hk e => by have := (HU2.out k hk).1; omega), ?_, fun k hk => Nat.le_of_lt (HU2.out k hk).1⟩
      exact (HBw2.out.setCell (Nat.le_refl _) _).setCell (Nat.le_refl _) _
end Go.Proofs.YtjkihlpckgaggaaGreat.C
