/- What the statements of layer 4 ask of a case, and the answer that they ask for. -/
import Derived.Test.YtdohbblginbkgaaPF
namespace Go.Proofs.Ytdohbblginbkgaa
open Go.RowKit
set_option linter.unusedVariables false

theorem c_memory (w : World) (ad : Option Addr) (la cap ab ao : Nat) (X : Nat → Int × Int) (hX : Cl w ad la cap ab ao X) (a b : Int) (c d e : Bool) :
    Calls Try.prog 32 #[.agg #[.slice ad la cap, .int .u64 a, .int .u64 b, .bool c, .bool d, .bool e]] w fun r w' => ∃ p q U, r = .returned (.tuple #[.agg #[.pointer (some ⟨p, 0, none⟩), .pointer (some ⟨q, 0, none⟩)], .bool true]) ∧ Tw w' U p q 8 (fcl 8 X la) ∧ Below w.heap.size w w' ∧ ∀ k, U k → w.heap.size ≤ k := by
  have HX := hid hX
  clear hX
  obtain ⟨wa, hwa⟩ : ∃ wa, wa = (w.alloc (.cells #[.slice ad la cap, .int .u64 a, .int .u64 b, .bool c, .bool d, .bool e] 58)).alloc (.cells #[.pointer none, .pointer none] 52) := ⟨_, rfl⟩
  have HA : Hid (Below w.heap.size w wa) := by rw [hwa]; exact ((Below.refl _ _).alloc (Nat.le_refl _) _).alloc (by simp) _
  have HR : Hid (wa.heap[w.heap.size + 1]? = some (.cells #[.pointer none, .pointer none] 52 (0, 0))) := by
    rw [hwa]
    have := heap_alloc_new (w.alloc (.cells #[.slice ad la cap, .int .u64 a, .int .u64 b, .bool c, .bool d, .bool e] 58)) (.cells #[.pointer none, .pointer none] 52)
    have e1 : (w.alloc (.cells #[.slice ad la cap, .int .u64 a, .int .u64 b, .bool c, .bool d, .bool e] 58)).heap.size = w.heap.size + 1 := by simp
    rw [e1] at this
    exact this
  have HWA := hid hwa
  clear hwa
  go_enter Try.func32, Try.ntmps32
  go_wp2_with (first
    | (go_at_call 47; rw [← HWA.out]; refine (c_Memory wa 8 (by decide) (by decide) ad la cap ab ao X (Cl.below HX.out HA.out)).mono ?_; rintro r w1 ⟨p, q, U, rfl, ht, hb, hu⟩; have HT := hid ht; have HB := hid hb; have HU := hid hu; have HR1 := hid ((hb.block _ (lt_of_block HR.out)).trans HR.out); have r0 : w1.cell? ⟨w.heap.size + 1, 0, none⟩ = some (.pointer none) := (by rw [cell_of_row w1 _ 0 _ _ _ HR1.out]; rfl); have r1 : w1.cell? ⟨w.heap.size + 1, 1, none⟩ = some (.pointer none) := (by rw [cell_of_row w1 _ 1 _ _ _ HR1.out]; rfl); have z0 : w1.frozen? ⟨w.heap.size + 1, 0, none⟩ = false := frozen_of_row w1 _ 0 _ _ HR1.out; have z1 : w1.frozen? ⟨w.heap.size + 1, 1, none⟩ = false := frozen_of_row w1 _ 1 _ _ HR1.out; clear ht hb hu))
  have y0 : (w1.setCell ⟨w.heap.size + 1, 0, none⟩ (.pointer (some ⟨p, 0, none⟩))).cell? ⟨w.heap.size + 1, 0, none⟩ = some (.pointer (some ⟨p, 0, none⟩)) := World.cell?_setCell_same _ _ _ r0
  have y1 : ((w1.setCell ⟨w.heap.size + 1, 0, none⟩ (.pointer (some ⟨p, 0, none⟩))).setCell ⟨w.heap.size + 1, 1, none⟩ (.pointer (some ⟨q, 0, none⟩))).cell? ⟨w.heap.size + 1, 1, none⟩ = some (.pointer (some ⟨q, 0, none⟩)) := by
    have r1' : (w1.setCell ⟨w.heap.size + 1, 0, none⟩ (.pointer (some ⟨p, 0, none⟩))).cell? ⟨w.heap.size + 1, 1, none⟩ = some (.pointer none) := by
      rw [World.cell?_setCell_other _ _ _ _ (by intro e; cases e)]; exact r1
    exact World.cell?_setCell_same _ _ _ r1'
  have hlt := lt_of_block HR.out
  have hA := HA.out.size
  refine bodyPost_ret (by simp [results, Try.results32, go_sem, y0, y1]; rfl) rfl ?_
  refine ⟨p, q, U, rfl, Tw.only HT.out (V := (· = w.heap.size + 1)) (((Only.refl (S := (· = w.heap.size + 1)) w1).setCell (.inl rfl) _).setCell (.inl rfl) _) (fun k hk e => by have := HU.out k hk; omega), ?_, fun k hk => Nat.le_trans hA (HU.out k hk)⟩
  exact ((HA.out.trans (HB.out.mono hA)).setCell (Nat.le_succ _) _).setCell (Nat.le_succ _) _
def aw3 : Nat → Int × Int
  | 0 => (512, 2049)
  | 1 => (1024, 3073)
  | _ => (1541, 7383)
theorem gst_awake : gst (rdm 8 (fcl 8 aw3 3)) 1 20771 2 = (28963, 6, 0) := of_decide_eq_true (by kernel_rfl)
theorem cl_awake {ab : Nat} (w : World) (ty : TypeId) (h : w.heap[ab]? = some (.cells #[.int .i64 512, .int .u64 2049, .int .i64 1024, .int .u64 3073, .int .i64 1541, .int .u64 7383] ty (0, 0))) : Cl w (some ⟨ab, 0, none⟩) 3 3 ab 0 aw3 := by
  refine ⟨Nat.le_refl _, by decide, fun _ => ⟨rfl, lt_of_block h⟩, fun i hi => ?_, fun i hi => ?_⟩
  · rcases (show i = 0 ∨ i = 1 ∨ i = 2 by omega) with rfl | rfl | rfl
    · exact ⟨by rw [cell_of_row w ab _ _ _ _ h]; rfl, by rw [cell_of_row w ab _ _ _ _ h]; rfl⟩
    · exact ⟨by rw [cell_of_row w ab _ _ _ _ h]; rfl, by rw [cell_of_row w ab _ _ _ _ h]; rfl⟩
    · exact ⟨by rw [cell_of_row w ab _ _ _ _ h]; rfl, by rw [cell_of_row w ab _ _ _ _ h]; rfl⟩
  · rcases (show i = 0 ∨ i = 1 ∨ i = 2 by omega) with rfl | rfl | rfl
    · exact ⟨⟨by decide, by decide⟩, by decide, by decide⟩
    · exact ⟨⟨by decide, by decide⟩, by decide, by decide⟩
    · exact ⟨⟨by decide, by decide⟩, by decide, by decide⟩
set_option maxRecDepth 100000 in
theorem c_awake4 (w : World) : Calls Try.prog 35 #[] w fun e w' => e = .returned (.bool true) ∧ Below w.heap.size w w' := by
  obtain ⟨wa, hwa⟩ : ∃ wa, wa = w.alloc (.cells #[.int .i64 512, .int .u64 2049, .int .i64 1024, .int .u64 3073, .int .i64 1541, .int .u64 7383] 102) := ⟨_, rfl⟩
  have HA : Hid (Below w.heap.size w wa) := by rw [hwa]; exact (Below.refl _ _).alloc (Nat.le_refl _) _
  have HC : Hid (Cl wa (some ⟨w.heap.size, 0, none⟩) 3 3 w.heap.size 0 aw3) := by
    rw [hwa]; exact cl_awake _ _ (heap_alloc_new w _)
  have HWA := hid hwa
  clear hwa
  go_enter Try.func35, Try.ntmps35
  go_wp2_with (first
    | (go_at_call 47; rw [← HWA.out]; refine (c_Memory wa 8 (by decide) (by decide) _ 3 3 w.heap.size 0 aw3 HC.out).mono ?_; rintro r w1 ⟨p, q, U, rfl, ht, hb, hu⟩; obtain ⟨S, T, h1, h2, h3, h4⟩ := ht; have HM := hid h1; have HB := hid hb; clear h1 h2 h3 h4 hb hu)
    | (go_at_call 33; refine (c_Guest _ S p 8 _ (Mem.below HM.out ((Below.refl _ _).alloc (Nat.le_refl _) _)) 1 20771 2 (by decide) (by decide) (by decide) (by decide) _ _ _ gst_awake).mono ?_; rintro r w2 ⟨rfl, hb2⟩; have HB2 := hid hb2; clear hb2))
  go_ret
  have a1 := HA.out.trans (HB.out.mono HA.out.size)
  exact ⟨rfl, (a1.alloc a1.size _).trans (HB2.out.mono (by have := a1.size; simp; omega))⟩
end Go.Proofs.Ytdohbblginbkgaa
