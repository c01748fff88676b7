/- A law's own bus; awake; PciSizes. -/
import Derived.Test.YtjkihlpckgaggaaGreatKF
namespace Go.Proofs.YtjkihlpckgaggaaGreat.P
open Go.RowKit
open C (Only hid Still ret_bool ret_int row)
set_option linter.unusedVariables false
set_option maxRecDepth 100000

/-- a law's own bus -/
def LB (W w : World) (p n : Nat) (V : Nat → Sv) : Prop := ∃ F, Bq w F p n (fB V) ∧ VOk V ∧ (∀ x, F x → W.heap.size ≤ x) ∧ Below W.heap.size W w
theorem _root_.Go.Proofs.YtjkihlpckgaggaaGreat.C.Only.bel {W a b : World} {S : Nat → Prop} (h : Only S a b) (hs : ∀ x, S x → W.heap.size ≤ x) (hb : Below W.heap.size W a) : Below W.heap.size W b := hb.trans (h.below _ hb.size hs)
section
variable {W w w' : World} {p n : Nat} {V : Nat → Sv}
theorem LB.bel (h : LB W w p n V) : Below W.heap.size W w := by obtain ⟨F, h1, h2, h3, h4⟩ := h; exact h4
theorem LB.below (h : LB W w p n V) (hb : Below w.heap.size w w') : LB W w' p n V := by
  obtain ⟨F, h1, h2, h3, h4⟩ := h
  exact ⟨F, h1.below hb, h2, h3, h4.trans (hb.mono h4.size)⟩
theorem l_Read (h : LB W w p n V) (s o z : Int) (s0 : -9223372036854775808 ≤ s) (s1 : s ≤ 9223372036854775807) (o0 : 0 ≤ o) (o1 : o < 18446744073709551616) (z0 : -9223372036854775808 ≤ z) (z1 : z ≤ 9223372036854775807) : Calls Tryz.prog 233 #[.pointer (some ⟨p, 0, none⟩), .int .i64 s, .int .u64 o, .int .i64 z] w fun e w' => e = .returned (.tuple #[.int .u64 (rdV n V s o z), .bool (fitB o z)]) ∧ w' = w := by
  obtain ⟨F, h1, h2, h3, h4⟩ := h
  have := c_Read w F p n _ h1 s o z s0 s1 o0 o1 z0 z1
  rw [rdB_fB _ _ _ _ _ o0] at this
  exact this
theorem l_Write (h : LB W w p n V) (s o z v : Int) (s0 : -9223372036854775808 ≤ s) (s1 : s ≤ 9223372036854775807) (o0 : 0 ≤ o) (o1 : o < 18446744073709551616) (z0 : -9223372036854775808 ≤ z) (z1 : z ≤ 9223372036854775807) (v0 : 0 ≤ v) (v1 : v < 18446744073709551616) : Calls Tryz.prog 235 #[.pointer (some ⟨p, 0, none⟩), .int .i64 s, .int .u64 o, .int .i64 z, .int .u64 v] w fun e w' => e = .returned (.bool (fitB o z)) ∧ LB W w' p n (wrV n V s o z v) := by
  obtain ⟨F, h1, h2, h3, h4⟩ := h
  refine (c_Write w F p n _ h1 s o z v s0 s1 o0 o1 z0 z1 v0 v1).mono ?_
  rintro e w' ⟨rfl, k1, k2⟩
  rw [wrF_fB h2 _ _ _ _ _ o0] at k1
  exact ⟨rfl, F, k1, h2.wr _ _ _ _ _, h3, k2.bel h3 h4⟩
end
theorem l_New (W w : World) (hW : Below W.heap.size W w) (ad : Option Addr) (n cap b o : Nat) (K : Nat → Int) (hL : Ls w ad n cap b o K) (n8 : n ≤ 8) (hK : ∀ j, 0 ≤ K j ∧ K j ≤ 255) : Calls Tryz.prog 32 #[.slice ad n cap] w fun e w' => e = .returned (.tuple #[.pointer (some ⟨w.heap.size, 0, none⟩), .int .i64 0]) ∧ LB W w' w.heap.size n (fun i => sv0 (K i)) ∧ Below w.heap.size w w' := by
  refine (c_New w ad n cap b o K hL n8 fun j _ => hK j).mono ?_
  rintro e w' ⟨rfl, u, k1, k2, k3⟩
  rw [spn_fB] at k1
  have hv : VOk fun i => sv0 (K i) := fun i => sok0 _ (hK i).1 (hK i).2
  exact ⟨rfl, ⟨fun x => x = w.heap.size ∨ Ug u x, ⟨⟨u, k1, fun x => Iff.rfl⟩, fB_b hv, n8⟩, hv, fun x hx => hx.elim (fun e => by rw [e]; exact hW.size) fun e => Nat.le_trans hW.size (k3 x e), hW.trans (k2.mono hW.size)⟩, k2⟩
/-- a list of one number, just made -/
theorem ls_one (w : World) (k : Int) (h0 : 0 ≤ k) (h1 : k ≤ 255) : Ls (w.alloc (.cells #[.int .i64 k] 3)) (some ⟨w.heap.size, 0, none⟩) 1 1 w.heap.size 0 (fun _ => k) :=
  ⟨Nat.le_refl _, by decide, fun _ => ⟨rfl, by simp⟩, fun j hj => by
    obtain rfl : j = 0 := by omega
    exact cell_of_row _ _ 0 _ _ _ (heap_alloc_new w _), fun j hj => ⟨by omega, by omega⟩⟩
theorem l_New1 (W w : World) (hW : Below W.heap.size W w) (k : Int) (h0 : 0 ≤ k) (h1 : k ≤ 255) : Calls Tryz.prog 32 #[.slice (some ⟨w.heap.size, 0, none⟩) 1 1] (w.alloc (.cells #[.int .i64 k] 3)) fun e w' => e = .returned (.tuple #[.pointer (some ⟨w.heap.size + 1, 0, none⟩), .int .i64 0]) ∧ LB W w' (w.heap.size + 1) 1 (fun _ => sv0 k) := by
  have := l_New W _ (hW.alloc hW.size (.cells #[.int .i64 k] 3)) _ 1 1 _ _ _ (ls_one w k h0 h1) (by decide) (fun _ => ⟨h0, h1⟩)
  simp only [World.size_alloc] at this
  exact this.mono fun e w' hh => ⟨hh.1, hh.2.1⟩
theorem rd_aw : rdV 1 (fun _ => sv0 2) 0 0 4 = 272767732 := by decide +kernel
/-- the slot of PciSizes, behind each write -/
def zv (k : Int) : Nat → Sv := wrV 1 (fun _ => sv0 k) 0 16 4 4294967295
def zw (k v : Int) : Nat → Sv := wrV 1 (zv k) 0 16 4 v
theorem zv_0 (k : Int) : zv k 0 = ⟨k, 0, 240, 255, 255, 0⟩ := rfl
theorem zw_0 (k v : Int) : zw k v 0 = ⟨k, 0, hi4 (C.byt v 1), C.byt v 2, C.byt v 3, 0⟩ := rfl
theorem rd_z1 (k : Int) : rdV 1 (zv k) 0 16 4 = 4294963200 := by
  show gv (zv k 0) 16 4 = _
  rw [gv_base, zv_0]; rfl
theorem rd_z2 (k v : Int) : rdV 1 (zw k v) 0 16 4 = v % 4294967296 / 4096 * 4096 := by
  show gv (zw k v 0) 16 4 = _
  rw [gv_base, zw_0]
  unfold Sv.base hi4 C.byt
  simp only [show (256 : Int) ^ 1 = 256 by decide, show (256 : Int) ^ 2 = 65536 by decide, show (256 : Int) ^ 3 = 16777216 by decide]
  omega
theorem gv1 (v : Sv) (o : Nat) : gv v o 1 = tab v o := by unfold gv; simp [C.nu]
theorem gv2 (v : Sv) (o : Nat) : gv v o 2 = tab v o + tab v (o + 1) * 256 := by unfold gv; simp [C.nu]
theorem rd_z3 (k v : Int) : rdV 1 (zw k v) 0 52 1 = 64 := by
  show gv (zw k v 0) 52 1 = _
  rw [gv1]; simp [tab, sp0, C.put, C.byt]
theorem rd_z4 (k v : Int) : rdV 1 (zw k v) 0 65 1 = 80 := by
  show gv (zw k v 0) 65 1 = _
  rw [gv1]; simp [tab, sp0, C.put, C.byt]
theorem rd_z5 (k v : Int) : rdV 1 (zw k v) 0 81 1 = 0 := by
  show gv (zw k v 0) 81 1 = _
  rw [gv1]; simp [tab, sp0, C.put, C.byt]
theorem rd_z6 (k v : Int) : rdV 1 (zw k v) 0 6 2 = 16 := by
  show gv (zw k v 0) 6 2 = _
  rw [gv2]; simp [tab, sp0, C.put, C.byt]
end Go.Proofs.YtjkihlpckgaggaaGreat.P
