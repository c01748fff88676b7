/- EngineFlat: an engine without an IOMMU does what the document's does. -/
import Derived.Test.YtmdconecigenfaaGreatYP
import Derived.Test.YtmdconecigenfaaGreatCPFB
namespace Go.Proofs.YtmdconecigenfaaGreat
open Go.RowKit
open C (Only hid Mem Still ret_int ret_bool put byt nu hasB RMem TB Cl fcl c_Place c_Same TwB)
set_option linter.unusedVariables false
set_option maxRecDepth 100000

theorem inv0 : Inv (fun _ => 0) := fun h => absurd (show (0 : Int) = 1 from h) (by decide)
/-- both engines are made behind the memories -/
theorem lay_both {W w1 w2 w3 : World} {p q n : Nat} {bs : Int} {U : Nat → Prop} {f : Nat → Int} (ht : TwB w1 U p q bs n f) (hb : Below W.heap.size W w1) (hu : ∀ k, U k → W.heap.size ≤ k) (e : Nat) (o : Obj) (he : w1.heap.size < e) (f1 : Eg w2 e (e0 p)) (f2 : Below w1.heap.size w1 w2) (f5 : w2.heap[w1.heap.size]? = some o) (y : Nat) (f3 : Ye w3 y ⟨0, q, none⟩ (fun _ => 0) 0) (hy : w2.heap.size ≤ y) (f4 : Below w2.heap.size w2 w3) :
    ∃ S T, PZ ⟨W, w1.heap.size, o⟩ w3 e y (e0 p) (e0 p).r 0 S T p q bs n f f := by
  obtain ⟨S, T, m1, m2, m3, m4⟩ := ht
  have z0 := hb.size
  have z1 := f2.size
  have b3 : Below w1.heap.size w1 w3 := f2.trans (f4.mono z1)
  have l2 := f1.lt
  refine ⟨S, T, f1.below f4, f3, m1.below b3, C.RMem.below m2 b3, rfl, rfl, rfl, e0_b p, e0_b p, fun h => absurd (show (0 : Int) = 1 from h) (by decide), inv0, m4, by omega, fun z => ?_, fun z => ?_, hb.trans (b3.mono z0), fun k z => ?_, (f4.block _ (lt_of_block f5)).trans f5, fun z => ?_⟩
  · have := m2.lt z; omega
  · have := m1.lt z; omega
  · show W.heap.size ≤ k
    rcases z with z | z | z | z
    · omega
    · omega
    · exact hu k ((m3 k).2 (.inl z))
    · exact hu k ((m3 k).2 (.inr z))
  · have z' : w1.heap.size = e ∨ w1.heap.size = y ∨ S w1.heap.size ∨ T w1.heap.size := z
    rcases z' with z | z | z | z
    · omega
    · omega
    · have := m1.lt z; omega
    · have := m2.lt z; omega
set_option maxHeartbeats 2000000 in
theorem w_EngineFlat (W : World) (b : Int) (b0 : 0 ≤ b) (b1 : b < 18446744073709551616) (ad : Option Addr) (la cap ab ao : Nat) (X : Nat → Int × Int) (hX : Cl W ad la cap ab ao X) (bd : Option Addr) (lb cbp bb bo : Nat) (Y : Nat → EOpV) (hY : Ec W bd lb cbp bb bo Y) :
    Calls Tryz.prog 4 #[.int .u64 b, .slice ad la cap, .slice bd lb cbp] W fun e w' => e = .returned (.bool true) ∧ Below W.heap.size W w' := by
  obtain ⟨bs, hbs⟩ : ∃ bs : Int, b % 1099511627776 / 4096 * 4096 = bs := ⟨_, rfl⟩
  have g0 : 0 ≤ bs := by omega
  have g1 : bs ≤ 1099511627776 := by omega
  have g2 : bs % 4096 = 0 := by omega
  have HX := hid hX
  have HY := hid hY
  clear hX hY
  go_enter Tryz.func4, Tryz.ntmps4
  go_wp2_with (first
    | (go_at_call 14; refine (C.c_MemoryB _ bs g0 g1 g2 3 (by decide) (by decide) ad la cap ab ao X HX.out).mono ?_; rintro r w1 ⟨p, q, U, rfl, ht, hb, hu⟩; have HT := hid ht; have HB := hid hb; have HU := hid hu; clear ht hb hu))
  go_at_call 15
  obtain ⟨wt, hwt⟩ : ∃ wt, w1.alloc (.cells #[.pointer (some ⟨p, 0, none⟩), .pointer (some ⟨q, 0, none⟩)] 29) = wt := ⟨_, rfl⟩
  have ft : Below w1.heap.size w1 wt := hwt ▸ (Below.refl _ _).alloc (Nat.le_refl _) _
  have kt : wt.heap[w1.heap.size]? = some (.cells #[.pointer (some ⟨p, 0, none⟩), .pointer (some ⟨q, 0, none⟩)] 29 (0, 0)) := by rw [← hwt]; exact heap_alloc_new w1 _
  rw [hwt]
  obtain ⟨e, he⟩ : ∃ e, e = wt.heap.size := ⟨_, rfl⟩
  have hle : w1.heap.size < e := by rw [he]; exact lt_of_block kt
  refine (x_Flat wt p).mono ?_
  rintro r w2 ⟨rfl, f1, f2⟩
  rw [← he] at f1 ⊢
  have F1 := hid f1
  have F2 := hid (ft.trans (f2.mono ft.size))
  have F5 := hid ((f2.block _ (lt_of_block kt)).trans kt)
  clear f1 f2 ft kt hwt he
  have c1 : w2.cell? ⟨w1.heap.size, 1, none⟩ = some (.pointer (some ⟨q, 0, none⟩)) := cell_of_row w2 w1.heap.size 1 _ _ _ F5.out
  go_wp2_with fail
  go_at_call 10
  obtain ⟨y, hy⟩ : ∃ y, y = w2.heap.size := ⟨_, rfl⟩
  obtain ⟨w3, hw3⟩ : ∃ w3, w2.alloc (.cells #[.int .i64 0, .pointer (some ⟨q, 0, none⟩), .pointer none, .int .u64 0, .int .u64 0, .int .u64 0, .int .u64 0, .int .u64 0, .int .u64 0, .int .u64 0, .int .u64 0] 69) = w3 := ⟨_, rfl⟩
  have f3 : Ye w3 y ⟨0, q, none⟩ (fun _ => 0) 0 := by rw [hy, ← hw3]; exact heap_alloc_new w2 _
  have f4 : Below w2.heap.size w2 w3 := hw3 ▸ (Below.refl _ _).alloc (Nat.le_refl _) _
  rw [hw3, ← hy]
  obtain ⟨S, T, hz⟩ := lay_both HT.out HB.out HU.out e _ hle F1.out F2.out F5.out y f3 (Nat.le_of_eq hy.symm) f4
  clear f3 f4 hw3 hy F1 F2 F5 HT HB HU c1
  refine (l_playF _ w3 e y (e0 p) 0 S T p q bs 3 _ hz bd lb cbp bb bo Y HY.out).mono ?_
  rintro r w4 ⟨rfl, v', c', S', T', f', hz'⟩
  have HZ := hid hz'
  clear hz hz'
  have d0 : w4.cell? ⟨w1.heap.size, 0, none⟩ = some (.pointer (some ⟨p, 0, none⟩)) := cell_of_row w4 w1.heap.size 0 _ _ _ HZ.out.kb
  have d1 : w4.cell? ⟨w1.heap.size, 1, none⟩ = some (.pointer (some ⟨q, 0, none⟩)) := cell_of_row w4 w1.heap.size 1 _ _ _ HZ.out.kb
  go_wp2_with (first
    | (go_at_call 11; refine (c_Same _ _ _ p q bs 3 _ HZ.out.mm HZ.out.rm).mono ?_; rintro r w5 ⟨rfl, h5⟩; have H5 := hid h5; clear h5)
    | (go_at_call 9; refine (l_awake8 _).mono ?_; rintro r w6 ⟨rfl, h6⟩; have H6 := hid h6; clear h6))
  go_ret
  exact ⟨rfl, HZ.out.new.trans ((H5.out.trans (H6.out.mono H5.out.size)).mono HZ.out.new.size)⟩
end Go.Proofs.YtmdconecigenfaaGreat
