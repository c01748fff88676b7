/- Where messages go, the ring, what is written of it. -/
import Derived.Test.YtmdconecigenfaaGreatMH1
import Derived.Test.YtmdconecigenfaaGreatHQ
namespace Go.Proofs.YtmdconecigenfaaGreat
open Go.RowKit
open C (Only hid Mem Still ret_int ret_bool put byt nu)
set_option linter.unusedVariables false
set_option maxRecDepth 100000

theorem m_Remap (w : World) (u : Nat) (v : UV) (hu : Iu w u v) (d i g q : Int) (hd : isDev d = true) (i0 : 0 ≤ i) (i1 : i < 32) : Calls Tryz.prog 70 #[.pointer (some ⟨u, 0, none⟩), .int .i64 d, .int .u64 i, .agg #[.int .i64 g, .int .i64 q]] w fun e w' => e = .returned (.int .i64 0) ∧ Iu w' u (v.setMsi (d.toNat * 32 + i.toNat) g q) ∧ Only (· = u) w w' := by
  obtain ⟨q0, q1⟩ := dev_cases hd
  have c1 := hu.cg d.toNat i.toNat (by omega) (by omega)
  have c2 := hu.ci d.toNat i.toNat (by omega) (by omega)
  have f1 := hu.z (10 + d.toNat * 64 + i.toNat * 2)
  have f2 := hu.z (10 + d.toNat * 64 + i.toNat * 2 + 1)
  have ii : (32 ≤ i) = False := by simp; omega
  have hlt := hu.lt
  have HU := hid hu
  clear hu
  go_enter Tryz.func70, Tryz.ntmps70
  go_wp2_with (first
    | (go_at_call 43; refine (m_isDevice _ d true hd).mono ?_; rintro e w2 ⟨rfl, hw2⟩; obtain rfl := hw2.symm))
  obtain ⟨wa, hwa⟩ : ∃ wa, w.alloc (.cells #[.int .i64 g, .int .i64 q] 50) = wa := ⟨_, rfl⟩
  have a0 : wa.cell? ⟨w.heap.size, 0, none⟩ = some (.int .i64 g) := by rw [← hwa]; simp
  have a1 : wa.cell? ⟨w.heap.size, 1, none⟩ = some (.int .i64 q) := by rw [← hwa]; simp
  have HU1 : Hid (Iu wa u v) := HU.out.below (hwa ▸ (Below.refl _ _).alloc (Nat.le_refl _) _)
  rw [hwa]
  refine wp_region_last_lit (by simp) (by kernel_rfl) (by kernel_rfl) (by kernel_rfl) ?_
  simp only [List.dropLast, List.getLast]
  repeat (go_big_quiet_step (fail))
  refine wpQuiet_nil ?_
  intro _ hwq
  obtain ⟨nq, hwq⟩ := hwq
  subst hwq
  obtain ⟨wb, hwb⟩ : ∃ wb, wa.drewN nq = wb := ⟨_, rfl⟩
  have HU2 : Hid (Iu wb u v) := by rw [← hwb]; exact HU1.out
  have HB2 : Hid (Below w.heap.size w wb) := by rw [← hwb, ← hwa]; exact below_dn ((Below.refl _ _).alloc (Nat.le_refl _) _) _
  rw [hwb]
  clear c1 c2 f1 f2 a0 a1 hwb hwa
  have c1 := HU2.out.cg d.toNat i.toNat (by omega) (by omega)
  have c2 := HU2.out.ci d.toNat i.toNat (by omega) (by omega)
  have f1 := HU2.out.z (10 + d.toNat * 64 + i.toNat * 2)
  have f2 := HU2.out.z (10 + d.toNat * 64 + i.toNat * 2 + 1)
  go_wp2
  go_ret
  exact ⟨rfl, (HU2.out.sg d.toNat i.toNat (by omega) (by omega) g).si d.toNat i.toNat (by omega) (by omega) q, ((Only.ofBelow HB2.out).trans (only1 wb u _ _)).trans (only1 _ u _ _)⟩
/-- where a record lies -/
def UV.at (v : UV) (k : Nat) : Nat := v.addr + (v.first + k) % 256 * 16
theorem m_at (w : World) (b : Bool) (a f c k : Nat) (ha : a < 9223372036854775808) (hf : f < 256) (hk : k < 256) (i : Int) (hi : i = k) : Calls Tryz.prog 49 #[.agg #[.bool b, .int .u64 a, .int .i64 f, .int .i64 c], .int .i64 i] w fun e w' => e = .returned (.int .u64 ((a + (f + k) % 256 * 16 : Nat) : Int)) ∧ Below w.heap.size w w' := by
  subst hi
  go_enter Tryz.func49, Tryz.ntmps49
  go_wp2
  go_ret
  exact ⟨ret_int (by omega), (Below.refl _ _).alloc (Nat.le_refl _) _⟩
theorem m_record_lost (w : World) (u : Nat) (v : UV) (hu : Iu w u v) (d k a : Int) (h : v.there = false ∨ 255 ≤ v.count) : Calls Tryz.prog 48 #[.pointer (some ⟨u, 0, none⟩), .agg #[.int .i64 d, .int .i64 k, .int .u64 a]] w fun e w' => e = .returned (.tuple #[]) ∧ Iu w' u (v.setLost true) ∧ Only (· = u) w w' := by
  have c1 := hu.c522
  have c2 := hu.c525
  have c3 := hu.c526
  have f1 := hu.z 526
  have hlt := hu.lt
  have HU := hid hu
  clear hu
  by_cases ht : v.there = false
  · rw [ht] at c1
    clear h
    go_enter Tryz.func48, Tryz.ntmps48
    go_wp2
    exact bodyPost_ret (results_none Tryz.results48 _ _ _) rfl ⟨rfl, (HU.out.sl true).below ((Below.refl _ _).alloc (Nat.le_refl _) _), (only1 w u 526 (.bool true)).alloc _⟩
  · have ht' : v.there = true := by simpa using ht
    have hc : (255 ≤ (v.count : Int)) = True := by have := h.resolve_left ht; simp; omega
    rw [ht'] at c1
    clear h
    go_enter Tryz.func48, Tryz.ntmps48
    go_wp2
    exact bodyPost_ret (results_none Tryz.results48 _ _ _) rfl ⟨rfl, (HU.out.sl true).below ((Below.refl _ _).alloc (Nat.le_refl _) _), (only1 w u 526 (.bool true)).alloc _⟩
end Go.Proofs.YtmdconecigenfaaGreat
