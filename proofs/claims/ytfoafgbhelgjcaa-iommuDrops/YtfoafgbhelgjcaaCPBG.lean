/- PageBig: great pages. -/
import Derived.Test.YtfoafgbhelgjcaaCPRD
import Derived.Test.YtfoafgbhelgjcaaMC4
namespace Go.Proofs.Ytfoafgbhelgjcaa.C
open Go.RowKit
set_option linter.unusedVariables false
set_option maxRecDepth 100000

def bgX1 (I N : Int) : Nat → Int × Int
  | 0 => (512, 2049)
  | _ => (1024 + I, N * 1024 + 223)
def bgX2 (I N : Int) : Nat → Int × Int := fun _ => (512 + I, N * 1024 + 223)
section
variable {I N : Int} (i0 : 0 ≤ I) (i1 : I < 512) (n0 : 0 ≤ N) (n1 : N < 1048576)
theorem wr_big (n0 : 0 ≤ N) (n1 : N < 1048576) : wr (N * 1024 + 223) = false ∧ lf (N * 1024 + 223) = true ∧ al (N * 1024 + 223) 2 = true ∧ pm (N * 1024 + 223) = 14 ∧ num (N * 1024 + 223) = N := by
  have hl : lo (N * 1024 + 223) = 223 := lo_of N 223 (by decide)
  refine ⟨?_, ?_, ?_, ?_, num_of N 223 (by decide)⟩
  · unfold wr hs; rw [hl]; simp; omega
  · unfold lf; rw [hl]; decide
  · unfold al hs; rw [hl]; decide
  · unfold pm hs; rw [hl]; decide
include i0 i1 n0 n1
theorem big2 (o : Int) (o0 : 0 ≤ o) (o1 : o < 1073741824) : gst (rdm 4 (fcl 4 (bgX2 I N) 1)) 1 (I * 1073741824 + o) 2 = if N % 262144 ≠ 0 then (0, 0, 2) else (N * 4096 + o, 14, 0) := by
  obtain ⟨h1, h2, h3, h4, h5⟩ := wr_big (N := N) n0 n1
  obtain ⟨i, rfl⟩ := Int.eq_ofNat_of_zero_le i0
  have hf : fcl 4 (bgX2 i N) 1 = put (fun _ => 0) (4096 + 8 * i) 8 (byt (N * 1024 + 223)) := by
    show put _ (8 * ((512 + (i : Int)) % (512 * (4 : Nat))).toNat) 8 _ = _
    have e : 8 * ((512 + (i : Int)) % (512 * ((4 : Nat) : Int))).toNat = 4096 + 8 * i := by omega
    rw [e]; rfl
  have ha : atF (i * 1073741824 + o) 2 1 = ((4096 + 8 * i : Nat) : Int) := by unfold atF; rw [pw2]; omega
  have hr : rdm 4 (fcl 4 (bgX2 i N) 1) (atF (i * 1073741824 + o) 2 1) = (N * 1024 + 223, 0) := by
    rw [rdm_in 4 _ _ (4096 + 8 * i) ha (by omega), hf, rd8_same _ _ _ (by omega) (by omega)]
  unfold gst
  rw [if_neg (by decide), if_neg (by omega)]
  by_cases g : N % 262144 = 0
  · rw [D_leaf (by decide) (by rw [hr]) (by rw [hr]; exact h1) (by rw [hr]; exact h2) (by rw [hr, pw2]; show num _ % _ = 0; rw [h5]; exact g), hr, if_neg (show ¬ ((0 : Int) ≠ 0) by decide), if_pos h3, h4, if_neg (by rw [g]; decide)]
    unfold plc
    simp only [pw2, h5]
    congr 1
    omega
  · rw [D_mis (by decide) (by rw [hr]) (by rw [hr]; exact h1) (by rw [hr]; exact h2) (by rw [hr, pw2]; show num _ % _ ≠ 0; rw [h5]; exact g), if_pos (by decide), if_pos g]
theorem big1 (o : Int) (o0 : 0 ≤ o) (o1 : o < 2097152) : gst (rdm 4 (fcl 4 (bgX1 I N) 2)) 1 (I * 2097152 + o) 2 = if N % 512 ≠ 0 then (0, 0, 2) else (N * 4096 + o, 14, 0) := by
  obtain ⟨h1, h2, h3, h4, h5⟩ := wr_big (N := N) n0 n1
  obtain ⟨i, rfl⟩ := Int.eq_ofNat_of_zero_le i0
  have hf : fcl 4 (bgX1 i N) 2 = put (put (fun _ => 0) 4096 8 (byt 2049)) (8192 + 8 * i) 8 (byt (N * 1024 + 223)) := by
    show put (put _ (8 * ((512 : Int) % (512 * (4 : Nat))).toNat) 8 _) (8 * ((1024 + (i : Int)) % (512 * (4 : Nat))).toNat) 8 _ = _
    have e : 8 * ((1024 + (i : Int)) % (512 * ((4 : Nat) : Int))).toNat = 8192 + 8 * i := by omega
    have e2 : 8 * ((512 : Int) % (512 * ((4 : Nat) : Int))).toNat = 4096 := by decide
    rw [e, e2]; rfl
  have ha : atF (i * 2097152 + o) 2 1 = ((4096 : Nat) : Int) := by unfold atF; rw [pw2]; omega
  have hr : rdm 4 (fcl 4 (bgX1 i N) 2) (atF (i * 2097152 + o) 2 1) = (2049, 0) := by
    rw [rdm_in 4 _ _ 4096 ha (by omega), hf, rd8_other _ _ _ _ (by omega), rd8_same _ _ _ (by decide) (by decide)]
  have ha1 : atF (i * 2097152 + o) 1 2 = ((8192 + 8 * i : Nat) : Int) := by unfold atF; rw [pw1]; omega
  have hr1 : rdm 4 (fcl 4 (bgX1 i N) 2) (atF (i * 2097152 + o) 1 2) = (N * 1024 + 223, 0) := by
    rw [rdm_in 4 _ _ (8192 + 8 * i) ha1 (by omega), hf, rd8_same _ _ _ (by omega) (by omega)]
  have hn : num (rdm 4 (fcl 4 (bgX1 i N) 2) (atF (i * 2097152 + o) (1 + 1) 1)).1 = 2 := by
    show num (rdm 4 (fcl 4 (bgX1 i N) 2) (atF (i * 2097152 + o) 2 1)).1 = 2
    rw [hr]; decide
  unfold gst
  rw [if_neg (by decide), if_neg (by omega), D_next (k := 1) (by decide) (by show (rdm 4 _ (atF _ 2 1)).2 = 0; rw [hr]) (by show wr (rdm 4 _ (atF _ 2 1)).1 = false; rw [hr]; decide) (by show lf (rdm 4 _ (atF _ 2 1)).1 = false; rw [hr]; decide), hn]
  by_cases g : N % 512 = 0
  · rw [D_leaf (by decide) (by rw [hr1]) (by rw [hr1]; exact h1) (by rw [hr1]; exact h2) (by rw [hr1, pw1]; show num _ % _ = 0; rw [h5]; exact g), hr1, if_neg (show ¬ ((0 : Int) ≠ 0) by decide), if_pos h3, h4, if_neg (by rw [g]; decide)]
    unfold plc
    simp only [pw1, h5]
    congr 1
    omega
  · rw [D_mis (by decide) (by rw [hr1]) (by rw [hr1]; exact h1) (by rw [hr1]; exact h2) (by rw [hr1, pw1]; show num _ % _ ≠ 0; rw [h5]; exact g), if_pos (by decide), if_pos g]
end
theorem or_leaf (N : Int) (n0 : 0 ≤ N) (n1 : N < 1048576) : bits .or .u64 (N * 1024) 223 = N * 1024 + 223 := by
  obtain ⟨n, rfl⟩ := Int.eq_ofNat_of_zero_le n0
  have h := Nat.two_pow_add_eq_or_of_lt (i := 10) (b := 223) (by decide) n
  have e : (n : Int) * 1024 = ((n * 1024 : Nat) : Int) := by omega
  rw [e, show (223 : Int) = ((223 : Nat) : Int) from rfl, bits_or_u64_nat _ _ (by omega) (by decide)]
  rw [show (2 : Nat) ^ 10 = 1024 from rfl, Nat.mul_comm] at h
  rw [← h]; omega
theorem cl_one (w : World) (ab : Nat) (ty : TypeId) (A V : Int) (h : w.heap[ab]? = some (.cells #[.int .i64 A, .int .u64 V] ty (0, 0))) (a0 : -9223372036854775808 ≤ A) (a1 : A ≤ 9223372036854775807) (v0 : 0 ≤ V) (v1 : V < 18446744073709551616) : Cl w (some ⟨ab, 0, none⟩) 1 1 ab 0 (fun _ => (A, V)) := by
  refine ⟨Nat.le_refl _, by decide, fun _ => ⟨rfl, lt_of_block h⟩, fun i hi => ?_, fun i hi => ⟨⟨a0, a1⟩, v0, v1⟩⟩
  obtain rfl : i = 0 := by omega
  exact ⟨by rw [cell_of_row w ab _ _ _ _ h]; rfl, by rw [cell_of_row w ab _ _ _ _ h]; rfl⟩
theorem cl_two (w : World) (ab : Nat) (ty : TypeId) (A V B U : Int) (h : w.heap[ab]? = some (.cells #[.int .i64 A, .int .u64 V, .int .i64 B, .int .u64 U] ty (0, 0))) (X : Nat → Int × Int) (x0 : X 0 = (A, V)) (x1 : X 1 = (B, U)) (a0 : -9223372036854775808 ≤ A) (a1 : A ≤ 9223372036854775807) (v0 : 0 ≤ V) (v1 : V < 18446744073709551616) (b0 : -9223372036854775808 ≤ B) (b1 : B ≤ 9223372036854775807) (u0 : 0 ≤ U) (u1 : U < 18446744073709551616) : Cl w (some ⟨ab, 0, none⟩) 2 2 ab 0 X := by
  refine ⟨Nat.le_refl _, by decide, fun _ => ⟨rfl, lt_of_block h⟩, fun i hi => ?_, fun i hi => ?_⟩
  · rcases (show i = 0 ∨ i = 1 by omega) with rfl | rfl
    · rw [x0]; exact ⟨by rw [cell_of_row w ab _ _ _ _ h]; rfl, by rw [cell_of_row w ab _ _ _ _ h]; rfl⟩
    · rw [x1]; exact ⟨by rw [cell_of_row w ab _ _ _ _ h]; rfl, by rw [cell_of_row w ab _ _ _ _ h]; rfl⟩
  · rcases (show i = 0 ∨ i = 1 by omega) with rfl | rfl
    · rw [x0]; exact ⟨⟨a0, a1⟩, v0, v1⟩
    · rw [x1]; exact ⟨⟨b0, b1⟩, u0, u1⟩
end Go.Proofs.Ytfoafgbhelgjcaa.C
