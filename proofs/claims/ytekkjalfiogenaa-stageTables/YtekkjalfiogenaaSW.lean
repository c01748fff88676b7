/- A guest's numbers are its pages' bytes. -/
import Derived.Test.YtekkjalfiogenaaSV
namespace Go.Proofs.Ytekkjalfiogenaa
open Go.RowKit
open C (Only hid Mem RMem Still ret_bool ret_int put byt rd8 lo nu c_Place gst rdmB)
set_option linter.unusedVariables false
set_option maxRecDepth 100000

theorem up1_o (x : TX) (p y : Nat) (hy : y < x.v.n) (ho : x.v.o y ≠ 0) : (x.up1 p).v.o y = x.v.o y := by
  unfold TX.up1
  split
  · show upd x.v.o _ _ y = _
    refine upd_other _ _ _ _ fun e => ho ?_
    rw [e]
    exact (ff_spec x.v.o x.v.n).2.1 (e ▸ hy)
  · rfl
theorem up0_o (x : TX) (p y : Nat) (hy : y < x.v.n) (ho : x.v.o y ≠ 0) : (x.up0 p).v.o y = x.v.o y := by
  unfold TX.up0
  split
  · show upd x.v.o _ _ y = _
    refine upd_other _ _ _ _ fun e => ho ?_
    rw [e]
    exact (ff_spec x.v.o x.v.n).2.1 (e ▸ hy)
  · rfl
theorem map_o (x : TX) (p fr pm y : Nat) (hy : y < x.v.n) (ho : x.v.o y ≠ 0) : (x.map p fr pm).v.o y = x.v.o y := by
  have h1 := up1_o x p y hy ho
  have h0 := up0_o (x.up1 p) p y (by rw [(up1_pg x p).2.2.2.1]; exact hy) (by rw [h1]; exact ho)
  exact h0.trans h1
theorem ff_sp3 (m : Nat) : ff ((spV m).own 3 1).o 16 = 4 := by kernel_rfl
theorem cnt_sp4 (m : Nat) : cnt (((spV m).own 3 1).own 4 1).o 0 16 = 11 := by kernel_rfl
/-- what stands where a byte was written -/
theorem wG_at (s : SV) (f : Nat → Int) (a : Nat) (x : Int) : ∀ n, (∀ i j, i < n → j < n → po s (a + i) = po s (a + j) → i = j) → ∀ i, i < n → wG s f a x n (po s (a + i)) = x / 2 ^ (8 * i) % 256
  | 0, _, i, hi => by omega
  | n + 1, hj, i, hi => by
    show put (wG s f a x n) (po s (a + n)) 1 (byt (x / 2 ^ (8 * n))) (po s (a + i)) = _
    by_cases e : i = n
    · subst e
      rw [C.put_in' _ _ _ _ _ (Nat.le_refl _) (by omega), Nat.sub_self]
      show x / 2 ^ (8 * i) / 256 ^ 0 % 256 = _
      rw [Int.pow_zero, Int.ediv_one]
    · rw [C.put_out _ _ _ _ _ (by
        have : po s (a + i) ≠ po s (a + n) := fun z => e (hj i n hi (by omega) z)
        omega)]
      exact wG_at s f a x n (fun i j h1 h2 => hj i j (by omega) (by omega)) i (by omega)
def nT (j : Nat) : Nat := if j = 0 then 1 else if j = 1 then 2 else if j = 2 then 4 else 8
theorem nT_ok (j : Nat) : nT j = 1 ∨ nT j = 2 ∨ nT j = 4 ∨ nT j = 8 := by unfold nT; split <;> (try split) <;> (try split) <;> omega
theorem nT_at (j : Nat) (hj : j < 4) : (#[Value.int .i64 1, .int .i64 2, .int .i64 4, .int .i64 8] : Array Value)[j]? = some (.int .i64 (nT j : Nat)) := by
  rcases j with _ | _ | _ | _ | j
  · rfl
  · rfl
  · rfl
  · rfl
  · omega
theorem nu_wG (s : SV) (f : Nat → Int) (a : Nat) (x : Int) (x0 : 0 ≤ x) (n : Nat) (hj : ∀ i j, i < n → j < n → po s (a + i) = po s (a + j) → i = j) : nu (fun j => wG s f a x n (po s (a + j))) n = x % 256 ^ n := by
  rw [C.nu_congr (c := byt x) n fun j hjn => ?_, C.nu_byt x x0 n]
  rw [wG_at s f a x n hj j hjn, pw256]
  rfl
/-- two pages side by side -/
structure Pr (s : SV) (fa fb : Nat) : Prop where
  p0 : s.pp 524288 = 6
  p1 : s.pp 524289 = 6
  f0 : s.pf 524288 = fa
  f1 : s.pf 524289 = fb
  n0 : s.pp 524287 = 0
  n1 : s.pp 524290 = 0
  ne : fa ≠ fb
theorem Pr.pg {s : SV} {fa fb : Nat} (h : Pr s fa fb) {X i : Nat} (hx : X + i < 8192) : s.pp ((2147483648 + X + i) / 4096) = 6 := by
  rcases Nat.lt_or_ge (X + i) 4096 with z | z
  · rw [show (2147483648 + X + i) / 4096 = 524288 by omega]; exact h.p0
  · rw [show (2147483648 + X + i) / 4096 = 524289 by omega]; exact h.p1
theorem Pr.poE {s : SV} {fa fb : Nat} (h : Pr s fa fb) {X i : Nat} (hx : X + i < 8192) : po s (2147483648 + X + i) = if X + i < 4096 then 4096 * fa + (X + i) else 4096 * fb + (X + i) - 4096 := by
  unfold po
  rcases Nat.lt_or_ge (X + i) 4096 with z | z
  · rw [if_pos z, show (2147483648 + X + i) / 4096 = 524288 by omega, h.f0]; omega
  · rw [if_neg (by omega), show (2147483648 + X + i) / 4096 = 524289 by omega, h.f1]; omega
theorem Pr.inj {s : SV} {fa fb : Nat} (h : Pr s fa fb) {X n : Nat} (hx : X + n ≤ 8192) : ∀ i j, i < n → j < n → po s (2147483648 + X + i) = po s (2147483648 + X + j) → i = j := fun i j hi hj e => by
  rw [h.poE (by omega), h.poE (by omega)] at e
  have := h.ne
  split at e <;> split at e <;> omega
end Go.Proofs.Ytekkjalfiogenaa
