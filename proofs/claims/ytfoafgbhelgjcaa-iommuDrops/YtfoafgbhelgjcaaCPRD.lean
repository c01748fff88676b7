/- Entries as they are written and read. -/
import Derived.Test.YtfoafgbhelgjcaaMC4
import Derived.Test.YtfoafgbhelgjcaaMC3
namespace Go.Proofs.Ytfoafgbhelgjcaa.C
open Go.RowKit
set_option linter.unusedVariables false
set_option maxRecDepth 100000

/-- the number that stands at a place -/
def rd8 (f : Nat → Int) (o : Nat) : Int := nu (fun j => f (o + j)) 8
theorem rd8_same (g : Nat → Int) (o : Nat) (v : Int) (v0 : 0 ≤ v) (v1 : v < 18446744073709551616) : rd8 (put g o 8 (byt v)) o = v := by
  unfold rd8
  rw [nu_congr (c := byt v) 8 (fun j hj => put_in g o 8 (byt v) j hj), nu_byt v v0 8]
  have : (256 : Int) ^ 8 = 18446744073709551616 := by decide
  omega
theorem rd8_other (g h : Nat → Int) (o o' : Nat) (hd : o + 8 ≤ o' ∨ o' + 8 ≤ o) : rd8 (put g o' 8 h) o = rd8 g o := by
  unfold rd8
  exact nu_congr 8 (fun j hj => put_out g o' 8 h (o + j) (by omega))
theorem rd8_zero (o : Nat) : rd8 (fun _ => 0) o = 0 := by unfold rd8; rfl
theorem rdm_in (n : Nat) (f : Nat → Int) (a : Int) (o : Nat) (ha : a = o) (h : o + 8 ≤ 4096 * n) : rdm n f a = (rd8 f o, 0) := by
  subst ha
  unfold rdm
  rw [if_pos (by omega)]; rfl
theorem rdm_out (n : Nat) (f : Nat → Int) (a : Int) (h : 4096 * (n : Int) < a + 8) : rdm n f a = (0, 3) := by
  unfold rdm
  rw [if_neg (by omega)]
theorem lo_of (q : Int) (b : Nat) (hb : b < 256) : lo (q * 1024 + b) = b := by unfold lo; omega
theorem num_of (q : Int) (b : Nat) (hb : b < 256) : num (q * 1024 + b) = q := by unfold num; omega
end Go.Proofs.Ytfoafgbhelgjcaa.C
