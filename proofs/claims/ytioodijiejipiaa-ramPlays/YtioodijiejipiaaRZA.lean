/- What RamBytes leans on: a list that is filled, a number's bytes. -/
import Derived.Test.YtioodijiejipiaaRY
namespace Go.Proofs.Ytioodijiejipiaa
open Go.RowKit
set_option linter.unusedVariables false

/-- what stands in the list behind k rounds -/
def fillB (ar : Nat → Int) (la k : Nat) : Nat → Int := put (fun _ => 0) 0 k (fun j => ar (j % la))
theorem fillB_step (ar : Nat → Int) (la k : Nat) (hk : k < 8192) : (row (fillB ar la k) 0 8192).toArray.setIfInBounds k (.int .u8 (ar (k % la))) = (row (fillB ar la (k + 1)) 0 8192).toArray := by
  rw [set_row _ _ _ _ _ hk, Nat.zero_add]
  have := put_more (fun _ => 0) 0 k 1 (fun j => ar (j % la))
  have e : row (put (fillB ar la k) k 1 fun _ => ar (k % la)) 0 8192 = row (fillB ar la (k + 1)) 0 8192 := by
    unfold fillB
    rw [← this]
    apply row_congr
    intro j hj
    simp only [Nat.zero_add]
    by_cases q : j = k
    · subst q; rw [put_in' _ _ _ _ _ (by omega) (by omega), put_in' _ _ _ _ _ (by omega) (by omega)]; simp
    · rw [put_out _ _ _ _ _ (by omega), put_out _ _ 1 _ _ (by omega)]
  rw [e]
theorem fillB_b (ar : Nat → Int) (har : ∀ j, 0 ≤ ar j ∧ ar j < 256) (la k j : Nat) : 0 ≤ fillB ar la k j ∧ fillB ar la k j < 256 := by
  unfold fillB put
  split
  · exact har _
  · exact ⟨Int.le_refl _, show (0 : Int) < 256 by decide⟩
theorem put_step (A B : Nat → Int) (a k : Nat) (x : Int) (hx : x = B k) : put (put A a k B) (a + k) 1 (fun _ => x) = put A a (k + 1) B := by
  rw [← put_more A a k 1 B]
  funext j
  by_cases q : j = a + k
  · subst q; rw [put_in' _ _ _ _ _ (by omega) (by omega), put_in' _ _ _ _ _ (by omega) (by omega), hx]; simp
  · rw [put_out _ _ _ _ _ (by omega), put_out _ _ 1 _ _ (by omega)]
theorem put_step0 (A B : Nat → Int) (a : Nat) (x : Int) (hx : x = B 0) : put (put A a 0 B) a 1 (fun _ => x) = put A a (0 + 1) B := put_step A B a 0 x hx
theorem nu_byt (v : Int) (v0 : 0 ≤ v) : ∀ k, nu (byt v) k = v % 256 ^ k
  | 0 => by simp [nu]
  | k + 1 => by
    show nu (byt v) k + byt v k * 256 ^ k = _
    rw [nu_byt v v0 k]
    obtain ⟨m, rfl⟩ := Int.eq_ofNat_of_zero_le v0
    have e : ∀ i : Nat, (256 : Int) ^ i = ((256 ^ i : Nat) : Int) := fun i => (Int.natCast_pow 256 i).symm
    unfold byt
    rw [e k, e (k + 1)]
    have := Nat.mod_mul (x := m) (a := 256 ^ k) (b := 256)
    rw [Nat.pow_succ]
    have h1 : ((m : Int) % ((256 ^ k : Nat) : Int)) = ((m % 256 ^ k : Nat) : Int) := (Int.natCast_emod m (256 ^ k)).symm
    have h2 : ((m : Int) / ((256 ^ k : Nat) : Int)) = ((m / 256 ^ k : Nat) : Int) := (Int.natCast_ediv m (256 ^ k)).symm
    have h3 : ((m : Int) % ((256 ^ k * 256 : Nat) : Int)) = ((m % (256 ^ k * 256) : Nat) : Int) := (Int.natCast_emod m _).symm
    have h4 : ((m / 256 ^ k : Nat) : Int) % 256 = ((m / 256 ^ k % 256 : Nat) : Int) := (Int.natCast_emod _ 256).symm
    rw [h1, h2, h3, h4, ← Int.natCast_mul, ← Int.natCast_add, this, Nat.mul_comm (256 ^ k)]
theorem same_at (A B : Nat → Int) (a n j : Nat) (hj : j < 8192) : (fun i => put (put (fun _ => 0) 0 8192 A) a n B (0 + i)) j = put A a n B j := by
  simp only [Nat.zero_add]
  unfold put
  split
  · rfl
  · rw [if_pos (by omega)]; rfl
end Go.Proofs.Ytioodijiejipiaa
