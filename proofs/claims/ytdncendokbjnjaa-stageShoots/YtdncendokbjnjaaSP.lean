/- VMIDs: P10.1. -/
import Derived.Test.YtdncendokbjnjaaMH6
namespace Go.Proofs.Ytdncendokbjnjaa
open Go.RowKit
open C (Only hid Mem RMem Still ret_bool ret_int)
set_option linter.unusedVariables false
set_option maxRecDepth 100000

/-- who is taken, as it stands -/
def bcs (T : Nat → Bool) : Array Value := ((List.range 16).map fun j => Value.bool (T j)).toArray
theorem bcs_0 : bcs (fun _ => false) = #[.bool false, .bool false, .bool false, .bool false, .bool false, .bool false, .bool false, .bool false, .bool false, .bool false, .bool false, .bool false, .bool false, .bool false, .bool false, .bool false] := rfl
theorem bcs_size (T : Nat → Bool) : (bcs T).size = 16 := by simp [bcs]
theorem bcs_at (T : Nat → Bool) (k : Nat) (hk : k < 16) : (bcs T)[k]? = some (.bool (T k)) := by unfold bcs; simp [hk]
theorem bcs_set (T : Nat → Bool) (k : Nat) (x : Bool) (hk : k < 16) : (bcs T).setIfInBounds k (.bool x) = bcs (upd T k x) := by
  apply Array.ext_getElem?
  intro j
  rw [Array.getElem?_setIfInBounds]
  rcases Nat.lt_or_ge j 16 with q | q
  · rw [bcs_at _ _ q, bcs_at _ _ q, bcs_size]
    by_cases e : k = j
    · subst e; simp [hk, upd_same]
    · rw [if_neg e, upd_other _ _ _ _ (Ne.symm e)]
  · rw [Array.getElem?_eq_none (by rw [bcs_size]; exact q), Array.getElem?_eq_none (by rw [bcs_size]; exact q), bcs_size]
    split
    · exfalso; omega
    · rfl
/-- the lowest that is not taken, from 16 - d on; 0: none -/
def gD (T : Nat → Bool) : Nat → Nat
  | 0 => 0
  | d + 1 => bif T (15 - d) then gD T d else 15 - d
theorem gD_spec (T : Nat → Bool) : ∀ d, d ≤ 15 → (gD T d = 0 ∧ ∀ j, 16 - d ≤ j → j ≤ 15 → T j = true) ∨ (16 - d ≤ gD T d ∧ gD T d ≤ 15 ∧ T (gD T d) = false ∧ ∀ j, 16 - d ≤ j → j < gD T d → T j = true)
  | 0, _ => .inl ⟨rfl, fun j h1 h2 => by omega⟩
  | d + 1, hd => by
    unfold gD
    cases e : T (15 - d)
    · right
      exact ⟨by show _ ≤ 15 - d; omega, by show 15 - d ≤ 15; omega, e, fun j h1 h2 => by have h2' : j < 15 - d := h2; omega⟩
    · rcases gD_spec T d (by omega) with ⟨h1, h2⟩ | ⟨h1, h2, h3, h4⟩
      · refine .inl ⟨h1, fun j j1 j2 => ?_⟩
        by_cases q : j = 15 - d
        · subst q; exact e
        · exact h2 j (by omega) j2
      · refine .inr ⟨by show _ ≤ gD T d; omega, h2, h3, fun j j1 j2 => ?_⟩
        have j2' : j < gD T d := j2
        by_cases q : j = 15 - d
        · subst q; exact e
        · exact h4 j (by omega) j2'
def low (T : Nat → Bool) : Nat := gD T 15
def lowE (T : Nat → Bool) : Int := if low T = 0 then 22 else 0
def lowT (T : Nat → Bool) : Nat → Bool := if low T = 0 then T else upd T (low T) true
def gvR (T : Nat → Bool) (x : Int) : Bool := vmOk x && T x.toNat
def gvE (T : Nat → Bool) (x : Int) : Int := if gvR T x = true then 0 else 1
def gvT (T : Nat → Bool) (x : Int) : Nat → Bool := if gvR T x = true then upd T x.toNat false else T
theorem gv_no {T : Nat → Bool} {x : Int} (h : gvR T x = false) : gvE T x = 1 ∧ gvT T x = T := by unfold gvE gvT; rw [h]; exact ⟨rfl, rfl⟩
theorem gv_yes {T : Nat → Bool} {x : Int} (h : gvR T x = true) : gvE T x = 0 ∧ gvT T x = upd T x.toNat false := by unfold gvE gvT; rw [h]; exact ⟨rfl, rfl⟩
theorem upd_id (T : Nat → Bool) (k : Nat) (x : Bool) (h : T k = x) : upd T k x = T := by
  funext j
  unfold upd
  split
  · rename_i e; rw [e, h]
  · rfl
end Go.Proofs.Ytdncendokbjnjaa
