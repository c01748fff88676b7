/- CopyBytes, Lend, Back. -/
import Derived.Test.YtfoafgbhelgjcaaMC2
import Derived.Laws.AppendOwnNone
import Derived.Deep.QuietTactic
import Derived.BigQuiet
namespace Go.Proofs.Ytfoafgbhelgjcaa.C
open Go.RowKit
set_option linter.unusedVariables false
set_option maxRecDepth 100000

theorem ownBlock_ge {w : World} {base : Nat} {e : TypeId} {size : Nat} {v : Value} {n : Nat} {xs : List Value} (h : w.ownsRow base e size v n xs) {r : Nat} (q : v.ownBlock = some r) : base ≤ r := by
  rcases h.2 with ⟨rfl, _⟩ | ⟨g, cap, cur, rfl, hg, _⟩
  · simp [Value.ownBlock] at q
  · simp [Value.ownBlock] at q; omega
/-- what Lend lays: the bytes, and the marks behind them -/
def lendF (f : Nat → Int) (n : Nat) : Nat → Int := put f n 70 (fun j => 101 + (j : Int))
theorem lend_row (f : Nat → Int) (n k : Nat) (hk : k < 70) : row (lendF f n) 0 (n + k) ++ [.int .u8 (101 + (k : Int))] = row (lendF f n) 0 (n + (k + 1)) := by
  apply List.ext_getElem?
  intro j
  rw [List.getElem?_append, row_length]
  rcases Nat.lt_trichotomy j (n + k) with q | q | q
  · rw [if_pos q, row_get _ _ _ _ q, row_get _ _ _ _ (by omega)]
  · rw [if_neg (by omega), row_get _ _ _ _ (by omega), q, Nat.sub_self, Nat.zero_add]
    unfold lendF
    rw [put_in _ _ _ _ _ hk]; rfl
  · rw [if_neg (by omega), List.getElem?_eq_none (by simp; omega), List.getElem?_eq_none (by rw [row_length]; omega)]
theorem lend_row0 (f : Nat → Int) (n : Nat) : row f 0 n = row (lendF f n) 0 n := row_congr fun j hj => by unfold lendF; rw [Nat.zero_add, put_out _ _ _ _ _ (by omega)]
end Go.Proofs.Ytfoafgbhelgjcaa.C
