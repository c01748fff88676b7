/- CopyBytes, Lend, Back. -/
import Derived.Test.YtgebjfkmiaobgaaMC2
import Derived.Laws.AppendOwnNone
import Derived.Deep.QuietTactic
import Derived.BigQuiet
namespace Go.Proofs.Ytgebjfkmiaobgaa.C
open Go.RowKit
set_option linter.unusedVariables false
set_option maxRecDepth 100000

theorem c_CopyBytes (w : World) (ad : Option Addr) (n cap : Nat) (f : Nat → Int) (aa : Addr) (hn : n ≤ 140737488355328) (hnone : ad = none → n = 0 ∧ cap = 0) (hsl : 0 < n → ad = some aa ∧ aa.block < w.heap.size ∧ ∀ j, j < n → w.cell? (aa.add j) = some (.int .u8 (f j))) :
    Calls Try.prog 37 #[.slice ad n cap] w fun e w' => ∃ v, e = .returned v ∧ w'.ownsRow w.heap.size 5 1 v n (row f 0 n) ∧ Below w.heap.size w w' := by
  obtain ⟨i0, hi, hz0, hz1, hz2⟩ := info_parts info_u8
  have HSL := hid hsl
  clear hsl
  go_enter Try.func37, Try.ntmps37
  cases ad with
  | none =>
    obtain ⟨rfl, rfl⟩ := hnone rfl
    go_wp2_with (at_builtin; refine wpList_append_own_none rfl _ _ 23 rfl w.heap.size 5 i0 1 u_su8 hi _ _ _ rfl (World.ownsRow_nil _ _ _ _) rfl ?_)
    go_ret
    exact ⟨_, rfl, World.ownsRow_nil _ _ _ _, Below.refl _ _⟩
  | some b =>
    go_wp2_with (at_builtin; refine wpList_append_own _ rfl _ _ 23 rfl w.heap.size 5 i0 (.int .u8 0) 1 1 u_su8 hi hz0 hz1 hz2 rfl (by decide) _ 0 [] rfl (World.ownsRow_nil _ _ _ _) b n cap (row f 0 n) rfl (by rw [row_length]; omega) (by
      intro j u hu
      have hj : j < n := by
        rcases Nat.lt_or_ge j n with q | q
        · exact q
        · rw [List.getElem?_eq_none (by simpa [row_length] using q)] at hu; cases hu
      rw [row_get _ _ _ _ hj, Nat.zero_add] at hu
      obtain ⟨e, _, hc⟩ := HSL.out (by omega)
      obtain rfl := Option.some.inj e
      rw [hc j hj]; exact hu) (row_one _ _ _) (by unfold maxLen; omega) (by omega) (Nat.le_refl _) ?_; intro v' w1 hown hgrow _; have HO := hid hown; have HG := hid hgrow; clear hown hgrow)
    go_ret
    refine ⟨v', rfl, by simpa using HO.out, (Below.refl _ _).grown HG.out (Nat.le_refl _) (fun k q => by have q' : (none : Option Nat) = some k := q; cases q')⟩
theorem ownBlock_ge {w : World} {base : Nat} {e : TypeId} {size : Nat} {v : Value} {n : Nat} {xs : List Value} (h : w.ownsRow base e size v n xs) {r : Nat} (q : v.ownBlock = some r) : base ≤ r := by
  rcases h.2 with ⟨rfl, _⟩ | ⟨g, cap, cur, rfl, hg, _⟩
  · simp [Value.ownBlock] at q
  · simp [Value.ownBlock] at q; omega
/-- what Lend lays: the bytes, and the marks behind them -/
def lendF (f : Nat → Int) (n : Nat) : Nat → Int := put f n 70 (fun j => 101 + (j : Int))
theorem lend_row (f : Nat → Int) (n k : Nat) (hk : k < 70) : row (lendF f n) 0 (n + k) ++ [.int .u8 (101 + (k : Int))] = row (lendF f n) 0 (n + (k + 1)) := by
  apply List.ext_getElem?
  intro j
  rw [List.getElem?_append, row_length]
  rcases Nat.lt_trichotomy j (n + k) with q | q | q
  · rw [if_pos q, row_get _ _ _ _ q, row_get _ _ _ _ (by omega)]
  · rw [if_neg (by omega), row_get _ _ _ _ (by omega), q, Nat.sub_self, Nat.zero_add]
    unfold lendF
    rw [put_in _ _ _ _ _ hk]; rfl
  · rw [if_neg (by omega), List.getElem?_eq_none (by simp; omega), List.getElem?_eq_none (by rw [row_length]; omega)]
theorem lend_row0 (f : Nat → Int) (n : Nat) : row f 0 n = row (lendF f n) 0 n := row_congr fun j hj => by unfold lendF; rw [Nat.zero_add, put_out _ _ _ _ _ (by omega)]
end Go.Proofs.Ytgebjfkmiaobgaa.C
