/- A register is found. -/
import Derived.Test.YtajnjmjogaacpaaGreatXC
namespace Go.Proofs.YtajnjmjogaacpaaGreat
open Go.RowKit Go.ChangeMaps Go.MapKept
open C (Only hid)
set_option linter.unusedVariables false
set_option maxRecDepth 100000

/-- what part of a register an offset and a size tell -/
def cutF (off size : Int) : Int × Int × Bool := if size = 8 ∧ off % 8 = 0 then (0, 18446744073709551615, true) else if size = 4 ∧ off % 8 = 0 then (0, 4294967295, true) else if size = 4 ∧ off % 8 = 4 then (32, 18446744069414584320, true) else (0, 0, false)
theorem x_cut (w : World) (off size : Int) (o0 : 0 ≤ off) (o1 : off < 18446744073709551616) (s b : Int) (k : Bool) (hc : cutF off size = (s, b, k)) :
    Calls Tryz.prog 38 #[.int .u64 off, .int .i64 size] w fun r w' => r = .returned (.tuple #[.agg #[.int .u64 s, .int .u64 b], .bool k]) ∧ Below w.heap.size w w' := by
  unfold cutF at hc
  by_cases h8 : size = 8
  · subst h8
    by_cases hm : off % 8 = 0
    · rw [if_pos ⟨rfl, hm⟩] at hc
      cases hc
      go_enter Tryz.func38, Tryz.ntmps38
      go_wp2
      go_returns
      exact ⟨rfl, by (repeat (first | (with_reducible exact Below.refl _ _) | (with_reducible assumption) | refine Below.setCell ?_ (by first | exact Nat.le_refl _ | simp | (simp; omega)) _ | refine Below.alloc ?_ (by first | exact Nat.le_refl _ | simp | (simp; omega)) _ | refine below_dn ?_ _ | refine below_setRow ?_ (by first | exact Nat.le_refl _ | simp | (simp; omega)) _))⟩
    · rw [if_neg (fun q => hm q.2), if_neg (fun q => by simp at q), if_neg (fun q => by simp at q)] at hc
      cases hc
      go_enter Tryz.func38, Tryz.ntmps38
      go_wp2
      go_returns
      exact ⟨rfl, by (repeat (first | (with_reducible exact Below.refl _ _) | (with_reducible assumption) | refine Below.setCell ?_ (by first | exact Nat.le_refl _ | simp | (simp; omega)) _ | refine Below.alloc ?_ (by first | exact Nat.le_refl _ | simp | (simp; omega)) _ | refine below_dn ?_ _ | refine below_setRow ?_ (by first | exact Nat.le_refl _ | simp | (simp; omega)) _))⟩
  · by_cases h4 : size = 4
    · subst h4
      by_cases hm : off % 8 = 0
      · rw [if_neg (fun q => by simp at q), if_pos ⟨rfl, hm⟩] at hc
        cases hc
        go_enter Tryz.func38, Tryz.ntmps38
        go_wp2
        go_returns
        exact ⟨rfl, by (repeat (first | (with_reducible exact Below.refl _ _) | (with_reducible assumption) | refine Below.setCell ?_ (by first | exact Nat.le_refl _ | simp | (simp; omega)) _ | refine Below.alloc ?_ (by first | exact Nat.le_refl _ | simp | (simp; omega)) _ | refine below_dn ?_ _ | refine below_setRow ?_ (by first | exact Nat.le_refl _ | simp | (simp; omega)) _))⟩
      · by_cases hn : off % 8 = 4
        · rw [if_neg (fun q => by simp at q), if_neg (fun q => hm q.2), if_pos ⟨rfl, hn⟩] at hc
          cases hc
          go_enter Tryz.func38, Tryz.ntmps38
          go_wp2
          go_returns
          exact ⟨rfl, by (repeat (first | (with_reducible exact Below.refl _ _) | (with_reducible assumption) | refine Below.setCell ?_ (by first | exact Nat.le_refl _ | simp | (simp; omega)) _ | refine Below.alloc ?_ (by first | exact Nat.le_refl _ | simp | (simp; omega)) _ | refine below_dn ?_ _ | refine below_setRow ?_ (by first | exact Nat.le_refl _ | simp | (simp; omega)) _))⟩
        · rw [if_neg (fun q => by simp at q), if_neg (fun q => hm q.2), if_neg (fun q => hn q.2)] at hc
          cases hc
          go_enter Tryz.func38, Tryz.ntmps38
          go_wp2
          go_returns
          exact ⟨rfl, by (repeat (first | (with_reducible exact Below.refl _ _) | (with_reducible assumption) | refine Below.setCell ?_ (by first | exact Nat.le_refl _ | simp | (simp; omega)) _ | refine Below.alloc ?_ (by first | exact Nat.le_refl _ | simp | (simp; omega)) _ | refine below_dn ?_ _ | refine below_setRow ?_ (by first | exact Nat.le_refl _ | simp | (simp; omega)) _))⟩
    · rw [if_neg (fun q => h8 q.1), if_neg (fun q => h4 q.1), if_neg (fun q => h4 q.1)] at hc
      cases hc
      have n8 : (size == 8) = false := by simpa using h8
      have n4 : (size == 4) = false := by simpa using h4
      go_enter Tryz.func38, Tryz.ntmps38
      go_wp2
      go_returns
      exact ⟨rfl, by (repeat (first | (with_reducible exact Below.refl _ _) | (with_reducible assumption) | refine Below.setCell ?_ (by first | exact Nat.le_refl _ | simp | (simp; omega)) _ | refine Below.alloc ?_ (by first | exact Nat.le_refl _ | simp | (simp; omega)) _ | refine below_dn ?_ _ | refine below_setRow ?_ (by first | exact Nat.le_refl _ | simp | (simp; omega)) _))⟩
theorem z_reg (w : World) : (zeroValue 106).run Tryz.prog w = .ok (.agg #[.nilFunc, .nilFunc]) w := by rfl
theorem look_u {w : World} {M e : Nat} (h : Tab w M e) (k : Nat) (hk : k < 7) (x : Int) (hx : x = 8 * (k : Int)) : (Instr.lookup 100 (.map (some M)) (.int .u64 x) true).run Tryz.prog w = .ok (.tuple #[eR e k, .bool true]) w := by
  subst hx
  obtain ⟨es, c, hb, hT⟩ := h
  have hkey : IsKey (.int .u64) (.int .u64 (8 * (k : Int))) := by simp [IsKey]
  obtain ⟨j, hn⟩ := hT.find k hk rfl
  simp [Instr.lookup, run_underlying u_rmap, MapKept.run_getObj_map hb, run_checkKey u_ru64 hkey, run_findKey u_ru64 hn, Result.andThen]
theorem look_m {w : World} {M e : Nat} (h : Tab w M e) (x : Int) (hx : ∀ i : Nat, i < 7 → x ≠ 8 * (i : Int)) : (Instr.lookup 100 (.map (some M)) (.int .u64 x) true).run Tryz.prog w = .ok (.tuple #[.agg #[.nilFunc, .nilFunc], .bool false]) w := by
  obtain ⟨es, c, hb, hT⟩ := h
  have hkey : IsKey (.int .u64) (.int .u64 x) := by simp [IsKey]
  have hn := hT.miss x fun i hi _ => hx i hi
  simp [Instr.lookup, run_underlying u_rmap, MapKept.run_getObj_map hb, run_checkKey u_ru64 hkey, run_findKey u_ru64 hn, Result.andThen]
end Go.Proofs.YtajnjmjogaacpaaGreat
