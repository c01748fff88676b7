/- Back. -/
import Derived.Test.YthjlhiigaccapaaRK
namespace Go.Proofs.Ythjlhiigaccapaa
open Go.RowKit
set_option linter.unusedVariables false

theorem Still.drewN {w w' : World} (h : Still w w') (n : Nat) : Still w (w'.drewN n) := ⟨h.heap, h.os, h.tape, h.output⟩
set_option maxHeartbeats 1000000 in
theorem c_Back (w : World) (ad : Option Addr) (n cap cp g : Nat) (f : Nat → Int) (hf : ∀ j, 0 ≤ f j ∧ f j < 256) (aa : Addr) (hn : n ≤ 4096) (hsl : 0 < n → ad = some aa ∧ ∀ j, j < n → w.cell? (aa.add j) = some (.int .u8 (f j))) (hall : ∀ j, j < n + 70 → w.cell? ⟨g, j, none⟩ = some (.int .u8 (lendF f n j))) :
    Calls Try.prog 33 #[.slice ad n cap, .slice (some ⟨g, 0, none⟩) (n + 70) cp] w fun e w' => e = .returned (.bool true) ∧ Still w w' := by
  have HSL := hid hsl
  have HA := hid hall
  clear hsl hall
  go_enter Try.func33, Try.ntmps33
  go_wp2
  go_loopw [5] (fun i wr => ∃ k : Nat, k ≤ n + 70 ∧ i = .int .i64 k ∧ Still w wr) (fun i _ => n + 70 - (intOf i).toNat)
  case atStart => exact ⟨0, by omega, rfl, .refl w⟩
  case round =>
    obtain ⟨k, hk, rfl, hst⟩ := hrel
    by_cases hlt : k < n + 70
    · by_cases hkn : k < n
      · obtain ⟨rfl, hc⟩ := HSL.out (by omega)
        have c1 : wr.cell? ⟨g, k, none⟩ = some (.int .u8 (f k)) := by
          rw [hst.cell, HA.out k hlt]; unfold lendF; rw [put_out _ _ _ _ _ (by omega)]
        have c2 : wr.cell? (aa.add k) = some (.int .u8 (f k)) := by rw [hst.cell, hc k hkn]
        have d1 : decide (k < n) = true := decide_eq_true (by omega)
        have d2 : decide (n ≤ k) = false := decide_eq_false (by omega)
        have HST := hid hst
        clear hc hst
        go_wp2
        go_quiet (fail)
        go_wp2
        go_roundw
        case rel => exact ⟨k + 1, by omega, by go_num, HST.out.drewN nq⟩
        case measure => simp [intOf]; omega
      · have c1 : wr.cell? ⟨g, k, none⟩ = some (.int .u8 (101 + (k : Int) - (n : Int))) := by
          rw [hst.cell, HA.out k hlt]; unfold lendF; rw [put_in' _ _ _ _ _ (by omega) (by omega)]; congr 2; omega
        have d1 : decide (k < n) = false := decide_eq_false (by omega)
        have d2 : decide (n ≤ k) = true := decide_eq_true (by omega)
        have HST := hid hst
        clear hst
        go_wp2
        go_quiet (fail)
        go_wp2
        go_roundw
        case rel => exact ⟨k + 1, by omega, by go_num, HST.out.drewN nq⟩
        case measure => simp [intOf]; omega
    · obtain rfl : k = n + 70 := by omega
      go_wp2
      go_ret
      exact ⟨rfl, hst⟩
end Go.Proofs.Ythjlhiigaccapaa
