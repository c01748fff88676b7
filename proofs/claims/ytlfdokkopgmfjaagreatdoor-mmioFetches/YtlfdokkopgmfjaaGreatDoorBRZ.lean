/- What the reference's Expand answers: what the program's answers. New blocks alone. -/
import Derived.Test.YtlfdokkopgmfjaaGreatDoorBRZA
import Derived.Test.YtlfdokkopgmfjaaGreatDoorBRZB
import Derived.Test.YtlfdokkopgmfjaaGreatDoorBRZC
namespace Go.Proofs.YtlfdokkopgmfjaaGreatDoor.B
open Go.RowKit
set_option linter.unusedVariables false
set_option maxRecDepth 100000
theorem exp_of {c : Int} {i : I} (e : X c = (i, true)) : expF c = encF i := by
  have r := (full c (by rw [e])).1
  rw [e] at r
  have d := r.draft
  have he : encF i = (draftF i, true) := by
    unfold encF
    rw [if_pos (by rw [d]; exact ⟨rfl, eqI_self _⟩)]
  rw [he]
  unfold expF
  rw [if_pos (by rw [e]), e]
theorem exp_no {c : Int} (e : X c = (I.zero, false)) : expF c = (0, false) := by
  unfold expF
  rw [if_neg (by rw [e]; decide)]
theorem onl_y {i : I} {n : Int} (h : n ≠ 0) : onl i n = (i, true) := if_neg h
theorem onl_n {i : I} {n : Int} (h : n = 0) : onl i n = (I.zero, false) := if_pos h
theorem XQ0 {c : Int} (h : c % 4 = 0) : X c = X0 c := if_pos h
theorem XQ1 {c : Int} (h : c % 4 = 1) : X c = X1 c := by unfold X; rw [if_neg (show ¬ cQ c = 0 by unfold cQ; omega), if_pos (show cQ c = 1 from h)]
theorem XQ2 {c : Int} (h : c % 4 = 2) : X c = X2 c := by unfold X; rw [if_neg (show ¬ cQ c = 0 by unfold cQ; omega), if_neg (show ¬ cQ c = 1 by unfold cQ; omega), if_pos (show cQ c = 2 from h)]
theorem XQ3 {c : Int} (h : c % 4 = 3) : X c = (I.zero, false) := by unfold X; rw [if_neg (show ¬ cQ c = 0 by unfold cQ; omega), if_neg (show ¬ cQ c = 1 by unfold cQ; omega), if_neg (show ¬ cQ c = 2 by unfold cQ; omega)]; rfl
theorem r_Expand (c : Int) (h0 : 0 ≤ c) (h1 : c ≤ 65535) (w : World) :
    Calls Tryz.prog 18 #[.int .u16 c] w fun e w' => e = .returned (.tuple #[.int .u32 (expF c).1, .bool (expF c).2]) ∧ Below w.heap.size w w' := by
  rcases (by omega : c % 4 = 0 ∨ c % 4 = 1 ∨ c % 4 = 2 ∨ c % 4 = 3) with hq | hq | hq | hq
  · rcases (by omega : c / 8192 % 8 = 0 ∨ c / 8192 % 8 = 1 ∨ c / 8192 % 8 = 2 ∨ c / 8192 % 8 = 3 ∨ c / 8192 % 8 = 4 ∨ c / 8192 % 8 = 5 ∨ c / 8192 % 8 = 6 ∨ c / 8192 % 8 = 7) with hf | hf | hf | hf | hf | hf | hf | hf <;> have hF : cF3 c = _ := hf
    · by_cases hn : cStack c = 0
      · rw [exp_no ((XQ0 hq).trans ((show X0 c = onl ⟨9, 1, cS2 c, 2, 0, cStack c, 0, false⟩ (cStack c) by unfold X0; rw [hF]; rfl).trans (onl_n hn)))]; exact y_0n c h0 h1 w hq hf hn
      · rw [exp_of ((XQ0 hq).trans ((show X0 c = onl ⟨9, 1, cS2 c, 2, 0, cStack c, 0, false⟩ (cStack c) by unfold X0; rw [hF]; rfl).trans (onl_y hn)))]; exact y_0 c h0 h1 w hq hf hn
    · rw [exp_no ((XQ0 hq).trans (by unfold X0; rw [hF]; rfl))]; exact y_1 c h0 h1 w hq hf
    · rw [exp_of ((XQ0 hq).trans (by unfold X0; rw [hF]; rfl))]; exact y_2 c h0 h1 w hq hf
    · rw [exp_of ((XQ0 hq).trans (by unfold X0; rw [hF]; rfl))]; exact y_3 c h0 h1 w hq hf
    · rw [exp_no ((XQ0 hq).trans (by unfold X0; rw [hF]; rfl))]; exact y_4 c h0 h1 w hq hf
    · rw [exp_no ((XQ0 hq).trans (by unfold X0; rw [hF]; rfl))]; exact y_5 c h0 h1 w hq hf
    · rw [exp_of ((XQ0 hq).trans (by unfold X0; rw [hF]; rfl))]; exact y_6 c h0 h1 w hq hf
    · rw [exp_of ((XQ0 hq).trans (by unfold X0; rw [hF]; rfl))]; exact y_7 c h0 h1 w hq hf
  · rcases (by omega : c / 8192 % 8 = 0 ∨ c / 8192 % 8 = 1 ∨ c / 8192 % 8 = 2 ∨ c / 8192 % 8 = 3 ∨ c / 8192 % 8 = 4 ∨ c / 8192 % 8 = 5 ∨ c / 8192 % 8 = 6 ∨ c / 8192 % 8 = 7) with hf | hf | hf | hf | hf | hf | hf | hf <;> have hF : cF3 c = _ := hf
    · rw [exp_of ((XQ1 hq).trans (by unfold X1; rw [hF]; rfl))]; exact y_8 c h0 h1 w hq hf
    · by_cases hd : cRd c = 0
      · rw [exp_no ((XQ1 hq).trans ((show X1 c = onl ⟨9, 19, cRd c, cRd c, 0, cSmall c, 0, false⟩ (cRd c) by unfold X1; rw [hF]; rfl).trans (onl_n hd)))]; exact y_9n c h0 h1 w hq hf hd
      · rw [exp_of ((XQ1 hq).trans ((show X1 c = onl ⟨9, 19, cRd c, cRd c, 0, cSmall c, 0, false⟩ (cRd c) by unfold X1; rw [hF]; rfl).trans (onl_y hd)))]; exact y_9 c h0 h1 w hq hf hd
    · rw [exp_of ((XQ1 hq).trans (by unfold X1; rw [hF]; rfl))]; exact y_10 c h0 h1 w hq hf
    · have e3 : X1 c = XU c := by unfold X1; rw [hF]; rfl
      by_cases hd : cRd c = 2
      · have e4 : XU c = onl ⟨9, 1, 2, 2, 0, cMove c, 0, false⟩ (cMove c) := if_pos hd
        by_cases hn : cMove c = 0
        · rw [exp_no ((XQ1 hq).trans (e3.trans (e4.trans (onl_n hn))))]; exact y_11b c h0 h1 w hq hf hd hn
        · rw [exp_of ((XQ1 hq).trans (e3.trans (e4.trans (onl_y hn))))]; exact y_11a c h0 h1 w hq hf hd hn
      · have e4 : XU c = onl ⟨1, 0, cRd c, 0, 0, cSmall c * 4096, 0, false⟩ (cSmall c * 4096) := if_neg hd
        by_cases hn : cSmall c = 0
        · rw [exp_no ((XQ1 hq).trans (e3.trans (e4.trans (onl_n (by omega)))))]; exact y_11d c h0 h1 w hq hf hd hn
        · rw [exp_of ((XQ1 hq).trans (e3.trans (e4.trans (onl_y (by omega)))))]; exact y_11c c h0 h1 w hq hf hd hn
    · have e3 : X1 c = XC c := by unfold X1; rw [hF]; rfl
      rcases (by omega : c / 1024 % 4 = 0 ∨ c / 1024 % 4 = 1 ∨ c / 1024 % 4 = 2 ∨ c / 1024 % 4 = 3) with ht | ht | ht | ht <;> have hT : cT c = _ := ht
      · rw [exp_of ((XQ1 hq).trans (e3.trans (by unfold XC; rw [hT]; rfl)))]; exact y_12 c h0 h1 w hq hf _ _ (fun w => ar_0 c h0 h1 w ht)
      · rw [exp_of ((XQ1 hq).trans (e3.trans (by unfold XC; rw [hT]; rfl)))]; exact y_12 c h0 h1 w hq hf _ _ (fun w => ar_1 c h0 h1 w ht)
      · rw [exp_of ((XQ1 hq).trans (e3.trans (by unfold XC; rw [hT]; rfl)))]; exact y_12 c h0 h1 w hq hf _ _ (fun w => ar_2 c h0 h1 w ht)
      · have e4 : XC c = onl ⟨8, cOp c, cS1 c, cS1 c, cS2 c, 0, 0, false⟩ (cOp c) := by unfold XC; rw [hT]; rfl
        by_cases hn : cOp c = 0
        · rw [exp_no ((XQ1 hq).trans (e3.trans (e4.trans (onl_n hn))))]; exact y_12 c h0 h1 w hq hf _ _ (fun w => ar_3n c h0 h1 w ht hn)
        · rw [exp_of ((XQ1 hq).trans (e3.trans (e4.trans (onl_y hn))))]; exact y_12 c h0 h1 w hq hf _ _ (fun w => ar_3 c h0 h1 w ht hn)
    · rw [exp_of ((XQ1 hq).trans (by unfold X1; rw [hF]; rfl))]; exact y_13 c h0 h1 w hq hf
    · rw [exp_of ((XQ1 hq).trans (by unfold X1; rw [hF]; rfl))]; exact y_14 c h0 h1 w hq hf
    · rw [exp_of ((XQ1 hq).trans (by unfold X1; rw [hF]; rfl))]; exact y_15 c h0 h1 w hq hf
  · rcases (by omega : c / 8192 % 8 = 0 ∨ c / 8192 % 8 = 1 ∨ c / 8192 % 8 = 2 ∨ c / 8192 % 8 = 3 ∨ c / 8192 % 8 = 4 ∨ c / 8192 % 8 = 5 ∨ c / 8192 % 8 = 6 ∨ c / 8192 % 8 = 7) with hf | hf | hf | hf | hf | hf | hf | hf <;> have hF : cF3 c = _ := hf
    · rw [exp_of ((XQ2 hq).trans (by unfold X2; rw [hF]; rfl))]; exact y_16 c h0 h1 w hq hf
    · rw [exp_no ((XQ2 hq).trans (by unfold X2; rw [hF]; rfl))]; exact y_17 c h0 h1 w hq hf
    · by_cases hd : cRd c = 0
      · rw [exp_no ((XQ2 hq).trans ((show X2 c = onl ⟨6, 0, cRd c, 2, 0, cPopW c, 4, true⟩ (cRd c) by unfold X2; rw [hF]; rfl).trans (onl_n hd)))]; exact y_18n c h0 h1 w hq hf hd
      · rw [exp_of ((XQ2 hq).trans ((show X2 c = onl ⟨6, 0, cRd c, 2, 0, cPopW c, 4, true⟩ (cRd c) by unfold X2; rw [hF]; rfl).trans (onl_y hd)))]; exact y_18 c h0 h1 w hq hf hd
    · by_cases hd : cRd c = 0
      · rw [exp_no ((XQ2 hq).trans ((show X2 c = onl ⟨6, 0, cRd c, 2, 0, cPopD c, 8, true⟩ (cRd c) by unfold X2; rw [hF]; rfl).trans (onl_n hd)))]; exact y_19n c h0 h1 w hq hf hd
      · rw [exp_of ((XQ2 hq).trans ((show X2 c = onl ⟨6, 0, cRd c, 2, 0, cPopD c, 8, true⟩ (cRd c) by unfold X2; rw [hF]; rfl).trans (onl_y hd)))]; exact y_19 c h0 h1 w hq hf hd
    · have e3 : X2 c = XM c := by unfold X2; rw [hF]; rfl
      rcases (by omega : c / 4096 % 2 = 0 ∨ c / 4096 % 2 = 1) with hu | hu <;> have hU : cU c = _ := hu
      · by_cases hr : cR2 c = 0
        · have e4 : XM c = onl ⟨4, 0, 0, cRd c, 0, 0, 0, false⟩ (cRd c) := by unfold XM; rw [hU, hr]; rfl
          by_cases hd : cRd c = 0
          · rw [exp_no ((XQ2 hq).trans (e3.trans (e4.trans (onl_n hd))))]; exact y_20 c h0 h1 w hq hf _ _ (fun w => ju_00 c h0 h1 w hu hr hd)
          · rw [exp_of ((XQ2 hq).trans (e3.trans (e4.trans (onl_y hd))))]; exact y_20 c h0 h1 w hq hf _ _ (fun w => ju_0d c h0 h1 w hu hr hd)
        · have e4 : XM c = (⟨8, 1, cRd c, 0, cR2 c, 0, 0, false⟩, true) := by unfold XM; rw [if_neg (by omega), if_neg hr]
          rw [exp_of ((XQ2 hq).trans (e3.trans e4))]; exact y_20 c h0 h1 w hq hf _ _ (fun w => ju_0r c h0 h1 w hu hr)
      · by_cases hr : cR2 c = 0
        · by_cases hd : cRd c = 0
          · have e4 : XM c = (⟨12, 0, 0, 0, 0, 0, 0, false⟩, true) := by unfold XM; rw [if_pos hU, if_pos hr, if_pos hd]
            rw [exp_of ((XQ2 hq).trans (e3.trans e4))]; exact y_20 c h0 h1 w hq hf _ _ (fun w => ju_10 c h0 h1 w hu hr hd)
          · have e4 : XM c = (⟨4, 0, 1, cRd c, 0, 0, 0, false⟩, true) := by unfold XM; rw [if_pos hU, if_pos hr, if_neg hd]
            rw [exp_of ((XQ2 hq).trans (e3.trans e4))]; exact y_20 c h0 h1 w hq hf _ _ (fun w => ju_1d c h0 h1 w hu hr hd)
        · have e4 : XM c = (⟨8, 1, cRd c, cRd c, cR2 c, 0, 0, false⟩, true) := by unfold XM; rw [if_pos hU, if_neg hr]
          rw [exp_of ((XQ2 hq).trans (e3.trans e4))]; exact y_20 c h0 h1 w hq hf _ _ (fun w => ju_1r c h0 h1 w hu hr)
    · rw [exp_no ((XQ2 hq).trans (by unfold X2; rw [hF]; rfl))]; exact y_21 c h0 h1 w hq hf
    · rw [exp_of ((XQ2 hq).trans (by unfold X2; rw [hF]; rfl))]; exact y_22 c h0 h1 w hq hf
    · rw [exp_of ((XQ2 hq).trans (by unfold X2; rw [hF]; rfl))]; exact y_23 c h0 h1 w hq hf
  · rw [exp_no (XQ3 hq)]
    rcases (by omega : c / 8192 % 8 = 0 ∨ c / 8192 % 8 = 1 ∨ c / 8192 % 8 = 2 ∨ c / 8192 % 8 = 3 ∨ c / 8192 % 8 = 4 ∨ c / 8192 % 8 = 5 ∨ c / 8192 % 8 = 6 ∨ c / 8192 % 8 = 7) with hf | hf | hf | hf | hf | hf | hf | hf
    · exact y_24 c h0 h1 w hq hf
    · exact y_25 c h0 h1 w hq hf
    · exact y_26 c h0 h1 w hq hf
    · exact y_27 c h0 h1 w hq hf
    · exact y_28 c h0 h1 w hq hf
    · exact y_29 c h0 h1 w hq hf
    · exact y_30 c h0 h1 w hq hf
    · exact y_31 c h0 h1 w hq hf
end Go.Proofs.YtlfdokkopgmfjaaGreatDoor.B
