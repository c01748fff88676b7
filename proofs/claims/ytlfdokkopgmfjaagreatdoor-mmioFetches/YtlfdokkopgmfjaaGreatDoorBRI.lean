/- What the reference reads a word of opcode 0x73 or 0x2f as. New blocks alone. -/
import Derived.Test.YtlfdokkopgmfjaaGreatDoorBRH
namespace Go.Proofs.YtlfdokkopgmfjaaGreatDoor.B
open Go.RowKit
set_option linter.unusedVariables false
set_option maxRecDepth 100000
theorem hid {p : Prop} (h : p) : Hid p := h
def syF (a : Int) : I × Bool := withF (nSys a) (fRd a) (fRs1 a) (rSpace a) (iCsr a)
def atF (a : Int) : I × Bool := withF (nAto a) (fRd a) (fRs1 a) (fRs2 a) 0
theorem s_11 (a : Int) (h0 : 0 ≤ a) (h1 : a < 4294967296) (w : World) (e : a = 115) :
    Calls Tryz.prog 106 #[.int .u32 a, .int .i64 (fF3 a), .int .i64 (fF7 a), .int .i64 (fRd a), .int .i64 (fRs1 a), .int .i64 (fRs2 a)] w fun e w' => e = .returned (.tuple #[I.v ⟨11, 0, 0, 0, 0, 0, 0, false⟩, .bool true]) ∧ Below w.heap.size w w' := by
  have f3b := fF3_b a
  go_enter Tryz.func106, Tryz.ntmps106
  go_wp2_with (first | (go_at_call 61; (with_reducible first | refine (g_cs a h0 h1 _).mono ?_ | refine (g_f5 a h0 h1 _).mono ?_); rintro e w1 ⟨rfl, rfl⟩))
  exact bodyPost_ret (v := .tuple #[I.v ⟨11, 0, 0, 0, 0, 0, 0, false⟩, .bool true]) (by simp [results, Tryz.results106, go_sem]) rfl ⟨rfl, below1 _⟩
theorem s_12 (a : Int) (h0 : 0 ≤ a) (h1 : a < 4294967296) (w : World) (e : a = 1048691) :
    Calls Tryz.prog 106 #[.int .u32 a, .int .i64 (fF3 a), .int .i64 (fF7 a), .int .i64 (fRd a), .int .i64 (fRs1 a), .int .i64 (fRs2 a)] w fun e w' => e = .returned (.tuple #[I.v ⟨12, 0, 0, 0, 0, 0, 0, false⟩, .bool true]) ∧ Below w.heap.size w w' := by
  have f3b := fF3_b a
  go_enter Tryz.func106, Tryz.ntmps106
  go_wp2_with (first | (go_at_call 61; (with_reducible first | refine (g_cs a h0 h1 _).mono ?_ | refine (g_f5 a h0 h1 _).mono ?_); rintro e w1 ⟨rfl, rfl⟩))
  exact bodyPost_ret (v := .tuple #[I.v ⟨12, 0, 0, 0, 0, 0, 0, false⟩, .bool true]) (by simp [results, Tryz.results106, go_sem]) rfl ⟨rfl, below1 _⟩
theorem s_18 (a : Int) (h0 : 0 ≤ a) (h1 : a < 4294967296) (w : World) (e : a = 270532723) :
    Calls Tryz.prog 106 #[.int .u32 a, .int .i64 (fF3 a), .int .i64 (fF7 a), .int .i64 (fRd a), .int .i64 (fRs1 a), .int .i64 (fRs2 a)] w fun e w' => e = .returned (.tuple #[I.v ⟨18, 0, 0, 0, 0, 0, 0, false⟩, .bool true]) ∧ Below w.heap.size w w' := by
  have f3b := fF3_b a
  go_enter Tryz.func106, Tryz.ntmps106
  go_wp2_with (first | (go_at_call 61; (with_reducible first | refine (g_cs a h0 h1 _).mono ?_ | refine (g_f5 a h0 h1 _).mono ?_); rintro e w1 ⟨rfl, rfl⟩))
  exact bodyPost_ret (v := .tuple #[I.v ⟨18, 0, 0, 0, 0, 0, 0, false⟩, .bool true]) (by simp [results, Tryz.results106, go_sem]) rfl ⟨rfl, below1 _⟩
theorem s_19 (a : Int) (h0 : 0 ≤ a) (h1 : a < 4294967296) (w : World) (e : a = 273678451) :
    Calls Tryz.prog 106 #[.int .u32 a, .int .i64 (fF3 a), .int .i64 (fF7 a), .int .i64 (fRd a), .int .i64 (fRs1 a), .int .i64 (fRs2 a)] w fun e w' => e = .returned (.tuple #[I.v ⟨19, 0, 0, 0, 0, 0, 0, false⟩, .bool true]) ∧ Below w.heap.size w w' := by
  have f3b := fF3_b a
  go_enter Tryz.func106, Tryz.ntmps106
  go_wp2_with (first | (go_at_call 61; (with_reducible first | refine (g_cs a h0 h1 _).mono ?_ | refine (g_f5 a h0 h1 _).mono ?_); rintro e w1 ⟨rfl, rfl⟩))
  exact bodyPost_ret (v := .tuple #[I.v ⟨19, 0, 0, 0, 0, 0, 0, false⟩, .bool true]) (by simp [results, Tryz.results106, go_sem]) rfl ⟨rfl, below1 _⟩
theorem s_20 (a : Int) (h0 : 0 ≤ a) (h1 : a < 4294967296) (w : World) (n11 : a ≠ 115) (n12 : a ≠ 1048691) (n18 : a ≠ 270532723) (n19 : a ≠ 273678451) (hf : fF3 a = 0) (h7 : fF7 a = 9) (hr : fRd a = 0) :
    Calls Tryz.prog 106 #[.int .u32 a, .int .i64 (fF3 a), .int .i64 (fF7 a), .int .i64 (fRd a), .int .i64 (fRs1 a), .int .i64 (fRs2 a)] w fun e w' => e = .returned (.tuple #[I.v ⟨20, 0, 0, fRs1 a, fRs2 a, 0, 0, false⟩, .bool true]) ∧ Below w.heap.size w w' := by
  have f3b := fF3_b a
  go_enter Tryz.func106, Tryz.ntmps106
  go_wp2_with (first | (go_at_call 61; (with_reducible first | refine (g_cs a h0 h1 _).mono ?_ | refine (g_f5 a h0 h1 _).mono ?_); rintro e w1 ⟨rfl, rfl⟩))
  exact bodyPost_ret (v := .tuple #[I.v ⟨20, 0, 0, fRs1 a, fRs2 a, 0, 0, false⟩, .bool true]) (by simp [results, Tryz.results106, go_sem]) rfl ⟨rfl, below1 _⟩
theorem s_0a (a : Int) (h0 : 0 ≤ a) (h1 : a < 4294967296) (w : World) (n11 : a ≠ 115) (n12 : a ≠ 1048691) (n18 : a ≠ 270532723) (n19 : a ≠ 273678451) (hf : fF3 a = 0) (h7 : fF7 a ≠ 9) :
    Calls Tryz.prog 106 #[.int .u32 a, .int .i64 (fF3 a), .int .i64 (fF7 a), .int .i64 (fRd a), .int .i64 (fRs1 a), .int .i64 (fRs2 a)] w fun e w' => e = .returned (.tuple #[I.v ⟨0, 0, 0, 0, 0, 0, 0, false⟩, .bool false]) ∧ Below w.heap.size w w' := by
  have f3b := fF3_b a
  go_enter Tryz.func106, Tryz.ntmps106
  go_wp2_with (first | (go_at_call 61; (with_reducible first | refine (g_cs a h0 h1 _).mono ?_ | refine (g_f5 a h0 h1 _).mono ?_); rintro e w1 ⟨rfl, rfl⟩))
  exact bodyPost_ret (v := .tuple #[I.v ⟨0, 0, 0, 0, 0, 0, 0, false⟩, .bool false]) (by simp [results, Tryz.results106, go_sem]) rfl ⟨rfl, below1 _⟩
theorem s_0b (a : Int) (h0 : 0 ≤ a) (h1 : a < 4294967296) (w : World) (n11 : a ≠ 115) (n12 : a ≠ 1048691) (n18 : a ≠ 270532723) (n19 : a ≠ 273678451) (hf : fF3 a = 0) (h7 : fF7 a = 9) (hr : fRd a ≠ 0) :
    Calls Tryz.prog 106 #[.int .u32 a, .int .i64 (fF3 a), .int .i64 (fF7 a), .int .i64 (fRd a), .int .i64 (fRs1 a), .int .i64 (fRs2 a)] w fun e w' => e = .returned (.tuple #[I.v ⟨0, 0, 0, 0, 0, 0, 0, false⟩, .bool false]) ∧ Below w.heap.size w w' := by
  have f3b := fF3_b a
  go_enter Tryz.func106, Tryz.ntmps106
  go_wp2_with (first | (go_at_call 61; (with_reducible first | refine (g_cs a h0 h1 _).mono ?_ | refine (g_f5 a h0 h1 _).mono ?_); rintro e w1 ⟨rfl, rfl⟩))
  exact bodyPost_ret (v := .tuple #[I.v ⟨0, 0, 0, 0, 0, 0, 0, false⟩, .bool false]) (by simp [results, Tryz.results106, go_sem]) rfl ⟨rfl, below1 _⟩
theorem s_4 (a : Int) (h0 : 0 ≤ a) (h1 : a < 4294967296) (w : World) (n11 : a ≠ 115) (n12 : a ≠ 1048691) (n18 : a ≠ 270532723) (n19 : a ≠ 273678451) (hf : fF3 a = 4) :
    Calls Tryz.prog 106 #[.int .u32 a, .int .i64 (fF3 a), .int .i64 (fF7 a), .int .i64 (fRd a), .int .i64 (fRs1 a), .int .i64 (fRs2 a)] w fun e w' => e = .returned (.tuple #[I.v ⟨0, 0, 0, 0, 0, 0, 0, false⟩, .bool false]) ∧ Below w.heap.size w w' := by
  have f3b := fF3_b a
  go_enter Tryz.func106, Tryz.ntmps106
  go_wp2_with (first | (go_at_call 61; (with_reducible first | refine (g_cs a h0 h1 _).mono ?_ | refine (g_f5 a h0 h1 _).mono ?_); rintro e w1 ⟨rfl, rfl⟩))
  exact bodyPost_ret (v := .tuple #[I.v ⟨0, 0, 0, 0, 0, 0, 0, false⟩, .bool false]) (by simp [results, Tryz.results106, go_sem]) rfl ⟨rfl, below1 _⟩
theorem s_c1 (a : Int) (h0 : 0 ≤ a) (h1 : a < 4294967296) (w : World) (n11 : a ≠ 115) (n12 : a ≠ 1048691) (n18 : a ≠ 270532723) (n19 : a ≠ 273678451) (hf : fF3 a = 1) :
    Calls Tryz.prog 106 #[.int .u32 a, .int .i64 (fF3 a), .int .i64 (fF7 a), .int .i64 (fRd a), .int .i64 (fRs1 a), .int .i64 (fRs2 a)] w fun e w' => e = .returned (.tuple #[I.v ⟨13, 1, fRd a, fRs1 a, 0, fCs a, 0, false⟩, .bool true]) ∧ Below w.heap.size w w' := by
  have f3b := fF3_b a
  go_enter Tryz.func106, Tryz.ntmps106
  go_wp2_with (first | (go_at_call 61; (with_reducible first | refine (g_cs a h0 h1 _).mono ?_ | refine (g_f5 a h0 h1 _).mono ?_); rintro e w1 ⟨rfl, rfl⟩))
  exact bodyPost_ret (v := .tuple #[I.v ⟨13, 1, fRd a, fRs1 a, 0, fCs a, 0, false⟩, .bool true]) (by simp [results, Tryz.results106, go_sem]) rfl ⟨rfl, below1 _⟩
theorem s_c2 (a : Int) (h0 : 0 ≤ a) (h1 : a < 4294967296) (w : World) (n11 : a ≠ 115) (n12 : a ≠ 1048691) (n18 : a ≠ 270532723) (n19 : a ≠ 273678451) (hf : fF3 a = 2) :
    Calls Tryz.prog 106 #[.int .u32 a, .int .i64 (fF3 a), .int .i64 (fF7 a), .int .i64 (fRd a), .int .i64 (fRs1 a), .int .i64 (fRs2 a)] w fun e w' => e = .returned (.tuple #[I.v ⟨13, 2, fRd a, fRs1 a, 0, fCs a, 0, false⟩, .bool true]) ∧ Below w.heap.size w w' := by
  have f3b := fF3_b a
  go_enter Tryz.func106, Tryz.ntmps106
  go_wp2_with (first | (go_at_call 61; (with_reducible first | refine (g_cs a h0 h1 _).mono ?_ | refine (g_f5 a h0 h1 _).mono ?_); rintro e w1 ⟨rfl, rfl⟩))
  exact bodyPost_ret (v := .tuple #[I.v ⟨13, 2, fRd a, fRs1 a, 0, fCs a, 0, false⟩, .bool true]) (by simp [results, Tryz.results106, go_sem]) rfl ⟨rfl, below1 _⟩
theorem s_c3 (a : Int) (h0 : 0 ≤ a) (h1 : a < 4294967296) (w : World) (n11 : a ≠ 115) (n12 : a ≠ 1048691) (n18 : a ≠ 270532723) (n19 : a ≠ 273678451) (hf : fF3 a = 3) :
    Calls Tryz.prog 106 #[.int .u32 a, .int .i64 (fF3 a), .int .i64 (fF7 a), .int .i64 (fRd a), .int .i64 (fRs1 a), .int .i64 (fRs2 a)] w fun e w' => e = .returned (.tuple #[I.v ⟨13, 3, fRd a, fRs1 a, 0, fCs a, 0, false⟩, .bool true]) ∧ Below w.heap.size w w' := by
  have f3b := fF3_b a
  go_enter Tryz.func106, Tryz.ntmps106
  go_wp2_with (first | (go_at_call 61; (with_reducible first | refine (g_cs a h0 h1 _).mono ?_ | refine (g_f5 a h0 h1 _).mono ?_); rintro e w1 ⟨rfl, rfl⟩))
  exact bodyPost_ret (v := .tuple #[I.v ⟨13, 3, fRd a, fRs1 a, 0, fCs a, 0, false⟩, .bool true]) (by simp [results, Tryz.results106, go_sem]) rfl ⟨rfl, below1 _⟩
theorem s_c5 (a : Int) (h0 : 0 ≤ a) (h1 : a < 4294967296) (w : World) (n11 : a ≠ 115) (n12 : a ≠ 1048691) (n18 : a ≠ 270532723) (n19 : a ≠ 273678451) (hf : fF3 a = 5) :
    Calls Tryz.prog 106 #[.int .u32 a, .int .i64 (fF3 a), .int .i64 (fF7 a), .int .i64 (fRd a), .int .i64 (fRs1 a), .int .i64 (fRs2 a)] w fun e w' => e = .returned (.tuple #[I.v ⟨14, 1, fRd a, fRs1 a, 0, fCs a, 0, false⟩, .bool true]) ∧ Below w.heap.size w w' := by
  have f3b := fF3_b a
  go_enter Tryz.func106, Tryz.ntmps106
  go_wp2_with (first | (go_at_call 61; (with_reducible first | refine (g_cs a h0 h1 _).mono ?_ | refine (g_f5 a h0 h1 _).mono ?_); rintro e w1 ⟨rfl, rfl⟩))
  exact bodyPost_ret (v := .tuple #[I.v ⟨14, 1, fRd a, fRs1 a, 0, fCs a, 0, false⟩, .bool true]) (by simp [results, Tryz.results106, go_sem]) rfl ⟨rfl, below1 _⟩
theorem s_c6 (a : Int) (h0 : 0 ≤ a) (h1 : a < 4294967296) (w : World) (n11 : a ≠ 115) (n12 : a ≠ 1048691) (n18 : a ≠ 270532723) (n19 : a ≠ 273678451) (hf : fF3 a = 6) :
    Calls Tryz.prog 106 #[.int .u32 a, .int .i64 (fF3 a), .int .i64 (fF7 a), .int .i64 (fRd a), .int .i64 (fRs1 a), .int .i64 (fRs2 a)] w fun e w' => e = .returned (.tuple #[I.v ⟨14, 2, fRd a, fRs1 a, 0, fCs a, 0, false⟩, .bool true]) ∧ Below w.heap.size w w' := by
  have f3b := fF3_b a
  go_enter Tryz.func106, Tryz.ntmps106
  go_wp2_with (first | (go_at_call 61; (with_reducible first | refine (g_cs a h0 h1 _).mono ?_ | refine (g_f5 a h0 h1 _).mono ?_); rintro e w1 ⟨rfl, rfl⟩))
  exact bodyPost_ret (v := .tuple #[I.v ⟨14, 2, fRd a, fRs1 a, 0, fCs a, 0, false⟩, .bool true]) (by simp [results, Tryz.results106, go_sem]) rfl ⟨rfl, below1 _⟩
theorem s_c7 (a : Int) (h0 : 0 ≤ a) (h1 : a < 4294967296) (w : World) (n11 : a ≠ 115) (n12 : a ≠ 1048691) (n18 : a ≠ 270532723) (n19 : a ≠ 273678451) (hf : fF3 a = 7) :
    Calls Tryz.prog 106 #[.int .u32 a, .int .i64 (fF3 a), .int .i64 (fF7 a), .int .i64 (fRd a), .int .i64 (fRs1 a), .int .i64 (fRs2 a)] w fun e w' => e = .returned (.tuple #[I.v ⟨14, 3, fRd a, fRs1 a, 0, fCs a, 0, false⟩, .bool true]) ∧ Below w.heap.size w w' := by
  have f3b := fF3_b a
  go_enter Tryz.func106, Tryz.ntmps106
  go_wp2_with (first | (go_at_call 61; (with_reducible first | refine (g_cs a h0 h1 _).mono ?_ | refine (g_f5 a h0 h1 _).mono ?_); rintro e w1 ⟨rfl, rfl⟩))
  exact bodyPost_ret (v := .tuple #[I.v ⟨14, 3, fRd a, fRs1 a, 0, fCs a, 0, false⟩, .bool true]) (by simp [results, Tryz.results106, go_sem]) rfl ⟨rfl, below1 _⟩
theorem r_system (a : Int) (h0 : 0 ≤ a) (h1 : a < 4294967296) (w : World) :
    Calls Tryz.prog 106 #[.int .u32 a, .int .i64 (fF3 a), .int .i64 (fF7 a), .int .i64 (fRd a), .int .i64 (fRs1 a), .int .i64 (fRs2 a)] w fun e w' => e = .returned (.tuple #[(syF a).1.v, .bool (syF a).2]) ∧ Below w.heap.size w w' := by
  by_cases n11 : a = 115
  · rw [show syF a = (⟨11, 0, 0, 0, 0, 0, 0, false⟩, true) by subst n11; rfl]
    exact s_11 a h0 h1 w n11
  by_cases n12 : a = 1048691
  · rw [show syF a = (⟨12, 0, 0, 0, 0, 0, 0, false⟩, true) by subst n12; rfl]
    exact s_12 a h0 h1 w n12
  by_cases n18 : a = 270532723
  · rw [show syF a = (⟨18, 0, 0, 0, 0, 0, 0, false⟩, true) by subst n18; rfl]
    exact s_18 a h0 h1 w n18
  by_cases n19 : a = 273678451
  · rw [show syF a = (⟨19, 0, 0, 0, 0, 0, 0, false⟩, true) by subst n19; rfl]
    exact s_19 a h0 h1 w n19
  rcases eight8 (fF3_b a) with hf | hf | hf | hf | hf | hf | hf | hf
  · have sp : nSys a = nPriv a := by unfold nSys; rw [if_pos hf]
    have ic : iCsr a = 0 := if_pos hf
    by_cases h7 : fF7 a = 9
    · have rs : rSpace a = fRs2 a := if_pos ⟨hf, h7⟩
      by_cases hr : fRd a = 0
      · rw [show syF a = (⟨20, 0, 0, fRs1 a, fRs2 a, 0, 0, false⟩, true) by
          unfold syF; rw [sp, ic, rs, hr]; unfold nPriv; rw [if_neg n11, if_neg n12, if_neg n18, if_neg n19, if_pos ⟨h7, hr⟩]; rfl]
        exact s_20 a h0 h1 w n11 n12 n18 n19 hf h7 hr
      · rw [show syF a = (⟨0, 0, 0, 0, 0, 0, 0, false⟩, false) by
          unfold syF; rw [sp]; unfold nPriv; rw [if_neg n11, if_neg n12, if_neg n18, if_neg n19, if_neg (fun x => hr x.2)]; rfl]
        exact s_0b a h0 h1 w n11 n12 n18 n19 hf h7 hr
    · rw [show syF a = (⟨0, 0, 0, 0, 0, 0, 0, false⟩, false) by
        unfold syF; rw [sp]; unfold nPriv; rw [if_neg n11, if_neg n12, if_neg n18, if_neg n19, if_neg (fun x => h7 x.1)]; rfl]
      exact s_0a a h0 h1 w n11 n12 n18 n19 hf h7
  · have ic : iCsr a = fCs a := if_neg (by omega)
    have rs : rSpace a = 0 := if_neg (by omega)
    rw [show syF a = (⟨13, 1, fRd a, fRs1 a, 0, fCs a, 0, false⟩, true) by
      unfold syF nSys; rw [ic, rs, if_neg (by omega), if_pos (by omega), hf]; rfl]
    exact s_c1 a h0 h1 w n11 n12 n18 n19 hf
  · have ic : iCsr a = fCs a := if_neg (by omega)
    have rs : rSpace a = 0 := if_neg (by omega)
    rw [show syF a = (⟨13, 2, fRd a, fRs1 a, 0, fCs a, 0, false⟩, true) by
      unfold syF nSys; rw [ic, rs, if_neg (by omega), if_pos (by omega), hf]; rfl]
    exact s_c2 a h0 h1 w n11 n12 n18 n19 hf
  · have ic : iCsr a = fCs a := if_neg (by omega)
    have rs : rSpace a = 0 := if_neg (by omega)
    rw [show syF a = (⟨13, 3, fRd a, fRs1 a, 0, fCs a, 0, false⟩, true) by
      unfold syF nSys; rw [ic, rs, if_neg (by omega), if_pos (by omega), hf]; rfl]
    exact s_c3 a h0 h1 w n11 n12 n18 n19 hf
  · rw [show syF a = (⟨0, 0, 0, 0, 0, 0, 0, false⟩, false) by
      unfold syF nSys; rw [if_neg (by omega), if_neg (by omega), if_neg (by omega)]; rfl]
    exact s_4 a h0 h1 w n11 n12 n18 n19 hf
  · have ic : iCsr a = fCs a := if_neg (by omega)
    have rs : rSpace a = 0 := if_neg (by omega)
    rw [show syF a = (⟨14, 1, fRd a, fRs1 a, 0, fCs a, 0, false⟩, true) by
      unfold syF nSys; rw [ic, rs, if_neg (by omega), if_neg (by omega), if_pos (by omega), hf]; rfl]
    exact s_c5 a h0 h1 w n11 n12 n18 n19 hf
  · have ic : iCsr a = fCs a := if_neg (by omega)
    have rs : rSpace a = 0 := if_neg (by omega)
    rw [show syF a = (⟨14, 2, fRd a, fRs1 a, 0, fCs a, 0, false⟩, true) by
      unfold syF nSys; rw [ic, rs, if_neg (by omega), if_neg (by omega), if_pos (by omega), hf]; rfl]
    exact s_c6 a h0 h1 w n11 n12 n18 n19 hf
  · have ic : iCsr a = fCs a := if_neg (by omega)
    have rs : rSpace a = 0 := if_neg (by omega)
    rw [show syF a = (⟨14, 3, fRd a, fRs1 a, 0, fCs a, 0, false⟩, true) by
      unfold syF nSys; rw [ic, rs, if_neg (by omega), if_neg (by omega), if_pos (by omega), hf]; rfl]
    exact s_c7 a h0 h1 w n11 n12 n18 n19 hf
theorem a_n0 (a : Int) (h0 : 0 ≤ a) (h1 : a < 4294967296) (w : World) (hf : fF3 a = 0) :
    Calls Tryz.prog 107 #[.int .u32 a, .int .i64 (fF3 a), .int .i64 (fRd a), .int .i64 (fRs1 a), .int .i64 (fRs2 a)] w fun e w' => e = .returned (.tuple #[I.v ⟨0, 0, 0, 0, 0, 0, 0, false⟩, .bool false]) ∧ Below w.heap.size w w' := by
  go_enter Tryz.func107, Tryz.ntmps107
  go_wp2_with (first | (go_at_call 61; (with_reducible first | refine (g_cs a h0 h1 _).mono ?_ | refine (g_f5 a h0 h1 _).mono ?_); rintro e w1 ⟨rfl, rfl⟩) | (refine wpList_buildFlat rfl 117 3 _ _ rfl .i64 [1, 0, 4, 12, 8, 16, 20, 24, 28] (by kernel_rfl) (by kernel_rfl) (by kernel_rfl) rfl (by decide) (by decide) rfl ?_))
  exact bodyPost_ret (v := .tuple #[I.v ⟨0, 0, 0, 0, 0, 0, 0, false⟩, .bool false]) (by simp [results, Tryz.results107, go_sem]) rfl ⟨rfl, by first | exact below1 _ | exact below2 _ _⟩
theorem a_n1 (a : Int) (h0 : 0 ≤ a) (h1 : a < 4294967296) (w : World) (hf : fF3 a = 1) :
    Calls Tryz.prog 107 #[.int .u32 a, .int .i64 (fF3 a), .int .i64 (fRd a), .int .i64 (fRs1 a), .int .i64 (fRs2 a)] w fun e w' => e = .returned (.tuple #[I.v ⟨0, 0, 0, 0, 0, 0, 0, false⟩, .bool false]) ∧ Below w.heap.size w w' := by
  go_enter Tryz.func107, Tryz.ntmps107
  go_wp2_with (first | (go_at_call 61; (with_reducible first | refine (g_cs a h0 h1 _).mono ?_ | refine (g_f5 a h0 h1 _).mono ?_); rintro e w1 ⟨rfl, rfl⟩) | (refine wpList_buildFlat rfl 117 3 _ _ rfl .i64 [1, 0, 4, 12, 8, 16, 20, 24, 28] (by kernel_rfl) (by kernel_rfl) (by kernel_rfl) rfl (by decide) (by decide) rfl ?_))
  exact bodyPost_ret (v := .tuple #[I.v ⟨0, 0, 0, 0, 0, 0, 0, false⟩, .bool false]) (by simp [results, Tryz.results107, go_sem]) rfl ⟨rfl, by first | exact below1 _ | exact below2 _ _⟩
theorem a_n4 (a : Int) (h0 : 0 ≤ a) (h1 : a < 4294967296) (w : World) (hf : fF3 a = 4) :
    Calls Tryz.prog 107 #[.int .u32 a, .int .i64 (fF3 a), .int .i64 (fRd a), .int .i64 (fRs1 a), .int .i64 (fRs2 a)] w fun e w' => e = .returned (.tuple #[I.v ⟨0, 0, 0, 0, 0, 0, 0, false⟩, .bool false]) ∧ Below w.heap.size w w' := by
  go_enter Tryz.func107, Tryz.ntmps107
  go_wp2_with (first | (go_at_call 61; (with_reducible first | refine (g_cs a h0 h1 _).mono ?_ | refine (g_f5 a h0 h1 _).mono ?_); rintro e w1 ⟨rfl, rfl⟩) | (refine wpList_buildFlat rfl 117 3 _ _ rfl .i64 [1, 0, 4, 12, 8, 16, 20, 24, 28] (by kernel_rfl) (by kernel_rfl) (by kernel_rfl) rfl (by decide) (by decide) rfl ?_))
  exact bodyPost_ret (v := .tuple #[I.v ⟨0, 0, 0, 0, 0, 0, 0, false⟩, .bool false]) (by simp [results, Tryz.results107, go_sem]) rfl ⟨rfl, by first | exact below1 _ | exact below2 _ _⟩
theorem a_n5 (a : Int) (h0 : 0 ≤ a) (h1 : a < 4294967296) (w : World) (hf : fF3 a = 5) :
    Calls Tryz.prog 107 #[.int .u32 a, .int .i64 (fF3 a), .int .i64 (fRd a), .int .i64 (fRs1 a), .int .i64 (fRs2 a)] w fun e w' => e = .returned (.tuple #[I.v ⟨0, 0, 0, 0, 0, 0, 0, false⟩, .bool false]) ∧ Below w.heap.size w w' := by
  go_enter Tryz.func107, Tryz.ntmps107
  go_wp2_with (first | (go_at_call 61; (with_reducible first | refine (g_cs a h0 h1 _).mono ?_ | refine (g_f5 a h0 h1 _).mono ?_); rintro e w1 ⟨rfl, rfl⟩) | (refine wpList_buildFlat rfl 117 3 _ _ rfl .i64 [1, 0, 4, 12, 8, 16, 20, 24, 28] (by kernel_rfl) (by kernel_rfl) (by kernel_rfl) rfl (by decide) (by decide) rfl ?_))
  exact bodyPost_ret (v := .tuple #[I.v ⟨0, 0, 0, 0, 0, 0, 0, false⟩, .bool false]) (by simp [results, Tryz.results107, go_sem]) rfl ⟨rfl, by first | exact below1 _ | exact below2 _ _⟩
theorem a_n6 (a : Int) (h0 : 0 ≤ a) (h1 : a < 4294967296) (w : World) (hf : fF3 a = 6) :
    Calls Tryz.prog 107 #[.int .u32 a, .int .i64 (fF3 a), .int .i64 (fRd a), .int .i64 (fRs1 a), .int .i64 (fRs2 a)] w fun e w' => e = .returned (.tuple #[I.v ⟨0, 0, 0, 0, 0, 0, 0, false⟩, .bool false]) ∧ Below w.heap.size w w' := by
  go_enter Tryz.func107, Tryz.ntmps107
  go_wp2_with (first | (go_at_call 61; (with_reducible first | refine (g_cs a h0 h1 _).mono ?_ | refine (g_f5 a h0 h1 _).mono ?_); rintro e w1 ⟨rfl, rfl⟩) | (refine wpList_buildFlat rfl 117 3 _ _ rfl .i64 [1, 0, 4, 12, 8, 16, 20, 24, 28] (by kernel_rfl) (by kernel_rfl) (by kernel_rfl) rfl (by decide) (by decide) rfl ?_))
  exact bodyPost_ret (v := .tuple #[I.v ⟨0, 0, 0, 0, 0, 0, 0, false⟩, .bool false]) (by simp [results, Tryz.results107, go_sem]) rfl ⟨rfl, by first | exact below1 _ | exact below2 _ _⟩
theorem a_n7 (a : Int) (h0 : 0 ≤ a) (h1 : a < 4294967296) (w : World) (hf : fF3 a = 7) :
    Calls Tryz.prog 107 #[.int .u32 a, .int .i64 (fF3 a), .int .i64 (fRd a), .int .i64 (fRs1 a), .int .i64 (fRs2 a)] w fun e w' => e = .returned (.tuple #[I.v ⟨0, 0, 0, 0, 0, 0, 0, false⟩, .bool false]) ∧ Below w.heap.size w w' := by
  go_enter Tryz.func107, Tryz.ntmps107
  go_wp2_with (first | (go_at_call 61; (with_reducible first | refine (g_cs a h0 h1 _).mono ?_ | refine (g_f5 a h0 h1 _).mono ?_); rintro e w1 ⟨rfl, rfl⟩) | (refine wpList_buildFlat rfl 117 3 _ _ rfl .i64 [1, 0, 4, 12, 8, 16, 20, 24, 28] (by kernel_rfl) (by kernel_rfl) (by kernel_rfl) rfl (by decide) (by decide) rfl ?_))
  exact bodyPost_ret (v := .tuple #[I.v ⟨0, 0, 0, 0, 0, 0, 0, false⟩, .bool false]) (by simp [results, Tryz.results107, go_sem]) rfl ⟨rfl, by first | exact below1 _ | exact below2 _ _⟩
theorem a_lr4 (a : Int) (h0 : 0 ≤ a) (h1 : a < 4294967296) (w : World) (hf : fF3 a = 2) (h5 : fF5 a = 2) (hr : fRs2 a = 0) :
    Calls Tryz.prog 107 #[.int .u32 a, .int .i64 (fF3 a), .int .i64 (fRd a), .int .i64 (fRs1 a), .int .i64 (fRs2 a)] w fun e w' => e = .returned (.tuple #[I.v ⟨15, 0, fRd a, fRs1 a, 0, 0, 4, false⟩, .bool true]) ∧ Below w.heap.size w w' := by
  go_enter Tryz.func107, Tryz.ntmps107
  go_wp2_with (first | (go_at_call 61; (with_reducible first | refine (g_cs a h0 h1 _).mono ?_ | refine (g_f5 a h0 h1 _).mono ?_); rintro e w1 ⟨rfl, rfl⟩) | (refine wpList_buildFlat rfl 117 3 _ _ rfl .i64 [1, 0, 4, 12, 8, 16, 20, 24, 28] (by kernel_rfl) (by kernel_rfl) (by kernel_rfl) rfl (by decide) (by decide) rfl ?_))
  exact bodyPost_ret (v := .tuple #[I.v ⟨15, 0, fRd a, fRs1 a, 0, 0, 4, false⟩, .bool true]) (by simp [results, Tryz.results107, go_sem]) rfl ⟨rfl, by first | exact below1 _ | exact below2 _ _⟩
theorem a_sc4 (a : Int) (h0 : 0 ≤ a) (h1 : a < 4294967296) (w : World) (hf : fF3 a = 2) (h5 : fF5 a = 3) :
    Calls Tryz.prog 107 #[.int .u32 a, .int .i64 (fF3 a), .int .i64 (fRd a), .int .i64 (fRs1 a), .int .i64 (fRs2 a)] w fun e w' => e = .returned (.tuple #[I.v ⟨16, 0, fRd a, fRs1 a, fRs2 a, 0, 4, false⟩, .bool true]) ∧ Below w.heap.size w w' := by
  go_enter Tryz.func107, Tryz.ntmps107
  go_wp2_with (first | (go_at_call 61; (with_reducible first | refine (g_cs a h0 h1 _).mono ?_ | refine (g_f5 a h0 h1 _).mono ?_); rintro e w1 ⟨rfl, rfl⟩) | (refine wpList_buildFlat rfl 117 3 _ _ rfl .i64 [1, 0, 4, 12, 8, 16, 20, 24, 28] (by kernel_rfl) (by kernel_rfl) (by kernel_rfl) rfl (by decide) (by decide) rfl ?_))
  exact bodyPost_ret (v := .tuple #[I.v ⟨16, 0, fRd a, fRs1 a, fRs2 a, 0, 4, false⟩, .bool true]) (by simp [results, Tryz.results107, go_sem]) rfl ⟨rfl, by first | exact below1 _ | exact below2 _ _⟩
set_option maxHeartbeats 2000000 in
theorem a_l4 (a : Int) (h0 : 0 ≤ a) (h1 : a < 4294967296) (w : World) (hf : fF3 a = 2) (n2 : fF5 a ≠ 2) (n3 : fF5 a ≠ 3)
    (hh : ∀ k : Nat, k < 9 → [1, 0, 4, 12, 8, 16, 20, 24, 28].getD k 0 = fF5 a → Hid (atF a = (⟨17, k + 1, fRd a, fRs1 a, fRs2 a, 0, 4, false⟩, true)))
    (hn : (∀ k : Nat, k < 9 → [1, 0, 4, 12, 8, 16, 20, 24, 28].getD k 0 ≠ fF5 a) → Hid (atF a = (⟨0, 0, 0, 0, 0, 0, 0, false⟩, false))) :
    Calls Tryz.prog 107 #[.int .u32 a, .int .i64 (fF3 a), .int .i64 (fRd a), .int .i64 (fRs1 a), .int .i64 (fRs2 a)] w fun e w' => e = .returned (.tuple #[(atF a).1.v, .bool (atF a).2]) ∧ Below w.heap.size w w' := by
  have HH := hid hh
  have HN := hid hn
  clear hh hn
  go_enter Tryz.func107, Tryz.ntmps107
  go_wp2_with (first | (go_at_call 61; (with_reducible first | refine (g_cs a h0 h1 _).mono ?_ | refine (g_f5 a h0 h1 _).mono ?_); rintro e w1 ⟨rfl, rfl⟩) | (refine wpList_buildFlat rfl 117 3 _ _ rfl .i64 [1, 0, 4, 12, 8, 16, 20, 24, 28] (by kernel_rfl) (by kernel_rfl) (by kernel_rfl) rfl (by decide) (by decide) rfl ?_))
  go_loop [15] (fun t => ∃ k : Nat, k ≤ 9 ∧ t = .int .i64 k ∧ Hid (∀ j : Nat, j < k → [1, 0, 4, 12, 8, 16, 20, 24, 28].getD j 0 ≠ fF5 a)) (fun t => 9 - (intOf t).toNat)
  case atStart => exact ⟨0, by omega, rfl, hid (fun j hj => absurd hj (by omega))⟩
  case round =>
    obtain ⟨k, hk, rfl, HJ⟩ := hrel
    rcases (by omega : k = 0 ∨ k = 1 ∨ k = 2 ∨ k = 3 ∨ k = 4 ∨ k = 5 ∨ k = 6 ∨ k = 7 ∨ k = 8 ∨ k = 9) with rfl | rfl | rfl | rfl | rfl | rfl | rfl | rfl | rfl | rfl
    · by_cases q : fF5 a = 1
      · have e := (HH.out 0 (by omega) (by rw [q]; rfl)).out
        go_wp2
        exact bodyPost_ret (v := .tuple #[I.v ⟨17, 1, fRd a, fRs1 a, fRs2 a, 0, 4, false⟩, .bool true]) (by simp [results, Tryz.results107, go_sem]) rfl ⟨by first | rfl | (rw [e]; rfl), below2 _ _⟩
      · go_wp2
        go_round
        case rel => exact ⟨1, by omega, by go_num, hid (fun j hj => by rcases Nat.lt_succ_iff_lt_or_eq.1 hj with h | h; exact HJ.out j h; subst h; exact fun h => q h.symm)⟩
        case measure => simp [intOf]
    · by_cases q : fF5 a = 0
      · have e := (HH.out 1 (by omega) (by rw [q]; rfl)).out
        go_wp2
        exact bodyPost_ret (v := .tuple #[I.v ⟨17, 2, fRd a, fRs1 a, fRs2 a, 0, 4, false⟩, .bool true]) (by simp [results, Tryz.results107, go_sem]) rfl ⟨by first | rfl | (rw [e]; rfl), below2 _ _⟩
      · go_wp2
        go_round
        case rel => exact ⟨2, by omega, by go_num, hid (fun j hj => by rcases Nat.lt_succ_iff_lt_or_eq.1 hj with h | h; exact HJ.out j h; subst h; exact fun h => q h.symm)⟩
        case measure => simp [intOf]
    · by_cases q : fF5 a = 4
      · have e := (HH.out 2 (by omega) (by rw [q]; rfl)).out
        go_wp2
        exact bodyPost_ret (v := .tuple #[I.v ⟨17, 3, fRd a, fRs1 a, fRs2 a, 0, 4, false⟩, .bool true]) (by simp [results, Tryz.results107, go_sem]) rfl ⟨by first | rfl | (rw [e]; rfl), below2 _ _⟩
      · go_wp2
        go_round
        case rel => exact ⟨3, by omega, by go_num, hid (fun j hj => by rcases Nat.lt_succ_iff_lt_or_eq.1 hj with h | h; exact HJ.out j h; subst h; exact fun h => q h.symm)⟩
        case measure => simp [intOf]
    · by_cases q : fF5 a = 12
      · have e := (HH.out 3 (by omega) (by rw [q]; rfl)).out
        go_wp2
        exact bodyPost_ret (v := .tuple #[I.v ⟨17, 4, fRd a, fRs1 a, fRs2 a, 0, 4, false⟩, .bool true]) (by simp [results, Tryz.results107, go_sem]) rfl ⟨by first | rfl | (rw [e]; rfl), below2 _ _⟩
      · go_wp2
        go_round
        case rel => exact ⟨4, by omega, by go_num, hid (fun j hj => by rcases Nat.lt_succ_iff_lt_or_eq.1 hj with h | h; exact HJ.out j h; subst h; exact fun h => q h.symm)⟩
        case measure => simp [intOf]
    · by_cases q : fF5 a = 8
      · have e := (HH.out 4 (by omega) (by rw [q]; rfl)).out
        go_wp2
        exact bodyPost_ret (v := .tuple #[I.v ⟨17, 5, fRd a, fRs1 a, fRs2 a, 0, 4, false⟩, .bool true]) (by simp [results, Tryz.results107, go_sem]) rfl ⟨by first | rfl | (rw [e]; rfl), below2 _ _⟩
      · go_wp2
        go_round
        case rel => exact ⟨5, by omega, by go_num, hid (fun j hj => by rcases Nat.lt_succ_iff_lt_or_eq.1 hj with h | h; exact HJ.out j h; subst h; exact fun h => q h.symm)⟩
        case measure => simp [intOf]
    · by_cases q : fF5 a = 16
      · have e := (HH.out 5 (by omega) (by rw [q]; rfl)).out
        go_wp2
        exact bodyPost_ret (v := .tuple #[I.v ⟨17, 6, fRd a, fRs1 a, fRs2 a, 0, 4, false⟩, .bool true]) (by simp [results, Tryz.results107, go_sem]) rfl ⟨by first | rfl | (rw [e]; rfl), below2 _ _⟩
      · go_wp2
        go_round
        case rel => exact ⟨6, by omega, by go_num, hid (fun j hj => by rcases Nat.lt_succ_iff_lt_or_eq.1 hj with h | h; exact HJ.out j h; subst h; exact fun h => q h.symm)⟩
        case measure => simp [intOf]
    · by_cases q : fF5 a = 20
      · have e := (HH.out 6 (by omega) (by rw [q]; rfl)).out
        go_wp2
        exact bodyPost_ret (v := .tuple #[I.v ⟨17, 7, fRd a, fRs1 a, fRs2 a, 0, 4, false⟩, .bool true]) (by simp [results, Tryz.results107, go_sem]) rfl ⟨by first | rfl | (rw [e]; rfl), below2 _ _⟩
      · go_wp2
        go_round
        case rel => exact ⟨7, by omega, by go_num, hid (fun j hj => by rcases Nat.lt_succ_iff_lt_or_eq.1 hj with h | h; exact HJ.out j h; subst h; exact fun h => q h.symm)⟩
        case measure => simp [intOf]
    · by_cases q : fF5 a = 24
      · have e := (HH.out 7 (by omega) (by rw [q]; rfl)).out
        go_wp2
        exact bodyPost_ret (v := .tuple #[I.v ⟨17, 8, fRd a, fRs1 a, fRs2 a, 0, 4, false⟩, .bool true]) (by simp [results, Tryz.results107, go_sem]) rfl ⟨by first | rfl | (rw [e]; rfl), below2 _ _⟩
      · go_wp2
        go_round
        case rel => exact ⟨8, by omega, by go_num, hid (fun j hj => by rcases Nat.lt_succ_iff_lt_or_eq.1 hj with h | h; exact HJ.out j h; subst h; exact fun h => q h.symm)⟩
        case measure => simp [intOf]
    · by_cases q : fF5 a = 28
      · have e := (HH.out 8 (by omega) (by rw [q]; rfl)).out
        go_wp2
        exact bodyPost_ret (v := .tuple #[I.v ⟨17, 9, fRd a, fRs1 a, fRs2 a, 0, 4, false⟩, .bool true]) (by simp [results, Tryz.results107, go_sem]) rfl ⟨by first | rfl | (rw [e]; rfl), below2 _ _⟩
      · go_wp2
        go_round
        case rel => exact ⟨9, by omega, by go_num, hid (fun j hj => by rcases Nat.lt_succ_iff_lt_or_eq.1 hj with h | h; exact HJ.out j h; subst h; exact fun h => q h.symm)⟩
        case measure => simp [intOf]
    · have e := (HN.out HJ.out).out
      go_wp2
      exact bodyPost_ret (v := .tuple #[I.v ⟨0, 0, 0, 0, 0, 0, 0, false⟩, .bool false]) (by simp [results, Tryz.results107, go_sem]) rfl ⟨by first | rfl | (rw [e]; rfl), below2 _ _⟩
set_option maxHeartbeats 2000000 in
theorem a_m4 (a : Int) (h0 : 0 ≤ a) (h1 : a < 4294967296) (w : World) (hf : fF3 a = 2) (h5 : fF5 a = 2) (hr : fRs2 a ≠ 0)
    (hh : ∀ k : Nat, k < 9 → [1, 0, 4, 12, 8, 16, 20, 24, 28].getD k 0 = fF5 a → Hid (atF a = (⟨17, k + 1, fRd a, fRs1 a, fRs2 a, 0, 4, false⟩, true)))
    (hn : (∀ k : Nat, k < 9 → [1, 0, 4, 12, 8, 16, 20, 24, 28].getD k 0 ≠ fF5 a) → Hid (atF a = (⟨0, 0, 0, 0, 0, 0, 0, false⟩, false))) :
    Calls Tryz.prog 107 #[.int .u32 a, .int .i64 (fF3 a), .int .i64 (fRd a), .int .i64 (fRs1 a), .int .i64 (fRs2 a)] w fun e w' => e = .returned (.tuple #[(atF a).1.v, .bool (atF a).2]) ∧ Below w.heap.size w w' := by
  have HH := hid hh
  have HN := hid hn
  clear hh hn
  go_enter Tryz.func107, Tryz.ntmps107
  go_wp2_with (first | (go_at_call 61; (with_reducible first | refine (g_cs a h0 h1 _).mono ?_ | refine (g_f5 a h0 h1 _).mono ?_); rintro e w1 ⟨rfl, rfl⟩) | (refine wpList_buildFlat rfl 117 3 _ _ rfl .i64 [1, 0, 4, 12, 8, 16, 20, 24, 28] (by kernel_rfl) (by kernel_rfl) (by kernel_rfl) rfl (by decide) (by decide) rfl ?_))
  go_loop [15] (fun t => ∃ k : Nat, k ≤ 9 ∧ t = .int .i64 k ∧ Hid (∀ j : Nat, j < k → [1, 0, 4, 12, 8, 16, 20, 24, 28].getD j 0 ≠ fF5 a)) (fun t => 9 - (intOf t).toNat)
  case atStart => exact ⟨0, by omega, rfl, hid (fun j hj => absurd hj (by omega))⟩
  case round =>
    obtain ⟨k, hk, rfl, HJ⟩ := hrel
    rcases (by omega : k = 0 ∨ k = 1 ∨ k = 2 ∨ k = 3 ∨ k = 4 ∨ k = 5 ∨ k = 6 ∨ k = 7 ∨ k = 8 ∨ k = 9) with rfl | rfl | rfl | rfl | rfl | rfl | rfl | rfl | rfl | rfl
    · go_wp2
      go_round
      case rel => exact ⟨1, by omega, by go_num, hid (fun j hj => by rcases Nat.lt_succ_iff_lt_or_eq.1 hj with h | h; exact HJ.out j h; subst h; rw [h5]; decide)⟩
      case measure => simp [intOf]
    · go_wp2
      go_round
      case rel => exact ⟨2, by omega, by go_num, hid (fun j hj => by rcases Nat.lt_succ_iff_lt_or_eq.1 hj with h | h; exact HJ.out j h; subst h; rw [h5]; decide)⟩
      case measure => simp [intOf]
    · go_wp2
      go_round
      case rel => exact ⟨3, by omega, by go_num, hid (fun j hj => by rcases Nat.lt_succ_iff_lt_or_eq.1 hj with h | h; exact HJ.out j h; subst h; rw [h5]; decide)⟩
      case measure => simp [intOf]
    · go_wp2
      go_round
      case rel => exact ⟨4, by omega, by go_num, hid (fun j hj => by rcases Nat.lt_succ_iff_lt_or_eq.1 hj with h | h; exact HJ.out j h; subst h; rw [h5]; decide)⟩
      case measure => simp [intOf]
    · go_wp2
      go_round
      case rel => exact ⟨5, by omega, by go_num, hid (fun j hj => by rcases Nat.lt_succ_iff_lt_or_eq.1 hj with h | h; exact HJ.out j h; subst h; rw [h5]; decide)⟩
      case measure => simp [intOf]
    · go_wp2
      go_round
      case rel => exact ⟨6, by omega, by go_num, hid (fun j hj => by rcases Nat.lt_succ_iff_lt_or_eq.1 hj with h | h; exact HJ.out j h; subst h; rw [h5]; decide)⟩
      case measure => simp [intOf]
    · go_wp2
      go_round
      case rel => exact ⟨7, by omega, by go_num, hid (fun j hj => by rcases Nat.lt_succ_iff_lt_or_eq.1 hj with h | h; exact HJ.out j h; subst h; rw [h5]; decide)⟩
      case measure => simp [intOf]
    · go_wp2
      go_round
      case rel => exact ⟨8, by omega, by go_num, hid (fun j hj => by rcases Nat.lt_succ_iff_lt_or_eq.1 hj with h | h; exact HJ.out j h; subst h; rw [h5]; decide)⟩
      case measure => simp [intOf]
    · go_wp2
      go_round
      case rel => exact ⟨9, by omega, by go_num, hid (fun j hj => by rcases Nat.lt_succ_iff_lt_or_eq.1 hj with h | h; exact HJ.out j h; subst h; rw [h5]; decide)⟩
      case measure => simp [intOf]
    · have e := (HN.out HJ.out).out
      go_wp2
      exact bodyPost_ret (v := .tuple #[I.v ⟨0, 0, 0, 0, 0, 0, 0, false⟩, .bool false]) (by simp [results, Tryz.results107, go_sem]) rfl ⟨by first | rfl | (rw [e]; rfl), below2 _ _⟩
theorem a_lr8 (a : Int) (h0 : 0 ≤ a) (h1 : a < 4294967296) (w : World) (hf : fF3 a = 3) (h5 : fF5 a = 2) (hr : fRs2 a = 0) :
    Calls Tryz.prog 107 #[.int .u32 a, .int .i64 (fF3 a), .int .i64 (fRd a), .int .i64 (fRs1 a), .int .i64 (fRs2 a)] w fun e w' => e = .returned (.tuple #[I.v ⟨15, 0, fRd a, fRs1 a, 0, 0, 8, false⟩, .bool true]) ∧ Below w.heap.size w w' := by
  go_enter Tryz.func107, Tryz.ntmps107
  go_wp2_with (first | (go_at_call 61; (with_reducible first | refine (g_cs a h0 h1 _).mono ?_ | refine (g_f5 a h0 h1 _).mono ?_); rintro e w1 ⟨rfl, rfl⟩) | (refine wpList_buildFlat rfl 117 3 _ _ rfl .i64 [1, 0, 4, 12, 8, 16, 20, 24, 28] (by kernel_rfl) (by kernel_rfl) (by kernel_rfl) rfl (by decide) (by decide) rfl ?_))
  exact bodyPost_ret (v := .tuple #[I.v ⟨15, 0, fRd a, fRs1 a, 0, 0, 8, false⟩, .bool true]) (by simp [results, Tryz.results107, go_sem]) rfl ⟨rfl, by first | exact below1 _ | exact below2 _ _⟩
theorem a_sc8 (a : Int) (h0 : 0 ≤ a) (h1 : a < 4294967296) (w : World) (hf : fF3 a = 3) (h5 : fF5 a = 3) :
    Calls Tryz.prog 107 #[.int .u32 a, .int .i64 (fF3 a), .int .i64 (fRd a), .int .i64 (fRs1 a), .int .i64 (fRs2 a)] w fun e w' => e = .returned (.tuple #[I.v ⟨16, 0, fRd a, fRs1 a, fRs2 a, 0, 8, false⟩, .bool true]) ∧ Below w.heap.size w w' := by
  go_enter Tryz.func107, Tryz.ntmps107
  go_wp2_with (first | (go_at_call 61; (with_reducible first | refine (g_cs a h0 h1 _).mono ?_ | refine (g_f5 a h0 h1 _).mono ?_); rintro e w1 ⟨rfl, rfl⟩) | (refine wpList_buildFlat rfl 117 3 _ _ rfl .i64 [1, 0, 4, 12, 8, 16, 20, 24, 28] (by kernel_rfl) (by kernel_rfl) (by kernel_rfl) rfl (by decide) (by decide) rfl ?_))
  exact bodyPost_ret (v := .tuple #[I.v ⟨16, 0, fRd a, fRs1 a, fRs2 a, 0, 8, false⟩, .bool true]) (by simp [results, Tryz.results107, go_sem]) rfl ⟨rfl, by first | exact below1 _ | exact below2 _ _⟩
set_option maxHeartbeats 2000000 in
theorem a_l8 (a : Int) (h0 : 0 ≤ a) (h1 : a < 4294967296) (w : World) (hf : fF3 a = 3) (n2 : fF5 a ≠ 2) (n3 : fF5 a ≠ 3)
    (hh : ∀ k : Nat, k < 9 → [1, 0, 4, 12, 8, 16, 20, 24, 28].getD k 0 = fF5 a → Hid (atF a = (⟨17, k + 1, fRd a, fRs1 a, fRs2 a, 0, 8, false⟩, true)))
    (hn : (∀ k : Nat, k < 9 → [1, 0, 4, 12, 8, 16, 20, 24, 28].getD k 0 ≠ fF5 a) → Hid (atF a = (⟨0, 0, 0, 0, 0, 0, 0, false⟩, false))) :
    Calls Tryz.prog 107 #[.int .u32 a, .int .i64 (fF3 a), .int .i64 (fRd a), .int .i64 (fRs1 a), .int .i64 (fRs2 a)] w fun e w' => e = .returned (.tuple #[(atF a).1.v, .bool (atF a).2]) ∧ Below w.heap.size w w' := by
  have HH := hid hh
  have HN := hid hn
  clear hh hn
  go_enter Tryz.func107, Tryz.ntmps107
  go_wp2_with (first | (go_at_call 61; (with_reducible first | refine (g_cs a h0 h1 _).mono ?_ | refine (g_f5 a h0 h1 _).mono ?_); rintro e w1 ⟨rfl, rfl⟩) | (refine wpList_buildFlat rfl 117 3 _ _ rfl .i64 [1, 0, 4, 12, 8, 16, 20, 24, 28] (by kernel_rfl) (by kernel_rfl) (by kernel_rfl) rfl (by decide) (by decide) rfl ?_))
  go_loop [15] (fun t => ∃ k : Nat, k ≤ 9 ∧ t = .int .i64 k ∧ Hid (∀ j : Nat, j < k → [1, 0, 4, 12, 8, 16, 20, 24, 28].getD j 0 ≠ fF5 a)) (fun t => 9 - (intOf t).toNat)
  case atStart => exact ⟨0, by omega, rfl, hid (fun j hj => absurd hj (by omega))⟩
  case round =>
    obtain ⟨k, hk, rfl, HJ⟩ := hrel
    rcases (by omega : k = 0 ∨ k = 1 ∨ k = 2 ∨ k = 3 ∨ k = 4 ∨ k = 5 ∨ k = 6 ∨ k = 7 ∨ k = 8 ∨ k = 9) with rfl | rfl | rfl | rfl | rfl | rfl | rfl | rfl | rfl | rfl
    · by_cases q : fF5 a = 1
      · have e := (HH.out 0 (by omega) (by rw [q]; rfl)).out
        go_wp2
        exact bodyPost_ret (v := .tuple #[I.v ⟨17, 1, fRd a, fRs1 a, fRs2 a, 0, 8, false⟩, .bool true]) (by simp [results, Tryz.results107, go_sem]) rfl ⟨by first | rfl | (rw [e]; rfl), below2 _ _⟩
      · go_wp2
        go_round
        case rel => exact ⟨1, by omega, by go_num, hid (fun j hj => by rcases Nat.lt_succ_iff_lt_or_eq.1 hj with h | h; exact HJ.out j h; subst h; exact fun h => q h.symm)⟩
        case measure => simp [intOf]
    · by_cases q : fF5 a = 0
      · have e := (HH.out 1 (by omega) (by rw [q]; rfl)).out
        go_wp2
        exact bodyPost_ret (v := .tuple #[I.v ⟨17, 2, fRd a, fRs1 a, fRs2 a, 0, 8, false⟩, .bool true]) (by simp [results, Tryz.results107, go_sem]) rfl ⟨by first | rfl | (rw [e]; rfl), below2 _ _⟩
      · go_wp2
        go_round
        case rel => exact ⟨2, by omega, by go_num, hid (fun j hj => by rcases Nat.lt_succ_iff_lt_or_eq.1 hj with h | h; exact HJ.out j h; subst h; exact fun h => q h.symm)⟩
        case measure => simp [intOf]
    · by_cases q : fF5 a = 4
      · have e := (HH.out 2 (by omega) (by rw [q]; rfl)).out
        go_wp2
        exact bodyPost_ret (v := .tuple #[I.v ⟨17, 3, fRd a, fRs1 a, fRs2 a, 0, 8, false⟩, .bool true]) (by simp [results, Tryz.results107, go_sem]) rfl ⟨by first | rfl | (rw [e]; rfl), below2 _ _⟩
      · go_wp2
        go_round
        case rel => exact ⟨3, by omega, by go_num, hid (fun j hj => by rcases Nat.lt_succ_iff_lt_or_eq.1 hj with h | h; exact HJ.out j h; subst h; exact fun h => q h.symm)⟩
        case measure => simp [intOf]
    · by_cases q : fF5 a = 12
      · have e := (HH.out 3 (by omega) (by rw [q]; rfl)).out
        go_wp2
        exact bodyPost_ret (v := .tuple #[I.v ⟨17, 4, fRd a, fRs1 a, fRs2 a, 0, 8, false⟩, .bool true]) (by simp [results, Tryz.results107, go_sem]) rfl ⟨by first | rfl | (rw [e]; rfl), below2 _ _⟩
      · go_wp2
        go_round
        case rel => exact ⟨4, by omega, by go_num, hid (fun j hj => by rcases Nat.lt_succ_iff_lt_or_eq.1 hj with h | h; exact HJ.out j h; subst h; exact fun h => q h.symm)⟩
        case measure => simp [intOf]
    · by_cases q : fF5 a = 8
      · have e := (HH.out 4 (by omega) (by rw [q]; rfl)).out
        go_wp2
        exact bodyPost_ret (v := .tuple #[I.v ⟨17, 5, fRd a, fRs1 a, fRs2 a, 0, 8, false⟩, .bool true]) (by simp [results, Tryz.results107, go_sem]) rfl ⟨by first | rfl | (rw [e]; rfl), below2 _ _⟩
      · go_wp2
        go_round
        case rel => exact ⟨5, by omega, by go_num, hid (fun j hj => by rcases Nat.lt_succ_iff_lt_or_eq.1 hj with h | h; exact HJ.out j h; subst h; exact fun h => q h.symm)⟩
        case measure => simp [intOf]
    · by_cases q : fF5 a = 16
      · have e := (HH.out 5 (by omega) (by rw [q]; rfl)).out
        go_wp2
        exact bodyPost_ret (v := .tuple #[I.v ⟨17, 6, fRd a, fRs1 a, fRs2 a, 0, 8, false⟩, .bool true]) (by simp [results, Tryz.results107, go_sem]) rfl ⟨by first | rfl | (rw [e]; rfl), below2 _ _⟩
      · go_wp2
        go_round
        case rel => exact ⟨6, by omega, by go_num, hid (fun j hj => by rcases Nat.lt_succ_iff_lt_or_eq.1 hj with h | h; exact HJ.out j h; subst h; exact fun h => q h.symm)⟩
        case measure => simp [intOf]
    · by_cases q : fF5 a = 20
      · have e := (HH.out 6 (by omega) (by rw [q]; rfl)).out
        go_wp2
        exact bodyPost_ret (v := .tuple #[I.v ⟨17, 7, fRd a, fRs1 a, fRs2 a, 0, 8, false⟩, .bool true]) (by simp [results, Tryz.results107, go_sem]) rfl ⟨by first | rfl | (rw [e]; rfl), below2 _ _⟩
      · go_wp2
        go_round
        case rel => exact ⟨7, by omega, by go_num, hid (fun j hj => by rcases Nat.lt_succ_iff_lt_or_eq.1 hj with h | h; exact HJ.out j h; subst h; exact fun h => q h.symm)⟩
        case measure => simp [intOf]
    · by_cases q : fF5 a = 24
      · have e := (HH.out 7 (by omega) (by rw [q]; rfl)).out
        go_wp2
        exact bodyPost_ret (v := .tuple #[I.v ⟨17, 8, fRd a, fRs1 a, fRs2 a, 0, 8, false⟩, .bool true]) (by simp [results, Tryz.results107, go_sem]) rfl ⟨by first | rfl | (rw [e]; rfl), below2 _ _⟩
      · go_wp2
        go_round
        case rel => exact ⟨8, by omega, by go_num, hid (fun j hj => by rcases Nat.lt_succ_iff_lt_or_eq.1 hj with h | h; exact HJ.out j h; subst h; exact fun h => q h.symm)⟩
        case measure => simp [intOf]
    · by_cases q : fF5 a = 28
      · have e := (HH.out 8 (by omega) (by rw [q]; rfl)).out
        go_wp2
        exact bodyPost_ret (v := .tuple #[I.v ⟨17, 9, fRd a, fRs1 a, fRs2 a, 0, 8, false⟩, .bool true]) (by simp [results, Tryz.results107, go_sem]) rfl ⟨by first | rfl | (rw [e]; rfl), below2 _ _⟩
      · go_wp2
        go_round
        case rel => exact ⟨9, by omega, by go_num, hid (fun j hj => by rcases Nat.lt_succ_iff_lt_or_eq.1 hj with h | h; exact HJ.out j h; subst h; exact fun h => q h.symm)⟩
        case measure => simp [intOf]
    · have e := (HN.out HJ.out).out
      go_wp2
      exact bodyPost_ret (v := .tuple #[I.v ⟨0, 0, 0, 0, 0, 0, 0, false⟩, .bool false]) (by simp [results, Tryz.results107, go_sem]) rfl ⟨by first | rfl | (rw [e]; rfl), below2 _ _⟩
set_option maxHeartbeats 2000000 in
theorem a_m8 (a : Int) (h0 : 0 ≤ a) (h1 : a < 4294967296) (w : World) (hf : fF3 a = 3) (h5 : fF5 a = 2) (hr : fRs2 a ≠ 0)
    (hh : ∀ k : Nat, k < 9 → [1, 0, 4, 12, 8, 16, 20, 24, 28].getD k 0 = fF5 a → Hid (atF a = (⟨17, k + 1, fRd a, fRs1 a, fRs2 a, 0, 8, false⟩, true)))
    (hn : (∀ k : Nat, k < 9 → [1, 0, 4, 12, 8, 16, 20, 24, 28].getD k 0 ≠ fF5 a) → Hid (atF a = (⟨0, 0, 0, 0, 0, 0, 0, false⟩, false))) :
    Calls Tryz.prog 107 #[.int .u32 a, .int .i64 (fF3 a), .int .i64 (fRd a), .int .i64 (fRs1 a), .int .i64 (fRs2 a)] w fun e w' => e = .returned (.tuple #[(atF a).1.v, .bool (atF a).2]) ∧ Below w.heap.size w w' := by
  have HH := hid hh
  have HN := hid hn
  clear hh hn
  go_enter Tryz.func107, Tryz.ntmps107
  go_wp2_with (first | (go_at_call 61; (with_reducible first | refine (g_cs a h0 h1 _).mono ?_ | refine (g_f5 a h0 h1 _).mono ?_); rintro e w1 ⟨rfl, rfl⟩) | (refine wpList_buildFlat rfl 117 3 _ _ rfl .i64 [1, 0, 4, 12, 8, 16, 20, 24, 28] (by kernel_rfl) (by kernel_rfl) (by kernel_rfl) rfl (by decide) (by decide) rfl ?_))
  go_loop [15] (fun t => ∃ k : Nat, k ≤ 9 ∧ t = .int .i64 k ∧ Hid (∀ j : Nat, j < k → [1, 0, 4, 12, 8, 16, 20, 24, 28].getD j 0 ≠ fF5 a)) (fun t => 9 - (intOf t).toNat)
  case atStart => exact ⟨0, by omega, rfl, hid (fun j hj => absurd hj (by omega))⟩
  case round =>
    obtain ⟨k, hk, rfl, HJ⟩ := hrel
    rcases (by omega : k = 0 ∨ k = 1 ∨ k = 2 ∨ k = 3 ∨ k = 4 ∨ k = 5 ∨ k = 6 ∨ k = 7 ∨ k = 8 ∨ k = 9) with rfl | rfl | rfl | rfl | rfl | rfl | rfl | rfl | rfl | rfl
    · go_wp2
      go_round
      case rel => exact ⟨1, by omega, by go_num, hid (fun j hj => by rcases Nat.lt_succ_iff_lt_or_eq.1 hj with h | h; exact HJ.out j h; subst h; rw [h5]; decide)⟩
      case measure => simp [intOf]
    · go_wp2
      go_round
      case rel => exact ⟨2, by omega, by go_num, hid (fun j hj => by rcases Nat.lt_succ_iff_lt_or_eq.1 hj with h | h; exact HJ.out j h; subst h; rw [h5]; decide)⟩
      case measure => simp [intOf]
    · go_wp2
      go_round
      case rel => exact ⟨3, by omega, by go_num, hid (fun j hj => by rcases Nat.lt_succ_iff_lt_or_eq.1 hj with h | h; exact HJ.out j h; subst h; rw [h5]; decide)⟩
      case measure => simp [intOf]
    · go_wp2
      go_round
      case rel => exact ⟨4, by omega, by go_num, hid (fun j hj => by rcases Nat.lt_succ_iff_lt_or_eq.1 hj with h | h; exact HJ.out j h; subst h; rw [h5]; decide)⟩
      case measure => simp [intOf]
    · go_wp2
      go_round
      case rel => exact ⟨5, by omega, by go_num, hid (fun j hj => by rcases Nat.lt_succ_iff_lt_or_eq.1 hj with h | h; exact HJ.out j h; subst h; rw [h5]; decide)⟩
      case measure => simp [intOf]
    · go_wp2
      go_round
      case rel => exact ⟨6, by omega, by go_num, hid (fun j hj => by rcases Nat.lt_succ_iff_lt_or_eq.1 hj with h | h; exact HJ.out j h; subst h; rw [h5]; decide)⟩
      case measure => simp [intOf]
    · go_wp2
      go_round
      case rel => exact ⟨7, by omega, by go_num, hid (fun j hj => by rcases Nat.lt_succ_iff_lt_or_eq.1 hj with h | h; exact HJ.out j h; subst h; rw [h5]; decide)⟩
      case measure => simp [intOf]
    · go_wp2
      go_round
      case rel => exact ⟨8, by omega, by go_num, hid (fun j hj => by rcases Nat.lt_succ_iff_lt_or_eq.1 hj with h | h; exact HJ.out j h; subst h; rw [h5]; decide)⟩
      case measure => simp [intOf]
    · go_wp2
      go_round
      case rel => exact ⟨9, by omega, by go_num, hid (fun j hj => by rcases Nat.lt_succ_iff_lt_or_eq.1 hj with h | h; exact HJ.out j h; subst h; rw [h5]; decide)⟩
      case measure => simp [intOf]
    · have e := (HN.out HJ.out).out
      go_wp2
      exact bodyPost_ret (v := .tuple #[I.v ⟨0, 0, 0, 0, 0, 0, 0, false⟩, .bool false]) (by simp [results, Tryz.results107, go_sem]) rfl ⟨by first | rfl | (rw [e]; rfl), below2 _ _⟩
theorem tw_n (a : Int) (h : tWid (fF3 a) = 0) : atF a = (⟨0, 0, 0, 0, 0, 0, 0, false⟩, false) := by
  have k : ∀ i : I, onl i (tWid (fF3 a)) = no := fun i => by unfold onl; rw [if_pos h]; rfl
  unfold atF nAto
  split
  · split
    · rw [k]; rfl
    · split
      · rw [k]; rfl
      · rfl
  · rw [k]; rfl
theorem tAto_n (a : Int) (h : ∀ k : Nat, k < 9 → [1, 0, 4, 12, 8, 16, 20, 24, 28].getD k 0 ≠ fF5 a) : tAto (fF5 a) = 0 := by
  have q0 := h 0 (by omega); have q1 := h 1 (by omega); have q2 := h 2 (by omega); have q3 := h 3 (by omega); have q4 := h 4 (by omega); have q5 := h 5 (by omega); have q6 := h 6 (by omega); have q7 := h 7 (by omega); have q8 := h 8 (by omega)
  simp at q0 q1 q2 q3 q4 q5 q6 q7 q8
  have hb := fF5_b a
  rcases (by omega : fF5 a = 2 ∨ fF5 a = 3 ∨ fF5 a = 5 ∨ fF5 a = 6 ∨ fF5 a = 7 ∨ fF5 a = 9 ∨ fF5 a = 10 ∨ fF5 a = 11 ∨ fF5 a = 13 ∨ fF5 a = 14 ∨ fF5 a = 15 ∨ fF5 a = 17 ∨ fF5 a = 18 ∨ fF5 a = 19 ∨ fF5 a = 21 ∨ fF5 a = 22 ∨ fF5 a = 23 ∨ fF5 a = 25 ∨ fF5 a = 26 ∨ fF5 a = 27 ∨ fF5 a = 29 ∨ fF5 a = 30 ∨ fF5 a = 31) with h | h | h | h | h | h | h | h | h | h | h | h | h | h | h | h | h | h | h | h | h | h | h <;> rw [h] <;> rfl
theorem at_hit4 (a : Int) (hf : fF3 a = 2) : ∀ k : Nat, k < 9 → [1, 0, 4, 12, 8, 16, 20, 24, 28].getD k 0 = fF5 a → Hid (atF a = (⟨17, k + 1, fRd a, fRs1 a, fRs2 a, 0, 4, false⟩, true)) := by
  intro k hk e
  refine hid ?_
  unfold atF nAto
  rcases (by omega : k = 0 ∨ k = 1 ∨ k = 2 ∨ k = 3 ∨ k = 4 ∨ k = 5 ∨ k = 6 ∨ k = 7 ∨ k = 8) with q | q | q | q | q | q | q | q | q <;> subst q <;> rw [← e, hf] <;> rfl
theorem at_no4 (a : Int) (hf : fF3 a = 2) (n2 : ¬ (fF5 a = 2 ∧ fRs2 a = 0)) (n3 : fF5 a ≠ 3) (h : ∀ k : Nat, k < 9 → [1, 0, 4, 12, 8, 16, 20, 24, 28].getD k 0 ≠ fF5 a) : Hid (atF a = (⟨0, 0, 0, 0, 0, 0, 0, false⟩, false)) := by
  refine hid ?_
  unfold atF nAto
  rw [if_pos (tAto_n a h), if_neg n2, if_neg n3]; rfl
theorem r_at4 (a : Int) (h0 : 0 ≤ a) (h1 : a < 4294967296) (w : World) (hf : fF3 a = 2) :
    Calls Tryz.prog 107 #[.int .u32 a, .int .i64 (fF3 a), .int .i64 (fRd a), .int .i64 (fRs1 a), .int .i64 (fRs2 a)] w fun e w' => e = .returned (.tuple #[(atF a).1.v, .bool (atF a).2]) ∧ Below w.heap.size w w' := by
  by_cases n2 : fF5 a = 2
  · by_cases hr : fRs2 a = 0
    · rw [show atF a = (⟨15, 0, fRd a, fRs1 a, 0, 0, 4, false⟩, true) by unfold atF nAto; rw [n2, hr, hf]; rfl]
      exact a_lr4 a h0 h1 w hf n2 hr
    · exact a_m4 a h0 h1 w hf n2 hr (at_hit4 a hf) (at_no4 a hf (fun x => hr x.2) (by omega))
  by_cases n3 : fF5 a = 3
  · rw [show atF a = (⟨16, 0, fRd a, fRs1 a, fRs2 a, 0, 4, false⟩, true) by unfold atF nAto; rw [n3, hf]; rfl]
    exact a_sc4 a h0 h1 w hf n3
  · exact a_l4 a h0 h1 w hf n2 n3 (at_hit4 a hf) (at_no4 a hf (fun x => n2 x.1) n3)
theorem at_hit8 (a : Int) (hf : fF3 a = 3) : ∀ k : Nat, k < 9 → [1, 0, 4, 12, 8, 16, 20, 24, 28].getD k 0 = fF5 a → Hid (atF a = (⟨17, k + 1, fRd a, fRs1 a, fRs2 a, 0, 8, false⟩, true)) := by
  intro k hk e
  refine hid ?_
  unfold atF nAto
  rcases (by omega : k = 0 ∨ k = 1 ∨ k = 2 ∨ k = 3 ∨ k = 4 ∨ k = 5 ∨ k = 6 ∨ k = 7 ∨ k = 8) with q | q | q | q | q | q | q | q | q <;> subst q <;> rw [← e, hf] <;> rfl
theorem at_no8 (a : Int) (hf : fF3 a = 3) (n2 : ¬ (fF5 a = 2 ∧ fRs2 a = 0)) (n3 : fF5 a ≠ 3) (h : ∀ k : Nat, k < 9 → [1, 0, 4, 12, 8, 16, 20, 24, 28].getD k 0 ≠ fF5 a) : Hid (atF a = (⟨0, 0, 0, 0, 0, 0, 0, false⟩, false)) := by
  refine hid ?_
  unfold atF nAto
  rw [if_pos (tAto_n a h), if_neg n2, if_neg n3]; rfl
theorem r_at8 (a : Int) (h0 : 0 ≤ a) (h1 : a < 4294967296) (w : World) (hf : fF3 a = 3) :
    Calls Tryz.prog 107 #[.int .u32 a, .int .i64 (fF3 a), .int .i64 (fRd a), .int .i64 (fRs1 a), .int .i64 (fRs2 a)] w fun e w' => e = .returned (.tuple #[(atF a).1.v, .bool (atF a).2]) ∧ Below w.heap.size w w' := by
  by_cases n2 : fF5 a = 2
  · by_cases hr : fRs2 a = 0
    · rw [show atF a = (⟨15, 0, fRd a, fRs1 a, 0, 0, 8, false⟩, true) by unfold atF nAto; rw [n2, hr, hf]; rfl]
      exact a_lr8 a h0 h1 w hf n2 hr
    · exact a_m8 a h0 h1 w hf n2 hr (at_hit8 a hf) (at_no8 a hf (fun x => hr x.2) (by omega))
  by_cases n3 : fF5 a = 3
  · rw [show atF a = (⟨16, 0, fRd a, fRs1 a, fRs2 a, 0, 8, false⟩, true) by unfold atF nAto; rw [n3, hf]; rfl]
    exact a_sc8 a h0 h1 w hf n3
  · exact a_l8 a h0 h1 w hf n2 n3 (at_hit8 a hf) (at_no8 a hf (fun x => n2 x.1) n3)
theorem r_atomic (a : Int) (h0 : 0 ≤ a) (h1 : a < 4294967296) (w : World) :
    Calls Tryz.prog 107 #[.int .u32 a, .int .i64 (fF3 a), .int .i64 (fRd a), .int .i64 (fRs1 a), .int .i64 (fRs2 a)] w fun e w' => e = .returned (.tuple #[(atF a).1.v, .bool (atF a).2]) ∧ Below w.heap.size w w' := by
  rcases eight8 (fF3_b a) with hf | hf | hf | hf | hf | hf | hf | hf
  · rw [tw_n a (by rw [hf]; rfl)]; exact a_n0 a h0 h1 w hf
  · rw [tw_n a (by rw [hf]; rfl)]; exact a_n1 a h0 h1 w hf
  · exact r_at4 a h0 h1 w hf
  · exact r_at8 a h0 h1 w hf
  · rw [tw_n a (by rw [hf]; rfl)]; exact a_n4 a h0 h1 w hf
  · rw [tw_n a (by rw [hf]; rfl)]; exact a_n5 a h0 h1 w hf
  · rw [tw_n a (by rw [hf]; rfl)]; exact a_n6 a h0 h1 w hf
  · rw [tw_n a (by rw [hf]; rfl)]; exact a_n7 a h0 h1 w hf
end Go.Proofs.YtlfdokkopgmfjaaGreatDoor.B
