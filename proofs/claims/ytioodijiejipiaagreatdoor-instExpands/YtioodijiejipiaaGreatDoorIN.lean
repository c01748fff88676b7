/- What each opcode's words are named: one contract a method. New blocks alone. -/
import Derived.Test.YtioodijiejipiaaGreatDoorIB
import Derived.Deep.QuietTactic
import Derived.BigQuiet
namespace Go.Proofs.YtioodijiejipiaaGreatDoor
open Go.RowKit
set_option linter.unusedVariables false

theorem m_only (k f rd r1 r2 im sz : Int) (sg : Bool) (n : Int) (w : World) :
    Calls Tryz.prog 60 #[.agg #[.int .i64 k, .int .i64 f, .int .i64 rd, .int .i64 r1, .int .i64 r2, .int .i64 im, .int .i64 sz, .bool sg], .int .i64 n] w
      fun e w' => e = .returned (.tuple #[(onl ⟨k, f, rd, r1, r2, im, sz, sg⟩ n).1.v, .bool (onl ⟨k, f, rd, r1, r2, im, sz, sg⟩ n).2]) ∧ Below w.heap.size w w' := by
  by_cases hn : n = 0
  · subst hn
    go_enter Tryz.func60, Tryz.ntmps60
    go_wp2
    exact bodyPost_ret (v := .tuple #[I.zero.v, .bool false]) (by simp [results, Tryz.results60, go_sem, I.zero]) rfl ⟨rfl, (below1 _).alloc (by simp) _⟩
  · have e : onl ⟨k, f, rd, r1, r2, im, sz, sg⟩ n = (⟨k, f, rd, r1, r2, im, sz, sg⟩, true) := if_neg hn
    rw [e]
    go_enter Tryz.func60, Tryz.ntmps60
    go_wp2
    exact bodyPost_ret (v := .tuple #[.agg #[.int .i64 k, .int .i64 f, .int .i64 rd, .int .i64 r1, .int .i64 r2, .int .i64 im, .int .i64 sz, .bool sg], .bool true]) (by simp [results, Tryz.results60, go_sem]) rfl ⟨rfl, (below1 _).alloc (by simp) _⟩
theorem m_chosen (f p o t : Int) (w : World) :
    Calls Tryz.prog 116 #[.int .i64 f, .int .i64 p, .int .i64 o, .int .i64 t] w fun e w' => e = .returned (.int .i64 (chos f p o t)) ∧ w' = w := by
  unfold chos
  by_cases h1 : f = 0
  · subst h1
    go_enter Tryz.func116, Tryz.ntmps116
    go_wp2
    go_ret
    exact ⟨rfl, rfl⟩
  · rw [if_neg h1]
    by_cases h2 : f = 32
    · subst h2
      go_enter Tryz.func116, Tryz.ntmps116
      go_wp2
      go_ret
      exact ⟨rfl, rfl⟩
    · rw [if_neg h2]
      by_cases h3 : f = 1
      · subst h3
        go_enter Tryz.func116, Tryz.ntmps116
        go_wp2
        go_ret
        exact ⟨rfl, rfl⟩
      · rw [if_neg h3]
        go_enter Tryz.func116, Tryz.ntmps116
        go_wp2
        go_ret
        exact ⟨rfl, rfl⟩
theorem n_lui (a : Int) (h0 : 0 ≤ a) (h1 : a < 4294967296) (w : World) (hG : G w) :
    Calls Tryz.prog 84 #[.int .u32 a] w fun e w' => e = .returned (.tuple #[(nLui a).1.v, .bool (nLui a).2]) ∧ Below w.heap.size w w' := by
  go_enter Tryz.func84, Tryz.ntmps84
  go_wp2
  exact bodyPost_ret (v := .tuple #[I.v ⟨1, 0, 0, 0, 0, 0, 0, false⟩, .bool true]) (by simp [results, Tryz.results84, go_sem]) rfl ⟨rfl, below1 _⟩
theorem n_auipc (a : Int) (h0 : 0 ≤ a) (h1 : a < 4294967296) (w : World) (hG : G w) :
    Calls Tryz.prog 88 #[.int .u32 a] w fun e w' => e = .returned (.tuple #[(nAuipc a).1.v, .bool (nAuipc a).2]) ∧ Below w.heap.size w w' := by
  go_enter Tryz.func88, Tryz.ntmps88
  go_wp2
  exact bodyPost_ret (v := .tuple #[I.v ⟨2, 0, 0, 0, 0, 0, 0, false⟩, .bool true]) (by simp [results, Tryz.results88, go_sem]) rfl ⟨rfl, below1 _⟩
theorem n_jal (a : Int) (h0 : 0 ≤ a) (h1 : a < 4294967296) (w : World) (hG : G w) :
    Calls Tryz.prog 100 #[.int .u32 a] w fun e w' => e = .returned (.tuple #[(nJal a).1.v, .bool (nJal a).2]) ∧ Below w.heap.size w w' := by
  go_enter Tryz.func100, Tryz.ntmps100
  go_wp2
  exact bodyPost_ret (v := .tuple #[I.v ⟨3, 0, 0, 0, 0, 0, 0, false⟩, .bool true]) (by simp [results, Tryz.results100, go_sem]) rfl ⟨rfl, below1 _⟩
theorem n_jalr (a : Int) (h0 : 0 ≤ a) (h1 : a < 4294967296) (w : World) (hG : G w) :
    Calls Tryz.prog 102 #[.int .u32 a] w fun e w' => e = .returned (.tuple #[(nJalr a).1.v, .bool (nJalr a).2]) ∧ Below w.heap.size w w' := by
  by_cases h : fF3 a = 0
  · have e1 : nJalr a = named0 4 := if_pos h
    rw [e1]
    go_enter Tryz.func102, Tryz.ntmps102
    go_wp2_with (first | (go_at_call 107; refine (m_f3 _ h0 h1 _).mono ?_; rintro e w' ⟨rfl, rfl⟩))
    exact bodyPost_ret (v := .tuple #[I.v ⟨4, 0, 0, 0, 0, 0, 0, false⟩, .bool true]) (by simp [results, Tryz.results102, go_sem]) rfl ⟨rfl, below1 _⟩
  · have e1 : nJalr a = no := if_neg h
    rw [e1]
    go_enter Tryz.func102, Tryz.ntmps102
    go_wp2_with (first | (go_at_call 107; refine (m_f3 _ h0 h1 _).mono ?_; rintro e w' ⟨rfl, rfl⟩))
    exact bodyPost_ret (v := .tuple #[I.v ⟨0, 0, 0, 0, 0, 0, 0, false⟩, .bool false]) (by simp [results, Tryz.results102, go_sem]) rfl ⟨rfl, below1 _⟩
theorem n_fence (a : Int) (h0 : 0 ≤ a) (h1 : a < 4294967296) (w : World) (hG : G w) :
    Calls Tryz.prog 106 #[.int .u32 a] w fun e w' => e = .returned (.tuple #[(nFence a).1.v, .bool (nFence a).2]) ∧ Below w.heap.size w w' := by
  by_cases h : fF3 a ≤ 1
  · have e1 : nFence a = named0 10 := if_pos h
    rw [e1]
    go_enter Tryz.func106, Tryz.ntmps106
    go_wp2_with (first | (go_at_call 107; refine (m_f3 _ h0 h1 _).mono ?_; rintro e w' ⟨rfl, rfl⟩))
    exact bodyPost_ret (v := .tuple #[I.v ⟨10, 0, 0, 0, 0, 0, 0, false⟩, .bool true]) (by simp [results, Tryz.results106, go_sem]) rfl ⟨rfl, below1 _⟩
  · have e1 : nFence a = no := if_neg h
    rw [e1]
    have h' : 1 < fF3 a := by omega
    go_enter Tryz.func106, Tryz.ntmps106
    go_wp2_with (first | (go_at_call 107; refine (m_f3 _ h0 h1 _).mono ?_; rintro e w' ⟨rfl, rfl⟩))
    exact bodyPost_ret (v := .tuple #[I.v ⟨0, 0, 0, 0, 0, 0, 0, false⟩, .bool false]) (by simp [results, Tryz.results106, go_sem]) rfl ⟨rfl, below1 _⟩
theorem n_branch (a : Int) (h0 : 0 ≤ a) (h1 : a < 4294967296) (w : World) (hG : G w) :
    Calls Tryz.prog 50 #[.int .u32 a] w fun e w' => e = .returned (.tuple #[(nBranch a).1.v, .bool (nBranch a).2]) ∧ Below w.heap.size w w' := by
  have e1 : nBranch a = (onl ⟨5, tCond (fF3 a), 0, 0, 0, 0, 0, false⟩ (tCond (fF3 a))) := rfl
  rw [e1]
  obtain ⟨gs_x, gc_x⟩ := hG.cond
  have hc_x := gc_x (fF3 a) (fF3_b a).1 (fF3_b a).2
  clear gc_x
  obtain ⟨bl_fF3, bu_fF3⟩ := fF3_b a
  go_enter Tryz.func50, Tryz.ntmps50
  go_wp2_with (first | (go_at_call 107; refine (m_f3 _ h0 h1 _).mono ?_; rintro e w' ⟨rfl, rfl⟩) | (go_at_call 60; refine (m_only _ _ _ _ _ _ _ _ _ _).mono ?_; rintro e w1 ⟨rfl, hb⟩; obtain ⟨hc1, hf1⟩ := bcell hb))
  exact bodyPost_ret (v := .tuple #[(onl ⟨5, tCond (fF3 a), 0, 0, 0, 0, 0, false⟩ (tCond (fF3 a))).1.v, .bool (onl ⟨5, tCond (fF3 a), 0, 0, 0, 0, 0, false⟩ (tCond (fF3 a))).2]) (by simp [results, Tryz.results50, go_sem, hc1]) rfl ⟨rfl, below8 (belowA hb) (Nat.le_refl _) _ _ _ _ _ _ _ _⟩
theorem n_store (a : Int) (h0 : 0 ≤ a) (h1 : a < 4294967296) (w : World) (hG : G w) :
    Calls Tryz.prog 52 #[.int .u32 a] w fun e w' => e = .returned (.tuple #[(nStore a).1.v, .bool (nStore a).2]) ∧ Below w.heap.size w w' := by
  have e1 : nStore a = (onl ⟨7, 0, 0, 0, 0, 0, tStore (fF3 a), false⟩ (tStore (fF3 a))) := rfl
  rw [e1]
  obtain ⟨gs_x, gc_x⟩ := hG.store
  have hc_x := gc_x (fF3 a) (fF3_b a).1 (fF3_b a).2
  clear gc_x
  obtain ⟨bl_fF3, bu_fF3⟩ := fF3_b a
  go_enter Tryz.func52, Tryz.ntmps52
  go_wp2_with (first | (go_at_call 107; refine (m_f3 _ h0 h1 _).mono ?_; rintro e w' ⟨rfl, rfl⟩) | (go_at_call 60; refine (m_only _ _ _ _ _ _ _ _ _ _).mono ?_; rintro e w1 ⟨rfl, hb⟩; obtain ⟨hc1, hf1⟩ := bcell hb))
  exact bodyPost_ret (v := .tuple #[(onl ⟨7, 0, 0, 0, 0, 0, tStore (fF3 a), false⟩ (tStore (fF3 a))).1.v, .bool (onl ⟨7, 0, 0, 0, 0, 0, tStore (fF3 a), false⟩ (tStore (fF3 a))).2]) (by simp [results, Tryz.results52, go_sem, hc1]) rfl ⟨rfl, below8 (belowA hb) (Nat.le_refl _) _ _ _ _ _ _ _ _⟩
theorem n_load (a : Int) (h0 : 0 ≤ a) (h1 : a < 4294967296) (w : World) (hG : G w) :
    Calls Tryz.prog 51 #[.int .u32 a] w fun e w' => e = .returned (.tuple #[(nLoad a).1.v, .bool (nLoad a).2]) ∧ Below w.heap.size w w' := by
  have e1 : nLoad a = (onl ⟨6, 0, 0, 0, 0, 0, tLoad (fF3 a), decide (fF3 a < 4)⟩ (tLoad (fF3 a))) := rfl
  rw [e1]
  obtain ⟨gs_x, gc_x⟩ := hG.load
  have hc_x := gc_x (fF3 a) (fF3_b a).1 (fF3_b a).2
  clear gc_x
  obtain ⟨bl_fF3, bu_fF3⟩ := fF3_b a
  go_enter Tryz.func51, Tryz.ntmps51
  go_wp2_with (first | (go_at_call 107; refine (m_f3 _ h0 h1 _).mono ?_; rintro e w' ⟨rfl, rfl⟩) | (go_at_call 60; refine (m_only _ _ _ _ _ _ _ _ _ _).mono ?_; rintro e w1 ⟨rfl, hb⟩; obtain ⟨hc1, hf1⟩ := bcell hb))
  exact bodyPost_ret (v := .tuple #[(onl ⟨6, 0, 0, 0, 0, 0, tLoad (fF3 a), decide (fF3 a < 4)⟩ (tLoad (fF3 a))).1.v, .bool (onl ⟨6, 0, 0, 0, 0, 0, tLoad (fF3 a), decide (fF3 a < 4)⟩ (tLoad (fF3 a))).2]) (by simp [results, Tryz.results51, go_sem, hc1]) rfl ⟨rfl, below8 (belowA hb) (Nat.le_refl _) _ _ _ _ _ _ _ _⟩
theorem n_privileged (a : Int) (h0 : 0 ≤ a) (h1 : a < 4294967296) (w : World) (hG : G w) :
    Calls Tryz.prog 119 #[.int .u32 a] w fun e w' => e = .returned (.tuple #[(nPriv a).1.v, .bool (nPriv a).2]) ∧ Below w.heap.size w w' := by
  unfold nPriv
  by_cases h11 : a = 115
  · subst h11
    simp only [if_true]
    go_enter Tryz.func119, Tryz.ntmps119
    go_wp2
    exact bodyPost_ret (v := .tuple #[I.v ⟨11, 0, 0, 0, 0, 0, 0, false⟩, .bool true]) (by simp [results, Tryz.results119, go_sem]) rfl ⟨rfl, below1 _⟩
  · rw [if_neg h11]
    by_cases h12 : a = 1048691
    · subst h12
      simp only [if_true]
      go_enter Tryz.func119, Tryz.ntmps119
      go_wp2
      exact bodyPost_ret (v := .tuple #[I.v ⟨12, 0, 0, 0, 0, 0, 0, false⟩, .bool true]) (by simp [results, Tryz.results119, go_sem]) rfl ⟨rfl, below1 _⟩
    · rw [if_neg h12]
      by_cases h18 : a = 270532723
      · subst h18
        simp only [if_true]
        go_enter Tryz.func119, Tryz.ntmps119
        go_wp2
        exact bodyPost_ret (v := .tuple #[I.v ⟨18, 0, 0, 0, 0, 0, 0, false⟩, .bool true]) (by simp [results, Tryz.results119, go_sem]) rfl ⟨rfl, below1 _⟩
      · rw [if_neg h18]
        by_cases h19 : a = 273678451
        · subst h19
          simp only [if_true]
          go_enter Tryz.func119, Tryz.ntmps119
          go_wp2
          exact bodyPost_ret (v := .tuple #[I.v ⟨19, 0, 0, 0, 0, 0, 0, false⟩, .bool true]) (by simp [results, Tryz.results119, go_sem]) rfl ⟨rfl, below1 _⟩
        · rw [if_neg h19]
          by_cases h7 : fF7 a = 9
          · by_cases hd : fRd a = 0
            · rw [if_pos ⟨h7, hd⟩]
              go_enter Tryz.func119, Tryz.ntmps119
              go_wp2_with (first | (go_at_call 118; refine (m_f7 _ h0 h1 _).mono ?_; rintro e w' ⟨rfl, rfl⟩) | (go_at_call 85; refine (m_rd _ h0 h1 _).mono ?_; rintro e w' ⟨rfl, rfl⟩))
              exact bodyPost_ret (v := .tuple #[I.v ⟨20, 0, 0, 0, 0, 0, 0, false⟩, .bool true]) (by simp [results, Tryz.results119, go_sem]) rfl ⟨rfl, below1 _⟩
            · rw [if_neg (fun x => hd x.2)]
              go_enter Tryz.func119, Tryz.ntmps119
              go_wp2_with (first | (go_at_call 118; refine (m_f7 _ h0 h1 _).mono ?_; rintro e w' ⟨rfl, rfl⟩) | (go_at_call 85; refine (m_rd _ h0 h1 _).mono ?_; rintro e w' ⟨rfl, rfl⟩))
              exact bodyPost_ret (v := .tuple #[I.v ⟨0, 0, 0, 0, 0, 0, 0, false⟩, .bool false]) (by simp [results, Tryz.results119, go_sem]) rfl ⟨rfl, below1 _⟩
          · rw [if_neg (fun x => h7 x.1)]
            go_enter Tryz.func119, Tryz.ntmps119
            go_wp2_with (first | (go_at_call 118; refine (m_f7 _ h0 h1 _).mono ?_; rintro e w' ⟨rfl, rfl⟩) | (go_at_call 85; refine (m_rd _ h0 h1 _).mono ?_; rintro e w' ⟨rfl, rfl⟩))
            exact bodyPost_ret (v := .tuple #[I.v ⟨0, 0, 0, 0, 0, 0, 0, false⟩, .bool false]) (by simp [results, Tryz.results119, go_sem]) rfl ⟨rfl, below1 _⟩
theorem n_system (a : Int) (h0 : 0 ≤ a) (h1 : a < 4294967296) (w : World) (hG : G w) :
    Calls Tryz.prog 97 #[.int .u32 a] w fun e w' => e = .returned (.tuple #[(nSys a).1.v, .bool (nSys a).2]) ∧ Below w.heap.size w w' := by
  obtain ⟨bl, bu⟩ := fF3_b a
  unfold nSys
  by_cases h : fF3 a = 0
  · rw [if_pos h]
    go_enter Tryz.func97, Tryz.ntmps97
    go_wp2_with (first | (go_at_call 107; refine (m_f3 _ h0 h1 _).mono ?_; rintro e w' ⟨rfl, rfl⟩) | (go_at_call 119; refine (n_privileged _ h0 h1 _ (hG.alloc _)).mono ?_; rintro e w1 ⟨rfl, hb⟩; obtain ⟨hc1, hf1⟩ := bcell hb))
    exact bodyPost_ret (v := .tuple #[(nPriv a).1.v, .bool (nPriv a).2]) (by simp [results, Tryz.results97, go_sem, hc1]) rfl ⟨rfl, below8 (belowA hb) (Nat.le_refl _) _ _ _ _ _ _ _ _⟩
  · rw [if_neg h]
    by_cases h4 : fF3 a < 4
    · rw [if_pos h4]
      go_enter Tryz.func97, Tryz.ntmps97
      go_wp2_with (first | (go_at_call 107; refine (m_f3 _ h0 h1 _).mono ?_; rintro e w' ⟨rfl, rfl⟩))
      exact bodyPost_ret (v := .tuple #[I.v ⟨13, fF3 a, 0, 0, 0, 0, 0, false⟩, .bool true]) (by simp [results, Tryz.results97, go_sem]) rfl ⟨rfl, below1 _⟩
    · rw [if_neg h4]
      have h4' : 4 ≤ fF3 a := by omega
      by_cases h5 : 4 < fF3 a
      · rw [if_pos h5]
        go_enter Tryz.func97, Tryz.ntmps97
        go_wp2_with (first | (go_at_call 107; refine (m_f3 _ h0 h1 _).mono ?_; rintro e w' ⟨rfl, rfl⟩))
        exact bodyPost_ret (v := .tuple #[I.v ⟨14, fF3 a - 4, 0, 0, 0, 0, 0, false⟩, .bool true]) (by simp [results, Tryz.results97, go_sem]) rfl ⟨rfl, below1 _⟩
      · rw [if_neg h5]
        have h5' : fF3 a ≤ 4 := by omega
        go_enter Tryz.func97, Tryz.ntmps97
        go_wp2_with (first | (go_at_call 107; refine (m_f3 _ h0 h1 _).mono ?_; rintro e w' ⟨rfl, rfl⟩))
        exact bodyPost_ret (v := .tuple #[I.v ⟨0, 0, 0, 0, 0, 0, 0, false⟩, .bool false]) (by simp [results, Tryz.results97, go_sem]) rfl ⟨rfl, below1 _⟩
theorem n_atomic (a : Int) (h0 : 0 ≤ a) (h1 : a < 4294967296) (w : World) (hG : G w) :
    Calls Tryz.prog 55 #[.int .u32 a] w fun e w' => e = .returned (.tuple #[(nAto a).1.v, .bool (nAto a).2]) ∧ Below w.heap.size w w' := by
  obtain ⟨gs_x, gc_x⟩ := hG.wid
  have hc_x := gc_x (fF3 a) (fF3_b a).1 (fF3_b a).2
  clear gc_x
  obtain ⟨bl_fF3, bu_fF3⟩ := fF3_b a
  obtain ⟨gs_y, gc_y⟩ := hG.ato
  have hc_y := gc_y (fF5 a) (fF5_b a).1 (fF5_b a).2
  clear gc_y
  obtain ⟨bl_fF5, bu_fF5⟩ := fF5_b a
  unfold nAto
  by_cases h : tAto (fF5 a) = 0
  · rw [if_pos h]
    by_cases h2 : fF5 a = 2
    · have hy2 : w.cell? ⟨4, 2, none⟩ = some (.int .i64 0) := by have q := hc_y; rw [h2] at q; exact q
      clear hc_y
      by_cases hr : fRs2 a = 0
      · rw [if_pos ⟨h2, hr⟩]
        go_enter Tryz.func55, Tryz.ntmps55
        go_wp2_with (first | (go_at_call 107; refine (m_f3 _ h0 h1 _).mono ?_; rintro e w' ⟨rfl, rfl⟩) | (go_at_call 108; refine (m_f5 _ h0 h1 _).mono ?_; rintro e w' ⟨rfl, rfl⟩) | (go_at_call 95; refine (m_rs2 _ h0 h1 _).mono ?_; rintro e w' ⟨rfl, rfl⟩) | (go_at_call 60; refine (m_only _ _ _ _ _ _ _ _ _ _).mono ?_; rintro e w1 ⟨rfl, hb⟩; obtain ⟨hc1, hf1⟩ := bcell hb))
        exact bodyPost_ret (v := .tuple #[(onl ⟨15, 0, 0, 0, 0, 0, tWid (fF3 a), false⟩ (tWid (fF3 a))).1.v, .bool (onl ⟨15, 0, 0, 0, 0, 0, tWid (fF3 a), false⟩ (tWid (fF3 a))).2]) (by simp [results, Tryz.results55, go_sem, hc1]) rfl ⟨rfl, below8 (belowA hb) (Nat.le_refl _) _ _ _ _ _ _ _ _⟩
      · rw [if_neg (fun x => hr x.2), if_neg (by omega)]
        go_enter Tryz.func55, Tryz.ntmps55
        go_wp2_with (first | (go_at_call 107; refine (m_f3 _ h0 h1 _).mono ?_; rintro e w' ⟨rfl, rfl⟩) | (go_at_call 108; refine (m_f5 _ h0 h1 _).mono ?_; rintro e w' ⟨rfl, rfl⟩) | (go_at_call 95; refine (m_rs2 _ h0 h1 _).mono ?_; rintro e w' ⟨rfl, rfl⟩) | (go_at_call 60; refine (m_only _ _ _ _ _ _ _ _ _ _).mono ?_; rintro e w1 ⟨rfl, hb⟩; obtain ⟨hc1, hf1⟩ := bcell hb))
        exact bodyPost_ret (v := .tuple #[I.v ⟨0, 0, 0, 0, 0, 0, 0, false⟩, .bool false]) (by simp [results, Tryz.results55, go_sem]) rfl ⟨rfl, below1 _⟩
    · rw [if_neg (fun x => h2 x.1)]
      by_cases h3 : fF5 a = 3
      · rw [if_pos h3]
        have hy2 : w.cell? ⟨4, 3, none⟩ = some (.int .i64 0) := by have q := hc_y; rw [h3] at q; exact q
        clear hc_y
        go_enter Tryz.func55, Tryz.ntmps55
        go_wp2_with (first | (go_at_call 107; refine (m_f3 _ h0 h1 _).mono ?_; rintro e w' ⟨rfl, rfl⟩) | (go_at_call 108; refine (m_f5 _ h0 h1 _).mono ?_; rintro e w' ⟨rfl, rfl⟩) | (go_at_call 95; refine (m_rs2 _ h0 h1 _).mono ?_; rintro e w' ⟨rfl, rfl⟩) | (go_at_call 60; refine (m_only _ _ _ _ _ _ _ _ _ _).mono ?_; rintro e w1 ⟨rfl, hb⟩; obtain ⟨hc1, hf1⟩ := bcell hb))
        exact bodyPost_ret (v := .tuple #[(onl ⟨16, 0, 0, 0, 0, 0, tWid (fF3 a), false⟩ (tWid (fF3 a))).1.v, .bool (onl ⟨16, 0, 0, 0, 0, 0, tWid (fF3 a), false⟩ (tWid (fF3 a))).2]) (by simp [results, Tryz.results55, go_sem, hc1]) rfl ⟨rfl, below8 (belowA hb) (Nat.le_refl _) _ _ _ _ _ _ _ _⟩
      · rw [if_neg h3]
        go_enter Tryz.func55, Tryz.ntmps55
        go_wp2_with (first | (go_at_call 107; refine (m_f3 _ h0 h1 _).mono ?_; rintro e w' ⟨rfl, rfl⟩) | (go_at_call 108; refine (m_f5 _ h0 h1 _).mono ?_; rintro e w' ⟨rfl, rfl⟩) | (go_at_call 95; refine (m_rs2 _ h0 h1 _).mono ?_; rintro e w' ⟨rfl, rfl⟩) | (go_at_call 60; refine (m_only _ _ _ _ _ _ _ _ _ _).mono ?_; rintro e w1 ⟨rfl, hb⟩; obtain ⟨hc1, hf1⟩ := bcell hb))
        exact bodyPost_ret (v := .tuple #[I.v ⟨0, 0, 0, 0, 0, 0, 0, false⟩, .bool false]) (by simp [results, Tryz.results55, go_sem]) rfl ⟨rfl, below1 _⟩
  · rw [if_neg h]
    go_enter Tryz.func55, Tryz.ntmps55
    go_wp2_with (first | (go_at_call 107; refine (m_f3 _ h0 h1 _).mono ?_; rintro e w' ⟨rfl, rfl⟩) | (go_at_call 108; refine (m_f5 _ h0 h1 _).mono ?_; rintro e w' ⟨rfl, rfl⟩) | (go_at_call 95; refine (m_rs2 _ h0 h1 _).mono ?_; rintro e w' ⟨rfl, rfl⟩) | (go_at_call 60; refine (m_only _ _ _ _ _ _ _ _ _ _).mono ?_; rintro e w1 ⟨rfl, hb⟩; obtain ⟨hc1, hf1⟩ := bcell hb))
    exact bodyPost_ret (v := .tuple #[(onl ⟨17, tAto (fF5 a), 0, 0, 0, 0, tWid (fF3 a), false⟩ (tWid (fF3 a))).1.v, .bool (onl ⟨17, tAto (fF5 a), 0, 0, 0, 0, tWid (fF3 a), false⟩ (tWid (fF3 a))).2]) (by simp [results, Tryz.results55, go_sem, hc1]) rfl ⟨rfl, below8 (belowA hb) (Nat.le_refl _) _ _ _ _ _ _ _ _⟩
end Go.Proofs.YtioodijiejipiaaGreatDoor
