/- What each opcode's words are named: one contract a method. New blocks alone. -/
import Derived.Test.YtedkkdjmikhejaaDoorIB
import Derived.Deep.QuietTactic
import Derived.BigQuiet
namespace Go.Proofs.YtedkkdjmikhejaaDoor
open Go.RowKit
set_option linter.unusedVariables false

theorem m_only (k f rd r1 r2 im sz : Int) (sg : Bool) (n : Int) (w : World) :
    Calls Tryd.prog 38 #[.agg #[.int .i64 k, .int .i64 f, .int .i64 rd, .int .i64 r1, .int .i64 r2, .int .i64 im, .int .i64 sz, .bool sg], .int .i64 n] w
      fun e w' => e = .returned (.tuple #[(onl ⟨k, f, rd, r1, r2, im, sz, sg⟩ n).1.v, .bool (onl ⟨k, f, rd, r1, r2, im, sz, sg⟩ n).2]) ∧ Below w.heap.size w w' := by
  by_cases hn : n = 0
  · subst hn
    go_enter Tryd.func38, Tryd.ntmps38
    go_wp2
    exact bodyPost_ret (v := .tuple #[I.zero.v, .bool false]) (by simp [results, Tryd.results38, go_sem, I.zero]) rfl ⟨rfl, (below1 _).alloc (by simp) _⟩
  · have e : onl ⟨k, f, rd, r1, r2, im, sz, sg⟩ n = (⟨k, f, rd, r1, r2, im, sz, sg⟩, true) := if_neg hn
    rw [e]
    go_enter Tryd.func38, Tryd.ntmps38
    go_wp2
    exact bodyPost_ret (v := .tuple #[.agg #[.int .i64 k, .int .i64 f, .int .i64 rd, .int .i64 r1, .int .i64 r2, .int .i64 im, .int .i64 sz, .bool sg], .bool true]) (by simp [results, Tryd.results38, go_sem]) rfl ⟨rfl, (below1 _).alloc (by simp) _⟩
theorem m_chosen (f p o t : Int) (w : World) :
    Calls Tryd.prog 92 #[.int .i64 f, .int .i64 p, .int .i64 o, .int .i64 t] w fun e w' => e = .returned (.int .i64 (chos f p o t)) ∧ w' = w := by
  unfold chos
  by_cases h1 : f = 0
  · subst h1
    go_enter Tryd.func92, Tryd.ntmps92
    go_wp2
    go_ret
    exact ⟨rfl, rfl⟩
  · rw [if_neg h1]
    by_cases h2 : f = 32
    · subst h2
      go_enter Tryd.func92, Tryd.ntmps92
      go_wp2
      go_ret
      exact ⟨rfl, rfl⟩
    · rw [if_neg h2]
      by_cases h3 : f = 1
      · subst h3
        go_enter Tryd.func92, Tryd.ntmps92
        go_wp2
        go_ret
        exact ⟨rfl, rfl⟩
      · rw [if_neg h3]
        go_enter Tryd.func92, Tryd.ntmps92
        go_wp2
        go_ret
        exact ⟨rfl, rfl⟩
theorem n_lui (a : Int) (h0 : 0 ≤ a) (h1 : a < 4294967296) (w : World) (hG : G w) :
    Calls Tryd.prog 70 #[.int .u32 a] w fun e w' => e = .returned (.tuple #[(nLui a).1.v, .bool (nLui a).2]) ∧ Below w.heap.size w w' := by
  go_enter Tryd.func70, Tryd.ntmps70
  go_wp2
  exact bodyPost_ret (v := .tuple #[I.v ⟨1, 0, 0, 0, 0, 0, 0, false⟩, .bool true]) (by simp [results, Tryd.results70, go_sem]) rfl ⟨rfl, below1 _⟩
theorem n_auipc (a : Int) (h0 : 0 ≤ a) (h1 : a < 4294967296) (w : World) (hG : G w) :
    Calls Tryd.prog 74 #[.int .u32 a] w fun e w' => e = .returned (.tuple #[(nAuipc a).1.v, .bool (nAuipc a).2]) ∧ Below w.heap.size w w' := by
  go_enter Tryd.func74, Tryd.ntmps74
  go_wp2
  exact bodyPost_ret (v := .tuple #[I.v ⟨2, 0, 0, 0, 0, 0, 0, false⟩, .bool true]) (by simp [results, Tryd.results74, go_sem]) rfl ⟨rfl, below1 _⟩
theorem n_jal (a : Int) (h0 : 0 ≤ a) (h1 : a < 4294967296) (w : World) (hG : G w) :
    Calls Tryd.prog 80 #[.int .u32 a] w fun e w' => e = .returned (.tuple #[(nJal a).1.v, .bool (nJal a).2]) ∧ Below w.heap.size w w' := by
  go_enter Tryd.func80, Tryd.ntmps80
  go_wp2
  exact bodyPost_ret (v := .tuple #[I.v ⟨3, 0, 0, 0, 0, 0, 0, false⟩, .bool true]) (by simp [results, Tryd.results80, go_sem]) rfl ⟨rfl, below1 _⟩
theorem n_jalr (a : Int) (h0 : 0 ≤ a) (h1 : a < 4294967296) (w : World) (hG : G w) :
    Calls Tryd.prog 82 #[.int .u32 a] w fun e w' => e = .returned (.tuple #[(nJalr a).1.v, .bool (nJalr a).2]) ∧ Below w.heap.size w w' := by
  by_cases h : fF3 a = 0
  · have e1 : nJalr a = named0 4 := if_pos h
    rw [e1]
    go_enter Tryd.func82, Tryd.ntmps82
    go_wp2_with (first | (go_at_call 62; refine (m_f3 _ h0 h1 _).mono ?_; rintro e w' ⟨rfl, rfl⟩))
    exact bodyPost_ret (v := .tuple #[I.v ⟨4, 0, 0, 0, 0, 0, 0, false⟩, .bool true]) (by simp [results, Tryd.results82, go_sem]) rfl ⟨rfl, below1 _⟩
  · have e1 : nJalr a = no := if_neg h
    rw [e1]
    go_enter Tryd.func82, Tryd.ntmps82
    go_wp2_with (first | (go_at_call 62; refine (m_f3 _ h0 h1 _).mono ?_; rintro e w' ⟨rfl, rfl⟩))
    exact bodyPost_ret (v := .tuple #[I.v ⟨0, 0, 0, 0, 0, 0, 0, false⟩, .bool false]) (by simp [results, Tryd.results82, go_sem]) rfl ⟨rfl, below1 _⟩
theorem n_fence (a : Int) (h0 : 0 ≤ a) (h1 : a < 4294967296) (w : World) (hG : G w) :
    Calls Tryd.prog 86 #[.int .u32 a] w fun e w' => e = .returned (.tuple #[(nFence a).1.v, .bool (nFence a).2]) ∧ Below w.heap.size w w' := by
  by_cases h : fF3 a ≤ 1
  · have e1 : nFence a = named0 10 := if_pos h
    rw [e1]
    go_enter Tryd.func86, Tryd.ntmps86
    go_wp2_with (first | (go_at_call 62; refine (m_f3 _ h0 h1 _).mono ?_; rintro e w' ⟨rfl, rfl⟩))
    exact bodyPost_ret (v := .tuple #[I.v ⟨10, 0, 0, 0, 0, 0, 0, false⟩, .bool true]) (by simp [results, Tryd.results86, go_sem]) rfl ⟨rfl, below1 _⟩
  · have e1 : nFence a = no := if_neg h
    rw [e1]
    have h' : 1 < fF3 a := by omega
    go_enter Tryd.func86, Tryd.ntmps86
    go_wp2_with (first | (go_at_call 62; refine (m_f3 _ h0 h1 _).mono ?_; rintro e w' ⟨rfl, rfl⟩))
    exact bodyPost_ret (v := .tuple #[I.v ⟨0, 0, 0, 0, 0, 0, 0, false⟩, .bool false]) (by simp [results, Tryd.results86, go_sem]) rfl ⟨rfl, below1 _⟩
theorem n_branch (a : Int) (h0 : 0 ≤ a) (h1 : a < 4294967296) (w : World) (hG : G w) :
    Calls Tryd.prog 25 #[.int .u32 a] w fun e w' => e = .returned (.tuple #[(nBranch a).1.v, .bool (nBranch a).2]) ∧ Below w.heap.size w w' := by
  have e1 : nBranch a = (onl ⟨5, tCond (fF3 a), 0, 0, 0, 0, 0, false⟩ (tCond (fF3 a))) := rfl
  rw [e1]
  obtain ⟨gs_x, gc_x⟩ := hG.cond
  have hc_x := gc_x (fF3 a) (fF3_b a).1 (fF3_b a).2
  clear gc_x
  obtain ⟨bl_fF3, bu_fF3⟩ := fF3_b a
  go_enter Tryd.func25, Tryd.ntmps25
  go_wp2_with (first | (go_at_call 62; refine (m_f3 _ h0 h1 _).mono ?_; rintro e w' ⟨rfl, rfl⟩) | (go_at_call 38; refine (m_only _ _ _ _ _ _ _ _ _ _).mono ?_; rintro e w1 ⟨rfl, hb⟩; obtain ⟨hc1, hf1⟩ := bcell hb))
  exact bodyPost_ret (v := .tuple #[(onl ⟨5, tCond (fF3 a), 0, 0, 0, 0, 0, false⟩ (tCond (fF3 a))).1.v, .bool (onl ⟨5, tCond (fF3 a), 0, 0, 0, 0, 0, false⟩ (tCond (fF3 a))).2]) (by simp [results, Tryd.results25, go_sem, hc1]) rfl ⟨rfl, below8 (belowA hb) (Nat.le_refl _) _ _ _ _ _ _ _ _⟩
theorem n_store (a : Int) (h0 : 0 ≤ a) (h1 : a < 4294967296) (w : World) (hG : G w) :
    Calls Tryd.prog 27 #[.int .u32 a] w fun e w' => e = .returned (.tuple #[(nStore a).1.v, .bool (nStore a).2]) ∧ Below w.heap.size w w' := by
  have e1 : nStore a = (onl ⟨7, 0, 0, 0, 0, 0, tStore (fF3 a), false⟩ (tStore (fF3 a))) := rfl
  rw [e1]
  obtain ⟨gs_x, gc_x⟩ := hG.store
  have hc_x := gc_x (fF3 a) (fF3_b a).1 (fF3_b a).2
  clear gc_x
  obtain ⟨bl_fF3, bu_fF3⟩ := fF3_b a
  go_enter Tryd.func27, Tryd.ntmps27
  go_wp2_with (first | (go_at_call 62; refine (m_f3 _ h0 h1 _).mono ?_; rintro e w' ⟨rfl, rfl⟩) | (go_at_call 38; refine (m_only _ _ _ _ _ _ _ _ _ _).mono ?_; rintro e w1 ⟨rfl, hb⟩; obtain ⟨hc1, hf1⟩ := bcell hb))
  exact bodyPost_ret (v := .tuple #[(onl ⟨7, 0, 0, 0, 0, 0, tStore (fF3 a), false⟩ (tStore (fF3 a))).1.v, .bool (onl ⟨7, 0, 0, 0, 0, 0, tStore (fF3 a), false⟩ (tStore (fF3 a))).2]) (by simp [results, Tryd.results27, go_sem, hc1]) rfl ⟨rfl, below8 (belowA hb) (Nat.le_refl _) _ _ _ _ _ _ _ _⟩
theorem n_load (a : Int) (h0 : 0 ≤ a) (h1 : a < 4294967296) (w : World) (hG : G w) :
    Calls Tryd.prog 26 #[.int .u32 a] w fun e w' => e = .returned (.tuple #[(nLoad a).1.v, .bool (nLoad a).2]) ∧ Below w.heap.size w w' := by
  have e1 : nLoad a = (onl ⟨6, 0, 0, 0, 0, 0, tLoad (fF3 a), decide (fF3 a < 4)⟩ (tLoad (fF3 a))) := rfl
  rw [e1]
  obtain ⟨gs_x, gc_x⟩ := hG.load
  have hc_x := gc_x (fF3 a) (fF3_b a).1 (fF3_b a).2
  clear gc_x
  obtain ⟨bl_fF3, bu_fF3⟩ := fF3_b a
  go_enter Tryd.func26, Tryd.ntmps26
  go_wp2_with (first | (go_at_call 62; refine (m_f3 _ h0 h1 _).mono ?_; rintro e w' ⟨rfl, rfl⟩) | (go_at_call 38; refine (m_only _ _ _ _ _ _ _ _ _ _).mono ?_; rintro e w1 ⟨rfl, hb⟩; obtain ⟨hc1, hf1⟩ := bcell hb))
  exact bodyPost_ret (v := .tuple #[(onl ⟨6, 0, 0, 0, 0, 0, tLoad (fF3 a), decide (fF3 a < 4)⟩ (tLoad (fF3 a))).1.v, .bool (onl ⟨6, 0, 0, 0, 0, 0, tLoad (fF3 a), decide (fF3 a < 4)⟩ (tLoad (fF3 a))).2]) (by simp [results, Tryd.results26, go_sem, hc1]) rfl ⟨rfl, below8 (belowA hb) (Nat.le_refl _) _ _ _ _ _ _ _ _⟩
theorem n_privileged (a : Int) (h0 : 0 ≤ a) (h1 : a < 4294967296) (w : World) (hG : G w) :
    Calls Tryd.prog 96 #[.int .u32 a] w fun e w' => e = .returned (.tuple #[(nPriv a).1.v, .bool (nPriv a).2]) ∧ Below w.heap.size w w' := by
  unfold nPriv
  by_cases h11 : a = 115
  · subst h11
    simp only [if_true]
    go_enter Tryd.func96, Tryd.ntmps96
    go_wp2
    exact bodyPost_ret (v := .tuple #[I.v ⟨11, 0, 0, 0, 0, 0, 0, false⟩, .bool true]) (by simp [results, Tryd.results96, go_sem]) rfl ⟨rfl, below1 _⟩
  · rw [if_neg h11]
    by_cases h12 : a = 1048691
    · subst h12
      simp only [if_true]
      go_enter Tryd.func96, Tryd.ntmps96
      go_wp2
      exact bodyPost_ret (v := .tuple #[I.v ⟨12, 0, 0, 0, 0, 0, 0, false⟩, .bool true]) (by simp [results, Tryd.results96, go_sem]) rfl ⟨rfl, below1 _⟩
    · rw [if_neg h12]
      by_cases h18 : a = 270532723
      · subst h18
        simp only [if_true]
        go_enter Tryd.func96, Tryd.ntmps96
        go_wp2
        exact bodyPost_ret (v := .tuple #[I.v ⟨18, 0, 0, 0, 0, 0, 0, false⟩, .bool true]) (by simp [results, Tryd.results96, go_sem]) rfl ⟨rfl, below1 _⟩
      · rw [if_neg h18]
        by_cases h19 : a = 273678451
        · subst h19
          simp only [if_true]
          go_enter Tryd.func96, Tryd.ntmps96
          go_wp2
          exact bodyPost_ret (v := .tuple #[I.v ⟨19, 0, 0, 0, 0, 0, 0, false⟩, .bool true]) (by simp [results, Tryd.results96, go_sem]) rfl ⟨rfl, below1 _⟩
        · rw [if_neg h19]
          by_cases h7 : fF7 a = 9
          · by_cases hd : fRd a = 0
            · rw [if_pos ⟨h7, hd⟩]
              go_enter Tryd.func96, Tryd.ntmps96
              go_wp2_with (first | (go_at_call 93; refine (m_f7 _ h0 h1 _).mono ?_; rintro e w' ⟨rfl, rfl⟩) | (go_at_call 71; refine (m_rd _ h0 h1 _).mono ?_; rintro e w' ⟨rfl, rfl⟩))
              exact bodyPost_ret (v := .tuple #[I.v ⟨20, 0, 0, 0, 0, 0, 0, false⟩, .bool true]) (by simp [results, Tryd.results96, go_sem]) rfl ⟨rfl, below1 _⟩
            · rw [if_neg (fun x => hd x.2)]
              go_enter Tryd.func96, Tryd.ntmps96
              go_wp2_with (first | (go_at_call 93; refine (m_f7 _ h0 h1 _).mono ?_; rintro e w' ⟨rfl, rfl⟩) | (go_at_call 71; refine (m_rd _ h0 h1 _).mono ?_; rintro e w' ⟨rfl, rfl⟩))
              exact bodyPost_ret (v := .tuple #[I.v ⟨0, 0, 0, 0, 0, 0, 0, false⟩, .bool false]) (by simp [results, Tryd.results96, go_sem]) rfl ⟨rfl, below1 _⟩
          · rw [if_neg (fun x => h7 x.1)]
            go_enter Tryd.func96, Tryd.ntmps96
            go_wp2_with (first | (go_at_call 93; refine (m_f7 _ h0 h1 _).mono ?_; rintro e w' ⟨rfl, rfl⟩) | (go_at_call 71; refine (m_rd _ h0 h1 _).mono ?_; rintro e w' ⟨rfl, rfl⟩))
            exact bodyPost_ret (v := .tuple #[I.v ⟨0, 0, 0, 0, 0, 0, 0, false⟩, .bool false]) (by simp [results, Tryd.results96, go_sem]) rfl ⟨rfl, below1 _⟩
theorem n_system (a : Int) (h0 : 0 ≤ a) (h1 : a < 4294967296) (w : World) (hG : G w) :
    Calls Tryd.prog 69 #[.int .u32 a] w fun e w' => e = .returned (.tuple #[(nSys a).1.v, .bool (nSys a).2]) ∧ Below w.heap.size w w' := by
  obtain ⟨bl, bu⟩ := fF3_b a
  unfold nSys
  by_cases h : fF3 a = 0
  · rw [if_pos h]
    go_enter Tryd.func69, Tryd.ntmps69
    go_wp2_with (first | (go_at_call 62; refine (m_f3 _ h0 h1 _).mono ?_; rintro e w' ⟨rfl, rfl⟩) | (go_at_call 96; refine (n_privileged _ h0 h1 _ (hG.alloc _)).mono ?_; rintro e w1 ⟨rfl, hb⟩; obtain ⟨hc1, hf1⟩ := bcell hb))
    exact bodyPost_ret (v := .tuple #[(nPriv a).1.v, .bool (nPriv a).2]) (by simp [results, Tryd.results69, go_sem, hc1]) rfl ⟨rfl, below8 (belowA hb) (Nat.le_refl _) _ _ _ _ _ _ _ _⟩
  · rw [if_neg h]
    by_cases h4 : fF3 a < 4
    · rw [if_pos h4]
      go_enter Tryd.func69, Tryd.ntmps69
      go_wp2_with (first | (go_at_call 62; refine (m_f3 _ h0 h1 _).mono ?_; rintro e w' ⟨rfl, rfl⟩))
      exact bodyPost_ret (v := .tuple #[I.v ⟨13, fF3 a, 0, 0, 0, 0, 0, false⟩, .bool true]) (by simp [results, Tryd.results69, go_sem]) rfl ⟨rfl, below1 _⟩
    · rw [if_neg h4]
      have h4' : 4 ≤ fF3 a := by omega
      by_cases h5 : 4 < fF3 a
      · rw [if_pos h5]
        go_enter Tryd.func69, Tryd.ntmps69
        go_wp2_with (first | (go_at_call 62; refine (m_f3 _ h0 h1 _).mono ?_; rintro e w' ⟨rfl, rfl⟩))
        exact bodyPost_ret (v := .tuple #[I.v ⟨14, fF3 a - 4, 0, 0, 0, 0, 0, false⟩, .bool true]) (by simp [results, Tryd.results69, go_sem]) rfl ⟨rfl, below1 _⟩
      · rw [if_neg h5]
        have h5' : fF3 a ≤ 4 := by omega
        go_enter Tryd.func69, Tryd.ntmps69
        go_wp2_with (first | (go_at_call 62; refine (m_f3 _ h0 h1 _).mono ?_; rintro e w' ⟨rfl, rfl⟩))
        exact bodyPost_ret (v := .tuple #[I.v ⟨0, 0, 0, 0, 0, 0, 0, false⟩, .bool false]) (by simp [results, Tryd.results69, go_sem]) rfl ⟨rfl, below1 _⟩
theorem n_atomic (a : Int) (h0 : 0 ≤ a) (h1 : a < 4294967296) (w : World) (hG : G w) :
    Calls Tryd.prog 30 #[.int .u32 a] w fun e w' => e = .returned (.tuple #[(nAto a).1.v, .bool (nAto a).2]) ∧ Below w.heap.size w w' := by
  obtain ⟨gs_x, gc_x⟩ := hG.wid
  have hc_x := gc_x (fF3 a) (fF3_b a).1 (fF3_b a).2
  clear gc_x
  obtain ⟨bl_fF3, bu_fF3⟩ := fF3_b a
  obtain ⟨gs_y, gc_y⟩ := hG.ato
  have hc_y := gc_y (fF5 a) (fF5_b a).1 (fF5_b a).2
  clear gc_y
  obtain ⟨bl_fF5, bu_fF5⟩ := fF5_b a
  unfold nAto
  by_cases h : tAto (fF5 a) = 0
  · rw [if_pos h]
    by_cases h2 : fF5 a = 2
    · have hy2 : w.cell? ⟨4, 2, none⟩ = some (.int .i64 0) := by have q := hc_y; rw [h2] at q; exact q
      clear hc_y
      by_cases hr : fRs2 a = 0
      · rw [if_pos ⟨h2, hr⟩]
        go_enter Tryd.func30, Tryd.ntmps30
        go_wp2_with (first | (go_at_call 62; refine (m_f3 _ h0 h1 _).mono ?_; rintro e w' ⟨rfl, rfl⟩) | (go_at_call 67; refine (m_f5 _ h0 h1 _).mono ?_; rintro e w' ⟨rfl, rfl⟩) | (go_at_call 68; refine (m_rs2 _ h0 h1 _).mono ?_; rintro e w' ⟨rfl, rfl⟩) | (go_at_call 38; refine (m_only _ _ _ _ _ _ _ _ _ _).mono ?_; rintro e w1 ⟨rfl, hb⟩; obtain ⟨hc1, hf1⟩ := bcell hb))
        exact bodyPost_ret (v := .tuple #[(onl ⟨15, 0, 0, 0, 0, 0, tWid (fF3 a), false⟩ (tWid (fF3 a))).1.v, .bool (onl ⟨15, 0, 0, 0, 0, 0, tWid (fF3 a), false⟩ (tWid (fF3 a))).2]) (by simp [results, Tryd.results30, go_sem, hc1]) rfl ⟨rfl, below8 (belowA hb) (Nat.le_refl _) _ _ _ _ _ _ _ _⟩
      · rw [if_neg (fun x => hr x.2), if_neg (by omega)]
        go_enter Tryd.func30, Tryd.ntmps30
        go_wp2_with (first | (go_at_call 62; refine (m_f3 _ h0 h1 _).mono ?_; rintro e w' ⟨rfl, rfl⟩) | (go_at_call 67; refine (m_f5 _ h0 h1 _).mono ?_; rintro e w' ⟨rfl, rfl⟩) | (go_at_call 68; refine (m_rs2 _ h0 h1 _).mono ?_; rintro e w' ⟨rfl, rfl⟩) | (go_at_call 38; refine (m_only _ _ _ _ _ _ _ _ _ _).mono ?_; rintro e w1 ⟨rfl, hb⟩; obtain ⟨hc1, hf1⟩ := bcell hb))
        exact bodyPost_ret (v := .tuple #[I.v ⟨0, 0, 0, 0, 0, 0, 0, false⟩, .bool false]) (by simp [results, Tryd.results30, go_sem]) rfl ⟨rfl, below1 _⟩
    · rw [if_neg (fun x => h2 x.1)]
      by_cases h3 : fF5 a = 3
      · rw [if_pos h3]
        have hy2 : w.cell? ⟨4, 3, none⟩ = some (.int .i64 0) := by have q := hc_y; rw [h3] at q; exact q
        clear hc_y
        go_enter Tryd.func30, Tryd.ntmps30
        go_wp2_with (first | (go_at_call 62; refine (m_f3 _ h0 h1 _).mono ?_; rintro e w' ⟨rfl, rfl⟩) | (go_at_call 67; refine (m_f5 _ h0 h1 _).mono ?_; rintro e w' ⟨rfl, rfl⟩) | (go_at_call 68; refine (m_rs2 _ h0 h1 _).mono ?_; rintro e w' ⟨rfl, rfl⟩) | (go_at_call 38; refine (m_only _ _ _ _ _ _ _ _ _ _).mono ?_; rintro e w1 ⟨rfl, hb⟩; obtain ⟨hc1, hf1⟩ := bcell hb))
        exact bodyPost_ret (v := .tuple #[(onl ⟨16, 0, 0, 0, 0, 0, tWid (fF3 a), false⟩ (tWid (fF3 a))).1.v, .bool (onl ⟨16, 0, 0, 0, 0, 0, tWid (fF3 a), false⟩ (tWid (fF3 a))).2]) (by simp [results, Tryd.results30, go_sem, hc1]) rfl ⟨rfl, below8 (belowA hb) (Nat.le_refl _) _ _ _ _ _ _ _ _⟩
      · rw [if_neg h3]
        go_enter Tryd.func30, Tryd.ntmps30
        go_wp2_with (first | (go_at_call 62; refine (m_f3 _ h0 h1 _).mono ?_; rintro e w' ⟨rfl, rfl⟩) | (go_at_call 67; refine (m_f5 _ h0 h1 _).mono ?_; rintro e w' ⟨rfl, rfl⟩) | (go_at_call 68; refine (m_rs2 _ h0 h1 _).mono ?_; rintro e w' ⟨rfl, rfl⟩) | (go_at_call 38; refine (m_only _ _ _ _ _ _ _ _ _ _).mono ?_; rintro e w1 ⟨rfl, hb⟩; obtain ⟨hc1, hf1⟩ := bcell hb))
        exact bodyPost_ret (v := .tuple #[I.v ⟨0, 0, 0, 0, 0, 0, 0, false⟩, .bool false]) (by simp [results, Tryd.results30, go_sem]) rfl ⟨rfl, below1 _⟩
  · rw [if_neg h]
    go_enter Tryd.func30, Tryd.ntmps30
    go_wp2_with (first | (go_at_call 62; refine (m_f3 _ h0 h1 _).mono ?_; rintro e w' ⟨rfl, rfl⟩) | (go_at_call 67; refine (m_f5 _ h0 h1 _).mono ?_; rintro e w' ⟨rfl, rfl⟩) | (go_at_call 68; refine (m_rs2 _ h0 h1 _).mono ?_; rintro e w' ⟨rfl, rfl⟩) | (go_at_call 38; refine (m_only _ _ _ _ _ _ _ _ _ _).mono ?_; rintro e w1 ⟨rfl, hb⟩; obtain ⟨hc1, hf1⟩ := bcell hb))
    exact bodyPost_ret (v := .tuple #[(onl ⟨17, tAto (fF5 a), 0, 0, 0, 0, tWid (fF3 a), false⟩ (tWid (fF3 a))).1.v, .bool (onl ⟨17, tAto (fF5 a), 0, 0, 0, 0, tWid (fF3 a), false⟩ (tWid (fF3 a))).2]) (by simp [results, Tryd.results30, go_sem, hc1]) rfl ⟨rfl, below8 (belowA hb) (Nat.le_refl _) _ _ _ _ _ _ _ _⟩
end Go.Proofs.YtedkkdjmikhejaaDoor
