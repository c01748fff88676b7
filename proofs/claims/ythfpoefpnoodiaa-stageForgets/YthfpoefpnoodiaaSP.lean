/- VMIDs: P10.1. -/
import Derived.Test.YthfpoefpnoodiaaMH6
namespace Go.Proofs.Ythfpoefpnoodiaa
open Go.RowKit
open C (Only hid Mem RMem Still ret_bool ret_int)
set_option linter.unusedVariables false
set_option maxRecDepth 100000

/-- who is taken, as it stands -/
def bcs (T : Nat → Bool) : Array Value := ((List.range 16).map fun j => Value.bool (T j)).toArray
theorem bcs_0 : bcs (fun _ => false) = #[.bool false, .bool false, .bool false, .bool false, .bool false, .bool false, .bool false, .bool false, .bool false, .bool false, .bool false, .bool false, .bool false, .bool false, .bool false, .bool false] := rfl
theorem bcs_size (T : Nat → Bool) : (bcs T).size = 16 := by simp [bcs]
theorem bcs_at (T : Nat → Bool) (k : Nat) (hk : k < 16) : (bcs T)[k]? = some (.bool (T k)) := by unfold bcs; simp [hk]
theorem bcs_set (T : Nat → Bool) (k : Nat) (x : Bool) (hk : k < 16) : (bcs T).setIfInBounds k (.bool x) = bcs (upd T k x) := by
  apply Array.ext_getElem?
  intro j
  rw [Array.getElem?_setIfInBounds]
  rcases Nat.lt_or_ge j 16 with q | q
  · rw [bcs_at _ _ q, bcs_at _ _ q, bcs_size]
    by_cases e : k = j
    · subst e; simp [hk, upd_same]
    · rw [if_neg e, upd_other _ _ _ _ (Ne.symm e)]
  · rw [Array.getElem?_eq_none (by rw [bcs_size]; exact q), Array.getElem?_eq_none (by rw [bcs_size]; exact q), bcs_size]
    split
    · exfalso; omega
    · rfl
/-- the lowest that is not taken, from 16 - d on; 0: none -/
def gD (T : Nat → Bool) : Nat → Nat
  | 0 => 0
  | d + 1 => bif T (15 - d) then gD T d else 15 - d
theorem gD_spec (T : Nat → Bool) : ∀ d, d ≤ 15 → (gD T d = 0 ∧ ∀ j, 16 - d ≤ j → j ≤ 15 → T j = true) ∨ (16 - d ≤ gD T d ∧ gD T d ≤ 15 ∧ T (gD T d) = false ∧ ∀ j, 16 - d ≤ j → j < gD T d → T j = true)
  | 0, _ => .inl ⟨rfl, fun j h1 h2 => by omega⟩
  | d + 1, hd => by
    unfold gD
    cases e : T (15 - d)
    · right
      exact ⟨by show _ ≤ 15 - d; omega, by show 15 - d ≤ 15; omega, e, fun j h1 h2 => by have h2' : j < 15 - d := h2; omega⟩
    · rcases gD_spec T d (by omega) with ⟨h1, h2⟩ | ⟨h1, h2, h3, h4⟩
      · refine .inl ⟨h1, fun j j1 j2 => ?_⟩
        by_cases q : j = 15 - d
        · subst q; exact e
        · exact h2 j (by omega) j2
      · refine .inr ⟨by show _ ≤ gD T d; omega, h2, h3, fun j j1 j2 => ?_⟩
        have j2' : j < gD T d := j2
        by_cases q : j = 15 - d
        · subst q; exact e
        · exact h4 j (by omega) j2'
def low (T : Nat → Bool) : Nat := gD T 15
def lowE (T : Nat → Bool) : Int := if low T = 0 then 22 else 0
def lowT (T : Nat → Bool) : Nat → Bool := if low T = 0 then T else upd T (low T) true
def Vb (w : World) (g : Nat) (T : Nat → Bool) : Prop := w.heap[g]? = some (.cells (bcs T) 195 (0, 0))
theorem Vb.c {w : World} {g : Nat} {T : Nat → Bool} (h : Vb w g T) (k : Nat) (hk : k < 16) : w.cell? ⟨g, k, none⟩ = some (.bool (T k)) := (cell_of_row w g k _ _ _ h).trans (bcs_at T k hk)
theorem v_New (w : World) : Calls Try.prog 31 #[] w fun r w' => ∃ g, r = .returned (.pointer (some ⟨g, 0, none⟩)) ∧ Vb w' g (fun _ => false) ∧ Below w.heap.size w w' ∧ w.heap.size ≤ g := by
  go_enter Try.func31, Try.ntmps31
  go_wp2
  go_ret
  exact ⟨w.heap.size, rfl, heap_alloc_new w _, (Below.refl _ _).alloc (Nat.le_refl _) _, Nat.le_refl _⟩
theorem v_Take (w : World) (g : Nat) (T : Nat → Bool) (h : Vb w g T) : Calls Try.prog 32 #[.pointer (some ⟨g, 0, none⟩)] w fun r w' => r = .returned (.tuple #[.int .i64 (low T : Nat), .int .i64 (lowE T)]) ∧ Vb w' g (lowT T) ∧ Only (· = g) w w' := by
  have H := hid h
  clear h
  go_enter Try.func32, Try.ntmps32
  go_wp2_with fail
  go_loopw [4] (fun i wr => ∃ k : Nat, 1 ≤ k ∧ k ≤ 16 ∧ i = .int .i64 k ∧ wr = w ∧ Hid (∀ j, 1 ≤ j → j < k → T j = true)) (fun i _ => 16 - (intOf i).toNat)
  case atStart => exact ⟨1, by omega, by omega, rfl, rfl, fun j h1 h2 => by omega⟩
  case round =>
    obtain ⟨k, k1, k16, rfl, rfl, hI⟩ := hrel
    by_cases hlt : k ≤ 15
    · have c := H.out.c k (by omega)
      have z : wr.frozen? ⟨g, k, none⟩ = false := frozen_of_row wr g k _ _ H.out
      cases hT : T k
      · rw [hT] at c
        have e : low T = k := by
          unfold low
          rcases gD_spec T 15 (by decide) with ⟨h1, h2⟩ | ⟨h1, h2, h3, h4⟩
          · have := h2 k (by omega) hlt; rw [hT] at this; cases this
          · rcases Nat.lt_trichotomy (gD T 15) k with q | q | q
            · have := hI.out _ (by omega) q; rw [h3] at this; cases this
            · exact q
            · have := h4 k (by omega) q; rw [hT] at this; cases this
        have e0 : ¬ k = 0 := by omega
        have HE := hid e
        clear e
        go_wp2_with fail
        go_ret2
        have e1 : lowE T = 0 := by unfold lowE; rw [HE.out, if_neg e0]
        have e2 : lowT T = upd T k true := by unfold lowT; rw [HE.out, if_neg e0]
        exact ⟨by rw [HE.out, e1]; rfl, by rw [e2]; exact setRowB wr g k _ _ _ _ H.out (bcs_set T k true (by omega)), only_c _ _ _ _⟩
      · rw [hT] at c
        go_wp2_with fail
        go_roundw
        case rel => exact ⟨k + 1, by omega, by omega, by go_num, trivial, fun j h1 h2 => by
          by_cases q : j = k
          · subst q; exact hT
          · exact hI.out j h1 (by omega)⟩
        case measure => simp [intOf]; omega
    · have e : low T = 0 := by
        unfold low
        rcases gD_spec T 15 (by decide) with ⟨h1, h2⟩ | ⟨h1, h2, h3, h4⟩
        · exact h1
        · have := hI.out (gD T 15) (by omega) (by omega); rw [h3] at this; cases this
      have HE := hid e
      clear e
      go_wp2_with fail
      go_ret2
      have e1 : lowE T = 22 := by unfold lowE; rw [HE.out]; rfl
      have e2 : lowT T = T := by unfold lowT; rw [HE.out]; rfl
      exact ⟨by rw [HE.out, e1]; rfl, by rw [e2]; exact H.out, .refl _⟩
def gvR (T : Nat → Bool) (x : Int) : Bool := vmOk x && T x.toNat
def gvE (T : Nat → Bool) (x : Int) : Int := if gvR T x = true then 0 else 1
def gvT (T : Nat → Bool) (x : Int) : Nat → Bool := if gvR T x = true then upd T x.toNat false else T
theorem gv_no {T : Nat → Bool} {x : Int} (h : gvR T x = false) : gvE T x = 1 ∧ gvT T x = T := by unfold gvE gvT; rw [h]; exact ⟨rfl, rfl⟩
theorem gv_yes {T : Nat → Bool} {x : Int} (h : gvR T x = true) : gvE T x = 0 ∧ gvT T x = upd T x.toNat false := by unfold gvE gvT; rw [h]; exact ⟨rfl, rfl⟩
theorem v_Give (w : World) (g : Nat) (T : Nat → Bool) (h : Vb w g T) (x : Int) : Calls Try.prog 33 #[.pointer (some ⟨g, 0, none⟩), .int .i64 x] w fun r w' => r = .returned (.int .i64 (gvE T x)) ∧ Vb w' g (gvT T x) ∧ Only (· = g) w w' := by
  have hv := c_isVmid x
  cases hx : vmOk x
  · rw [hx] at hv
    have e := gv_no (T := T) (x := x) (by unfold gvR; rw [hx]; rfl)
    rw [e.1, e.2]
    clear e
    go_enter Try.func33, Try.ntmps33
    go_wp2_with (go_at_call 98; refine (hv _).mono ?_; rintro r w1 ⟨rfl, hw⟩; obtain rfl := hw.symm)
    go_ret
    exact ⟨rfl, h, .refl _⟩
  · rw [hx] at hv
    have hb : 1 ≤ x ∧ x ≤ 15 := by simpa [vmOk] using hx
    obtain ⟨k, rfl⟩ := Int.eq_ofNat_of_zero_le (show 0 ≤ x by omega)
    have c := h.c k (by omega)
    have z : w.frozen? ⟨g, k, none⟩ = false := frozen_of_row w g k _ _ h
    have H := hid h
    cases hT : T k
    · rw [hT] at c
      have e := gv_no (T := T) (x := (k : Int)) (by unfold gvR; rw [hx]; exact hT)
      rw [e.1, e.2]
      clear e h hx
      go_enter Try.func33, Try.ntmps33
      go_wp2_with (go_at_call 98; refine (hv _).mono ?_; rintro r w1 ⟨rfl, hw⟩; obtain rfl := hw.symm)
      go_ret
      exact ⟨rfl, H.out, .refl _⟩
    · rw [hT] at c
      have e := gv_yes (T := T) (x := (k : Int)) (by unfold gvR; rw [hx]; exact hT)
      rw [e.1, e.2]
      clear e h hx
      go_enter Try.func33, Try.ntmps33
      go_wp2_with (go_at_call 98; refine (hv _).mono ?_; rintro r w1 ⟨rfl, hw⟩; obtain rfl := hw.symm)
      go_ret
      exact ⟨rfl, setRowB w g k _ _ _ _ H.out (bcs_set T k false (by omega)), only_c _ _ _ _⟩
theorem upd_id (T : Nat → Bool) (k : Nat) (x : Bool) (h : T k = x) : upd T k x = T := by
  funext j
  unfold upd
  split
  · rename_i e; rw [e, h]
  · rfl
theorem Vb.old0 {w : World} {g : Nat} {T : Nat → Bool} (h : Vb w g T) {b k : Nat} {x : Value} (hb : b ≠ g) : Vb (w.setCell ⟨b, k, none⟩ x) g T := (only_c w b k x).old h fun e => hb e.symm
/-- the law's own array -/
def La (w : World) (g : Nat) (T : Nat → Bool) : Prop := w.heap[g]? = some (.cells (bcs T) 72 (0, 0))
theorem La.c {w : World} {g : Nat} {T : Nat → Bool} (h : La w g T) (k : Nat) (hk : k < 16) : w.cell? ⟨g, k, none⟩ = some (.bool (T k)) := (cell_of_row w g k _ _ _ h).trans (bcs_at T k hk)
set_option maxHeartbeats 2000000 in
theorem w_StageVmids (W : World) (ad : Option Addr) (la cap ab ao : Nat) (A : Nat → Int) (hA : Nu W ad la cap ab ao A) : Calls Try.prog 5 #[.slice ad la cap] W fun r w' => r = .returned (.bool true) ∧ Below W.heap.size W w' := by
  have HA := hid hA
  have hlen := hA.len
  have hcap := hA.cap
  have hN := v_New W
  have HAW := hid l_awake10
  clear hA
  go_enter Try.func5, Try.ntmps5
  go_upto_region 5 with (go_at_call 31; refine hN.mono ?_; rintro r w1 ⟨g, rfl, h1, h2, h3⟩; have H1 := hid h1; have H2 := hid h2; have H3 := hid h3; clear h1 h2 h3)
  rw [← bcs_0]
  obtain ⟨wa, hwa⟩ : ∃ wa, wa = w1.alloc (.cells (bcs fun _ => false) 72) := ⟨_, rfl⟩
  have HB : Hid (Below W.heap.size W wa) := hwa ▸ H2.out.alloc H2.out.size _
  have HL : Hid (La wa w1.heap.size (fun _ => false)) := hwa ▸ heap_alloc_new w1 _
  have HV : Hid (Vb wa g (fun _ => false)) := hwa ▸ (Below.heap_alloc w1 _ _ (lt_of_block H1.out)).trans H1.out
  rw [← hwa]
  clear hwa hN
  go_wp2_with fail
  go_loopw [5, 6, 7, 8, 9, 10, 11] (fun i x wn k gt e rt wr => ∃ (n : Nat) (T : Nat → Bool), n ≤ la ∧ i = .int .i64 n ∧ Hid (Vb wr g T ∧ La wr w1.heap.size T ∧ T 0 = false ∧ Below W.heap.size W wr)) (fun i x wn k gt e rt _ => la - (intOf i).toNat)
  case atStart => exact ⟨0, fun _ => false, by omega, rfl, HV.out, HL.out, rfl, HB.out⟩
  case round =>
    obtain ⟨n, T, hn, rfl, hI⟩ := hrel
    by_cases hlt : n < la
    · have hc := (HA.out.below hI.out.2.2.2).cell n hlt
      have had := (HA.out.at0 (by omega)).1
      subst had
      have hx := HA.out.num n
      generalize A n = x at hc hx
      by_cases hev : x.tmod 2 = 0
      · have hev' : (x.tmod 2 == 0) = true := by rw [beq_iff_eq]; exact hev
        go_wp2_with fail
        go_loopw [7, 8] (fun wn k wr2 => ∃ d : Nat, d ≤ 15 ∧ k = .int .i64 (15 - (d : Int)) ∧ wn = .int .i64 (gD T d) ∧ wr2 = wr) (fun wn k _ => (intOf k).toNat)
        case atStart => exact ⟨0, by omega, rfl, rfl, rfl⟩
        case round =>
          obtain ⟨d, hd, rfl, rfl, hw2⟩ := hrel
          obtain rfl := hw2.symm
          by_cases hd15 : d < 15
          · obtain ⟨k, hk⟩ : ∃ k : Nat, k = 15 - d := ⟨_, rfl⟩
            have e1 : (15 - (d : Int)) = (k : Int) := by omega
            have c := hI.out.2.1.c k (by omega)
            rw [e1]
            have e2 : (k : Int) - 1 = 15 - ((d + 1 : Nat) : Int) := by omega
            have k1 : 1 ≤ k := by omega
            have k15 : k ≤ 15 := by omega
            have g2 : gD T (d + 1) = bif T k then gD T d else k := by rw [hk]; rfl
            have HK := hid (⟨e1, e2, g2⟩ : _ ∧ _ ∧ _)
            clear hk e1 e2 g2
            cases hT : T k
            · rw [hT] at c HK
              go_wp2_with fail
              go_roundw
              case rel => exact ⟨d + 1, by omega, by first | exact congrArg (Value.int .i64) HK.out.2.1 | (rw [← HK.out.2.1]; go_num), by rw [HK.out.2.2]; rfl, trivial⟩
              case measure => first | (simp [intOf]; done) | (simp [intOf]; omega)
            · rw [hT] at c HK
              go_wp2_with fail
              go_roundw
              case rel => exact ⟨d + 1, by omega, by first | exact congrArg (Value.int .i64) HK.out.2.1 | (rw [← HK.out.2.1]; go_num), by rw [HK.out.2.2]; rfl, trivial⟩
              case measure => first | (simp [intOf]; done) | (simp [intOf]; omega)
          · obtain rfl : d = 15 := by omega
            rw [show gD T 15 = low T from rfl]
            have hT := v_Take wr g T hI.out.1
            have hne : Hid (w1.heap.size ≠ g) := fun e => by
              have h1 := hI.out.1
              have h2 := hI.out.2.1
              unfold Vb at h1
              unfold La at h2
              rw [e, h1] at h2
              simp at h2
            have hl15 : low T ≤ 15 := by
              rcases gD_spec T 15 (by decide) with ⟨h1, h2⟩ | ⟨h1, h2, h3, h4⟩
              · show gD T 15 ≤ 15; omega
              · exact h2
            have HS : Hid (∀ w3, Vb w3 g (lowT T) → Only (· = g) wr w3 → La w3 w1.heap.size T ∧ Below W.heap.size W w3) := fun w3 h1 h2 => ⟨h2.old hI.out.2.1 hne.out, hI.out.2.2.2.trans (h2.below _ hI.out.2.2.2.size fun k hk => by subst hk; exact H3.out)⟩
            by_cases z : low T = 0
            · have e1 : lowE T = 22 := by unfold lowE; rw [z]; rfl
              have e2 : lowT T = T := by unfold lowT; rw [z]; rfl
              rw [z, e1, e2] at hT
              rw [e2] at HS
              rw [z]
              clear z e1 e2 hl15
              go_wp2_with (go_at_call 32; refine hT.mono ?_; rintro r w3 ⟨rfl, h1, h2⟩; have H4 := hid h1; have H5 := hid (HS.out w3 h1 h2); have c0 := H5.out.1.c 0 (by decide); have z0 : w3.frozen? ⟨w1.heap.size, 0, none⟩ = false := frozen_of_row w3 _ 0 _ _ H5.out.1; clear h1 h2)
              go_roundw
              case rel =>
                refine ⟨n + 1, T, by omega, by go_num, H4.out.old0 hne.out, ?_, hI.out.2.2.1, H5.out.2.setCell (p := ⟨w1.heap.size, 0, none⟩) H2.out.size _⟩
                have := setRowB w3 w1.heap.size 0 _ _ _ (.bool false) H5.out.1 (bcs_set T 0 false (by decide))
                rw [upd_id T 0 false hI.out.2.2.1] at this
                exact this
              case measure => first | (simp [intOf]; done) | (simp [intOf]; omega)
            · have e1 : lowE T = 0 := by unfold lowE; rw [if_neg z]
              have e2 : lowT T = upd T (low T) true := by unfold lowT; rw [if_neg z]
              rw [e1] at hT
              have zq : ((low T : Int) == 0) = false := by rw [beq_eq_false_iff_ne]; omega
              have zb : ((low T : Int) != 0) = true := by rw [bne, zq]; rfl
              have E2 := hid e2
              have NE : Hid (0 ≠ low T) := fun e => z e.symm
              generalize low T = lw at *
              clear z e1 e2
              go_wp2_with (go_at_call 32; refine hT.mono ?_; rintro r w3 ⟨rfl, h1, h2⟩; have H4 := hid h1; have H5 := hid (HS.out w3 h1 h2); have c0 := H5.out.1.c lw (by omega); have z0 : w3.frozen? ⟨w1.heap.size, lw, none⟩ = false := frozen_of_row w3 _ lw _ _ H5.out.1; clear h1 h2)
              go_roundw
              case rel =>
                refine ⟨n + 1, lowT T, by omega, by go_num, H4.out.old0 hne.out, ?_, ?_, H5.out.2.setCell (p := ⟨w1.heap.size, lw, none⟩) H2.out.size _⟩
                · rw [E2.out]; exact setRowB w3 w1.heap.size lw _ _ _ (.bool true) H5.out.1 (bcs_set T lw true (by omega))
                · rw [E2.out, upd_other _ _ _ _ NE.out]; exact hI.out.2.2.1
              case measure => first | (simp [intOf]; done) | (simp [intOf]; omega)
      · have hev' : (x.tmod 2 == 0) = false := by rw [beq_eq_false_iff_ne]; exact hev
        obtain ⟨y, hy⟩ : ∃ y : Int, y = x.tdiv 2 := ⟨_, rfl⟩
        have hyb : -9223372036854775808 ≤ y ∧ y ≤ 9223372036854775807 := by
          rcases Int.le_total 0 x with q | q
          · rw [Int.tdiv_eq_ediv_of_nonneg q] at hy; omega
          · have := Int.neg_tdiv (-x) 2
            rw [Int.neg_neg] at this
            rw [this, Int.tdiv_eq_ediv_of_nonneg (by omega)] at hy
            omega
        have hyw : wrap64 (x.tdiv 2) = y := by rw [← hy]; unfold wrap64; omega
        have hyq : x.tdiv 2 = y := hy.symm
        have hG := v_Give wr g T hI.out.1 y
        have hne : Hid (w1.heap.size ≠ g) := fun e => by
          have h1 := hI.out.1
          have h2 := hI.out.2.1
          unfold Vb at h1
          unfold La at h2
          rw [e, h1] at h2
          simp at h2
        have HS : Hid (∀ w3, Only (· = g) wr w3 → La w3 w1.heap.size T ∧ Below W.heap.size W w3) := fun w3 h2 => ⟨h2.old hI.out.2.1 hne.out, hI.out.2.2.2.trans (h2.below _ hI.out.2.2.2.size fun k hk => by subst hk; exact H3.out)⟩
        clear hy hev
        by_cases h1 : 1 ≤ y
        · by_cases h2 : y ≤ 15
          · obtain ⟨k, rfl⟩ := Int.eq_ofNat_of_zero_le (show 0 ≤ y by omega)
            have c := hI.out.2.1.c k (by omega)
            cases hT : T k
            · have e := gv_no (T := T) (x := (k : Int)) (by unfold gvR; rw [show (k : Int).toNat = k from rfl, hT]; simp)
              rw [e.1, e.2] at hG
              rw [hT] at c
              clear e
              go_wp2_with (go_at_call 33; refine hG.mono ?_; rintro r w3 ⟨rfl, h1, h2⟩; have H4 := hid h1; have H5 := hid (HS.out w3 h2); clear h1 h2)
              go_roundw
              case rel => exact ⟨n + 1, T, by omega, by go_num, H4.out, H5.out.1, hI.out.2.2.1, H5.out.2⟩
              case measure => first | (simp [intOf]; done) | (simp [intOf]; omega)
            · have e := gv_yes (T := T) (x := (k : Int)) (by unfold gvR vmOk; rw [show (k : Int).toNat = k from rfl, hT]; simp; omega)
              rw [e.1, e.2, show (k : Int).toNat = k from rfl] at hG
              rw [hT] at c
              clear e
              go_wp2_with (go_at_call 33; refine hG.mono ?_; rintro r w3 ⟨rfl, h1, h2⟩; have H4 := hid h1; have H5 := hid (HS.out w3 h2); have c0 := H5.out.1.c k (by omega); have z0 : w3.frozen? ⟨w1.heap.size, k, none⟩ = false := frozen_of_row w3 _ k _ _ H5.out.1; clear h1 h2)
              go_roundw
              case rel => exact ⟨n + 1, upd T k false, by omega, by go_num, H4.out.old0 hne.out, setRowB w3 w1.heap.size k _ _ _ (.bool false) H5.out.1 (bcs_set T k false (by omega)), by rw [upd_other _ _ _ _ (by omega)]; exact hI.out.2.2.1, H5.out.2.setCell (p := ⟨w1.heap.size, k, none⟩) H2.out.size _⟩
              case measure => first | (simp [intOf]; done) | (simp [intOf]; omega)
          · have e := gv_no (T := T) (x := y) (by unfold gvR vmOk; simp; omega)
            rw [e.1, e.2] at hG
            clear e
            go_wp2_with (go_at_call 33; refine hG.mono ?_; rintro r w3 ⟨rfl, h1, h2⟩; have H4 := hid h1; have H5 := hid (HS.out w3 h2); clear h1 h2)
            go_roundw
            case rel => exact ⟨n + 1, T, by omega, by go_num, H4.out, H5.out.1, hI.out.2.2.1, H5.out.2⟩
            case measure => first | (simp [intOf]; done) | (simp [intOf]; omega)
        · have e := gv_no (T := T) (x := y) (by unfold gvR vmOk; simp; omega)
          rw [e.1, e.2] at hG
          clear e
          go_wp2_with (go_at_call 33; refine hG.mono ?_; rintro r w3 ⟨rfl, h1, h2⟩; have H4 := hid h1; have H5 := hid (HS.out w3 h2); clear h1 h2)
          go_roundw
          case rel => exact ⟨n + 1, T, by omega, by go_num, H4.out, H5.out.1, hI.out.2.2.1, H5.out.2⟩
          case measure => first | (simp [intOf]; done) | (simp [intOf]; omega)
    · obtain rfl : n = la := by omega
      have hAw := HAW.out wr
      go_wp2_with (go_at_call 13; refine hAw.mono ?_; rintro r w5 ⟨rfl, hb⟩; have HB5 := hid hb; clear hb)
      go_ret
      exact ⟨rfl, hI.out.2.2.2.trans (HB5.out.mono hI.out.2.2.2.size)⟩
end Go.Proofs.Ythfpoefpnoodiaa
