/- A bus: Kind, Bar, Find. -/
import Derived.Test.YtjkihlpckgaggaaGreatKG
namespace Go.Proofs.YtjkihlpckgaggaaGreat.P
open Go.RowKit
open C (Only hid Still ret_bool ret_int row)
set_option linter.unusedVariables false
set_option maxRecDepth 100000

/-- are the registers let -/
def bt2 (c : Int) : Bool := bits BinOp.and IntKind.u8 c 2 != 0
def Sv.on (v : Sv) : Bool := v.base != 0 && bt2 v.c
theorem base_b {v : Sv} (h : SOk v) : 0 ≤ v.base ∧ v.base < 4294967296 := by
  have h1 := h.b1.1
  have h2 := h.b2
  have h3 := h.b3
  unfold Byt at h1 h2 h3
  unfold Sv.base
  omega
theorem base_m {v : Sv} (h : SOk v) : v.base % 4096 = 0 := by
  have h1 := h.b1.2
  unfold Sv.base
  omega
theorem gv_kind (v : Sv) (h : SOk v) : gv v 46 2 = v.k := by
  rw [gv2]
  have h1 : tab v 46 = C.byt v.k 0 := by simp [tab, sp0, C.put]
  have h2 : tab v (46 + 1) = C.byt v.k 1 := by simp [tab, sp0, C.put]
  rw [h1, h2]
  have := h.k
  unfold C.byt
  simp only [Int.pow_zero, show (256 : Int) ^ 1 = 256 by decide]
  omega
section
variable {W w : World} {p n : Nat} {V : Nat → Sv}
theorem l_has (h : LB W w p n V) (s : Int) (s0 : -9223372036854775808 ≤ s) (s1 : s ≤ 9223372036854775807) : Calls Tryz.prog 68 #[.pointer (some ⟨p, 0, none⟩), .int .i64 s] w fun e w' => e = .returned (.bool (hasS n s)) ∧ w' = w := by
  obtain ⟨F, h1, h2, h3, h4⟩ := h
  obtain ⟨u, k1, k2⟩ := h1.b
  exact c_has w p n u _ k1 h1.n s s0 s1
theorem l_Slots (h : LB W w p n V) : Calls Tryz.prog 43 #[.pointer (some ⟨p, 0, none⟩)] w fun e w' => e = .returned (.int .i64 n) ∧ w' = w := by
  obtain ⟨F, h1, h2, h3, h4⟩ := h
  obtain ⟨u, k1, k2⟩ := h1.b
  exact c_Slots w p n u _ k1
/-- the list of slots, and one of them -/
theorem LB.at (h : LB W w p n V) (s : Nat) (hs : s < n) : ∃ g cap, w.cell? ⟨p, 0, none⟩ = some (.slice (some ⟨g, 0, none⟩) n cap) ∧ n ≤ cap ∧ cap ≤ 9223372036854775807 ∧ n ≤ 8 ∧ w.cell? ⟨g, s * 256 + 4, none⟩ = some (.int .u8 (V s).c) ∧ ∀ (o z : Nat), z ≤ 4 → o + z ≤ 256 → Calls Tryz.prog 69 #[.pointer (some ⟨g, s * 256, none⟩), .int .u64 (o : Int), .int .i64 (z : Int)] w fun e w' => e = .returned (.int .u64 (gv (V s) o z)) ∧ w' = w := by
  obtain ⟨F, h1, h2, h3, h4⟩ := h
  obtain ⟨u, k1, k2⟩ := h1.b
  obtain ⟨g, cap, rfl, m1, m2, m3⟩ := own_spR k1.own (by omega)
  refine ⟨g, cap, cell_of_row w p 0 _ _ _ k1.top, m1, m2, h1.n, ?_, fun o z hz ho => ?_⟩
  · rw [m3.cell (s * 256 + 4) (by omega)]
    unfold fB
    rw [show (s * 256 + 4) / 256 = s by omega, show (s * 256 + 4) % 256 = 4 by omega]
    rfl
  · have := s_get w g 168 _ _ _ m3 h1.f (s * 256) o z hz ho (by omega)
    have e := gtS_fB V s o z ho
    unfold gtS at e
    rw [e] at this
    exact this
/-- a device's kind -/
def kdV (n : Nat) (V : Nat → Sv) (s : Int) : Int := if hasS n s then (V s.toNat).k else 0
/-- where a slot's registers are -/
def bsV (n : Nat) (V : Nat → Sv) (s : Int) : Int := if hasS n s then (V s.toNat).base else 0
def onV (n : Nat) (V : Nat → Sv) (s : Int) : Bool := hasS n s && (V s.toNat).on
theorem l_Bar (h : LB W w p n V) (s : Int) (s0 : -9223372036854775808 ≤ s) (s1 : s ≤ 9223372036854775807) : Calls Tryz.prog 51 #[.pointer (some ⟨p, 0, none⟩), .int .i64 s] w fun e w' => e = .returned (.tuple #[.int .u64 (bsV n V s), .bool (onV n V s)]) ∧ Still w w' := by
  have hh := l_has h s s0 s1
  have HR : Hid (bsV n V s = if hasS n s then (V s.toNat).base else 0) := rfl
  have HO : Hid (onV n V s = (hasS n s && (V s.toNat).on)) := rfl
  generalize bsV n V s = r at *
  generalize onV n V s = t at *
  cases e2 : hasS n s
  · rw [e2] at hh HR HO
    obtain rfl : r = 0 := HR.out
    obtain rfl : t = false := HO.out
    clear h HR HO
    go_enter Tryz.func51, Tryz.ntmps51
    go_wp2_with (go_at_call 68; refine hh.mono ?_; rintro e w' ⟨rfl, hw⟩; obtain rfl := hw.symm)
    go_returns
    exact ⟨rfl, .refl w⟩
  · obtain ⟨r1, r2⟩ := hasS_spec e2
    rw [e2] at hh HR HO
    obtain ⟨S, rfl⟩ : ∃ S : Nat, s = S := ⟨s.toNat, by omega⟩
    obtain rfl : r = (V S).base := HR.out
    obtain rfl : t = (V S).on := HO.out
    obtain ⟨g, cap, c0, m1, m2, n8, c4, hg⟩ := h.at S (by omega)
    have hg := hg 16 4 (by decide) (by decide)
    have hk : SOk (V S) := by obtain ⟨F, h1, h2, h3, h4⟩ := h; exact h2 S
    rw [gv_base] at hg
    obtain ⟨b0, b1⟩ := base_b hk
    obtain ⟨d0, d1⟩ := hk.c.1
    have HN : Hid ((V S).on = ((V S).base != 0 && bt2 (V S).c)) := rfl
    clear h HR HO hk
    generalize (V S).on = ON at *
    generalize (V S).base = B at *
    generalize (V S).c = c at *
    unfold bt2 at HN
    by_cases z : B = 0
    · subst z
      go_enter Tryz.func51, Tryz.ntmps51
      go_wp2_with (first
        | (go_at_call 68; refine hh.mono ?_; rintro e w' ⟨rfl, hw⟩; obtain rfl := hw.symm)
        | (go_at_call 69; refine hg.mono ?_; rintro e w' ⟨rfl, hw⟩; obtain rfl := hw.symm))
      go_quiet (fail)
      go_wp2
      go_returns
      rw [HN.out]
      exact ⟨rfl, ⟨rfl, rfl, rfl, rfl⟩⟩
    · have zz : (B != 0) = true := by simp [z]
      go_enter Tryz.func51, Tryz.ntmps51
      go_wp2_with (first
        | (go_at_call 68; refine hh.mono ?_; rintro e w' ⟨rfl, hw⟩; obtain rfl := hw.symm)
        | (go_at_call 69; refine hg.mono ?_; rintro e w' ⟨rfl, hw⟩; obtain rfl := hw.symm))
      go_quiet (fail)
      go_wp2
      go_returns
      rw [HN.out]
      rw [zz]
      exact ⟨rfl, ⟨rfl, rfl, rfl, rfl⟩⟩
theorem Still.lb (h : LB W w p n V) {w' : World} (hs : Still w w') : LB W w' p n V := h.below (hs.below _)
end
/-- the first of n for which h says yes, or n -/
def fstH (h : Nat → Bool) : Nat → Nat
  | 0 => 0
  | n + 1 => if fstH h n < n then fstH h n else if h n then n else n + 1
theorem fstH_spec (h : Nat → Bool) : ∀ n, fstH h n ≤ n ∧ (∀ i, i < fstH h n → h i = false) ∧ (fstH h n < n → h (fstH h n) = true)
  | 0 => ⟨Nat.le_refl _, fun i hi => by simp [fstH] at hi, fun q => by simp [fstH] at q⟩
  | n + 1 => by
    obtain ⟨h1, h2, h3⟩ := fstH_spec h n
    unfold fstH
    split
    · rename_i q
      exact ⟨by omega, h2, fun _ => h3 q⟩
    · rename_i q
      have e : fstH h n = n := by omega
      split
      · rename_i r
        exact ⟨by omega, fun i hi => h2 i (by omega), fun _ => r⟩
      · rename_i r
        refine ⟨Nat.le_refl _, fun i hi => ?_, fun z => by omega⟩
        by_cases z : i < n
        · exact h2 i (by omega)
        · obtain rfl : i = n := by omega
          simpa using r
theorem fstH_hit {h : Nat → Bool} {n j : Nat} (hj : j < n) (h1 : h j = true) (h2 : ∀ i, i < j → h i = false) : fstH h n = j := by
  obtain ⟨a, b, c⟩ := fstH_spec h n
  rcases Nat.lt_trichotomy (fstH h n) j with q | q | q
  · have := c (by omega)
    rw [h2 _ q] at this; cases this
  · exact q
  · have := b j q
    rw [h1] at this; cases this
theorem fstH_none {h : Nat → Bool} {n : Nat} (h2 : ∀ i, i < n → h i = false) : fstH h n = n := by
  obtain ⟨a, b, c⟩ := fstH_spec h n
  rcases Nat.lt_or_ge (fstH h n) n with q | q
  · have := c q
    rw [h2 _ q] at this; cases this
  · omega
/-- are a slot's registers at an address -/
def hitV (V : Nat → Sv) (a : Int) (i : Nat) : Bool := (V i).on && decide ((V i).base ≤ a ∧ a - (V i).base < 4096)
def fdS (n : Nat) (V : Nat → Sv) (a : Int) : Int := if fstH (hitV V a) n < n then (fstH (hitV V a) n : Int) else 0
def fdO (n : Nat) (V : Nat → Sv) (a : Int) : Int := if fstH (hitV V a) n < n then a - (V (fstH (hitV V a) n)).base else 0
def fdB (n : Nat) (V : Nat → Sv) (a : Int) : Bool := decide (fstH (hitV V a) n < n)
theorem fd_hit {n : Nat} {V : Nat → Sv} {a : Int} {j : Nat} (hj : j < n) (h1 : hitV V a j = true) (h2 : ∀ i, i < j → hitV V a i = false) : fdS n V a = j ∧ fdO n V a = a - (V j).base ∧ fdB n V a = true := by
  unfold fdS fdO fdB
  rw [fstH_hit hj h1 h2, if_pos hj, if_pos hj]
  exact ⟨rfl, rfl, by simpa using hj⟩
theorem fd_none {n : Nat} {V : Nat → Sv} {a : Int} (h2 : ∀ i, i < n → hitV V a i = false) : fdS n V a = 0 ∧ fdO n V a = 0 ∧ fdB n V a = false := by
  unfold fdS fdO fdB
  rw [fstH_none h2, if_neg (by omega), if_neg (by omega)]
  exact ⟨rfl, rfl, by simp⟩
theorem l_Find {W w : World} {p n : Nat} {V : Nat → Sv} (h : LB W w p n V) (a : Int) (a0 : 0 ≤ a) (a1 : a < 18446744073709551616) : Calls Tryz.prog 39 #[.pointer (some ⟨p, 0, none⟩), .int .u64 a] w fun e w' => e = .returned (.tuple #[.int .i64 (fdS n V a), .int .u64 (fdO n V a), .bool (fdB n V a)]) ∧ Still w w' := by
  obtain ⟨ad, cp, c0, n8⟩ : ∃ ad cp, w.cell? ⟨p, 0, none⟩ = some (.slice ad n cp) ∧ n ≤ 8 := by
    obtain ⟨F, h1, h2, h3, h4⟩ := h
    obtain ⟨u, k1, k2⟩ := h1.b
    rcases k1.own.2 with ⟨q1, q2⟩ | ⟨g, cap, cur, q1, q2⟩
    · exact ⟨none, 0, by rw [cell_of_row w p 0 _ _ _ k1.top, q1, q2]; rfl, h1.n⟩
    · exact ⟨_, cap, by rw [cell_of_row w p 0 _ _ _ k1.top, q1]; rfl, h1.n⟩
  have HB : Hid (∀ w1, Still w w1 → ∀ s : Nat, s < n → Calls Tryz.prog 51 #[.pointer (some ⟨p, 0, none⟩), .int .i64 (s : Int)] w1 fun e w' => e = .returned (.tuple #[.int .u64 (V s).base, .bool (V s).on]) ∧ Still w w') := fun w1 h1 s hs => by
    have := l_Bar (h.below (h1.below _)) s (by omega) (by omega)
    have e : hasS n (s : Int) = true := by unfold hasS; simp; omega
    unfold bsV onV at this
    rw [e, if_pos rfl, Bool.true_and, Int.toNat_natCast] at this
    exact this.mono fun e w' hh => ⟨hh.1, ⟨hh.2.heap.trans h1.heap, hh.2.os.trans h1.os, hh.2.tape.trans h1.tape, hh.2.output.trans h1.output⟩⟩
  have HV : Hid (∀ s, 0 ≤ (V s).base ∧ (V s).base < 4294967296) := fun s => by obtain ⟨F, h1, h2, h3, h4⟩ := h; exact base_b (h2 s)
  clear h
  have HH : Hid (∀ j, j < n → hitV V a j = true → (∀ i, i < j → hitV V a i = false) → fdS n V a = j ∧ fdO n V a = a - (V j).base ∧ fdB n V a = true) := fun j h1 h2 h3 => fd_hit h1 h2 h3
  have HN : Hid ((∀ i, i < n → hitV V a i = false) → fdS n V a = 0 ∧ fdO n V a = 0 ∧ fdB n V a = false) := fd_none
  generalize fdS n V a = rs at *
  generalize fdO n V a = ro at *
  generalize fdB n V a = rb at *
  go_enter Tryz.func39, Tryz.ntmps39
  go_wp2_with fail
  go_loopw [16] (fun i wr => ∃ k : Nat, k ≤ n ∧ i = .int .i64 k ∧ Hid (Still w wr) ∧ Hid (∀ j, j < k → hitV V a j = false)) (fun i _ => n - (intOf i).toNat)
  case atStart => exact ⟨0, by omega, rfl, .refl w, fun j hj => by omega⟩
  case round =>
    obtain ⟨k, hk, rfl, HS, HM⟩ := hrel
    by_cases hlt : k < n
    · have hb := HB.out wr HS.out k hlt
      obtain ⟨v0, v1⟩ := HV.out k
      have HT : Hid (hitV V a k = ((V k).on && decide ((V k).base ≤ a ∧ a - (V k).base < 4096))) := rfl
      have hk2 := HH.out k hlt
      generalize (V k).base = B at *
      generalize (V k).on = o at *
      by_cases hit : o = true ∧ B ≤ a ∧ a - B < 4096
      · obtain ⟨rfl, q1, q2⟩ := hit
        obtain ⟨rfl, rfl, rfl⟩ := hk2 (by rw [HT.out]; simp [q1, q2]) HM.out
        have q3 : (a - B) % 18446744073709551616 = a - B := by omega
        go_wp2_with (go_at_call 51; refine hb.mono ?_; rintro e w1 ⟨rfl, hs⟩; have HS1 := hid hs; clear hs hb)
        go_returns
        exact ⟨rfl, HS1.out⟩
      · have HT2 : Hid (hitV V a k = false) := by
          show _ = _
          rw [HT.out]
          cases o
          · rfl
          · simp
            intro q
            have : ¬ a - B < 4096 := fun r => hit ⟨rfl, q, r⟩
            omega
        have q5 : o = true → ¬ (a - B) % 18446744073709551616 < 4096 := fun ho r => hit ⟨ho, by omega, by omega⟩
        clear hit HT hk2
        cases o
        · go_wp2_with (go_at_call 51; refine hb.mono ?_; rintro e w1 ⟨rfl, hs⟩; have HS1 := hid hs; clear hs hb)
          go_roundw
          case rel => exact ⟨k + 1, by omega, by go_num, HS1, fun j hj => by
            rcases Nat.lt_or_ge j k with z | z
            · exact HM.out j z
            · obtain rfl : j = k := by omega
              exact HT2.out⟩
          case measure => simp [intOf]; omega
        · have q6 := q5 rfl
          clear q5
          obtain ⟨X, hX⟩ : ∃ X, IntKind.u64.wrap (a - B) = X := ⟨_, rfl⟩
          have q7 : 4096 ≤ X := by
            rw [← hX]
            simp only [IntKind.wrap, IntKind.signed, IntKind.bits]
            first | omega | (simp; omega)
          clear q6
          go_wp2_with (go_at_call 51; refine hb.mono ?_; rintro e w1 ⟨rfl, hs⟩; have HS1 := hid hs; clear hs hb)
          go_roundw
          case rel => exact ⟨k + 1, by omega, by go_num, HS1, fun j hj => by
            rcases Nat.lt_or_ge j k with z | z
            · exact HM.out j z
            · obtain rfl : j = k := by omega
              exact HT2.out⟩
          case measure => simp [intOf]; omega
    · obtain rfl : k = n := by omega
      obtain ⟨rfl, rfl, rfl⟩ := HN.out HM.out
      go_wp2
      go_returns
      exact ⟨rfl, HS.out⟩
end Go.Proofs.YtjkihlpckgaggaaGreat.P
