/- A guest's numbers are its pages' bytes. -/
import Derived.Test.YthfpoefpnoodiaaSV
namespace Go.Proofs.Ythfpoefpnoodiaa
open Go.RowKit
open C (Only hid Mem RMem Still ret_bool ret_int put byt rd8 lo nu c_Place gst rdmB)
set_option linter.unusedVariables false
set_option maxRecDepth 100000

theorem up1_o (x : TX) (p y : Nat) (hy : y < x.v.n) (ho : x.v.o y ≠ 0) : (x.up1 p).v.o y = x.v.o y := by
  unfold TX.up1
  split
  · show upd x.v.o _ _ y = _
    refine upd_other _ _ _ _ fun e => ho ?_
    rw [e]
    exact (ff_spec x.v.o x.v.n).2.1 (e ▸ hy)
  · rfl
theorem up0_o (x : TX) (p y : Nat) (hy : y < x.v.n) (ho : x.v.o y ≠ 0) : (x.up0 p).v.o y = x.v.o y := by
  unfold TX.up0
  split
  · show upd x.v.o _ _ y = _
    refine upd_other _ _ _ _ fun e => ho ?_
    rw [e]
    exact (ff_spec x.v.o x.v.n).2.1 (e ▸ hy)
  · rfl
theorem map_o (x : TX) (p fr pm y : Nat) (hy : y < x.v.n) (ho : x.v.o y ≠ 0) : (x.map p fr pm).v.o y = x.v.o y := by
  have h1 := up1_o x p y hy ho
  have h0 := up0_o (x.up1 p) p y (by rw [(up1_pg x p).2.2.2.1]; exact hy) (by rw [h1]; exact ho)
  exact h0.trans h1
theorem ff_sp3 (m : Nat) : ff ((spV m).own 3 1).o 16 = 4 := by kernel_rfl
theorem cnt_sp4 (m : Nat) : cnt (((spV m).own 3 1).own 4 1).o 0 16 = 11 := by kernel_rfl
/-- what stands where a byte was written -/
theorem wG_at (s : SV) (f : Nat → Int) (a : Nat) (x : Int) : ∀ n, (∀ i j, i < n → j < n → po s (a + i) = po s (a + j) → i = j) → ∀ i, i < n → wG s f a x n (po s (a + i)) = x / 2 ^ (8 * i) % 256
  | 0, _, i, hi => by omega
  | n + 1, hj, i, hi => by
    show put (wG s f a x n) (po s (a + n)) 1 (byt (x / 2 ^ (8 * n))) (po s (a + i)) = _
    by_cases e : i = n
    · subst e
      rw [C.put_in' _ _ _ _ _ (Nat.le_refl _) (by omega), Nat.sub_self]
      show x / 2 ^ (8 * i) / 256 ^ 0 % 256 = _
      rw [Int.pow_zero, Int.ediv_one]
    · rw [C.put_out _ _ _ _ _ (by
        have : po s (a + i) ≠ po s (a + n) := fun z => e (hj i n hi (by omega) z)
        omega)]
      exact wG_at s f a x n (fun i j h1 h2 => hj i j (by omega) (by omega)) i (by omega)
def nT (j : Nat) : Nat := if j = 0 then 1 else if j = 1 then 2 else if j = 2 then 4 else 8
theorem nT_ok (j : Nat) : nT j = 1 ∨ nT j = 2 ∨ nT j = 4 ∨ nT j = 8 := by unfold nT; split <;> (try split) <;> (try split) <;> omega
theorem nT_at (j : Nat) (hj : j < 4) : (#[Value.int .i64 1, .int .i64 2, .int .i64 4, .int .i64 8] : Array Value)[j]? = some (.int .i64 (nT j : Nat)) := by
  rcases j with _ | _ | _ | _ | j
  · rfl
  · rfl
  · rfl
  · rfl
  · omega
theorem nu_wG (s : SV) (f : Nat → Int) (a : Nat) (x : Int) (x0 : 0 ≤ x) (n : Nat) (hj : ∀ i j, i < n → j < n → po s (a + i) = po s (a + j) → i = j) : nu (fun j => wG s f a x n (po s (a + j))) n = x % 256 ^ n := by
  rw [C.nu_congr (c := byt x) n fun j hjn => ?_, C.nu_byt x x0 n]
  rw [wG_at s f a x n hj j hjn, pw256]
  rfl
/-- two pages side by side -/
structure Pr (s : SV) (fa fb : Nat) : Prop where
  p0 : s.pp 524288 = 6
  p1 : s.pp 524289 = 6
  f0 : s.pf 524288 = fa
  f1 : s.pf 524289 = fb
  n0 : s.pp 524287 = 0
  n1 : s.pp 524290 = 0
  ne : fa ≠ fb
theorem Pr.pg {s : SV} {fa fb : Nat} (h : Pr s fa fb) {X i : Nat} (hx : X + i < 8192) : s.pp ((2147483648 + X + i) / 4096) = 6 := by
  rcases Nat.lt_or_ge (X + i) 4096 with z | z
  · rw [show (2147483648 + X + i) / 4096 = 524288 by omega]; exact h.p0
  · rw [show (2147483648 + X + i) / 4096 = 524289 by omega]; exact h.p1
theorem Pr.poE {s : SV} {fa fb : Nat} (h : Pr s fa fb) {X i : Nat} (hx : X + i < 8192) : po s (2147483648 + X + i) = if X + i < 4096 then 4096 * fa + (X + i) else 4096 * fb + (X + i) - 4096 := by
  unfold po
  rcases Nat.lt_or_ge (X + i) 4096 with z | z
  · rw [if_pos z, show (2147483648 + X + i) / 4096 = 524288 by omega, h.f0]; omega
  · rw [if_neg (by omega), show (2147483648 + X + i) / 4096 = 524289 by omega, h.f1]; omega
theorem Pr.inj {s : SV} {fa fb : Nat} (h : Pr s fa fb) {X n : Nat} (hx : X + n ≤ 8192) : ∀ i j, i < n → j < n → po s (2147483648 + X + i) = po s (2147483648 + X + j) → i = j := fun i j hi hj e => by
  rw [h.poE (by omega), h.poE (by omega)] at e
  have := h.ne
  split at e <;> split at e <;> omega
set_option maxHeartbeats 4000000 in
theorem w_StageMemory (W : World) (a0 : Int) (b0 : -9223372036854775808 ≤ a0) (b0' : a0 ≤ 9223372036854775807) (a1 : Int) (b1 : -9223372036854775808 ≤ a1) (b1' : a1 ≤ 9223372036854775807) (x : Int) (x0 : 0 ≤ x) (x1 : x < 18446744073709551616) (sw : Bool) :
    Calls Try.prog 9 #[.int .i64 a0, .int .i64 a1, .int .u64 x, .bool sw] W fun r w' => r = .returned (.bool true) ∧ Below W.heap.size W w' := by
  have hS := l_spacesL W
  have hP1 := c_Place a1 4 (by decide) (by decide) b1 b1'
  obtain ⟨jn, hjn0⟩ : ∃ j : Nat, (j : Int) = a1 % 4 := ⟨(a1 % 4).toNat, by omega⟩
  rw [← hjn0] at hP1
  have hjn : jn < 4 := by omega
  clear hjn0 b1 b1'
  go_enter Try.func9, Try.ntmps9
  go_upto_region 2 with (go_at_call 49; refine hS.mono ?_; rintro r w1 ⟨qa, qb, p, m, dm, F, ua, ub, rfl, h1⟩; have H1 := hid h1; clear h1)
  obtain ⟨wa, hwa⟩ : ∃ wa, wa = w1.alloc (.cells #[.pointer (some ⟨m, 0, none⟩), .pointer (some ⟨dm, 0, none⟩)] 31) := ⟨_, rfl⟩
  have HBa : Hid (Below w1.heap.size w1 wa) := hwa ▸ (Below.refl _ _).alloc (Nat.le_refl _) _
  have HTa : Hid (wa.heap[w1.heap.size]? = some (.cells #[.pointer (some ⟨m, 0, none⟩), .pointer (some ⟨dm, 0, none⟩)] 31 (0, 0))) := hwa ▸ heap_alloc_new w1 _
  rw [← hwa]
  clear hwa hS
  have H2 := hid (H1.out.below HBa.out)
  have hT : Calls Try.prog 26 #[.pointer (some ⟨p, 0, none⟩), .int .i64 1] wa fun r w' => r = .returned (.tuple #[.int .i64 3, .int .i64 0]) ∧ SPs w' F ua qa p (s0 1) ((spV m).own 3 1) spF 1 ∧ Only F wa w' := by
    have hT := x_TakeS wa F ua qa p (s0 1) (spV m) spF 1 H2.out.a 1 rfl (by decide) (by rw [show (spV m).n = 16 from rfl, cnt_sp2]; decide)
    rw [show (spV m).n = 16 from rfl, ff_sp2] at hT
    exact hT
  have HT2 : Hid (∀ w', SPs w' F ua qa p (s0 1) ((spV m).own 3 1) spF 1 → Calls Try.prog 26 #[.pointer (some ⟨p, 0, none⟩), .int .i64 1] w' fun r w2 => r = .returned (.tuple #[.int .i64 4, .int .i64 0]) ∧ SPs w2 F ua qa p (s0 1) (((spV m).own 3 1).own 4 1) spF 1 ∧ Only F w' w2) := fun w' hs => by
    have hT := x_TakeS w' F ua qa p (s0 1) ((spV m).own 3 1) spF 1 hs 1 rfl (by decide) (by rw [show ((spV m).own 3 1).n = 16 from rfl, cnt_sp3]; decide)
    rw [show ((spV m).own 3 1).n = 16 from rfl, ff_sp3] at hT
    exact hT
  have HNF : Hid (¬ F w1.heap.size) := H2.out.a.pl.ne HTa.out rfl
  have HNt : Hid (¬ Ar F ua qa w1.heap.size) := fun z => by have := H1.out.a.lt z; omega
  have T0 : Hid True := trivial
  go_upto_region 8 with (first
    | (go_at_call 26; have t := T0; clear t T0; refine hT.mono ?_; rintro r w2 ⟨rfl, h1, h2⟩; have hT2 := HT2.out w2 h1; have H4 := hid h2; have HTw2 := hid (h2.old HTa.out HNF.out); clear h1 h2)
    | (go_at_call 26; refine hT2.mono ?_; rintro r w3 ⟨rfl, h1, h2⟩; have H6 := hid h1; have H5 := hid h2; have HT3 := hid (h2.old HTw2.out HNF.out); clear h1 h2))
  clear hT hT2
  cases sw
  · go_upto_region 10 with fail
    have hM := x_Map w3 F ua qa p (s0 1) (((spV m).own 3 1).own 4 1) spF 1 H6.out 524288 3 6 (by decide) (show 3 < 16 by decide) (.inr (.inl rfl)) rfl (by show dnL (s0 1) 524288 ≤ cnt _ 0 16; rw [cnt_sp4]; decide) (fun a ha => absurd rfl ha) (.inl (show (1 : Int) ≤ 1 by decide))
    have hpp := map_pp ⟨s0 1, ((spV m).own 3 1).own 4 1, spF⟩ 524288 3 6
    have hvv := map_v ⟨s0 1, ((spV m).own 3 1).own 4 1, spF⟩ 524288 3 6
    have hoA := map_o ⟨s0 1, ((spV m).own 3 1).own 4 1, spF⟩ 524288 3 6 3 (show 3 < 16 by decide) (show (1 : Int) ≠ 0 by decide)
    have hoB := map_o ⟨s0 1, ((spV m).own 3 1).own 4 1, spF⟩ 524288 3 6 4 (show 4 < 16 by decide) (show (1 : Int) ≠ 0 by decide)
    generalize TX.map ⟨s0 1, ((spV m).own 3 1).own 4 1, spF⟩ 524288 3 6 = X at hM hpp hvv hoA hoB
    have HX : Hid (X.s.pp = upd (fun _ => 0) 524288 6 ∧ X.s.pf = upd (fun _ => 0) 524288 3 ∧ X.v.b = 0 ∧ X.v.m = m ∧ X.v.n = 16 ∧ X.v.o 3 = 1 ∧ X.v.o 4 = 1) := ⟨hpp.1, hpp.2, hvv.2.1, hvv.2.2.1, hvv.1, hoA, hoB⟩
    have hM' : Calls Try.prog 22 #[.pointer (some ⟨qa, 0, none⟩), .int .u64 524288, .int .i64 3, .int .i64 6] w3 fun r w' => r = .returned (.int .i64 0) ∧ ∃ F' u', SPs w' F' u' qa p X.s X.v X.f 1 ∧ Only (Ar F ua qa) w3 w' ∧ ∀ k, Ar F' u' qa k → Ar F ua qa k ∨ w3.heap.size ≤ k := hM
    have HM2 : Hid (∀ w' F' u', SPs w' F' u' qa p X.s X.v X.f 1 → Calls Try.prog 22 #[.pointer (some ⟨qa, 0, none⟩), .int .u64 524289, .int .i64 4, .int .i64 6] w' fun r w2 => r = .returned (.int .i64 0) ∧ ∃ F2 u2, SPs w2 F2 u2 qa p (TX.map X 524289 4 6).s (TX.map X 524289 4 6).v (TX.map X 524289 4 6).f 1 ∧ Only (Ar F' u' qa) w' w2 ∧ ∀ k, Ar F2 u2 qa k → Ar F' u' qa k ∨ w'.heap.size ≤ k) := fun w' F' u' hs => by
      have hz : X.s.pp 524288 ≠ 0 := by rw [HX.out.1, upd_same]; decide
      have k0 : X.s.k0 1024 ≠ 0 := (hs.iv.ap 524288 hz).1
      have k1 : X.s.k1 2 ≠ 0 := (hs.iv.a0 1024 k0).1
      have hd : dnL X.s 524289 = 0 := by unfold dnL; rw [if_neg (show X.s.k1 (524289 / 262144) ≠ 0 from k1), if_neg (show X.s.k0 (524289 / 512) ≠ 0 from k0)]
      refine x_Map w' F' u' qa p X.s X.v X.f 1 hs 524289 4 6 (by decide) (by rw [HX.out.2.2.2.2.1]; decide) (.inr (.inl rfl)) (by rw [HX.out.1, upd_other _ _ _ _ (by decide)]) (by rw [hd]; exact Nat.zero_le _) (fun a ha => ?_) (.inl (by rw [HX.out.2.2.2.2.2.2]; decide))
      have e : a = 524288 := by
        rw [HX.out.1] at ha
        by_cases q : a = 524288
        · exact q
        · rw [upd_other _ _ _ _ q] at ha; exact absurd rfl ha
      rw [e, HX.out.2.1, upd_same, HX.out.2.2.2.2.2.1]
      decide
    have hpp2 := map_pp X 524289 4 6
    have hvv2 := map_v X 524289 4 6
    generalize TX.map X 524289 4 6 = Y at HM2 hpp2 hvv2
    have HY : Hid (Y.s.pp 524288 = 6 ∧ Y.s.pp 524289 = 6 ∧ Y.s.pf 524288 = 3 ∧ Y.s.pf 524289 = 4 ∧ Y.s.pp 524287 = 0 ∧ Y.s.pp 524290 = 0 ∧ Y.v.b = 0 ∧ Y.v.m = m) := by
      rw [hpp2.1, hpp2.2, hvv2.2.1, hvv2.2.2.1, HX.out.1, HX.out.2.1]
      exact ⟨rfl, rfl, rfl, rfl, rfl, rfl, HX.out.2.2.1, HX.out.2.2.2.1⟩
    clear hM hpp hvv hoA hoB hpp2 hvv2
    go_upto_region 12 with (first
      | (go_at_call 22; (with_reducible refine hM'.mono ?_); rintro r w4 ⟨rfl, F4, u4, h1, h2, h3⟩; have H7 := hid h1; have H8 := hid h2; have H9 := hid h3; have hM2 := HM2.out w4 F4 u4 h1; have HT4 := hid (h2.old HT3.out HNt.out); have HN4 : Hid (¬ Ar F4 u4 qa w1.heap.size) := (fun z => (h3 _ z).elim HNt.out (fun y => by have := lt_of_block HT3.out; omega)); clear h1 h2 h3)
      | (go_at_call 22; (with_reducible refine hM2.mono ?_); rintro r w5 ⟨rfl, F5, u5, h1, h2, h3⟩; have H10 := hid h1; have H11 := hid h2; have H12 := hid h3; have HT5 := hid (h2.old HT4.out HN4.out); clear h1 h2 h3))
    clear hM' hM2
    have HPr : Hid (Pr Y.s 3 4) := ⟨HY.out.1, HY.out.2.1, HY.out.2.2.1, HY.out.2.2.2.1, HY.out.2.2.2.2.1, HY.out.2.2.2.2.2.1, by decide⟩
    have HYv : Hid (Y.v.b = 0 ∧ Y.v.m = m) := HY.out.2.2.2.2.2.2
    generalize Y.s = sY at H10 HPr
    generalize Y.v = vY at H10 HYv
    generalize Y.f = fY at H10
    have cn : (w5.alloc (.cells #[.int .i64 1, .int .i64 2, .int .i64 4, .int .i64 8] 3)).cell? ⟨w5.heap.size, jn, none⟩ = some (.int .i64 (nT jn : Nat)) := (cell_of_row _ _ jn _ _ _ (heap_alloc_new w5 _)).trans (nT_at jn hjn)
    go_upto_region 13 with (go_at_call 21; refine (hP1 _).mono ?_; rintro r w6 ⟨rfl, hw⟩; obtain rfl := hw.symm)
    obtain ⟨wb, hwb⟩ : ∃ wb, wb = w5.alloc (.cells #[.int .i64 1, .int .i64 2, .int .i64 4, .int .i64 8] 3) := ⟨_, rfl⟩
    have HBb : Hid (Below w5.heap.size w5 wb) := hwb ▸ (Below.refl _ _).alloc (Nat.le_refl _) _
    rw [← hwb]
    clear hwb cn
    have hn4 := nT_ok jn
    generalize nT jn = n at hn4 ⊢
    have hn8 : 1 ≤ n ∧ n ≤ 8 := by omega
    have hwd : wdt n = true := by unfold wdt; simp; omega
    have hPx := c_Place a0 (8192 - (n : Int) + 1) (by omega) (by omega) b0 b0'
    obtain ⟨X0, hX0⟩ : ∃ X0 : Nat, (X0 : Int) = a0 % (8192 - (n : Int) + 1) := ⟨(a0 % (8192 - (n : Int) + 1)).toNat, by have := Int.emod_nonneg a0 (show 8192 - (n : Int) + 1 ≠ 0 by omega); omega⟩
    have hXn : X0 + n ≤ 8192 := by have := Int.emod_lt_of_pos a0 (show (0 : Int) < 8192 - (n : Int) + 1 by omega); omega
    rw [← hX0] at hPx
    clear hX0
    have H13 := hid (H10.out.below HBb.out)
    have HT6 := hid ((HBb.out.block _ (lt_of_block HT5.out)).trans HT5.out)
    have ea : (2147483648 + (X0 : Int)).toNat = 2147483648 + X0 := by omega
    have hH := x_Has wb F5 u5 qa p sY vY fY 1 H13.out (2147483648 + (X0 : Int)) (by omega) (by omega) n (by omega) (by omega) true ⟨fun _ => rfl, fun _ j hj => by rw [ea, HPr.out.pg (by omega)]; decide⟩
    have HW : Hid (∀ w', Below wb.heap.size wb w' → Calls Try.prog 25 #[.pointer (some ⟨qa, 0, none⟩), .int .u64 (2147483648 + (X0 : Int)), .int .i64 n, .int .u64 x] w' fun r w2 => r = .returned (.bool true) ∧ ∃ F', SPs w2 F' u5 qa p sY vY (wG sY fY (2147483648 + X0) x n) 1 ∧ Only F5 w' w2 ∧ ∀ k, F' k → F5 k ∨ w'.heap.size ≤ k) := fun w' hb => by
      have := x_Write w' F5 u5 qa p sY vY fY 1 (H13.out.below hb) (2147483648 + (X0 : Int)) (by omega) (by omega) n hwd x x0 x1 (fun j hj => by rw [ea]; unfold pgOk; rw [HPr.out.pg (by omega)]; rfl)
      rw [ea] at this
      exact this
    have hB8 : 8192 - (n : Int) + 1 ≤ 8192 := by omega
    go_upto_region 16 with (first
      | (go_at_call 21; refine (hPx _).mono ?_; rintro r w6 ⟨rfl, hw⟩; obtain rfl := hw.symm)
      | (go_at_call 53; refine hH.mono ?_; rintro r w6 ⟨rfl, h1⟩; have HB6 := hid h1; have hW := HW.out w6 h1; have HT7 := hid ((h1.block _ (lt_of_block HT6.out)).trans HT6.out); clear h1)
      | (go_at_call 25; refine hW.mono ?_; rintro r w7 ⟨rfl, F7, h1, h2, h3⟩; have H14 := hid h1; have H15 := hid h2; have H16 := hid h3; have HT8 := hid (h2.old HT7.out (H13.out.pl.ne HT6.out rfl)); clear h1 h2 h3))
    clear hH hW hPx
    go_wp2_with fail
    go_loopw [20, 21, 22, 23, 24] (fun i y1 y2 y3 y4 wr => ∃ k : Nat, k ≤ n ∧ i = .int .i64 k ∧ Hid (Below w7.heap.size w7 wr)) (fun i y1 y2 y3 y4 _ => n - (intOf i).toNat)
    case atStart => exact ⟨0, by omega, rfl, Below.refl _ _⟩
    case round =>
      obtain ⟨k, hk, rfl, hb⟩ := hrel
      have H17 := hid (H14.out.below hb.out)
      by_cases hlt : k < n
      · obtain ⟨S, hm, -, -⟩ := H17.out.pl.open
        have hpo := po_lt H17.out.iv (a := 2147483648 + X0 + k) (by rw [HPr.out.pg (by omega)]; decide)
        have hpe := HPr.out.poE (X := X0) (i := k) (by omega)
        have hR := C.c_Read wr S vY.m vY.b vY.n _ hm (po sY (2147483648 + X0 + k)) 1 hpo (by decide) (po sY (2147483648 + X0 + k) : Nat) (by rw [HYv.out.1]; omega)
        have hval : nu (fun j => wG sY fY (2147483648 + X0) x n (po sY (2147483648 + X0 + k) + j)) 1 = x / 2 ^ (8 * k) % 256 := by
          rw [← wG_at sY fY (2147483648 + X0) x n (HPr.out.inj hXn) k hlt]
          show 0 + wG sY fY (2147483648 + X0) x n (po sY (2147483648 + X0 + k) + 0) * 256 ^ 0 = _
          rw [Nat.add_zero, Int.pow_zero]; omega
        rw [hval, HYv.out.2] at hR
        have ct : wr.cell? ⟨w1.heap.size, 0, none⟩ = some (.pointer (some ⟨m, 0, none⟩)) := cell_of_row wr _ 0 _ _ _ ((hb.out.block _ (lt_of_block HT8.out)).trans HT8.out)
        have hR' : Calls Try.prog 54 #[.pointer (some ⟨m, 0, none⟩), .int .u64 (po sY (2147483648 + X0 + k) : Nat), .int .i64 1] wr fun e w' => e = .returned (.tuple #[.int .u64 (x / 2 ^ (8 * k) % 256), .bool true]) ∧ Below wr.heap.size wr w' := hR
        clear hR hval hm hpo
        have q0 : 0 ≤ x / 2 ^ (8 * k) := Int.ediv_nonneg x0 (by exact_mod_cast Nat.zero_le (2 ^ (8 * k)))
        rcases Nat.lt_or_ge (X0 + k) 4096 with hz | hz
        · rw [if_pos hz] at hpe
          rw [show ((po sY (2147483648 + X0 + k) : Nat) : Int) = 3 * 4096 + ((X0 : Int) + k) by rw [hpe]; omega] at hR'
          have hz' : ¬ (4096 : Int) ≤ (X0 : Int) + k := by omega
          clear hpe
          go_wp2_with (go_at_call 54; refine hR'.mono ?_; rintro r w8 ⟨rfl, h1⟩; have HB8 := hid h1; clear h1)
          go_roundw
          case rel => exact ⟨k + 1, by omega, by go_num, hb.out.trans (HB8.out.mono hb.out.size)⟩
          case measure => first | (simp [intOf]; done) | (simp [intOf]; omega)
        · rw [if_neg (by omega)] at hpe
          rw [show ((po sY (2147483648 + X0 + k) : Nat) : Int) = 4 * 4096 + ((X0 : Int) + k) - 4096 by rw [hpe]; omega] at hR'
          have hz' : (4096 : Int) ≤ (X0 : Int) + k := by omega
          clear hpe
          go_wp2_with (go_at_call 54; refine hR'.mono ?_; rintro r w8 ⟨rfl, h1⟩; have HB8 := hid h1; clear h1)
          go_roundw
          case rel => exact ⟨k + 1, by omega, by go_num, hb.out.trans (HB8.out.mono hb.out.size)⟩
          case measure => first | (simp [intOf]; done) | (simp [intOf]; omega)
      · obtain rfl : k = n := by omega
        have hRd : Calls Try.prog 55 #[.pointer (some ⟨qa, 0, none⟩), .int .u64 (2147483648 + (X0 : Int)), .int .i64 k] wr fun r w' => r = .returned (.tuple #[.int .u64 (x % 256 ^ k), .bool true]) ∧ Below wr.heap.size wr w' := by
          have := x_Read wr F7 u5 qa p sY vY _ 1 H17.out (2147483648 + (X0 : Int)) (by omega) (by omega) k hwd (fun j hj => by rw [ea, HPr.out.pg (by omega)]; decide)
          rw [ea, nu_wG sY fY (2147483648 + X0) x x0 k (HPr.out.inj hXn)] at this
          exact this
        have HPa : Hid (∀ w', Below wr.heap.size wr w' → Calls Try.prog 55 #[.pointer (some ⟨qa, 0, none⟩), .int .u64 (2147491840 - (k : Int) + 1), .int .i64 k] w' fun r w2 => r = .returned (.tuple #[.int .u64 0, .bool false]) ∧ Below w'.heap.size w' w2) := fun w' hb' => by
          have hp := x_places w' F7 u5 qa p sY vY _ 1 (H17.out.below hb') (2147491840 - (k : Int) + 1) (by omega) (by omega) k hwd 0 (.inl rfl) false ⟨fun z => by
            have := z (k - 1) (by omega)
            rw [show ((2147491840 - (k : Int) + 1).toNat + (k - 1)) / 4096 = 524290 by omega] at this
            unfold pgOk at this
            rw [HPr.out.n1] at this
            simp at this, fun z => by cases z⟩
          exact t_read_no w' qa _ k (hp.mono fun r w2 hQ => ⟨⟨hQ.1.choose, hQ.1.choose_spec.1⟩, hQ.2⟩)
        have HH2 : Hid (∀ w', Below wr.heap.size wr w' → Calls Try.prog 53 #[.pointer (some ⟨qa, 0, none⟩), .int .u64 2147483647, .int .i64 1] w' fun r w2 => r = .returned (.bool false) ∧ Below w'.heap.size w' w2) := fun w' hb' => x_Has w' F7 u5 qa p sY vY _ 1 (H17.out.below hb') 2147483647 (by decide) (by decide) 1 (by decide) (by decide) false ⟨fun z => absurd HPr.out.n0 (z 0 (by decide)), fun z => by cases z⟩
        have e1 : Below W.heap.size W wa := H1.out.new.trans (HBa.out.mono H1.out.new.size)
        have e2 : Below W.heap.size W w2 := e1.trans (H4.out.below _ e1.size fun j hj => H1.out.own j (.inl (.inl hj)))
        have e3 : Below W.heap.size W w3 := e2.trans (H5.out.below _ e2.size fun j hj => H1.out.own j (.inl (.inl hj)))
        have e4 : Below W.heap.size W w4 := e3.trans (H8.out.below _ e3.size fun j hj => H1.out.own j (.inl hj))
        have f4 : ∀ j, Ar F4 u4 qa j → W.heap.size ≤ j := fun j hj => (H9.out j hj).elim (fun z => H1.out.own j (.inl z)) fun z => Nat.le_trans e3.size z
        have e5 : Below W.heap.size W w5 := e4.trans (H11.out.below _ e4.size f4)
        have f5 : ∀ j, Ar F5 u5 qa j → W.heap.size ≤ j := fun j hj => (H12.out j hj).elim (f4 j) fun z => Nat.le_trans e4.size z
        have e6 : Below W.heap.size W w6 := e5.trans ((HBb.out.trans (HB6.out.mono HBb.out.size)).mono e5.size)
        have e7 : Below W.heap.size W w7 := e6.trans (H15.out.below _ e6.size fun j hj => f5 j (.inl hj))
        have HE8 : Hid (Below W.heap.size W wr) := e7.trans (hb.out.mono e7.size)
        have hs1 : ¬ (k : Int) < k := by omega
        have hadr : IntKind.u64.wrap (2147491840 - (k : Int)) = 2147491840 - (k : Int) := by rw [IntKind.wrap_u64]; omega
        clear e1 e2 e3 e4 f4 e5 f5 e6 e7
        by_cases hk8 : k < 8
        · have hsh : IntKind.u64.wrap (2 ^ (8 * k)) = 256 ^ k := by
            rw [pw256, IntKind.wrap_u64]
            have h8 : (256 : Int) ^ k ≤ 256 ^ 7 := by exact_mod_cast Nat.pow_le_pow_right (n := 256) (by decide) (show k ≤ 7 by omega)
            have h9 : (256 : Int) ^ 7 = 72057594037927936 := by decide
            have h10 : (0 : Int) < 256 ^ k := by exact_mod_cast Nat.pow_pos (show 0 < 256 by decide)
            omega
          have hpos : ¬ (256 : Int) ^ k = 0 := by
            have h10 : (0 : Int) < 256 ^ k := by exact_mod_cast Nat.pow_pos (show 0 < 256 by decide)
            omega
          have htm : x.tmod (256 ^ k) = x % 256 ^ k := Int.tmod_eq_emod_of_nonneg x0
          have hkI : (k : Int) < 8 := by omega
          generalize (256 : Int) ^ k = B at *
          go_wp2_with (first
            | (go_at_call 55; (with_reducible refine hRd.mono ?_); rintro r w9 ⟨rfl, h1⟩; have HB9 := hid h1; have hPa := HPa.out w9 h1; clear h1)
            | (go_at_call 55; (with_reducible refine hPa.mono ?_); rintro r w10 ⟨rfl, h1⟩; have HB10 : Hid (Below wr.heap.size wr w10) := HB9.out.trans (h1.mono HB9.out.size); have hH2 := HH2.out w10 HB10.out; clear h1)
            | (go_at_call 53; refine hH2.mono ?_; rintro r w11 ⟨rfl, h1⟩; have HB11 : Hid (Below wr.heap.size wr w11) := HB10.out.trans (h1.mono HB10.out.size); have hAw := l_awake10 w11; clear h1)
            | (go_at_call 13; refine hAw.mono ?_; rintro r w12 ⟨rfl, h1⟩; have HB12 : Hid (Below wr.heap.size wr w12) := HB11.out.trans (h1.mono HB11.out.size); clear h1))
          go_ret
          exact ⟨rfl, HE8.out.trans (HB12.out.mono HE8.out.size)⟩
        · obtain rfl : k = 8 := by omega
          have hxx : x % 256 ^ 8 = x := by
            have h9 : (256 : Int) ^ 8 = 18446744073709551616 := by decide
            rw [h9]; omega
          rw [hxx] at hRd
          have hRd : Calls Try.prog 55 #[.pointer (some ⟨qa, 0, none⟩), .int .u64 (2147483648 + (X0 : Int)), .int .i64 8] wr fun r w' => r = .returned (.tuple #[.int .u64 x, .bool true]) ∧ Below wr.heap.size wr w' := hRd
          have HPa : Hid (∀ w', Below wr.heap.size wr w' → Calls Try.prog 55 #[.pointer (some ⟨qa, 0, none⟩), .int .u64 2147491833, .int .i64 8] w' fun r w2 => r = .returned (.tuple #[.int .u64 0, .bool false]) ∧ Below w'.heap.size w' w2) := HPa
          go_wp2_with (first
            | (go_at_call 55; (with_reducible refine hRd.mono ?_); rintro r w9 ⟨rfl, h1⟩; have HB9 := hid h1; have hPa := HPa.out w9 h1; clear h1)
            | (go_at_call 55; (with_reducible refine hPa.mono ?_); rintro r w10 ⟨rfl, h1⟩; have HB10 : Hid (Below wr.heap.size wr w10) := HB9.out.trans (h1.mono HB9.out.size); have hH2 := HH2.out w10 HB10.out; clear h1)
            | (go_at_call 53; refine hH2.mono ?_; rintro r w11 ⟨rfl, h1⟩; have HB11 : Hid (Below wr.heap.size wr w11) := HB10.out.trans (h1.mono HB10.out.size); have hAw := l_awake10 w11; clear h1)
            | (go_at_call 13; refine hAw.mono ?_; rintro r w12 ⟨rfl, h1⟩; have HB12 : Hid (Below wr.heap.size wr w12) := HB11.out.trans (h1.mono HB11.out.size); clear h1))
          go_ret
          exact ⟨rfl, HE8.out.trans (HB12.out.mono HE8.out.size)⟩
  · go_upto_region 10 with fail
    have hM := x_Map w3 F ua qa p (s0 1) (((spV m).own 3 1).own 4 1) spF 1 H6.out 524288 4 6 (by decide) (show 4 < 16 by decide) (.inr (.inl rfl)) rfl (by show dnL (s0 1) 524288 ≤ cnt _ 0 16; rw [cnt_sp4]; decide) (fun a ha => absurd rfl ha) (.inl (show (1 : Int) ≤ 1 by decide))
    have hpp := map_pp ⟨s0 1, ((spV m).own 3 1).own 4 1, spF⟩ 524288 4 6
    have hvv := map_v ⟨s0 1, ((spV m).own 3 1).own 4 1, spF⟩ 524288 4 6
    have hoA := map_o ⟨s0 1, ((spV m).own 3 1).own 4 1, spF⟩ 524288 4 6 4 (show 4 < 16 by decide) (show (1 : Int) ≠ 0 by decide)
    have hoB := map_o ⟨s0 1, ((spV m).own 3 1).own 4 1, spF⟩ 524288 4 6 3 (show 3 < 16 by decide) (show (1 : Int) ≠ 0 by decide)
    generalize TX.map ⟨s0 1, ((spV m).own 3 1).own 4 1, spF⟩ 524288 4 6 = X at hM hpp hvv hoA hoB
    have HX : Hid (X.s.pp = upd (fun _ => 0) 524288 6 ∧ X.s.pf = upd (fun _ => 0) 524288 4 ∧ X.v.b = 0 ∧ X.v.m = m ∧ X.v.n = 16 ∧ X.v.o 4 = 1 ∧ X.v.o 3 = 1) := ⟨hpp.1, hpp.2, hvv.2.1, hvv.2.2.1, hvv.1, hoA, hoB⟩
    have hM' : Calls Try.prog 22 #[.pointer (some ⟨qa, 0, none⟩), .int .u64 524288, .int .i64 4, .int .i64 6] w3 fun r w' => r = .returned (.int .i64 0) ∧ ∃ F' u', SPs w' F' u' qa p X.s X.v X.f 1 ∧ Only (Ar F ua qa) w3 w' ∧ ∀ k, Ar F' u' qa k → Ar F ua qa k ∨ w3.heap.size ≤ k := hM
    have HM2 : Hid (∀ w' F' u', SPs w' F' u' qa p X.s X.v X.f 1 → Calls Try.prog 22 #[.pointer (some ⟨qa, 0, none⟩), .int .u64 524289, .int .i64 3, .int .i64 6] w' fun r w2 => r = .returned (.int .i64 0) ∧ ∃ F2 u2, SPs w2 F2 u2 qa p (TX.map X 524289 3 6).s (TX.map X 524289 3 6).v (TX.map X 524289 3 6).f 1 ∧ Only (Ar F' u' qa) w' w2 ∧ ∀ k, Ar F2 u2 qa k → Ar F' u' qa k ∨ w'.heap.size ≤ k) := fun w' F' u' hs => by
      have hz : X.s.pp 524288 ≠ 0 := by rw [HX.out.1, upd_same]; decide
      have k0 : X.s.k0 1024 ≠ 0 := (hs.iv.ap 524288 hz).1
      have k1 : X.s.k1 2 ≠ 0 := (hs.iv.a0 1024 k0).1
      have hd : dnL X.s 524289 = 0 := by unfold dnL; rw [if_neg (show X.s.k1 (524289 / 262144) ≠ 0 from k1), if_neg (show X.s.k0 (524289 / 512) ≠ 0 from k0)]
      refine x_Map w' F' u' qa p X.s X.v X.f 1 hs 524289 3 6 (by decide) (by rw [HX.out.2.2.2.2.1]; decide) (.inr (.inl rfl)) (by rw [HX.out.1, upd_other _ _ _ _ (by decide)]) (by rw [hd]; exact Nat.zero_le _) (fun a ha => ?_) (.inl (by rw [HX.out.2.2.2.2.2.2]; decide))
      have e : a = 524288 := by
        rw [HX.out.1] at ha
        by_cases q : a = 524288
        · exact q
        · rw [upd_other _ _ _ _ q] at ha; exact absurd rfl ha
      rw [e, HX.out.2.1, upd_same, HX.out.2.2.2.2.2.1]
      decide
    have hpp2 := map_pp X 524289 3 6
    have hvv2 := map_v X 524289 3 6
    generalize TX.map X 524289 3 6 = Y at HM2 hpp2 hvv2
    have HY : Hid (Y.s.pp 524288 = 6 ∧ Y.s.pp 524289 = 6 ∧ Y.s.pf 524288 = 4 ∧ Y.s.pf 524289 = 3 ∧ Y.s.pp 524287 = 0 ∧ Y.s.pp 524290 = 0 ∧ Y.v.b = 0 ∧ Y.v.m = m) := by
      rw [hpp2.1, hpp2.2, hvv2.2.1, hvv2.2.2.1, HX.out.1, HX.out.2.1]
      exact ⟨rfl, rfl, rfl, rfl, rfl, rfl, HX.out.2.2.1, HX.out.2.2.2.1⟩
    clear hM hpp hvv hoA hoB hpp2 hvv2
    go_upto_region 12 with (first
      | (go_at_call 22; (with_reducible refine hM'.mono ?_); rintro r w4 ⟨rfl, F4, u4, h1, h2, h3⟩; have H7 := hid h1; have H8 := hid h2; have H9 := hid h3; have hM2 := HM2.out w4 F4 u4 h1; have HT4 := hid (h2.old HT3.out HNt.out); have HN4 : Hid (¬ Ar F4 u4 qa w1.heap.size) := (fun z => (h3 _ z).elim HNt.out (fun y => by have := lt_of_block HT3.out; omega)); clear h1 h2 h3)
      | (go_at_call 22; (with_reducible refine hM2.mono ?_); rintro r w5 ⟨rfl, F5, u5, h1, h2, h3⟩; have H10 := hid h1; have H11 := hid h2; have H12 := hid h3; have HT5 := hid (h2.old HT4.out HN4.out); clear h1 h2 h3))
    clear hM' hM2
    have HPr : Hid (Pr Y.s 4 3) := ⟨HY.out.1, HY.out.2.1, HY.out.2.2.1, HY.out.2.2.2.1, HY.out.2.2.2.2.1, HY.out.2.2.2.2.2.1, by decide⟩
    have HYv : Hid (Y.v.b = 0 ∧ Y.v.m = m) := HY.out.2.2.2.2.2.2
    generalize Y.s = sY at H10 HPr
    generalize Y.v = vY at H10 HYv
    generalize Y.f = fY at H10
    have cn : (w5.alloc (.cells #[.int .i64 1, .int .i64 2, .int .i64 4, .int .i64 8] 3)).cell? ⟨w5.heap.size, jn, none⟩ = some (.int .i64 (nT jn : Nat)) := (cell_of_row _ _ jn _ _ _ (heap_alloc_new w5 _)).trans (nT_at jn hjn)
    go_upto_region 13 with (go_at_call 21; refine (hP1 _).mono ?_; rintro r w6 ⟨rfl, hw⟩; obtain rfl := hw.symm)
    obtain ⟨wb, hwb⟩ : ∃ wb, wb = w5.alloc (.cells #[.int .i64 1, .int .i64 2, .int .i64 4, .int .i64 8] 3) := ⟨_, rfl⟩
    have HBb : Hid (Below w5.heap.size w5 wb) := hwb ▸ (Below.refl _ _).alloc (Nat.le_refl _) _
    rw [← hwb]
    clear hwb cn
    have hn4 := nT_ok jn
    generalize nT jn = n at hn4 ⊢
    have hn8 : 1 ≤ n ∧ n ≤ 8 := by omega
    have hwd : wdt n = true := by unfold wdt; simp; omega
    have hPx := c_Place a0 (8192 - (n : Int) + 1) (by omega) (by omega) b0 b0'
    obtain ⟨X0, hX0⟩ : ∃ X0 : Nat, (X0 : Int) = a0 % (8192 - (n : Int) + 1) := ⟨(a0 % (8192 - (n : Int) + 1)).toNat, by have := Int.emod_nonneg a0 (show 8192 - (n : Int) + 1 ≠ 0 by omega); omega⟩
    have hXn : X0 + n ≤ 8192 := by have := Int.emod_lt_of_pos a0 (show (0 : Int) < 8192 - (n : Int) + 1 by omega); omega
    rw [← hX0] at hPx
    clear hX0
    have H13 := hid (H10.out.below HBb.out)
    have HT6 := hid ((HBb.out.block _ (lt_of_block HT5.out)).trans HT5.out)
    have ea : (2147483648 + (X0 : Int)).toNat = 2147483648 + X0 := by omega
    have hH := x_Has wb F5 u5 qa p sY vY fY 1 H13.out (2147483648 + (X0 : Int)) (by omega) (by omega) n (by omega) (by omega) true ⟨fun _ => rfl, fun _ j hj => by rw [ea, HPr.out.pg (by omega)]; decide⟩
    have HW : Hid (∀ w', Below wb.heap.size wb w' → Calls Try.prog 25 #[.pointer (some ⟨qa, 0, none⟩), .int .u64 (2147483648 + (X0 : Int)), .int .i64 n, .int .u64 x] w' fun r w2 => r = .returned (.bool true) ∧ ∃ F', SPs w2 F' u5 qa p sY vY (wG sY fY (2147483648 + X0) x n) 1 ∧ Only F5 w' w2 ∧ ∀ k, F' k → F5 k ∨ w'.heap.size ≤ k) := fun w' hb => by
      have := x_Write w' F5 u5 qa p sY vY fY 1 (H13.out.below hb) (2147483648 + (X0 : Int)) (by omega) (by omega) n hwd x x0 x1 (fun j hj => by rw [ea]; unfold pgOk; rw [HPr.out.pg (by omega)]; rfl)
      rw [ea] at this
      exact this
    have hB8 : 8192 - (n : Int) + 1 ≤ 8192 := by omega
    go_upto_region 16 with (first
      | (go_at_call 21; refine (hPx _).mono ?_; rintro r w6 ⟨rfl, hw⟩; obtain rfl := hw.symm)
      | (go_at_call 53; refine hH.mono ?_; rintro r w6 ⟨rfl, h1⟩; have HB6 := hid h1; have hW := HW.out w6 h1; have HT7 := hid ((h1.block _ (lt_of_block HT6.out)).trans HT6.out); clear h1)
      | (go_at_call 25; refine hW.mono ?_; rintro r w7 ⟨rfl, F7, h1, h2, h3⟩; have H14 := hid h1; have H15 := hid h2; have H16 := hid h3; have HT8 := hid (h2.old HT7.out (H13.out.pl.ne HT6.out rfl)); clear h1 h2 h3))
    clear hH hW hPx
    go_wp2_with fail
    go_loopw [20, 21, 22, 23, 24] (fun i y1 y2 y3 y4 wr => ∃ k : Nat, k ≤ n ∧ i = .int .i64 k ∧ Hid (Below w7.heap.size w7 wr)) (fun i y1 y2 y3 y4 _ => n - (intOf i).toNat)
    case atStart => exact ⟨0, by omega, rfl, Below.refl _ _⟩
    case round =>
      obtain ⟨k, hk, rfl, hb⟩ := hrel
      have H17 := hid (H14.out.below hb.out)
      by_cases hlt : k < n
      · obtain ⟨S, hm, -, -⟩ := H17.out.pl.open
        have hpo := po_lt H17.out.iv (a := 2147483648 + X0 + k) (by rw [HPr.out.pg (by omega)]; decide)
        have hpe := HPr.out.poE (X := X0) (i := k) (by omega)
        have hR := C.c_Read wr S vY.m vY.b vY.n _ hm (po sY (2147483648 + X0 + k)) 1 hpo (by decide) (po sY (2147483648 + X0 + k) : Nat) (by rw [HYv.out.1]; omega)
        have hval : nu (fun j => wG sY fY (2147483648 + X0) x n (po sY (2147483648 + X0 + k) + j)) 1 = x / 2 ^ (8 * k) % 256 := by
          rw [← wG_at sY fY (2147483648 + X0) x n (HPr.out.inj hXn) k hlt]
          show 0 + wG sY fY (2147483648 + X0) x n (po sY (2147483648 + X0 + k) + 0) * 256 ^ 0 = _
          rw [Nat.add_zero, Int.pow_zero]; omega
        rw [hval, HYv.out.2] at hR
        have ct : wr.cell? ⟨w1.heap.size, 0, none⟩ = some (.pointer (some ⟨m, 0, none⟩)) := cell_of_row wr _ 0 _ _ _ ((hb.out.block _ (lt_of_block HT8.out)).trans HT8.out)
        have hR' : Calls Try.prog 54 #[.pointer (some ⟨m, 0, none⟩), .int .u64 (po sY (2147483648 + X0 + k) : Nat), .int .i64 1] wr fun e w' => e = .returned (.tuple #[.int .u64 (x / 2 ^ (8 * k) % 256), .bool true]) ∧ Below wr.heap.size wr w' := hR
        clear hR hval hm hpo
        have q0 : 0 ≤ x / 2 ^ (8 * k) := Int.ediv_nonneg x0 (by exact_mod_cast Nat.zero_le (2 ^ (8 * k)))
        rcases Nat.lt_or_ge (X0 + k) 4096 with hz | hz
        · rw [if_pos hz] at hpe
          rw [show ((po sY (2147483648 + X0 + k) : Nat) : Int) = 4 * 4096 + ((X0 : Int) + k) by rw [hpe]; omega] at hR'
          have hz' : ¬ (4096 : Int) ≤ (X0 : Int) + k := by omega
          clear hpe
          go_wp2_with (go_at_call 54; refine hR'.mono ?_; rintro r w8 ⟨rfl, h1⟩; have HB8 := hid h1; clear h1)
          go_roundw
          case rel => exact ⟨k + 1, by omega, by go_num, hb.out.trans (HB8.out.mono hb.out.size)⟩
          case measure => first | (simp [intOf]; done) | (simp [intOf]; omega)
        · rw [if_neg (by omega)] at hpe
          rw [show ((po sY (2147483648 + X0 + k) : Nat) : Int) = 3 * 4096 + ((X0 : Int) + k) - 4096 by rw [hpe]; omega] at hR'
          have hz' : (4096 : Int) ≤ (X0 : Int) + k := by omega
          clear hpe
          go_wp2_with (go_at_call 54; refine hR'.mono ?_; rintro r w8 ⟨rfl, h1⟩; have HB8 := hid h1; clear h1)
          go_roundw
          case rel => exact ⟨k + 1, by omega, by go_num, hb.out.trans (HB8.out.mono hb.out.size)⟩
          case measure => first | (simp [intOf]; done) | (simp [intOf]; omega)
      · obtain rfl : k = n := by omega
        have hRd : Calls Try.prog 55 #[.pointer (some ⟨qa, 0, none⟩), .int .u64 (2147483648 + (X0 : Int)), .int .i64 k] wr fun r w' => r = .returned (.tuple #[.int .u64 (x % 256 ^ k), .bool true]) ∧ Below wr.heap.size wr w' := by
          have := x_Read wr F7 u5 qa p sY vY _ 1 H17.out (2147483648 + (X0 : Int)) (by omega) (by omega) k hwd (fun j hj => by rw [ea, HPr.out.pg (by omega)]; decide)
          rw [ea, nu_wG sY fY (2147483648 + X0) x x0 k (HPr.out.inj hXn)] at this
          exact this
        have HPa : Hid (∀ w', Below wr.heap.size wr w' → Calls Try.prog 55 #[.pointer (some ⟨qa, 0, none⟩), .int .u64 (2147491840 - (k : Int) + 1), .int .i64 k] w' fun r w2 => r = .returned (.tuple #[.int .u64 0, .bool false]) ∧ Below w'.heap.size w' w2) := fun w' hb' => by
          have hp := x_places w' F7 u5 qa p sY vY _ 1 (H17.out.below hb') (2147491840 - (k : Int) + 1) (by omega) (by omega) k hwd 0 (.inl rfl) false ⟨fun z => by
            have := z (k - 1) (by omega)
            rw [show ((2147491840 - (k : Int) + 1).toNat + (k - 1)) / 4096 = 524290 by omega] at this
            unfold pgOk at this
            rw [HPr.out.n1] at this
            simp at this, fun z => by cases z⟩
          exact t_read_no w' qa _ k (hp.mono fun r w2 hQ => ⟨⟨hQ.1.choose, hQ.1.choose_spec.1⟩, hQ.2⟩)
        have HH2 : Hid (∀ w', Below wr.heap.size wr w' → Calls Try.prog 53 #[.pointer (some ⟨qa, 0, none⟩), .int .u64 2147483647, .int .i64 1] w' fun r w2 => r = .returned (.bool false) ∧ Below w'.heap.size w' w2) := fun w' hb' => x_Has w' F7 u5 qa p sY vY _ 1 (H17.out.below hb') 2147483647 (by decide) (by decide) 1 (by decide) (by decide) false ⟨fun z => absurd HPr.out.n0 (z 0 (by decide)), fun z => by cases z⟩
        have e1 : Below W.heap.size W wa := H1.out.new.trans (HBa.out.mono H1.out.new.size)
        have e2 : Below W.heap.size W w2 := e1.trans (H4.out.below _ e1.size fun j hj => H1.out.own j (.inl (.inl hj)))
        have e3 : Below W.heap.size W w3 := e2.trans (H5.out.below _ e2.size fun j hj => H1.out.own j (.inl (.inl hj)))
        have e4 : Below W.heap.size W w4 := e3.trans (H8.out.below _ e3.size fun j hj => H1.out.own j (.inl hj))
        have f4 : ∀ j, Ar F4 u4 qa j → W.heap.size ≤ j := fun j hj => (H9.out j hj).elim (fun z => H1.out.own j (.inl z)) fun z => Nat.le_trans e3.size z
        have e5 : Below W.heap.size W w5 := e4.trans (H11.out.below _ e4.size f4)
        have f5 : ∀ j, Ar F5 u5 qa j → W.heap.size ≤ j := fun j hj => (H12.out j hj).elim (f4 j) fun z => Nat.le_trans e4.size z
        have e6 : Below W.heap.size W w6 := e5.trans ((HBb.out.trans (HB6.out.mono HBb.out.size)).mono e5.size)
        have e7 : Below W.heap.size W w7 := e6.trans (H15.out.below _ e6.size fun j hj => f5 j (.inl hj))
        have HE8 : Hid (Below W.heap.size W wr) := e7.trans (hb.out.mono e7.size)
        have hs1 : ¬ (k : Int) < k := by omega
        have hadr : IntKind.u64.wrap (2147491840 - (k : Int)) = 2147491840 - (k : Int) := by rw [IntKind.wrap_u64]; omega
        clear e1 e2 e3 e4 f4 e5 f5 e6 e7
        by_cases hk8 : k < 8
        · have hsh : IntKind.u64.wrap (2 ^ (8 * k)) = 256 ^ k := by
            rw [pw256, IntKind.wrap_u64]
            have h8 : (256 : Int) ^ k ≤ 256 ^ 7 := by exact_mod_cast Nat.pow_le_pow_right (n := 256) (by decide) (show k ≤ 7 by omega)
            have h9 : (256 : Int) ^ 7 = 72057594037927936 := by decide
            have h10 : (0 : Int) < 256 ^ k := by exact_mod_cast Nat.pow_pos (show 0 < 256 by decide)
            omega
          have hpos : ¬ (256 : Int) ^ k = 0 := by
            have h10 : (0 : Int) < 256 ^ k := by exact_mod_cast Nat.pow_pos (show 0 < 256 by decide)
            omega
          have htm : x.tmod (256 ^ k) = x % 256 ^ k := Int.tmod_eq_emod_of_nonneg x0
          have hkI : (k : Int) < 8 := by omega
          generalize (256 : Int) ^ k = B at *
          go_wp2_with (first
            | (go_at_call 55; (with_reducible refine hRd.mono ?_); rintro r w9 ⟨rfl, h1⟩; have HB9 := hid h1; have hPa := HPa.out w9 h1; clear h1)
            | (go_at_call 55; (with_reducible refine hPa.mono ?_); rintro r w10 ⟨rfl, h1⟩; have HB10 : Hid (Below wr.heap.size wr w10) := HB9.out.trans (h1.mono HB9.out.size); have hH2 := HH2.out w10 HB10.out; clear h1)
            | (go_at_call 53; refine hH2.mono ?_; rintro r w11 ⟨rfl, h1⟩; have HB11 : Hid (Below wr.heap.size wr w11) := HB10.out.trans (h1.mono HB10.out.size); have hAw := l_awake10 w11; clear h1)
            | (go_at_call 13; refine hAw.mono ?_; rintro r w12 ⟨rfl, h1⟩; have HB12 : Hid (Below wr.heap.size wr w12) := HB11.out.trans (h1.mono HB11.out.size); clear h1))
          go_ret
          exact ⟨rfl, HE8.out.trans (HB12.out.mono HE8.out.size)⟩
        · obtain rfl : k = 8 := by omega
          have hxx : x % 256 ^ 8 = x := by
            have h9 : (256 : Int) ^ 8 = 18446744073709551616 := by decide
            rw [h9]; omega
          rw [hxx] at hRd
          have hRd : Calls Try.prog 55 #[.pointer (some ⟨qa, 0, none⟩), .int .u64 (2147483648 + (X0 : Int)), .int .i64 8] wr fun r w' => r = .returned (.tuple #[.int .u64 x, .bool true]) ∧ Below wr.heap.size wr w' := hRd
          have HPa : Hid (∀ w', Below wr.heap.size wr w' → Calls Try.prog 55 #[.pointer (some ⟨qa, 0, none⟩), .int .u64 2147491833, .int .i64 8] w' fun r w2 => r = .returned (.tuple #[.int .u64 0, .bool false]) ∧ Below w'.heap.size w' w2) := HPa
          go_wp2_with (first
            | (go_at_call 55; (with_reducible refine hRd.mono ?_); rintro r w9 ⟨rfl, h1⟩; have HB9 := hid h1; have hPa := HPa.out w9 h1; clear h1)
            | (go_at_call 55; (with_reducible refine hPa.mono ?_); rintro r w10 ⟨rfl, h1⟩; have HB10 : Hid (Below wr.heap.size wr w10) := HB9.out.trans (h1.mono HB9.out.size); have hH2 := HH2.out w10 HB10.out; clear h1)
            | (go_at_call 53; refine hH2.mono ?_; rintro r w11 ⟨rfl, h1⟩; have HB11 : Hid (Below wr.heap.size wr w11) := HB10.out.trans (h1.mono HB10.out.size); have hAw := l_awake10 w11; clear h1)
            | (go_at_call 13; refine hAw.mono ?_; rintro r w12 ⟨rfl, h1⟩; have HB12 : Hid (Below wr.heap.size wr w12) := HB11.out.trans (h1.mono HB11.out.size); clear h1))
          go_ret
          exact ⟨rfl, HE8.out.trans (HB12.out.mono HE8.out.size)⟩
end Go.Proofs.Ythfpoefpnoodiaa
