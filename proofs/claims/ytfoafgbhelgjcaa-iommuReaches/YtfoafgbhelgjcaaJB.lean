/- A device reaches just the pages that its table maps. -/
import Derived.Test.YtfoafgbhelgjcaaJA
import Derived.Deep.DeepCutAuto
namespace Go.Proofs.Ytfoafgbhelgjcaa
open Go.RowKit
open C (Only hid Mem Still ret_int ret_bool put byt nu fcl c_Place Cl gst rdm hasB pm num)
set_option linter.unusedVariables false
set_option maxRecDepth 100000

theorem cl_three (w : World) (ab : Nat) (ty : TypeId) (i : Nat) (hi : i < 512) (e : Int) (e0 : 0 ≤ e) (e1 : e < 18446744073709551616) (h : w.heap[ab]? = some (.cells #[.int .i64 512, .int .u64 2049, .int .i64 1024, .int .u64 3073, .int .i64 (1536 + (i : Int)), .int .u64 e] ty (0, 0))) : Cl w (some ⟨ab, 0, none⟩) 3 3 ab 0 (X3 i e) := by
  refine ⟨Nat.le_refl _, by decide, fun _ => ⟨rfl, lt_of_block h⟩, fun k hk => ?_, fun k hk => ?_⟩
  · match k, hk with
    | 0, _ => exact ⟨by rw [cell_of_row w ab 0 _ _ _ h]; rfl, by rw [cell_of_row w ab 1 _ _ _ h]; rfl⟩
    | 1, _ => exact ⟨by rw [cell_of_row w ab 2 _ _ _ h]; rfl, by rw [cell_of_row w ab 3 _ _ _ h]; rfl⟩
    | 2, _ => exact ⟨by rw [cell_of_row w ab 4 _ _ _ h]; rfl, by rw [cell_of_row w ab 5 _ _ _ h]; rfl⟩
  · match k, hk with
    | 0, _ => exact ⟨⟨show -9223372036854775808 ≤ (512 : Int) by decide, show (512 : Int) ≤ 9223372036854775807 by decide⟩, show (0 : Int) ≤ 2049 by decide, show (2049 : Int) < 18446744073709551616 by decide⟩
    | 1, _ => exact ⟨⟨show -9223372036854775808 ≤ (1024 : Int) by decide, show (1024 : Int) ≤ 9223372036854775807 by decide⟩, show (0 : Int) ≤ 3073 by decide, show (3073 : Int) < 18446744073709551616 by decide⟩
    | 2, _ => exact ⟨⟨by show -9223372036854775808 ≤ 1536 + (i : Int); omega, by show 1536 + (i : Int) ≤ _; omega⟩, e0, e1⟩
theorem or_low (n b : Int) (n0 : 0 ≤ n) (n1 : n < 4096) (b0 : 0 ≤ b) (b1 : b < 256) : bits .or .u64 (n * 1024) b = n * 1024 + b := by
  obtain ⟨N, rfl⟩ := Int.eq_ofNat_of_zero_le n0
  obtain ⟨B, rfl⟩ := Int.eq_ofNat_of_zero_le b0
  have h := Nat.two_pow_add_eq_or_of_lt (i := 10) (b := B) (by omega) N
  have e : (N : Int) * 1024 = ((N * 1024 : Nat) : Int) := by omega
  rw [e, bits_or_u64_nat _ _ (by omega) (by omega)]
  rw [show (2 : Nat) ^ 10 = 1024 from rfl, Nat.mul_comm] at h
  rw [← h]; omega
def l1B (b : Int) : Bool := (bits .and .u64 b 1 != 0) && (bits .and .u64 b 16 != 0) && (bits .and .u64 b 64 != 0) && ((bits .and .u64 b 4 == 0) || (bits .and .u64 b 2 != 0))
theorem ltB_l1 (b : Int) (wt : Bool) : ltB b wt = (l1B b && (bif wt then (bits .and .u64 b 4 != 0) && (bits .and .u64 b 128 != 0) else (bits .and .u64 b 2 != 0))) := rfl
/-- what the access comes to -/
def rcK (n b : Int) (wt : Bool) : Int := if ltB b wt = true then (if n < 8 then 0 else 3) else 2
theorem reach_ac (f : Nat → Int) (v : UV) (i : Nat) (hi : i < 512) (n : Int) (n0 : 0 ≤ n) (n1 : n < 12) (b : Nat) (hb : b < 256) (o : Int) (o0 : 0 ≤ o) (o1 : o < 4096) (o8 : o % 8 = 0) (wt : Bool) (hr : v.root (Int.toNat 1) = 1) (h1 : C.rd8 f 4096 = 2049) (h2 : C.rd8 f 8192 = 3073) (h3 : C.rd8 f (12288 + 8 * i) = n * 1024 + b) :
    ∃ L', acF 8 f v 4 [] 1 ((i : Int) * 4096 + o) 8 wt = (rcK n b wt, (if rcK n b wt = 0 then n * 4096 + o else 0), L') := by
  have hg := lev3 f i hi (n * 1024 + b) h1 h2 h3 o (akd wt) o0 o1
  have hnum : num (n * 1024 + b) = n := C.num_of n b hb
  unfold acF
  rw [if_neg (by rw [whole8 _ (by omega)]; decide), hr, if_neg (by decide)]
  by_cases hl : ltB b wt = true
  · rw [if_pos ((lt_iff n n0 (by omega) b hb wt).2 hl), hnum] at hg
    have hm := (fnd_miss (room := 4) (L := []) (d := 1) (e := E.TV.zero) (ok := false) rfl (by rintro ⟨q, -⟩; cases q) hg).1 rfl
    have hp : plf ((n * 4096 + o) / 4096) ((i : Int) * 4096 + o) = n * 4096 + o := by rw [plf_eq _ _ (by omega) (by omega)]; omega
    rw [hm, hp]
    have hk : rcK n b wt = if n < 8 then 0 else 3 := by unfold rcK; rw [if_pos hl]
    rw [hk]
    by_cases h8 : n < 8
    · have hh : hasB 0 8 (n * 4096 + o) 8 = true := by simp [hasB]; omega
      simp only [hh, if_true, if_pos h8]
      exact ⟨_, rfl⟩
    · have hh : hasB 0 8 (n * 4096 + o) 8 = false := by simp [hasB]; omega
      simp only [hh, if_neg h8]
      exact ⟨_, rfl⟩
  · rw [if_neg (fun q => hl ((lt_iff n n0 (by omega) b hb wt).1 q))] at hg
    have hm := (fnd_miss (room := 4) (L := []) (d := 1) (e := E.TV.zero) (ok := false) rfl (by rintro ⟨q, -⟩; cases q) hg).2 (by decide)
    rw [hm]
    have hk : rcK n b wt = 2 := by unfold rcK; rw [if_neg hl]
    rw [hk]
    exact ⟨_, rfl⟩
set_option maxHeartbeats 4000000 in
theorem w_IommuReaches (W : World) (x : Int) (x0 : -9223372036854775808 ≤ x) (x1 : x ≤ 9223372036854775807) (y : Int) (y0 : 0 ≤ y) (y1 : y < 18446744073709551616) (z : Int) (z0 : -9223372036854775808 ≤ z) (z1 : z ≤ 9223372036854775807) (a : Int) (a0 : 0 ≤ a) (a1 : a < 18446744073709551616) (wt : Bool) :
    Calls Try.prog 7 #[.int .i64 x, .int .u64 y, .int .i64 z, .int .u64 a, .bool wt] W fun e w' => e = .returned (.bool true) ∧ Below W.heap.size W w' := by
  obtain ⟨i, hix⟩ : ∃ i : Nat, x % 512 = i := ⟨(x % 512).toNat, by omega⟩
  have i1 : i < 512 := by omega
  obtain ⟨n, hny⟩ : ∃ n, y % 12 = n := ⟨_, rfl⟩
  have n0 : 0 ≤ n := by omega
  have n1 : n < 12 := by omega
  obtain ⟨b, hbz⟩ : ∃ b : Nat, z % 256 = b := ⟨(z % 256).toNat, by omega⟩
  have b1 : b < 256 := by omega
  obtain ⟨o, ho⟩ : ∃ o, a % 512 * 8 = o := ⟨_, rfl⟩
  have o0 : 0 ≤ o := by omega
  have o1 : o < 4096 := by omega
  have o8 : o % 8 = 0 := by omega
  have HIX := hid hix
  have HBZ := hid hbz
  have hor := or_low n b n0 (by omega) (by omega) (by omega)
  clear hix hbz
  go_enter Try.func7, Try.ntmps7
  have P1 : Hid True := trivial
  go_upto_region 8 with (first
    | (have tk := P1; go_at_call 19; refine (c_Place x 512 (by decide) (by decide) x0 x1 _).mono ?_; clear tk P1; rw [HIX.out]; rintro e w3 ⟨rfl, hw3⟩; obtain rfl := hw3.symm)
    | (go_at_call 19; refine (c_Place z 256 (by decide) (by decide) z0 z1 _).mono ?_; rw [HBZ.out]; rintro e w3 ⟨rfl, hw3⟩; obtain rfl := hw3.symm)
    | (go_at_call 18; refine (l_New _ 4 (by decide) (by decide) (some ⟨W.heap.size, 0, none⟩) 3 3 W.heap.size 0 (X3 i (n * 1024 + b)) (cl_three _ _ _ i i1 (n * 1024 + b) (by omega) (by omega) (heap_alloc_new W _))).mono ?_; rintro e w1 ⟨u, t, m, xx, q, F, T, rfl, hs, -, -, hb, hf⟩; have H1 := hid (LW.start (T := T) (t := t) (m := m) (x := xx) (q := q) ((Below.refl W.heap.size W).alloc (Nat.le_refl _) _) hs hb hf (.pointer (some ⟨xx, 0, none⟩)) (.pointer (some ⟨m, 0, none⟩)) (.pointer (some ⟨q, 0, none⟩))); clear hs hb hf)
    | (go_at_call 20; refine (s_Set _ F u _ 8 _ 4 [] H1.out.us 1 1 rfl rfl (by decide) (by decide)).mono ?_; rintro e w2 ⟨rfl, hs2, ht2⟩; have H2 := hid (H1.out.step hs2 ht2); have c2 := H2.out.c; clear hs2 ht2)
    | (go_at_call 21; refine (s_Ring _ F u _ 8 _ 4 [] H2.out.us 0 rfl (by decide) 0 rfl).mono ?_; rintro e w3 ⟨rfl, hs3, ht3⟩; have H3 := hid (H2.out.step hs3 ht3); clear hs3 ht3))
  have c3 := H3.out.c
  obtain ⟨ob, hob⟩ : ∃ ob, w1.heap.size = ob := ⟨_, rfl⟩
  rw [hob] at H3 c3
  rw [hob]
  clear H1 H2 c2 hob hor
  have hac := reach_ac (fcl 8 (X3 i (n * 1024 + b)) 3) (((v0 t m).setRoot (Int.toNat 1) 1).setRing 0) i i1 n n0 n1 b b1 o o0 o1 o8 wt rfl (x3_rd i i1 (n * 1024 + b) (by omega) (by omega)).1 (x3_rd i i1 (n * 1024 + b) (by omega) (by omega)).2.1 (x3_rd i i1 (n * 1024 + b) (by omega) (by omega)).2.2
  obtain ⟨L', hac⟩ := hac
  have HAC := hid hac
  clear hac
  generalize fcl 8 (X3 i (n * 1024 + b)) 3 = f at H3 HAC
  go_cut [17] (fun s wx => s = .bool (l1B b) ∧ wx = w3)
  case first =>
    cases hV : (bits .and .u64 (b : Int) 1 != 0)
    · go_wp2
      go_meet
      exact ⟨by simp [l1B, hV], rfl⟩
    · cases hU : (bits .and .u64 (b : Int) 16 != 0)
      · go_wp2
        go_meet
        exact ⟨by simp [l1B, hV, hU], rfl⟩
      · cases hA : (bits .and .u64 (b : Int) 64 != 0)
        · go_wp2
          go_meet
          exact ⟨by simp [l1B, hV, hU, hA], rfl⟩
        · cases hW : (bits .and .u64 (b : Int) 4 == 0)
          · cases hR : (bits .and .u64 (b : Int) 2 != 0)
            all_goals
              go_wp2
              go_meet
              exact ⟨by simp [l1B, hV, hU, hA, hW, hR], rfl⟩
          · go_wp2
            go_meet
            exact ⟨by simp [l1B, hV, hU, hA, hW], rfl⟩
  case rest =>
    obtain ⟨rfl, rfl⟩ := hcut
    go_upto_if 95 with fail
    go_cut [17] (fun s wx => s = .bool (ltB b wt) ∧ wx = wc)
    case first =>
      cases wt
      · cases hL : l1B b <;> cases hR : (bits .and .u64 (b : Int) 2 != 0)
        all_goals
          go_wp2
          go_meet
          exact ⟨by simp [ltB_l1, hL, hR], rfl⟩
      · cases hL : l1B b <;> cases hW : (bits .and .u64 (b : Int) 4 != 0) <;> cases hD : (bits .and .u64 (b : Int) 128 != 0)
        all_goals
          go_wp2
          go_meet
          exact ⟨by simp [ltB_l1, hL, hW, hD], rfl⟩
    case rest =>
      obtain ⟨rfl, rfl⟩ := hcut
      cases hlt : ltB b wt
      · have hk : rcK n b wt = 2 := by unfold rcK; rw [hlt]; rfl
        rw [hk] at HAC
        simp only [show ¬ ((2 : Int) = 0) by decide, if_false] at HAC
        have R1 := hid (Rg.recd (f := f) (G := fun _ => (1, 2, (i : Int) * 4096 + o)) (told := 0) (c := 0) (l := false) ⟨rfl, rfl, rfl, fun i hi => absurd hi (Nat.not_lt_zero i)⟩ H3.out.us.ok 1 2 ((i : Int) * 4096 + o) (by decide) (by decide) (by decide) (by decide) (by omega) (by omega) (fun _ => rfl))
        go_wp2_with (first
          | (go_at_call 22; refine (s_Access _ F u _ 8 _ 4 [] H3.out.us 1 ((i : Int) * 4096 + o) 8 wt rfl (by omega) (by omega) (by decide) (by decide) _ _ _ HAC.out).mono ?_; rintro e w5 ⟨rfl, F5, hs5, ht5⟩; have H5 := hid (H3.out.step hs5 ht5); have c5 := H5.out.c; clear hs5 ht5)
          | (go_at_call 26; refine (s_NextG _ F5 u _ 8 _ 4 _ H5.out.us (fun _ => (1, 2, (i : Int) * 4096 + o)) 0 R1.out.rl (by show 0 < (rcV _).count; rw [R1.out.count]; decide) 1 2 ((i : Int) * 4096 + o) rfl).mono ?_; rintro e w6 ⟨rfl, hs6, ht6, -⟩; have H6 := hid (H5.out.step hs6 ht6); clear hs6 ht6)
          | (go_at_call 28; refine (l_awake _).mono ?_; rintro e w9 ⟨rfl, hb9⟩; have HB9 := hid hb9; clear hb9))
        go_ret
        exact ⟨rfl, (H6.out.alloc _).new.trans (HB9.out.mono (H6.out.alloc _).new.size)⟩
      · by_cases h8 : n < 8
        · have hk : rcK n b wt = 0 := by unfold rcK; rw [hlt, if_pos rfl, if_pos h8]
          rw [hk] at HAC
          simp only [if_true] at HAC
          go_wp2_with (first
            | (go_at_call 22; refine (s_Access _ F u _ 8 _ 4 [] H3.out.us 1 ((i : Int) * 4096 + o) 8 wt rfl (by omega) (by omega) (by decide) (by decide) _ _ _ HAC.out).mono ?_; rintro e w5 ⟨rfl, F5, hs5, ht5⟩; have H5 := hid (H3.out.step hs5 ht5); have c5 := H5.out.c; clear hs5 ht5)
            | (go_at_call 26; refine (s_Next_no _ F5 u _ 8 _ 4 _ H5.out.us rfl).mono ?_; rintro e w6 ⟨rfl, hb6⟩; have H6 := hid (H5.out.below hb6); clear hb6)
            | (go_at_call 28; refine (l_awake _).mono ?_; rintro e w9 ⟨rfl, hb9⟩; have HB9 := hid hb9; clear hb9))
          go_ret
          exact ⟨rfl, (H6.out.alloc _).new.trans (HB9.out.mono (H6.out.alloc _).new.size)⟩
        · have hk : rcK n b wt = 3 := by unfold rcK; rw [hlt, if_pos rfl, if_neg h8]
          rw [hk] at HAC
          simp only [show ¬ ((3 : Int) = 0) by decide, if_false] at HAC
          have R1 := hid (Rg.recd (f := f) (G := fun _ => (1, 3, (i : Int) * 4096 + o)) (told := 0) (c := 0) (l := false) ⟨rfl, rfl, rfl, fun i hi => absurd hi (Nat.not_lt_zero i)⟩ H3.out.us.ok 1 3 ((i : Int) * 4096 + o) (by decide) (by decide) (by decide) (by decide) (by omega) (by omega) (fun _ => rfl))
          go_wp2_with (first
            | (go_at_call 22; refine (s_Access _ F u _ 8 _ 4 [] H3.out.us 1 ((i : Int) * 4096 + o) 8 wt rfl (by omega) (by omega) (by decide) (by decide) _ _ _ HAC.out).mono ?_; rintro e w5 ⟨rfl, F5, hs5, ht5⟩; have H5 := hid (H3.out.step hs5 ht5); have c5 := H5.out.c; clear hs5 ht5)
            | (go_at_call 26; refine (s_NextG _ F5 u _ 8 _ 4 _ H5.out.us (fun _ => (1, 3, (i : Int) * 4096 + o)) 0 R1.out.rl (by show 0 < (rcV _).count; rw [R1.out.count]; decide) 1 3 ((i : Int) * 4096 + o) rfl).mono ?_; rintro e w6 ⟨rfl, hs6, ht6, -⟩; have H6 := hid (H5.out.step hs6 ht6); clear hs6 ht6)
            | (go_at_call 28; refine (l_awake _).mono ?_; rintro e w9 ⟨rfl, hb9⟩; have HB9 := hid hb9; clear hb9))
          go_ret
          exact ⟨rfl, (H6.out.alloc _).new.trans (HB9.out.mono (H6.out.alloc _).new.size)⟩
end Go.Proofs.Ytfoafgbhelgjcaa
