/- VirtqSettings. -/
import Derived.Test.YtgebjfkmiaobgaaMH3
namespace Go.Proofs.Ytgebjfkmiaobgaa
open Go.RowKit
open C (Only hid Still ret_int ret_bool)
set_option linter.unusedVariables false
set_option maxRecDepth 100000

theorem sz_not {z : Int} (h : isSz z = false) : (z == 1) = false ∧ (z == 2) = false ∧ (z == 4) = false ∧ (z == 8) = false ∧ (z == 16) = false ∧ (z == 32) = false ∧ (z == 64) = false := by
  unfold isSz at h
  simp only [Bool.or_eq_false_iff] at h
  obtain ⟨⟨⟨⟨⟨⟨a, b⟩, c⟩, d⟩, e⟩, f⟩, g⟩ := h
  exact ⟨a, b, c, d, e, f, g⟩
theorem sz_yes {z : Int} (h : isSz z = true) : z = 1 ∨ z = 2 ∨ z = 4 ∨ z = 8 ∨ z = 16 ∨ z = 32 ∨ z = 64 := by unfold isSz at h; simp at h; omega
/-- a queue by itself -/
structure Qo (W w : World) (q : Nat) (v : QV) : Prop where
  qb : Qb w q v
  new : Below W.heap.size W w
  qn : W.heap.size ≤ q
theorem Qo.own {W w w' : World} {q : Nat} {v v' : QV} (h : Qo W w q v) (ho : Only (· = q) w w') (hq : Qb w' q v') : Qo W w' q v' :=
  ⟨hq, ((Only.ofBelow (S := fun _ => False) h.new).trans' ho fun i hi e => absurd h.qn (by omega)).below _ (Nat.le_refl _) fun k e => e.elim, h.qn⟩
set_option maxHeartbeats 4000000 in
theorem w_VirtqSettings (W : World) (size : Int) (s0 : -9223372036854775808 ≤ size) (s1 : size ≤ 9223372036854775807) (d : Int) (d0 : 0 ≤ d) (d1 : d < 18446744073709551616) (a : Int) (a0 : 0 ≤ a) (a1 : a < 18446744073709551616) (u : Int) (u0 : 0 ≤ u) (u1 : u < 18446744073709551616) :
    Calls Try.prog 7 #[.int .i64 size, .int .u64 d, .int .u64 a, .int .u64 u] W fun e w' => e = .returned (.bool true) ∧ Below W.heap.size W w' := by
  go_enter Try.func7, Try.ntmps7
  go_upto_region 4 with (go_at_call 11; refine (k_New _).mono ?_; rintro e w1 ⟨rfl, h1, h2⟩; have HQ : Hid (Qo W w1 W.heap.size q0) := ⟨h1, h2, Nat.le_refl _⟩; clear h1 h2)
  go_cut [10] from 15 to 40 (fun x wx => x = .bool (isSz size) ∧ wx = w1)
  case first =>
    cases hs : isSz size
    · obtain ⟨k1, k2, k3, k4, k5, k6, k7⟩ := sz_not hs
      have HS := hid hs
      clear hs
      go_wp2_with fail
      go_meet
      case rel => exact ⟨by rw [HS.out], rfl⟩
    · rcases sz_yes hs with rfl | rfl | rfl | rfl | rfl | rfl | rfl
      all_goals
        clear hs
        go_wp2_with fail
        go_meet
        case rel => exact ⟨rfl, rfl⟩
  case rest =>
    obtain ⟨rfl, rfl⟩ := hcut
    have q1 : d.tmod 16 = d % 16 := Int.tmod_eq_emod_of_nonneg d0
    have q2 : a.tmod 2 = a % 2 := Int.tmod_eq_emod_of_nonneg a0
    have q3 : u.tmod 4 = u % 4 := Int.tmod_eq_emod_of_nonneg u0
    have HOK : Hid (okS q0 size d a u = (isSz size && isPl d 16 && isPl a 2 && isPl u 4)) := rfl
    have hS := k_Setup wc W.heap.size q0 HQ.out.qb size d a u s0 s1 d0 d1 a0 a1 u0 u1
    have HP : Hid (isPl d 16 = (d % 16 == 0 && decide (d < 1152921504606846976)) ∧ isPl a 2 = (a % 2 == 0 && decide (a < 1152921504606846976)) ∧ isPl u 4 = (u % 4 == 0 && decide (u < 1152921504606846976))) := ⟨rfl, rfl, rfl⟩
    have HV : Hid (q0.set size d a u = bif okS q0 size d a u then ⟨size, d, a, u, 0, 0, false⟩ else q0) := rfl
    generalize q0.set size d a u = v1 at *
    generalize okS q0 size d a u = R at *
    have HSz : Hid (R = true → isSz size = true) := fun h => by rw [HOK.out] at h; simp only [Bool.and_eq_true] at h; exact h.1.1.1
    go_upto_region 5 with fail
    go_cut [10, 11] from 41 to 68 (fun y x wx => y = .bool (isSz size) ∧ x = .bool R ∧ wx = wc)
    case first =>
      obtain ⟨p1, p2, p3⟩ := HP.out
      have hR := HOK.out
      rw [p1, p2, p3] at hR
      clear p1 p2 p3 HP HOK HV hS HSz
      obtain ⟨x1, k1⟩ : ∃ x, (d % 16 == 0) = x := ⟨_, rfl⟩
      obtain ⟨x2, k2⟩ : ∃ x, (a % 2 == 0) = x := ⟨_, rfl⟩
      obtain ⟨x3, k3⟩ : ∃ x, (u % 4 == 0) = x := ⟨_, rfl⟩
      obtain ⟨y1, k4⟩ : ∃ x, decide (d < 1152921504606846976) = x := ⟨_, rfl⟩
      obtain ⟨y2, k5⟩ : ∃ x, decide (a < 1152921504606846976) = x := ⟨_, rfl⟩
      obtain ⟨y3, k6⟩ : ∃ x, decide (u < 1152921504606846976) = x := ⟨_, rfl⟩
      rw [k1, k2, k3, k4, k5, k6] at hR
      obtain ⟨e1, he1⟩ : ∃ e, d % 16 = e := ⟨_, rfl⟩
      obtain ⟨e2, he2⟩ : ∃ e, a % 2 = e := ⟨_, rfl⟩
      obtain ⟨e3, he3⟩ : ∃ e, u % 4 = e := ⟨_, rfl⟩
      rw [he1] at q1 k1
      rw [he2] at q2 k2
      rw [he3] at q3 k3
      clear he1 he2 he3 d0 d1 a0 a1 u0 u1 s0 s1
      cases h0 : isSz size
      · rw [h0] at hR
        obtain rfl : R = false := hR
        have HS := hid h0
        clear h0
        go_wp2_with fail
        go_meet
        case rel => exact ⟨by rw [HS.out], rfl, rfl⟩
      · rw [h0] at hR
        have HS := hid h0
        clear h0
        rcases x1 with _ | _
        · obtain rfl : R = false := by rw [hR]; cases x2 <;> cases x3 <;> cases y1 <;> cases y2 <;> cases y3 <;> rfl
          try clear hR
          go_wp2_with fail
          go_meet
          case rel => exact ⟨by rw [HS.out], rfl, rfl⟩
        · rcases x2 with _ | _
          · obtain rfl : R = false := by rw [hR]; cases x3 <;> cases y1 <;> cases y2 <;> cases y3 <;> rfl
            try clear hR
            go_wp2_with fail
            go_meet
            case rel => exact ⟨by rw [HS.out], rfl, rfl⟩
          · rcases x3 with _ | _
            · obtain rfl : R = false := by rw [hR]; cases y1 <;> cases y2 <;> cases y3 <;> rfl
              try clear hR
              go_wp2_with fail
              go_meet
              case rel => exact ⟨by rw [HS.out], rfl, rfl⟩
            · rcases y1 with _ | _
              · obtain rfl : R = false := by rw [hR]; cases y2 <;> cases y3 <;> rfl
                try clear hR
                go_wp2_with fail
                go_meet
                case rel => exact ⟨by rw [HS.out], rfl, rfl⟩
              · rcases y2 with _ | _
                · obtain rfl : R = false := by rw [hR]; cases y3 <;> rfl
                  try clear hR
                  go_wp2_with fail
                  go_meet
                  case rel => exact ⟨by rw [HS.out], rfl, rfl⟩
                · rcases y3 with _ | _
                  · obtain rfl : R = false := hR
                    try clear hR
                    go_wp2_with fail
                    go_meet
                    case rel => exact ⟨by rw [HS.out], rfl, rfl⟩
                  · obtain rfl : R = true := hR
                    try clear hR
                    go_wp2_with fail
                    go_meet
                    case rel => exact ⟨by rw [HS.out], rfl, rfl⟩
    case rest =>
      obtain ⟨rfl, rfl, rfl⟩ := hcut
      clear q1 q2 q3 HP HOK
      have HRe : Hid (∀ w2 v2, Qo W w2 W.heap.size v2 → Calls Try.prog 25 #[.pointer (some ⟨W.heap.size, 0, none⟩)] w2 fun e w' => e = .returned (.bool (v2.sz != 0)) ∧ w' = w2) := fun w2 v2 h2 => k_Ready w2 _ v2 h2.qb
      have HDe : Hid (∀ w2 v2, Qo W w2 W.heap.size v2 → Calls Try.prog 26 #[.pointer (some ⟨W.heap.size, 0, none⟩)] w2 fun e w' => e = .returned (.bool v2.dead) ∧ w' = w2) := fun w2 v2 h2 => k_Dead w2 _ v2 h2.qb
      have HRs : Hid (∀ w2 v2, Qo W w2 W.heap.size v2 → Calls Try.prog 23 #[.pointer (some ⟨W.heap.size, 0, none⟩)] w2 fun e w' => e = .returned (.tuple #[]) ∧ Qo W w' W.heap.size q0) := fun w2 v2 h2 => (k_Reset w2 _ v2 h2.qb).mono fun e w' ⟨h3, h4, h5⟩ => ⟨h3, h2.own h5 h4⟩
      have HSe : Hid (∀ w2, Qo W w2 W.heap.size q0 → Calls Try.prog 21 #[.pointer (some ⟨W.heap.size, 0, none⟩), .int .i64 2, .int .u64 16, .int .u64 2, .int .u64 4] w2 fun e w' => e = .returned (.int .i64 0) ∧ Qo W w' W.heap.size ⟨2, 16, 2, 4, 0, 0, false⟩) := fun w2 h2 => (k_Setup w2 _ q0 h2.qb 2 16 2 4 (by decide) (by decide) (by decide) (by decide) (by decide) (by decide) (by decide) (by decide)).mono fun e w' ⟨h3, h4, h5⟩ => ⟨h3, h2.own h5 h4⟩
      have HAw := hid l_awake
      cases R
      · obtain rfl : v1 = q0 := HV.out
        go_upto_region 8 with (first
          | (go_at_call 21; (refine hS.mono ?_); rintro e w2 ⟨rfl, h1, h2⟩; have H2 : Hid (Qo W w2 W.heap.size q0) := HQ.out.own h2 h1; have hr := HRe.out w2 q0 H2.out; have hd := HDe.out w2 q0 H2.out; clear h1 h2 hS)
          | (go_at_call 25; (refine hr.mono ?_); rintro e w' ⟨rfl, hw⟩; obtain rfl := hw.symm)
          | (go_at_call 26; (refine hd.mono ?_); rintro e w' ⟨rfl, hw⟩; obtain rfl := hw.symm))
        have hrs := HRs.out _ _ H2.out
        clear hr hd
        go_wp2_with (first
          | (go_at_call 23; (refine hrs.mono ?_); rintro e w3 ⟨rfl, h1⟩; have H3 := hid h1; have hr := HRe.out w3 q0 h1; have hse := HSe.out w3 h1; clear h1 hrs)
          | (go_at_call 25; (refine hr.mono ?_); rintro e w' ⟨rfl, hw⟩; obtain rfl := hw.symm)
          | (go_at_call 21; (refine hse.mono ?_); rintro e w4 ⟨rfl, h1⟩; have H4 := hid h1; clear h1 hse)
          | (go_at_call 30; (refine (HAw.out _).mono ?_); rintro e w5 ⟨rfl, h1⟩; have B5 := hid h1; clear h1))
        go_ret
        exact ⟨rfl, H4.out.new.trans (B5.out.mono H4.out.new.size)⟩
      · obtain rfl : v1 = ⟨size, d, a, u, 0, 0, false⟩ := HV.out
        have hne : (size != 0) = true := by
          have := isSz_b (HSz.out rfl)
          simp; omega
        have HS2 : Hid (∀ w2, Qo W w2 W.heap.size ⟨size, d, a, u, 0, 0, false⟩ → Calls Try.prog 21 #[.pointer (some ⟨W.heap.size, 0, none⟩), .int .i64 2, .int .u64 0, .int .u64 0, .int .u64 0] w2 fun e w' => e = .returned (.int .i64 1) ∧ Qo W w' W.heap.size ⟨size, d, a, u, 0, 0, false⟩) := fun w2 h2 => (k_Setup w2 _ _ h2.qb 2 0 0 0 (by decide) (by decide) (by decide) (by decide) (by decide) (by decide) (by decide) (by decide)).mono fun e w' ⟨h3, h4, h5⟩ => by
          have e1 : okS ⟨size, d, a, u, 0, 0, false⟩ 2 0 0 0 = false := by
            have : (size == 0) = false := by simpa [bne] using hne
            unfold okS
            simp [this]
          have e2 : QV.set ⟨size, d, a, u, 0, 0, false⟩ 2 0 0 0 = ⟨size, d, a, u, 0, 0, false⟩ := by unfold QV.set; rw [e1]; rfl
          rw [e1] at h3
          rw [e2] at h4
          exact ⟨h3, h2.own h5 h4⟩
        go_upto_region 8 with (first
          | (go_at_call 21; (refine hS.mono ?_); rintro e w2 ⟨rfl, h1, h2⟩; have H2 : Hid (Qo W w2 W.heap.size ⟨size, d, a, u, 0, 0, false⟩) := HQ.out.own h2 h1; have hr := HRe.out w2 _ H2.out; have hd := HDe.out w2 _ H2.out; clear h1 h2 hS)
          | (go_at_call 25; (refine hr.mono ?_); rintro e w' ⟨rfl, hw⟩; obtain rfl := hw.symm)
          | (go_at_call 26; (refine hd.mono ?_); rintro e w' ⟨rfl, hw⟩; obtain rfl := hw.symm))
        have hs2 := HS2.out _ H2.out
        clear hr hd
        go_wp2_with (first
          | (go_at_call 21; (with_reducible refine hs2.mono ?_); rintro e w6 ⟨rfl, h1⟩; have H6 := hid h1; have hrs := HRs.out _ _ h1; clear h1 hs2)
          | (go_at_call 23; (refine hrs.mono ?_); rintro e w3 ⟨rfl, h1⟩; have H3 := hid h1; have hr := HRe.out w3 q0 h1; have hse := HSe.out w3 h1; clear h1 hrs)
          | (go_at_call 25; (refine hr.mono ?_); rintro e w' ⟨rfl, hw⟩; obtain rfl := hw.symm)
          | (go_at_call 21; (with_reducible refine hse.mono ?_); rintro e w4 ⟨rfl, h1⟩; have H4 := hid h1; clear h1 hse)
          | (go_at_call 30; (refine (HAw.out _).mono ?_); rintro e w5 ⟨rfl, h1⟩; have B5 := hid h1; clear h1))
        go_ret
        exact ⟨rfl, H4.out.new.trans (B5.out.mono H4.out.new.size)⟩
end Go.Proofs.Ytgebjfkmiaobgaa
