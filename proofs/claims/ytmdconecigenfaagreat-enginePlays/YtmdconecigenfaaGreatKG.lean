/- The document's IOMMU: an access, what is found. -/
import Derived.Test.YtmdconecigenfaaGreatKF
namespace Go.Proofs.YtmdconecigenfaaGreat
open Go.RowKit
open C (Only hid Mem Still ret_int ret_bool put byt nu RMem hasB WB WB.cell Calls.wb wp_region_wb gst rdm)
set_option linter.unusedVariables false
set_option maxRecDepth 100000

theorem here_comm7 (x y : E.TV) : x.here y.v y.p = y.here x.v x.p := by simp [E.TV.here, eq_comm]
theorem fp_at7 {L : List E.TV} (h : E.Nd L) {j : Nat} {y : E.TV} (hy : L[j]? = some y) : E.fp L y.v y.p = L.take j ++ L.drop (j + 1) := by
  induction L generalizing j with
  | nil => simp at hy
  | cons z L ih =>
    obtain ⟨h1, h2⟩ := List.pairwise_cons.1 h
    cases j with
    | zero =>
      simp at hy
      subst hy
      have e : E.fp (z :: L) z.v z.p = E.fp L z.v z.p := by simp [E.fp, E.TV.here]
      rw [e]
      simp
      unfold E.fp
      rw [List.filter_eq_self]
      intro a ha
      rw [here_comm7, h1 a ha]; rfl
    | succ j =>
      have hy' : L[j]? = some y := by simpa using hy
      have hz : z.here y.v y.p = false := h1 y (List.mem_of_getElem? hy')
      have e : E.fp (z :: L) y.v y.p = z :: E.fp L y.v y.p := by simp [E.fp, hz]
      rw [e, ih h2 hy']
      simp
theorem rp_pu7 {room : Nat} {L : List E.TV} (h : E.Nd L) (hl : L.length ≤ room) (e : E.TV) : E.rp room L e = E.pu room L e := by
  unfold E.rp E.pu
  have hle := E.fp_le L e.v e.p
  have hn := E.Nd.fp h e.v e.p
  generalize E.fp L e.v e.p = M at *
  by_cases hm : M.length = room
  · rw [if_pos (by omega), if_pos hm]
    cases M with
    | nil => rfl
    | cons y M =>
      have := fp_at7 hn (j := 0) (y := y) rfl
      show _ = E.fp (y :: M) y.v y.p ++ [e]
      rw [this]
      simp
  · rw [if_neg (by omega), if_neg hm]
theorem gst_mod {n : Nat} {f : Nat → Int} {root a k x y : Int} (h0 : root ≠ 0) (hg : gst (rdm n f) root a k = (x, y, 0)) : x % 4096 = a % 4096 := by
  unfold gst at hg
  rw [if_neg h0] at hg
  revert hg
  repeat' split
  all_goals
    intro hg
    simp only [Prod.mk.injEq] at hg
    obtain ⟨rfl, -, h⟩ := hg
    first | (unfold C.plc; omega) | (exact absurd h (by decide)) | omega | contradiction
theorem plf_x {n : Nat} {f : Nat → Int} (hf : ∀ j, 0 ≤ f j ∧ f j < 256) {root a k x y : Int} (h0 : root ≠ 0) (a0 : 0 ≤ a) (a1 : a < 18446744073709551616) (s0 : 0 ≤ root) (s1 : root < 18446744073709551616) (hg : gst (rdm n f) root a k = (x, y, 0)) : plf (x / 4096) a = x := by
  obtain ⟨b0, b1⟩ := gst_b hf root a k a0 a1 s0 s1 hg
  rw [plf_eq x a b0 b1]
  have := gst_mod h0 hg
  omega
set_option maxHeartbeats 4000000 in
theorem k_Access_hit (w : World) (b q r : Nat) (v : UV) (mv : Value) (hu : Ru w b q r v mv) (S : Nat → Prop) (n : Nat) (f : Nat → Int) (hm : RMem w S q 0 n f) (room : Nat) (vv : Value) (L : List E.TV) (hr : E.RM w r room vv L) (ok : VOk v n) (d a s : Int) (wt : Bool) (hd : isDev d = true) (a0 : 0 ≤ a) (a1 : a < 18446744073709551616) (s0 : -9223372036854775808 ≤ s) (s1 : s ≤ 9223372036854775807) (hw : whole a s = true) (hz : (v.root d.toNat == 0) = false) (e : E.TV) (hl : E.lk L d (a / 4096) = (e, true)) (hh : (bits .and .i64 e.r (art wt) == 0) = false) (x : Bool) (hx : hasB 0 n (plf e.f a) s = x) :
    Calls Tryz.prog 62 #[.pointer (some ⟨b, 0, none⟩), .int .i64 d, .int .u64 a, .int .i64 s, .bool wt] w fun e0 w' => e0 = .returned (.tuple #[.int .u64 (bif x then plf e.f a else 0), .bool x]) ∧ DQ w w' b q r (bif x then v else rcV v) mv S n (bif x then f else rcF v f d 3 a) room vv L := by
  obtain ⟨q0, q1⟩ := dev_cases hd
  have HD : Hid (Ru w b q r v mv ∧ RMem w S q 0 n f ∧ E.RM w r room vv L) := ⟨hu, hm, hr⟩
  have hlt := hu.lt
  have hpb := plf_b e.f a
  have c1 := hu.cr d.toNat (by omega)
  have c2 := hu.c1
  have HL := hid hl
  have HX := hid hx
  clear hu hm hr hl hx
  cases x
  · cases wt
    · have hp : ¬ bits .and .i64 e.r 2 = 0 := by simpa [art] using hh
      clear hh
      go_enter Tryz.func62, Tryz.ntmps62
      go_upto_region 8 with ((go_at_call 95; refine (k_none _ d true hd).mono ?_; rintro e w2 ⟨rfl, hw2⟩; obtain rfl := hw2.symm))
      go_cut [43] from 23 (fun t wc => t = .bool (!whole a s) ∧ w = wc)
      case first =>
        have hs : s = 1 ∨ s = 2 ∨ s = 4 ∨ s = 8 ∨ ¬ (s = 1 ∨ s = 2 ∨ s = 4 ∨ s = 8) := by omega
        clear hw
        rcases hs with rfl | rfl | rfl | rfl | hs
        iterate 4
          · go_wp2_with fail
            go_meet
            case rel => exact ⟨ret_bv (by first | (simp [whole]; done) | (simp [whole]; rfl)), rfl⟩
        · have n1 : (s == 1) = false := by simp; omega
          have n2 : (s == 2) = false := by simp; omega
          have n4 : (s == 4) = false := by simp; omega
          have n8 : (s == 8) = false := by simp; omega
          go_wp2_with fail
          go_meet
          case rel => exact ⟨ret_bv (by simp [whole, hs]), rfl⟩
      case rest =>
        obtain ⟨rfl, rfl⟩ := hcut
        rw [hw]
        go_wp2_with (first
          | (go_at_call 97; refine (E.r_Look _ r room vv L HD.out.2.2 d (a / 4096)).mono ?_; rw [HL.out]; rintro e1 w1 ⟨rfl, hb1⟩; have HB1 := hid hb1; clear hb1; have hlt1 : b < w1.heap.size := Nat.lt_of_lt_of_le hlt HB1.out.size; have k1 := (HD.out.1.below HB1.out).c0)
          | (go_at_call 91; refine (C.q_HasM _ S q 0 n f (HD.out.2.1.below (HB1.out.alloc HB1.out.size _)) (plf e.f a) s hpb.1 hpb.2 s0 s1).mono ?_; rw [HX.out]; rintro e3 w3 ⟨rfl, hs3⟩; have HB3 : Hid (Below w.heap.size w w3) := (HB1.out.alloc HB1.out.size _).trans (hs3.below w.heap.size); clear hs3)
          | (go_at_call 96; refine (k_recD w _ b q r v mv S n f room vv vv L (Only.ofBelow HB3.out) (HD.out.1.below HB3.out) (HD.out.2.1.below HB3.out) (HD.out.2.2.below HB3.out) (fun j h => .inl h) ok d 3 a q0 q1 (by decide) (by decide) a0 a1).mono ?_; rintro e4 w4 ⟨rfl, hq⟩; have HQ := hid hq; clear hq))
        go_ret2
        exact ⟨rfl, HQ.out⟩
    · have hp : ¬ bits .and .i64 e.r 4 = 0 := by simpa [art] using hh
      clear hh
      go_enter Tryz.func62, Tryz.ntmps62
      go_upto_region 8 with ((go_at_call 95; refine (k_none _ d true hd).mono ?_; rintro e w2 ⟨rfl, hw2⟩; obtain rfl := hw2.symm))
      go_cut [43] from 23 (fun t wc => t = .bool (!whole a s) ∧ w = wc)
      case first =>
        have hs : s = 1 ∨ s = 2 ∨ s = 4 ∨ s = 8 ∨ ¬ (s = 1 ∨ s = 2 ∨ s = 4 ∨ s = 8) := by omega
        clear hw
        rcases hs with rfl | rfl | rfl | rfl | hs
        iterate 4
          · go_wp2_with fail
            go_meet
            case rel => exact ⟨ret_bv (by first | (simp [whole]; done) | (simp [whole]; rfl)), rfl⟩
        · have n1 : (s == 1) = false := by simp; omega
          have n2 : (s == 2) = false := by simp; omega
          have n4 : (s == 4) = false := by simp; omega
          have n8 : (s == 8) = false := by simp; omega
          go_wp2_with fail
          go_meet
          case rel => exact ⟨ret_bv (by simp [whole, hs]), rfl⟩
      case rest =>
        obtain ⟨rfl, rfl⟩ := hcut
        rw [hw]
        go_wp2_with (first
          | (go_at_call 97; refine (E.r_Look _ r room vv L HD.out.2.2 d (a / 4096)).mono ?_; rw [HL.out]; rintro e1 w1 ⟨rfl, hb1⟩; have HB1 := hid hb1; clear hb1; have hlt1 : b < w1.heap.size := Nat.lt_of_lt_of_le hlt HB1.out.size; have k1 := (HD.out.1.below HB1.out).c0)
          | (go_at_call 91; refine (C.q_HasM _ S q 0 n f (HD.out.2.1.below (HB1.out.alloc HB1.out.size _)) (plf e.f a) s hpb.1 hpb.2 s0 s1).mono ?_; rw [HX.out]; rintro e3 w3 ⟨rfl, hs3⟩; have HB3 : Hid (Below w.heap.size w w3) := (HB1.out.alloc HB1.out.size _).trans (hs3.below w.heap.size); clear hs3)
          | (go_at_call 96; refine (k_recD w _ b q r v mv S n f room vv vv L (Only.ofBelow HB3.out) (HD.out.1.below HB3.out) (HD.out.2.1.below HB3.out) (HD.out.2.2.below HB3.out) (fun j h => .inl h) ok d 3 a q0 q1 (by decide) (by decide) a0 a1).mono ?_; rintro e4 w4 ⟨rfl, hq⟩; have HQ := hid hq; clear hq))
        go_ret2
        exact ⟨rfl, HQ.out⟩
  · cases wt
    · have hp : ¬ bits .and .i64 e.r 2 = 0 := by simpa [art] using hh
      clear hh
      go_enter Tryz.func62, Tryz.ntmps62
      go_upto_region 8 with ((go_at_call 95; refine (k_none _ d true hd).mono ?_; rintro e w2 ⟨rfl, hw2⟩; obtain rfl := hw2.symm))
      go_cut [43] from 23 (fun t wc => t = .bool (!whole a s) ∧ w = wc)
      case first =>
        have hs : s = 1 ∨ s = 2 ∨ s = 4 ∨ s = 8 ∨ ¬ (s = 1 ∨ s = 2 ∨ s = 4 ∨ s = 8) := by omega
        clear hw
        rcases hs with rfl | rfl | rfl | rfl | hs
        iterate 4
          · go_wp2_with fail
            go_meet
            case rel => exact ⟨ret_bv (by first | (simp [whole]; done) | (simp [whole]; rfl)), rfl⟩
        · have n1 : (s == 1) = false := by simp; omega
          have n2 : (s == 2) = false := by simp; omega
          have n4 : (s == 4) = false := by simp; omega
          have n8 : (s == 8) = false := by simp; omega
          go_wp2_with fail
          go_meet
          case rel => exact ⟨ret_bv (by simp [whole, hs]), rfl⟩
      case rest =>
        obtain ⟨rfl, rfl⟩ := hcut
        rw [hw]
        go_wp2_with (first
          | (go_at_call 97; refine (E.r_Look _ r room vv L HD.out.2.2 d (a / 4096)).mono ?_; rw [HL.out]; rintro e1 w1 ⟨rfl, hb1⟩; have HB1 := hid hb1; clear hb1; have hlt1 : b < w1.heap.size := Nat.lt_of_lt_of_le hlt HB1.out.size; have k1 := (HD.out.1.below HB1.out).c0)
          | (go_at_call 91; refine (C.q_HasM _ S q 0 n f (HD.out.2.1.below (HB1.out.alloc HB1.out.size _)) (plf e.f a) s hpb.1 hpb.2 s0 s1).mono ?_; rw [HX.out]; rintro e3 w3 ⟨rfl, hs3⟩; have HB3 : Hid (Below w.heap.size w w3) := (HB1.out.alloc HB1.out.size _).trans (hs3.below w.heap.size); clear hs3))
        go_ret2
        exact ⟨rfl, S, vv, HD.out.1.below HB3.out, HD.out.2.1.below HB3.out, HD.out.2.2.below HB3.out, Only.ofBelow HB3.out, fun j h => .inl h, fun j h => .inl h⟩
    · have hp : ¬ bits .and .i64 e.r 4 = 0 := by simpa [art] using hh
      clear hh
      go_enter Tryz.func62, Tryz.ntmps62
      go_upto_region 8 with ((go_at_call 95; refine (k_none _ d true hd).mono ?_; rintro e w2 ⟨rfl, hw2⟩; obtain rfl := hw2.symm))
      go_cut [43] from 23 (fun t wc => t = .bool (!whole a s) ∧ w = wc)
      case first =>
        have hs : s = 1 ∨ s = 2 ∨ s = 4 ∨ s = 8 ∨ ¬ (s = 1 ∨ s = 2 ∨ s = 4 ∨ s = 8) := by omega
        clear hw
        rcases hs with rfl | rfl | rfl | rfl | hs
        iterate 4
          · go_wp2_with fail
            go_meet
            case rel => exact ⟨ret_bv (by first | (simp [whole]; done) | (simp [whole]; rfl)), rfl⟩
        · have n1 : (s == 1) = false := by simp; omega
          have n2 : (s == 2) = false := by simp; omega
          have n4 : (s == 4) = false := by simp; omega
          have n8 : (s == 8) = false := by simp; omega
          go_wp2_with fail
          go_meet
          case rel => exact ⟨ret_bv (by simp [whole, hs]), rfl⟩
      case rest =>
        obtain ⟨rfl, rfl⟩ := hcut
        rw [hw]
        go_wp2_with (first
          | (go_at_call 97; refine (E.r_Look _ r room vv L HD.out.2.2 d (a / 4096)).mono ?_; rw [HL.out]; rintro e1 w1 ⟨rfl, hb1⟩; have HB1 := hid hb1; clear hb1; have hlt1 : b < w1.heap.size := Nat.lt_of_lt_of_le hlt HB1.out.size; have k1 := (HD.out.1.below HB1.out).c0)
          | (go_at_call 91; refine (C.q_HasM _ S q 0 n f (HD.out.2.1.below (HB1.out.alloc HB1.out.size _)) (plf e.f a) s hpb.1 hpb.2 s0 s1).mono ?_; rw [HX.out]; rintro e3 w3 ⟨rfl, hs3⟩; have HB3 : Hid (Below w.heap.size w w3) := (HB1.out.alloc HB1.out.size _).trans (hs3.below w.heap.size); clear hs3))
        go_ret2
        exact ⟨rfl, S, vv, HD.out.1.below HB3.out, HD.out.2.1.below HB3.out, HD.out.2.2.below HB3.out, Only.ofBelow HB3.out, fun j h => .inl h, fun j h => .inl h⟩
end Go.Proofs.YtmdconecigenfaaGreat
