/- FrameCounts: counts add up to all frames; takes give the lowest free frame. -/
import Derived.Test.YtehghhonhfmieaaFR
import Derived.Test.YtehghhonhfmieaaCQF
namespace Go.Proofs.Ytehghhonhfmieaa
open Go.RowKit
open C (Only hid Mem RMem Still ret_bool ret_int put byt nu TB Tw Cl fcl c_Place step_call step_call3)
set_option linter.unusedVariables false
set_option maxRecDepth 100000

/-- counts of the first k owners together -/
def smC (o : Nat → Int) (n : Nat) : Nat → Nat
  | 0 => 0
  | k + 1 => smC o n k + cnt o (-2 + (k : Int)) n
theorem cnt_succ (o : Nat → Int) (x : Int) (n : Nat) : cnt o x (n + 1) = bif decide (o n = x) then cnt o x n + 1 else cnt o x n := rfl
theorem smC_step (o : Nat → Int) (n : Nat) (h : -2 ≤ o n) : ∀ k, smC o (n + 1) k = smC o n k + if o n < -2 + (k : Int) then 1 else 0
  | 0 => by simp [smC]; omega
  | k + 1 => by
    unfold smC
    rw [smC_step o n h k, cnt_succ]
    by_cases e : o n = -2 + (k : Int)
    · simp only [e, decide_true, cond_true]
      rw [if_neg (by omega), if_pos (by omega)]
      omega
    · simp only [e, decide_false, cond_false]
      by_cases q : o n < -2 + (k : Int)
      · rw [if_pos q, if_pos (by omega)]; omega
      · rw [if_neg q, if_neg (by omega)]; omega
theorem smC_zero (o : Nat → Int) : ∀ k, smC o 0 k = 0
  | 0 => rfl
  | k + 1 => by unfold smC; rw [smC_zero o k]; rfl
theorem smC_le (o : Nat → Int) (h : ∀ i, -2 ≤ o i) (k : Nat) : ∀ n, smC o n k ≤ n
  | 0 => by rw [smC_zero]; exact Nat.le_refl _
  | n + 1 => by
    rw [smC_step o n (h n)]
    have := smC_le o h k n
    split <;> omega
theorem smC_all (o : Nat → Int) (h : ∀ i, -2 ≤ o i ∧ o i ≤ 8) : ∀ n, smC o n 11 = n
  | 0 => smC_zero o 11
  | n + 1 => by
    rw [smC_step o n (h n).1, smC_all o h n, if_pos]
    have := (h n).2
    show o n < -2 + (11 : Int)
    omega
/-- the lowest free frame behind a, as it is found from the end -/
def Was (o : Nat → Int) (n : Nat) (a : Int) (x : Int) : Prop := (x = -1 ∧ ∀ j : Nat, a < (j : Int) → j < n → o j ≠ 0) ∨ ∃ i : Nat, x = (i : Int) ∧ a < (i : Int) ∧ i < n ∧ o i = 0 ∧ ∀ j : Nat, a < (j : Int) → j < i → o j ≠ 0
theorem Was.hit {o : Nat → Int} {n i : Nat} {x : Int} (h : Was o n (i : Int) x) (hi : i < n) (h0 : o i = 0) : Was o n ((i : Int) - 1) (i : Int) :=
  .inr ⟨i, rfl, by omega, hi, h0, fun j h1 h2 => by omega⟩
theorem Was.miss {o : Nat → Int} {n i : Nat} {x : Int} (h : Was o n (i : Int) x) (hi : i < n) (h0 : o i ≠ 0) : Was o n ((i : Int) - 1) x := by
  rcases h with ⟨rfl, h⟩ | ⟨k, rfl, h1, h2, h3, h4⟩
  · refine .inl ⟨rfl, fun j a b => ?_⟩
    rcases Nat.lt_or_ge i j with q | q
    · exact h j (by omega) b
    · obtain rfl : j = i := by omega
      exact h0
  · refine .inr ⟨k, rfl, by omega, h2, h3, fun j a b => ?_⟩
    rcases Nat.lt_or_ge i j with q | q
    · exact h4 j (by omega) b
    · obtain rfl : j = i := by omega
      exact h0
theorem LB.dn {W w : World} {b p q : Nat} {F : Nat → Prop} {v : PV} {f : Nat → Int} (h : LB W w b F p q v f) (n : Nat) : LB W (w.drewN n) b F p q v f := h.below ⟨rfl, rfl, rfl, Nat.le_refl _, fun _ _ => rfl⟩
theorem Was.find {o : Nat → Int} {n : Nat} {x : Int} (h : Was o n (-1) x) {i : Nat} (hi : i < n) (h0 : o i = 0) (h1 : ∀ j, j < i → o j ≠ 0) : x = (i : Int) := by
  rcases h with ⟨rfl, h⟩ | ⟨k, rfl, a1, a2, a3, a4⟩
  · exact absurd h0 (h i (by omega) hi)
  · rcases Nat.lt_trichotomy k i with z | z | z
    · exact absurd a3 (h1 k z)
    · rw [z]
    · exact absurd h0 (a4 i (by omega) z)
theorem Was.none {o : Nat → Int} {n : Nat} {x : Int} (h : Was o n (-1) x) (h1 : ∀ j, j < n → o j ≠ 0) : x = -1 := by
  rcases h with ⟨rfl, h⟩ | ⟨k, rfl, a1, a2, a3, a4⟩
  · rfl
  · exact absurd a3 (h1 k a2)
theorem own_at {v : PV} {i : Nat} (hi : i < v.n) (x : Int) : ownF (v.own i x) (i : Int) = x := by
  rw [(own_same (v := v.own i x) (i := i) hi).1]
  exact upd_same _ _ _
/-- New upon the pair, behind draws -/
theorem l_NewB (W w0 w1 wd : World) (n r hh : Nat) (m q : Nat) (U : Nat → Prop) (f : Nat → Int) (h0 : Below W.heap.size W w0) (ht : Tw w1 U m q n f) (hb : Below w0.heap.size w0 w1) (hu : ∀ k, U k → w0.heap.size ≤ k) (g0 : 0 < hh) (g1 : hh ≤ 8) (hr : r ≤ n) (r' h' : Int) (er : r' = (r : Int)) (eh : h' = (hh : Int))
    (hd : Below (w1.alloc (.cells #[.pointer (some ⟨m, 0, none⟩), .pointer (some ⟨q, 0, none⟩)] 27)).heap.size (w1.alloc (.cells #[.pointer (some ⟨m, 0, none⟩), .pointer (some ⟨q, 0, none⟩)] 27)) wd) :
    Calls Try.prog 10 #[.pointer (some ⟨m, 0, none⟩), .int .i64 r', .int .i64 h'] wd fun e w' => ∃ p F, e = .returned (.tuple #[.pointer (some ⟨p, 0, none⟩), .int .i64 0]) ∧ LB W w' w1.heap.size F p q (v0 m r hh n) f := by
  subst er eh
  have hT := ht
  obtain ⟨S, T, m1, m2, m3, m4⟩ := ht
  refine (x_New wd S m n f ((m1.below ((Below.refl _ _).alloc (Nat.le_refl _) _)).below hd) r hh g0 g1 hr).mono ?_
  rintro e w' ⟨p, F, rfl, k1, k2, k3⟩
  exact ⟨p, F, rfl, lay_pool h0 hT hb hu S (fun k hk => (m3 k).2 (.inl hk)) k1 (hd.trans (k2.mono hd.size)) fun k hk => (k3 k hk).elim .inl fun y => .inr (Nat.le_trans hd.size y)⟩
set_option maxHeartbeats 4000000 in
theorem w_FrameCounts (W : World) (n : Int) (n0 : -9223372036854775808 ≤ n) (n1 : n ≤ 9223372036854775807) (rs : Int) (r0 : -9223372036854775808 ≤ rs) (r1 : rs ≤ 9223372036854775807) (ad : Option Addr) (la cap ab ao : Nat) (X : Nat → FOpV) (hX : Fc W ad la cap ab ao X) :
    Calls Try.prog 5 #[.int .i64 n, .int .i64 rs, .slice ad la cap] W fun e w' => e = .returned (.bool true) ∧ Below W.heap.size W w' := by
  obtain ⟨z, hz, hz8⟩ : ∃ z : Nat, n % 12 = (z : Int) ∧ z < 12 := ⟨(n % 12).toNat, by omega, by omega⟩
  obtain ⟨R, hR, hRz⟩ : ∃ R : Nat, rs % 8 = (R : Int) ∧ R < 8 := ⟨(rs % 8).toNat, by omega, by omega⟩
  have HZ := hid hz
  have HR := hid hR
  have HX := hid hX
  have hlc := hX.len
  have hcm := hX.cap
  clear hz hR hX
  go_enter Try.func5, Try.ntmps5
  go_wp2_with (first
    | (go_at_call 8; refine (c_Place n 12 (by decide) (by decide) n0 n1 _).mono ?_; rw [HZ.out]; rintro r wz ⟨rfl, hwz⟩; obtain rfl := hwz.symm)
    | (go_at_call 9; refine (l_Mem W (1 + z) (by omega) (by omega) _ (by omega)).mono ?_; rintro r w1 ⟨m, q, U, rfl, ht, hb, hu⟩; have HT := hid ht; have HB := hid hb; have HU := hid hu; clear ht hb hu)
    | fail)
  have hc0 : (w1.alloc (.cells #[.pointer (some ⟨m, 0, none⟩), .pointer (some ⟨q, 0, none⟩)] 27)).drew.cell? ⟨w1.heap.size, 0, none⟩ = some (.pointer (some ⟨m, 0, none⟩)) := (C.TB.new w1 m q).c0
  have HN := hid (l_NewB W W w1 (w1.alloc (.cells #[.pointer (some ⟨m, 0, none⟩), .pointer (some ⟨q, 0, none⟩)] 27)).drew (1 + z) 0 (1 + R) m q U _ (Below.refl _ _) HT.out HB.out HU.out (by omega) (by omega) (by omega) 0 (1 + (R : Int)) rfl (by omega) (Below.refl _ _).drew)
  obtain ⟨b, hb⟩ : ∃ b, b = w1.heap.size := ⟨_, rfl⟩
  obtain ⟨wd, hwd⟩ : ∃ wd, wd = w1.alloc (.cells #[.pointer (some ⟨m, 0, none⟩), .pointer (some ⟨q, 0, none⟩)] 27) := ⟨_, rfl⟩
  rw [← hwd, ← hb] at hc0 HN ⊢
  clear hb hwd HT HB HU
  have HW : Hid (IntKind.i64.wrap (1 + (R : Int)) = 1 + (R : Int)) := by show _ = _; rw [IntKind.wrap_i64]; omega
  go_cut [10, 11] from 31 to 39 (fun a e wx => ∃ (p : Nat) (F : Nat → Prop), a = .pointer (some ⟨p, 0, none⟩) ∧ e = .int .i64 0 ∧ Hid (LB W wx b F p q (v0 m 0 (1 + R) (1 + z)) (fun _ => 0)))
  case first =>
    go_region_law (first
      | (refine step_call rfl 8 (.tmp 34) (.const (.int .i64 8)) _ _ rfl (.int .i64 rs) (.int .i64 8) (by go_simp) rfl (Try.call8 _ _) (c_Place rs 8 (by decide) (by decide) r0 r1 _) ?_; rintro e w4 ⟨rfl, hw4⟩; obtain rfl := hw4.symm; rw [HR.out]; refine ⟨_, rfl, ?_⟩)
      | (refine step_call3 rfl 10 (.tmp 33) (.const (.int .i64 0)) (.tmp 36) _ rfl (.pointer (some ⟨m, 0, none⟩)) (.int .i64 0) (.int .i64 (1 + (R : Int))) (by go_simp) rfl (by go_simp; exact HW.out) (Try.call10 _ _) HN.out ?_; rintro e w2 ⟨p, F, rfl, hl⟩; have HL := hid hl; clear hl; refine ⟨_, rfl, ?_⟩))
    all_goals (
      go_wp2
      go_meet
      exact ⟨p, F, rfl, rfl, HL⟩)
  case rest =>
    clear HN HW hc0
    obtain ⟨p, F, rfl, rfl, HL⟩ := hcut
    go_wp2_with fail
    go_loopw [12] (fun i wr => ∃ (j : Nat) (F : Nat → Prop) (v : PV) (f : Nat → Int), j ≤ la ∧ i = .int .i64 j ∧ Hid (LB W wr b F p q v f ∧ v.n = 1 + z)) (fun i _ => la - (intOf i).toNat)
    case atStart => exact ⟨0, F, _, _, by omega, rfl, HL.out, rfl⟩
    case round =>
      clear HL
      obtain ⟨j, F, v, f, hj, rfl, hp⟩ := hrel
      by_cases hlt : j < la
      · obtain ⟨rfl, hab⟩ := HX.out.at0 (by omega)
        have hcell := fun i hi => (HX.out.below hp.out.1.new).cell j hlt i hi
        have x0 := hcell 0 (by decide)
        have x1 := hcell 1 (by decide)
        have x2 := hcell 2 (by decide)
        simp [FOpV.cs] at x0 x1 x2
        obtain ⟨⟨k0, k1⟩, ⟨s0, s1⟩, ⟨o0, o1⟩⟩ := HX.out.num j hlt
        generalize X j = Y at x0 x1 x2 k0 k1 s0 s1 o0 o1
        obtain ⟨xk, xn, xv⟩ := Y
        simp only at x0 x1 x2 k0 k1 s0 s1 o0 o1
        clear hcell
        go_upto_region 12 with fail
        obtain ⟨g1, g2, g3⟩ := el_new (k := xk) (n := xn) (x := xv) hp.out.1
        obtain ⟨wa, hwa⟩ : ∃ wa, wa = wr.alloc (.cells #[.int .i64 xk, .int .i64 xn, .int .u64 xv] 40) := ⟨_, rfl⟩
        obtain ⟨bx, hbx⟩ : ∃ bx, bx = wr.heap.size := ⟨_, rfl⟩
        rw [← hwa] at g1 g3 ⊢
        rw [← hbx] at g2 g3 ⊢
        have hn := hid hp.out.2
        have HA := hid g1
        have HFb := hid g2
        have HB := hid g3
        clear hwa hbx hp g1 g2 g3 x0 x1 x2
        have c0 : wa.cell? ⟨bx, 0, none⟩ = some (.int .i64 xk) := cell_of_row wa bx 0 _ _ _ HB.out
        have c1 : wa.cell? ⟨bx, 1, none⟩ = some (.int .i64 xn) := cell_of_row wa bx 1 _ _ _ HB.out
        go_wp2_with fail
        go_loopw [14, 15] (fun x a wr => ∃ (X A : Int), x = .int .i64 X ∧ a = .int .i64 A ∧ -1 ≤ A ∧ A ≤ z ∧ Hid (Was v.o v.n A X) ∧ Hid (wr = wa)) (fun x a _ => (intOf a + 1).toNat)
        case atStart => exact ⟨-1, z, rfl, by go_num, by omega, by omega, .inl ⟨rfl, fun i h1 h2 => by have := hn.out; omega⟩, rfl⟩
        case round =>
          obtain ⟨Xw, A, rfl, rfl, hA0, hA1, hW, hw⟩ := hrel
          obtain rfl := hw.out.symm
          by_cases hA : 0 ≤ A
          · obtain ⟨i, rfl⟩ := Int.eq_ofNat_of_zero_le hA
            have hin : i < v.n := by have := hn.out; omega
            have hOw := l_Owner _ _ _ _ _ _ _ _ HA.out (i : Int) _ (own_same hin).1
            by_cases he : v.o i = 0
            · rw [he] at hOw
              have hW2 := hid (hW.out.hit hin he)
              clear he
              go_wp2_with (go_at_call 21; refine hOw.mono ?_; rintro r w3 ⟨rfl, hw3⟩; obtain rfl := hw3.symm)
              go_roundw
              case rel => exact ⟨(i : Int), (i : Int) - 1, rfl, by go_num, by omega, by omega, hW2, trivial⟩
              case measure => first | (simp [intOf]; done) | (simp [intOf]; omega)
            · have hW2 := hid (hW.out.miss hin he)
              go_wp2_with (go_at_call 21; refine hOw.mono ?_; rintro r w3 ⟨rfl, hw3⟩; obtain rfl := hw3.symm)
              go_roundw
              case rel => exact ⟨Xw, (i : Int) - 1, rfl, by go_num, by omega, by omega, hW2, trivial⟩
              case measure => first | (simp [intOf]; done) | (simp [intOf]; omega)
          · obtain rfl : A = -1 := by omega
            go_upto_block 4 with (go_at_call 8; refine (c_Place xk 5 (by decide) (by decide) k0 k1 _).mono ?_; rintro e1 wz ⟨rfl, hwz⟩; obtain rfl := hwz.symm)
            go_cut [16, 17, 18] from 69 to 132 (fun a e r wx => ∃ (F : Nat → Prop) (v : PV) (f : Nat → Int), Hid (LB W wx b F p q v f ∧ v.n = 1 + z))
            case first =>
              rcases (show xk % 5 = 0 ∨ xk % 5 = 1 ∨ xk % 5 = 2 ∨ xk % 5 = 3 ∨ xk % 5 = 4 by omega) with hK | hK | hK | hK | hK
              · rw [hK]
                clear hK c0
                rcases tk_cases v xn with ⟨i, hi, hi0, hi1, hm, ht⟩ | ⟨hm, hi1, ht⟩ | ⟨hm, ht⟩
                · obtain rfl := hW.out.find hi hi0 hi1
                  have hT := l_Take _ _ _ _ _ _ _ _ HA.out xn _ _ _ ht
                  have hm' : xn = -1 ∨ 1 ≤ xn ∧ xn ≤ 8 := by simpa [may] using hm
                  have hO := hid (own_at hi xn)
                  clear hi1 ht hm
                  go_upto_region 21 with (go_at_call 13; refine hT.mono ?_; rintro r w3 ⟨rfl, hl, ho⟩; have HL3 := hid hl; have c2 : w3.cell? ⟨bx, 1, none⟩ = some (.int .i64 xn) := (ho.cell 1 (lt_of_block HB.out) (fun q => Nat.lt_irrefl _ (HFb.out _ q))).trans c1; clear hl ho)
                  have HOw : Hid (∀ n, Calls Try.prog 21 #[.pointer (some ⟨p, 0, none⟩), .int .i64 (i : Int)] (w3.drewN n) fun e w' => e = .returned (.int .i64 xn) ∧ w' = w3.drewN n) := fun n => l_Owner _ _ _ _ _ _ _ _ (HL3.out.dn n) (i : Int) xn hO.out
                  have g0 : decide ((0 : Int) ≤ (i : Int)) = true := by simp
                  rcases hm' with rfl | ⟨hm1, hm2⟩
                  · go_wp2_with fail
                    go_quiet ((go_at_call 21; exact Calls.quiet_of_same (HOw.out _)))
                    go_wp2_with fail
                    go_meet
                    exact ⟨F, _, f, HL3.out.dn _, hn.out⟩
                  · go_wp2_with fail
                    go_quiet ((go_at_call 21; exact Calls.quiet_of_same (HOw.out _)))
                    go_wp2_with fail
                    go_meet
                    exact ⟨F, _, f, HL3.out.dn _, hn.out⟩
                · obtain rfl := hW.out.none hi1
                  have hT := l_Take _ _ _ _ _ _ _ _ HA.out xn _ _ _ ht
                  have hm' : xn = -1 ∨ 1 ≤ xn ∧ xn ≤ 8 := by simpa [may] using hm
                  clear hi1 ht hm
                  go_upto_region 21 with (go_at_call 13; refine hT.mono ?_; rintro r w3 ⟨rfl, hl, ho⟩; have HL3 := hid hl; have c2 : w3.cell? ⟨bx, 1, none⟩ = some (.int .i64 xn) := (ho.cell 1 (lt_of_block HB.out) (fun q => Nat.lt_irrefl _ (HFb.out _ q))).trans c1; clear hl ho)
                  rcases hm' with rfl | ⟨hm1, hm2⟩
                  · go_wp2_with fail
                    go_quiet (fail)
                    go_wp2_with fail
                    go_meet
                    exact ⟨F, _, f, HL3.out.dn _, hn.out⟩
                  · go_wp2_with fail
                    go_quiet (fail)
                    go_wp2_with fail
                    go_meet
                    exact ⟨F, _, f, HL3.out.dn _, hn.out⟩
                · have hT := l_Take _ _ _ _ _ _ _ _ HA.out xn _ _ _ ht
                  have hm' : ¬ (xn = -1 ∨ 1 ≤ xn ∧ xn ≤ 8) := by simpa [may] using hm
                  have q1 : ¬ xn = -1 := fun e => hm' (.inl e)
                  have d1 : (xn == (-1 : Int)) = false := by simp [q1]
                  clear ht hm
                  go_upto_region 21 with (go_at_call 13; refine hT.mono ?_; rintro r w3 ⟨rfl, hl, ho⟩; have HL3 := hid hl; have c2 : w3.cell? ⟨bx, 1, none⟩ = some (.int .i64 xn) := (ho.cell 1 (lt_of_block HB.out) (fun q => Nat.lt_irrefl _ (HFb.out _ q))).trans c1; clear hl ho)
                  by_cases q2 : 1 ≤ xn
                  · have q3 : ¬ xn ≤ 8 := fun e => hm' (.inr ⟨q2, e⟩)
                    clear hm'
                    go_wp2_with fail
                    go_quiet (fail)
                    go_wp2_with fail
                    go_meet
                    exact ⟨F, _, f, HL3.out.dn _, hn.out⟩
                  · clear hm'
                    go_wp2_with fail
                    go_quiet (fail)
                    go_wp2_with fail
                    go_meet
                    exact ⟨F, _, f, HL3.out.dn _, hn.out⟩
              · rw [hK]
                rcases rl_cases v xn with ⟨i, hi1, hi, hr, hm, ht⟩ | ⟨hm, ht⟩
                · have hT := l_Release _ _ _ _ _ _ _ _ HA.out _ _ _ ht
                  clear ht hm hi1 hi hr
                  go_wp2_with (go_at_call 15; refine hT.mono ?_; rintro r w3 ⟨rfl, F3, hl, ho⟩; have HL3 := hid hl; clear hl ho)
                  go_meet
                  exact ⟨F3, _, f, HL3.out, hn.out⟩
                · have hT := l_Release _ _ _ _ _ _ _ _ HA.out _ _ _ ht
                  clear ht hm
                  go_wp2_with (go_at_call 15; refine hT.mono ?_; rintro r w3 ⟨rfl, F3, hl, ho⟩; have HL3 := hid hl; clear hl ho)
                  go_meet
                  exact ⟨F3, _, f, HL3.out, hn.out⟩
              · rw [hK]
                have hT := l_Ack _ _ _ _ _ _ _ _ HA.out xn _ _ _ rfl rfl rfl
                have hs := hid (ak_same v xn)
                go_wp2_with (go_at_call 17; refine hT.mono ?_; rintro r w3 ⟨rfl, F3, hl, ho⟩; have HL3 := hid hl; clear hl ho)
                go_meet
                exact ⟨F3, _, _, HL3.out, hs.out.1.trans hn.out⟩
              · rw [hK]
                have hT := l_AckD _ _ _ _ _ _ _ _ HA.out _ _ _ rfl rfl rfl
                go_wp2_with (go_at_call 19; refine hT.mono ?_; rintro r w3 ⟨rfl, F3, hl, ho⟩; have HL3 := hid hl; clear hl ho)
                go_meet
                exact ⟨F3, _, _, HL3.out, hn.out⟩
              · rw [hK]
                go_wp2_with fail
                go_meet
                exact ⟨F, _, _, HA.out, hn.out⟩
            case rest =>
              clear HA HFb HB hn c1 c0 hW
              obtain ⟨F, v, f, hp⟩ := hcut
              have hn := hid hp.out.2
              have hv : v.n ≤ 12 := by have := hp.out.2; omega
              have hO := hid hp.out.1.ok.ow
              go_wp2_with fail
              go_loopw [19, 20] (fun s o wr => ∃ t : Nat, t ≤ 11 ∧ s = .int .i64 (smC v.o v.n t) ∧ o = .int .i64 (-2 + (t : Int)) ∧ Hid (wr = wc)) (fun s o _ => (9 - intOf o).toNat)
              case atStart => exact ⟨0, by omega, rfl, rfl, rfl⟩
              case round =>
                obtain ⟨t, ht, rfl, rfl, hw⟩ := hrel
                obtain rfl := hw.out.symm
                have hle := smC_le v.o (fun i => (hO.out i).1) t v.n
                by_cases hla : t < 11
                · have hC := l_Count _ _ _ _ _ _ _ _ hp.out.1 (-2 + (t : Int)) _ rfl
                  have hle2 := smC_le v.o (fun i => (hO.out i).1) (t + 1) v.n
                  have e1 : smC v.o v.n (t + 1) = smC v.o v.n t + cnt v.o (-2 + (t : Int)) v.n := rfl
                  go_wp2_with (go_at_call 25; refine hC.mono ?_; rintro r w3 ⟨rfl, hw3⟩; obtain rfl := hw3.symm)
                  go_roundw
                  case rel => exact ⟨t + 1, by omega, by rw [e1]; go_num, by go_num, trivial⟩
                  case measure => first | (simp [intOf]; done) | (simp [intOf]; omega)
                · obtain rfl : t = 11 := by omega
                  have e1 := smC_all v.o hO.out v.n
                  rw [hn.out] at e1
                  rw [hn.out, e1]
                  clear e1
                  go_wp2_with fail
                  go_roundw
                  case rel => exact ⟨j + 1, F, v, f, by omega, by go_num, hp.out⟩
                  case measure => first | (simp [intOf]; done) | (simp [intOf]; omega)
      · obtain rfl : j = la := by omega
        go_wp2_with (go_at_call 12; refine (l_awake9 _).mono ?_; rintro r w3 ⟨rfl, hb⟩; have HB3 := hid hb; clear hb)
        go_ret
        exact ⟨rfl, hp.out.1.new.trans (HB3.out.mono hp.out.1.new.size)⟩
end Go.Proofs.Ytehghhonhfmieaa
