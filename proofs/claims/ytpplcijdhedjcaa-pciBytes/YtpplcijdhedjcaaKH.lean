/- Two buses; PciBytes. -/
import Derived.Test.YtpplcijdhedjcaaKG
namespace Go.Proofs.Ytpplcijdhedjcaa
open Go.RowKit
open C (Only hid Still ret_bool ret_int row)
set_option linter.unusedVariables false
set_option maxRecDepth 100000

/-- two buses of a law -/
def L2 (W w : World) (p q n : Nat) (V U : Nat → Sv) : Prop := ∃ F G, Bq w F p n (fB V) ∧ VOk V ∧ Bq w G q n (fB U) ∧ VOk U ∧ (∀ x, F x → ¬ G x) ∧ (∀ x, F x → W.heap.size ≤ x) ∧ (∀ x, G x → W.heap.size ≤ x) ∧ Below W.heap.size W w
section
variable {W w w' : World} {p q n : Nat} {V U : Nat → Sv}
theorem L2.bel (h : L2 W w p q n V U) : Below W.heap.size W w := by obtain ⟨F, G, h1, h2, h3, h4, h5, h6, h7, h8⟩ := h; exact h8
theorem L2.a (h : L2 W w p q n V U) : LB W w p n V := by obtain ⟨F, G, h1, h2, h3, h4, h5, h6, h7, h8⟩ := h; exact ⟨F, h1, h2, h6, h8⟩
theorem L2.b (h : L2 W w p q n V U) : LB W w q n U := by obtain ⟨F, G, h1, h2, h3, h4, h5, h6, h7, h8⟩ := h; exact ⟨G, h3, h4, h7, h8⟩
theorem L2.wa (h : L2 W w p q n V U) (s o z v : Int) (s0 : -9223372036854775808 ≤ s) (s1 : s ≤ 9223372036854775807) (o0 : 0 ≤ o) (o1 : o < 18446744073709551616) (z0 : -9223372036854775808 ≤ z) (z1 : z ≤ 9223372036854775807) (v0 : 0 ≤ v) (v1 : v < 18446744073709551616) : Calls Try.prog 17 #[.pointer (some ⟨p, 0, none⟩), .int .i64 s, .int .u64 o, .int .i64 z, .int .u64 v] w fun e w' => e = .returned (.bool (fitB o z)) ∧ L2 W w' p q n (wrV n V s o z v) U := by
  obtain ⟨F, G, h1, h2, h3, h4, h5, h6, h7, h8⟩ := h
  refine (c_Write w F p n _ h1 s o z v s0 s1 o0 o1 z0 z1 v0 v1).mono ?_
  rintro e w' ⟨rfl, k1, k2⟩
  rw [wrF_fB h2 _ _ _ _ _ o0] at k1
  exact ⟨rfl, F, G, k1, h2.wr _ _ _ _ _, h3.only k2 fun x g f => h5 x f g, h4, h5, h6, h7, k2.bel h6 h8⟩
theorem L2.wb (h : L2 W w p q n V U) (s o z v : Int) (s0 : -9223372036854775808 ≤ s) (s1 : s ≤ 9223372036854775807) (o0 : 0 ≤ o) (o1 : o < 18446744073709551616) (z0 : -9223372036854775808 ≤ z) (z1 : z ≤ 9223372036854775807) (v0 : 0 ≤ v) (v1 : v < 18446744073709551616) : Calls Try.prog 17 #[.pointer (some ⟨q, 0, none⟩), .int .i64 s, .int .u64 o, .int .i64 z, .int .u64 v] w fun e w' => e = .returned (.bool (fitB o z)) ∧ L2 W w' p q n V (wrV n U s o z v) := by
  obtain ⟨F, G, h1, h2, h3, h4, h5, h6, h7, h8⟩ := h
  refine (c_Write w G q n _ h3 s o z v s0 s1 o0 o1 z0 z1 v0 v1).mono ?_
  rintro e w' ⟨rfl, k1, k2⟩
  rw [wrF_fB h4 _ _ _ _ _ o0] at k1
  exact ⟨rfl, F, G, h1.only k2 fun x f g => h5 x f g, h2, k1, h4.wr _ _ _ _ _, h5, h6, h7, k2.bel h7 h8⟩
end
theorem l2_New (W w : World) (p : Nat) (V : Nat → Sv) (h : LB W w p 1 V) (k : Int) (h0 : 0 ≤ k) (h1 : k ≤ 255) : Calls Try.prog 8 #[.slice (some ⟨w.heap.size, 0, none⟩) 1 1] (w.alloc (.cells #[.int .i64 k] 3)) fun e w' => e = .returned (.tuple #[.pointer (some ⟨w.heap.size + 1, 0, none⟩), .int .i64 0]) ∧ L2 W w' p (w.heap.size + 1) 1 V (fun _ => sv0 k) := by
  obtain ⟨F, g1, g2, g3, g4⟩ := h
  have := c_New _ _ 1 1 _ _ _ (ls_one w k h0 h1) (by decide) (fun _ _ => ⟨h0, h1⟩)
  simp only [World.size_alloc] at this
  refine this.mono ?_
  rintro e w' ⟨rfl, u, k1, k2, k3⟩
  rw [spn_fB] at k1
  have hv : VOk fun _ => sv0 k := fun i => sok0 _ h0 h1
  have kb : Below w.heap.size w w' := ((Below.refl _ w).alloc (Nat.le_refl _) _).trans (k2.mono (by omega))
  have hg : ∀ x, x = w.heap.size + 1 ∨ Ug u x → w.heap.size ≤ x := fun x hx => hx.elim (fun e => by omega) fun e => by have := k3 x e; omega
  refine ⟨rfl, F, fun x => x = w.heap.size + 1 ∨ Ug u x, g1.below kb, g2, ⟨⟨u, k1, fun x => Iff.rfl⟩, fB_b hv, by decide⟩, hv, fun x f g => ?_, g3, fun x hx => Nat.le_trans g4.size (hg x hx), g4.trans (kb.mono g4.size)⟩
  have := g1.lt f
  have := hg x g
  omega
theorem byt_next (v : Int) (i : Nat) : C.byt (v / 256 ^ i) 0 = C.byt v i := by unfold C.byt; simp
theorem atP_next (o i : Nat) (v : Int) (P : Nat) (g : Int → Int) (old : Int) : atP (o + i) 1 (v / 256 ^ i) P g (atP o i v P g old) = atP o (i + 1) v P g old := by
  unfold atP
  by_cases h1 : o + i ≤ P ∧ P < o + i + 1
  · rw [if_pos h1, if_pos (by omega), show P - (o + i) = 0 by omega, byt_next, show P - o = i by omega]
  · rw [if_neg h1]
    by_cases h2 : o ≤ P ∧ P < o + i
    · rw [if_pos h2, if_pos (by omega)]
    · rw [if_neg h2, if_neg (by omega)]
theorem wr_next (u : Sv) (o i : Nat) (v : Int) : (u.wr o i v).wr (o + i) 1 (v / 256 ^ i) = u.wr o (i + 1) v := by
  unfold Sv.wr
  simp only [atP_next]
theorem wr_none (u : Sv) (o : Nat) (v : Int) : u.wr o 0 v = u := by
  have : ∀ P g old, atP o 0 v P g old = old := fun P g old => by unfold atP; rw [if_neg (by omega)]
  unfold Sv.wr
  simp only [this]
/-- the slot of PciBytes behind i bytes -/
def yv (K : Int) (o i : Nat) (v : Int) : Nat → Sv := upV (fun _ => sv0 K) 0 ((sv0 K).wr o i v)
theorem yv_0 (K : Int) (o : Nat) (v : Int) : yv K o 0 v = fun _ => sv0 K := by
  unfold yv
  rw [wr_none]
  funext i
  unfold upV
  split <;> rfl
theorem yv_next (K : Int) (o i : Nat) (v : Int) (h : o + i < 256) : wrV 1 (yv K o i v) 0 ((o : Int) + i) 1 (v / 256 ^ i) = yv K o (i + 1) v := by
  unfold wrV
  have e : (fitB ((o : Int) + i) 1 && hasS 1 0) = true := by
    have : decide ((o : Int) + i < 256) = true := by simp; omega
    simp [fitB, hasS, this]
  rw [e, if_pos rfl]
  unfold yv
  funext s
  unfold upV
  simp only [Int.toNat_zero]
  by_cases q : s = 0
  · rw [if_pos q, if_pos q, ← wr_next]
    simp only [if_true]
    congr 1
  · rw [if_neg q, if_neg q, if_neg q]
theorem yv_4 (K : Int) (o : Nat) (v : Int) (h : o + 4 ≤ 256) (h4 : o % 4 = 0) : wrV 1 (fun _ => sv0 K) 0 (o : Int) 4 v = yv K o 4 v ∧ fitB (o : Int) 4 = true := by
  have e : fitB (o : Int) 4 = true := by
    have : decide ((o : Int) < 256) = true := by simp; omega
    simp [fitB, this]
    omega
  refine ⟨?_, e⟩
  unfold wrV
  rw [e, if_pos (by rfl)]
  rfl
theorem fit1 (o : Nat) (h : o < 256) : fitB (o : Int) 1 = true := by
  have : decide ((o : Int) < 256) = true := by simp; omega
  simp [fitB]
  omega
theorem fit4 (o : Nat) (h : o < 256) (h4 : o % 4 = 0) : fitB (o : Int) 4 = true := by
  have : decide ((o : Int) < 256) = true := by simp; omega
  simp [fitB, this]
  omega
set_option maxHeartbeats 4000000 in
theorem w_PciBytes (W : World) (k : Int) (k0 : -9223372036854775808 ≤ k) (k1 : k ≤ 9223372036854775807) (off : Int) (o0 : 0 ≤ off) (o1 : off < 18446744073709551616) (v : Int) (v0 : 0 ≤ v) (v1 : v < 18446744073709551616) : Calls Try.prog 6 #[.int .i64 k, .int .u64 off, .int .u64 v] W fun e w' => e = .returned (.bool true) ∧ Below W.heap.size W w' := by
  have hP := C.c_Place k 256 (by decide) (by decide) k0 k1
  have q0 : 0 ≤ k % 256 := by omega
  have q1 : k % 256 ≤ 255 := by omega
  generalize k % 256 = K at *
  have hN := l_New1 W W (.refl _ _) K q0 q1
  have HN2 : Hid (∀ w, LB W w (W.heap.size + 1) 1 (fun _ => sv0 K) → Calls Try.prog 8 #[.slice (some ⟨w.heap.size, 0, none⟩) 1 1] (w.alloc (.cells #[.int .i64 K] 3)) fun e w' => e = .returned (.tuple #[.pointer (some ⟨w.heap.size + 1, 0, none⟩), .int .i64 0]) ∧ L2 W w' (W.heap.size + 1) (w.heap.size + 1) 1 (fun _ => sv0 K) (fun _ => sv0 K)) := fun w h => l2_New W w _ _ h K q0 q1
  have hA := l_awake
  obtain ⟨O, hO⟩ : ∃ O : Nat, (O : Int) = off % 64 * 4 := ⟨(off % 64 * 4).toNat, by omega⟩
  have hO1 : O + 4 ≤ 256 := by omega
  have hO2 : O % 4 = 0 := by omega
  have HWA : Hid (∀ w p q, L2 W w p q 1 (fun _ => sv0 K) (fun _ => sv0 K) → Calls Try.prog 17 #[.pointer (some ⟨p, 0, none⟩), .int .i64 0, .int .u64 (O : Int), .int .i64 4, .int .u64 v] w fun e w' => e = .returned (.bool true) ∧ L2 W w' p q 1 (yv K O 4 v) (yv K O 0 v)) := fun w p q h => by
    have := h.wa 0 O 4 v (by decide) (by decide) (by omega) (by omega) (by decide) (by decide) v0 v1
    rw [(yv_4 K O v hO1 hO2).1, (yv_4 K O v hO1 hO2).2] at this
    rw [yv_0]
    exact this
  have HWB : Hid (∀ w p q i, i < 4 → L2 W w p q 1 (yv K O 4 v) (yv K O i v) → Calls Try.prog 17 #[.pointer (some ⟨q, 0, none⟩), .int .i64 0, .int .u64 ((O : Int) + (i : Int)), .int .i64 1, .int .u64 (v / 256 ^ i)] w fun e w' => e = .returned (.bool true) ∧ L2 W w' p q 1 (yv K O 4 v) (yv K O (i + 1) v)) := fun w p q i hi h => by
    have hv : 0 ≤ v / 256 ^ i := Int.ediv_nonneg v0 (Int.le_of_lt (Int.pow_pos (by decide)))
    have hv2 : v / 256 ^ i ≤ v := Int.ediv_le_self _ v0
    have := h.wb 0 ((O : Int) + i) 1 (v / 256 ^ i) (by decide) (by decide) (by omega) (by omega) (by decide) (by decide) hv (by omega)
    rw [yv_next K O i v (by omega), show (O : Int) + i = ((O + i : Nat) : Int) by omega, fit1 _ (by omega)] at this
    rw [show (O : Int) + i = ((O + i : Nat) : Int) by omega]
    exact this
  have HRA : Hid (∀ w p (n : Nat) V (j : Nat), LB W w p 1 V → V = yv K O 4 v → j + n ≤ 256 → (n = 1 ∨ n = 4 ∧ j % 4 = 0) → Calls Try.prog 15 #[.pointer (some ⟨p, 0, none⟩), .int .i64 0, .int .u64 (j : Int), .int .i64 (n : Int)] w fun e w' => e = .returned (.tuple #[.int .u64 (gv (yv K O 4 v 0) j n), .bool true]) ∧ w' = w) := fun w p n V j h e hj hn => by
    subst e
    have ef : fitB (j : Int) n = true := by
      rcases hn with rfl | ⟨rfl, h4⟩
      · exact fit1 j (by omega)
      · exact fit4 j (by omega) h4
    have := l_Read h 0 j n (by decide) (by decide) (by omega) (by omega) (by omega) (by omega)
    have er : rdV 1 (yv K O 4 v) 0 j n = gv (yv K O 4 v 0) j n := by
      unfold rdV
      rw [ef, if_pos rfl, if_pos (by rfl)]
      rfl
    rw [er, ef] at this
    exact this
  have HT : Hid (∀ j, Byt (tab (yv K O 4 v 0) j)) := fun j => tab_b ((sok0 K q0 q1).wr O 4 v) j
  generalize hY : yv K O 4 v = Y at *
  have HY := hid hY
  clear hY
  have ho0 : (0 : Int) ≤ (O : Int) := by omega
  go_enter Try.func6, Try.ntmps6
  go_wp2_with (first
    | (go_at_call 14; refine (hP _).mono ?_; rintro e w' ⟨rfl, hw⟩; obtain rfl := hw.symm; clear hP)
    | (go_at_call 8; (with_reducible refine hN.mono ?_); rintro e w1 ⟨rfl, hl⟩; have hN2 := HN2.out w1 hl; clear hl hN)
    | (go_at_call 8; (with_reducible refine hN2.mono ?_); rintro e w2 ⟨rfl, hl⟩; have hW := HWA.out w2 _ _ hl; clear hl hN2; rw [hO] at hW)
    | (go_at_call 17; refine hW.mono ?_; rintro e w3 ⟨rfl, hl⟩; have HL := hid hl; clear hl hW))
  simp only [← hO]
  clear hO
  have HE : Hid (yv K O 4 v = Y) := HY
  generalize w1.heap.size + 1 = q at *
  obtain ⟨p, hp⟩ : ∃ p, p = W.heap.size + 1 := ⟨_, rfl⟩
  simp only [← hp] at HL ⊢
  clear hp HY
  go_loopw [13] (fun i wr => ∃ n : Nat, n ≤ 4 ∧ i = .int .u64 n ∧ Hid (L2 W wr p q 1 Y (yv K O n v))) (fun i _ => 4 - (intOf i).toNat)
  case atStart => exact ⟨0, by omega, rfl, HL⟩
  case round =>
    obtain ⟨n, hn, rfl, HP⟩ := hrel
    by_cases hlt : n < 4
    · have hw := HWB.out wr p q n hlt HP.out
      rcases (show n = 0 ∨ n = 1 ∨ n = 2 ∨ n = 3 by omega) with rfl | rfl | rfl | rfl
      all_goals
        simp only [Int.pow_zero, Int.ediv_one, Int.natCast_zero, Int.add_zero, Int.natCast_one, show ((2 : Nat) : Int) = 2 from rfl, show ((3 : Nat) : Int) = 3 from rfl, show (256 : Int) ^ 1 = 256 by decide, show (256 : Int) ^ 2 = 65536 by decide, show (256 : Int) ^ 3 = 16777216 by decide] at hw
        go_wp2_with (go_at_call 17; (with_reducible refine hw.mono ?_); rintro e w' ⟨rfl, hl⟩; have HL' := hid hl; clear hl hw)
        go_roundw
        case rel => exact ⟨_, hlt, by go_num, HL'⟩
        case measure => simp [intOf]
    · obtain rfl : n = 4 := by omega
      rw [HE.out] at HP
      have HBB := hid HP.out.bel
      have HX : Hid (∀ j : Nat, 4 * j + 4 ≤ 256 → Calls Try.prog 15 #[.pointer (some ⟨p, 0, none⟩), .int .i64 0, .int .u64 (4 * (j : Int)), .int .i64 4] wr fun e w' => e = .returned (.tuple #[.int .u64 (gv (Y 0) (4 * j) 4), .bool true]) ∧ w' = wr) := fun j hj => by
        have := HRA.out wr p 4 Y (4 * j) HP.out.a rfl (by omega) (.inr ⟨rfl, by omega⟩)
        rw [show ((4 * j : Nat) : Int) = 4 * (j : Int) by omega] at this
        exact this
      have HZ : Hid (∀ j : Nat, 4 * j + 4 ≤ 256 → Calls Try.prog 15 #[.pointer (some ⟨q, 0, none⟩), .int .i64 0, .int .u64 (4 * (j : Int)), .int .i64 4] wr fun e w' => e = .returned (.tuple #[.int .u64 (gv (Y 0) (4 * j) 4), .bool true]) ∧ w' = wr) := fun j hj => by
        have := HRA.out wr q 4 Y (4 * j) HP.out.b rfl (by omega) (.inr ⟨rfl, by omega⟩)
        rw [show ((4 * j : Nat) : Int) = 4 * (j : Int) by omega] at this
        exact this
      have HI : Hid (∀ j i : Nat, 4 * j + 4 ≤ 256 → i < 4 → Calls Try.prog 15 #[.pointer (some ⟨p, 0, none⟩), .int .i64 0, .int .u64 (4 * (j : Int) + (i : Int)), .int .i64 1] wr fun e w' => e = .returned (.tuple #[.int .u64 (tab (Y 0) (4 * j + i)), .bool true]) ∧ w' = wr) := fun j i hj hi => by
        have := HRA.out wr p 1 Y (4 * j + i) HP.out.a rfl (by omega) (.inl rfl)
        rw [show ((4 * j + i : Nat) : Int) = 4 * (j : Int) + i by omega, gv1] at this
        exact this
      clear hn hlt HP HRA HWA HWB HN2 HL
      generalize Y 0 = y at *
      go_wp2_with fail
      go_loopw [14] (fun i w2 => ∃ j : Nat, j ≤ 64 ∧ i = .int .u64 (4 * (j : Int)) ∧ w2 = wr) (fun i _ => 256 - (intOf i).toNat)
      case atStart => exact ⟨0, by omega, rfl, rfl⟩
      case round =>
        obtain ⟨j, hj, rfl, hw⟩ := hrel
        obtain rfl := hw.symm
        by_cases hlt : j < 64
        · have hx := HX.out j (by omega)
          have hz := HZ.out j (by omega)
          have HII : Hid (∀ i : Nat, i < 4 → Calls Try.prog 15 #[.pointer (some ⟨p, 0, none⟩), .int .i64 0, .int .u64 (4 * (j : Int) + (i : Int)), .int .i64 1] wr fun e w' => e = .returned (.tuple #[.int .u64 (tab y (4 * j + i)), .bool true]) ∧ w' = wr) := fun i hi => HI.out j i (by omega) hi
          have HTT : Hid (∀ i, Byt (tab y (4 * j + i))) := fun i => HT.out _
          have HG : Hid (gv y (4 * j) 4 = C.nu (fun i => tab y (4 * j + i)) 4) := rfl
          go_wp2_with (first
            | (go_at_call 15; (with_reducible refine hx.mono ?_); rintro e w' ⟨rfl, hw⟩; obtain rfl := hw.symm; clear hx)
            | (go_at_call 15; (with_reducible refine hz.mono ?_); rintro e w' ⟨rfl, hw⟩; obtain rfl := hw.symm; clear hz))
          go_loopw [19, 20] (fun z i w2 => ∃ n : Nat, n ≤ 4 ∧ i = .int .u64 n ∧ z = .int .u64 (C.nu (fun m => tab y (4 * j + m)) n) ∧ w2 = wr) (fun _ i _ => 4 - (intOf i).toNat)
          case atStart => exact ⟨0, by omega, rfl, rfl, rfl⟩
          case round =>
            obtain ⟨n, hn, rfl, rfl, hw⟩ := hrel
            obtain rfl := hw.symm
            by_cases hl4 : n < 4
            · have hi := HII.out n hl4
              obtain ⟨hb0, hb1⟩ := HTT.out n
              have hnu := C.nu_lt (fun m => tab y (4 * j + m)) (fun m => HTT.out m) n
              have hor := C.or_nu _ (tab y (4 * j + n)) n (by omega) hnu.1 hnu.2 hb0 hb1
              have HS : Hid (C.nu (fun m => tab y (4 * j + m)) n + tab y (4 * j + n) * 256 ^ n = C.nu (fun m => tab y (4 * j + m)) (n + 1)) := C.nu_step (fun m => tab y (4 * j + m)) n
              obtain ⟨V, hV⟩ : ∃ V, V = C.nu (fun m => tab y (4 * j + m)) n := ⟨_, rfl⟩
              rw [← hV] at hnu hor HS ⊢
              obtain ⟨n0, n1⟩ := hnu
              generalize tab y (4 * j + n) = t at *
              clear hV
              rcases (show n = 0 ∨ n = 1 ∨ n = 2 ∨ n = 3 by omega) with rfl | rfl | rfl | rfl
              all_goals
                simp only [Int.pow_zero, Int.mul_one, Int.natCast_zero, Int.add_zero, Int.natCast_one, show ((2 : Nat) : Int) = 2 from rfl, show ((3 : Nat) : Int) = 3 from rfl, show (256 : Int) ^ 1 = 256 by decide, show (256 : Int) ^ 2 = 65536 by decide, show (256 : Int) ^ 3 = 16777216 by decide] at hi hor n1 HS
                go_wp2_with (go_at_call 15; (with_reducible refine hi.mono ?_); rintro e w' ⟨rfl, hw⟩; obtain rfl := hw.symm; clear hi)
                go_roundw
                case rel => exact ⟨_, hl4, by go_num, by rw [← HS.out, ← hor], trivial⟩
                case measure => simp [intOf]
            · obtain rfl : n = 4 := by omega
              have hnu := C.nu_lt (fun m => tab y (4 * j + m)) (fun m => HTT.out m) 4
              rw [HG.out]
              obtain ⟨n0, n1⟩ := hnu
              generalize C.nu (fun m => tab y (4 * j + m)) 4 = V at *
              go_wp2
              go_roundw
              case rel => exact ⟨j + 1, by omega, by omega⟩
              case measure => simp [intOf]; omega
        · obtain rfl : j = 64 := by omega
          go_wp2_with (go_at_call 10; refine (hA _).mono ?_; rintro e w9 ⟨rfl, hb⟩; have HB9 := hid hb; clear hb hA)
          go_ret
          exact ⟨rfl, HBB.out.trans (HB9.out.mono HBB.out.size)⟩
end Go.Proofs.Ytpplcijdhedjcaa
