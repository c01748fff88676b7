/- A message goes just where its device's index says. -/
import Derived.Test.YtfoafgbhelgjcaaIW
import Derived.Deep.DeepCutAuto
namespace Go.Proofs.Ytfoafgbhelgjcaa
open Go.RowKit
open C (Only hid Mem Still ret_int ret_bool put byt nu fcl c_Place Cl)
set_option linter.unusedVariables false
set_option maxRecDepth 100000

theorem rcV_mg (v : UV) : (rcV v).mg = v.mg := by unfold rcV; cases rcB v <;> rfl
theorem Rg.congr {v : UV} {f : Nat → Int} {G G' : Nat → Int × Int × Int} {told c : Nat} {l : Bool} (h : Rg v f G told c l) (e : ∀ i, i < c → G (told + i) = G' (told + i)) : Rg v f G' told c l :=
  ⟨h.there, h.count, h.lost, fun i hi => (h.rl i hi).trans (e i (by rw [← h.count]; exact hi))⟩
/-- a block with an interrupt -/
def Ms (w : World) (b : Nat) (x y : Int) : Prop := w.heap[b]? = some (.cells #[.int .i64 x, .int .i64 y] 37 (0, 0))
theorem US.msi {w : World} {F : Nat → Prop} {u : Nat} {v : UV} {n : Nat} {f : Nat → Int} {room : Nat} {L : List E.TV} (h : US w F u v n f room L) {b : Nat} {x y : Int} (hb : Ms w b x y) : ¬ F b := by
  obtain ⟨S, g, h1, h2, h3, h4, -⟩ := h
  obtain ⟨Z, hZ, -, -⟩ := h3.row
  intro q
  rcases (h4 b).1 q with rfl | (rfl | rfl) | z
  · have := Eq.trans (Eq.symm h1) hb; simp at this
  · have := Eq.trans (Eq.symm h3.top) hb; simp at this
  · have := Eq.trans (Eq.symm hZ) hb; simp at this
  · exact h2.typ hb (by decide) (by decide) (by decide) z
section
variable {w w' : World} {b : Nat} {x y : Int} {F F' : Nat → Prop} {u : Nat} {v : UV} {n : Nat} {f : Nat → Int} {room : Nat} {L : List E.TV}
theorem Ms.lt (h : Ms w b x y) : b < w.heap.size := lt_of_block h
theorem Ms.c0 (h : Ms w b x y) : w.cell? ⟨b, 0, none⟩ = some (.int .i64 x) := by rw [cell_of_row w b 0 _ _ _ h]; rfl
theorem Ms.c1 (h : Ms w b x y) : w.cell? ⟨b, 1, none⟩ = some (.int .i64 y) := by rw [cell_of_row w b 1 _ _ _ h]; rfl
theorem Ms.z (h : Ms w b x y) (j : Nat) : w.frozen? ⟨b, j, none⟩ = false := frozen_of_row w b j _ _ h
theorem Ms.below (h : Ms w b x y) (hb : Below w.heap.size w w') : Ms w' b x y := (hb.block b h.lt).trans h
theorem Ms.alloc (h : Ms w b x y) (o : Obj) : Ms (w.alloc o) b x y := h.below ((Below.refl _ _).alloc (Nat.le_refl _) o)
theorem Ms.tn (h : Ms w b x y) (hu : US w F u v n f room L) (ht : Tn w F w' F') : Ms w' b x y := ht.1.old h (hu.msi h)
theorem Ms.set (h : Ms w b x y) (p q : Int) : Ms ((w.setCell ⟨b, 0, none⟩ (.int .i64 p)).setCell ⟨b, 1, none⟩ (.int .i64 q)) b p q := set2 h _ _
theorem LW.ms {W : World} {ob : Nat} (h : LW W w F ob u v n f room L) (hb : Ms w b x y) (hW : W.heap.size ≤ b) (p q : Value) : LW W ((w.setCell ⟨b, 0, none⟩ p).setCell ⟨b, 1, none⟩ q) F ob u v n f room L := by
  have ho := (only1 w b 0 p).trans (only1 _ b 1 q)
  refine ⟨h.us.only ho (fun k hk e => h.us.msi hb (e ▸ hk)), h.new.trans (ho.below _ h.new.size (fun k e => by omega)), h.fnew, ?_, h.nob⟩
  obtain ⟨x1, y1, z1, h1⟩ := h.obk
  exact ⟨x1, y1, z1, ho.old h1 (fun e => by subst e; have := Eq.trans (Eq.symm h1) hb; simp at this)⟩
end
/-- the records: with the first message blocked too, or not -/
def Gm (p : Bool) (D a : Int) (j : Nat) : Int × Int × Int :=
  match p, j with
  | true, 0 => (D, 5, 4276092928)
  | true, 1 => (D, 5, a)
  | true, 2 => (D, 5, 4276092928)
  | true, _ => ((D + 1) % 8, 5, 4276092928)
  | false, 0 => (D, 5, a)
  | false, 1 => (D, 5, 4276092928)
  | false, _ => ((D + 1) % 8, 5, 4276092928)
theorem Gm5 (p : Bool) (D a : Int) (j : Nat) : ∃ d b, Gm p D a j = (d, 5, b) := by
  unfold Gm
  split <;> exact ⟨_, _, rfl⟩
set_option maxHeartbeats 4000000 in
theorem w_IommuMessages (W : World) (x : Int) (x0 : -9223372036854775808 ≤ x) (x1 : x ≤ 9223372036854775807) (i : Int) (i0 : 0 ≤ i) (i1 : i < 18446744073709551616) (ad : Option Addr) (la cap ab ao : Nat) (A : Nat → Int) (hA : Nu W ad la cap ab ao A) (a : Int) (a0 : 0 ≤ a) (a1 : a < 18446744073709551616) (o : Int) (o0 : 0 ≤ o) (o1 : o < 18446744073709551616) :
    Calls Try.prog 9 #[.int .i64 x, .int .u64 i, .slice ad la cap, .int .u64 a, .int .u64 o] W fun e w' => e = .returned (.bool true) ∧ Below W.heap.size W w' := by
  obtain ⟨D, hDx⟩ : ∃ D, x % 8 = D := ⟨_, rfl⟩
  have D0 : 0 ≤ D := by omega
  have D1 : D < 8 := by omega
  have hD : isDev D = true := by simp [isDev]; omega
  have HDX := hid hDx
  obtain ⟨K, hKi⟩ : ∃ K, i % 32 = K := ⟨_, rfl⟩
  have K0 : 0 ≤ K := by omega
  have K1 : K < 32 := by omega
  have HA := hid hA
  have lb1 : la ≤ 9223372036854775807 := Nat.le_trans hA.len hA.cap
  clear hA hDx
  go_enter Try.func9, Try.ntmps9
  go_wp2_with (first
    | (go_at_call 18; refine (l_New _ 2 (by decide) (by decide) none 0 0 0 0 _ (cl0 _)).mono ?_; rintro e w1 ⟨u, t, m, xx, q, F, T, rfl, hs, -, -, hb, hf⟩; have H1 := hid (LW.start (T := T) (t := t) (m := m) (x := xx) (q := q) (Below.refl W.heap.size W) hs hb hf (.pointer (some ⟨xx, 0, none⟩)) (.pointer (some ⟨m, 0, none⟩)) (.pointer (some ⟨q, 0, none⟩))); clear hs hb hf)
    | (go_at_call 19; refine (c_Place x 8 (by decide) (by decide) x0 x1 _).mono ?_; rw [HDX.out]; rintro e w3 ⟨rfl, hw3⟩; obtain rfl := hw3.symm)
    | (go_at_call 21; refine (s_Ring _ F u _ 8 _ 2 [] H1.out.us 0 rfl (by decide) 0 rfl).mono ?_; rintro e w2 ⟨rfl, hs2, ht2⟩; have H2 := hid (H1.out.step hs2 ht2); clear hs2 ht2))
  obtain ⟨ob, hob⟩ : ∃ ob, w1.heap.size = ob := ⟨_, rfl⟩
  rw [hob] at H2
  rw [hob]
  have H3 := hid (H2.out.alloc (.cells #[.int .i64 0, .int .i64 0] 37))
  have M3 : Hid (Ms (w2.alloc (.cells #[.int .i64 0, .int .i64 0] 37)) w2.heap.size 0 0) := heap_alloc_new w2 _
  have hWb : W.heap.size ≤ w2.heap.size := H2.out.new.size
  obtain ⟨wb, hwb⟩ : ∃ wb, w2.heap.size = wb := ⟨_, rfl⟩
  rw [hwb] at M3 hWb
  rw [hwb]
  clear H1 H2 hob hwb
  generalize hf0 : fcl 8 (fun _ => (0, 0)) 0 = f0 at H3
  go_loopw [16] (fun z wr => ∃ (k : Nat) (F : Nat → Prop) (v : UV) (G I : Int), k ≤ la ∧ z = .int .i64 k ∧ LW W wr F ob u v 8 f0 2 [] ∧ Ms wr wb G I ∧ v.there = true ∧ v.count = 0 ∧ v.lost = false ∧ v.mg (D.toNat * 32 + K.toNat) = G ∧ v.mi (D.toNat * 32 + K.toNat) = I ∧ (∀ j, j ≠ D.toNat * 32 + K.toNat → v.mg j = 0)) (fun z _ => la - (intOf z).toNat)
  case atStart => exact ⟨0, F, _, 0, 0, by omega, rfl, H3.out, M3.out, rfl, rfl, rfl, rfl, rfl, fun _ _ => rfl⟩
  case round =>
    clear H3 M3
    obtain ⟨k, F, v, G, I, hk, rfl, hl, hm, q1, q2, q3, q4, q5, q6⟩ := hrel
    have HL := hid hl
    have HMS := hid hm
    have HQ := hid (And.intro q1 (And.intro q2 (And.intro q3 (And.intro q4 (And.intro q5 q6)))))
    have c0 := hl.c
    clear hl hm q1 q2 q3 q4 q5 q6
    by_cases hlt : k < la
    · obtain ⟨rfl, hab⟩ := HA.out.at0 (by omega)
      have xa := (HA.out.below HL.out.new).cell k hlt
      obtain ⟨n0, n1⟩ := HA.out.num k
      generalize A k = ak at xa n0 n1
      have ca := (HL.out.alloc (.cells #[.int .i64 (ak % 9), .int .i64 (k : Int)] 37)).c
      have HAL := hid (HL.out.alloc (.cells #[.int .i64 (ak % 9), .int .i64 (k : Int)] 37))
      have HNM : Hid (Ms (wr.alloc (.cells #[.int .i64 (ak % 9), .int .i64 (k : Int)] 37)) wr.heap.size (ak % 9) k) := heap_alloc_new wr _
      have HMA := hid (HMS.out.alloc (.cells #[.int .i64 (ak % 9), .int .i64 (k : Int)] 37))
      go_wp2_with (first
        | (go_at_call 19; refine (c_Place ak 9 (by decide) (by decide) n0 n1 _).mono ?_; rintro e w4 ⟨rfl, hw4⟩; obtain rfl := hw4.symm)
        | (go_at_call 34; refine (s_Remap _ F u v 8 f0 2 [] HAL.out.us D K (ak % 9) k hD K0 K1).mono ?_; rintro e w5 ⟨rfl, hs5, ht5⟩; have H5 := hid (HAL.out.step hs5 ht5); have N5 := hid (HNM.out.tn HAL.out.us ht5); have M5 := hid (HMA.out.tn HAL.out.us ht5); have y0 := N5.out.c0; have y1 := N5.out.c1; have z0 := M5.out.c0; have z1 := M5.out.c1; have zf := M5.out.z; clear hs5 ht5))
      go_roundw
      case rel =>
        refine ⟨k + 1, F, _, ak % 9, k, by omega, by go_num, H5.out.ms M5.out hWb _ _, M5.out.set _ _, HQ.out.1, HQ.out.2.1, HQ.out.2.2.1, ?_, ?_, ?_⟩
        · simp [UV.setMsi, UV.setG, UV.setI, upd]
        · simp [UV.setMsi, UV.setG, UV.setI, upd]
        · intro j hj
          have := HQ.out.2.2.2.2.2 j hj
          simp [UV.setMsi, UV.setG, UV.setI, upd, hj, this]
      case measure => simp [intOf]; omega
    · obtain rfl : k = la := by omega
      obtain ⟨wo, hwo⟩ : ∃ wo, wr = wo := ⟨_, rfl⟩
      rw [hwo] at HL HMS c0 ⊢
      clear hwo wr
      have HMG := hid HQ.out.2.2.2.2.2
      have y0 := HMS.out.c0
      have y1 := HMS.out.c1
      have yf := HMS.out.z
      by_cases hG : G = 0
      · subst hG
        have hgo : goes v D 4276092928 K = false := by simp [goes, HQ.out.2.2.2.1]
        have HGO := hid hgo
        have H4 := hid (HL.out.ms HMS.out hWb (.int .i64 0) (.int .i64 0))
        have M4 := hid (HMS.out.set 0 0)
        have ca4 := H4.out.c
        have RGa : Hid (Rg v f0 (fun _ => (0, 0, 0)) 0 0 false) := ⟨HQ.out.1, HQ.out.2.1, HQ.out.2.2.1, fun i hi => absurd hi (by rw [HQ.out.2.1]; omega)⟩
        have R0 := hid (Rg.recd (RGa.out.congr (G' := fun _ => (D, 5, 4276092928)) (fun i hi => absurd hi (by omega))) HL.out.us.ok D 5 4276092928 D0 D1 (by decide) (by decide) (by decide) (by decide) (fun _ => rfl))
        clear hgo RGa
        go_upto_if 93 with (first
          | (go_at_call 35; refine (s_Message_bad _ F u v 8 f0 2 [] H4.out.us D 4276092928 K hD (by decide) (by decide) K0 HGO.out).mono ?_; rintro e w6 ⟨rfl, F6, hs, ht⟩; have H6 := hid ((H4.out.step hs ht).alloc (.cells #[.int .i64 0, .int .i64 0] 37)); have M6 := hid ((M4.out.tn H4.out.us ht).alloc (.cells #[.int .i64 0, .int .i64 0] 37)); have m0 := M6.out.c0; have m1 := M6.out.c1; clear hs ht))
        obtain ⟨w7, hw7⟩ : ∃ w7, w6.alloc (.cells #[.int .i64 0, .int .i64 0] 37) = w7 := ⟨_, rfl⟩
        rw [hw7] at H6
        rw [hw7]
        clear hw7 m0 m1 M6 y0 y1 yf ca4 c0 H4 M4 HL HMS
        have R0' : Hid (Rg (rcV v) (rcF v f0 D 5 4276092928) (fun _ => (D, 5, 4276092928)) 0 1 false) := R0.out
        have HMG' : Hid (∀ j, j ≠ D.toNat * 32 + K.toNat → (rcV v).mg j = 0) := fun j hj => by rw [rcV_mg]; exact HMG.out j hj
        clear HMG R0 HQ HGO
        have HMG := HMG'
        clear HMG'
        generalize rcF v f0 D 5 4276092928 = f6 at H6 R0'
        generalize rcV v = v6 at H6 R0' HMG
        go_upto_if 95 with fail
        go_cut [3] (fun s wx => ∃ a2 : Int, (a2 == 4276092928) = false ∧ 0 ≤ a2 ∧ a2 < 18446744073709551616 ∧ s = .int .u64 a2 ∧ wx = w7)
        case first =>
          by_cases ha : a = 4276092928
          · subst ha
            go_wp2
            go_meet
            exact ⟨4276092936, rfl, by decide, by decide, rfl, rfl⟩
          · have ha' : (a == 4276092928) = false := by simpa using ha
            go_wp2
            go_meet
            exact ⟨a, ha', a0, a1, rfl, rfl⟩
        case rest =>
          obtain ⟨a2, ha2, a20, a21, rfl, rfl⟩ := hcut
          go_upto_if 100 with fail
          go_cut [4] (fun s wx => ∃ o2 : Int, ¬ o2 = K ∧ 0 ≤ o2 ∧ o2 < 18446744073709551616 ∧ s = .int .u64 o2 ∧ wx = wc)
          case first =>
            by_cases ho : o = K
            · have ho' : (o == K) = true := by simpa using ho
              go_wp2
              go_meet
              exact ⟨o + 1, by omega, by omega, by omega, by go_num, rfl⟩
            · have ho' : (o == K) = false := by simpa using ho
              go_wp2
              go_meet
              exact ⟨o, ho, o0, o1, rfl, rfl⟩
          case rest =>
            obtain ⟨o2, ho2, o20, o21, rfl, rfl⟩ := hcut
            have g1 : goes v6 D a2 K = false := by have : ¬ a2 = 4276092928 := (by simpa using ha2); simp [goes, this]
            have g2 : goes (rcV v6) D 4276092928 o2 = false := by
              by_cases q : o2 < 32
              · have : (rcV v6).mg (D.toNat * 32 + o2.toNat) = 0 := by rw [rcV_mg]; exact HMG.out _ (by omega)
                simp [goes, this]
              · simp [goes, q]
            have g3 : goes (rcV (rcV v6)) ((D + 1) % 8) 4276092928 K = false := by
              have : (rcV (rcV v6)).mg (((D + 1) % 8).toNat * 32 + K.toNat) = 0 := by rw [rcV_mg, rcV_mg]; exact HMG.out _ (by omega)
              simp [goes, this]
            have G1 := hid g1
            have G2 := hid g2
            have G3 := hid g3
            have hv1 := rcV_ok H6.out.us.ok
            have R0 : Hid (Rg v6 f6 (Gm true D a2) 0 1 false) := R0'.out.congr (fun i hi => by obtain rfl : i = 0 := (by omega); rfl)
            have R1 := hid (R0.out.recd H6.out.us.ok D 5 a2 D0 D1 (by decide) (by decide) a20 a21 (fun _ => rfl))
            have R2 := hid (R1.out.recd hv1 D 5 4276092928 D0 D1 (by decide) (by decide) (by decide) (by decide) (fun _ => rfl))
            have R3 := hid (R2.out.recd (rcV_ok hv1) ((D + 1) % 8) 5 4276092928 (by omega) (by omega) (by decide) (by decide) (by decide) (by decide) (fun _ => rfl))
            have hD2 : isDev ((D + 1) % 8) = true := by simp [isDev]; omega
            clear g1 g2 g3 hv1 R0 R1 R2
            have ca := H6.out.c
            have M1 : Hid True := trivial
            have M2 : Hid True := trivial
            go_wp2_with (first
              | (have tk := M1; go_at_call 35; refine (s_Message_bad _ F6 u v6 8 f6 2 [] H6.out.us D a2 K hD a20 a21 K0 G1.out).mono ?_; clear tk M1; rintro e w11 ⟨rfl, F11, hs, ht⟩; have H11 := hid ((H6.out.step hs ht).alloc (.cells #[.int .i64 0, .int .i64 0] 37)); have A11 : Hid (Ms (w11.alloc (.cells #[.int .i64 0, .int .i64 0] 37)) w11.heap.size 0 0) := heap_alloc_new w11 _; have c11 := H11.out.c; clear hs ht)
              | (have tk := M2; go_at_call 35; refine (s_Message_bad _ F11 u _ 8 _ 2 [] H11.out.us D 4276092928 o2 hD (by decide) (by decide) o20 G2.out).mono ?_; clear tk M2; rintro e w12 ⟨rfl, F12, hs, ht⟩; have A12 : Hid (Ms (w12.alloc (.cells #[.int .i64 0, .int .i64 0] 37)) w11.heap.size 0 0) := (A11.out.tn H11.out.us ht).alloc _; have H12 := hid ((H11.out.step hs ht).alloc (.cells #[.int .i64 0, .int .i64 0] 37)); have B12 : Hid (Ms (w12.alloc (.cells #[.int .i64 0, .int .i64 0] 37)) w12.heap.size 0 0) := heap_alloc_new w12 _; have c12 := H12.out.c; clear hs ht)
              | (go_at_call 35; refine (s_Message_bad _ F12 u _ 8 _ 2 [] H12.out.us ((D + 1) % 8) 4276092928 K hD2 (by decide) (by decide) K0 G3.out).mono ?_; rintro e w13 ⟨rfl, F13, hs, ht⟩; have A13 : Hid (Ms (w13.alloc (.cells #[.int .i64 0, .int .i64 0] 37)) w11.heap.size 0 0) := (A12.out.tn H12.out.us ht).alloc _; have B13 : Hid (Ms (w13.alloc (.cells #[.int .i64 0, .int .i64 0] 37)) w12.heap.size 0 0) := (B12.out.tn H12.out.us ht).alloc _; have H13 := hid ((H12.out.step hs ht).alloc (.cells #[.int .i64 0, .int .i64 0] 37)); have ya0 := A13.out.c0; have ya1 := A13.out.c1; have yb0 := B13.out.c0; have yb1 := B13.out.c1; clear hs ht))
            obtain ⟨wt, hwt⟩ : ∃ wt, w13.alloc (.cells #[.int .i64 0, .int .i64 0] 37) = wt := ⟨_, rfl⟩
            rw [hwt] at H13
            rw [hwt]
            clear hwt ya0 ya1 yb0 yb1 A13 B13
            have R3' : Hid (Rg (rcV (rcV (rcV v6))) (rcF (rcV (rcV v6)) (rcF (rcV v6) (rcF v6 f6 D 5 a2) D 5 4276092928) ((D + 1) % 8) 5 4276092928) (Gm true D a2) 0 4 false) := R3.out
            go_loopw [26] (fun i wr => ∃ (j : Nat) (F : Nat → Prop) (v : UV) (f : Nat → Int), j ≤ 4 ∧ i = .int .i64 j ∧ LW W wr F ob u v 8 f 2 [] ∧ Rg v f (Gm true D a2) j (4 - j) false) (fun i _ => 4 - (intOf i).toNat)
            case atStart => exact ⟨0, F13, _, _, by omega, rfl, H13.out, R3'.out⟩
            case round =>
              clear H13 R3 R3' G1 G2 G3 HMG
              obtain ⟨j, F, v, f, hj, rfl, hl, hg⟩ := hrel
              have HL := hid hl
              have HG := hid hg
              have c0 := hl.c
              clear hl hg
              by_cases hlt : j < 4
              · obtain ⟨gd, ga, hgj⟩ := Gm5 true D a2 j
                have HGJ := hid hgj
                clear hgj
                go_wp2_with ((go_at_call 26; refine (s_NextG wr F u v 8 f 2 [] HL.out.us (Gm true D a2) j HG.out.rl (by rw [HG.out.count]; omega) gd 5 ga HGJ.out).mono ?_; rintro e w14 ⟨rfl, hs, ht, -⟩; have H14 := hid ((HL.out.step hs ht).alloc (.cells #[.int .i64 gd, .int .i64 5, .int .u64 ga] 51)); have c14 := H14.out.c; clear hs ht))
                go_roundw
                case rel =>
                  refine ⟨j + 1, F, _, _, by omega, by go_num, H14.out, ?_⟩
                  have := HG.out.next (by omega)
                  rwa [show 4 - j - 1 = 4 - (j + 1) by omega] at this
                case measure => simp [intOf]; omega
              · obtain rfl : j = 4 := by omega
                go_wp2_with (first
                  | (go_at_call 26; refine (s_Next_no _ F u v 8 f 2 [] HL.out.us (by rw [HG.out.count])).mono ?_; rintro e w15 ⟨rfl, hb15⟩; have H15 := hid ((HL.out.below hb15).alloc (.cells #[.int .i64 0, .int .i64 0, .int .u64 0] 51)); clear hb15)
                  | (go_at_call 28; refine (l_awake _).mono ?_; rintro e w16 ⟨rfl, hb16⟩; have HB16 := hid hb16; clear hb16))
                go_ret
                exact ⟨rfl, H15.out.new.trans (HB16.out.mono H15.out.new.size)⟩
      · have hG' : (G != 0) = true := by simpa using hG
        have hmg : (v.mg (D.toNat * 32 + K.toNat) != 0) = true := by rw [HQ.out.2.2.2.1]; exact hG'
        have HMGN := hid hmg
        have e4 := HQ.out.2.2.2.1
        have e5 := HQ.out.2.2.2.2.1
        have HE := hid (And.intro e4 e5)
        have RGa : Hid (Rg v f0 (fun _ => (0, 0, 0)) 0 0 false) := ⟨HQ.out.1, HQ.out.2.1, HQ.out.2.2.1, fun i hi => absurd hi (by rw [HQ.out.2.1]; omega)⟩
        clear hmg e4 e5
        go_upto_if 93 with (first
          | (go_at_call 35; refine (m_Message_go _ u v HL.out.us.iu D K hD K0 K1 HMGN.out).mono ?_; rw [HE.out.1, HE.out.2]; rintro e w6 ⟨rfl, hb⟩; have H6 := hid ((HL.out.below hb).alloc (.cells #[.int .i64 G, .int .i64 I] 37)); have M6 := hid ((HMS.out.below hb).alloc (.cells #[.int .i64 G, .int .i64 I] 37)); have m0 := M6.out.c0; have m1 := M6.out.c1; clear hb))
        obtain ⟨w7, hw7⟩ : ∃ w7, w6.alloc (.cells #[.int .i64 G, .int .i64 I] 37) = w7 := ⟨_, rfl⟩
        rw [hw7] at H6
        rw [hw7]
        clear hw7 m0 m1 M6 y0 y1 yf c0 HL HMS HQ HMGN HE
        go_upto_if 95 with fail
        go_cut [3] (fun s wx => ∃ a2 : Int, (a2 == 4276092928) = false ∧ 0 ≤ a2 ∧ a2 < 18446744073709551616 ∧ s = .int .u64 a2 ∧ wx = w7)
        case first =>
          by_cases ha : a = 4276092928
          · subst ha
            go_wp2
            go_meet
            exact ⟨4276092936, rfl, by decide, by decide, rfl, rfl⟩
          · have ha' : (a == 4276092928) = false := by simpa using ha
            go_wp2
            go_meet
            exact ⟨a, ha', a0, a1, rfl, rfl⟩
        case rest =>
          obtain ⟨a2, ha2, a20, a21, rfl, rfl⟩ := hcut
          go_upto_if 100 with fail
          go_cut [4] (fun s wx => ∃ o2 : Int, ¬ o2 = K ∧ 0 ≤ o2 ∧ o2 < 18446744073709551616 ∧ s = .int .u64 o2 ∧ wx = wc)
          case first =>
            by_cases ho : o = K
            · have ho' : (o == K) = true := by simpa using ho
              go_wp2
              go_meet
              exact ⟨o + 1, by omega, by omega, by omega, by go_num, rfl⟩
            · have ho' : (o == K) = false := by simpa using ho
              go_wp2
              go_meet
              exact ⟨o, ho, o0, o1, rfl, rfl⟩
          case rest =>
            obtain ⟨o2, ho2, o20, o21, rfl, rfl⟩ := hcut
            have g1 : goes v D a2 K = false := by have : ¬ a2 = 4276092928 := (by simpa using ha2); simp [goes, this]
            have g2 : goes (rcV v) D 4276092928 o2 = false := by
              by_cases q : o2 < 32
              · have : (rcV v).mg (D.toNat * 32 + o2.toNat) = 0 := by rw [rcV_mg]; exact HMG.out _ (by omega)
                simp [goes, this]
              · simp [goes, q]
            have g3 : goes (rcV (rcV v)) ((D + 1) % 8) 4276092928 K = false := by
              have : (rcV (rcV v)).mg (((D + 1) % 8).toNat * 32 + K.toNat) = 0 := by rw [rcV_mg, rcV_mg]; exact HMG.out _ (by omega)
              simp [goes, this]
            have G1 := hid g1
            have G2 := hid g2
            have G3 := hid g3
            have hv1 := rcV_ok H6.out.us.ok
            have R0 : Hid (Rg v f0 (Gm false D a2) 0 0 false) := RGa.out.congr (fun i hi => absurd hi (by omega))
            have R1 := hid (R0.out.recd H6.out.us.ok D 5 a2 D0 D1 (by decide) (by decide) a20 a21 (fun _ => rfl))
            have R2 := hid (R1.out.recd hv1 D 5 4276092928 D0 D1 (by decide) (by decide) (by decide) (by decide) (fun _ => rfl))
            have R3 := hid (R2.out.recd (rcV_ok hv1) ((D + 1) % 8) 5 4276092928 (by omega) (by omega) (by decide) (by decide) (by decide) (by decide) (fun _ => rfl))
            have hD2 : isDev ((D + 1) % 8) = true := by simp [isDev]; omega
            clear g1 g2 g3 hv1 R0 R1 R2
            have ca := H6.out.c
            have M1 : Hid True := trivial
            have M2 : Hid True := trivial
            go_wp2_with (first
              | (have tk := M1; go_at_call 35; refine (s_Message_bad _ F u v 8 f0 2 [] H6.out.us D a2 K hD a20 a21 K0 G1.out).mono ?_; clear tk M1; rintro e w11 ⟨rfl, F11, hs, ht⟩; have H11 := hid ((H6.out.step hs ht).alloc (.cells #[.int .i64 0, .int .i64 0] 37)); have A11 : Hid (Ms (w11.alloc (.cells #[.int .i64 0, .int .i64 0] 37)) w11.heap.size 0 0) := heap_alloc_new w11 _; have c11 := H11.out.c; clear hs ht)
              | (have tk := M2; go_at_call 35; refine (s_Message_bad _ F11 u _ 8 _ 2 [] H11.out.us D 4276092928 o2 hD (by decide) (by decide) o20 G2.out).mono ?_; clear tk M2; rintro e w12 ⟨rfl, F12, hs, ht⟩; have A12 : Hid (Ms (w12.alloc (.cells #[.int .i64 0, .int .i64 0] 37)) w11.heap.size 0 0) := (A11.out.tn H11.out.us ht).alloc _; have H12 := hid ((H11.out.step hs ht).alloc (.cells #[.int .i64 0, .int .i64 0] 37)); have B12 : Hid (Ms (w12.alloc (.cells #[.int .i64 0, .int .i64 0] 37)) w12.heap.size 0 0) := heap_alloc_new w12 _; have c12 := H12.out.c; clear hs ht)
              | (go_at_call 35; refine (s_Message_bad _ F12 u _ 8 _ 2 [] H12.out.us ((D + 1) % 8) 4276092928 K hD2 (by decide) (by decide) K0 G3.out).mono ?_; rintro e w13 ⟨rfl, F13, hs, ht⟩; have A13 : Hid (Ms (w13.alloc (.cells #[.int .i64 0, .int .i64 0] 37)) w11.heap.size 0 0) := (A12.out.tn H12.out.us ht).alloc _; have B13 : Hid (Ms (w13.alloc (.cells #[.int .i64 0, .int .i64 0] 37)) w12.heap.size 0 0) := (B12.out.tn H12.out.us ht).alloc _; have H13 := hid ((H12.out.step hs ht).alloc (.cells #[.int .i64 0, .int .i64 0] 37)); have ya0 := A13.out.c0; have ya1 := A13.out.c1; have yb0 := B13.out.c0; have yb1 := B13.out.c1; clear hs ht))
            obtain ⟨wt, hwt⟩ : ∃ wt, w13.alloc (.cells #[.int .i64 0, .int .i64 0] 37) = wt := ⟨_, rfl⟩
            rw [hwt] at H13
            rw [hwt]
            clear hwt ya0 ya1 yb0 yb1 A13 B13
            have R3' : Hid (Rg (rcV (rcV (rcV v))) (rcF (rcV (rcV v)) (rcF (rcV v) (rcF v f0 D 5 a2) D 5 4276092928) ((D + 1) % 8) 5 4276092928) (Gm false D a2) 0 3 false) := R3.out
            go_loopw [26] (fun i wr => ∃ (j : Nat) (F : Nat → Prop) (v : UV) (f : Nat → Int), j ≤ 3 ∧ i = .int .i64 j ∧ LW W wr F ob u v 8 f 2 [] ∧ Rg v f (Gm false D a2) j (3 - j) false) (fun i _ => 3 - (intOf i).toNat)
            case atStart => exact ⟨0, F13, _, _, by omega, rfl, H13.out, R3'.out⟩
            case round =>
              clear H13 R3 R3' G1 G2 G3 HMG
              obtain ⟨j, F, v, f, hj, rfl, hl, hg⟩ := hrel
              have HL := hid hl
              have HG := hid hg
              have c0 := hl.c
              clear hl hg
              by_cases hlt : j < 3
              · obtain ⟨gd, ga, hgj⟩ := Gm5 false D a2 j
                have HGJ := hid hgj
                clear hgj
                go_wp2_with ((go_at_call 26; refine (s_NextG wr F u v 8 f 2 [] HL.out.us (Gm false D a2) j HG.out.rl (by rw [HG.out.count]; omega) gd 5 ga HGJ.out).mono ?_; rintro e w14 ⟨rfl, hs, ht, -⟩; have H14 := hid ((HL.out.step hs ht).alloc (.cells #[.int .i64 gd, .int .i64 5, .int .u64 ga] 51)); have c14 := H14.out.c; clear hs ht))
                go_roundw
                case rel =>
                  refine ⟨j + 1, F, _, _, by omega, by go_num, H14.out, ?_⟩
                  have := HG.out.next (by omega)
                  rwa [show 3 - j - 1 = 3 - (j + 1) by omega] at this
                case measure => simp [intOf]; omega
              · obtain rfl : j = 3 := by omega
                go_wp2_with (first
                  | (go_at_call 26; refine (s_Next_no _ F u v 8 f 2 [] HL.out.us (by rw [HG.out.count])).mono ?_; rintro e w15 ⟨rfl, hb15⟩; have H15 := hid ((HL.out.below hb15).alloc (.cells #[.int .i64 0, .int .i64 0, .int .u64 0] 51)); clear hb15)
                  | (go_at_call 28; refine (l_awake _).mono ?_; rintro e w16 ⟨rfl, hb16⟩; have HB16 := hid hb16; clear hb16))
                go_ret
                exact ⟨rfl, H15.out.new.trans (HB16.out.mono H15.out.new.size)⟩
end Go.Proofs.Ytfoafgbhelgjcaa
