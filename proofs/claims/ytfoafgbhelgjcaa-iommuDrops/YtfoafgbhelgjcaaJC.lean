/- A device whose table was dropped. -/
import Derived.Test.YtfoafgbhelgjcaaJA
import Derived.Test.YtfoafgbhelgjcaaIT
import Derived.Test.YtfoafgbhelgjcaaHQM
import Derived.Test.YtfoafgbhelgjcaaCPEO
import Derived.Test.YtfoafgbhelgjcaaCPBG
import Derived.Test.YtfoafgbhelgjcaaCRK
import Derived.Deep.DeepCutAuto
namespace Go.Proofs.Ytfoafgbhelgjcaa
open Go.RowKit
open C (Only hid Mem Still ret_int ret_bool put byt nu fcl c_Place Cl gst rdm hasB pm num rd8 cy)
set_option linter.unusedVariables false
set_option maxRecDepth 100000

/-- the tables: eight pages, each at its own place -/
def X8 : Nat → Int × Int
  | 0 => (512, 2049)
  | 1 => (1024, 3073)
  | k + 2 => (1536 + (k : Int), (k : Int) * 1024 + 223)
theorem x8_eq : fcl 8 X8 10 = (put (put (put (put (put (put (put (put (put (put (fun _ => 0) 4096 8 (byt 2049)) 8192 8 (byt 3073)) 12288 8 (byt 223)) 12296 8 (byt 1247)) 12304 8 (byt 2271)) 12312 8 (byt 3295)) 12320 8 (byt 4319)) 12328 8 (byt 5343)) 12336 8 (byt 6367)) 12344 8 (byt 7391)) := rfl
theorem x8_rd : rd8 (fcl 8 X8 10) 4096 = 2049 ∧ rd8 (fcl 8 X8 10) 8192 = 3073 ∧ ∀ i : Nat, i < 8 → rd8 (fcl 8 X8 10) (12288 + 8 * i) = (i : Int) * 1024 + 223 := by
  rw [x8_eq]
  refine ⟨?_, ?_, fun i hi => ?_⟩
  · repeat (first | (rw [C.rd8_same _ _ _ (by decide) (by decide)]) | (rw [C.rd8_other _ _ _ _ (by decide)]))
  · repeat (first | (rw [C.rd8_same _ _ _ (by decide) (by decide)]) | (rw [C.rd8_other _ _ _ _ (by decide)]))
  · match i, hi with
    | 0, _ =>
      show rd8 _ 12288 = 223
      repeat (first | (rw [C.rd8_same _ _ _ (by decide) (by decide)]) | (rw [C.rd8_other _ _ _ _ (by decide)]))
    | 1, _ =>
      show rd8 _ 12296 = 1247
      repeat (first | (rw [C.rd8_same _ _ _ (by decide) (by decide)]) | (rw [C.rd8_other _ _ _ _ (by decide)]))
    | 2, _ =>
      show rd8 _ 12304 = 2271
      repeat (first | (rw [C.rd8_same _ _ _ (by decide) (by decide)]) | (rw [C.rd8_other _ _ _ _ (by decide)]))
    | 3, _ =>
      show rd8 _ 12312 = 3295
      repeat (first | (rw [C.rd8_same _ _ _ (by decide) (by decide)]) | (rw [C.rd8_other _ _ _ _ (by decide)]))
    | 4, _ =>
      show rd8 _ 12320 = 4319
      repeat (first | (rw [C.rd8_same _ _ _ (by decide) (by decide)]) | (rw [C.rd8_other _ _ _ _ (by decide)]))
    | 5, _ =>
      show rd8 _ 12328 = 5343
      repeat (first | (rw [C.rd8_same _ _ _ (by decide) (by decide)]) | (rw [C.rd8_other _ _ _ _ (by decide)]))
    | 6, _ =>
      show rd8 _ 12336 = 6367
      repeat (first | (rw [C.rd8_same _ _ _ (by decide) (by decide)]) | (rw [C.rd8_other _ _ _ _ (by decide)]))
    | 7, _ =>
      show rd8 _ 12344 = 7391
      repeat (first | (rw [C.rd8_same _ _ _ (by decide) (by decide)]) | (rw [C.rd8_other _ _ _ _ (by decide)]))
/-- what an access comes to by these tables -/
def Tb8 (f : Nat → Int) : Prop := rd8 f 4096 = 2049 ∧ rd8 f 8192 = 3073 ∧ ∀ i : Nat, i < 8 → rd8 f (12288 + 8 * i) = (i : Int) * 1024 + 223
theorem leaf8 : ∀ i : Fin 8, C.wr ((i.val : Int) * 1024 + 223) = false ∧ C.lf ((i.val : Int) * 1024 + 223) = true ∧ C.al ((i.val : Int) * 1024 + 223) 2 = true ∧ C.al ((i.val : Int) * 1024 + 223) 3 = true ∧ num ((i.val : Int) * 1024 + 223) = i.val := of_decide_eq_true (by kernel_rfl)
theorem drop_acN {f : Nat → Int} (h : Tb8 f) (a : Int) (b0 : 0 ≤ a) (b1 : a < 32768) (b8 : a % 8 = 0) (wt : Bool) : acN 8 f 1 a 8 wt = (0, a) := by
  obtain ⟨i, hi⟩ : ∃ i : Nat, a / 4096 = i := ⟨(a / 4096).toNat, by omega⟩
  have hi8 : i < 8 := by omega
  have e : a = (i : Int) * 4096 + a % 4096 := by omega
  obtain ⟨l1, l2, l3, l4, l5⟩ := leaf8 ⟨i, hi8⟩
  have hal : C.al ((i : Int) * 1024 + 223) (akd wt) = true := by cases wt; exact l3; exact l4
  have hg := lev3 f i (by omega) ((i : Int) * 1024 + 223) h.1 h.2.1 (h.2.2 i hi8) (a % 4096) (akd wt) (by omega) (by omega)
  rw [if_pos ⟨l1, l2, hal⟩, ← e] at hg
  have l5' : num ((i : Int) * 1024 + 223) = i := l5
  rw [l5', ← e] at hg
  unfold acN
  rw [if_neg (by rw [whole8 a b8]; decide), if_neg (by decide), hg, if_pos rfl]
  have hp : plf (a / 4096) a = a := by rw [plf_eq a a b0 (by omega)]; omega
  have hh : hasB 0 8 a 8 = true := by simp [hasB]; omega
  simp only [hp, hh, if_true]
theorem s_AccessT (w : World) (F : Nat → Prop) (u : Nat) (v : UV) (f : Nat → Int) (L : List E.TV) (h : US w F u v 8 f 16 L) (d a : Int) (wt : Bool) (hd : isDev d = true) (b0 : 0 ≤ a) (b1 : a < 32768) (b8 : a % 8 = 0) (hr : v.root d.toNat = 1) (hf : Tb8 f) (ho : v.there = false) (hT : Tr 8 f v L) :
    Calls Try.prog 22 #[.pointer (some ⟨u, 0, none⟩), .int .i64 d, .int .u64 a, .int .i64 8, .bool wt] w fun e w' => e = .returned (.tuple #[.int .u64 a, .bool true]) ∧ ∃ F' L', US w' F' u (bkV v 0) 8 f 16 L' ∧ Tn w F w' F' ∧ Tr 8 f v L' ∧ ∀ e ∈ L', e ∈ L ∨ e.v = d := by
  obtain ⟨k, p, L', hk⟩ : ∃ k p L', acF 8 f v 16 L d a 8 wt = (k, p, L') := ⟨_, _, _, rfl⟩
  obtain ⟨hn, ht⟩ := acF_true h.byt h.ok.root hT b0 (by omega) hk
  rw [hr, drop_acN hf a b0 b1 b8 wt] at hn
  cases hn
  refine (s_Access w F u v 8 f 16 L h d a 8 wt hd b0 (by omega) (by decide) (by decide) 0 a L' hk).mono ?_
  rintro e w' ⟨rfl, F', h1, h2⟩
  rw [bkF_off ho] at h1
  exact ⟨rfl, F', L', h1, h2, ht, acF_dev hk⟩
theorem s_AccessD (w : World) (F : Nat → Prop) (u : Nat) (v : UV) (f : Nat → Int) (L : List E.TV) (h : US w F u v 8 f 16 L) (d a : Int) (wt : Bool) (hd : isDev d = true) (b0 : 0 ≤ a) (b1 : a < 32768) (b8 : a % 8 = 0) (hr : v.root d.toNat = 0) (ho : v.there = false) :
    Calls Try.prog 22 #[.pointer (some ⟨u, 0, none⟩), .int .i64 d, .int .u64 a, .int .i64 8, .bool wt] w fun e w' => e = .returned (.tuple #[.int .u64 0, .bool false]) ∧ ∃ F', US w' F' u (rcV v) 8 f 16 L ∧ Tn w F w' F' := by
  refine (s_AccessNone w F u v 8 f 16 L h d a wt hd b0 (by omega) b8 hr).mono ?_
  rintro e w' ⟨rfl, F', h1, h2⟩
  have e1 : rcF v f d 1 a = f := by unfold rcF rcB; rw [ho]; rfl
  rw [e1] at h1
  exact ⟨rfl, F', h1, h2⟩
theorem s_Root (w : World) (F : Nat → Prop) (u : Nat) (v : UV) (n : Nat) (f : Nat → Int) (room : Nat) (L : List E.TV) (h : US w F u v n f room L) (d : Int) (hd : isDev d = true) : Calls Try.prog 33 #[.pointer (some ⟨u, 0, none⟩), .int .i64 d] w fun e w' => e = .returned (.int .u64 (v.root d.toNat)) ∧ w' = w := m_Root w u v h.iu d hd
theorem rcV_off {v : UV} (h : v.there = false) : (rcV v).there = false := by unfold rcV rcB; rw [h]; exact h
theorem info_cell8 : (Try.prog.info? 71).map (fun i => (i.zero, i.size, i.bytes)) = some (some (.agg #[.int .i64 0, .int .u64 0]), 2, 16) := by kernel_rfl
theorem u_sCell8 : Try.prog.underlying 22 = some (.slice 71) := by kernel_rfl
theorem or_223 (k : Nat) (hk : k < 8) : bits .or .u64 ((k : Int) * 1024) 223 = (k : Int) * 1024 + 223 := C.or_leaf k (by omega) (by omega)
set_option maxHeartbeats 4000000 in
theorem w_IommuDrops (W : World) (bd : Option Addr) (lb cbp bb bo : Nat) (Y : Nat → OpV) (hY : Sc W bd lb cbp bb bo Y) (x : Int) (x0 : -9223372036854775808 ≤ x) (x1 : x ≤ 9223372036854775807) :
    Calls Try.prog 8 #[.slice bd lb cbp, .int .i64 x] W fun e w' => e = .returned (.bool true) ∧ Below W.heap.size W w' := by
  obtain ⟨D, hDx⟩ : ∃ D, x % 7 = D := ⟨_, rfl⟩
  have D0 : 0 ≤ D := by omega
  have D1 : D < 7 := by omega
  have hD : isDev D = true := by simp [isDev]; omega
  have hD2 : isDev (D + 1) = true := by simp [isDev]; omega
  have HDX := hid hDx
  have HY := hid hY
  have lb1 : lb ≤ 9223372036854775807 := Nat.le_trans hY.len hY.cap
  clear hY hDx
  obtain ⟨i0, hi, hz0, hz1, hz2⟩ := info_parts info_cell8
  go_enter Try.func8, Try.ntmps8
  go_wp2_with fail
  go_loopw [5, 6] (fun v i wr => ∃ k : Nat, k ≤ 8 ∧ i = .int .i64 k ∧ wr.ownsRow W.heap.size 71 2 v (k + 2) (cy X8 (k + 2)) ∧ Below W.heap.size W wr) (fun _ i _ => 8 - (intOf i).toNat)
  case atStart => exact ⟨0, by omega, rfl, ⟨rfl, .inr ⟨W.heap.size, 2, #[.int .i64 512, .int .u64 2049, .int .i64 1024, .int .u64 3073], rfl, Nat.le_refl _, heap_alloc_new W _, by decide, by decide, rfl, rfl⟩⟩, (Below.refl _ _).alloc (Nat.le_refl _) _⟩
  case round =>
    obtain ⟨k, hk, rfl, hown, hb⟩ := hrel
    have HO := hid hown
    have HB := hid hb
    clear hown hb
    by_cases hlt : k < 8
    · have hor := or_223 k hlt
      have HYY : Hid (cy X8 (k + 1 + 2) = cy X8 (k + 2) ++ [.int .i64 (1536 + (k : Int)), .int .u64 ((k : Int) * 1024 + 223)]) := rfl
      go_wp2_with (first
        | (at_builtin; refine wpList_append_own _ rfl _ _ 22 rfl W.heap.size 71 i0 (.agg #[.int .i64 0, .int .u64 0]) 2 16 u_sCell8 hi hz0 hz1 hz2 rfl (by decide) _ (k + 2) (cy X8 (k + 2)) rfl (HO.out.alloc _) ⟨wr.heap.size, 0, none⟩ 1 1 [.int .i64 (1536 + (k : Int)), .int .u64 ((k : Int) * 1024 + 223)] rfl rfl (by
            intro j u hj
            match j, hj with
            | 0, hj => simp at hj; subst hj; simp [Addr.add]
            | 1, hj => simp at hj; subst hj; simp [Addr.add]) (by intro u hu; simp at hu; rcases hu with rfl | rfl <;> rfl) (by unfold maxLen; omega) (by omega) (by have := HB.out.size; simp; omega) ?_; intro v' w2 hown hgrow _; have HO3 := hid hown; have HG3 := hid hgrow; clear hown hgrow))
      go_roundw
      case rel => exact ⟨k + 1, by omega, by go_num, by rw [HYY.out]; exact HO3.out, (HB.out.alloc HB.out.size _).grown HG3.out (by have := HB.out.size; simp; omega) (fun r q => C.ownBlock_ge HO.out q)⟩
      case measure => simp [intOf]; omega
    · obtain rfl : k = 8 := by omega
      have hYn : ∀ i, i < 8 + 2 → (-9223372036854775808 ≤ (X8 i).1 ∧ (X8 i).1 ≤ 9223372036854775807) ∧ 0 ≤ (X8 i).2 ∧ (X8 i).2 < 18446744073709551616 := fun i hi => by
        match i, hi with
        | 0, _ | 1, _ | 2, _ | 3, _ | 4, _ | 5, _ | 6, _ | 7, _ | 8, _ | 9, _ => exact of_decide_eq_true (by kernel_rfl)
      obtain ⟨ad1, cap1, ab1, rfl, hcl⟩ := C.cl_of_own HO.out (by omega) hYn
      have HCL := hid hcl
      clear hcl hYn HO
      obtain ⟨wo, hwo⟩ : ∃ wo, wr = wo := ⟨_, rfl⟩
      rw [hwo] at HCL HB
      rw [hwo]
      clear hwo wr
      have S1 : Hid True := trivial
      go_wp2_with (first
        | (go_at_call 18; refine (l_New wo 16 (by decide) (by decide) ad1 10 cap1 ab1 0 X8 HCL.out).mono ?_; rintro e w1 ⟨u, t, m, xx, q, F, T, rfl, hs, -, -, hb, hf⟩; have H1 := hid (LW.start (T := T) (t := t) (m := m) (x := xx) (q := q) HB.out hs hb hf (.pointer (some ⟨xx, 0, none⟩)) (.pointer (some ⟨m, 0, none⟩)) (.pointer (some ⟨q, 0, none⟩))); clear hs hb hf)
        | (go_at_call 19; refine (c_Place x 7 (by decide) (by decide) x0 x1 _).mono ?_; rw [HDX.out]; rintro e w3 ⟨rfl, hw3⟩; obtain rfl := hw3.symm)
        | (have tk := S1; go_at_call 20; refine (s_Set _ F u _ 8 _ 16 [] H1.out.us D 1 hD rfl (by decide) (by decide)).mono ?_; clear tk S1; rintro e w2 ⟨rfl, hs2, ht2⟩; have H2 := hid (H1.out.step hs2 ht2); have c2 := H2.out.c; clear hs2 ht2)
        | (go_at_call 20; refine (s_Set _ F u _ 8 _ 16 [] H2.out.us (D + 1) 1 hD2 rfl (by decide) (by decide)).mono ?_; rintro e w3 ⟨rfl, hs3, ht3⟩; have H3 := hid (H2.out.step hs3 ht3); clear hs3 ht3))
      obtain ⟨ob, hob⟩ : ∃ ob, w1.heap.size = ob := ⟨_, rfl⟩
      rw [hob] at H3
      rw [hob]
      clear H1 H2 c2 hob
      have HF : Hid (Tb8 (fcl 8 X8 10)) := x8_rd
      generalize fcl 8 X8 10 = f at H3 HF
      have hr1 : (((v0 t m).setRoot D.toNat 1).setRoot (D + 1).toNat 1).root D.toNat = 1 := by
        show upd (upd _ D.toNat 1) (D + 1).toNat 1 D.toNat = 1
        unfold upd
        rw [if_neg (by omega), if_pos rfl]
      have hr2 : (((v0 t m).setRoot D.toNat 1).setRoot (D + 1).toNat 1).root (D + 1).toNat = 1 := by
        show upd (upd _ D.toNat 1) (D + 1).toNat 1 (D + 1).toNat = 1
        unfold upd
        rw [if_pos rfl]
      have HR12 := hid (And.intro hr1 hr2)
      clear hr1 hr2
      go_loopw [10] (fun z wr => ∃ (k : Nat) (F : Nat → Prop) (v : UV) (L : List E.TV), k ≤ lb ∧ z = .int .i64 k ∧ LW W wr F ob u v 8 f 16 L ∧ v.root D.toNat = 1 ∧ v.root (D + 1).toNat = 1 ∧ v.there = false ∧ Tr 8 f v L ∧ (∀ e ∈ L, e.v = D ∨ e.v = D + 1)) (fun z _ => lb - (intOf z).toNat)
      case atStart => exact ⟨0, F, _, [], by omega, rfl, H3.out, HR12.out.1, HR12.out.2, rfl, Tr.nil _ _ _, fun e he => by cases he⟩
      case round =>
        clear H3 HR12
        obtain ⟨k, F, v, L, hk, rfl, hl, hh⟩ := hrel
        have HL := hid hl
        have HI := hid hh
        clear hl hh
        by_cases hlt : k < lb
        · obtain ⟨rfl, hab⟩ := HY.out.at0 (by omega)
          have HYK : Hid (∀ {w : World}, Sc w (some ⟨bb, bo, none⟩) lb cbp bb bo Y → w.cell? ⟨bb, bo + k * 8 + 3, none⟩ = some (.int .u64 (Y k).addr) ∧ w.cell? ⟨bb, bo + k * 8 + 5, none⟩ = some (.bool (Y k).write)) := fun h => ⟨(h.cells k hlt).2.2.2.1, (h.cells k hlt).2.2.2.2.2.1⟩
          obtain ⟨nk, nd, ss, ⟨a0, a1⟩, nda⟩ := HY.out.num k hlt
          generalize Y k = y at HYK nk nd ss a0 a1 nda
          obtain ⟨a, ha⟩ : ∃ a, y.addr % 32768 / 8 * 8 = a := ⟨_, rfl⟩
          have b0 : 0 ≤ a := by omega
          have b1 : a < 32768 := by omega
          have b8 : a % 8 = 0 := by omega
          obtain ⟨x3, x5⟩ := HYK.out (HY.out.below HL.out.new)
          have ca := HL.out.c
          go_wp2_with fail
          refine wp_region_mid_dn 9 (by kernel_rfl) (by kernel_rfl) (by kernel_rfl) (by decide) (by kernel_rfl) ?_
          simp only [List.take, List.drop]
          repeat (go_big_quiet_step (fail))
          refine wpQuiet_nil ?_
          intro _ hwq
          obtain ⟨nq, hwq⟩ := hwq
          subst hwq
          refine wpOp_step rfl (fun K hK => ?_)
          go_simp
          refine (s_AccessT _ F u v f L (HL.out.below (below_dn (Below.refl _ _) nq)).us D a y.write hD b0 b1 b8 HI.out.1 HF.out HI.out.2.2.1 HI.out.2.2.2.1).mono ?_
          rintro e w6 ⟨rfl, F6, L6, hs, ht, htr, hdv⟩
          refine hK _ _ ?_
          clear hK K
          have H6 := hid ((HL.out.below (below_dn (Below.refl _ _) nq)).step hs ht)
          have HTR := hid htr
          have HDV := hid hdv
          clear hs ht htr hdv
          repeat (go_big_quiet_step (fail))
          refine wpQuiet_nil ?_
          intro _ hwq
          obtain ⟨nr, hwq⟩ := hwq
          subst hwq
          go_wp2_with fail
          go_roundw
          case rel =>
            refine ⟨k + 1, F6, _, L6, by omega, by go_num, H6.out.below (below_dn (Below.refl _ _) nr), by rw [bkV_root]; exact HI.out.1, by rw [bkV_root]; exact HI.out.2.1, bkV_off HI.out.2.2.1, fun e he => by rw [bkV_root]; exact HTR.out e he, fun e he => (HDV.out e he).elim (HI.out.2.2.2.2 e) .inl⟩
          case measure => simp [intOf]; omega
        · obtain rfl : lb = k := by omega
          obtain ⟨wv, hwv⟩ : ∃ wv, wr = wv := ⟨_, rfl⟩
          rw [hwv] at HL
          rw [hwv]
          clear hwv wr
          have ca := HL.out.c
          go_wp2_with (first
            | (go_at_call 32; refine (s_Drop _ F u v 8 f 16 L HL.out.us D hD).mono ?_; rintro e w5 ⟨rfl, hs5, ht5⟩; have H5 := hid (HL.out.step hs5 ht5); have c5 := H5.out.c; clear hs5 ht5)
            | (go_at_call 30; refine (s_Invalidate _ F u _ 8 f 16 L H5.out.us D).mono ?_; rintro e w6 ⟨rfl, hs6, ht6⟩; have H6 := hid (H5.out.step hs6 ht6); clear hs6 ht6))
          have q1 : (v.setRoot D.toNat 0).root D.toNat = 0 := by show upd _ D.toNat 0 D.toNat = 0; unfold upd; rw [if_pos rfl]
          have q2 : (v.setRoot D.toNat 0).root (D + 1).toNat = 1 := by show upd _ D.toNat 0 (D + 1).toNat = 1; unfold upd; rw [if_neg (by omega)]; exact HI.out.2.1
          have q3 : Tr 8 f (v.setRoot D.toNat 0) (E.fl L D) := fun e he => by
            have hm := fl_sub e he
            have hne : e.v ≠ D := by have := (List.mem_filter.1 he).2; simpa using this
            have h1 := (HI.out.2.2.2.2 e hm).resolve_left hne
            have h2 := HI.out.2.2.2.1 e hm
            have e1 : (v.setRoot D.toNat 0).root e.v.toNat = v.root e.v.toNat := by show upd _ D.toNat 0 e.v.toNat = _; unfold upd; rw [if_neg (by omega)]
            rw [e1]
            exact h2
          have HQ := hid (And.intro q1 (And.intro q2 (And.intro (show (v.setRoot D.toNat 0).there = false from HI.out.2.2.1) q3)))
          clear q1 q2 q3 ca c5 HL H5 HI
          generalize v.setRoot D.toNat 0 = v5 at H6 HQ
          go_loopw [14] (fun z wr => ∃ (k : Nat) (F : Nat → Prop) (v : UV) (L : List E.TV), k ≤ lb ∧ z = .int .i64 k ∧ LW W wr F ob u v 8 f 16 L ∧ v.root D.toNat = 0 ∧ v.root (D + 1).toNat = 1 ∧ v.there = false ∧ Tr 8 f v L) (fun z _ => lb - (intOf z).toNat)
          case atStart => exact ⟨0, F, v5, _, by omega, rfl, H6.out, HQ.out⟩
          case round =>
            clear H6 HQ
            obtain ⟨k, F, v, L, hk, rfl, hl, hh⟩ := hrel
            have HL := hid hl
            have HI := hid hh
            clear hl hh
            by_cases hlt : k < lb
            · obtain ⟨rfl, hab⟩ := HY.out.at0 (by omega)
              have HYK : Hid (∀ {w : World}, Sc w (some ⟨bb, bo, none⟩) lb cbp bb bo Y → w.cell? ⟨bb, bo + k * 8 + 3, none⟩ = some (.int .u64 (Y k).addr) ∧ w.cell? ⟨bb, bo + k * 8 + 5, none⟩ = some (.bool (Y k).write)) := fun h => ⟨(h.cells k hlt).2.2.2.1, (h.cells k hlt).2.2.2.2.2.1⟩
              obtain ⟨nk, nd, ss, ⟨a0, a1⟩, nda⟩ := HY.out.num k hlt
              generalize Y k = y at HYK nk nd ss a0 a1 nda
              obtain ⟨a, ha⟩ : ∃ a, y.addr % 32768 / 8 * 8 = a := ⟨_, rfl⟩
              have b0 : 0 ≤ a := by omega
              have b1 : a < 32768 := by omega
              have b8 : a % 8 = 0 := by omega
              obtain ⟨x3, x5⟩ := HYK.out (HY.out.below HL.out.new)
              have ca := HL.out.c
              go_wp2_with fail
              refine wp_region_mid_dn 9 (by kernel_rfl) (by kernel_rfl) (by kernel_rfl) (by decide) (by kernel_rfl) ?_
              simp only [List.take, List.drop]
              repeat (go_big_quiet_step (fail))
              refine wpQuiet_nil ?_
              intro _ hwq
              obtain ⟨nq, hwq⟩ := hwq
              subst hwq
              refine wpOp_step rfl (fun K hK => ?_)
              go_simp
              refine (s_AccessD _ F u v f L (HL.out.below (below_dn (Below.refl _ _) nq)).us D a y.write hD b0 b1 b8 HI.out.1 HI.out.2.2.1).mono ?_
              rintro e w6 ⟨rfl, F6, hs, ht⟩
              refine hK _ _ ?_
              clear hK K
              have H6 := hid ((HL.out.below (below_dn (Below.refl _ _) nq)).step hs ht)
              clear hs ht ca x3 x5
              repeat (go_big_quiet_step (fail))
              refine wpQuiet_nil ?_
              intro _ hwq
              obtain ⟨nr, hwq⟩ := hwq
              subst hwq
              have H7 := hid (H6.out.below (below_dn (Below.refl _ _) nr))
              obtain ⟨w7, hw7⟩ : ∃ w7, w6.drewN nr = w7 := ⟨_, rfl⟩
              rw [hw7] at H7
              rw [hw7]
              clear hw7 H6 w6
              have cb := H7.out.c
              obtain ⟨x3, x5⟩ := HYK.out (HY.out.below H7.out.new)
              have hr7 : (rcV v).root (D + 1).toNat = 1 := by rw [rcV_root]; exact HI.out.2.1
              have ht7 : Tr 8 f (rcV v) L := fun e he => by rw [rcV_root]; exact HI.out.2.2.2 e he
              have HX7 := hid (And.intro hr7 ht7)
              clear hr7 ht7
              go_wp2_with fail
              refine wp_region_mid_dn 10 (by kernel_rfl) (by kernel_rfl) (by kernel_rfl) (by decide) (by kernel_rfl) ?_
              simp only [List.take, List.drop]
              repeat (go_big_quiet_step (fail))
              refine wpQuiet_nil ?_
              intro _ hwq
              obtain ⟨nq, hwq⟩ := hwq
              subst hwq
              refine wpOp_step rfl (fun K hK => ?_)
              go_simp
              refine (s_AccessT _ F6 u (rcV v) f L (H7.out.below (below_dn (Below.refl _ _) nq)).us (D + 1) a y.write hD2 b0 b1 b8 HX7.out.1 HF.out (rcV_off HI.out.2.2.1) HX7.out.2).mono ?_
              rintro e w8 ⟨rfl, F8, L8, hs, ht, htr, hdv⟩
              refine hK _ _ ?_
              clear hK K hdv
              have H8 := hid ((H7.out.below (below_dn (Below.refl _ _) nq)).step hs ht)
              have HTR := hid htr
              clear hs ht htr
              repeat (go_big_quiet_step (fail))
              refine wpQuiet_nil ?_
              intro _ hwq
              obtain ⟨nr, hwq⟩ := hwq
              subst hwq
              go_wp2_with fail
              go_roundw
              case rel =>
                exact ⟨k + 1, F8, _, L8, by omega, by go_num, H8.out.below (below_dn (Below.refl _ _) nr), by rw [bkV_root, rcV_root]; exact HI.out.1, by rw [bkV_root]; exact HX7.out.1, bkV_off (rcV_off HI.out.2.2.1), fun e he => by rw [bkV_root]; exact HTR.out e he⟩
              case measure => simp [intOf]; omega
            · obtain rfl : lb = k := by omega
              have ca := HL.out.c
              have hzz := HI.out.1
              go_wp2_with (first
                | (go_at_call 33; refine (s_Root _ F u v 8 f 16 L HL.out.us D hD).mono ?_; rw [HI.out.1]; rintro e w7 ⟨rfl, hw7⟩; obtain rfl := hw7.symm)
                | (go_at_call 28; refine (l_awake _).mono ?_; rintro e w9 ⟨rfl, hb9⟩; have HB9 := hid hb9; clear hb9))
              go_ret
              exact ⟨rfl, HL.out.new.trans (HB9.out.mono HL.out.new.size)⟩
end Go.Proofs.Ytfoafgbhelgjcaa
