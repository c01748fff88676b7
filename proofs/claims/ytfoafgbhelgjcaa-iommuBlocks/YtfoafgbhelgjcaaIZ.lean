/- A device without a table reaches nothing. -/
import Derived.Test.YtfoafgbhelgjcaaIY
import Derived.Deep.DeepCutAuto
namespace Go.Proofs.Ytfoafgbhelgjcaa
open Go.RowKit
open C (Only hid Mem Still ret_int ret_bool put byt nu fcl c_Place Cl RMem Sl)
set_option linter.unusedVariables false
set_option maxRecDepth 100000

structure LB (W w : World) (F T : Nat → Prop) (ob u x m q : Nat) (v : UV) (f f0 : Nat → Int) : Prop where
  l : LW W w F ob u v 8 f 8 []
  o : w.heap[ob]? = some (.cells #[.pointer (some ⟨u, 0, none⟩), .pointer (some ⟨x, 0, none⟩), .pointer (some ⟨m, 0, none⟩), .pointer (some ⟨q, 0, none⟩)] 31 (0, 0))
  r : RMem w T q 0 8 f0
  d : ∀ k, F k → ¬ T k
  vm : v.m = m
section
variable {W w w' : World} {F F' T : Nat → Prop} {ob u x m q : Nat} {v v' : UV} {f f' f0 : Nat → Int}
theorem LB.step (h : LB W w F T ob u x m q v f f0) (hs : US w' F' u v' 8 f' 8 []) (ht : Tn w F w' F') (hm : v'.m = v.m) : LB W w' F' T ob u x m q v' f' f0 :=
  ⟨h.l.step hs ht, ht.1.old h.o h.l.nob, C.RMem.only h.r ht.1 (fun k hk z => h.d k z hk), fun k hk z => (ht.2 k hk).elim (fun y => h.d k y z) fun y => by have := h.r.lt z; omega, hm.trans h.vm⟩
theorem LB.below (h : LB W w F T ob u x m q v f f0) (hb : Below w.heap.size w w') : LB W w' F T ob u x m q v f f0 := h.step (h.l.us.below hb) (Tn.ofBelow hb) rfl
theorem LB.alloc (h : LB W w F T ob u x m q v f f0) (o : Obj) : LB W (w.alloc o) F T ob u x m q v f f0 := h.below ((Below.refl _ _).alloc (Nat.le_refl _) o)
theorem LB.c2 (h : LB W w F T ob u x m q v f f0) : w.cell? ⟨ob, 2, none⟩ = some (.pointer (some ⟨m, 0, none⟩)) := by rw [cell_of_row w _ 2 _ _ _ h.o]; rfl
theorem LB.c3 (h : LB W w F T ob u x m q v f f0) : w.cell? ⟨ob, 3, none⟩ = some (.pointer (some ⟨q, 0, none⟩)) := by rw [cell_of_row w _ 3 _ _ _ h.o]; rfl
end
theorem US.mem {w : World} {F : Nat → Prop} {u : Nat} {v : UV} {n : Nat} {f : Nat → Int} {room : Nat} {L : List E.TV} (h : US w F u v n f room L) : ∃ S, Mem w S v.m 0 n f := by obtain ⟨S, g, -, h2, -, -, -⟩ := h; exact ⟨S, h2⟩
/-- the kind that blocks a device without a table -/
def kd (a s : Int) : Int := if whole a s = true then 1 else 4
theorem kd_b (a s : Int) : 0 ≤ kd a s ∧ kd a s < 8 := by unfold kd; split <;> exact ⟨by decide, by decide⟩
theorem kd_or (a s : Int) : kd a s = 1 ∨ kd a s = 4 := by unfold kd; split <;> simp
theorem kd_ne (a s : Int) : kd a s ≠ 0 := by unfold kd; split <;> decide
def Gb (D : Int) (Y : Nat → OpV) (j : Nat) : Int × Int × Int := (D, kd (Y j).addr (Y j).size, (Y j).addr)
def Ag (f f0 : Nat → Int) : Prop := ∀ j, j < 28672 → f j = f0 j
theorem Ag.rcF {v : UV} {f f0 : Nat → Int} (h : Ag f f0) (ha : 28672 ≤ v.addr) (d k a : Int) : Ag (rcF v f d k a) f0 := by
  intro j hj
  unfold Go.Proofs.Ytfoafgbhelgjcaa.rcF
  cases rcB v
  · exact h j hj
  · show rcf f (v.at v.count) d k a j = _
    have : 28672 ≤ v.at v.count := by unfold UV.at; omega
    unfold rcf
    rw [C.put_out _ _ _ _ _ (by omega), C.put_out _ _ _ _ _ (by omega), C.put_out _ _ _ _ _ (by omega)]
    exact h j hj
theorem rcV_addr (v : UV) : (rcV v).addr = v.addr := by unfold rcV; cases rcB v <;> rfl
theorem rcV_there (v : UV) : (rcV v).there = v.there := by unfold rcV; cases rcB v <;> rfl
theorem rcB_off {v : UV} (h : v.there = false) : rcB v = false := by unfold rcB; rw [h]; rfl
theorem s_AccessB (w : World) (F : Nat → Prop) (u : Nat) (v : UV) (f : Nat → Int) (h : US w F u v 8 f 8 []) (d a s : Int) (wt : Bool) (hd : isDev d = true) (a0 : 0 ≤ a) (a1 : a < 18446744073709551616) (s0 : -9223372036854775808 ≤ s) (s1 : s ≤ 9223372036854775807) (h2 : v.root d.toNat = 0) :
    Calls Try.prog 22 #[.pointer (some ⟨u, 0, none⟩), .int .i64 d, .int .u64 a, .int .i64 s, .bool wt] w fun e w' => e = .returned (.tuple #[.int .u64 0, .bool false]) ∧ ∃ F', US w' F' u (rcV v) 8 (rcF v f d (kd a s) a) 8 [] ∧ Tn w F w' F' := by
  have hk : acF 8 f v 8 [] d a s wt = (kd a s, 0, []) := by
    unfold acF kd
    cases whole a s
    · rfl
    · simp [h2]
  refine (s_Access w F u v 8 f 8 [] h d a s wt hd a0 a1 s0 s1 _ _ _ hk).mono ?_
  rintro e w' ⟨rfl, F', h1, h2⟩
  refine ⟨by simp [kd_ne], F', ?_, h2⟩
  unfold bkV bkF at h1
  rwa [if_neg (kd_ne a s), if_neg (kd_ne a s)] at h1
theorem stV_other {v : UV} {d r D : Int} (h : ¬ d = D) (hD : 0 ≤ D) : (stV v d r).root D.toNat = v.root D.toNat := by
  unfold stV
  split
  · rename_i q
    have := dev_cases q.1
    show upd v.root d.toNat r D.toNat = _
    unfold upd
    rw [if_neg (by omega)]
  · rfl
theorem stV_m (v : UV) (d r : Int) : (stV v d r).m = v.m := by unfold stV; split <;> rfl
theorem stV_count (v : UV) (d r : Int) : (stV v d r).count = v.count := by unfold stV; split <;> rfl
theorem stV_lost (v : UV) (d r : Int) : (stV v d r).lost = v.lost := by unfold stV; split <;> rfl
set_option maxHeartbeats 4000000 in
theorem w_IommuBlocks (W : World) (ad : Option Addr) (la cap ab ao : Nat) (X : Nat → Int × Int) (hX : Cl W ad la cap ab ao X) (bd : Option Addr) (lb cbp bb bo : Nat) (Y : Nat → OpV) (hY : Sc W bd lb cbp bb bo Y) (x : Int) (x0 : -9223372036854775808 ≤ x) (x1 : x ≤ 9223372036854775807) (rg : Bool) :
    Calls Try.prog 3 #[.slice ad la cap, .slice bd lb cbp, .int .i64 x, .bool rg] W fun e w' => e = .returned (.bool true) ∧ Below W.heap.size W w' := by
  obtain ⟨D, hDx⟩ : ∃ D, x % 8 = D := ⟨_, rfl⟩
  have D0 : 0 ≤ D := by omega
  have D1 : D < 8 := by omega
  have hD : isDev D = true := by simp [isDev]; omega
  have HDX := hid hDx
  have HX := hid hX
  have HY := hid hY
  have lb1 : lb ≤ 9223372036854775807 := Nat.le_trans hY.len hY.cap
  clear hX hY hDx
  go_enter Try.func3, Try.ntmps3
  go_wp2_with (first
    | (go_at_call 18; refine (l_New _ 8 (by decide) (by decide) ad la cap ab ao X HX.out).mono ?_; rintro e w1 ⟨u, t, m, xx, q, F, T, rfl, hs, hr, hd, hb, hf⟩; have H1 : Hid (LB W (w1.alloc (.cells #[.pointer (some ⟨u, 0, none⟩), .pointer (some ⟨xx, 0, none⟩), .pointer (some ⟨m, 0, none⟩), .pointer (some ⟨q, 0, none⟩)] 31)) F T w1.heap.size u xx m q (v0 t m) (fcl 8 X la) (fcl 8 X la)) := ⟨LW.start (T := T) (t := t) (m := m) (x := xx) (q := q) (Below.refl W.heap.size W) hs hb hf (.pointer (some ⟨xx, 0, none⟩)) (.pointer (some ⟨m, 0, none⟩)) (.pointer (some ⟨q, 0, none⟩)), heap_alloc_new w1 _, hr.below ((Below.refl _ _).alloc (Nat.le_refl _) _), hd, rfl⟩; clear hs hr hd hb hf)
    | (go_at_call 19; refine (c_Place x 8 (by decide) (by decide) x0 x1 _).mono ?_; rw [HDX.out]; rintro e w3 ⟨rfl, hw3⟩; obtain rfl := hw3.symm))
  obtain ⟨w2, hw2⟩ : ∃ w2, w1.alloc (.cells #[.pointer (some ⟨u, 0, none⟩), .pointer (some ⟨xx, 0, none⟩), .pointer (some ⟨m, 0, none⟩), .pointer (some ⟨q, 0, none⟩)] 31) = w2 := ⟨_, rfl⟩
  obtain ⟨ob, hob⟩ : ∃ ob, w1.heap.size = ob := ⟨_, rfl⟩
  rw [hw2, hob] at H1
  rw [hw2, hob]
  clear hw2 hob
  generalize fcl 8 X la = f0 at H1
  go_loopw [12] (fun z wr => ∃ (k : Nat) (F : Nat → Prop) (v : UV), k ≤ lb ∧ z = .int .i64 k ∧ LB W wr F T ob u xx m q v f0 f0 ∧ v.root D.toNat = 0 ∧ v.there = false ∧ v.count = 0 ∧ v.lost = false) (fun z _ => lb - (intOf z).toNat)
  case atStart => exact ⟨0, F, _, by omega, rfl, H1.out, rfl, rfl, rfl, rfl⟩
  case round =>
    clear H1
    obtain ⟨k, F, v, hk, rfl, hl, hro, q1, q2, q3⟩ := hrel
    have HL := hid hl
    have HRO := hid hro
    have HQ := hid (And.intro q1 (And.intro q2 q3))
    clear hl hro q1 q2 q3
    by_cases hlt : k < lb
    · obtain ⟨rfl, hab⟩ := HY.out.at0 (by omega)
      obtain ⟨y0, y1, y2, y3, y4, y5, y6, y7⟩ := (HY.out.below HL.out.l.new).cells k hlt
      obtain ⟨nk, nd, ⟨s0, s1⟩, ⟨a0, a1⟩, nda⟩ := HY.out.num k hlt
      generalize Y k = y at y0 y1 y2 y3 y4 y5 y6 y7 nk nd s0 s1 a0 a1 nda
      have ca := HL.out.l.c
      by_cases e1 : y.dev = D
      · have e1' : (y.dev != D) = false := by simpa using e1
        go_wp2_with fail
        go_roundw
        case rel => exact ⟨k + 1, F, v, by omega, by go_num, HL.out, HRO.out, HQ.out.1, HQ.out.2.1, HQ.out.2.2⟩
        case measure => simp [intOf]; omega
      · have e1' : (y.dev != D) = true := by simpa using e1
        by_cases e2 : y.kind = 10
        · have e2' : (y.kind != 10) = false := by simpa using e2
          go_wp2_with fail
          go_roundw
          case rel => exact ⟨k + 1, F, v, by omega, by go_num, HL.out, HRO.out, HQ.out.1, HQ.out.2.1, HQ.out.2.2⟩
          case measure => simp [intOf]; omega
        · have e2' : (y.kind != 10) = true := by simpa using e2
          go_wp2_with fail
          refine wp_region_last_lit (by simp) (by kernel_rfl) (by kernel_rfl) (by kernel_rfl) ?_
          simp only [List.dropLast, List.getLast]
          repeat (go_big_quiet_step (fail))
          refine wpQuiet_nil ?_
          intro _ hwq
          obtain ⟨nq, hwq⟩ := hwq
          subst hwq
          go_wp2_with ((go_at_call 20; refine (s_SetV _ F u v 8 f0 8 [] (HL.out.below (below_dn (Below.refl _ _) nq)).l.us y.dev y.addr a0 a1).mono ?_; rintro e w5 ⟨c5, rfl, hs5, ht5⟩; have H5 := hid ((HL.out.below (below_dn (Below.refl _ _) nq)).step hs5 ht5 (stV_m _ _ _)); clear hs5 ht5))
          go_roundw
          case rel => exact ⟨k + 1, F, _, by omega, by go_num, H5.out, by rw [stV_other e1 D0]; exact HRO.out, by rw [stV_there]; exact HQ.out.1, by rw [stV_count]; exact HQ.out.2.1, by rw [stV_lost]; exact HQ.out.2.2⟩
          case measure => simp [intOf]; omega
    · obtain rfl : lb = k := by omega
      obtain ⟨wv, hwv⟩ : ∃ wv, wr = wv := ⟨_, rfl⟩
      rw [hwv] at HL
      rw [hwv]
      clear hwv wr
      have ca := HL.out.l.c
      cases rg
      · have H9 := HL
        clear HL
        go_wp2_with fail
        go_loopw [13, 14] (fun z1 z2 wr => ∃ (k : Nat) (F : Nat → Prop) (v : UV) (f : Nat → Int), k ≤ lb ∧ z1 = .int .i64 ((min k 255 : Nat) : Int) ∧ z2 = .int .i64 k ∧ LB W wr F T ob u xx m q v f f0 ∧ v.root D.toNat = 0 ∧ v.there = false ∧ v.count = 0 ∧ v.lost = decide (0 < k) ∧ f = f0) (fun _ z2 _ => lb - (intOf z2).toNat)
        case atStart => exact ⟨0, F, _, _, by omega, rfl, rfl, H9.out, HRO.out, HQ.out.1, HQ.out.2.1, HQ.out.2.2, rfl⟩
        case round =>
          clear H9 HRO HQ
          obtain ⟨k, F, v, f, hk, rfl, rfl, hl, hro, hq⟩ := hrel
          have HL := hid hl
          have HRO := hid hro
          have HQ := hid hq
          clear hl hro hq
          by_cases hlt : k < lb
          · obtain ⟨rfl, hab⟩ := HY.out.at0 (by omega)
            obtain ⟨x0, x1, x2, x3, x4, x5, x6, x7⟩ := (HY.out.below HL.out.l.new).cells k hlt
            obtain ⟨nk, nd, ⟨s0, s1⟩, ⟨a0, a1⟩, nda⟩ := HY.out.num k hlt
            obtain ⟨y, hyk⟩ : ∃ y, Y k = y := ⟨_, rfl⟩
            rw [hyk] at x0 x1 x2 x3 x4 x5 x6 x7 nk nd s0 s1 a0 a1 nda
            have HYK := hid hyk
            clear hyk
            have ca := (HL.out.alloc (.cells #[.int .i64 y.kind, .int .i64 y.dev, .int .i64 y.size, .int .u64 y.addr, .int .u64 y.data, .bool y.write, .int .i64 y.guest, .int .i64 y.irq] 39)).l.c
            have HA := hid (HL.out.alloc (.cells #[.int .i64 y.kind, .int .i64 y.dev, .int .i64 y.size, .int .u64 y.addr, .int .u64 y.data, .bool y.write, .int .i64 y.guest, .int .i64 y.irq] 39))
            by_cases h255 : k < 255
            · have m1 : min k 255 = k := by omega
              rw [m1]
              go_wp2_with ((go_at_call 22; refine (s_AccessB _ F u v f HA.out.l.us D y.addr y.size y.write hD a0 a1 s0 s1 HRO.out).mono ?_; rintro e w5 ⟨rfl, F5, hs5, ht5⟩; have H5 := hid (HA.out.step hs5 ht5 (rcV_m v)); clear hs5 ht5))
              go_roundw
              case rel =>
                refine ⟨k + 1, F5, _, _, by omega, by rw [show min (k + 1) 255 = k + 1 by omega]; go_num, by go_num, H5.out, by rw [rcV_root]; exact HRO.out, ?_⟩
                refine ⟨by rw [rcV_there]; exact HQ.out.1, ?_, ?_, ?_⟩
                · unfold rcV; rw [rcB_off HQ.out.1]; exact HQ.out.2.1
                · unfold rcV; rw [rcB_off HQ.out.1]; show true = _; simp
                · unfold rcF; rw [rcB_off HQ.out.1]; exact HQ.out.2.2.2
              case measure => simp [intOf]; omega
            · have m1 : min k 255 = 255 := by omega
              rw [m1]
              go_wp2_with ((go_at_call 22; refine (s_AccessB _ F u v f HA.out.l.us D y.addr y.size y.write hD a0 a1 s0 s1 HRO.out).mono ?_; rintro e w5 ⟨rfl, F5, hs5, ht5⟩; have H5 := hid (HA.out.step hs5 ht5 (rcV_m v)); clear hs5 ht5))
              go_roundw
              case rel =>
                refine ⟨k + 1, F5, _, _, by omega, by rw [show min (k + 1) 255 = 255 by omega]; rfl, by go_num, H5.out, by rw [rcV_root]; exact HRO.out, ?_⟩
                refine ⟨by rw [rcV_there]; exact HQ.out.1, ?_, ?_, ?_⟩
                · unfold rcV; rw [rcB_off HQ.out.1]; exact HQ.out.2.1
                · unfold rcV; rw [rcB_off HQ.out.1]; show true = _; simp
                · unfold rcF; rw [rcB_off HQ.out.1]; exact HQ.out.2.2.2
              case measure => simp [intOf]; omega
          · obtain rfl : lb = k := by omega
            obtain ⟨wo, hwo⟩ : ∃ wo, wr = wo := ⟨_, rfl⟩
            rw [hwo] at HL
            rw [hwo]
            clear hwo wr
            have HAG : Hid (Ag f f0) := fun j _ => by rw [HQ.out.2.2.2]
            go_wp2_with fail
            go_loopw [18] (fun z wr => ∃ j : Nat, j ≤ 7 ∧ z = .int .i64 j ∧ Below wo.heap.size wo wr) (fun z _ => 7 - (intOf z).toNat)
            case atStart => exact ⟨0, by omega, rfl, Below.refl _ _⟩
            case round =>
              obtain ⟨j, hj, rfl, hb⟩ := hrel
              have HB := hid hb
              have HLr := hid (HL.out.below hb)
              clear hb
              have c0 := HLr.out.l.c
              have c2 := HLr.out.c2
              have c3 := HLr.out.c3
              by_cases hj7 : j < 7
              · obtain ⟨SS, hmm⟩ := HLr.out.l.us.mem
                rw [HLr.out.vm] at hmm
                have HMM := hid hmm
                clear hmm
                go_wp2_with (first
                  | (go_at_call 23; refine (C.c_Bytes wr SS m 0 8 f HMM.out (4096 * j) 4096 (by omega) _ (by omega)).mono ?_; rintro e w5 ⟨b5, rfl, hh5, hl5, hb5⟩; have HB5 := hid (HB.out.trans (hb5.mono HB.out.size)); have HS5 := hid (sl_row hh5); have HL5 := hid (HLr.out.below hb5); have c5 := HL5.out.c3; clear hh5 hl5 hb5)
                  | (go_at_call 25; refine (q_Page w5 T q 8 f0 HL5.out.r j (by omega)).mono ?_; rintro e w6 ⟨v6, rfl, hs6, hb6⟩; have HB6 := hid (HB5.out.trans (hb6.mono HB5.out.size)); have HS6 := hid hs6; have HS5' := hid (sl_below HS5.out hb6); clear hs6 hb6)
                  | (go_at_call 24; refine (C.c_SameBytes w6 4096 (by decide) _ _ _ _ HS5'.out HS6.out (fun i hi => HAG.out _ (by omega))).mono ?_; rintro e w7 ⟨rfl, hs7⟩; have HB7 := hid (HB6.out.trans (hs7.below _)); clear hs7))
                go_roundw
                case rel => exact ⟨j + 1, by omega, by go_num, HB7.out⟩
                case measure => simp [intOf]; omega
              · obtain rfl : j = 7 := by omega
                obtain ⟨wp, hwp⟩ : ∃ wp, wr = wp := ⟨_, rfl⟩
                rw [hwp] at HLr c0 c2 c3
                rw [hwp]
                clear hwp HB HL
                have hlen : decide (0 < lb) = decide ((0 : Int) < (lb : Int)) := by simp
                go_wp2_with (first
                  | (go_at_call 26; refine (s_Next_no _ F u v 8 f 8 [] HLr.out.l.us HQ.out.2.1).mono ?_; rintro e w7 ⟨rfl, hb7⟩; have H7 := hid ((HLr.out.below hb7).alloc (.cells #[.int .i64 0, .int .i64 0, .int .u64 0] 51)); have c7 := H7.out.l.c; clear hb7)
                  | (go_at_call 27; refine (m_Overflow _ u v H7.out.l.us.iu).mono ?_; rw [HQ.out.2.2.1, hlen]; rintro e w8 ⟨rfl, hw8⟩; obtain rfl := hw8.symm)
                  | (go_at_call 28; refine (l_awake _).mono ?_; rintro e w9 ⟨rfl, hb9⟩; have HB9 := hid hb9; clear hb9))
                go_ret
                exact ⟨rfl, H7.out.l.new.trans (HB9.out.mono H7.out.l.new.size)⟩
      · go_wp2_with ((go_at_call 21; refine (s_Ring _ F u v 8 f0 8 [] HL.out.l.us 28672 rfl (by decide) _ rfl).mono ?_; rintro e w8 ⟨rfl, hs8, ht8⟩; have H9 := hid (HL.out.step hs8 ht8 rfl); clear hs8 ht8))
        clear HL
        go_loopw [13, 14] (fun z1 z2 wr => ∃ (k : Nat) (F : Nat → Prop) (v : UV) (f : Nat → Int), k ≤ lb ∧ z1 = .int .i64 ((min k 255 : Nat) : Int) ∧ z2 = .int .i64 k ∧ LB W wr F T ob u xx m q v f f0 ∧ v.root D.toNat = 0 ∧ Rg v f (Gb D Y) 0 (min k 255) (decide (255 < k)) ∧ v.addr = 28672 ∧ Ag f f0) (fun _ z2 _ => lb - (intOf z2).toNat)
        case atStart => exact ⟨0, F, _, _, by omega, rfl, rfl, H9.out, HRO.out, ⟨rfl, rfl, HQ.out.2.2, fun i hi => absurd hi (Nat.not_lt_zero i)⟩, rfl, fun _ _ => rfl⟩
        case round =>
          clear H9 HRO HQ
          obtain ⟨k, F, v, f, hk, rfl, rfl, hl, hro, hq⟩ := hrel
          have HL := hid hl
          have HRO := hid hro
          have HQ := hid hq
          clear hl hro hq
          by_cases hlt : k < lb
          · obtain ⟨rfl, hab⟩ := HY.out.at0 (by omega)
            obtain ⟨x0, x1, x2, x3, x4, x5, x6, x7⟩ := (HY.out.below HL.out.l.new).cells k hlt
            obtain ⟨nk, nd, ⟨s0, s1⟩, ⟨a0, a1⟩, nda⟩ := HY.out.num k hlt
            obtain ⟨y, hyk⟩ : ∃ y, Y k = y := ⟨_, rfl⟩
            rw [hyk] at x0 x1 x2 x3 x4 x5 x6 x7 nk nd s0 s1 a0 a1 nda
            have HYK := hid hyk
            clear hyk
            have ca := (HL.out.alloc (.cells #[.int .i64 y.kind, .int .i64 y.dev, .int .i64 y.size, .int .u64 y.addr, .int .u64 y.data, .bool y.write, .int .i64 y.guest, .int .i64 y.irq] 39)).l.c
            have HA := hid (HL.out.alloc (.cells #[.int .i64 y.kind, .int .i64 y.dev, .int .i64 y.size, .int .u64 y.addr, .int .u64 y.data, .bool y.write, .int .i64 y.guest, .int .i64 y.irq] 39))
            by_cases h255 : k < 255
            · have m1 : min k 255 = k := by omega
              rw [m1]
              go_wp2_with ((go_at_call 22; refine (s_AccessB _ F u v f HA.out.l.us D y.addr y.size y.write hD a0 a1 s0 s1 HRO.out).mono ?_; rintro e w5 ⟨rfl, F5, hs5, ht5⟩; have H5 := hid (HA.out.step hs5 ht5 (rcV_m v)); have G5 := hid (HQ.out.1.recd HA.out.l.us.ok D (kd y.addr y.size) y.addr D0 D1 (kd_b _ _).1 (kd_b _ _).2 a0 a1 (fun q => by rw [show 0 + min k 255 = k by omega]; unfold Gb; rw [HYK.out])); clear hs5 ht5))
              go_roundw
              case rel =>
                refine ⟨k + 1, F5, _, _, by omega, by rw [show min (k + 1) 255 = k + 1 by omega]; go_num, by go_num, H5.out, by rw [rcV_root]; exact HRO.out, ?_⟩
                refine ⟨?_, by rw [rcV_addr]; exact HQ.out.2.1, HQ.out.2.2.rcF (by rw [HQ.out.2.1]; exact Nat.le_refl _) _ _ _⟩
                have := G5.out
                rwa [show (if min k 255 < 255 then min k 255 + 1 else min k 255) = min (k + 1) 255 by split <;> omega, show (if min k 255 < 255 then decide (255 < k) else true) = decide (255 < k + 1) by split <;> simp <;> omega] at this
              case measure => simp [intOf]; omega
            · have m1 : min k 255 = 255 := by omega
              rw [m1]
              go_wp2_with ((go_at_call 22; refine (s_AccessB _ F u v f HA.out.l.us D y.addr y.size y.write hD a0 a1 s0 s1 HRO.out).mono ?_; rintro e w5 ⟨rfl, F5, hs5, ht5⟩; have H5 := hid (HA.out.step hs5 ht5 (rcV_m v)); have G5 := hid (HQ.out.1.recd HA.out.l.us.ok D (kd y.addr y.size) y.addr D0 D1 (kd_b _ _).1 (kd_b _ _).2 a0 a1 (fun q => by rw [show 0 + min k 255 = k by omega]; unfold Gb; rw [HYK.out])); clear hs5 ht5))
              go_roundw
              case rel =>
                refine ⟨k + 1, F5, _, _, by omega, by rw [show min (k + 1) 255 = 255 by omega]; rfl, by go_num, H5.out, by rw [rcV_root]; exact HRO.out, ?_⟩
                refine ⟨?_, by rw [rcV_addr]; exact HQ.out.2.1, HQ.out.2.2.rcF (by rw [HQ.out.2.1]; exact Nat.le_refl _) _ _ _⟩
                have := G5.out
                rwa [show (if min k 255 < 255 then min k 255 + 1 else min k 255) = min (k + 1) 255 by split <;> omega, show (if min k 255 < 255 then decide (255 < k) else true) = decide (255 < k + 1) by split <;> simp <;> omega] at this
              case measure => simp [intOf]; omega
          · obtain rfl : lb = k := by omega
            obtain ⟨wo, hwo⟩ : ∃ wo, wr = wo := ⟨_, rfl⟩
            rw [hwo] at HL
            rw [hwo]
            clear hwo wr
            have HAG : Hid (Ag f f0) := HQ.out.2.2
            go_wp2_with fail
            go_loopw [18] (fun z wr => ∃ j : Nat, j ≤ 7 ∧ z = .int .i64 j ∧ Below wo.heap.size wo wr) (fun z _ => 7 - (intOf z).toNat)
            case atStart => exact ⟨0, by omega, rfl, Below.refl _ _⟩
            case round =>
              obtain ⟨j, hj, rfl, hb⟩ := hrel
              have HB := hid hb
              have HLr := hid (HL.out.below hb)
              clear hb
              have c0 := HLr.out.l.c
              have c2 := HLr.out.c2
              have c3 := HLr.out.c3
              by_cases hj7 : j < 7
              · obtain ⟨SS, hmm⟩ := HLr.out.l.us.mem
                rw [HLr.out.vm] at hmm
                have HMM := hid hmm
                clear hmm
                go_wp2_with (first
                  | (go_at_call 23; refine (C.c_Bytes wr SS m 0 8 f HMM.out (4096 * j) 4096 (by omega) _ (by omega)).mono ?_; rintro e w5 ⟨b5, rfl, hh5, hl5, hb5⟩; have HB5 := hid (HB.out.trans (hb5.mono HB.out.size)); have HS5 := hid (sl_row hh5); have HL5 := hid (HLr.out.below hb5); have c5 := HL5.out.c3; clear hh5 hl5 hb5)
                  | (go_at_call 25; refine (q_Page w5 T q 8 f0 HL5.out.r j (by omega)).mono ?_; rintro e w6 ⟨v6, rfl, hs6, hb6⟩; have HB6 := hid (HB5.out.trans (hb6.mono HB5.out.size)); have HS6 := hid hs6; have HS5' := hid (sl_below HS5.out hb6); clear hs6 hb6)
                  | (go_at_call 24; refine (C.c_SameBytes w6 4096 (by decide) _ _ _ _ HS5'.out HS6.out (fun i hi => HAG.out _ (by omega))).mono ?_; rintro e w7 ⟨rfl, hs7⟩; have HB7 := hid (HB6.out.trans (hs7.below _)); clear hs7))
                go_roundw
                case rel => exact ⟨j + 1, by omega, by go_num, HB7.out⟩
                case measure => simp [intOf]; omega
              · obtain rfl : j = 7 := by omega
                obtain ⟨wp, hwp⟩ : ∃ wp, wr = wp := ⟨_, rfl⟩
                rw [hwp] at HLr c0 c2 c3
                rw [hwp]
                clear hwp HB HL
                have hlen : decide (255 < lb) = decide ((256 : Int) ≤ (lb : Int)) := by
                  by_cases h : 255 < lb
                  · have : (256 : Int) ≤ (lb : Int) := by omega
                    simp [h, this]
                  · have : ¬ (256 : Int) ≤ (lb : Int) := by omega
                    simp [h, this]
                have HG := hid HQ.out.1
                rw [hlen] at HG
                have k0 : min lb 255 ≤ lb := Nat.min_le_left _ _
                generalize min lb 255 = T0 at HG k0 ⊢
                clear HQ hlen HAG HRO c2 c3
                go_wp2_with fail
                go_loopw [23] (fun z wr => ∃ (j : Nat) (F : Nat → Prop) (v : UV), j ≤ T0 ∧ z = .int .i64 j ∧ LB W wr F T ob u xx m q v f f0 ∧ Rg v f (Gb D Y) j (T0 - j) (decide ((256 : Int) ≤ (lb : Int)))) (fun z _ => T0 - (intOf z).toNat)
                case atStart => exact ⟨0, F, v, by omega, rfl, HLr.out, HG.out⟩
                case round =>
                  clear HLr HG c0
                  obtain ⟨j, F, v, hj, rfl, hl, hg⟩ := hrel
                  have HL := hid hl
                  have HG := hid hg
                  have c0 := hl.l.c
                  clear hl hg
                  by_cases hlt4 : j < T0
                  · obtain ⟨rfl, hab⟩ := HY.out.at0 (by omega)
                    obtain ⟨y, hyk⟩ : ∃ y, Y j = y := ⟨_, rfl⟩
                    have HGJ : Hid (Gb D Y j = (D, kd y.addr y.size, y.addr)) := by show Gb D Y j = _; unfold Gb; rw [hyk]
                    have HYK := hid hyk
                    clear hyk
                    rcases kd_or y.addr y.size with hkd | hkd
                    · rw [hkd] at HGJ
                      go_wp2_with ((go_at_call 26; refine (s_NextG wr F u v 8 f 8 [] HL.out.l.us (Gb D Y) j HG.out.rl (by rw [HG.out.count]; omega) D 1 y.addr HGJ.out).mono ?_; rintro e w14 ⟨rfl, hs, ht, -⟩; have H14 := hid (HL.out.step hs ht rfl); clear hs ht))
                      obtain ⟨w15, hw15⟩ : ∃ w15, w14.alloc (.cells #[.int .i64 D, .int .i64 1, .int .u64 y.addr] 51) = w15 := ⟨_, rfl⟩
                      have H15 := hid (H14.out.alloc (.cells #[.int .i64 D, .int .i64 1, .int .u64 y.addr] 51))
                      have K15 : Hid (Rk w15 w14.heap.size D 1 y.addr) := by rw [← hw15]; exact heap_alloc_new w14 _
                      rw [hw15] at H15
                      rw [hw15]
                      clear hw15
                      have r0 := K15.out.c0
                      have r1 := K15.out.c1
                      have r2 := K15.out.c2
                      have x3 : w15.cell? ⟨bb, bo + j * 8 + 3, none⟩ = some (.int .u64 y.addr) := by
                        have := (HY.out.below H15.out.l.new).cells j (by omega)
                        rw [HYK.out] at this
                        exact this.2.2.2.1
                      go_quiet (fail)
                      go_wp2_with fail
                      go_roundw
                      case rel =>
                        have hgn := HG.out.next (by omega)
                        rw [show T0 - j - 1 = T0 - (j + 1) by omega] at hgn
                        (repeat apply Exists.intro)
                        exact ⟨⟨j + 1, F, _, by omega, by go_num, H15.out.below (below_dn (Below.refl _ _) _), hgn⟩, rfl⟩
                      case measure => simp [intOf]; omega
                    · rw [hkd] at HGJ
                      go_wp2_with ((go_at_call 26; refine (s_NextG wr F u v 8 f 8 [] HL.out.l.us (Gb D Y) j HG.out.rl (by rw [HG.out.count]; omega) D 4 y.addr HGJ.out).mono ?_; rintro e w14 ⟨rfl, hs, ht, -⟩; have H14 := hid (HL.out.step hs ht rfl); clear hs ht))
                      obtain ⟨w15, hw15⟩ : ∃ w15, w14.alloc (.cells #[.int .i64 D, .int .i64 4, .int .u64 y.addr] 51) = w15 := ⟨_, rfl⟩
                      have H15 := hid (H14.out.alloc (.cells #[.int .i64 D, .int .i64 4, .int .u64 y.addr] 51))
                      have K15 : Hid (Rk w15 w14.heap.size D 4 y.addr) := by rw [← hw15]; exact heap_alloc_new w14 _
                      rw [hw15] at H15
                      rw [hw15]
                      clear hw15
                      have r0 := K15.out.c0
                      have r1 := K15.out.c1
                      have r2 := K15.out.c2
                      have x3 : w15.cell? ⟨bb, bo + j * 8 + 3, none⟩ = some (.int .u64 y.addr) := by
                        have := (HY.out.below H15.out.l.new).cells j (by omega)
                        rw [HYK.out] at this
                        exact this.2.2.2.1
                      go_quiet (fail)
                      go_wp2_with fail
                      go_roundw
                      case rel =>
                        have hgn := HG.out.next (by omega)
                        rw [show T0 - j - 1 = T0 - (j + 1) by omega] at hgn
                        (repeat apply Exists.intro)
                        exact ⟨⟨j + 1, F, _, by omega, by go_num, H15.out.below (below_dn (Below.refl _ _) _), hgn⟩, rfl⟩
                      case measure => simp [intOf]; omega
                  · obtain rfl : j = T0 := by omega
                    go_wp2_with (first
                      | (go_at_call 26; refine (s_Next_no _ F u v 8 f 8 [] HL.out.l.us (by rw [HG.out.count]; omega)).mono ?_; rintro e w7 ⟨rfl, hb7⟩; have H7 := hid ((HL.out.below hb7).alloc (.cells #[.int .i64 0, .int .i64 0, .int .u64 0] 51)); have c7 := H7.out.l.c; clear hb7)
                      | (go_at_call 27; refine (m_Overflow _ u v H7.out.l.us.iu).mono ?_; rw [HG.out.lost]; rintro e w8 ⟨rfl, hw8⟩; obtain rfl := hw8.symm)
                      | (go_at_call 28; refine (l_awake _).mono ?_; rintro e w9 ⟨rfl, hb9⟩; have HB9 := hid hb9; clear hb9))
                    go_ret
                    exact ⟨rfl, H7.out.l.new.trans (HB9.out.mono H7.out.l.new.size)⟩
end Go.Proofs.Ytfoafgbhelgjcaa
