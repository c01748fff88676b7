/- FrameReserved: what is reserved is the monitor's for ever. -/
import Derived.Test.YtehghhonhfmieaaMH2
import Derived.Deep.DeepCutAuto
import Derived.Deep.CutBlock
namespace Go.Proofs.Ytehghhonhfmieaa
open Go.RowKit
open C (Only hid Mem RMem Still ret_bool ret_int put byt nu TB Tw Cl fcl c_Place)
set_option linter.unusedVariables false
set_option maxRecDepth 100000

/-- an element of a script, read into a block of its own -/
theorem el_new {wr : World} {k n x : Int} {W : World} {b : Nat} {F : Nat → Prop} {p q : Nat} {v : PV} {f : Nat → Int} (h : LB W wr b F p q v f) : LB W (wr.alloc (.cells #[.int .i64 k, .int .i64 n, .int .u64 x] 40)) b F p q v f ∧ (∀ j, F j → j < wr.heap.size) ∧ (wr.alloc (.cells #[.int .i64 k, .int .i64 n, .int .u64 x] 40)).heap[wr.heap.size]? = some (.cells #[.int .i64 k, .int .i64 n, .int .u64 x] 40 (0, 0)) :=
  ⟨h.below ((Below.refl _ _).alloc (Nat.le_refl _) _), fun j hj => h.pl.lt hj, heap_alloc_new wr _⟩
set_option maxHeartbeats 4000000 in
theorem w_FrameReserved (W : World) (n : Int) (n0 : -9223372036854775808 ≤ n) (n1 : n ≤ 9223372036854775807) (rs : Int) (r0 : -9223372036854775808 ≤ rs) (r1 : rs ≤ 9223372036854775807) (ad : Option Addr) (la cap ab ao : Nat) (X : Nat → FOpV) (hX : Fc W ad la cap ab ao X) :
    Calls Try.prog 7 #[.int .i64 n, .int .i64 rs, .slice ad la cap] W fun e w' => e = .returned (.bool true) ∧ Below W.heap.size W w' := by
  obtain ⟨z, hz, hz8⟩ : ∃ z : Nat, n % 8 = (z : Int) ∧ z < 8 := ⟨(n % 8).toNat, by omega, by omega⟩
  obtain ⟨R, hR, hRz⟩ : ∃ R : Nat, rs % (1 + (z : Int) + 1) = (R : Int) ∧ R ≤ z + 1 := ⟨(rs % (1 + (z : Int) + 1)).toNat, by have := Int.emod_nonneg rs (show 1 + (z : Int) + 1 ≠ 0 by omega); omega, by have := Int.emod_lt_of_pos rs (show 0 < 1 + (z : Int) + 1 by omega); omega⟩
  have HZ := hid hz
  have HR := hid hR
  have HX := hid hX
  have hlc := hX.len
  have hcm := hX.cap
  clear hz hR hX
  have T0 : Hid True := hid trivial
  go_enter Try.func7, Try.ntmps7
  go_wp2_with (first
    | (go_at_call 8; have t := T0; clear t T0; refine (c_Place n 8 (by decide) (by decide) n0 n1 _).mono ?_; rw [HZ.out]; rintro r wz ⟨rfl, hwz⟩; obtain rfl := hwz.symm)
    | (go_at_call 8; refine (c_Place rs (1 + (z : Int) + 1) (by omega) (by omega) r0 r1 _).mono ?_; rw [HR.out]; rintro r wz ⟨rfl, hwz⟩; obtain rfl := hwz.symm)
    | (go_at_call 9; refine (l_Mem W (1 + z) (by omega) (by omega) _ (by omega)).mono ?_; rintro r w1 ⟨m, q, U, rfl, ht, hb, hu⟩; have HT := hid ht; have HB := hid hb; have HU := hid hu; clear ht hb hu)
    | (go_at_call 10; refine (l_New W W w1 (1 + z) R 1 m q U _ (Below.refl _ _) HT.out HB.out HU.out (by decide) (by decide) (by omega) _ _ rfl rfl).mono ?_; rintro r w2 ⟨p, F, rfl, hl⟩; have HL := hid hl; clear hl))
  obtain ⟨b, hb⟩ : ∃ b, b = w1.heap.size := ⟨_, rfl⟩
  rw [← hb] at HL ⊢
  clear hb HT HB HU
  go_loopw [13] (fun i wr => ∃ (j : Nat) (F : Nat → Prop) (v : PV) (f : Nat → Int), j ≤ la ∧ i = .int .i64 j ∧ Hid (LB W wr b F p q v f ∧ v.n = 1 + z ∧ v.r = R)) (fun i _ => la - (intOf i).toNat)
  case atStart => exact ⟨0, F, _, _, by omega, rfl, HL.out, rfl, rfl⟩
  case round =>
    clear HL
    obtain ⟨j, F, v, f, hj, rfl, hp⟩ := hrel
    by_cases hlt : j < la
    · obtain ⟨rfl, hab⟩ := HX.out.at0 (by omega)
      have hcell := fun i hi => (HX.out.below hp.out.1.new).cell j hlt i hi
      have x0 := hcell 0 (by decide)
      have x1 := hcell 1 (by decide)
      have x2 := hcell 2 (by decide)
      simp [FOpV.cs] at x0 x1 x2
      obtain ⟨⟨k0, k1⟩, ⟨s0, s1⟩, ⟨o0, o1⟩⟩ := HX.out.num j hlt
      generalize X j = Y at x0 x1 x2 k0 k1 s0 s1 o0 o1
      obtain ⟨xk, xn, xv⟩ := Y
      simp only at x0 x1 x2 k0 k1 s0 s1 o0 o1
      clear hcell
      go_wp2_with fail
      obtain ⟨g1, g2, g3⟩ := el_new (k := xk) (n := xn) (x := xv) hp.out.1
      obtain ⟨wa, hwa⟩ : ∃ wa, wa = wr.alloc (.cells #[.int .i64 xk, .int .i64 xn, .int .u64 xv] 40) := ⟨_, rfl⟩
      obtain ⟨bx, hbx⟩ : ∃ bx, bx = wr.heap.size := ⟨_, rfl⟩
      rw [← hwa] at g1 g3 ⊢
      rw [← hbx] at g2 g3 ⊢
      have hn := hid hp.out.2
      have HA := hid g1
      have HFb := hid g2
      have HB := hid g3
      clear hwa hbx hp g1 g2 g3 x0 x1 x2
      have c1 : wa.cell? ⟨bx, 1, none⟩ = some (.int .i64 xn) := cell_of_row wa bx 1 _ _ _ HB.out
      go_at_call 8
      refine (c_Place xk 4 (by decide) (by decide) k0 k1 _).mono ?_
      rintro e1 wz ⟨rfl, hwz⟩
      obtain rfl := hwz.symm
      go_upto_block 2 with fail
      go_cut [15, 16] from 57 to 102 (fun a e wx => ∃ (F : Nat → Prop) (v : PV) (f : Nat → Int), Hid (LB W wx b F p q v f ∧ v.n = 1 + z ∧ v.r = R))
      case first =>
        rcases (show xk % 4 = 0 ∨ xk % 4 = 1 ∨ xk % 4 = 2 ∨ xk % 4 = 3 by omega) with hK | hK | hK | hK
        · rw [hK]
          rcases tk_cases v xn with ⟨i, hi, hi0, hi1, hm, ht⟩ | ⟨hm, hi1, ht⟩ | ⟨hm, ht⟩
          · have hir : ¬ ((i : Int) < (R : Int)) := by
              have := HA.out.ok.rs i
              have h2 := hn.out.2
              intro q
              have := this (by omega)
              omega
            have hT := l_Take _ _ _ _ _ _ _ _ HA.out xn _ _ _ ht
            clear hi1 ht
            go_wp2_with (go_at_call 13; refine hT.mono ?_; rintro r w3 ⟨rfl, hl, -⟩; have HL3 := hid hl; clear hl)
            go_meet
            exact ⟨F, _, f, HL3.out, hn.out⟩
          · have hT := l_Take _ _ _ _ _ _ _ _ HA.out xn _ _ _ ht
            clear hi1 ht
            go_wp2_with (go_at_call 13; refine hT.mono ?_; rintro r w3 ⟨rfl, hl, -⟩; have HL3 := hid hl; clear hl)
            go_meet
            exact ⟨F, _, f, HL3.out, hn.out⟩
          · have hT := l_Take _ _ _ _ _ _ _ _ HA.out xn _ _ _ ht
            clear ht
            go_wp2_with (go_at_call 13; refine hT.mono ?_; rintro r w3 ⟨rfl, hl, -⟩; have HL3 := hid hl; clear hl)
            go_meet
            exact ⟨F, _, f, HL3.out, hn.out⟩
        · rw [hK]
          rcases rl_cases v xn with ⟨i, rfl, hi, hr, hm, ht⟩ | ⟨hm, ht⟩
          · have h2 := hn.out.2
            have h3 := hn.out.1
            have q1 : ¬ ((i : Int) < (R : Int)) := by omega
            have q2 : ¬ ((i : Int) ≥ 1 + (z : Int)) := by omega
            have hT := l_Release _ _ _ _ _ _ _ _ HA.out _ _ _ ht
            clear ht h2 h3
            go_wp2_with (go_at_call 15; refine hT.mono ?_; rintro r w3 ⟨rfl, F3, hl, ho⟩; have HL3 := hid hl; have c2 : w3.cell? ⟨bx, 1, none⟩ = some (.int .i64 (i : Int)) := (ho.cell 1 (lt_of_block HB.out) (fun q => Nat.lt_irrefl _ (HFb.out _ q))).trans c1; clear hl ho)
            go_meet
            exact ⟨F3, _, f, HL3.out, hn.out⟩
          · have hT := l_Release _ _ _ _ _ _ _ _ HA.out _ _ _ ht
            clear ht
            go_wp2_with (go_at_call 15; refine hT.mono ?_; rintro r w3 ⟨rfl, F3, hl, ho⟩; have HL3 := hid hl; clear hl ho)
            go_meet
            exact ⟨F3, _, f, HL3.out, hn.out⟩
        · rw [hK]
          have hT := l_Ack _ _ _ _ _ _ _ _ HA.out xn _ _ _ rfl rfl rfl
          have hs := hid (ak_same v xn)
          go_wp2_with (go_at_call 17; refine hT.mono ?_; rintro r w3 ⟨rfl, F3, hl, ho⟩; have HL3 := hid hl; clear hl ho)
          go_meet
          exact ⟨F3, _, _, HL3.out, hs.out.1.trans hn.out.1, hs.out.2.1.trans hn.out.2⟩
        · rw [hK]
          have hT := l_AckD _ _ _ _ _ _ _ _ HA.out _ _ _ rfl rfl rfl
          go_wp2_with (go_at_call 19; refine hT.mono ?_; rintro r w3 ⟨rfl, F3, hl, ho⟩; have HL3 := hid hl; clear hl ho)
          go_meet
          exact ⟨F3, _, _, HL3.out, hn.out⟩
      case rest =>
        clear HA HFb HB hn c1
        obtain ⟨F, v, f, hp⟩ := hcut
        have h2 := hp.out.2.2
        have HO := hid hp.out.1.ok
        go_wp2_with fail
        go_loopw [17] (fun i wr => ∃ a : Nat, a ≤ R ∧ i = .int .i64 a ∧ Hid (wr = wc)) (fun i _ => R - (intOf i).toNat)
        case atStart => exact ⟨0, by omega, rfl, rfl⟩
        case round =>
          obtain ⟨a, ha, rfl, hw⟩ := hrel
          obtain rfl := hw.out.symm
          by_cases hla : a < R
          · obtain ⟨e1, e2⟩ := HO.out.res (i := a) (by omega)
            have hOw := l_Owner _ _ _ _ _ _ _ _ hp.out.1 (a : Int) _ e1
            have hWa := l_Waits _ _ _ _ _ _ _ _ hp.out.1 (a : Int) _ e2
            clear e1 e2 h2
            go_wp2_with (first
              | (go_at_call 21; refine hOw.mono ?_; rintro r w3 ⟨rfl, hw3⟩; obtain rfl := hw3.symm)
              | (go_at_call 23; refine hWa.mono ?_; rintro r w3 ⟨rfl, hw3⟩; obtain rfl := hw3.symm))
            go_roundw
            case rel => exact ⟨a + 1, by omega, by go_num, trivial⟩
            case measure => simp [intOf]; omega
          · obtain rfl : a = R := by omega
            clear h2
            go_wp2_with fail
            go_roundw
            case rel => exact ⟨j + 1, F, v, f, by omega, by go_num, hp.out⟩
            case measure => simp [intOf]; omega
    · obtain rfl : j = la := by omega
      go_wp2_with (go_at_call 12; refine (l_awake9 _).mono ?_; rintro r w3 ⟨rfl, hb⟩; have HB3 := hid hb; clear hb)
      go_ret
      exact ⟨rfl, hp.out.1.new.trans (HB3.out.mono hp.out.1.new.size)⟩
end Go.Proofs.Ytehghhonhfmieaa
