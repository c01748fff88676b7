/- PageRights answers true: the walk. -/
import Derived.Test.YtfoafgbhelgjcaaCPRG
import Derived.Test.YtfoafgbhelgjcaaCPQ
import Derived.Test.YtfoafgbhelgjcaaCPEQ
import Derived.Test.YtfoafgbhelgjcaaMC4
import Derived.Test.YtfoafgbhelgjcaaCPRA
import Derived.Deep.CutBlock
namespace Go.Proofs.Ytfoafgbhelgjcaa.C
open Go.RowKit
set_option linter.unusedVariables false
set_option maxRecDepth 100000

theorem or_rights (b : Nat) (hb : b < 256) : bits .or .u64 7168 (b : Int) = 7168 + (b : Int) := by
  have h := Nat.two_pow_add_eq_or_of_lt (i := 10) (b := b) (by omega) 7
  rw [show (7168 : Int) = ((7168 : Nat) : Int) from rfl, bits_or_u64_nat _ _ (by decide) (by omega)]
  rw [show (2 : Nat) ^ 10 * 7 = 7168 from rfl] at h
  rw [← h]; omega
theorem bits_rights (b : Nat) (hb : b < 256) (m : Nat) (mi : Int) (hm : m < 256) (hmi : mi = m) (h : hsN b m = decide (b &&& m ≠ 0)) : (bits .and .u64 (b : Int) mi != 0) = hsN b m ∧ (bits .and .u64 (b : Int) mi == 0) = !hsN b m := by
  have hl : lo (b : Int) = b := by unfold lo; omega
  subst hmi
  rw [and_lo (b : Int) (by omega) (by omega) m hm, hl, h]
  constructor
  · rw [Bool.eq_iff_iff]; simp
  · rw [Bool.eq_iff_iff]; simp
theorem cl_three (w : World) (ab : Nat) (ty : TypeId) (b : Nat) (hb : b < 256) (h : w.heap[ab]? = some (.cells #[.int .i64 512, .int .u64 2049, .int .i64 1024, .int .u64 3073, .int .i64 1541, .int .u64 (7168 + (b : Int))] ty (0, 0))) : Cl w (some ⟨ab, 0, none⟩) 3 3 ab 0 (rgX b) := by
  refine ⟨Nat.le_refl _, by decide, fun _ => ⟨rfl, lt_of_block h⟩, fun i hi => ?_, fun i hi => ?_⟩
  · rcases (show i = 0 ∨ i = 1 ∨ i = 2 by omega) with rfl | rfl | rfl
    · exact ⟨by rw [cell_of_row w ab _ _ _ _ h]; rfl, by rw [cell_of_row w ab _ _ _ _ h]; rfl⟩
    · exact ⟨by rw [cell_of_row w ab _ _ _ _ h]; rfl, by rw [cell_of_row w ab _ _ _ _ h]; rfl⟩
    · exact ⟨by rw [cell_of_row w ab _ _ _ _ h]; rfl, by rw [cell_of_row w ab _ _ _ _ h]; rfl⟩
  · rcases (show i = 0 ∨ i = 1 ∨ i = 2 by omega) with rfl | rfl | rfl
    · exact ⟨⟨show (-9223372036854775808 : Int) ≤ 512 by decide, show (512 : Int) ≤ 9223372036854775807 by decide⟩, show (0 : Int) ≤ 2049 by decide, show (2049 : Int) < 18446744073709551616 by decide⟩
    · exact ⟨⟨show (-9223372036854775808 : Int) ≤ 1024 by decide, show (1024 : Int) ≤ 9223372036854775807 by decide⟩, show (0 : Int) ≤ 3073 by decide, show (3073 : Int) < 18446744073709551616 by decide⟩
    · refine ⟨⟨show (-9223372036854775808 : Int) ≤ 1541 by decide, show (1541 : Int) ≤ 9223372036854775807 by decide⟩, ?_, ?_⟩
      · show (0 : Int) ≤ 7168 + b; omega
      · show 7168 + (b : Int) < 18446744073709551616; omega
theorem l1_1 (b : Nat) (mx : Bool) : l1F b mx (1 + 0) = hsN b 8 := rfl
theorem l1_2 (b : Nat) (mx : Bool) : l1F b mx (1 + 1) = (hsN b 2 || (mx && hsN b 8)) := rfl
theorem l1_3 (b : Nat) (mx : Bool) : l1F b mx (1 + 2) = (hsN b 4 && hsN b 128) := rfl
theorem l2_t (b : Nat) (su mx : Bool) (h : Int) : l2F b true su mx h = (l1F b mx h && hsN b 16) := rfl
theorem l2_f (b : Nat) (su mx : Bool) (h : Int) : l2F b false su mx h = if hsN b 16 = true then l1F b mx h && decide (h ≠ 1) && su else l1F b mx h := rfl
set_option maxHeartbeats 4000000 in
set_option maxRecDepth 1000000 in
theorem w_PageRights (w : World) (bs : Int) (l0 : -9223372036854775808 ≤ bs) (l1 : bs ≤ 9223372036854775807) (us su mx : Bool) (acc : Int) (c0 : -9223372036854775808 ≤ acc) (c1 : acc ≤ 9223372036854775807) :
    Calls Try.prog 17 #[.int .i64 bs, .bool us, .bool su, .bool mx, .int .i64 acc] w fun r w' => r = .returned (.bool true) ∧ Below w.heap.size w w' := by
  obtain ⟨b, hbs⟩ : ∃ b : Nat, bs % 256 = b := ⟨(bs % 256).toNat, by omega⟩
  have hb : b < 256 := by omega
  obtain ⟨k, hk⟩ : ∃ k : Int, acc % 3 = k := ⟨_, rfl⟩
  have hh : 1 + k = 1 ∨ 1 + k = 2 ∨ 1 + k = 3 := by omega
  obtain ⟨m0, m2, m4, m8, m16, m64, m128, m80, m132⟩ := low2 ⟨b, hb⟩
  have m1 : hsN b 1 = decide (b &&& 1 ≠ 0) := (show ∀ k : Fin 256, hsN k.val 1 = decide (k.val &&& 1 ≠ 0) from of_decide_eq_true (by kernel_rfl)) ⟨b, hb⟩
  have hor := or_rights b hb
  have x1 := (bits_rights b hb 1 1 (by decide) rfl m1).1
  have x2 := (bits_rights b hb 2 2 (by decide) rfl m2).1
  have x4 := (bits_rights b hb 4 4 (by decide) rfl m4).1
  have x8 := (bits_rights b hb 8 8 (by decide) rfl m8).1
  have x16 := (bits_rights b hb 16 16 (by decide) rfl m16).1
  have x64 := (bits_rights b hb 64 64 (by decide) rfl m64).1
  have x128 := (bits_rights b hb 128 128 (by decide) rfl m128).1
  have y4 := (bits_rights b hb 4 4 (by decide) rfl m4).2
  have HT := hid (tr_rights b hb us su mx (1 + k) hh)
  obtain ⟨wa, hwa⟩ : ∃ wa, wa = w.alloc (.cells #[.int .i64 512, .int .u64 2049, .int .i64 1024, .int .u64 3073, .int .i64 1541, .int .u64 (7168 + (b : Int))] 71) := ⟨_, rfl⟩
  have HA : Hid (Below w.heap.size w wa) := by rw [hwa]; exact (Below.refl _ _).alloc (Nat.le_refl _) _
  have HC : Hid (Cl wa (some ⟨w.heap.size, 0, none⟩) 3 3 w.heap.size 0 (rgX b)) := by rw [hwa]; exact cl_three _ _ _ b hb (heap_alloc_new w _)
  have HWA := hid hwa
  have HX1 := hid x1
  have HX2 := hid x2
  have HX4 := hid x4
  have HX8 := hid x8
  have HX16 := hid x16
  have HX128 := hid x128
  have HY4 := hid y4
  clear x1 x2 x4 x8 x16 x128 y4
  clear hwa m0 m1 m2 m4 m8 m16 m64 m128 m80 m132
  obtain ⟨P, hP⟩ : ∃ P, (if (vbF b && l2F b us su mx (1 + k) && hsN b 64) = true then (⟨28963, 28963, 0, false⟩ : PlV) else ⟨0, 0, 1, false⟩) = P := ⟨_, rfl⟩
  rw [hP] at HT
  have HP := hid hP
  clear hP
  have heq := run_eqP
  go_enter Try.func17, Try.ntmps17
  go_upto_region 7 with (first
    | (go_at_call 19; (with_reducible refine (c_Place bs 256 (by decide) (by decide) l0 l1 _).mono ?_); rintro e w3 ⟨rfl, hw3⟩; obtain rfl := hw3.symm; rw [hbs])
    | (go_at_call 19; (with_reducible refine (c_Place acc 3 (by decide) (by decide) c0 c1 _).mono ?_); rintro e w3 ⟨rfl, hw3⟩; obtain rfl := hw3.symm; rw [hk])
    | (go_at_call 43; rw [← HWA.out]; refine (c_Memory wa 8 (by decide) (by decide) _ 3 3 w.heap.size 0 (rgX b) HC.out).mono ?_; rintro r w1 ⟨p, q, U, rfl, ht, hb1, hu⟩; obtain ⟨S, T, h1, h2, h3, h4⟩ := ht; have HM := hid h1; have HB := hid hb1; clear h1 h2 h3 h4 hb1 hu)
    | (go_at_call 41; refine (c_Translate _ S p 8 _ (Mem.below HM.out ((Below.refl _ _).alloc (Nat.le_refl _) _)) ⟨9223372036854775809, 0, us, su, mx⟩ 20771 (1 + k) (by decide) (by decide) (show (0 : Int) ≤ 9223372036854775809 by decide) (show (9223372036854775809 : Int) < 18446744073709551616 by decide) (show (0 : Int) ≤ 0 by decide) (show (0 : Int) < 18446744073709551616 by decide) P HT.out).mono ?_; rintro r w2 ⟨rfl, hb2⟩; have HB2 := hid hb2; clear hb2))
  refine pr_1 _ b _ _ _ _ HX1.out HX2.out HY4.out HX8.out _ _ _ _ _ _ _ _ _ _ _ _ _ _ _ _ _ _ _ _ _ _ _ _ _ _ _ _ _ _ _ _ _ _ _ _ _ _ _ _ _ _ _ _ _ _ _ _ _ _ _ _ _ _ _ _ _ _ _ _ _ _ _ _ _ _ _ _ _ _ _ _ _ _ _ _ _ _ _ _ _ _ _ _ _ _ _ _ _ _ _ _ _ _ _ _ _ _ _ _ _ _ _ _ _ _ _ _ _ _ _ _ _ _ _ _ _ _ _ _ _ _ _ _ _ _ _ _ _ _ _ _ _ _ _ _ ?_
  intro e44 e45 e46 e47 e48 e49 e50 e51 e52 e53 e54 e55 e56 e57 e58 e59 e60 e61 e62 e63 e64 e65 e66
  have hvF : (hsN b 1 && (!hsN b 4 || hsN b 2) && (hsN b 2 || hsN b 8)) = vbF b := rfl
  rw [hvF]
  have HL1 : Hid ((1 + k = 1 ∧ l1F b mx (1 + k) = hsN b 8) ∨ (1 + k = 2 ∧ l1F b mx (1 + k) = (hsN b 2 || (mx && hsN b 8))) ∨ (1 + k = 3 ∧ l1F b mx (1 + k) = (hsN b 4 && hsN b 128))) := by
    rcases hh with h | h | h
    · exact .inl ⟨h, by rw [h]; rfl⟩
    · exact .inr (.inl ⟨h, by rw [h]; rfl⟩)
    · exact .inr (.inr ⟨h, by rw [h]; rfl⟩)
  go_upto_block 0 with fail
  refine pr_2 _ b _ _ _ _ mx (l1F b mx (1 + k)) (1 + k) HL1.out HX2.out HX4.out HX8.out HX128.out _ _ _ _ _ _ _ _ _ _ _ _ _ _ _ _ _ _ _ _ _ _ _ _ _ _ _ _ _ _ _ _ _ _ _ _ _ _ _ _ _ _ _ _ _ _ _ _ _ _ _ _ _ _ _ _ _ _ _ _ _ _ _ _ _ _ _ _ _ _ _ _ _ _ _ _ _ _ _ _ _ _ _ _ _ _ _ _ _ _ _ _ _ _ _ _ _ _ _ _ _ _ _ _ _ _ _ _ _ _ _ _ _ _ _ _ _ _ _ _ _ _ _ _ _ _ _ _ _ _ _ _ _ _ ?_
  intro f68 f69 f70 f71 f72 f73 f74 f75 f76 f77 f78 f79 f80 f81 f82 f83 f84 f85 f86 f87 f88 f89 f90 f91 f92 f93 f94 f95
  have HL2 : Hid (l2F b us su mx (1 + k) = if us = true then l1F b mx (1 + k) && hsN b 16 else if hsN b 16 = true then l1F b mx (1 + k) && decide (1 + k ≠ 1) && su else l1F b mx (1 + k)) := rfl
  have HHH := hid hh
  clear hh
  go_upto_if 96 with fail
  refine pr_3 _ b us su (l1F b mx (1 + k)) _ (l2F b us su mx (1 + k)) (1 + k) HHH.out HL2.out HX16.out _ _ _ _ _ _ _ _ _ _ _ _ _ _ _ _ _ _ _ _ _ _ _ _ _ _ _ _ _ _ _ _ _ _ _ _ _ _ _ _ _ _ _ _ _ _ _ _ _ _ _ _ _ _ _ _ _ _ _ _ _ _ _ _ _ _ _ _ _ _ _ _ _ _ _ _ _ _ _ _ _ _ _ _ _ _ _ _ _ _ _ _ _ _ _ _ _ _ _ _ _ _ _ _ _ _ _ _ _ _ _ _ _ _ _ _ _ _ _ _ _ _ _ _ _ _ _ _ _ _ _ _ ?_
  intro g97 g98 g99 g100 g101 g102 g103 g104 g105 g106 g107 g108 g109 g110 g111 g112 g113
  have e1 := HA.out.trans (HB.out.mono HA.out.size)
  have e2 := (e1.alloc e1.size (.cells #[.pointer (some ⟨p, 0, none⟩), .pointer (some ⟨q, 0, none⟩)] 29)).trans (HB2.out.mono (by have := e1.size; simp; omega))
  have HE := hid e2
  clear e1 e2
  obtain ⟨vv, hv⟩ : ∃ vv, vbF b = vv := ⟨_, rfl⟩
  obtain ⟨ll, hl⟩ : ∃ ll, l2F b us su mx (1 + k) = ll := ⟨_, rfl⟩
  obtain ⟨qq, hq⟩ : ∃ qq, hsN b 64 = qq := ⟨_, rfl⟩
  have hP := HP.out
  rw [hv, hl, hq] at hP
  rw [hv, hl]
  rw [hq] at x64
  clear HP HT hv hl hq hvF HL1 HL2 HHH HX1 HX2 HX4 HX8 HX16 HX128 HY4 hor
  have hways : (vv = true ∧ ll = true ∧ qq = true) ∨ (vv = true ∧ ll = true ∧ qq = false) ∨ (vv = true ∧ ll = false) ∨ vv = false := by cases vv <;> cases ll <;> cases qq <;> simp
  rcases hways with ⟨rfl, rfl, rfl⟩ | ⟨rfl, rfl, rfl⟩ | ⟨rfl, rfl⟩ | rfl
  all_goals
    simp only [Bool.and_true, Bool.and_false, Bool.false_and, if_true, Bool.false_eq_true, if_false] at hP
    subst hP
    go_wp2_with (first
      | (go_at_call 40; refine (c_awake4 _).mono ?_; rintro r w6 ⟨rfl, hb6⟩; have HB6 := hid hb6; clear hb6))
    go_ret
    refine ⟨rfl, Below.trans ?_ (HB6.out.mono ?_)⟩
    · exact HE.out.alloc HE.out.size _
    · exact (HE.out.alloc HE.out.size _).size
end Go.Proofs.Ytfoafgbhelgjcaa.C
