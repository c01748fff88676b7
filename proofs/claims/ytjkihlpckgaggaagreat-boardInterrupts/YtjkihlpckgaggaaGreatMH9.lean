/- The document's board with no device, made: what it makes is new. -/
import Derived.Test.YtjkihlpckgaggaaGreatMH8
import Derived.Test.YtjkihlpckgaggaaGreatMC2
import Derived.Test.YtjkihlpckgaggaaGreatMH5
namespace Go.Proofs.YtjkihlpckgaggaaGreat
open Go.RowKit
open C (Only hid Still ret_bool ret_int row)
open P (Ls)
set_option linter.unusedVariables false
set_option maxRecDepth 100000

def b16z (a b ic pc s : Nat) : Array Value := #[ptr a, ptr b, ptr ic, ptr pc, .slice none 0 0, .slice (some ⟨s, 0, none⟩) 0 0, .pointer none, .int .i64 (-1)]
theorem mk_devs0 (w : World) : (Instr.makeSlice 138 (.int .i64 0) (.int .i64 0)).run Tryz.prog w = .ok (.slice (some ⟨w.heap.size, 0, none⟩) 0 0) (w.alloc (.cells #[] 141)) := by
  obtain ⟨i, hi1, hz, hs, hb⟩ := info_parts info_pD14
  have hr := run_make (P := Tryz.prog) w 138 141 i _ u_spD14 hi1 hz .i64 .i64 0 0 (by omega) (by omega) (by rw [hb]; decide) (by omega)
  have hcs : madeCells (Value.pointer none).cells ((0 : Int).toNat * i.size) = #[] := by
    rw [show (0 : Int).toNat * i.size = 0 by simp]
    unfold madeCells
    simp
  rw [hcs] at hr
  simpa using hr
def vtZ (ic pc a b s p : Nat) : Nat → Value := fun dd => if dd = 31 then zUv else if dd = 32 then ptr a else if dd = 33 then .agg #[.int .u64 0] else if dd = 34 then ptr b else if dd = 35 then ptr ic else if dd = 36 then ptr pc else if dd = 37 then .slice none 0 0 else if dd = 38 then .slice none 0 0 else if dd = 39 then .slice none 0 0 else if dd = 40 then .int .i64 0 else if dd = 41 then .slice (some ⟨s, 0, none⟩) 0 0 else if dd = 42 then .agg #[ptr a, ptr b, ptr ic, ptr pc, .slice none 0 0, .slice (some ⟨s, 0, none⟩) 0 0, .pointer none, .int .i64 (-1)] else if dd = 43 then ptr p else if dd = 14 then ptr p else undef
set_option maxHeartbeats 4000000 in
theorem r16_New0 (w : World) (hh : Nat) (h1 : 1 ≤ hh) (h2 : hh ≤ 64) (en : Value) :
    Calls Tryz.prog 23 #[.int .i64 hh, .slice none 0 0, .slice none 0 0, en] w fun r w' => ∃ p, r = .returned (.tuple #[ptr p, .int .i64 0]) ∧ Below w.heap.size w w' := by
  have hL : Ls w none 0 0 0 0 (fun _ => 1) := ⟨by decide, by decide, fun q => absurd q (by decide), fun j hj => absurd hj (by omega), fun j hj => absurd hj (by omega)⟩
  have hr := r_Right w (hh : Int) (by omega) (by omega) none 0 0 0 0 (fun _ => 1) hL none 0 0 (by decide)
  rw [rgt_all (by omega) (by omega) rfl (by decide) (by decide)] at hr
  have HR := hid hr
  have HI := hid (fun w8 => r_NewIntc w8 hh h1 h2)
  have HP := hid (fun w8 (q : Ls w8 none 0 0 0 0 (fun _ => 1)) => P.d_New w8 none 0 0 0 0 (fun _ => 1) q (by decide) (fun j hj => by omega))
  have HLs := hid hL
  clear hr hL
  go_enter Tryz.func23, Tryz.ntmps23
  go_upto_region 5 with (first
    | (go_at_call 9; refine HR.out.mono ?_; rintro r w0 ⟨rfl, q⟩; obtain rfl := q.symm)
    | (go_at_call 36; refine (HI.out w).mono ?_; rintro r w1 ⟨ic, rfl, q⟩; have B1 := hid q; clear q)
    | (go_at_call 37; refine (HP.out w1 (HLs.out.below B1.out)).mono ?_; rintro r w2 ⟨rfl, u2, q1, q2, q3⟩; have B2 := hid q2; clear q1 q2 q3))
  obtain ⟨pc, hpc⟩ : ∃ pc, pc = w1.heap.size := ⟨_, rfl⟩
  rw [← hpc]
  clear hpc
  obtain ⟨wa, hwa⟩ : ∃ wa, wa = w2.drew := ⟨_, rfl⟩
  have HB3 : Hid (Below w.heap.size w wa) := by
    have b12 : Below w.heap.size w w2 := B1.out.trans (B2.out.mono B1.out.size)
    rw [hwa]; exact b12.drew
  have HMK := hid (fun w8 => mk_devs0 w8)
  refine wp_region_any (by kernel_rfl) ?_
  rw [show ({ w2 with drawn := w2.drawn + 1 } : World) = wa from hwa.symm]
  clear hwa B1 B2
  refine wpAny_fz (α := Nat × Nat × Nat × Nat) (fun x => vtZ ic pc x.1 x.2.1 x.2.2.1 x.2.2.2) (fun x listed w8 => Below wa.heap.size wa w8) ?step ?fin (0, 0, 0, 0) ?start
  case start => exact Below.refl _ _
  case step =>
    rintro listed fr wr x hF hW hC i hj
    obtain ⟨hl, o, ho, he⟩ := mem_ready.1 hj
    have hjl : i < listed.size := by rw [hF.q.ls]; exact (Array.getElem?_eq_some_iff.1 ho).1
    have hl0 := getD_tf hjl hl
    clear hj
    have HF := hid hF
    have HW := hid hW
    have HE := hid he
    have HC := hid hC
    clear hF hW he hl hC
    match i, ho with
    | 0, ho =>
      obtain rfl := Option.some.inj ho
      exact wp_q rfl rfl (by simp [execOp, go_sem]; try rfl) ⟨x, HF.out.put (by kernel_rfl) rfl rfl rfl (of_decide_eq_true rfl), HW.out⟩
    | 1, ho =>
      obtain rfl := Option.some.inj ho
      have e31 : fr.tmps[31]?.getD undef = zUv := HF.out.ev (i := 0) rfl rfl (HE.out ⟨0, .data⟩ (by simp) rfl)
      have n11 : listed.getD 11 false = false := not_yet (j := 11) HC.out hl0 rfl ⟨1, .data⟩ (by simp) rfl rfl
      have n12 : listed.getD 12 false = false := not_yet (j := 12) HC.out n11 rfl ⟨11, .data⟩ (by simp) rfl rfl
      have hsw := HF.out.swapD (vt' := vtZ ic pc wr.heap.size x.2.1 x.2.2.1 x.2.2.2) (by kernel_rfl) (fun d => ?_)
      · exact wp_q rfl rfl (by simp [execOp, go_sem, e31, zUv]; first | done | rfl | exact ⟨rfl, rfl⟩) ⟨(wr.heap.size, x.2.1, x.2.2.1, x.2.2.2), hsw.put (by kernel_rfl) rfl rfl rfl (of_decide_eq_true rfl), HW.out.alloc HW.out.size (.cells #[.slice none 0 0, .slice none 0 0, .int .u8 0, .int .u8 0, .int .u8 0, .int .u8 0, .int .u8 0, .int .u8 0, .int .u8 0, .bool false, .bool false] 134)⟩
      · by_cases z0 : d = 32
        · subst z0; exact .inr ⟨1, _, rfl, rfl, hl0⟩
        · by_cases z1 : d = 42
          · subst z1; exact .inr ⟨11, _, rfl, rfl, n11⟩
          · left; simp only [vtZ, if_neg z0, if_neg z1]
    | 2, ho =>
      obtain rfl := Option.some.inj ho
      exact wp_q rfl rfl (by simp [execOp, go_sem]; try rfl) ⟨x, HF.out.put (by kernel_rfl) rfl rfl rfl (of_decide_eq_true rfl), HW.out⟩
    | 3, ho =>
      obtain rfl := Option.some.inj ho
      have e33 : fr.tmps[33]?.getD undef = .agg #[.int .u64 0] := HF.out.ev (i := 2) rfl rfl (HE.out ⟨2, .data⟩ (by simp) rfl)
      have n11 : listed.getD 11 false = false := not_yet (j := 11) HC.out hl0 rfl ⟨3, .data⟩ (by simp) rfl rfl
      have n12 : listed.getD 12 false = false := not_yet (j := 12) HC.out n11 rfl ⟨11, .data⟩ (by simp) rfl rfl
      have hsw := HF.out.swapD (vt' := vtZ ic pc x.1 wr.heap.size x.2.2.1 x.2.2.2) (by kernel_rfl) (fun d => ?_)
      · exact wp_q rfl rfl (by simp [execOp, go_sem, e33]; first | done | rfl | exact ⟨rfl, rfl⟩) ⟨(x.1, wr.heap.size, x.2.2.1, x.2.2.2), hsw.put (by kernel_rfl) rfl rfl rfl (of_decide_eq_true rfl), HW.out.alloc HW.out.size (.cells #[.int .u64 0] 137)⟩
      · by_cases z0 : d = 34
        · subst z0; exact .inr ⟨3, _, rfl, rfl, hl0⟩
        · by_cases z1 : d = 42
          · subst z1; exact .inr ⟨11, _, rfl, rfl, n11⟩
          · left; simp only [vtZ, if_neg z0, if_neg z1]
    | 4, ho =>
      obtain rfl := Option.some.inj ho
      have e10 : fr.tmps[10]?.getD undef = ptr ic := HF.out.base 10 (by kernel_rfl) rfl
      exact wp_q rfl rfl (by simp [execOp, go_sem, e10]; try rfl) ⟨x, HF.out.put (by kernel_rfl) rfl rfl rfl (of_decide_eq_true rfl), HW.out⟩
    | 5, ho =>
      obtain rfl := Option.some.inj ho
      have e12 : fr.tmps[12]?.getD undef = ptr pc := HF.out.base 12 (by kernel_rfl) rfl
      exact wp_q rfl rfl (by simp [execOp, go_sem, e12]; try rfl) ⟨x, HF.out.put (by kernel_rfl) rfl rfl rfl (of_decide_eq_true rfl), HW.out⟩
    | 6, ho =>
      obtain rfl := Option.some.inj ho
      have e1 : fr.tmps[1]?.getD undef = .slice none 0 0 := HF.out.base 1 (by kernel_rfl) rfl
      exact wp_q rfl rfl (by simp [execOp, go_sem, e1]; try rfl) ⟨x, HF.out.put (by kernel_rfl) rfl rfl rfl (of_decide_eq_true rfl), HW.out⟩
    | 7, ho =>
      obtain rfl := Option.some.inj ho
      have e37 : fr.tmps[37]?.getD undef = .slice none 0 0 := HF.out.ev (i := 6) rfl rfl (HE.out ⟨6, .data⟩ (by simp) rfl)
      exact wp_q rfl rfl (by simp [execOp, go_sem, e37]; try rfl) ⟨x, HF.out.put (by kernel_rfl) rfl rfl rfl (of_decide_eq_true rfl), HW.out⟩
    | 8, ho =>
      obtain rfl := Option.some.inj ho
      have e1 : fr.tmps[1]?.getD undef = .slice none 0 0 := HF.out.base 1 (by kernel_rfl) rfl
      exact wp_q rfl rfl (by simp [execOp, go_sem, e1]; try rfl) ⟨x, HF.out.put (by kernel_rfl) rfl rfl rfl (of_decide_eq_true rfl), HW.out⟩
    | 9, ho =>
      obtain rfl := Option.some.inj ho
      have e39 : fr.tmps[39]?.getD undef = .slice none 0 0 := HF.out.ev (i := 8) rfl rfl (HE.out ⟨8, .data⟩ (by simp) rfl)
      exact wp_q rfl rfl (by simp [execOp, go_sem, e39]; try rfl) ⟨x, HF.out.put (by kernel_rfl) rfl rfl rfl (of_decide_eq_true rfl), HW.out⟩
    | 10, ho =>
      obtain rfl := Option.some.inj ho
      have e40 : fr.tmps[40]?.getD undef = .int .i64 0 := HF.out.ev (i := 9) rfl rfl (HE.out ⟨9, .data⟩ (by simp) rfl)
      have n11 : listed.getD 11 false = false := not_yet (j := 11) HC.out hl0 rfl ⟨10, .data⟩ (by simp) rfl rfl
      have n12 : listed.getD 12 false = false := not_yet (j := 12) HC.out n11 rfl ⟨11, .data⟩ (by simp) rfl rfl
      have hsw := HF.out.swapD (vt' := vtZ ic pc x.1 x.2.1 wr.heap.size x.2.2.2) (by kernel_rfl) (fun d => ?_)
      · exact wp_q rfl rfl (by simp [execOp, go_sem, e40, HMK.out]; first | done | rfl | exact ⟨rfl, rfl⟩) ⟨(x.1, x.2.1, wr.heap.size, x.2.2.2), hsw.put (by kernel_rfl) rfl rfl rfl (of_decide_eq_true rfl), HW.out.alloc HW.out.size (.cells #[] 141)⟩
      · by_cases z0 : d = 41
        · subst z0; exact .inr ⟨10, _, rfl, rfl, hl0⟩
        · by_cases z1 : d = 42
          · subst z1; exact .inr ⟨11, _, rfl, rfl, n11⟩
          · left; simp only [vtZ, if_neg z0, if_neg z1]
    | 11, ho =>
      obtain rfl := Option.some.inj ho
      have e32 : fr.tmps[32]?.getD undef = ptr x.1 := HF.out.ev (i := 1) rfl rfl (HE.out ⟨1, .data⟩ (by simp) rfl)
      have e34 : fr.tmps[34]?.getD undef = ptr x.2.1 := HF.out.ev (i := 3) rfl rfl (HE.out ⟨3, .data⟩ (by simp) rfl)
      have e35 : fr.tmps[35]?.getD undef = ptr ic := HF.out.ev (i := 4) rfl rfl (HE.out ⟨4, .data⟩ (by simp) rfl)
      have e36 : fr.tmps[36]?.getD undef = ptr pc := HF.out.ev (i := 5) rfl rfl (HE.out ⟨5, .data⟩ (by simp) rfl)
      have e38 : fr.tmps[38]?.getD undef = .slice none 0 0 := HF.out.ev (i := 7) rfl rfl (HE.out ⟨7, .data⟩ (by simp) rfl)
      have e41 : fr.tmps[41]?.getD undef = .slice (some ⟨x.2.2.1, 0, none⟩) 0 0 := HF.out.ev (i := 10) rfl rfl (HE.out ⟨10, .data⟩ (by simp) rfl)
      refine wp_q rfl rfl (v := .agg #[ptr x.1, ptr x.2.1, ptr ic, ptr pc, .slice none 0 0, .slice (some ⟨x.2.2.1, 0, none⟩) 0 0, .pointer none, .int .i64 (-1)]) (w' := wr) ?_ ⟨x, HF.out.put (by kernel_rfl) rfl rfl rfl (of_decide_eq_true rfl), HW.out⟩
      simp [execOp, go_sem, e32, e34, e35, e36, e38, e41]
      first | done | rfl | exact ⟨rfl, rfl⟩
    | 12, ho =>
      obtain rfl := Option.some.inj ho
      have e42 : fr.tmps[42]?.getD undef = .agg #[ptr x.1, ptr x.2.1, ptr ic, ptr pc, .slice none 0 0, .slice (some ⟨x.2.2.1, 0, none⟩) 0 0, .pointer none, .int .i64 (-1)] := HF.out.ev (i := 11) rfl rfl (HE.out ⟨11, .data⟩ (by simp) rfl)
      have n13 : listed.getD 13 false = false := not_yet (j := 13) HC.out hl0 rfl ⟨12, .data⟩ (by simp) rfl rfl
      have hsw := HF.out.swapD (vt' := vtZ ic pc x.1 x.2.1 x.2.2.1 wr.heap.size) (by kernel_rfl) (fun d => ?_)
      · exact wp_q rfl rfl (by simp [execOp, go_sem, e42]; first | done | rfl | exact ⟨rfl, rfl⟩) ⟨(x.1, x.2.1, x.2.2.1, wr.heap.size), hsw.put (by kernel_rfl) rfl rfl rfl (of_decide_eq_true rfl), HW.out.alloc HW.out.size (.cells (b16z x.1 x.2.1 ic pc x.2.2.1) 140)⟩
      · by_cases z0 : d = 43
        · subst z0; exact .inr ⟨12, _, rfl, rfl, hl0⟩
        · by_cases z1 : d = 14
          · subst z1; exact .inr ⟨13, _, rfl, rfl, n13⟩
          · left; simp only [vtZ, if_neg z0, if_neg z1]
    | 13, ho =>
      obtain rfl := Option.some.inj ho
      have e43 : fr.tmps[43]?.getD undef = ptr x.2.2.2 := HF.out.ev (i := 12) rfl rfl (HE.out ⟨12, .data⟩ (by simp) rfl)
      exact wp_q rfl rfl (by simp [execOp, go_sem, e43]; try rfl) ⟨x, HF.out.put (by kernel_rfl) rfl rfl rfl (of_decide_eq_true rfl), HW.out⟩
  case fin =>
    rintro listed fr w2 x hF hW hr
    have all := allDone hr hF.q.ls (by kernel_rfl)
    rw [hF.full all]
    obtain ⟨xa, xb, s, p⟩ := x
    have HB4 : Hid (Below w.heap.size w w2) := hid (HB3.out.trans (hW.mono HB3.out.size))
    clear hF hr all hW HMK
    simp only [List.foldl_cons, List.foldl_nil, fillF]
    go_simp
    go_wp2_with fail
    go_loopw [15] (fun i wr => i = .int .i64 0 ∧ wr = w2) (fun i _ => 1 - (intOf i).toNat)
    case atStart => exact ⟨rfl, rfl⟩
    case round =>
      obtain ⟨rfl, rfl⟩ := hrel
      go_wp2_with fail
      go_returns
      exact ⟨p, rfl, HB4.out⟩
end Go.Proofs.YtjkihlpckgaggaaGreat
namespace Go.Proofs.YtjkihlpckgaggaaGreat
open Go.RowKit
open C (Only hid Still ret_bool ret_int row)
open P (Ls)
set_option linter.unusedVariables false
set_option maxRecDepth 100000

set_option maxHeartbeats 4000000 in
theorem l_New16z (w : World) (hh : Nat) (h1 : 1 ≤ hh) (h2 : hh ≤ 64) :
    Calls Tryz.prog 11 #[.int .i64 hh, .slice none 0 0, .slice none 0 0] w fun r w' => ∃ X wp mp mq, r = .returned (.tuple #[.agg #[ptr X.bp, ptr wp, ptr mp, ptr mq], .bool true]) ∧ Bo w w' X ∧ X.n = 0 ∧ X.U = L.uv0 ∧ X.I = L.iv0 hh ∧ X.E = (fun _ => none) := by
  have HMe := hid (C.c_MemoryB (w.alloc (.cells #[.pointer none, .pointer none, .pointer none, .pointer none] 35)) 2147483648 (by decide) (by decide) (by decide) 2 (by decide) (by decide) none 0 0 0 0 _ (cl_nilG _))
  have HHH := hid (show 1 ≤ hh ∧ hh ≤ 64 from ⟨h1, h2⟩)
  clear h1 h2
  go_enter Tryz.func11, Tryz.ntmps11
  have HA : Hid (Below w.heap.size w (w.alloc (.cells #[.pointer none, .pointer none, .pointer none, .pointer none] 35))) := hid ((Below.refl _ _).alloc (Nat.le_refl _) _)
  go_wp2_with (first
    | (go_at_call 20; refine HMe.out.mono ?_; rintro r w1 ⟨mp, mq, MU, rfl, -, q2, -⟩; have W1 : Hid (Below w.heap.size w (w1.alloc (.cells #[ptr mp, ptr mq] 33))) := hid ((HA.out.trans (q2.mono HA.out.size)).alloc (Nat.le_trans HA.out.size q2.size) _); have T1 : Hid (TR w.heap.size w1.heap.size mp mq (w1.alloc (.cells #[ptr mp, ptr mq] 33))) := hid ⟨heap_alloc_new _ _, (heap_alloc_old _ _ (lt_of_block ((q2.block _ (by simp)).trans (heap_alloc_new w _)))).trans ((q2.block _ (by simp)).trans (heap_alloc_new w _))⟩; have c0 := T1.out.cs; obtain ⟨c0, c1, c2, c3, c4, c5⟩ := c0; clear q2)
    | (go_at_call 21; refine (g_Flat _ mp).mono ?_; rintro r w2 ⟨e, rfl, q⟩; have W2 : Hid (Below w.heap.size w w2) := hid (W1.out.trans (q.mono W1.out.size)); have T2 := hid (T1.out.below q); clear q)
    | (go_at_call 8; refine (g_copy0 w2).mono ?_; rintro r w4 ⟨u, rfl, q1, q2⟩; obtain ⟨uad, ucp, rfl⟩ := own_form q1; have U4 := hid q1; have W4 : Hid (Below w.heap.size w w4) := hid (W2.out.trans (q2.mono W2.out.size)); have T4 := hid (T2.out.below q2); clear q1 q2)
    | (go_at_call 22; refine (g_New0 w4 hh HHH.out.1 HHH.out.2 _ _ _).mono ?_; rintro r w5 ⟨X, rfl, q1, q2, q3, q4, q7⟩; have X5 := hid q1; have Q7 := hid q7; have Q2 := hid q2; have Q3 := hid q3; have Q4 := hid q4; have W5 : Hid (Below w.heap.size w w5) := hid (W4.out.trans (q1.bel.mono W4.out.size)); have T5 := hid (T4.out.below q1.bel); obtain ⟨d0, d1, d2, d3, d4, d5⟩ := T5.out.cs; clear q1 q2 q3 q4 q7)
    | (go_at_call 23; refine (r16_New0 _ hh HHH.out.1 HHH.out.2 _).mono ?_; rintro r w7 ⟨wp, rfl, q⟩; have q7 := ((Below.refl w5.heap.size w5).alloc (Nat.le_refl _) _).trans (q.mono (by simp)); have T7 := hid (T5.out.below q7); have X7 := hid (X5.out.below q7); obtain ⟨f0, f1, f2, f3, f4, f5⟩ := T7.out.cs; have fz : ∀ k, w7.frozen? ⟨w.heap.size, k, none⟩ = false := fun k => frozen_of_row _ _ k _ _ T7.out.r; clear q q7))
  have r1 := setRowB w7 w.heap.size 0 _ #[ptr X.bp, .pointer none, .pointer none, .pointer none] _ (ptr X.bp) T7.out.r rfl
  have r2 := setRowB _ w.heap.size 1 _ #[ptr X.bp, ptr wp, .pointer none, .pointer none] _ (ptr wp) r1 rfl
  have r3 := setRowB _ w.heap.size 2 _ #[ptr X.bp, ptr wp, ptr mp, .pointer none] _ (ptr mp) r2 rfl
  have r4 := setRowB _ w.heap.size 3 _ #[ptr X.bp, ptr wp, ptr mp, ptr mq] _ (ptr mq) r3 rfl
  refine bodyPost_ret (ret_on Tryz.results11 w.heap.size #[ptr X.bp, ptr wp, ptr mp, ptr mq] rfl true rfl rfl r4) rfl ⟨X, wp, mp, mq, rfl, ?_, Q2.out, Q3.out, Q4.out, Q7.out⟩
  have ho := (((only_c w7 w.heap.size 0 (ptr X.bp)).trans (only_c _ w.heap.size 1 (ptr wp))).trans (only_c _ w.heap.size 2 (ptr mp))).trans (only_c _ w.heap.size 3 (ptr mq))
  have l4 := lt_of_block T4.out.r
  exact X7.out.side W4.out ho (fun k hk => by subst hk; exact ⟨Nat.le_refl _, l4⟩) (fun k hk => by subst hk; exact ⟨_, _, _, T7.out.r, by decide⟩) (fun k o hk => by rw [Q7.out] at hk; cases hk)
end Go.Proofs.YtjkihlpckgaggaaGreat
namespace Go.Proofs.YtjkihlpckgaggaaGreat
open Go.RowKit
open C (Only hid Still ret_bool ret_int row)
open P (Ls)
set_option linter.unusedVariables false
set_option maxRecDepth 100000

theorem aw_rd (X : BX) (hn : X.n = 1) (hv : X.V 0 = P.sv0 2) : P.rdV X.n X.V (0 / 4096) (0 % 4096) 4 = 272767732 := by
  rw [hn]
  have e : P.rdV 1 X.V (0 / 4096) (0 % 4096) 4 = P.rdV 1 (fun _ => X.V 0) 0 0 4 := rfl
  rw [e, hv]
  exact P.rd_aw
theorem aw_in : ((inns L.uv0 [97]).rd 0).1 = 97 := by decide +kernel
theorem own_97 (w : World) : (w.alloc (.cells #[.int .u8 97] 5)).ownsRow 0 5 1 (.slice (some ⟨w.heap.size, 0, none⟩) 1 1) [(97 : Int)].length (L.bys [97]) :=
  ⟨rfl, .inr ⟨w.heap.size, 1, #[.int .u8 97], rfl, Nat.zero_le _, heap_alloc_new w _, Nat.le_refl _, by decide, rfl, rfl⟩⟩
/-- what of a board stays -/
structure Sm (X Y : BX) : Prop where
  bp : Y.bp = X.bp
  n : Y.n = X.n
  V : Y.V = X.V
  E : Y.E = X.E
theorem aw_In (W w3 : World) (X : BX) (h : Bo W w3 X) (mp wp mq : Nat) (mv : Value) : Calls Tryz.prog 15 #[ptr X.bp, mv, .int .i64 0, .slice (some ⟨w3.heap.size + 1, 0, none⟩) 1 1] ((w3.alloc (.cells #[ptr X.bp, ptr wp, ptr mp, ptr mq] 35)).alloc (.cells #[.int .u8 97] 5)) fun r w' => r = .returned (.bool true) ∧ ∃ Y, Bo W w' Y ∧ Sm (X.ae w3.heap.size (.cells #[ptr X.bp, ptr wp, ptr mp, ptr mq] 35)) Y ∧ Y.U = inns X.U [97] := by
  have h4 := h.add (.cells #[ptr X.bp, ptr wp, ptr mp, ptr mq] 35)
  have hs : (w3.alloc (.cells #[ptr X.bp, ptr wp, ptr mp, ptr mq] 35)).heap.size = w3.heap.size + 1 := by simp
  generalize w3.alloc (.cells #[ptr X.bp, ptr wp, ptr mp, ptr mq] 35) = w4 at *
  obtain ⟨c, h5, hc⟩ := h4.fresh ((Below.refl w4.heap.size w4).alloc (Nat.le_refl _) (.cells #[.int .u8 97] 5))
  have ho := own_97 w4
  rw [← hs]
  refine (b_InU h5 mv _ [97] ho (fun k hk => hc k ?_) (by decide) (by decide) _ rfl).mono ?_
  · have : some w4.heap.size = some k := hk
    rw [Option.some.inj this]
    exact Nat.le_refl _
  · rintro r w' ⟨rfl, q⟩
    exact ⟨rfl, _, q, ⟨rfl, rfl, rfl, rfl⟩, rfl⟩
theorem aw_R1 (W w : World) (X : BX) (h : Bo W w X) (hU : X.U = inns L.uv0 [97]) (mv : Value) : Calls Tryz.prog 14 #[ptr X.bp, mv, .int .u64 268435456, .int .i64 1, .int .u64 0] w fun r w' => r = .returned (.tuple #[.int .u64 97, .bool true]) ∧ ∃ Y, Bo W w' Y ∧ Sm X Y := by
  have := b_ReadU h mv 0 1 0 (by decide) (by decide) 97 (by rw [hU]; exact aw_in) (by decide) (by decide) _ rfl
  rw [show (268435456 : Int) + 0 = 268435456 by decide] at this
  refine this.mono ?_
  rintro r w' ⟨rfl, q⟩
  exact ⟨rfl, _, q, ⟨rfl, rfl, rfl, rfl⟩⟩
theorem aw_R2 (W w : World) (X : BX) (h : Bo W w X) (hn : X.n = 1) (hv : X.V 0 = P.sv0 2) (mv : Value) : Calls Tryz.prog 14 #[ptr X.bp, mv, .int .u64 805306368, .int .i64 4, .int .u64 0] w fun r w' => r = .returned (.tuple #[.int .u64 272767732, .bool true]) ∧ Below W.heap.size W w' := by
  have := b_ReadP h mv 0 4 0 (by decide) (by decide) (by decide) (by decide)
  rw [show (805306368 : Int) + 0 = 805306368 by decide, aw_rd X hn hv] at this
  refine this.mono ?_
  rintro r w' ⟨rfl, q⟩
  exact ⟨rfl, q.bel⟩
/-- a disk of a sector -/
def dk512 : List Int := List.replicate 512 0
theorem dk512_len : dk512.length = 512 := by simp [dk512]
theorem calls_atG {f : FuncId} {args : Array Value} {W w0 : World} {R : Ending → World → Prop} (h : W = w0) (hk : Calls Tryz.prog f args w0 R) : Calls Tryz.prog f args W R := h ▸ hk
set_option maxHeartbeats 4000000 in
theorem l_awake16 (w : World) : Calls Tryz.prog 10 #[] w fun r w' => r = .returned (.bool true) ∧ Below w.heap.size w w' := by
  have hmk : ∀ W, (Instr.makeSlice 23 (.int .i64 512) (.int .i64 512)).run Tryz.prog W = .ok (.slice (some ⟨W.heap.size, 0, none⟩) 512 512) (W.alloc (.cells (bys dk512).toArray 5)) := fun W => by unfold dk512; rw [← row_bys]; exact C.run_makeB W 512 (by decide)
  obtain ⟨wa, hwa⟩ : ∃ wa, wa = w.alloc (.cells #[.int .i64 2] 3) := ⟨_, rfl⟩
  obtain ⟨wb, hwb⟩ : ∃ wb, wb = wa.alloc (.cells (bys dk512).toArray 5) := ⟨_, rfl⟩
  have ha : Below w.heap.size w wa := by rw [hwa]; exact (Below.refl _ _).alloc (Nat.le_refl _) _
  have hb : Below wa.heap.size wa wb := by rw [hwb]; exact (Below.refl _ _).alloc (Nat.le_refl _) _
  have hL : Ls wb (some ⟨w.heap.size, 0, none⟩) 1 1 w.heap.size 0 (fun _ => 2) := by
    have := P.ls_one w 2 (by decide) (by decide)
    rw [← hwa] at this
    exact this.below hb
  have hd : wb.ownsRow 0 5 1 (.slice (some ⟨wa.heap.size, 0, none⟩) dk512.length 512) dk512.length (bys dk512) := by
    refine own_row (l := dk512) ?_ rfl dk512_len.symm (by rw [dk512_len]; decide)
    rw [hwb]; exact heap_alloc_new wa _
  have hN := l_New16 wb 1 (by decide) (by decide) w.heap.size 0 1 (fun _ => 2) hL rfl wa.heap.size 512 dk512 hd (by rw [dk512_len]; decide) (by rw [dk512_len]; decide) (by rw [dk512_len])
  have hWB : Below w.heap.size w wb := ha.trans (hb.mono ha.size)
  have hsz : wa.heap.size = w.heap.size + 1 := by rw [hwa]; simp
  rw [dk512_len, hsz] at hN
  have HN := hid hN
  have HWB := hid hWB
  have HWa := hid hwa
  have HWb := hid hwb
  clear ha hb hL hd hN hWB hwa hwb hsz
  go_enter Tryz.func10, Tryz.ntmps10
  go_wp2_with (first
    | (go_at_call 11; refine calls_atG (w0 := wb) (by rw [HWb.out, HWa.out]) ?_; refine HN.out.mono ?_; rintro r w3 ⟨X, ud, dk, wp, mp, mq, rfl, q1, q2, q3, q4, q5, q6, q7⟩; have X3 := hid (q1.base HWB.out); have Q2 := hid q2; have Q3 := hid q3; have Q5 := hid q5; clear q1 q2 q3 q4 q5 q6 q7)
    | (go_at_call 15; refine (aw_In w w3 X X3.out mp wp mq _).mono ?_; rintro r w6 ⟨rfl, Y, q1, q2, q3⟩; have S6 := hid q2; have hE := q1.ex (k := w3.heap.size) (by rw [q2.E]; exact if_pos rfl); have c0 := cell_of_row w6 w3.heap.size 0 _ _ _ hE; have c2 := cell_of_row w6 w3.heap.size 2 _ _ _ hE; have R1 := hid (fun mv => aw_R1 w w6 Y q1 (by rw [q3, Q3.out]) mv); rw [show Y.bp = X.bp from q2.bp] at R1; clear q1 q2 q3 hE)
    | (go_at_call 14; refine (R1.out _).mono ?_; clear R1; rintro r w7 ⟨rfl, Z, q1, q2⟩; have hE := q1.ex (k := w3.heap.size) (by rw [q2.E, S6.out.E]; exact if_pos rfl); have d0 := cell_of_row w7 w3.heap.size 0 _ _ _ hE; have d2 := cell_of_row w7 w3.heap.size 2 _ _ _ hE; have R2 := hid (fun mv => aw_R2 w w7 Z q1 (by rw [q2.n, S6.out.n]; exact Q2.out) (by rw [q2.V, S6.out.V]; exact Q5.out) mv); rw [show Z.bp = X.bp by rw [q2.bp, S6.out.bp]; rfl] at R2; clear q1 q2 hE)
    | (go_at_call 14; refine (R2.out _).mono ?_; clear R2; rintro r w8 ⟨rfl, q⟩; have B8 := hid q; clear q))
  go_ret
  exact ⟨rfl, B8.out⟩
end Go.Proofs.YtjkihlpckgaggaaGreat
namespace Go.Proofs.YtjkihlpckgaggaaGreat
open Go.RowKit
open C (Only hid Still ret_bool ret_int)
set_option linter.unusedVariables false
set_option maxRecDepth 100000

theorem wp_g5 {P : Program} {ops : Array Oper} {Q : Exit → Act → World → Prop} {i : Nat} {o : Oper} {K : Act → World → Prop} {a : Act} {w : World} (ho : ops[i]? = some o) (hw : Region.wanted o (yielded ops a.tmps) = true) (f : FuncId) (x y z u t : Operand) (ts : Array TypeId) (hop : o.op = .call { callee := .value (.func f), args := #[x, y, z, u, t], argTypes := ts }) (vx vy vz vu vt : Value) (hx : a.eval x = vx) (hy : a.eval y = vy) (hz : a.eval z = vz) (hu : a.eval u = vu) (ht : a.eval t = vt) (hnf : (callFunc f #[vx, vy, vz, vu, vt]).run P w = .ok (.enter f #[vx, vy, vz, vu, vt]) w) {R : Ending → World → Prop} (hc : Calls P f #[vx, vy, vz, vu, vt] w R)
    (h : ∀ e w', R e w' → ∃ v, e = .returned v ∧ K (a.put o.dst v) w') : wpOp P ops Q i K a w := by
  refine wpOp_step ho fun K' hK => ?_
  rw [if_pos hw]
  have he : (execOp a.eval o).run P w = .ok (.enter f #[vx, vy, vz, vu, vt]) w := by
    have hf : a.eval (.func f) = .func (.func f) #[] #[] := rfl
    simp [execOp, hop, resolve, invoke, Deferred.ofValue, hf, hx, hy, hz, hu, ht, hnf]
  unfold Oper.wp
  rw [he, Oper.upon_enter]
  refine hc.mono fun e w' hR => ?_
  obtain ⟨v, rfl, hk⟩ := h e w' hR
  exact hK _ _ hk
theorem bq_cells {w : World} {F : Nat → Prop} {p n : Nat} {f : Nat → Int} (h : P.Bq w F p n f) : CellsOnly w F := by
  obtain ⟨u, h1, hF⟩ := h.b
  intro k hk
  rcases (hF k).1 hk with rfl | z
  · exact ⟨_, _, _, h1.top, by decide⟩
  · obtain ⟨cur, hc⟩ := own_typ h1.own z; exact ⟨_, _, _, hc, by decide⟩
def BX.av (x : BX) (V : Nat → P.Sv) : BX := { x with V := V }
section
variable {W w w' : World} {c : Nat → Nat} {x X : BX}
theorem Bd.turnB (h : Bd W w c x) {F : Nat → Prop} (hF : P.Bq w F x.pb x.n (P.fB x.V)) (hc : ∀ k, F k → c k = 3 ∧ W.heap.size ≤ k) {V' : Nat → P.Sv} (hV : P.VOk V') (hu : P.Bq w' F x.pb x.n (P.fB V')) (ho : Only F w w') : Bd W w' c (x.av V') := by
  obtain ⟨Fu, u1, u2⟩ := h.u
  obtain ⟨Fi, i1, i2⟩ := h.i
  obtain ⟨z1, z2, z3, z4⟩ := h.c0
  have ne : ∀ k m, c k = m → m ≠ 3 → ¬ F k := fun k m e q f => q (e.symm.trans (hc k f).1)
  refine ⟨h.bel.trans (ho.below _ h.bel.size fun k hk => (hc k hk).2), ho.old h.top (ne _ _ z1 (by decide)), ho.old h.sp (ne _ _ z2 (by decide)), own_only h.pr ho (fun k hk => ?_), ho.old h.pl (ne _ _ z4 (by decide)),
    ⟨Fu, u1.only ho (fun k hk => ne _ _ (u2 k hk).1 (by decide)), u2⟩, ⟨Fi, i1.only ho (fun k hk => ne _ _ (i2 k hk).1 (by decide)), i2⟩, ⟨F, hu, hc⟩, hV, fun j hj => ?_, h.n8, h.c0, h.w0, fun k o hk => by obtain ⟨e1, e2, e3⟩ := h.ee k o hk; exact ⟨ho.old e1 (ne _ _ e2 (by decide)), e2, Nat.lt_of_lt_of_le e3 ho.size⟩, by obtain ⟨⟨hv, e⟩, k2, k3⟩ := h.k; exact ⟨⟨hv, ho.old e (ne _ _ k2 (by decide))⟩, k2, k3⟩⟩
  · obtain rfl : x.g = k := Option.some.inj (show some x.g = some k from hk)
    exact ne _ _ z3 (by decide)
  · obtain ⟨d1, d2, d3⟩ := h.d j hj
    exact ⟨d1.only ho (ne _ _ d2 (by decide)) (bq_cells hF), d2, d3⟩
theorem b_bWrite (h : Bo W w x) (s o z v : Int) (s0 : -9223372036854775808 ≤ s) (s1 : s ≤ 9223372036854775807) (o0 : 0 ≤ o) (o1 : o < 18446744073709551616) (z0 : -9223372036854775808 ≤ z) (z1 : z ≤ 9223372036854775807) (v0 : 0 ≤ v) (v1 : v < 18446744073709551616) : Calls Tryz.prog 235 #[ptr x.pb, .int .i64 s, .int .u64 o, .int .i64 z, .int .u64 v] w fun r w' => r = .returned (.bool (P.fitB o z)) ∧ Bo W w' (x.av (P.wrV x.n x.V s o z v)) := by
  obtain ⟨c, h⟩ := h
  obtain ⟨F, u1, u2⟩ := h.b
  refine (P.c_Write w F x.pb x.n (P.fB x.V) u1 s o z v s0 s1 o0 o1 z0 z1 v0 v1).mono ?_
  rintro r w' ⟨rfl, k1, k2⟩
  rw [P.wrF_fB h.vok x.n s o z v o0] at k1
  exact ⟨rfl, c, h.turnB u1 u2 (h.vok.wr x.n s o z v) k1 k2⟩
set_option maxHeartbeats 4000000 in
theorem sp_write (h : Bo W w X) (mv : Value) (o z v : Int) (o0 : 0 ≤ o) (o1 : o < 18446744073709551616) (z0 : -9223372036854775808 ≤ z) (z1 : z ≤ 9223372036854775807) (v0 : 0 ≤ v) (v1 : v < 18446744073709551616) (Y : BX) (hY : Y = X.av (P.wrV X.n X.V (o / 4096) (o % 4096) z v)) : Calls Tryz.prog 232 #[ptr X.ps, mv, .int .u64 o, .int .i64 z, .int .u64 v] w fun r w' => r = .returned (.bool (P.fitB (o % 4096) z)) ∧ Bo W w' Y := by
  have HB := hid h
  have HLs := hid (fun w8 (q : Bo W w8 X) => sp_slot q o o0 o1)
  have HLw := hid (fun w8 (q : Bo W w8 X) => b_bWrite q (o / 4096) (o % 4096) z v (by omega) (by omega) (by omega) (by omega) z0 z1 v0 v1)
  rw [← hY] at HLw
  have e1 : o.tmod 4096 = o % 4096 := by rw [Int.tmod_eq_emod_of_nonneg o0]
  have e2 : IntKind.u64.wrap (o % 4096) = o % 4096 := by rw [IntKind.wrap_u64]; omega
  obtain ⟨fb, hfb⟩ : ∃ fb, fb = P.fitB (o % 4096) z := ⟨_, rfl⟩
  rw [← hfb] at HLw ⊢
  have hps : Y.ps = X.ps := by rw [hY]; rfl
  have hpb : Y.pb = X.pb := by rw [hY]; rfl
  have HPS := hid (show Y.ps = X.ps ∧ Y.pb = X.pb from ⟨hps, hpb⟩)
  clear h hfb hY hps hpb
  go_enter Tryz.func232, Tryz.ntmps232
  go_upto_region 1 with fail
  obtain ⟨wa, hwa⟩ : ∃ wa, wa = w.drew := ⟨_, rfl⟩
  have HS : Hid (MLv W X Y 1 0 () wa) := by rw [hwa]; exact MLv.mk0 (HB.out.below ((Below.refl _ _).drew)) (by decide)
  have HLD : Hid (∀ (y : Unit) (listed : Array Bool) w8, VS [11] (MLv W X Y 1) y listed w8 → w8.cell? ⟨X.ps, 0, none⟩ = some (ptr X.pb)) := by
    rintro y listed w8 ⟨t, ht, hm⟩
    rcases Nat.lt_or_ge t 1 with q | q
    · exact (hm.lt q).sp.1
    · have := (hm.ge q).sp.1
      rw [HPS.out.1, HPS.out.2] at this
      exact this
  refine wp_region_any (by kernel_rfl) ?_
  rw [show ({ w with drawn := w.drawn + 1 } : World) = wa from hwa.symm]
  clear hwa HB
  refine wpAny_fz (α := Unit) (fun _ => fun dd => if dd = 11 then ptr X.ps else if dd = 12 then ptr X.ps else if dd = 13 then .pointer (some ⟨X.ps, 0, none⟩) else if dd = 14 then ptr X.pb else if dd = 15 then ptr X.ps else if dd = 16 then .int .u64 o else if dd = 17 then .int .i64 (o / 4096) else if dd = 18 then .int .u64 o else if dd = 19 then .int .u64 (o % 4096) else if dd = 20 then .int .i64 z else if dd = 21 then .int .u64 v else if dd = 22 then .bool fb else if dd = 10 then .bool fb else undef) (fun x listed w8 => VS [11] (MLv W X Y 1) x listed w8) ?step ?fin () ?start
  case start => exact .start HS.out
  case step =>
    rintro listed fr wr x hF hW hC i hj
    obtain ⟨hl, o, ho, he⟩ := mem_ready.1 hj
    have hjl : i < listed.size := by rw [hF.q.ls]; exact (Array.getElem?_eq_some_iff.1 ho).1
    have hl0 := getD_tf hjl hl
    clear hj
    have HF := hid hF
    have HW := hid hW
    have HE := hid he
    have HC := hid hC
    clear hF hW he hl hC
    match i, ho with
    | 0, ho =>
      obtain rfl := Option.some.inj ho
      have e0 : fr.tmps[0]?.getD undef = ptr X.ps := HF.out.base 0 (by kernel_rfl) rfl
      exact wp_q rfl rfl (by simp [execOp, go_sem, e0]; try rfl) ⟨(), HF.out.put (by kernel_rfl) rfl rfl rfl (of_decide_eq_true rfl), HW.out.q hjl (by decide)⟩
    | 1, ho =>
      obtain rfl := Option.some.inj ho
      have e11 : fr.tmps[11]?.getD undef = ptr X.ps := HF.out.ev (i := 0) rfl rfl (HE.out ⟨0, .data⟩ (by simp) rfl)
      exact wp_q rfl rfl (by simp [execOp, go_sem, e11]; try rfl) ⟨(), HF.out.put (by kernel_rfl) rfl rfl rfl (of_decide_eq_true rfl), HW.out.q hjl (by decide)⟩
    | 2, ho =>
      obtain rfl := Option.some.inj ho
      have e12 : fr.tmps[12]?.getD undef = ptr X.ps := HF.out.ev (i := 1) rfl rfl (HE.out ⟨1, .data⟩ (by simp) rfl)
      exact wp_q rfl rfl (by simp [execOp, go_sem, e12]; try rfl) ⟨(), HF.out.put (by kernel_rfl) rfl rfl rfl (of_decide_eq_true rfl), HW.out.q hjl (by decide)⟩
    | 3, ho =>
      obtain rfl := Option.some.inj ho
      have e13 : fr.tmps[13]?.getD undef = .pointer (some ⟨X.ps, 0, none⟩) := HF.out.ev (i := 2) rfl rfl (HE.out ⟨2, .data⟩ (by simp) rfl)
      have l0 := HLD.out _ _ _ HW.out
      exact wp_q rfl rfl (by simp [execOp, go_sem, e13, l0]; try rfl) ⟨(), HF.out.put (by kernel_rfl) rfl rfl rfl (of_decide_eq_true rfl), HW.out.q hjl (by decide)⟩
    | 4, ho =>
      obtain rfl := Option.some.inj ho
      have e0 : fr.tmps[0]?.getD undef = ptr X.ps := HF.out.base 0 (by kernel_rfl) rfl
      exact wp_q rfl rfl (by simp [execOp, go_sem, e0]; try rfl) ⟨(), HF.out.put (by kernel_rfl) rfl rfl rfl (of_decide_eq_true rfl), HW.out.q hjl (by decide)⟩
    | 5, ho =>
      obtain rfl := Option.some.inj ho
      have e2 : fr.tmps[2]?.getD undef = .int .u64 o := HF.out.base 2 (by kernel_rfl) rfl
      exact wp_q rfl rfl (by simp [execOp, go_sem, e2]; try rfl) ⟨(), HF.out.put (by kernel_rfl) rfl rfl rfl (of_decide_eq_true rfl), HW.out.q hjl (by decide)⟩
    | 6, ho =>
      obtain rfl := Option.some.inj ho
      have e15 : fr.tmps[15]?.getD undef = ptr X.ps := HF.out.ev (i := 4) rfl rfl (HE.out ⟨4, .data⟩ (by simp) rfl)
      have e16 : fr.tmps[16]?.getD undef = .int .u64 o := HF.out.ev (i := 5) rfl rfl (HE.out ⟨5, .data⟩ (by simp) rfl)
      have m0 : Bo W wr X := (HW.out.at 0 rfl (not_yet (j := 11) HC.out hl0 rfl ⟨6, .data⟩ (by simp) rfl rfl) (fun j hj => by omega)).lt (by decide)
      refine wp_g2 rfl rfl _ _ _ _ rfl (ptr X.ps) (.int .u64 o) (by simp [Act.eval, e15]) (by simp [Act.eval, e16]) (Tryz.call234 _ _) (HLs.out wr m0) ?_
      rintro e' w7 ⟨rfl, hw7⟩
      subst hw7
      exact ⟨_, rfl, (), HF.out.put (by kernel_rfl) rfl rfl rfl (of_decide_eq_true rfl), HW.out.q hjl (by decide)⟩
    | 7, ho =>
      obtain rfl := Option.some.inj ho
      have e2 : fr.tmps[2]?.getD undef = .int .u64 o := HF.out.base 2 (by kernel_rfl) rfl
      exact wp_q rfl rfl (by simp [execOp, go_sem, e2]; try rfl) ⟨(), HF.out.put (by kernel_rfl) rfl rfl rfl (of_decide_eq_true rfl), HW.out.q hjl (by decide)⟩
    | 8, ho =>
      obtain rfl := Option.some.inj ho
      have e18 : fr.tmps[18]?.getD undef = .int .u64 o := HF.out.ev (i := 7) rfl rfl (HE.out ⟨7, .data⟩ (by simp) rfl)
      exact wp_q rfl rfl (by simp [execOp, go_sem, e18, e1]; try rfl) ⟨(), HF.out.put (by kernel_rfl) rfl rfl rfl (of_decide_eq_true rfl), HW.out.q hjl (by decide)⟩
    | 9, ho =>
      obtain rfl := Option.some.inj ho
      have e3 : fr.tmps[3]?.getD undef = .int .i64 z := HF.out.base 3 (by kernel_rfl) rfl
      exact wp_q rfl rfl (by simp [execOp, go_sem, e3]; try rfl) ⟨(), HF.out.put (by kernel_rfl) rfl rfl rfl (of_decide_eq_true rfl), HW.out.q hjl (by decide)⟩
    | 10, ho =>
      obtain rfl := Option.some.inj ho
      have e4 : fr.tmps[4]?.getD undef = .int .u64 v := HF.out.base 4 (by kernel_rfl) rfl
      exact wp_q rfl rfl (by simp [execOp, go_sem, e4]; try rfl) ⟨(), HF.out.put (by kernel_rfl) rfl rfl rfl (of_decide_eq_true rfl), HW.out.q hjl (by decide)⟩
    | 11, ho =>
      obtain rfl := Option.some.inj ho
      have e14 : fr.tmps[14]?.getD undef = ptr X.pb := HF.out.ev (i := 3) rfl rfl (HE.out ⟨3, .data⟩ (by simp) rfl)
      have e17 : fr.tmps[17]?.getD undef = .int .i64 (o / 4096) := HF.out.ev (i := 6) rfl rfl (HE.out ⟨6, .data⟩ (by simp) rfl)
      have e19 : fr.tmps[19]?.getD undef = .int .u64 (o % 4096) := HF.out.ev (i := 8) rfl rfl (HE.out ⟨8, .data⟩ (by simp) rfl)
      have e20 : fr.tmps[20]?.getD undef = .int .i64 z := HF.out.ev (i := 9) rfl rfl (HE.out ⟨9, .data⟩ (by simp) rfl)
      have e21 : fr.tmps[21]?.getD undef = .int .u64 v := HF.out.ev (i := 10) rfl rfl (HE.out ⟨10, .data⟩ (by simp) rfl)
      have m0 : Bo W wr X := (HW.out.at 0 rfl hl0 (fun j hj => by omega)).lt (by decide)
      refine wp_g5 rfl rfl _ _ _ _ _ _ _ rfl (ptr X.pb) (.int .i64 (o / 4096)) (.int .u64 (o % 4096)) (.int .i64 z) (.int .u64 v) (by simp [Act.eval, e14]) (by simp [Act.eval, e17]) (by simp [Act.eval, e19]) (by simp [Act.eval, e20]) (by simp [Act.eval, e21]) (Tryz.call235 _ _) (HLw.out wr m0) ?_
      rintro e' w7 ⟨rfl, q⟩
      exact ⟨_, rfl, (), HF.out.put (by kernel_rfl) rfl rfl rfl (of_decide_eq_true rfl), HW.out.go 0 hjl rfl hl0 (fun j hj => by omega) (by intro a ha; match a, ha with | 0, _ => rfl) (MLv.mk1 q (by decide))⟩
    | 12, ho =>
      obtain rfl := Option.some.inj ho
      have e22 : fr.tmps[22]?.getD undef = .bool fb := HF.out.ev (i := 11) rfl rfl (HE.out ⟨11, .data⟩ (by simp) rfl)
      exact wp_q rfl rfl (by simp [execOp, go_sem, e22]; try rfl) ⟨(), HF.out.put (by kernel_rfl) rfl rfl rfl (of_decide_eq_true rfl), HW.out.q hjl (by decide)⟩
  case fin =>
    rintro listed fr w2 x hF hW hr
    have all := allDone hr hF.q.ls (by kernel_rfl)
    have hb : Bo W w2 Y := MLv.ge (hW.end 0 rfl (all _ (by decide)) (fun t ht q => MLv.mk1 (q.ge (by omega)) (by decide))) (Nat.le_refl _)
    rw [hF.full all]
    have HB := hid hb
    clear hF hr all hW hb HLD HS HLs HLw
    simp only [List.foldl_cons, List.foldl_nil, fillF]
    go_simp
    go_wp2_with fail
    go_ret
    exact ⟨rfl, HB.out⟩
set_option maxHeartbeats 1000000 in
/-- configuration space is written -/
theorem b_WriteP (h : Bo W w X) (mv : Value) (o z v : Int) (o0 : 0 ≤ o) (o1 : o < 32768) (z0 : -9223372036854775808 ≤ z) (z1 : z ≤ 9223372036854775807) (v0 : 0 ≤ v) (v1 : v < 18446744073709551616) (Y : BX) (hY : Y = X.av (P.wrV X.n X.V (o / 4096) (o % 4096) z v)) :
    Calls Tryz.prog 13 #[ptr X.bp, mv, .int .u64 (805306368 + o), .int .i64 z, .int .u64 v] w fun r w' => r = .returned (.bool (P.fitB (o % 4096) z)) ∧ Bo W w' (Y.at (lvI Y Y.n)) := by
  have hF := b_find h (805306368 + o) (by omega) (by omega)
  obtain ⟨e1, e2⟩ := fd_p X o o0 o1
  rw [e1, e2] at hF
  have HF := hid hF
  have HR := hid (fun w8 (q : Bo W w8 X) => sp_write q mv o z v o0 (by omega) z0 z1 v0 v1 Y hY)
  have HL := hid (fun w8 (q : Bo W w8 Y) => b_level W w8 Y q)
  rw [show Y.bp = X.bp by rw [hY]; rfl] at HL
  generalize P.fitB (o % 4096) z = rb at *
  clear h hF e1 e2 hY
  go_enter Tryz.func13, Tryz.ntmps13
  go_wp2_with (first
    | (go_at_call 24; refine HF.out.mono ?_; rintro r w1 ⟨rfl, k⟩; have H1 := hid k; clear k)
    | (go_at_call 232; refine (HR.out w1 H1.out).mono ?_; rintro r w2 ⟨rfl, k⟩; have H2 := hid k; clear k)
    | (go_at_call 25; refine (HL.out w2 H2.out).mono ?_; rintro r w3 ⟨rfl, k⟩; have H3 := hid k; clear k))
  go_returns
  exact ⟨rfl, H3.out⟩
/-- who answers is known: a read -/
theorem b_ReadX (h : Bo W w X) (mv : Value) (a z nw : Int) (a0 : 0 ≤ a) (a1 : a < 18446744073709551616) (hn : fdD X a = nbd) :
    Calls Tryz.prog 14 #[ptr X.bp, mv, .int .u64 a, .int .i64 z, .int .u64 nw] w fun r w' => r = .returned (.tuple #[.int .u64 0, .bool false]) ∧ Bo W w' (X.at (lvI X X.n)) := by
  have hF := b_find h a a0 a1
  rw [hn] at hF
  have HF := hid hF
  have HL := hid (fun w8 (q : Bo W w8 X) => b_level W w8 X q)
  have HR : Hid (∀ w8, Bo W w8 X → Calls Tryz.prog 245 #[.agg #[], .int .u64 (fdF X a), .int .i64 z, .int .u64 nw] w8 fun r w' => r = .returned (.tuple #[.int .u64 0, .bool false]) ∧ Bo W w' X) := by
    intro w8 q
    have HQ := hid (q.below ((Below.refl w8.heap.size w8).alloc (Nat.le_refl _) (.cells #[] 149)))
    generalize fdF X a = ff
    clear hF HF HL h hn q
    go_enter Tryz.func245, Tryz.ntmps245
    go_wp2
    go_returns
    exact ⟨rfl, HQ.out⟩
  generalize fdF X a = ff at *
  unfold nbd at HF
  clear h hF hn
  go_enter Tryz.func14, Tryz.ntmps14
  go_wp2_with (first
    | (go_at_call 24; refine HF.out.mono ?_; rintro r w1 ⟨rfl, k⟩; have H1 := hid k; clear k)
    | (go_at_call 245; refine (HR.out w1 H1.out).mono ?_; rintro r w2 ⟨rfl, k⟩; have H2 := hid k; clear k)
    | (go_at_call 25; refine (HL.out w2 H2.out).mono ?_; rintro r w3 ⟨rfl, k⟩; have H3 := hid k; clear k))
  go_returns
  exact ⟨rfl, H3.out⟩
/-- what a device is, read at it -/
theorem v_read8 (h : Bo W w X) (j : Nat) (hj : j < X.n) (kd : Int) (hk : (X.dv j).kd = kd) (h0 : 0 ≤ kd) (h1 : kd < 4294967296) (nw : Int) : Calls Tryz.prog 286 #[.agg #[ptr (X.pv j)], .int .u64 8, .int .i64 4, .int .u64 nw] w fun r w' => r = .returned (.tuple #[.int .u64 kd, .bool true]) ∧ Bo W w' X := by
  have hb := (Below.refl w.heap.size w).alloc (Nat.le_refl _) (.cells #[ptr (X.pv j)] 180)
  have HB := hid (h.below hb)
  have hc : (w.alloc (.cells #[ptr (X.pv j)] 180)).cell? ⟨w.heap.size, 0, none⟩ = some (ptr (X.pv j)) := cell_of_row _ _ 0 _ _ _ (heap_alloc_new w _)
  obtain ⟨c, hB⟩ := h.below hb
  have c0 := (hB.d j hj).1.c0
  rw [hk] at c0
  generalize X.pv j = e at *
  have e1 : IntKind.u32.wrap kd = kd := by rw [IntKind.wrap_u32]; omega
  have e2 : IntKind.u64.wrap kd = kd := by rw [IntKind.wrap_u64]; omega
  clear h hb hB hk
  have HT : Hid (Calls Tryz.prog 249 #[ptr e, .int .u64 8, .int .i64 4] (w.alloc (.cells #[ptr e] 180)) fun r w' => r = .returned (.tuple #[.int .u64 kd, .bool true]) ∧ w' = w.alloc (.cells #[ptr e] 180)) := by
    generalize w.alloc (.cells #[ptr e] 180) = w8 at *
    have HTT : Hid (Calls Tryz.prog 252 #[ptr e, .int .u64 8] w8 fun r w' => r = .returned (.int .u32 kd) ∧ w' = w8) := by
      go_enter Tryz.func252, Tryz.ntmps252
      go_wp2
      go_ret
      exact ⟨rfl, rfl⟩
    have HI := hid (k_isReg w8 8 4 (by decide) (by decide))
    go_enter Tryz.func249, Tryz.ntmps249
    go_wp2_with (first
      | (go_at_call 251; refine HI.out.mono ?_; rintro r w1 ⟨rfl, q⟩; obtain rfl := q.symm; rw [show isReg 8 4 = true from rfl])
      | (go_at_call 252; refine HTT.out.mono ?_; rintro r w1 ⟨rfl, q⟩; obtain rfl := q.symm))
    go_returns
    exact ⟨rfl, rfl⟩
  go_enter Tryz.func286, Tryz.ntmps286
  go_wp2_with (go_at_call 249; refine HT.out.mono ?_; rintro r w1 ⟨rfl, q⟩; obtain rfl := q.symm)
  go_returns
  exact ⟨rfl, HB.out⟩
theorem b_ReadD (h : Bo W w X) (mv : Value) (a nw : Int) (a0 : 0 ≤ a) (a1 : a < 18446744073709551616) (j : Nat) (hj : j < X.n) (kd : Int) (hk : (X.dv j).kd = kd) (h0 : 0 ≤ kd) (h1 : kd < 4294967296) (hn : fdD X a = ptD (X.pv j)) (hf : fdF X a = 8) :
    Calls Tryz.prog 14 #[ptr X.bp, mv, .int .u64 a, .int .i64 4, .int .u64 nw] w fun r w' => r = .returned (.tuple #[.int .u64 kd, .bool true]) ∧ Bo W w' (X.at (lvI X X.n)) := by
  have hF := b_find h a a0 a1
  rw [hn, hf] at hF
  have HF := hid hF
  have HL := hid (fun w8 (q : Bo W w8 X) => b_level W w8 X q)
  have HR := hid (fun w8 (q : Bo W w8 X) => v_read8 q j hj kd hk h0 h1 nw)
  clear h hF hn hf hk
  generalize X.pv j = e at *
  go_enter Tryz.func14, Tryz.ntmps14
  go_wp2_with (first
    | (go_at_call 24; refine HF.out.mono ?_; rintro r w1 ⟨rfl, k⟩; have H1 := hid k; clear k)
    | (go_at_call 286; refine (HR.out w1 H1.out).mono ?_; rintro r w2 ⟨rfl, k⟩; have H2 := hid k; clear k)
    | (go_at_call 25; refine (HL.out w2 H2.out).mono ?_; rintro r w3 ⟨rfl, k⟩; have H3 := hid k; clear k))
  go_returns
  exact ⟨rfl, H3.out⟩
end
end Go.Proofs.YtjkihlpckgaggaaGreat
namespace Go.Proofs.YtjkihlpckgaggaaGreat
open Go.RowKit
open C (Only hid Still ret_bool ret_int row)
open P (Ls)
set_option linter.unusedVariables false
set_option maxRecDepth 100000

theorem wr_base (v : P.Sv) (x : Int) (h0 : 0 ≤ x) (h1 : x < 4294967296) (hm : x % 4096 = 0) : (v.wr 16 4 x).base = x ∧ (v.wr 16 4 x).c = v.c := by
  have e : v.wr 16 4 x = ⟨v.k, v.c, P.hi4 (C.byt x 1), C.byt x 2, C.byt x 3, v.l⟩ := by
    simp [P.Sv.wr, P.atP]
  rw [e]
  refine ⟨?_, rfl⟩
  unfold P.Sv.base P.hi4 C.byt
  simp only [Int.reducePow]
  omega
theorem wr_cmd (v : P.Sv) (x : Int) : (v.wr 4 2 x).base = v.base ∧ (v.wr 4 2 x).c = P.a6 (C.byt x 0) := by
  have e : v.wr 4 2 x = ⟨v.k, P.a6 (C.byt x 0), v.b1, v.b2, v.b3, v.l⟩ := by
    simp [P.Sv.wr, P.atP]
  rw [e]
  exact ⟨rfl, rfl⟩
/-- a board with a console: its base, whether it is let; the law's own block -/
def Bb (W : World) (tb bp wp mp mq : Nat) (B : Int) (L : Bool) (w : World) : Prop := ∃ X, Bo W w X ∧ X.bp = bp ∧ X.n = 1 ∧ (X.dv 0).kd = 3 ∧ X.E tb = some (.cells #[ptr bp, ptr wp, ptr mp, ptr mq] 35) ∧ (X.V 0).base = B ∧ P.bt2 (X.V 0).c = L
section
variable {W w : World} {tb bp wp mp mq : Nat} {B : Int} {L : Bool}
theorem Bb.cs (h : Bb W tb bp wp mp mq B L w) : w.cell? ⟨tb, 0, none⟩ = some (ptr bp) ∧ w.cell? ⟨tb, 2, none⟩ = some (ptr mp) := by
  obtain ⟨X, h1, -, -, -, h5, -⟩ := h
  have := h1.ex h5
  exact ⟨cell_of_row w tb 0 _ _ _ this, cell_of_row w tb 2 _ _ _ this⟩
theorem Bb.bel (h : Bb W tb bp wp mp mq B L w) : Below W.heap.size W w := by
  obtain ⟨X, h1, -⟩ := h
  exact h1.bel
theorem bb_base (h : Bb W tb bp wp mp mq B L w) (mv : Value) (x : Int) (h0 : 0 ≤ x) (h1 : x < 4294967296) (hm : x % 4096 = 0) : Calls Tryz.prog 13 #[ptr bp, mv, .int .u64 805306384, .int .i64 4, .int .u64 x] w fun r w' => r = .returned (.bool true) ∧ Bb W tb bp wp mp mq x L w' := by
  obtain ⟨X, hB, rfl, hn, hk, hE, hb, hc⟩ := h
  have := b_WriteP hB mv 16 4 x (by decide) (by decide) (by decide) (by decide) h0 (by omega) _ rfl
  rw [show (805306368 : Int) + 16 = 805306384 by decide] at this
  refine this.mono ?_
  rintro r w' ⟨rfl, q⟩
  refine ⟨rfl, _, q, rfl, hn, hk, hE, ?_⟩
  have hw : P.wrV X.n X.V (16 / 4096) (16 % 4096) 4 x 0 = (X.V 0).wr 16 4 x := by
    rw [hn]
    rfl
  show ((P.wrV X.n X.V (16 / 4096) (16 % 4096) 4 x) 0).base = x ∧ P.bt2 ((P.wrV X.n X.V (16 / 4096) (16 % 4096) 4 x) 0).c = L
  rw [hw]
  obtain ⟨e1, e2⟩ := wr_base (X.V 0) x h0 h1 hm
  rw [e2]
  exact ⟨e1, hc⟩
theorem bb_cmd (h : Bb W tb bp wp mp mq B L w) (mv : Value) (x : Int) (h0 : 0 ≤ x) (h1 : x < 4294967296) (L' : Bool) (hL : P.bt2 (P.a6 (C.byt x 0)) = L') : Calls Tryz.prog 13 #[ptr bp, mv, .int .u64 805306372, .int .i64 2, .int .u64 x] w fun r w' => r = .returned (.bool true) ∧ Bb W tb bp wp mp mq B L' w' := by
  obtain ⟨X, hB, rfl, hn, hk, hE, hb, hc⟩ := h
  have := b_WriteP hB mv 4 2 x (by decide) (by decide) (by decide) (by decide) h0 (by omega) _ rfl
  rw [show (805306368 : Int) + 4 = 805306372 by decide] at this
  refine this.mono ?_
  rintro r w' ⟨rfl, q⟩
  refine ⟨rfl, _, q, rfl, hn, hk, hE, ?_⟩
  have hw : P.wrV X.n X.V (4 / 4096) (4 % 4096) 2 x 0 = (X.V 0).wr 4 2 x := by
    rw [hn]
    rfl
  show ((P.wrV X.n X.V (4 / 4096) (4 % 4096) 2 x) 0).base = B ∧ P.bt2 ((P.wrV X.n X.V (4 / 4096) (4 % 4096) 2 x) 0).c = L'
  rw [hw]
  obtain ⟨e1, e2⟩ := wr_cmd (X.V 0) x
  rw [e1, e2]
  exact ⟨hb, hL⟩
/-- an address of a device's base: no place has it -/
theorem no_place (a : Int) (h0 : 1073741824 ≤ a) (h1 : a < 2147483648) : hitP a 0 = false ∧ hitP a 1 = false ∧ hitP a 2 = false ∧ hitP a 3 = false := by
  have e0 : plO a 0 = a - 268435456 := by show IntKind.u64.wrap (a - 268435456) = _; rw [IntKind.wrap_u64]; omega
  have e1 : plO a 1 = a - 268439552 := by show IntKind.u64.wrap (a - 268439552) = _; rw [IntKind.wrap_u64]; omega
  have e2 : plO a 2 = a - 201326592 := by show IntKind.u64.wrap (a - 201326592) = _; rw [IntKind.wrap_u64]; omega
  have e3 : plO a 3 = a - 805306368 := by show IntKind.u64.wrap (a - 805306368) = _; rw [IntKind.wrap_u64]; omega
  unfold hitP
  rw [e0, e1, e2, e3]
  exact ⟨decide_eq_false (show ¬ a - 268435456 < 8 by omega), decide_eq_false (show ¬ a - 268439552 < 4096 by omega), decide_eq_false (show ¬ a - 201326592 < 16384 by omega), decide_eq_false (show ¬ a - 805306368 < 32768 by omega)⟩
theorem bb_hit (h : Bb W tb bp wp mp mq B true w) (mv : Value) (h0 : 1073741824 ≤ B) (h1 : B < 2147479552) : Calls Tryz.prog 14 #[ptr bp, mv, .int .u64 (B + 8), .int .i64 4, .int .u64 0] w fun r w' => r = .returned (.tuple #[.int .u64 3, .bool true]) ∧ Bb W tb bp wp mp mq B true w' := by
  obtain ⟨X, hB, rfl, hn, hk, hE, hb, hc⟩ := h
  obtain ⟨q0, q1, q2, q3⟩ := no_place (B + 8) (by omega) (by omega)
  have hh : P.hitV X.V (B + 8) 0 = true := by
    unfold P.hitV P.Sv.on
    rw [hb, hc]
    simp
    omega
  obtain ⟨f1, f2, f3⟩ := P.fd_hit (n := X.n) (V := X.V) (a := B + 8) (j := 0) (by omega) hh (fun i hi => absurd hi (Nat.not_lt_zero i))
  have e1 : fdD X (B + 8) = ptD (X.pv 0) := by unfold fdD; simp [q0, q1, q2, q3, f3, f1]
  have e2 : fdF X (B + 8) = 8 := by unfold fdF; simp [q0, q1, q2, q3, f3, f2, hb]; omega
  refine (b_ReadD hB mv (B + 8) 0 (by omega) (by omega) 0 (by omega) 3 hk (by decide) (by decide) e1 e2).mono ?_
  rintro r w' ⟨rfl, q⟩
  exact ⟨rfl, _, q, rfl, hn, hk, hE, hb, hc⟩
theorem bb_miss (h : Bb W tb bp wp mp mq B L w) (mv : Value) (a : Int) (h0 : 1073741824 ≤ a) (h1 : a < 2147479552) (hm : a % 4096 = 0) (hB4 : B % 4096 = 0) (hx : L = false ∨ a ≠ B) : Calls Tryz.prog 14 #[ptr bp, mv, .int .u64 (a + 8), .int .i64 4, .int .u64 0] w fun r w' => r = .returned (.tuple #[.int .u64 0, .bool false]) ∧ Bb W tb bp wp mp mq B L w' := by
  obtain ⟨X, hB, rfl, hn, hk, hE, hb, hc⟩ := h
  obtain ⟨q0, q1, q2, q3⟩ := no_place (a + 8) (by omega) (by omega)
  have hh : P.hitV X.V (a + 8) 0 = false := by
    unfold P.hitV P.Sv.on
    rw [hb, hc]
    rcases hx with rfl | hx
    · simp
    · have : ¬ (B ≤ a + 8 ∧ a + 8 - B < 4096) := by omega
      simp [this]
  obtain ⟨f1, f2, f3⟩ := P.fd_none (n := X.n) (V := X.V) (a := a + 8) (fun i hi => by obtain rfl : i = 0 := (by omega); exact hh)
  have e1 : fdD X (a + 8) = nbd := by unfold fdD; simp [q0, q1, q2, q3, f3]
  refine (b_ReadX hB mv (a + 8) 4 0 (by omega) (by omega) e1).mono ?_
  rintro r w' ⟨rfl, q⟩
  exact ⟨rfl, _, q, rfl, hn, hk, hE, hb, hc⟩
theorem Bo.bb {w3 : World} {X : BX} (h : Bo W w3 X) (hn : X.n = 1) (hk : (X.dv 0).kd = 3) (hV : X.V = (fun _ => P.sv0 3)) : Bb W w3.heap.size X.bp wp mp mq 0 false (w3.alloc (.cells #[ptr X.bp, ptr wp, ptr mp, ptr mq] 35)) :=
  ⟨_, h.add _, rfl, hn, hk, if_pos rfl, by show (X.V 0).base = 0; rw [hV]; rfl, by show P.bt2 (X.V 0).c = false; rw [hV]; decide +kernel⟩
end
end Go.Proofs.YtjkihlpckgaggaaGreat
namespace Go.Proofs.YtjkihlpckgaggaaGreat
open Go.RowKit
open C (Only hid Still ret_bool ret_int)
set_option linter.unusedVariables false
set_option maxRecDepth 100000

theorem and_lowG (n : Int) (n0 : 0 ≤ n) (n1 : n < 18446744073709551616) : bits BinOp.and IntKind.u64 n 4294967295 = n % 4294967296 := by
  obtain ⟨k, rfl⟩ : ∃ k : Nat, n = k := ⟨n.toNat, by omega⟩
  have e := u64_and_nat k 4294967295 (by omega) (by decide)
  have e2 := Nat.and_two_pow_sub_one_eq_mod k 32
  rw [show (2 : Nat) ^ 32 - 1 = 4294967295 by decide, show (2 : Nat) ^ 32 = 4294967296 by decide] at e2
  rw [e2] at e
  have e3 : ((4294967295 : Nat) : Int) = 4294967295 := rfl
  rw [e3] at e
  rw [e]
  omega
theorem ck_read0 (w : World) (p : Nat) (hv s n : Int) (H : w.heap[p]? = some (.cells #[.int .u64 hv] 238 (0, 0))) (n0 : 0 ≤ n) (n1 : n < 18446744073709551616) :
    Calls Tryz.prog 290 #[ptr p, .int .u64 0, .int .i64 s, .int .u64 n] w fun e w' => e = .returned (.tuple #[.int .u64 (if s = 4 then n % 4294967296 else 0), .bool (decide (s = 4))]) ∧ (∃ hv', w'.heap[p]? = some (.cells #[.int .u64 hv'] 238 (0, 0))) ∧ Only (· = p) w w' := by
  have c0 : w.cell? ⟨p, 0, none⟩ = some (.int .u64 hv) := cell_of_row w p 0 _ _ _ H
  have z0 : w.frozen? ⟨p, 0, none⟩ = false := frozen_of_row w p 0 _ _ H
  have ea := and_lowG n n0 n1
  have HC := hid H
  clear H
  by_cases q1 : s = 4
  · subst q1
    go_enter Tryz.func290, Tryz.ntmps290
    go_wp2
    go_returns
    exact ⟨rfl, ⟨_, setRowB w p 0 _ _ _ _ HC.out rfl⟩, only_c w p 0 _⟩
  · have e1 : (if s = 4 then n % 4294967296 else 0) = 0 := if_neg q1
    have e2 : decide (s = 4) = false := decide_eq_false q1
    rw [e1, e2]
    clear e1 e2
    go_enter Tryz.func290, Tryz.ntmps290
    go_wp2
    go_returns
    exact ⟨rfl, ⟨hv, HC.out⟩, .refl w⟩
theorem fd_c (X : BX) (o : Int) (o0 : 0 ≤ o) (o1 : o < 4096) : fdD X (268439552 + o) = .iface 184 (.agg #[ptr X.kc]) ∧ fdF X (268439552 + o) = o := by
  have e0 : plO (268439552 + o) 0 = 4096 + o := by show IntKind.u64.wrap ((268439552 + o) - 268435456) = _; rw [IntKind.wrap_u64]; omega
  have e1 : plO (268439552 + o) 1 = o := by show IntKind.u64.wrap ((268439552 + o) - 268439552) = _; rw [IntKind.wrap_u64]; omega
  have h0 : hitP (268439552 + o) 0 = false := by unfold hitP; rw [e0]; exact decide_eq_false (show ¬ 4096 + o < 8 by omega)
  have h1 : hitP (268439552 + o) 1 = true := by unfold hitP; rw [e1]; exact decide_eq_true (show o < 4096 from o1)
  unfold fdD fdF
  rw [h0, h1, e1]
  exact ⟨rfl, rfl⟩
theorem fd_i (X : BX) (o : Int) (o0 : 0 ≤ o) (o1 : o < 16384) : fdD X (201326592 + o) = .iface 186 (.agg #[ptr X.pi]) ∧ fdF X (201326592 + o) = o := by
  have e0 : plO (201326592 + o) 0 = 18446744073642442752 + o := by show IntKind.u64.wrap ((201326592 + o) - 268435456) = _; rw [IntKind.wrap_u64]; omega
  have e1 : plO (201326592 + o) 1 = 18446744073642438656 + o := by show IntKind.u64.wrap ((201326592 + o) - 268439552) = _; rw [IntKind.wrap_u64]; omega
  have e2 : plO (201326592 + o) 2 = o := by show IntKind.u64.wrap ((201326592 + o) - 201326592) = _; rw [IntKind.wrap_u64]; omega
  have h0 : hitP (201326592 + o) 0 = false := by unfold hitP; rw [e0]; exact decide_eq_false (show ¬ 18446744073642442752 + o < 8 by omega)
  have h1 : hitP (201326592 + o) 1 = false := by unfold hitP; rw [e1]; exact decide_eq_false (show ¬ 18446744073642438656 + o < 4096 by omega)
  have h2 : hitP (201326592 + o) 2 = true := by unfold hitP; rw [e2]; exact decide_eq_true (show o < 16384 from o1)
  unfold fdD fdF
  rw [h0, h1, h2, e2]
  exact ⟨rfl, rfl⟩
section
variable {W w w' : World} {c : Nat → Nat} {X : BX}
theorem Bd.turnK (h : Bd W w c X) (ho : Only (· = X.kc) w w') {hv : Int} (hk : w'.heap[X.kc]? = some (.cells #[.int .u64 hv] 238 (0, 0))) : Bd W w' c X := by
  obtain ⟨⟨hv0, e0⟩, k2, k3⟩ := h.k
  obtain ⟨Fu, u1, u2⟩ := h.u
  obtain ⟨Fi, i1, i2⟩ := h.i
  obtain ⟨Fb, b1, b2⟩ := h.b
  obtain ⟨z1, z2, z3, z4⟩ := h.c0
  have ne : ∀ k m, c k = m → m ≠ 5 → k ≠ X.kc := fun k m e q f => by rw [f, k2] at e; exact q e.symm
  refine ⟨h.bel.trans (ho.below _ h.bel.size fun k hk => by subst hk; exact k3), ho.old h.top (ne _ _ z1 (by decide)), ho.old h.sp (ne _ _ z2 (by decide)), own_only h.pr ho (fun k hk => ?_), ho.old h.pl (ne _ _ z4 (by decide)),
    ⟨Fu, u1.only ho (fun k hk => ne _ _ (u2 k hk).1 (by decide)), u2⟩, ⟨Fi, i1.only ho (fun k hk => ne _ _ (i2 k hk).1 (by decide)), i2⟩, ⟨Fb, b1.only ho (fun k hk => ne _ _ (b2 k hk).1 (by decide)), b2⟩, h.vok, fun j hj => ?_, h.n8, h.c0, h.w0, fun k o hk => by obtain ⟨e1, e2, e3⟩ := h.ee k o hk; exact ⟨ho.old e1 (ne _ _ e2 (by decide)), e2, Nat.lt_of_lt_of_le e3 ho.size⟩, ⟨⟨hv, hk⟩, k2, k3⟩⟩
  · obtain rfl : X.g = k := Option.some.inj (show some X.g = some k from hk)
    exact ne _ _ z3 (by decide)
  · obtain ⟨d1, d2, d3⟩ := h.d j hj
    exact ⟨d1.only ho (ne _ _ d2 (by decide)) (fun k hk => by subst hk; exact ⟨_, _, _, e0, by decide⟩), d2, d3⟩
/-- the clock's low half -/
theorem cl_read (h : Bo W w X) (s n : Int) (n0 : 0 ≤ n) (n1 : n < 18446744073709551616) : Calls Tryz.prog 291 #[.agg #[ptr X.kc], .int .u64 0, .int .i64 s, .int .u64 n] w fun r w' => r = .returned (.tuple #[.int .u64 (if s = 4 then n % 4294967296 else 0), .bool (decide (s = 4))]) ∧ Bo W w' X := by
  obtain ⟨w1, hw1⟩ : ∃ w1, w1 = w.alloc (.cells #[ptr X.kc] 184) := ⟨_, rfl⟩
  have hB : Bo W w1 X := by rw [hw1]; exact h.below ((Below.refl w.heap.size w).alloc (Nat.le_refl _) _)
  have hc : (w.alloc (.cells #[ptr X.kc] 184)).cell? ⟨w.heap.size, 0, none⟩ = some (ptr X.kc) := cell_of_row _ _ 0 _ _ _ (heap_alloc_new w _)
  obtain ⟨c, hb⟩ := hB
  obtain ⟨⟨hv, e0⟩, -⟩ := hb.k
  have HR := hid (ck_read0 w1 X.kc hv s n e0 n0 n1)
  have HT : Hid (∀ w2, (∃ hv', w2.heap[X.kc]? = some (.cells #[.int .u64 hv'] 238 (0, 0))) → Only (· = X.kc) w1 w2 → Bo W w2 X) := hid fun w2 ⟨hv', q1⟩ q2 => ⟨c, hb.turnK q2 q1⟩
  rw [hw1] at HR HT
  clear h hb e0 hw1
  generalize (if s = 4 then n % 4294967296 else 0) = rv at *
  generalize decide (s = 4) = rb at *
  generalize X.kc = kc at *
  go_enter Tryz.func291, Tryz.ntmps291
  go_wp2_with (go_at_call 290; refine HR.out.mono ?_; rintro r w2 ⟨rfl, q1, q2⟩; have H2 := hid (HT.out w2 q1 q2); clear q1 q2)
  go_returns
  exact ⟨rfl, H2.out⟩
theorem co_read (h : Bo W w X) (o s n : Int) (o0 : 0 ≤ o) (o1 : o < 18446744073709551616) (s0 : -9223372036854775808 ≤ s) (s1 : s ≤ 9223372036854775807) : Calls Tryz.prog 292 #[.agg #[ptr X.pi], .int .u64 o, .int .i64 s, .int .u64 n] w fun r w' => r = .returned (.tuple #[.int .u64 (X.I.rd o s).1, .bool (X.I.rd o s).2.1]) ∧ Bo W w' (X.at (X.I.rd o s).2.2) := by
  obtain ⟨w1, hw1⟩ : ∃ w1, w1 = w.alloc (.cells #[ptr X.pi] 186) := ⟨_, rfl⟩
  have hB : Bo W w1 X := by rw [hw1]; exact h.below ((Below.refl w.heap.size w).alloc (Nat.le_refl _) _)
  have hc : (w.alloc (.cells #[ptr X.pi] 186)).cell? ⟨w.heap.size, 0, none⟩ = some (ptr X.pi) := cell_of_row _ _ 0 _ _ _ (heap_alloc_new w _)
  obtain ⟨c, hb⟩ := hB
  obtain ⟨F, i1, i2⟩ := hb.i
  have HR := hid (L.i_Read w1 F X.pi X.I i1 o s o0 o1 s0 s1)
  have HT : Hid (∀ w2 I', L.Ix w2 F X.pi I' → Only F w1 w2 → Bo W w2 (X.at I')) := hid fun w2 I' q1 q2 => ⟨c, hb.turnI i1 i2 q1 q2⟩
  rw [hw1] at HR HT
  clear h hb i1 i2 hw1
  generalize X.I.rd o s = rr at *
  generalize hpi : X.pi = pi at *
  go_enter Tryz.func292, Tryz.ntmps292
  go_wp2_with (go_at_call 225; refine HR.out.mono ?_; rintro r w2 ⟨rfl, q1, q2⟩; have H2 := hid (HT.out w2 _ q1 q2); clear q1 q2)
  go_returns
  exact ⟨rfl, H2.out⟩
theorem co_write (h : Bo W w X) (mv : Value) (o s v : Int) (o0 : 0 ≤ o) (o1 : o < 18446744073709551616) (s0 : -9223372036854775808 ≤ s) (s1 : s ≤ 9223372036854775807) (v0 : 0 ≤ v) (v1 : v < 18446744073709551616) : Calls Tryz.prog 293 #[.agg #[ptr X.pi], mv, .int .u64 o, .int .i64 s, .int .u64 v] w fun r w' => r = .returned (.bool (X.I.wr o s v).1) ∧ Bo W w' (X.at (X.I.wr o s v).2) := by
  obtain ⟨w1, hw1⟩ : ∃ w1, w1 = w.alloc (.cells #[ptr X.pi] 186) := ⟨_, rfl⟩
  have hB : Bo W w1 X := by rw [hw1]; exact h.below ((Below.refl w.heap.size w).alloc (Nat.le_refl _) _)
  have hc : (w.alloc (.cells #[ptr X.pi] 186)).cell? ⟨w.heap.size, 0, none⟩ = some (ptr X.pi) := cell_of_row _ _ 0 _ _ _ (heap_alloc_new w _)
  obtain ⟨c, hb⟩ := hB
  obtain ⟨F, i1, i2⟩ := hb.i
  have HR := hid (L.i_Write w1 F X.pi X.I i1 o s v o0 o1 s0 s1 v0 v1)
  have HT : Hid (∀ w2 I', L.Ix w2 F X.pi I' → Only F w1 w2 → Bo W w2 (X.at I')) := hid fun w2 I' q1 q2 => ⟨c, hb.turnI i1 i2 q1 q2⟩
  rw [hw1] at HR HT
  clear h hb i1 i2 hw1
  generalize X.I.wr o s v = rr at *
  generalize hpi : X.pi = pi at *
  go_enter Tryz.func293, Tryz.ntmps293
  go_wp2_with (go_at_call 226; refine HR.out.mono ?_; rintro r w2 ⟨rfl, q1, q2⟩; have H2 := hid (HT.out w2 _ q1 q2); clear q1 q2)
  go_ret
  exact ⟨rfl, H2.out⟩
theorem se_write (h : Bo W w X) (mv : Value) (o s v : Int) (o0 : 0 ≤ o) (o1 : o < 18446744073709551616) (v0 : 0 ≤ v) (v1 : v < 18446744073709551616) (hl : X.U.s.length < 140737488355328) (Y : BX) (hY : Y = if s = 1 then X.au (X.U.wr o (v % 256)) else X) : Calls Tryz.prog 223 #[.agg #[ptr X.pu], mv, .int .u64 o, .int .i64 s, .int .u64 v] w fun r w' => r = .returned (.bool (decide (s = 1))) ∧ Bo W w' Y := by
  obtain ⟨w1, hw1⟩ : ∃ w1, w1 = w.alloc (.cells #[ptr X.pu] 74) := ⟨_, rfl⟩
  have hB : Bo W w1 X := by rw [hw1]; exact h.below ((Below.refl w.heap.size w).alloc (Nat.le_refl _) _)
  have hc : (w.alloc (.cells #[ptr X.pu] 74)).cell? ⟨w.heap.size, 0, none⟩ = some (ptr X.pu) := cell_of_row _ _ 0 _ _ _ (heap_alloc_new w _)
  have HB := hid hB
  obtain ⟨c, hb⟩ := hB
  obtain ⟨F, u1, u2⟩ := hb.u
  have hby : L.Byt (v % 256) := ⟨by omega, by omega⟩
  have HR := hid (L.u_Write w1 F X.pu X.U o (v % 256) u1 o0 o1 hby hl)
  have HT : Hid (∀ w2, (∃ F', L.Ux w2 F' X.pu (X.U.wr o (v % 256)) ∧ L.Tn w1 w2 F F') → Bo W w2 (X.au (X.U.wr o (v % 256)))) := hid fun w2 ⟨F', q1, q2⟩ => ⟨_, hb.turnU u1 u2 q1 q2⟩
  have ew : IntKind.u8.wrap v = v % 256 := by rw [IntKind.wrap_u8]
  rw [hw1] at HR HT HB
  clear h hb u1 u2 hw1 hby hl
  by_cases q1 : s = 1
  · subst q1
    rw [if_pos rfl] at hY
    rw [← hY] at HT
    clear HB hY
    generalize v % 256 = v8 at *
    generalize X.pu = pu at *
    go_enter Tryz.func223, Tryz.ntmps223
    go_wp2_with (go_at_call 215; refine HR.out.mono ?_; rintro r w2 ⟨rfl, q2⟩; have H2 := hid (HT.out w2 q2); clear q2)
    go_ret
    exact ⟨rfl, H2.out⟩
  · rw [if_neg q1] at hY
    rw [hY]
    clear hY
    have e2 : decide (s = 1) = false := decide_eq_false q1
    rw [e2]
    clear HR HT e2
    generalize X.pu = pu at *
    go_enter Tryz.func223, Tryz.ntmps223
    go_wp2
    go_ret
    exact ⟨rfl, HB.out⟩
end
end Go.Proofs.YtjkihlpckgaggaaGreat
namespace Go.Proofs.YtjkihlpckgaggaaGreat
open Go.RowKit
open C (Only hid Still ret_bool ret_int)
set_option linter.unusedVariables false
set_option maxRecDepth 100000

section
variable {W w : World} {X : BX}
set_option maxHeartbeats 1000000 in
theorem b_WriteU (h : Bo W w X) (mv : Value) (o z v : Int) (o0 : 0 ≤ o) (o1 : o < 8) (v0 : 0 ≤ v) (v1 : v < 18446744073709551616) (hl : X.U.s.length < 140737488355328) (Y : BX) (hY : Y = if z = 1 then X.au (X.U.wr o (v % 256)) else X) :
    Calls Tryz.prog 13 #[ptr X.bp, mv, .int .u64 (268435456 + o), .int .i64 z, .int .u64 v] w fun r w' => r = .returned (.bool (decide (z = 1))) ∧ Bo W w' (Y.at (lvI Y Y.n)) := by
  have hF := b_find h (268435456 + o) (by omega) (by omega)
  obtain ⟨e1, e2⟩ := fd_u X o o0 o1
  rw [e1, e2] at hF
  have HF := hid hF
  have HR := hid (fun w8 (q : Bo W w8 X) => se_write q mv o z v o0 (by omega) v0 v1 hl Y hY)
  have HL := hid (fun w8 (q : Bo W w8 Y) => b_level W w8 Y q)
  rw [show Y.bp = X.bp by rw [hY]; split <;> rfl] at HL
  generalize decide (z = 1) = rb at *
  clear h hF e1 e2 hY
  go_enter Tryz.func13, Tryz.ntmps13
  go_wp2_with (first
    | (go_at_call 24; refine HF.out.mono ?_; rintro r w1 ⟨rfl, k⟩; have H1 := hid k; clear k)
    | (go_at_call 223; refine (HR.out w1 H1.out).mono ?_; rintro r w2 ⟨rfl, k⟩; have H2 := hid k; clear k)
    | (go_at_call 25; refine (HL.out w2 H2.out).mono ?_; rintro r w3 ⟨rfl, k⟩; have H3 := hid k; clear k))
  go_returns
  exact ⟨rfl, H3.out⟩
set_option maxHeartbeats 1000000 in
theorem b_WriteI (h : Bo W w X) (mv : Value) (o z v : Int) (o0 : 0 ≤ o) (o1 : o < 16384) (z0 : -9223372036854775808 ≤ z) (z1 : z ≤ 9223372036854775807) (v0 : 0 ≤ v) (v1 : v < 18446744073709551616) (Y : BX) (hY : Y = X.at (X.I.wr o z v).2) (rb : Bool) (hb : (X.I.wr o z v).1 = rb) :
    Calls Tryz.prog 13 #[ptr X.bp, mv, .int .u64 (201326592 + o), .int .i64 z, .int .u64 v] w fun r w' => r = .returned (.bool rb) ∧ Bo W w' (Y.at (lvI Y Y.n)) := by
  have hF := b_find h (201326592 + o) (by omega) (by omega)
  obtain ⟨e1, e2⟩ := fd_i X o o0 o1
  rw [e1, e2] at hF
  have HF := hid hF
  have HR := hid (fun w8 (q : Bo W w8 X) => co_write q mv o z v o0 (by omega) z0 z1 v0 v1)
  rw [← hY, hb] at HR
  have HL := hid (fun w8 (q : Bo W w8 Y) => b_level W w8 Y q)
  rw [show Y.bp = X.bp by rw [hY]; rfl] at HL
  clear h hF e1 e2 hY hb
  go_enter Tryz.func13, Tryz.ntmps13
  go_wp2_with (first
    | (go_at_call 24; refine HF.out.mono ?_; rintro r w1 ⟨rfl, k⟩; have H1 := hid k; clear k)
    | (go_at_call 293; refine (HR.out w1 H1.out).mono ?_; rintro r w2 ⟨rfl, k⟩; have H2 := hid k; clear k)
    | (go_at_call 25; refine (HL.out w2 H2.out).mono ?_; rintro r w3 ⟨rfl, k⟩; have H3 := hid k; clear k))
  go_returns
  exact ⟨rfl, H3.out⟩
set_option maxHeartbeats 1000000 in
theorem b_ReadI (h : Bo W w X) (mv : Value) (o z nw : Int) (o0 : 0 ≤ o) (o1 : o < 16384) (z0 : -9223372036854775808 ≤ z) (z1 : z ≤ 9223372036854775807) (Y : BX) (hY : Y = X.at (X.I.rd o z).2.2) (rv : Int) (rb : Bool) (hv : (X.I.rd o z).1 = rv) (hb : (X.I.rd o z).2.1 = rb) :
    Calls Tryz.prog 14 #[ptr X.bp, mv, .int .u64 (201326592 + o), .int .i64 z, .int .u64 nw] w fun r w' => r = .returned (.tuple #[.int .u64 rv, .bool rb]) ∧ Bo W w' (Y.at (lvI Y Y.n)) := by
  have hF := b_find h (201326592 + o) (by omega) (by omega)
  obtain ⟨e1, e2⟩ := fd_i X o o0 o1
  rw [e1, e2] at hF
  have HF := hid hF
  have HR := hid (fun w8 (q : Bo W w8 X) => co_read q o z nw o0 (by omega) z0 z1)
  rw [← hY, hb, hv] at HR
  have HL := hid (fun w8 (q : Bo W w8 Y) => b_level W w8 Y q)
  rw [show Y.bp = X.bp by rw [hY]; rfl] at HL
  clear h hF e1 e2 hY hb hv
  go_enter Tryz.func14, Tryz.ntmps14
  go_wp2_with (first
    | (go_at_call 24; refine HF.out.mono ?_; rintro r w1 ⟨rfl, k⟩; have H1 := hid k; clear k)
    | (go_at_call 292; refine (HR.out w1 H1.out).mono ?_; rintro r w2 ⟨rfl, k⟩; have H2 := hid k; clear k)
    | (go_at_call 25; refine (HL.out w2 H2.out).mono ?_; rintro r w3 ⟨rfl, k⟩; have H3 := hid k; clear k))
  go_returns
  exact ⟨rfl, H3.out⟩
set_option maxHeartbeats 1000000 in
theorem b_ReadC (h : Bo W w X) (mv : Value) (z nw : Int) (n0 : 0 ≤ nw) (n1 : nw < 18446744073709551616) (rv : Int) (rb : Bool) (hv : (if z = 4 then nw % 4294967296 else 0) = rv) (hb : decide (z = 4) = rb) :
    Calls Tryz.prog 14 #[ptr X.bp, mv, .int .u64 268439552, .int .i64 z, .int .u64 nw] w fun r w' => r = .returned (.tuple #[.int .u64 rv, .bool rb]) ∧ Bo W w' (X.at (lvI X X.n)) := by
  have hF := b_find h 268439552 (by omega) (by omega)
  obtain ⟨e1, e2⟩ := fd_c X 0 (by decide) (by decide)
  rw [show (268439552 : Int) + 0 = 268439552 by decide] at e1 e2
  rw [e1, e2] at hF
  have HF := hid hF
  have HR := hid (fun w8 (q : Bo W w8 X) => cl_read q z nw n0 n1)
  rw [hb, hv] at HR
  have HL := hid (fun w8 (q : Bo W w8 X) => b_level W w8 X q)
  clear h hF e1 e2 hb hv
  go_enter Tryz.func14, Tryz.ntmps14
  go_wp2_with (first
    | (go_at_call 24; refine HF.out.mono ?_; rintro r w1 ⟨rfl, k⟩; have H1 := hid k; clear k)
    | (go_at_call 291; refine (HR.out w1 H1.out).mono ?_; rintro r w2 ⟨rfl, k⟩; have H2 := hid k; clear k)
    | (go_at_call 25; refine (HL.out w2 H2.out).mono ?_; rintro r w3 ⟨rfl, k⟩; have H3 := hid k; clear k))
  go_returns
  exact ⟨rfl, H3.out⟩
set_option maxHeartbeats 1000000 in
theorem no_write (h : Bo W w X) (mv : Value) (o z v : Int) : Calls Tryz.prog 246 #[.agg #[], mv, .int .u64 o, .int .i64 z, .int .u64 v] w fun r w' => r = .returned (.bool false) ∧ Bo W w' X := by
  have HQ := hid (h.below ((Below.refl w.heap.size w).alloc (Nat.le_refl _) (.cells #[] 149)))
  clear h
  go_enter Tryz.func246, Tryz.ntmps246
  go_wp2
  go_ret
  exact ⟨rfl, HQ.out⟩
set_option maxHeartbeats 1000000 in
theorem b_WriteC (h : Bo W w X) (mv : Value) (z v : Int) :
    Calls Tryz.prog 13 #[ptr X.bp, mv, .int .u64 268439552, .int .i64 z, .int .u64 v] w fun r w' => r = .returned (.bool false) ∧ Bo W w' (X.at (lvI X X.n)) := by
  have hF := b_find h 268439552 (by omega) (by omega)
  obtain ⟨e1, e2⟩ := fd_c X 0 (by decide) (by decide)
  rw [show (268439552 : Int) + 0 = 268439552 by decide] at e1 e2
  rw [e1, e2] at hF
  have HF := hid hF
  have HR := hid (fun w8 (q : Bo W w8 X) => no_write q mv 0 z v)
  have HL := hid (fun w8 (q : Bo W w8 X) => b_level W w8 X q)
  clear h hF e1 e2
  go_enter Tryz.func13, Tryz.ntmps13
  go_wp2_with (first
    | (go_at_call 24; refine HF.out.mono ?_; rintro r w1 ⟨rfl, k⟩; have H1 := hid k; clear k)
    | (go_at_call 246; refine (HR.out w1 H1.out).mono ?_; rintro r w2 ⟨rfl, k⟩; have H2 := hid k; clear k)
    | (go_at_call 25; refine (HL.out w2 H2.out).mono ?_; rintro r w3 ⟨rfl, k⟩; have H3 := hid k; clear k))
  go_returns
  exact ⟨rfl, H3.out⟩
end
end Go.Proofs.YtjkihlpckgaggaaGreat
namespace Go.Proofs.YtjkihlpckgaggaaGreat
open Go.RowKit
open C (Only hid Still ret_bool ret_int row)
open P (Ls)
set_option linter.unusedVariables false
set_option maxRecDepth 100000

theorem and_fe (k : Nat) (h : k < 4294967296) : k &&& 4294967294 = k / 2 * 2 := by
  have h1 : (k &&& 4294967294) / 2 = k / 2 := by
    rw [Nat.and_div_two]
    have := Nat.and_two_pow_sub_one_eq_mod (k / 2) 31
    rw [show (2 : Nat) ^ 31 - 1 = 4294967294 / 2 by decide, show (2 : Nat) ^ 31 = 2147483648 by decide] at this
    rw [this]
    omega
  have h2 : (k &&& 4294967294) % 2 = 0 := by
    have := Nat.testBit_and k 4294967294 0
    rw [show Nat.testBit 4294967294 0 = false by decide, Bool.and_false, Nat.testBit_zero] at this
    have h3 := of_decide_eq_false this
    omega
  omega
/-- a board with a console: its UART, what hart 1 lets; the law's own block -/
def Rb (W : World) (tb bp wp mp mq : Nat) (U : L.UV) (l1 : Nat) (w : World) : Prop := ∃ X, Bo W w X ∧ X.bp = bp ∧ X.n = 1 ∧ X.E tb = some (.cells #[ptr bp, ptr wp, ptr mp, ptr mq] 35 (0, 0)) ∧ X.V = (fun _ => P.sv0 3) ∧ X.U = U ∧ X.I.n = 2 ∧ X.I.le 0 = 0 ∧ X.I.le 1 = l1
theorem lvI_le (X : BX) : ∀ k, (lvI X k).le = X.I.le ∧ (lvI X k).n = X.I.n
  | 0 => ⟨rfl, rfl⟩
  | k + 1 => lvI_le X k
section
variable {W w w' : World} {tb bp wp mp mq : Nat} {U : L.UV} {l1 : Nat}
theorem Rb.cs (h : Rb W tb bp wp mp mq U l1 w) : w.cell? ⟨tb, 0, none⟩ = some (ptr bp) ∧ w.cell? ⟨tb, 2, none⟩ = some (ptr mp) := by
  obtain ⟨X, h1, -, -, h5, -⟩ := h
  have := h1.ex h5
  exact ⟨cell_of_row w tb 0 _ _ _ this, cell_of_row w tb 2 _ _ _ this⟩
theorem Rb.bel (h : Rb W tb bp wp mp mq U l1 w) : Below W.heap.size W w := by
  obtain ⟨X, h1, -⟩ := h
  exact h1.bel
theorem Rb.below (h : Rb W tb bp wp mp mq U l1 w) (hb : Below w.heap.size w w') : Rb W tb bp wp mp mq U l1 w' := by
  obtain ⟨X, h1, h2⟩ := h
  exact ⟨X, h1.below hb, h2⟩
/-- behind the levels -/
theorem Rb.mk {X Y : BX} (hB : Bo W w' (Y.at (lvI Y Y.n))) (h1 : Y.bp = bp) (h2 : Y.n = 1) (h3 : Y.E tb = some (.cells #[ptr bp, ptr wp, ptr mp, ptr mq] 35 (0, 0))) (h4 : Y.V = (fun _ => P.sv0 3)) (h5 : Y.U = U) (h6 : Y.I.n = 2) (h7 : Y.I.le 0 = 0) (h8 : Y.I.le 1 = l1) : Rb W tb bp wp mp mq U l1 w' := by
  obtain ⟨e1, e2⟩ := lvI_le Y Y.n
  exact ⟨_, hB, h1, h2, h3, h4, h5, by show (lvI Y Y.n).n = 2; rw [e2, h6], by show (lvI Y Y.n).le 0 = 0; rw [e1, h7], by show (lvI Y Y.n).le 1 = l1; rw [e1, h8]⟩
theorem rb_WU (h : Rb W tb bp wp mp mq U l1 w) (mv : Value) (z v : Int) (v0 : 0 ≤ v) (v1 : v < 18446744073709551616) (hl : U.s.length < 140737488355328) (U' : L.UV) (hU : (if z = 1 then U.wr 7 (v % 256) else U) = U') (rb : Bool) (hb : decide (z = 1) = rb) :
    Calls Tryz.prog 13 #[ptr bp, mv, .int .u64 268435463, .int .i64 z, .int .u64 v] w fun r w' => r = .returned (.bool rb) ∧ Rb W tb bp wp mp mq U' l1 w' := by
  obtain ⟨X, hB, rfl, hn, hE, hV, rfl, h6, h7, h8⟩ := h
  have := b_WriteU hB mv 7 z v (by decide) (by decide) v0 v1 hl _ rfl
  rw [show (268435456 : Int) + 7 = 268435463 by decide, hb] at this
  refine this.mono ?_
  rintro r w' ⟨rfl, q⟩
  refine ⟨rfl, ?_⟩
  by_cases hz : z = 1
  · rw [if_pos hz] at q hU
    exact Rb.mk (X := X) q rfl hn hE hV hU h6 h7 h8
  · rw [if_neg hz] at q hU
    exact Rb.mk (X := X) q rfl hn hE hV hU h6 h7 h8
theorem rb_RU (h : Rb W tb bp wp mp mq U l1 w) (mv : Value) (x : Int) (hx : U.h 7 = x) (x0 : 0 ≤ x) (x1 : x < 256) :
    Calls Tryz.prog 14 #[ptr bp, mv, .int .u64 268435463, .int .i64 1, .int .u64 0] w fun r w' => r = .returned (.tuple #[.int .u64 x, .bool true]) ∧ Rb W tb bp wp mp mq U l1 w' := by
  obtain ⟨X, hB, rfl, hn, hE, hV, rfl, h6, h7, h8⟩ := h
  have := b_ReadU hB mv 7 1 0 (by decide) (by decide) x (by rw [← hx]; rfl) x0 x1 _ rfl
  rw [show (268435456 : Int) + 7 = 268435463 by decide] at this
  refine this.mono ?_
  rintro r w' ⟨rfl, q⟩
  exact ⟨rfl, Rb.mk (X := X) q rfl hn hE hV rfl h6 h7 h8⟩
theorem rb_WI4 (h : Rb W tb bp wp mp mq U l1 w) (mv : Value) (v : Int) (v0 : 0 ≤ v) (v1 : v < 18446744073709551616) (l2 : Nat) (hl : (v % 4294967296).toNat / 2 * 2 = l2) :
    Calls Tryz.prog 13 #[ptr bp, mv, .int .u64 201330692, .int .i64 4, .int .u64 v] w fun r w' => r = .returned (.bool true) ∧ Rb W tb bp wp mp mq U l2 w' := by
  obtain ⟨X, hB, rfl, hn, hE, hV, rfl, h6, h7, h8⟩ := h
  have hw : X.I.wr 4100 4 v = (true, X.I.let 1 v) := by
    unfold L.IV.wr
    rw [h6]
    rfl
  have := b_WriteI hB mv 4100 4 v (by decide) (by decide) (by decide) (by decide) v0 v1 _ rfl true (by rw [hw])
  rw [show (201326592 : Int) + 4100 = 201330692 by decide, hw] at this
  refine this.mono ?_
  rintro r w' ⟨rfl, q⟩
  refine ⟨rfl, Rb.mk (X := X) q rfl hn hE hV rfl h6 ?_ ?_⟩
  · show L.upN X.I.le 1 ((v % 4294967296).toNat &&& 4294967294) 0 = 0
    rw [L.upN_other _ _ _ _ (by decide)]; exact h7
  · show L.upN X.I.le 1 ((v % 4294967296).toNat &&& 4294967294) 1 = l2
    rw [L.upN_same, and_fe _ (by omega)]
    exact hl
theorem rb_WIn (h : Rb W tb bp wp mp mq U l1 w) (mv : Value) (z v : Int) (hz : z ≠ 4) (z0 : -9223372036854775808 ≤ z) (z1 : z ≤ 9223372036854775807) (v0 : 0 ≤ v) (v1 : v < 18446744073709551616) :
    Calls Tryz.prog 13 #[ptr bp, mv, .int .u64 201330692, .int .i64 z, .int .u64 v] w fun r w' => r = .returned (.bool false) ∧ Rb W tb bp wp mp mq U l1 w' := by
  obtain ⟨X, hB, rfl, hn, hE, hV, rfl, h6, h7, h8⟩ := h
  have hw : X.I.wr 4100 z v = (false, X.I) := by
    unfold L.IV.wr L.fdN
    simp [hz]
  have := b_WriteI hB mv 4100 z v (by decide) (by decide) z0 z1 v0 v1 _ rfl false (by rw [hw])
  rw [show (201326592 : Int) + 4100 = 201330692 by decide, hw] at this
  refine this.mono ?_
  rintro r w' ⟨rfl, q⟩
  exact ⟨rfl, Rb.mk (X := X) q rfl hn hE hV rfl h6 h7 h8⟩
theorem rb_RI1 (h : Rb W tb bp wp mp mq U l1 w) (mv : Value) :
    Calls Tryz.prog 14 #[ptr bp, mv, .int .u64 201330692, .int .i64 4, .int .u64 0] w fun r w' => r = .returned (.tuple #[.int .u64 (l1 : Int), .bool true]) ∧ Rb W tb bp wp mp mq U l1 w' := by
  obtain ⟨X, hB, rfl, hn, hE, hV, rfl, h6, h7, h8⟩ := h
  have hw : X.I.rd 4100 4 = ((l1 : Int), true, X.I) := by
    rw [← h8]
    unfold L.IV.rd
    rw [h6]
    rfl
  have := b_ReadI hB mv 4100 4 0 (by decide) (by decide) (by decide) (by decide) _ rfl (l1 : Int) true (by rw [hw]) (by rw [hw])
  rw [show (201326592 : Int) + 4100 = 201330692 by decide, hw] at this
  refine this.mono ?_
  rintro r w' ⟨rfl, q⟩
  exact ⟨rfl, Rb.mk (X := X) q rfl hn hE hV rfl h6 h7 h8⟩
theorem rb_RI0 (h : Rb W tb bp wp mp mq U l1 w) (mv : Value) :
    Calls Tryz.prog 14 #[ptr bp, mv, .int .u64 201330688, .int .i64 4, .int .u64 0] w fun r w' => r = .returned (.tuple #[.int .u64 0, .bool true]) ∧ Rb W tb bp wp mp mq U l1 w' := by
  obtain ⟨X, hB, rfl, hn, hE, hV, rfl, h6, h7, h8⟩ := h
  have hw : X.I.rd 4096 4 = (0, true, X.I) := by
    have e : ((X.I.le 0 : Nat) : Int) = 0 := by rw [h7]; rfl
    rw [← e]
    unfold L.IV.rd
    rw [h6]
    rfl
  have := b_ReadI hB mv 4096 4 0 (by decide) (by decide) (by decide) (by decide) _ rfl 0 true (by rw [hw]) (by rw [hw])
  rw [show (201326592 : Int) + 4096 = 201330688 by decide, hw] at this
  refine this.mono ?_
  rintro r w' ⟨rfl, q⟩
  exact ⟨rfl, Rb.mk (X := X) q rfl hn hE hV rfl h6 h7 h8⟩
theorem rb_RC (h : Rb W tb bp wp mp mq U l1 w) (mv : Value) (z nw : Int) (n0 : 0 ≤ nw) (n1 : nw < 18446744073709551616) (rv : Int) (rb : Bool) (hv : (if z = 4 then nw % 4294967296 else 0) = rv) (hb : decide (z = 4) = rb) :
    Calls Tryz.prog 14 #[ptr bp, mv, .int .u64 268439552, .int .i64 z, .int .u64 nw] w fun r w' => r = .returned (.tuple #[.int .u64 rv, .bool rb]) ∧ Rb W tb bp wp mp mq U l1 w' := by
  obtain ⟨X, hB, rfl, hn, hE, hV, rfl, h6, h7, h8⟩ := h
  refine (b_ReadC hB mv z nw n0 n1 rv rb hv hb).mono ?_
  rintro r w' ⟨rfl, q⟩
  exact ⟨rfl, Rb.mk (X := X) q rfl hn hE hV rfl h6 h7 h8⟩
theorem rb_WC (h : Rb W tb bp wp mp mq U l1 w) (mv : Value) (z v : Int) :
    Calls Tryz.prog 13 #[ptr bp, mv, .int .u64 268439552, .int .i64 z, .int .u64 v] w fun r w' => r = .returned (.bool false) ∧ Rb W tb bp wp mp mq U l1 w' := by
  obtain ⟨X, hB, rfl, hn, hE, hV, rfl, h6, h7, h8⟩ := h
  refine (b_WriteC hB mv z v).mono ?_
  rintro r w' ⟨rfl, q⟩
  exact ⟨rfl, Rb.mk (X := X) q rfl hn hE hV rfl h6 h7 h8⟩
theorem rb_RP (h : Rb W tb bp wp mp mq U l1 w) (mv : Value) (o z : Int) (o0 : 0 ≤ o) (o1 : o < 32768) (z0 : -9223372036854775808 ≤ z) (z1 : z ≤ 9223372036854775807) (rv : Int) (rb : Bool) (hv : P.rdV 1 (fun _ => P.sv0 3) (o / 4096) (o % 4096) z = rv) (hb : P.fitB (o % 4096) z = rb) :
    Calls Tryz.prog 14 #[ptr bp, mv, .int .u64 (805306368 + o), .int .i64 z, .int .u64 0] w fun r w' => r = .returned (.tuple #[.int .u64 rv, .bool rb]) ∧ Rb W tb bp wp mp mq U l1 w' := by
  obtain ⟨X, hB, rfl, hn, hE, hV, rfl, h6, h7, h8⟩ := h
  have := b_ReadP hB mv o z 0 o0 o1 z0 z1
  rw [hn, hV, hv, hb] at this
  refine this.mono ?_
  rintro r w' ⟨rfl, q⟩
  exact ⟨rfl, Rb.mk (X := X) (by rw [hn]; exact q) rfl hn hE hV rfl h6 h7 h8⟩
theorem rp_far (o : Int) (h0 : 256 ≤ o) (h1 : o < 4096) : P.rdV 1 (fun _ => P.sv0 3) (o / 4096) (o % 4096) 1 = 0 ∧ P.fitB (o % 4096) 1 = false := by
  have e : o % 4096 = o := by omega
  have hf : P.fitB (o % 4096) 1 = false := by
    rw [e]
    unfold P.fitB
    have : decide (o < 256) = false := decide_eq_false (by omega)
    rw [this]
    simp
  refine ⟨?_, hf⟩
  unfold P.rdV
  rw [hf]
  rfl
theorem rp_kind : P.rdV 1 (fun _ => P.sv0 3) (2 / 4096) (2 % 4096) 2 = 4163 ∧ P.fitB (2 % 4096) 2 = true := by decide +kernel
theorem rp_none (k : Int) (h0 : 1 ≤ k) (h1 : k < 8) : P.rdV 1 (fun _ => P.sv0 3) (4096 * k / 4096) (4096 * k % 4096) 4 = 4294967295 ∧ P.fitB (4096 * k % 4096) 4 = true := by
  have e1 : 4096 * k / 4096 = k := by omega
  have e2 : 4096 * k % 4096 = 0 := by omega
  rw [e1, e2]
  refine ⟨?_, rfl⟩
  unfold P.rdV P.hasS
  have : decide (k < ((1 : Nat) : Int)) = false := decide_eq_false (by omega)
  rw [this]
  simp [P.fitB]
theorem rb_RI1x (h : Rb W tb bp wp mp mq U l1 w) (mv : Value) (x : Int) (hx : (l1 : Int) = x) :
    Calls Tryz.prog 14 #[ptr bp, mv, .int .u64 201330692, .int .i64 4, .int .u64 0] w fun r w' => r = .returned (.tuple #[.int .u64 x, .bool true]) ∧ Rb W tb bp wp mp mq U l1 w' := by
  subst hx
  exact rb_RI1 h mv
theorem rb_RPx (h : Rb W tb bp wp mp mq U l1 w) (mv : Value) (p o z : Int) (hp : 805306368 + o = p) (o0 : 0 ≤ o) (o1 : o < 32768) (z0 : -9223372036854775808 ≤ z) (z1 : z ≤ 9223372036854775807) (rv : Int) (rb : Bool) (hv : P.rdV 1 (fun _ => P.sv0 3) (o / 4096) (o % 4096) z = rv) (hb : P.fitB (o % 4096) z = rb) :
    Calls Tryz.prog 14 #[ptr bp, mv, .int .u64 p, .int .i64 z, .int .u64 0] w fun r w' => r = .returned (.tuple #[.int .u64 rv, .bool rb]) ∧ Rb W tb bp wp mp mq U l1 w' := by
  subst hp
  exact rb_RP h mv o z o0 o1 z0 z1 rv rb hv hb
theorem Bo.rb {w3 : World} {X : BX} (h : Bo W w3 X) (hn : X.n = 1) (hU : X.U = L.uv0) (hI : X.I = L.iv0 2) (hV : X.V = (fun _ => P.sv0 3)) : Rb W w3.heap.size X.bp wp mp mq L.uv0 0 (w3.alloc (.cells #[ptr X.bp, ptr wp, ptr mp, ptr mq] 35)) :=
  ⟨_, h.add _, rfl, hn, if_pos rfl, hV, hU, by show X.I.n = 2; rw [hI]; rfl, by show X.I.le 0 = 0; rw [hI]; rfl, by show X.I.le 1 = 0; rw [hI]; rfl⟩
end
end Go.Proofs.YtjkihlpckgaggaaGreat
namespace Go.Proofs.YtjkihlpckgaggaaGreat
open Go.RowKit
open C (Only hid Still ret_bool ret_int row)
open P (Ls)
set_option linter.unusedVariables false
set_option maxRecDepth 100000

/-- the UART: its interrupt let, these bytes wait -/
def uvq (l : List Int) : L.UV := ⟨l, [], L.up1 (fun _ => 0) 1 1, fun _ => 0, false, false⟩
theorem wr_uv0 : L.uv0.wr 1 1 = uvq [] := by
  unfold L.UV.wr
  rw [if_neg (by decide), if_pos rfl, if_neg (by decide +kernel)]
  rfl
theorem inns_uvq : ∀ (l q : List Int), q.length + l.length ≤ 16 → inns (uvq q) l = uvq (q ++ l)
  | [], q, _ => by simp [inns]
  | x :: l, q, h => by
    have h' : q.length + (l.length + 1) ≤ 16 := h
    have e : (uvq q).inn x = uvq (q ++ [x]) := by
      unfold L.UV.inn
      rw [if_neg (show ¬ (uvq q).q.length = 16 from fun z => by have : q.length = 16 := z; omega)]
      rfl
    have := inns_uvq l (q ++ [x]) (by simp; omega)
    show inns ((uvq q).inn x) l = _
    rw [e, this]
    simp
theorem cau_uvq (l : List Int) : (uvq l).cau = if 0 < l.length then 4 else 1 := by
  unfold L.UV.cau
  have e1 : (uvq l).ov = false := rfl
  have e2 : (uvq l).em = false := rfl
  have e3 : L.bt ((uvq l).h 1) 1 = true := by show L.bt 1 1 = true; decide +kernel
  rw [e1, e2, e3]
  show (if (false && _) = true then 6 else if (decide (0 < l.length) && true) = true then 4 else if (false && _) = true then 2 else 1) = _
  by_cases h : 0 < l.length <;> simp [h]
def lvU (U : L.UV) : Nat := if U.cau != 1 then 2 else 0
theorem lvU_or (U : L.UV) : lvU U = 0 ∨ lvU U = 2 := by unfold lvU; split <;> simp
theorem lvU_q (l : List Int) : lvU (uvq l) = if 0 < l.length then 2 else 0 := by
  unfold lvU
  rw [cau_uvq]
  by_cases h : 0 < l.length
  · rw [if_pos h, if_pos h]; rfl
  · rw [if_neg h, if_neg h]; rfl
theorem lev_iv (lv nh : Nat) (le : Nat → Nat) (b : Bool) (h : lv = 0 ∨ lv = 2) : (L.IV.mk lv 0 nh le (fun _ => 0)).lev 1 b = ⟨if b then 2 else 0, 0, nh, le, fun _ => 0⟩ := by
  have e : L.bitN 1 = 2 := by decide +kernel
  unfold L.IV.lev
  rw [e]
  have e0 : L.anN 0 2 = 0 := by decide +kernel
  have e2 : L.anN 2 2 = 0 := by decide +kernel
  rcases h with rfl | rfl <;> cases b <;> simp [e0, e2]
theorem two_and (y : Nat) : 2 &&& y = y / 2 % 2 * 2 := by
  have h1 : (2 &&& y) / 2 = y / 2 % 2 := by
    rw [Nat.and_div_two, show 2 / 2 = 1 from rfl, Nat.one_and_eq_mod_two]
  have h2 : (2 &&& y) % 2 = 0 := by
    have := Nat.testBit_and 2 y 0
    rw [show Nat.testBit 2 0 = false by decide, Bool.false_and, Nat.testBit_zero] at this
    have h3 := of_decide_eq_false this
    omega
  omega
theorem orN_z : ∀ n, L.orN (fun _ => 0) n = 0
  | 0 => rfl
  | n + 1 => by show L.orN (fun _ => 0) n ||| 0 = 0; rw [orN_z n]; rfl
theorem fdN_k (n k : Nat) (h : k < n) (h64 : n ≤ 64) : L.fdN n (4096 + 4 * (k : Int)) 4 = (4096, (k : Int), true) := by
  unfold L.fdN
  have e1 : (4096 + 4 * (k : Int)) % 4096 = 4 * k := by omega
  have e2 : (4 * (k : Int)) / 4 = k := by omega
  rw [e1, e2, if_neg (by omega), if_neg (by omega), if_pos (.inl (by omega))]
  have e3 : (4096 + 4 * (k : Int)) - 4 * k = 4096 := by omega
  have e4 : decide ((k : Int) < n) = true := decide_eq_true (by omega)
  rw [e3, e4]
/-- what is pended: the level let by the hart -/
theorem pen_q (l : List Int) (nh : Nat) (le : Nat → Nat) (k : Nat) (h : k < nh) (x : Int) (x0 : 0 ≤ x) (hle : le k = ((x % 4294967296).toNat &&& 4294967294)) : (L.IV.mk (lvU (uvq l)) 0 nh le (fun _ => 0)).pen (k : Int) = (decide (0 < l.length) && decide (x / 2 % 2 = 1)) := by
  unfold L.IV.pen L.IV.opn L.IV.up
  have e1 : decide (0 ≤ (k : Int)) = true := decide_eq_true (by omega)
  have e2 : decide ((k : Int) < (nh : Int)) = true := decide_eq_true (by omega)
  show (decide (0 ≤ (k : Int)) && decide ((k : Int) < (nh : Int)) && (L.anN (lvU (uvq l) ||| 0) (L.orN (fun _ => 0) nh) &&& le (k : Int).toNat != 0)) = _
  rw [e1, e2, orN_z, lvU_q, Int.toNat_natCast, hle, and_fe _ (by omega)]
  by_cases hl : 0 < l.length
  · rw [if_pos hl, decide_eq_true hl, show L.anN (2 ||| 0) 0 = 2 from rfl, two_and]
    by_cases hx : x / 2 % 2 = 1
    · have : (x % 4294967296).toNat / 2 * 2 / 2 % 2 = 1 := by omega
      rw [this, decide_eq_true hx]; rfl
    · have : (x % 4294967296).toNat / 2 * 2 / 2 % 2 = 0 := by omega
      rw [this, decide_eq_false hx]; rfl
  · rw [if_neg hl, decide_eq_false hl, show L.anN (0 ||| 0) 0 = 0 from rfl, Nat.zero_and]; rfl
/-- the law's board -/
def Ib (W : World) (tb bp wp mp mq : Nat) (U : L.UV) (nh : Nat) (le : Nat → Nat) (w : World) : Prop := ∃ X, Bo W w X ∧ X.bp = bp ∧ X.n = 0 ∧ X.E tb = some (.cells #[ptr bp, ptr wp, ptr mp, ptr mq] 35 (0, 0)) ∧ X.U = U ∧ X.I = ⟨lvU U, 0, nh, le, fun _ => 0⟩
section
variable {W w w' : World} {tb bp wp mp mq nh : Nat} {U : L.UV} {le : Nat → Nat}
theorem Ib.cs (h : Ib W tb bp wp mp mq U nh le w) : w.cell? ⟨tb, 0, none⟩ = some (ptr bp) ∧ w.cell? ⟨tb, 2, none⟩ = some (ptr mp) := by
  obtain ⟨X, h1, -, -, h5, -⟩ := h
  have := h1.ex h5
  exact ⟨cell_of_row w tb 0 _ _ _ this, cell_of_row w tb 2 _ _ _ this⟩
theorem Ib.bel (h : Ib W tb bp wp mp mq U nh le w) : Below W.heap.size W w := by
  obtain ⟨X, h1, -⟩ := h
  exact h1.bel
theorem Ib.below (h : Ib W tb bp wp mp mq U nh le w) (hb : Below w.heap.size w w') : Ib W tb bp wp mp mq U nh le w' := by
  obtain ⟨X, h1, h2⟩ := h
  exact ⟨X, h1.below hb, h2⟩
/-- behind the levels -/
theorem Ib.mk {Y : BX} {U0 : L.UV} (hB : Bo W w' (Y.at (lvI Y Y.n))) (h1 : Y.bp = bp) (h2 : Y.n = 0) (h3 : Y.E tb = some (.cells #[ptr bp, ptr wp, ptr mp, ptr mq] 35 (0, 0))) (h5 : Y.U = U) (h6 : Y.I = ⟨lvU U0, 0, nh, le, fun _ => 0⟩) : Ib W tb bp wp mp mq U nh le w' := by
  refine ⟨_, hB, h1, h2, h3, h5, ?_⟩
  show lvI Y Y.n = _
  rw [h2]
  show Y.I.lev 1 (Y.U.cau != 1) = _
  rw [h6, h5, lev_iv _ _ _ _ (lvU_or U0)]
  rfl
theorem ib_WI (h : Ib W tb bp wp mp mq U nh le w) (mv : Value) (k : Nat) (hk : k < nh) (n4 : nh ≤ 64) (a : Int) (ha : 201330688 + 4 * (k : Int) = a) (v : Int) (v0 : 0 ≤ v) (v1 : v < 18446744073709551616) (le' : Nat → Nat) (hl : L.upN le k ((v % 4294967296).toNat &&& 4294967294) = le') :
    Calls Tryz.prog 13 #[ptr bp, mv, .int .u64 a, .int .i64 4, .int .u64 v] w fun r w' => r = .returned (.bool true) ∧ Ib W tb bp wp mp mq U nh le' w' := by
  obtain ⟨X, hB, rfl, hn, hE, hU, hI⟩ := h
  have hw : X.I.wr (4096 + 4 * (k : Int)) 4 v = (true, X.I.let k v) := by
    unfold L.IV.wr
    rw [hI]
    show (if (L.fdN nh (4096 + 4 * (k : Int)) 4).2.2 = false then _ else _) = _
    rw [fdN_k nh k hk n4]
    rfl
  have := b_WriteI hB mv (4096 + 4 * (k : Int)) 4 v (by omega) (by omega) (by decide) (by decide) v0 v1 _ rfl true (by rw [hw])
  rw [show (201326592 : Int) + (4096 + 4 * (k : Int)) = a by omega, hw] at this
  refine this.mono ?_
  rintro r w' ⟨rfl, q⟩
  refine ⟨rfl, Ib.mk (U0 := U) q rfl hn hE hU ?_⟩
  show X.I.let k v = _
  rw [hI, ← hl]
  rfl
theorem ib_WU (h : Ib W tb bp wp mp mq L.uv0 nh le w) (mv : Value) :
    Calls Tryz.prog 13 #[ptr bp, mv, .int .u64 268435457, .int .i64 1, .int .u64 1] w fun r w' => r = .returned (.bool true) ∧ Ib W tb bp wp mp mq (uvq []) nh le w' := by
  obtain ⟨X, hB, rfl, hn, hE, hU, hI⟩ := h
  have := b_WriteU hB mv 1 1 1 (by decide) (by decide) (by decide) (by decide) (by rw [hU]; decide) _ rfl
  rw [if_pos rfl, show (268435456 : Int) + 1 = 268435457 by decide, show (1 : Int) % 256 = 1 by decide, hU, wr_uv0] at this
  refine this.mono ?_
  rintro r w' ⟨rfl, q⟩
  exact ⟨rfl, Ib.mk (U0 := L.uv0) q rfl hn hE rfl hI⟩
theorem ug_ge {w : World} {bs : Nat} {e : TypeId} {z : Nat} {u : Value} {n : Nat} {xs : List Value} (h : w.ownsRow bs e z u n xs) (k : Nat) (hk : Ug u k) : bs ≤ k := by
  rcases h.2 with ⟨q, -⟩ | ⟨g, cap, cur, hv, hb, h3⟩
  · rw [q] at hk; simp [Ug, Value.ownBlock] at hk
  · rw [hv] at hk
    have : some g = some k := hk
    rw [← Option.some.inj this]
    exact hb
theorem ib_In {w0 : World} (h : Ib W tb bp wp mp mq (uvq []) nh le w0) (hb0 : Below w0.heap.size w0 w) (mv u : Value) (l : List Int) (hl : w.ownsRow w0.heap.size 5 1 u l.length (L.bys l)) (hb : ∀ v ∈ l, 0 ≤ v ∧ v < 256) (h16 : l.length ≤ 16) :
    Calls Tryz.prog 15 #[ptr bp, mv, .int .i64 0, u] w fun r w' => r = .returned (.bool true) ∧ Ib W tb bp wp mp mq (uvq l) nh le w' := by
  obtain ⟨X, hB, rfl, hn, hE, hU, hI⟩ := h
  obtain ⟨c, hBd, hc⟩ := hB.fresh hb0
  have hi : inns X.U l = uvq l := by rw [hU, inns_uvq l [] (by simpa using h16)]; rfl
  have := b_InU hBd mv u l (own_0 hl) (fun k hk => hc k (ug_ge hl k hk)) hb (by omega) _ rfl
  rw [hi] at this
  refine this.mono ?_
  rintro r w' ⟨rfl, q⟩
  exact ⟨rfl, Ib.mk (U0 := uvq []) q rfl hn hE rfl hI⟩
theorem ib_RU {x : Int} {l : List Int} (h : Ib W tb bp wp mp mq (uvq (x :: l)) nh le w) (mv : Value) (x0 : 0 ≤ x) (x1 : x < 256) :
    Calls Tryz.prog 14 #[ptr bp, mv, .int .u64 268435456, .int .i64 1, .int .u64 0] w fun r w' => r = .returned (.tuple #[.int .u64 x, .bool true]) ∧ Ib W tb bp wp mp mq (uvq l) nh le w' := by
  obtain ⟨X, hB, rfl, hn, hE, hU, hI⟩ := h
  have hr : X.U.rd 0 = (x, uvq l) := by
    rw [hU]
    have e : (uvq (x :: l)).lat = false := by show L.bt 0 128 = false; decide +kernel
    unfold L.UV.rd
    rw [if_pos rfl, e]
    rfl
  have := b_ReadU hB mv 0 1 0 (by decide) (by decide) x (by rw [hr]) x0 x1 _ rfl
  rw [if_pos rfl, if_pos rfl, show (268435456 : Int) + 0 = 268435456 by decide, hr] at this
  refine this.mono ?_
  rintro r w' ⟨rfl, q⟩
  exact ⟨rfl, Ib.mk (U0 := uvq (x :: l)) q rfl hn hE rfl hI⟩
theorem b_Pending {X : BX} (h : Bo W w X) (x : Int) (x0 : -9223372036854775808 ≤ x) (x1 : x ≤ 9223372036854775807) : Calls Tryz.prog 16 #[ptr X.bp, .int .i64 x] w fun r w' => r = .returned (.bool (X.I.pen x)) ∧ Below w.heap.size w w' := by
  obtain ⟨c, hb⟩ := h
  obtain ⟨F, ⟨g, i1, ok, -⟩, -⟩ := hb.i
  have HR := hid (L.i_Pending w X.pi g X.I i1 ok x x0 x1)
  have c1 : w.cell? ⟨X.bp, 1, none⟩ = some (ptr X.pi) := cell_of_row w X.bp 1 _ _ _ hb.top
  clear hb i1 ok
  generalize X.I.pen x = rr at *
  generalize X.pi = pi at *
  generalize X.bp = bp at *
  go_enter Tryz.func16, Tryz.ntmps16
  go_wp2_with (go_at_call 26; refine HR.out.mono ?_; rintro r w2 ⟨rfl, q1⟩; have H2 := hid q1; clear q1)
  go_returns
  exact ⟨rfl, H2.out⟩
theorem ib_P {l : List Int} (h : Ib W tb bp wp mp mq (uvq l) nh le w) (k : Nat) (hk : k < nh) (n4 : nh ≤ 64) (x : Int) (x0 : 0 ≤ x) (hle : le k = ((x % 4294967296).toNat &&& 4294967294)) (rb : Bool) (hr : (decide (0 < l.length) && decide (x / 2 % 2 = 1)) = rb) :
    Calls Tryz.prog 16 #[ptr bp, .int .i64 (k : Int)] w fun r w' => r = .returned (.bool rb) ∧ Ib W tb bp wp mp mq (uvq l) nh le w' := by
  have h' := h
  obtain ⟨X, hB, rfl, hn, hE, hU, hI⟩ := h
  have := b_Pending hB (k : Int) (by omega) (by omega)
  rw [hI, pen_q l nh le k hk x x0 hle, hr] at this
  refine this.mono ?_
  rintro r w' ⟨rfl, q⟩
  exact ⟨rfl, h'.below q⟩
theorem Bo.ib {w3 : World} {X : BX} (h : Bo W w3 X) (hn : X.n = 0) (hU : X.U = L.uv0) (hI : X.I = L.iv0 nh) : Ib W w3.heap.size X.bp wp mp mq L.uv0 nh (fun _ => 0) (w3.alloc (.cells #[ptr X.bp, ptr wp, ptr mp, ptr mq] 35)) :=
  ⟨_, h.add _, rfl, hn, if_pos rfl, hU, by show X.I = _; rw [hI]; rfl⟩
end
end Go.Proofs.YtjkihlpckgaggaaGreat
