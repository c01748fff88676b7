/- Two memories are filled. -/
import Derived.Test.YtgebjfkmiaobgaaMK1
import Derived.Test.YtgebjfkmiaobgaaCRK
import Derived.Test.YtgebjfkmiaobgaaMC5
namespace Go.Proofs.Ytgebjfkmiaobgaa
open Go.RowKit
open C (Only hid Still ret_int ret_bool Mem RMem okN rdF wrF hasB nu put byt TB Tw TwB row)
set_option linter.unusedVariables false
set_option maxRecDepth 100000

theorem wp_c3 {P : Program} {ops : Array Oper} {Q : Exit → Act → World → Prop} {i : Nat} {o : Oper} {K : Act → World → Prop} {a : Act} {w : World} (ho : ops[i]? = some o) (hg : o.guard = none) (f : FuncId) (x y z : Operand) (ts : Array TypeId) (hop : o.op = .call { callee := .value (.func f), args := #[x, y, z], argTypes := ts }) (vx vy vz : Value) (hx : a.eval x = vx) (hy : a.eval y = vy) (hz : a.eval z = vz) (hnf : (callFunc f #[vx, vy, vz]).run P w = .ok (.enter f #[vx, vy, vz]) w) {R : Ending → World → Prop} (hc : Calls P f #[vx, vy, vz] w R)
    (h : ∀ e w', R e w' → ∃ v, e = .returned v ∧ K (a.put o.dst v) w') : wpOp P ops Q i K a w := by
  refine wpOp_step ho fun K' hK => ?_
  rw [if_pos (by simp [Region.wanted, hg])]
  have he : (execOp a.eval o).run P w = .ok (.enter f #[vx, vy, vz]) w := by
    have hf : a.eval (.func f) = .func (.func f) #[] #[] := rfl
    simp [execOp, hop, resolve, invoke, Deferred.ofValue, hf, hx, hy, hz, hnf]
  unfold Oper.wp
  rw [he, Oper.upon_enter]
  refine hc.mono fun e w' hR => ?_
  obtain ⟨v, rfl, hk⟩ := h e w' hR
  exact hK _ _ hk
/-- the states of a Fill -/
def MFi (W w0 : World) (b q p r : Nat) (v : QV) (bs : Int) (n : Nat) (f f' h : Nat → Int) (len : Nat) (A : Nat → Int) : Nat → Value → World → Prop
  | 0, _, w => w = w0
  | 1, x, w => w.ownsRow w0.heap.size 5 1 x len (row A 0 len) ∧ Below w0.heap.size w0 w
  | _ + 2, _, w => LQ W w b q p r v bs n f' h ∧ Kq w0 w
theorem MFi.kq {W w0 w : World} {b q p r : Nat} {v : QV} {bs : Int} {n : Nat} {f f' h : Nat → Int} {len : Nat} {A : Nat → Int} {s : Nat} {x : Value} (hm : MFi W w0 b q p r v bs n f f' h len A s x w) : Kq w0 w := by
  match s, hm with
  | 0, hm => obtain rfl : w = w0 := hm; exact .refl _
  | 1, hm => exact .below hm.2
  | _ + 2, hm => exact hm.2
section
variable {W w w' : World} {b q p r : Nat} {v v' : QV} {bs : Int} {n : Nat} {f h f' h' : Nat → Int}
theorem l_MFill (H : LQ W w b q p r v bs n f h) (len : Nat) (hl : len ≤ 4096 * n) (A : Nat → Int) (hA : ∀ j, 0 ≤ A j ∧ A j < 256) (x : Value) (hx : w.ownsRow W.heap.size 5 1 x len (row A 0 len)) (hn : ∀ S, Mem w S p bs n f → ∀ k, x.ownBlock = some k → ¬ S k) : Calls Try.prog 36 #[.pointer (some ⟨p, 0, none⟩), .int .u64 bs, x] w fun e w' => e = .returned (.bool true) ∧ LQ W w' b q p r v bs n (put f 0 len A) h ∧ Kq w w' := by
  obtain ⟨S, T, h1, h2, h3, h4, h5⟩ := H.mm
  have key : ∃ ad cap, x = .slice ad len cap ∧ len ≤ cap ∧ ∃ sb so, 0 < len → ad = some ⟨sb, so, none⟩ ∧ sb < w.heap.size ∧ ¬ S sb ∧ ∀ j, j < len → w.cell? ⟨sb, so + j, none⟩ = some (.int .u8 (A j)) := by
    rcases hx.2 with ⟨k1, k2⟩ | ⟨g, cap, cur, rfl, k2, k3, k4, k5, k6, k7⟩
    · exact ⟨none, 0, by rw [k1, k2], by omega, 0, 0, fun z => by omega⟩
    · refine ⟨some ⟨g, 0, none⟩, cap, rfl, k4, g, 0, fun z => ⟨rfl, lt_of_block k3, hn S h1 g rfl, fun j hj => ?_⟩⟩
      rw [cell_of_row w g (0 + j) _ _ _ k3]
      have := C.row_get A 0 len j hj
      rw [← k7, List.getElem?_take, if_pos (by omega)] at this
      simpa using this
  obtain ⟨ad, cap, rfl, hc, hsrc⟩ := key
  refine (C.c_Fill w S p bs n f h1 0 len cap (by omega) hc bs (by omega) ad A hA hsrc).mono fun e w' ⟨S', k1, k2, k3, k4⟩ => ⟨k1, ?_, Kq.only k3 (mem_ty h1)⟩
  have ht : Tx w (fun k => S k ∨ k = q) w' (fun k => S' k ∨ k = q) := ⟨k3.mono fun k _ e => .inl e, fun k hk => hk.elim (fun z => (k4 k z).imp .inl id) fun z => .inl (.inr z)⟩
  exact H.turn h1 h2 h3 h4 h5 ht (H.qb.only k3 fun e => h1.typ H.qb (by decide) (by decide) (by decide) e) H.ok k2
theorem l_WFill (H : LQ W w b q p r v bs n f h) (ad : Option Addr) (len cap ab ao : Nat) (A : Nat → Int) (hN : Nu .u8 Bb W ad len cap ab ao A) (hl : len ≤ 4096 * n) : Calls Try.prog 38 #[.pointer (some ⟨r, 0, none⟩), .int .u64 bs, .slice ad len cap] w fun e w' => e = .returned (.bool true) ∧ LQ W w' b q p r v bs n f (put h 0 len A) ∧ Kq w w' := by
  obtain ⟨S, T, h1, h2, h3, h4, h5⟩ := H.mm
  have nq : ¬ T q := rmem_typ h2 H.qb (by decide) (by decide) (by decide)
  have nb : ¬ T b := rmem_typ h2 H.tb (by decide) (by decide) (by decide)
  have hN' := hN.below H.new
  refine (C.q_Fill w T r bs n h h2 0 len cap (by omega) bs (by omega) ad A hN.num ⟨ab, ao, none⟩ fun z => ⟨(hN'.at0 z).1, (hN'.at0 z).2, fun e => by have := h5 ab e; have := (hN.at0 z).2; omega, fun j hj => by rw [C.addr_add]; exact hN'.cell j hj⟩).mono fun e w' ⟨T', k1, k2, k3, k4⟩ => ⟨k1, ?_, Kq.only k3 (rmem_ty h2)⟩
  refine ⟨H.qb.only k3 nq, H.ok, k3.old H.tb nb, ⟨S, T', h1.only k3 h3, k2, fun k hk hT => ?_, h4, fun k hk => ?_⟩, ?_, H.qn, H.bn⟩
  · rcases k4 k hT with z | z
    · exact h3 k hk z
    · have := h1.lt hk; omega
  · rcases k4 k hk with z | z
    · exact h5 k z
    · exact Nat.le_trans H.new.size z
  · exact ((Only.ofBelow (S := fun _ => False) H.new).trans' k3 fun i hi e => absurd (h5 i e) (by omega)).below _ (Nat.le_refl _) fun k e => e.elim
set_option maxHeartbeats 2000000 in
theorem l_Fill (H : LQ W w b q p r v bs n f h) (ad : Option Addr) (len cap ab ao : Nat) (A : Nat → Int) (hN : Nu .u8 Bb W ad len cap ab ao A) (hnone : ad = none → len = 0 ∧ cap = 0) (hl : len ≤ 4096 * n) : Calls Try.prog 12 #[.agg #[.pointer (some ⟨p, 0, none⟩), .pointer (some ⟨r, 0, none⟩)], .int .u64 bs, .slice ad len cap] w fun e w' => e = .returned (.tuple #[]) ∧ LQ W w' b q p r v bs n (put f 0 len A) (put h 0 len A) ∧ Kq w w' := by
  have n1 : n ≤ 1024 := by obtain ⟨S, T, h1, h2, h3, h4, h5⟩ := H.mm; exact h1.nums.2.2.2
  have H0 := hid H
  clear H
  go_enter Try.func12, Try.ntmps12
  go_upto_region 1 with fail
  obtain ⟨wa, hwa⟩ : ∃ wa, wa = w.alloc (.cells #[.pointer (some ⟨p, 0, none⟩), .pointer (some ⟨r, 0, none⟩)] 28) := ⟨_, rfl⟩
  have HBx : Hid (Below w.heap.size w wa) := hwa ▸ (Below.refl _ _).alloc (Nat.le_refl _) _
  have HA := hid (H0.out.below HBx.out)
  have HT : Hid (TB wa w.heap.size p r) := hwa ▸ TB.new w p r
  rw [← hwa]
  clear hwa
  obtain ⟨w0, hw0⟩ : ∃ w0, w0 = wa.drew := ⟨_, rfl⟩
  have HB0 : Hid (Below wa.heap.size wa w0) := hw0 ▸ (Below.refl _ _).drew
  refine wp_region_any (by kernel_rfl) ?_
  rw [show ({ wa with drawn := wa.drawn + 1 } : World) = w0 from hw0.symm]
  clear hw0
  have HL0 := hid (HA.out.below HB0.out)
  have HT0 := hid (HT.out.below HB0.out)
  have HKA : Hid (Kq w w0) := (Kq.below HBx.out).trans (.below HB0.out)
  have HNu := hid hN
  have HCB : Hid (∀ w1, Below w0.heap.size w0 w1 → Calls Try.prog 37 #[.slice ad len cap] w1 fun e w' => ∃ v, e = .returned v ∧ w'.ownsRow w1.heap.size 5 1 v len (row A 0 len) ∧ Below w1.heap.size w1 w') := fun w1 hb => by
    have hN' := (hN.below HL0.out.new).below hb
    exact C.c_CopyBytes w1 ad len cap A ⟨ab, ao, none⟩ (by omega) hnone fun z => ⟨(hN'.at0 z).1, (hN'.at0 z).2, fun j hj => by rw [C.addr_add]; exact hN'.cell j hj⟩
  have HFI : Hid (∀ w1 x, w1.ownsRow w0.heap.size 5 1 x len (row A 0 len) → Below w0.heap.size w0 w1 → Calls Try.prog 36 #[.pointer (some ⟨p, 0, none⟩), .int .u64 bs, x] w1 fun e w' => e = .returned (.bool true) ∧ LQ W w' b q p r v bs n (put f 0 len A) h ∧ Kq w1 w') := fun w1 x hx hb => by
    obtain ⟨S, T, h1, h2, h3, h4, h5⟩ := HL0.out.mm
    have h1' := h1.below hb
    refine l_MFill (HL0.out.below hb) len hl A hN.num x ⟨hx.1, ?_⟩ fun S2 hS2 k hk hk2 => ?_
    · rcases hx.2 with z | ⟨g, cp, cur, k1, k2, k3⟩
      · exact .inl z
      · exact .inr ⟨g, cp, cur, k1, Nat.le_trans HL0.out.new.size k2, k3⟩
    · rcases hx.2 with ⟨z1, z2⟩ | ⟨g, cp, cur, z1, z2, z3, z4⟩
      · rw [z1] at hk; cases hk
      · rw [z1] at hk
        obtain rfl : g = k := by simpa [Value.ownBlock] using hk
        exact hS2.typ z3 (by decide) (by decide) (by decide) hk2
  have HRF : Hid (∀ w1, LQ W w1 b q p r v bs n (put f 0 len A) h → Calls Try.prog 38 #[.pointer (some ⟨r, 0, none⟩), .int .u64 bs, .slice ad len cap] w1 fun e w' => e = .returned (.bool true) ∧ LQ W w' b q p r v bs n (put f 0 len A) (put h 0 len A) ∧ Kq w1 w') := fun w1 h1 => l_WFill h1 ad len cap ab ao A HNu.out hl
  have HCL : Hid (∀ wz x, (∃ s, MFi W w0 b q p r v bs n f (put f 0 len A) h len A s x wz) → wz.cell? ⟨w.heap.size, 0, none⟩ = some (.pointer (some ⟨p, 0, none⟩))) := fun wz x ⟨s, hm⟩ => (hm.kq.tb HT0.out).c0
  clear hN hnone n1
  refine wpAny_fz (α := Value) (fun x => fun dd => if dd = 6 then .pointer (some ⟨w.heap.size, 0, none⟩) else if dd = 7 then .pointer (some ⟨p, 0, none⟩) else if dd = 8 then .int .u64 bs else if dd = 9 then .slice ad len cap else if dd = 10 then x else if dd = 11 then .bool true else undef) (VS [4, 5] (MFi W w0 b q p r v bs n f (put f 0 len A) h len A)) ?step ?fin (.bool true) ?start
  case start => exact .start rfl
  case step =>
    rintro listed fr wr x hF hW hC i hj
    obtain ⟨hl, o, ho, he⟩ := mem_ready.1 hj
    have hjl : i < listed.size := by rw [hF.q.ls]; exact (Array.getElem?_eq_some_iff.1 ho).1
    have hl0 := getD_tf hjl hl
    clear hj
    have HF := hid hF
    have HW := hid hW
    have HE := hid he
    have HC := hid hC
    clear hF hW he hl hC
    match i, ho with
    | 0, ho =>
      obtain rfl := Option.some.inj ho
      have e3 : fr.tmps[3]?.getD undef = .pointer (some ⟨w.heap.size, 0, none⟩) := HF.out.base 3 (by kernel_rfl) rfl
      exact wp_q rfl rfl (by simp [execOp, go_sem, e3]; try rfl) ⟨x, HF.out.put (by kernel_rfl) rfl rfl rfl (of_decide_eq_true rfl), HW.out.q hjl (by decide)⟩
    | 1, ho =>
      obtain rfl := Option.some.inj ho
      have e6 : fr.tmps[6]?.getD undef = .pointer (some ⟨w.heap.size, 0, none⟩) := HF.out.ev (i := 0) rfl rfl (HE.out ⟨0, .data⟩ (by simp) rfl)
      have hc := HCL.out _ _ (by obtain ⟨sS, hs1, hm⟩ := HW.out; exact ⟨sS, hm⟩)
      exact wp_q rfl rfl (by simp [execOp, go_sem, e6, hc]; try rfl) ⟨x, HF.out.put (by kernel_rfl) rfl rfl rfl (of_decide_eq_true rfl), HW.out.q hjl (by decide)⟩
    | 2, ho =>
      obtain rfl := Option.some.inj ho
      have e1 : fr.tmps[1]?.getD undef = .int .u64 bs := HF.out.base 1 (by kernel_rfl) rfl
      exact wp_q rfl rfl (by simp [execOp, go_sem, e1]; try rfl) ⟨x, HF.out.put (by kernel_rfl) rfl rfl rfl (of_decide_eq_true rfl), HW.out.q hjl (by decide)⟩
    | 3, ho =>
      obtain rfl := Option.some.inj ho
      have e2 : fr.tmps[2]?.getD undef = .slice ad len cap := HF.out.base 2 (by kernel_rfl) rfl
      exact wp_q rfl rfl (by simp [execOp, go_sem, e2]; try rfl) ⟨x, HF.out.put (by kernel_rfl) rfl rfl rfl (of_decide_eq_true rfl), HW.out.q hjl (by decide)⟩
    | 4, ho =>
      obtain rfl := Option.some.inj ho
      have e9 : fr.tmps[9]?.getD undef = .slice ad len cap := HF.out.ev (i := 3) rfl rfl (HE.out ⟨3, .data⟩ (by simp) rfl)
      have m0 : wr = w0 := HW.out.at 0 rfl hl0 (fun j hj => by omega)
      subst m0
      refine wp_c1 rfl rfl _ _ _ rfl (.slice ad len cap) (by simp [Act.eval, e9]) (Try.call37 _ _) (HCB.out _ (Below.refl _ _)) ?_
      rintro e w7 ⟨v7, rfl, k1, k2⟩
      have HFy : Hid (FrK _ ((fun x : Value => fun dd => if dd = 6 then .pointer (some ⟨w.heap.size, 0, none⟩) else if dd = 7 then .pointer (some ⟨p, 0, none⟩) else if dd = 8 then .int .u64 bs else if dd = 9 then .slice ad len cap else if dd = 10 then x else if dd = 11 then .bool true else undef) v7) _ listed fr) := HF.out.swap (fun j o d g1 g2 g3 => by
        by_cases e : d = 10
        · subst e
          have := ndB_spec (j := j) (k := 4) (d := 10) (by kernel_rfl) g1 rfl g2 rfl
          subst this
          rw [hl0] at g3; cases g3
        · simp [e])
      exact ⟨_, rfl, v7, HFy.out.put (by kernel_rfl) rfl rfl rfl (of_decide_eq_true rfl), HW.out.go 0 hjl rfl hl0 (fun j hj => by omega) (by intro a ha; match a, ha with | 0, _ => rfl | 1, ha => simp at ha) ⟨k1, k2⟩⟩
    | 5, ho =>
      obtain rfl := Option.some.inj ho
      have e7 : fr.tmps[7]?.getD undef = .pointer (some ⟨p, 0, none⟩) := HF.out.ev (i := 1) rfl rfl (HE.out ⟨1, .data⟩ (by simp) rfl)
      have e8 : fr.tmps[8]?.getD undef = .int .u64 bs := HF.out.ev (i := 2) rfl rfl (HE.out ⟨2, .data⟩ (by simp) rfl)
      have e10 : fr.tmps[10]?.getD undef = x := HF.out.ev (i := 4) rfl rfl (HE.out ⟨4, .data⟩ (by simp) rfl)
      have hp := HE.out ⟨4, .data⟩ (by simp) rfl
      obtain ⟨m1, m2⟩ := HW.out.at 1 rfl hl0 (fun j hj => by obtain rfl : j = 0 := (by omega); exact ⟨4, rfl, hp⟩)
      refine wp_c3 rfl rfl _ _ _ _ _ rfl (.pointer (some ⟨p, 0, none⟩)) (.int .u64 bs) x (by simp [Act.eval, e7]) (by simp [Act.eval, e8]) (by simp [Act.eval, e10]) (Try.call36 _ _) (HFI.out _ _ m1 m2) ?_
      rintro e w7 ⟨rfl, k1, k2⟩
      exact ⟨_, rfl, x, HF.out.put (by kernel_rfl) rfl rfl rfl (of_decide_eq_true rfl), HW.out.go 1 hjl rfl hl0 (fun j hj => by obtain rfl : j = 0 := (by omega); exact ⟨4, rfl, hp⟩) (by intro a ha; match a, ha with | 0, ha => simp at ha | 1, _ => rfl) ⟨k1, (Kq.below m2).trans k2⟩⟩
  case fin =>
    rintro listed fr w2 x hF hW hr
    have all := allDone hr hF.q.ls (by kernel_rfl)
    obtain ⟨sS, hs1, hm⟩ := hW
    have hs : 2 ≤ sS := by
      have := hs1 1 5 rfl
      rw [all 5 (by decide)] at this
      have : 1 < sS := by simpa using this.symm
      omega
    obtain ⟨s2, rfl⟩ : ∃ s2, sS = s2 + 2 := ⟨sS - 2, by omega⟩
    obtain ⟨m1, m2⟩ := hm
    rw [hF.full all]
    have H5 := hid m1
    have K5 := hid m2
    have d1 := (K5.out.tb HT0.out).c1
    have hR := HRF.out _ m1
    clear hF hr all m1 m2 hs1 hs HCL
    simp only [List.foldl_cons, List.foldl_nil, fillF]
    go_simp
    go_wp2_with (go_at_call 38; (refine hR.mono ?_); rintro e w9 ⟨rfl, h1, h2⟩; have H9 := hid h1; have K9 := hid h2; clear h1 h2)
    go_end0
    exact ⟨rfl, H9.out, HKA.out.trans (K5.out.trans K9.out)⟩
end
end Go.Proofs.Ytgebjfkmiaobgaa
namespace Go.Proofs.Ytgebjfkmiaobgaa
open Go.RowKit
open C (Only hid Still ret_int ret_bool Mem RMem okN rdF wrF hasB nu put byt TB Tw TwB)
set_option linter.unusedVariables false
set_option maxRecDepth 100000

theorem LQ.rb {W w : World} {b q p r : Nat} {v : QV} {bs : Int} {n : Nat} {f h : Nat → Int} (H : LQ W w b q p r v bs n f h) : Rb (RmG p bs n) f := by
  obtain ⟨S, T, h1, h2, h3, h4, h5⟩ := H.mm
  exact fun a a0 => (rmC p bs n).rb w S f h1 a a0
theorem run_cutB (ad : Addr) (la cap : Nat) (h : 8192 ≤ la) (hc : la ≤ cap) (hm : cap ≤ 9223372036854775807) (w : World) : (Instr.sliceAt 23 (.slice (some ad) la cap) none (some (.int .i64 8192)) none).run Try.prog w = .ok (.slice (some ad) 8192 cap) w := by
  have hu := _root_.Go.Proofs.Ytgebjfkmiaobgaa.C.u_su8
  go_simp
  intro hx
  omega
set_option maxHeartbeats 16000000 in
theorem w_VirtqBounds (W : World) (ad : Option Addr) (la cap ab ao : Nat) (A : Nat → Int) (hN : Nu .u8 Bb W ad la cap ab ao A) (size : Int) (s0 : -9223372036854775808 ≤ size) (s1 : size ≤ 9223372036854775807) (ti : Int) (t0 : -9223372036854775808 ≤ ti) (t1 : ti ≤ 9223372036854775807) (hl : la ≤ 140737488351232 ∧ (ad = none → la = 0 ∧ cap = 0)) :
    Calls Try.prog 4 #[.slice ad la cap, .int .i64 size, .int .i64 ti] W fun e w' => e = .returned (.bool true) ∧ Below W.heap.size W w' := by
  have hM := l_Memory W 0 (by decide) (by decide) (by decide) 2 (by decide) (by decide) 2 rfl
  have HPs := hid (fun w => C.c_Place size 7 (by decide) (by decide) s0 s1 w)
  have HPt := hid (fun w => C.c_Place ti 80 (by decide) (by decide) t0 t1 w)
  obtain ⟨k, hk⟩ : ∃ k, size % 7 = k := ⟨_, rfl⟩
  obtain ⟨tm, htm⟩ : ∃ k, ti % 80 = k := ⟨_, rfl⟩
  have k0 : 0 ≤ k := by omega
  have k1 : k < 7 := by omega
  have tm0 : 0 ≤ tm := by omega
  have tm1 : tm < 80 := by omega
  rw [hk] at HPs
  rw [htm] at HPt
  obtain ⟨n, n1, n2, n3, n4⟩ := sh7 k k0 k1
  have wk : IntKind.u64.wrap k = k := by rw [IntKind.wrap_u64]; omega
  have hsh : IntKind.i64.wrap ((2 : Int) ^ k.toNat) = n := by rw [n1, IntKind.wrap_i64]; omega
  have hlc := hN.len
  have hcm := hN.cap
  have HNu := hid hN
  obtain ⟨hll, hnil⟩ := hl
  have HNil := hid hnil
  have HAw := hid l_awake
  clear hN hk htm hnil t0 t1 s0 s1
  go_enter Try.func4, Try.ntmps4
  go_upto_region 3 with (first
    | (go_at_call 10; refine hM.mono ?_; rintro e w1 ⟨p, r, U, rfl, h1, h2, h3⟩; have HT := hid h1; have HB := hid h2; have HU := hid h3; clear h1 h2 h3)
    | (go_at_call 11; refine (k_New _).mono ?_; rintro e w2 ⟨rfl, h1, h2⟩; have HL := hid (LQ.lay (.refl _ _) HT.out HB.out HU.out h1 h2); clear h1 h2))
  have ee : (w1.alloc (.cells #[.pointer (some ⟨p, 0, none⟩), .pointer (some ⟨r, 0, none⟩)] 28)).heap.size = w1.heap.size + 1 := by simp
  clear HT HB HU hM
  generalize w1.heap.size = B at *
  go_upto_if 30 with fail
  go_cut [0] from 28 to 32 (fun x wx => wx = w2 ∧ ∃ L : Nat, x = .slice ad L cap ∧ Hid (L ≤ 8192 ∧ Nu .u8 Bb W ad L cap ab ao A ∧ (ad = none → L = 0 ∧ cap = 0)))
  case first => 
    by_cases hb : 8192 < la
    · have hb' : (8192 : Int) < la := by omega
      obtain ⟨had, -⟩ := HNu.out.at0 (by omega)
      subst had
      have hcut := run_cutB ⟨ab, ao, none⟩ la cap (by omega) hlc hcm
      go_wp2_with fail
      go_meet
      case rel => exact ⟨rfl, 8192, rfl, by omega, ⟨by omega, hcm, fun z => HNu.out.at0 (by omega), fun i hi => HNu.out.cell i (by omega), HNu.out.num⟩, fun z => by cases z⟩
    · have hb' : ¬ (8192 : Int) < la := by omega
      go_wp2_with fail
      go_meet
      case rel => exact ⟨rfl, la, rfl, by omega, HNu.out, HNil.out⟩
  case rest => 
    obtain ⟨rfl, L, rfl, HC⟩ := hcut
    have c0 := HL.out.c0
    have c1 := HL.out.c1
    have hF := l_Fill HL.out ad L cap ab ao A HC.out.2.1 HC.out.2.2 (by have := HC.out.1; omega)
    generalize put f0 0 L A = f at *
    go_upto_region 8 with (go_at_call 12; (refine hF.mono ?_); rintro e w3 ⟨rfl, h1, h2⟩; have HL3 := hid h1; clear h1 h2 hF c0 c1)
    have hS := l_Setup HL3.out n 256 2048 2304 (by omega) (by omega) (by decide) (by decide) (by decide) (by decide) (by decide) (by decide)
    rw [(vN_set n n2).1, (vN_set n n2).2] at hS
    go_upto_region 11 with (first
      | (go_at_call 13; (with_reducible refine (HPs.out _).mono ?_); rintro e w' ⟨rfl, hw⟩; obtain rfl := hw.symm)
      | (go_at_call 21; (refine hS.mono ?_); rintro e w4 ⟨rfl, h1, h2⟩; have HL4 := hid h1; clear h1 h2 hS))
    clear HL HL3 HC HPs hsh wk n1 HNu HNil n2
    obtain ⟨tN, rfl⟩ : ∃ tN : Nat, tm = tN := ⟨tm.toNat, by omega⟩
    go_wp2_with fail
    go_loopw [11] (fun i wr => ∃ (j : Nat) (v : QV), j ≤ tN ∧ i = .int .i64 j ∧ Hid (LQ W wr B (B + 1) p r v 0 2 f f ∧ v.sz = n)) (fun i _ => tN - (intOf i).toNat)
    case atStart => exact ⟨0, vN n, by omega, rfl, HL4.out, rfl⟩
    case round =>
      obtain ⟨j, v, jn, rfl, HI⟩ := hrel
      by_cases hj : j < tN
      · have hjl : (j : Int) < tN := by omega
        have c0 := HI.out.1.c0
        have hN := l_Next HI.out.1 n HI.out.2
        have HXo := hid (nx_ok HI.out.1.rb HI.out.1.ok n HI.out.2 (by omega))
        generalize nxF (RmG p 0 2) f v n = X at *
        have HSZ : Hid (X.v.sz = n) := HXo.out.v.1.trans HI.out.2
        have HN6x : Hid (∀ w6 : World, (w6.alloc (.cells #[.int .i64 0, .slice none 0 0, .slice none 0 0] 42)).heap[w6.heap.size]? = some (.cells (cc 0 (.slice none 0 0) (.slice none 0 0)) 42 (0, 0))) := fun w6 => heap_alloc_new w6 _
        go_upto_region 15 with (first
          | (go_at_call 13; (with_reducible refine (HPt.out _).mono ?_); rintro e w' ⟨rfl, hw⟩; obtain rfl := hw.symm)
          | (go_at_call 14; (refine hN.mono ?_); rintro e w7 ⟨vr, vw, rfl, h1, h2, h3, h4, h5, h6⟩; have HL7 := hid h1; have S1 := hid h2; have S2 := hid h3; clear h1 h2 h3 h4 h5 h6 hN c0)
          | ((with_reducible refine wpL_stC w7.heap.size X.h vr vw S1.out.s S2.out.s ?_ ?_ (HN6x.out w7) ?_); rfl; rfl))
        obtain ⟨w8, hw8⟩ : ∃ w8, w8 = (w7.alloc (.cells #[.int .i64 0, .slice none 0 0, .slice none 0 0] 42)).setRow w7.heap.size (cc X.h vr vw) := ⟨_, rfl⟩
        have HB8 : Hid (Below w7.heap.size w7 w8) := hw8 ▸ below_row ((Below.refl _ _).alloc (Nat.le_refl _) _) (Nat.le_refl _) _
        have HCJ : Hid (w8.heap[w7.heap.size]? = some (.cells (cc X.h vr vw) 42 (0, 0))) := hw8 ▸ setRow_heap _ w7.heap.size _ _ _ _ (HN6x.out w7)
        have HL8 := hid (HL7.out.below HB8.out)
        have SJ1 := hid (S1.out.below HB8.out)
        have SJ2 := hid (S2.out.below HB8.out)
        rw [← hw8]
        clear hw8 HB8 HL7 S1 S2 HN6x HI
        obtain ⟨adr, cr, hvr⟩ := SJ1.out.sli
        obtain ⟨adw, cw, hvw⟩ := SJ2.out.sli
        have z0 : w8.cell? ⟨w7.heap.size, 0, none⟩ = some (.int .i64 X.h) := cell_of_row w8 _ 0 _ _ _ HCJ.out
        have z1 : w8.cell? ⟨w7.heap.size, 1, none⟩ = some vr := cell_of_row w8 _ 1 _ _ _ HCJ.out
        have z2' : w8.cell? ⟨w7.heap.size, 2, none⟩ = some vw := cell_of_row w8 _ 2 _ _ _ HCJ.out
        subst hvr
        subst hvw
        cases hg : X.good
        · obtain ⟨x1, x2, x3, x4⟩ := HXo.out.no hg
          have hd := l_Dead HL8.out
          rw [x1] at z0
          rw [x2] at z1
          rw [x3] at z2'
          have l1 : ([] : List (Int × Int)).length = 0 := rfl
          rw [l1] at z1 z2'
          have HX4 := hid x4
          clear x1 x2 x3 x4 HXo
          by_cases he : X.e = 0
          · have he' : (X.e != 0) = false := by simp [he]
            have he2 : (X.e == 0) = true := by simp [he]
            have HL8' := HL8
            go_wp2_with (go_at_call 26; (refine hd.mono ?_); rintro e w' ⟨rfl, hw⟩; obtain rfl := hw.symm)
            go_roundw
            case rel => exact ⟨j + 1, X.v, by omega, by go_num, HL8'.out, HSZ.out⟩
            case measure => simp [intOf]; omega
          · have he' : (X.e != 0) = true := by simp [he]
            have hdd : X.v.dead = true := HX4.out he
            rw [hdd] at hd
            go_wp2_with (go_at_call 26; (refine hd.mono ?_); rintro e w' ⟨rfl, hw⟩; obtain rfl := hw.symm)
            go_roundw
            case rel => exact ⟨j + 1, X.v, by omega, by go_num, HL8.out, HSZ.out⟩
            case measure => simp [intOf]; omega
        · obtain ⟨x1, x2, x3, x4, x5, x6, x7⟩ := HXo.out.yes hg
          have HY : Hid (X.e = 0 ∧ 0 ≤ X.h ∧ X.h < n ∧ X.R.length + X.W.length ≤ n ∧ 1 ≤ X.R.length + X.W.length ∧ (∀ x ∈ X.R, Gd (RmG p 0 2) f x) ∧ ∀ x ∈ X.W, Gd (RmG p 0 2) f x) := ⟨x1, x2, x3, x4, x5, x6, x7⟩
          have HLR : Hid (X.R.length ≤ 1000) := by show _ ≤ _; omega
          have HLW : Hid (X.W.length ≤ 1000) := by show _ ≤ _; omega
          have he' : (X.e != 0) = false := by simp [x1]
          have wrp : IntKind.i64.wrap ((X.R.length : Int) + X.W.length) = (X.R.length : Int) + X.W.length := by rw [IntKind.wrap_i64]; omega
          have y1 : ¬ ((n : Int) < (X.R.length : Int) + X.W.length) := by omega
          have y2 : ¬ ((X.R.length : Int) + X.W.length < 1) := by omega
          have y3 : ¬ (X.h < 0) := by omega
          have y4 : ¬ ((n : Int) ≤ X.h) := by omega
          clear x1 x4 x5 x6 x7 HXo
          go_upto_region 22 with fail
          obtain ⟨w0, hw0⟩ : ∃ w0, w0 = w8.drew := ⟨_, rfl⟩
          have HB0 : Hid (Below w8.heap.size w8 w0) := hw0 ▸ (Below.refl _ _).drew
          refine wp_region_any (by kernel_rfl) ?_
          rw [show ({ w8 with drawn := w8.drawn + 1 } : World) = w0 from hw0.symm]
          clear hw0
          have HS1 := hid (SJ1.out.below HB0.out)
          have HS2 := hid (SJ2.out.below HB0.out)
          have HCL : Hid (∀ wz, Below w0.heap.size w0 wz → wz.cell? ⟨w7.heap.size, 1, none⟩ = some (.slice adr X.R.length cr) ∧ wz.cell? ⟨w7.heap.size, 2, none⟩ = some (.slice adw X.W.length cw)) := fun wz hb => by
            have h0 := (HB0.out.block _ (lt_of_block HCJ.out)).trans HCJ.out
            have hk := (hb.block _ (lt_of_block h0)).trans h0
            exact ⟨cell_of_row wz _ 1 _ _ _ hk, cell_of_row wz _ 2 _ _ _ hk⟩
          refine wpAny_fz (α := Value × Value) (fun x => fun dd => if dd = 120 then .pointer (some ⟨w7.heap.size, 1, none⟩) else if dd = 121 then .slice adr X.R.length cr else if dd = 122 then x.1 else if dd = 123 then .pointer (some ⟨w7.heap.size, 2, none⟩) else if dd = 124 then .slice adw X.W.length cw else if dd = 125 then x.2 else if dd = 15 then x.2 else undef) (VS [2, 5] (MJ w0 X.R X.W)) ?step ?fin (.bool true, .bool true) ?start
          case start => exact .start rfl
          case step =>
            rintro listed fr wr x hF hW hC i hj
            obtain ⟨hl, o, ho, he⟩ := mem_ready.1 hj
            have hjl : i < listed.size := by rw [hF.q.ls]; exact (Array.getElem?_eq_some_iff.1 ho).1
            have hl0 := getD_tf hjl hl
            clear hj
            have HF := hid hF
            have HW := hid hW
            have HE := hid he
            have HC := hid hC
            clear hF hW he hl hC
            match i, ho with
            | 0, ho =>
              obtain rfl := Option.some.inj ho
              have e12 : fr.tmps[12]?.getD undef = .pointer (some ⟨w7.heap.size, 0, none⟩) := HF.out.base 12 (by kernel_rfl) rfl
              exact wp_q rfl rfl (by simp [execOp, go_sem, e12]; try rfl) ⟨x, HF.out.put (by kernel_rfl) rfl rfl rfl (of_decide_eq_true rfl), HW.out.q hjl (by decide)⟩
            | 1, ho =>
              obtain rfl := Option.some.inj ho
              have e120 : fr.tmps[120]?.getD undef = .pointer (some ⟨w7.heap.size, 1, none⟩) := HF.out.ev (i := 0) rfl rfl (HE.out ⟨0, .data⟩ (by simp) rfl)
              have hc := HCL.out _ (by obtain ⟨sS, -, hm⟩ := HW.out; exact hm.bel)
              exact wp_q rfl rfl (by simp [execOp, go_sem, e120, hc.1]; try rfl) ⟨x, HF.out.put (by kernel_rfl) rfl rfl rfl (of_decide_eq_true rfl), HW.out.q hjl (by decide)⟩
            | 2, ho =>
              obtain rfl := Option.some.inj ho
              have e121 : fr.tmps[121]?.getD undef = .slice adr X.R.length cr := HF.out.ev (i := 1) rfl rfl (HE.out ⟨1, .data⟩ (by simp) rfl)
              have m0 : wr = w0 := HW.out.at 0 rfl hl0 (fun j hj => by omega)
              subst m0
              refine wpOp_step rfl fun K' hK => ?_
              rw [if_pos (by simp [Region.wanted])]
              refine wp_app _ _ rfl (V := .slice none 0 0) (by simp [Act.eval]) (Sg.nil wr wr.heap.size) (by first | (simp [Act.eval, e121]; done) | (simp [Act.eval, e121]; rfl)) HS1.out (by decide) HLR.out (Nat.le_refl _) ?_
              intro v' w8 h1 h2
              have HFy : Hid (FrK _ ((fun x : Value × Value => fun dd => if dd = 120 then .pointer (some ⟨w7.heap.size, 1, none⟩) else if dd = 121 then .slice adr X.R.length cr else if dd = 122 then x.1 else if dd = 123 then .pointer (some ⟨w7.heap.size, 2, none⟩) else if dd = 124 then .slice adw X.W.length cw else if dd = 125 then x.2 else if dd = 15 then x.2 else undef) (v', x.2)) _ listed fr) := HF.out.swap (fun j o d g1 g2 g3 => by
                by_cases e : d = 122
                · subst e
                  have := ndB_spec (j := j) (k := 2) (d := 122) (by kernel_rfl) g1 rfl g2 rfl
                  subst this
                  rw [hl0] at g3; cases g3
                · simp [e])
              exact hK _ _ ⟨(v', x.2), HFy.out.put (by kernel_rfl) rfl rfl rfl (of_decide_eq_true rfl), HW.out.go 0 hjl rfl hl0 (fun j hj => by omega) (by intro a ha; match a, ha with | 0, _ => rfl | 1, ha => simp at ha) ⟨by simpa using h1, h2.below _ (Nat.le_refl _) fun k e => by cases e⟩⟩
            | 3, ho =>
              obtain rfl := Option.some.inj ho
              have e12 : fr.tmps[12]?.getD undef = .pointer (some ⟨w7.heap.size, 0, none⟩) := HF.out.base 12 (by kernel_rfl) rfl
              exact wp_q rfl rfl (by simp [execOp, go_sem, e12]; try rfl) ⟨x, HF.out.put (by kernel_rfl) rfl rfl rfl (of_decide_eq_true rfl), HW.out.q hjl (by decide)⟩
            | 4, ho =>
              obtain rfl := Option.some.inj ho
              have e123 : fr.tmps[123]?.getD undef = .pointer (some ⟨w7.heap.size, 2, none⟩) := HF.out.ev (i := 3) rfl rfl (HE.out ⟨3, .data⟩ (by simp) rfl)
              have hc := HCL.out _ (by obtain ⟨sS, -, hm⟩ := HW.out; exact hm.bel)
              exact wp_q rfl rfl (by simp [execOp, go_sem, e123, hc.2]; try rfl) ⟨x, HF.out.put (by kernel_rfl) rfl rfl rfl (of_decide_eq_true rfl), HW.out.q hjl (by decide)⟩
            | 5, ho =>
              obtain rfl := Option.some.inj ho
              have e122 : fr.tmps[122]?.getD undef = x.1 := HF.out.ev (i := 2) rfl rfl (HE.out ⟨2, .data⟩ (by simp) rfl)
              have e124 : fr.tmps[124]?.getD undef = .slice adw X.W.length cw := HF.out.ev (i := 4) rfl rfl (HE.out ⟨4, .data⟩ (by simp) rfl)
              have hp := HE.out ⟨2, .data⟩ (by simp) rfl
              obtain ⟨m1, m2⟩ := HW.out.at 1 rfl hl0 (fun j hj => by obtain rfl : j = 0 := (by omega); exact ⟨2, rfl, hp⟩)
              refine wpOp_step rfl fun K' hK => ?_
              rw [if_pos (by simp [Region.wanted])]
              refine wp_app _ _ rfl (V := x.1) (by simp [Act.eval, e122]) m1 (by first | (simp [Act.eval, e124]; done) | (simp [Act.eval, e124]; rfl)) (HS2.out.below m2) HLR.out HLW.out m2.size ?_
              intro v' w8 h1 h2
              have HFy : Hid (FrK _ ((fun x : Value × Value => fun dd => if dd = 120 then .pointer (some ⟨w7.heap.size, 1, none⟩) else if dd = 121 then .slice adr X.R.length cr else if dd = 122 then x.1 else if dd = 123 then .pointer (some ⟨w7.heap.size, 2, none⟩) else if dd = 124 then .slice adw X.W.length cw else if dd = 125 then x.2 else if dd = 15 then x.2 else undef) (x.1, v')) _ listed fr) := HF.out.swap (fun j o d g1 g2 g3 => by
                by_cases e : d = 125
                · subst e
                  have := ndB_spec (j := j) (k := 5) (d := 125) (by kernel_rfl) g1 rfl g2 rfl
                  subst this
                  rw [hl0] at g3; cases g3
                · by_cases e2 : d = 15
                  · subst e2
                    have := ndB_spec (j := j) (k := 6) (d := 15) (by kernel_rfl) g1 rfl g2 rfl
                    subst this
                    have := HC.out 6 _ rfl g3 ⟨5, .data⟩ (by simp) rfl; rw [hl0] at this; cases this
                  · simp [e, e2])
              exact hK _ _ ⟨(x.1, v'), HFy.out.put (by kernel_rfl) rfl rfl rfl (of_decide_eq_true rfl), HW.out.go 1 hjl rfl hl0 (fun j hj => by obtain rfl : j = 0 := (by omega); exact ⟨2, rfl, hp⟩) (by intro a ha; match a, ha with | 0, ha => simp at ha | 1, _ => rfl) ⟨h1, m2.trans ((h2.below w0.heap.size m2.size fun k e => m1.ge k e))⟩⟩
            | 6, ho =>
              obtain rfl := Option.some.inj ho
              have e125 : fr.tmps[125]?.getD undef = x.2 := HF.out.ev (i := 5) rfl rfl (HE.out ⟨5, .data⟩ (by simp) rfl)
              exact wp_q rfl rfl (by simp [execOp, go_sem, e125]; try rfl) ⟨x, HF.out.put (by kernel_rfl) rfl rfl rfl (of_decide_eq_true rfl), HW.out.q hjl (by decide)⟩
          case fin =>
            rintro listed fr w2 x hF hW hr
            have all := allDone hr hF.q.ls (by kernel_rfl)
            obtain ⟨sS, hs1, hm⟩ := hW
            have hs : 2 ≤ sS := by
              have := hs1 1 5 rfl
              rw [all 5 (by decide)] at this
              have : 1 < sS := by simpa using this.symm
              omega
            obtain ⟨s2, rfl⟩ : ∃ s2, sS = s2 + 2 := ⟨sS - 2, by omega⟩
            obtain ⟨m1, m2⟩ := hm
            rw [hF.full all]
            have SJ := hid m1
            have HBJ := hid (HB0.out.trans (m2.mono HB0.out.size))
            clear hF hr all m1 m2 hs1 hs HCL HS1 HS2
            generalize x.2 = vl at *
            simp only [List.foldl_cons, List.foldl_nil, fillF]
            go_simp
            have HLN : Hid ((X.R ++ X.W).length ≤ 1000 ∧ ∀ y ∈ X.R ++ X.W, Gd (RmG p 0 2) f y) := by
              refine ⟨?_, fun y hy => ?_⟩
              · rw [List.length_append]; have := HY.out.2.2.2.1; omega
              · rcases List.mem_append.1 hy with z | z
                · exact HY.out.2.2.2.2.2.1 y z
                · exact HY.out.2.2.2.2.2.2 y z
            have HL9 := hid (HL8.out.below HBJ.out)
            obtain ⟨LL, hLL⟩ : ∃ LL, X.R ++ X.W = LL := ⟨_, rfl⟩
            rw [hLL] at HLN SJ
            obtain ⟨adl, cl, hvl⟩ := SJ.out.sli
            subst hvl
            have hcl : LL.length ≤ 1000 := HLN.out.1
            clear hLL
            go_wp2_with fail
            go_loopw [16] (fun i wr => ∃ k : Nat, k ≤ LL.length ∧ i = .int .i64 k ∧ Hid (LQ W wr B (B + 1) p r X.v 0 2 f f ∧ Sg wr w0.heap.size (.slice adl LL.length cl) LL)) (fun i _ => LL.length - (intOf i).toNat)
            case atStart => exact ⟨0, by omega, rfl, HL9.out, SJ.out⟩
            case round =>
              obtain ⟨k, kl, rfl, HK⟩ := hrel
              by_cases hk : k < LL.length
              · have hkl : (k : Int) < LL.length := by omega
                obtain ⟨y, hy⟩ : ∃ y, LL[k]? = some y := ⟨LL[k]'hk, List.getElem?_eq_getElem _⟩
                obtain ⟨⟨y0, y1⟩, ⟨y2, y3⟩, y4⟩ := HLN.out.2 y (List.mem_of_getElem? hy)
                obtain ⟨g, cp, heq, g1, g2, g3, g4⟩ := HK.out.2.at (by omega)
                obtain ⟨rfl, rfl⟩ : adl = some ⟨g, 0, none⟩ ∧ cl = cp := by
                  injection heq with e1 e2 e3
                  exact ⟨e1, e3⟩
                clear heq
                obtain ⟨q0, q1⟩ := g4 k y hy
                have hlc : (LL.length : Int) ≤ cl := by omega
                have hcm : ¬ (k : Int) < 0 := by omega
                go_upto_region 26 with fail
                have f0' : ∀ x : C.WB wr, x.w.cell? ⟨g, k * 2, none⟩ = some (.int .u64 y.1) := fun x => x.cell g3 q0
                have f1' : ∀ x : C.WB wr, x.w.cell? ⟨g, k * 2 + 1, none⟩ = some (.int .i64 y.2) := fun x => x.cell g3 q1
                have f2' : ∀ x : C.WB wr, x.w.cell? ⟨B, 1, none⟩ = some (.pointer (some ⟨r, 0, none⟩)) := fun x => (HK.out.1.below x.h).c1
                have HHs : Hid (∀ x : C.WB wr, Calls Try.prog 31 #[.pointer (some ⟨r, 0, none⟩), .int .u64 y.1, .int .i64 y.2] x.w fun e w' => e = .returned (.bool (hasB 0 2 y.1 y.2)) ∧ Below x.w.heap.size x.w w') := fun x => (l_WHas (HK.out.1.below x.h) y.1 y.2 y0 y1 (by omega) (by omega)).mono fun e w' ⟨z1, z2⟩ => ⟨z1, z2.below _⟩
                have y4' : y.2 = 0 ∨ hasB 0 2 y.1 y.2 = true := y4
                generalize hasB 0 2 y.1 y.2 = hb at *
                generalize y.1 = yA at *
                generalize y.2 = yL at *
                clear q0 q1 g4 hy y4
                by_cases hz : 0 < yL
                · have hzb : decide (0 < yL) = true := by simpa using hz
                  obtain rfl : hb = true := y4'.resolve_left (by omega)
                  refine C.wp_region_wb (by kernel_rfl) (by kernel_rfl) ?_
                  repeat
                    refine wpQuiet_step (fun K hK => ?_)
                    go_simp
                    first
                      | (refine hK _ ?_; clear hK K)
                      | (refine ⟨.bool true, fun x => ?_, hK _ ?_⟩
                         · (go_at_call 31; exact C.Calls.wb x (HHs.out x))
                         clear hK K)
                      | (refine ⟨_, fun _ => rfl, hK _ ?_⟩; clear hK K)
                  refine wpQuiet_nil ?_
                  intro w9 hw9
                  obtain ⟨y9, rfl⟩ := hw9
                  have HK9 : Hid (LQ W y9.w B (B + 1) p r X.v 0 2 f f ∧ Sg y9.w w0.heap.size (.slice (some ⟨g, 0, none⟩) LL.length cl) LL) := ⟨HK.out.1.below y9.h, HK.out.2.below y9.h⟩
                  clear f0' f1' f2' HHs
                  go_wp2_with fail
                  go_roundw
                  case rel => exact ⟨k + 1, by omega, by go_num, HK9.out⟩
                  case measure => simp [intOf]; omega
                · obtain rfl : yL = 0 := by omega
                  clear hz y4' y2 y3 f2' HHs
                  obtain ⟨w9', hw9'⟩ : ∃ w9', w9' = wr.drew := ⟨_, rfl⟩
                  have HB9 : Hid (Below wr.heap.size wr w9') := hw9' ▸ (Below.refl _ _).drew
                  have HQ1 : Hid (∀ w5, w5 = w9' → w5.cell? ⟨g, k * 2 + 1, none⟩ = some (.int .i64 0)) := fun w5 h5 => by rw [h5]; exact f1' ⟨w9', HB9.out⟩
                  refine wp_region_any (by kernel_rfl) ?_
                  rw [show ({ wr with drawn := wr.drawn + 1 } : World) = w9' from hw9'.symm]
                  clear hw9' f0' f1'
                  refine wpAny_fz (α := Unit) (fun _ => fun dd => if dd = 132 then .slice (some ⟨g, 0, none⟩) LL.length cl else if dd = 133 then .int .i64 (k : Int) else if dd = 134 then .pointer (some ⟨g, k * 2, none⟩) else if dd = 135 then .pointer (some ⟨g, k * 2 + 1, none⟩) else if dd = 136 then .int .i64 0 else if dd = 137 then .bool false else if dd = 138 then .bool false else if dd = 139 then undef else if dd = 140 then undef else if dd = 141 then undef else if dd = 142 then undef else if dd = 143 then undef else if dd = 144 then undef else if dd = 145 then undef else if dd = 146 then undef else if dd = 147 then undef else if dd = 148 then undef else if dd = 149 then undef else if dd = 150 then undef else if dd = 151 then undef else if dd = 152 then undef else if dd = 153 then .bool false else undef) (VS [] (fun _ (_ : Unit) w => w = w9')) ?step ?fin () ?start
                  case start => exact .start rfl
                  case step =>
                    rintro listed fr wr x hF hW hC i hj
                    obtain ⟨hl, o, ho, he⟩ := mem_ready.1 hj
                    have hjl : i < listed.size := by rw [hF.q.ls]; exact (Array.getElem?_eq_some_iff.1 ho).1
                    have hl0 := getD_tf hjl hl
                    clear hj
                    have HF := hid hF
                    have HW := hid hW
                    have HE := hid he
                    have HC := hid hC
                    clear hF hW he hl hC
                    match i, ho with
                    | 0, ho =>
                      obtain rfl := Option.some.inj ho
                      have e15 : fr.tmps[15]?.getD undef = .slice (some ⟨g, 0, none⟩) LL.length cl := HF.out.base 15 (by kernel_rfl) rfl
                      exact wp_q rfl rfl (by simp [execOp, go_sem, e15]; try rfl) ⟨(), HF.out.put (by kernel_rfl) rfl rfl rfl (of_decide_eq_true rfl), HW.out.q hjl (by decide)⟩
                    | 1, ho =>
                      obtain rfl := Option.some.inj ho
                      have e16 : fr.tmps[16]?.getD undef = .int .i64 (k : Int) := HF.out.base 16 (by kernel_rfl) rfl
                      exact wp_q rfl rfl (by simp [execOp, go_sem, e16]; try rfl) ⟨(), HF.out.put (by kernel_rfl) rfl rfl rfl (of_decide_eq_true rfl), HW.out.q hjl (by decide)⟩
                    | 2, ho =>
                      obtain rfl := Option.some.inj ho
                      have e132 : fr.tmps[132]?.getD undef = .slice (some ⟨g, 0, none⟩) LL.length cl := HF.out.ev (i := 0) rfl rfl (HE.out ⟨0, .data⟩ (by simp) rfl)
                      have e133 : fr.tmps[133]?.getD undef = .int .i64 (k : Int) := HF.out.ev (i := 1) rfl rfl (HE.out ⟨1, .data⟩ (by simp) rfl)
                      exact wp_q rfl rfl (by simp [execOp, go_sem, e132, e133, hkl]; try rfl) ⟨(), HF.out.put (by kernel_rfl) rfl rfl rfl (of_decide_eq_true rfl), HW.out.q hjl (by decide)⟩
                    | 3, ho =>
                      obtain rfl := Option.some.inj ho
                      have e134 : fr.tmps[134]?.getD undef = .pointer (some ⟨g, k * 2, none⟩) := HF.out.ev (i := 2) rfl rfl (HE.out ⟨2, .data⟩ (by simp) rfl)
                      exact wp_q rfl rfl (by simp [execOp, go_sem, e134]; try rfl) ⟨(), HF.out.put (by kernel_rfl) rfl rfl rfl (of_decide_eq_true rfl), HW.out.q hjl (by decide)⟩
                    | 4, ho =>
                      obtain rfl := Option.some.inj ho
                      have e135 : fr.tmps[135]?.getD undef = .pointer (some ⟨g, k * 2 + 1, none⟩) := HF.out.ev (i := 3) rfl rfl (HE.out ⟨3, .data⟩ (by simp) rfl)
                      have hc := HQ1.out wr (by obtain ⟨sS, -, hm⟩ := HW.out; exact hm)
                      exact wp_q rfl rfl (by simp [execOp, go_sem, e135, hc]; try rfl) ⟨(), HF.out.put (by kernel_rfl) rfl rfl rfl (of_decide_eq_true rfl), HW.out.q hjl (by decide)⟩
                    | 5, ho =>
                      obtain rfl := Option.some.inj ho
                      have e136 : fr.tmps[136]?.getD undef = .int .i64 0 := HF.out.ev (i := 4) rfl rfl (HE.out ⟨4, .data⟩ (by simp) rfl)
                      exact wp_q rfl rfl (by simp [execOp, go_sem, e136]; try rfl) ⟨(), HF.out.put (by kernel_rfl) rfl rfl rfl (of_decide_eq_true rfl), HW.out.q hjl (by decide)⟩
                    | 6, ho =>
                      obtain rfl := Option.some.inj ho
                      have e137 : fr.tmps[137]?.getD undef = .bool false := HF.out.ev (i := 5) rfl rfl (HE.out ⟨5, .data⟩ (by simp) rfl)
                      exact wp_q rfl rfl (by simp [execOp, go_sem, e137]; try rfl) ⟨(), HF.out.put (by kernel_rfl) rfl rfl rfl (of_decide_eq_true rfl), HW.out.q hjl (by decide)⟩
                    | 7, ho =>
                      obtain rfl := Option.some.inj ho
                      have hg : fr.tmps[138]? = some (.bool false) := HF.out.q.val 6 _ 138 rfl rfl (HE.out ⟨6, .guard⟩ (by simp) rfl)
                      exact wp_sk rfl (wtn rfl rfl rfl hg (by decide)) ⟨(), HF.out.put (by kernel_rfl) rfl rfl rfl (of_decide_eq_true rfl), HW.out.q hjl (by decide)⟩
                    | 8, ho =>
                      obtain rfl := Option.some.inj ho
                      have hg : fr.tmps[138]? = some (.bool false) := HF.out.q.val 6 _ 138 rfl rfl (HE.out ⟨6, .guard⟩ (by simp) rfl)
                      exact wp_sk rfl (wtn rfl rfl rfl hg (by decide)) ⟨(), HF.out.put (by kernel_rfl) rfl rfl rfl (of_decide_eq_true rfl), HW.out.q hjl (by decide)⟩
                    | 9, ho =>
                      obtain rfl := Option.some.inj ho
                      have hg : fr.tmps[138]? = some (.bool false) := HF.out.q.val 6 _ 138 rfl rfl (HE.out ⟨6, .guard⟩ (by simp) rfl)
                      exact wp_sk rfl (wtn rfl rfl rfl hg (by decide)) ⟨(), HF.out.put (by kernel_rfl) rfl rfl rfl (of_decide_eq_true rfl), HW.out.q hjl (by decide)⟩
                    | 10, ho =>
                      obtain rfl := Option.some.inj ho
                      have hg : fr.tmps[138]? = some (.bool false) := HF.out.q.val 6 _ 138 rfl rfl (HE.out ⟨6, .guard⟩ (by simp) rfl)
                      exact wp_sk rfl (wtn rfl rfl rfl hg (by decide)) ⟨(), HF.out.put (by kernel_rfl) rfl rfl rfl (of_decide_eq_true rfl), HW.out.q hjl (by decide)⟩
                    | 11, ho =>
                      obtain rfl := Option.some.inj ho
                      have hg : fr.tmps[138]? = some (.bool false) := HF.out.q.val 6 _ 138 rfl rfl (HE.out ⟨6, .guard⟩ (by simp) rfl)
                      exact wp_sk rfl (wtn rfl rfl rfl hg (by decide)) ⟨(), HF.out.put (by kernel_rfl) rfl rfl rfl (of_decide_eq_true rfl), HW.out.q hjl (by decide)⟩
                    | 12, ho =>
                      obtain rfl := Option.some.inj ho
                      have hg : fr.tmps[138]? = some (.bool false) := HF.out.q.val 6 _ 138 rfl rfl (HE.out ⟨6, .guard⟩ (by simp) rfl)
                      exact wp_sk rfl (wtn rfl rfl rfl hg (by decide)) ⟨(), HF.out.put (by kernel_rfl) rfl rfl rfl (of_decide_eq_true rfl), HW.out.q hjl (by decide)⟩
                    | 13, ho =>
                      obtain rfl := Option.some.inj ho
                      have hg : fr.tmps[138]? = some (.bool false) := HF.out.q.val 6 _ 138 rfl rfl (HE.out ⟨6, .guard⟩ (by simp) rfl)
                      exact wp_sk rfl (wtn rfl rfl rfl hg (by decide)) ⟨(), HF.out.put (by kernel_rfl) rfl rfl rfl (of_decide_eq_true rfl), HW.out.q hjl (by decide)⟩
                    | 14, ho =>
                      obtain rfl := Option.some.inj ho
                      have hg : fr.tmps[138]? = some (.bool false) := HF.out.q.val 6 _ 138 rfl rfl (HE.out ⟨6, .guard⟩ (by simp) rfl)
                      exact wp_sk rfl (wtn rfl rfl rfl hg (by decide)) ⟨(), HF.out.put (by kernel_rfl) rfl rfl rfl (of_decide_eq_true rfl), HW.out.q hjl (by decide)⟩
                    | 15, ho =>
                      obtain rfl := Option.some.inj ho
                      have hg : fr.tmps[138]? = some (.bool false) := HF.out.q.val 6 _ 138 rfl rfl (HE.out ⟨6, .guard⟩ (by simp) rfl)
                      exact wp_sk rfl (wtn rfl rfl rfl hg (by decide)) ⟨(), HF.out.put (by kernel_rfl) rfl rfl rfl (of_decide_eq_true rfl), HW.out.q hjl (by decide)⟩
                    | 16, ho =>
                      obtain rfl := Option.some.inj ho
                      have hg : fr.tmps[138]? = some (.bool false) := HF.out.q.val 6 _ 138 rfl rfl (HE.out ⟨6, .guard⟩ (by simp) rfl)
                      exact wp_sk rfl (wtn rfl rfl rfl hg (by decide)) ⟨(), HF.out.put (by kernel_rfl) rfl rfl rfl (of_decide_eq_true rfl), HW.out.q hjl (by decide)⟩
                    | 17, ho =>
                      obtain rfl := Option.some.inj ho
                      have hg : fr.tmps[138]? = some (.bool false) := HF.out.q.val 6 _ 138 rfl rfl (HE.out ⟨6, .guard⟩ (by simp) rfl)
                      exact wp_sk rfl (wtn rfl rfl rfl hg (by decide)) ⟨(), HF.out.put (by kernel_rfl) rfl rfl rfl (of_decide_eq_true rfl), HW.out.q hjl (by decide)⟩
                    | 18, ho =>
                      obtain rfl := Option.some.inj ho
                      have hg : fr.tmps[138]? = some (.bool false) := HF.out.q.val 6 _ 138 rfl rfl (HE.out ⟨6, .guard⟩ (by simp) rfl)
                      exact wp_sk rfl (wtn rfl rfl rfl hg (by decide)) ⟨(), HF.out.put (by kernel_rfl) rfl rfl rfl (of_decide_eq_true rfl), HW.out.q hjl (by decide)⟩
                    | 19, ho =>
                      obtain rfl := Option.some.inj ho
                      have hg : fr.tmps[138]? = some (.bool false) := HF.out.q.val 6 _ 138 rfl rfl (HE.out ⟨6, .guard⟩ (by simp) rfl)
                      exact wp_sk rfl (wtn rfl rfl rfl hg (by decide)) ⟨(), HF.out.put (by kernel_rfl) rfl rfl rfl (of_decide_eq_true rfl), HW.out.q hjl (by decide)⟩
                    | 20, ho =>
                      obtain rfl := Option.some.inj ho
                      have hg : fr.tmps[138]? = some (.bool false) := HF.out.q.val 6 _ 138 rfl rfl (HE.out ⟨6, .guard⟩ (by simp) rfl)
                      exact wp_sk rfl (wtn rfl rfl rfl hg (by decide)) ⟨(), HF.out.put (by kernel_rfl) rfl rfl rfl (of_decide_eq_true rfl), HW.out.q hjl (by decide)⟩
                    | 21, ho =>
                      obtain rfl := Option.some.inj ho
                      have e138 : fr.tmps[138]?.getD undef = .bool false := HF.out.ev (i := 6) rfl rfl (HE.out ⟨6, .data⟩ (by simp) rfl)
                      have e152 : fr.tmps[152]?.getD undef = undef := HF.out.ev (i := 20) rfl rfl (HE.out ⟨20, .data⟩ (by simp) rfl)
                      exact wp_q rfl rfl (by simp [execOp, go_sem, e138, e152]; try rfl) ⟨(), HF.out.put (by kernel_rfl) rfl rfl rfl (of_decide_eq_true rfl), HW.out.q hjl (by decide)⟩
                  case fin =>
                    rintro listed fr w2 x hF hW hr
                    have all := allDone hr hF.q.ls (by kernel_rfl)
                    have hw9 : w2 = w9' := by obtain ⟨sS, -, hm⟩ := hW; exact hm
                    rw [hF.full all]
                    clear hF hr all hW
                    subst hw9
                    have HK9 : Hid (LQ W w2 B (B + 1) p r X.v 0 2 f f ∧ Sg w2 w0.heap.size (.slice (some ⟨g, 0, none⟩) LL.length cl) LL) := ⟨HK.out.1.below HB9.out, HK.out.2.below HB9.out⟩
                    simp only [List.foldl_cons, List.foldl_nil, fillF]
                    go_simp
                    go_wp2_with fail
                    go_roundw
                    case rel => exact ⟨k + 1, by omega, by go_num, HK9.out⟩
                    case measure => simp [intOf]; omega
              · obtain rfl : k = LL.length := by omega
                go_wp2_with fail
                go_roundw
                case rel => exact ⟨j + 1, X.v, by omega, by go_num, HK.out.1, HSZ.out⟩
                case measure => simp [intOf]; omega
      · obtain rfl : j = tN := by omega
        have c0 := HI.out.1.c0
        have c1 := HI.out.1.c1
        have hSm := l_Same HI.out.1
        go_wp2_with (first
          | (go_at_call 13; (with_reducible refine (HPt.out _).mono ?_); rintro e w' ⟨rfl, hw⟩; obtain rfl := hw.symm)
          | (go_at_call 29; (refine hSm.mono ?_); rintro e w10 ⟨rfl, h1, h2⟩; have HE := hid h1.new; clear h1 h2 hSm c0 c1)
          | (go_at_call 30; (refine (HAw.out _).mono ?_); rintro e w13 ⟨rfl, h1⟩; have B5 := hid h1; clear h1))
        go_ret
        exact ⟨rfl, HE.out.trans (B5.out.mono HE.out.size)⟩
end Go.Proofs.Ytgebjfkmiaobgaa
