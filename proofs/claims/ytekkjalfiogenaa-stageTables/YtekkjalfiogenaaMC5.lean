/- What the statements of layer 4 ask of a case, and the answer that they ask for. -/
import Derived.Test.YtekkjalfiogenaaCPF
import Derived.Test.YtekkjalfiogenaaMC2
import Derived.Test.YtekkjalfiogenaaMC3
namespace Go.Proofs.Ytekkjalfiogenaa.C
open Go.RowKit
set_option linter.unusedVariables false
set_option maxRecDepth 100000

def aw3 : Nat → Int × Int
  | 0 => (512, 2049)
  | 1 => (1024, 3073)
  | _ => (1541, 7383)
theorem gst_awake : gst (rdm 8 (fcl 8 aw3 3)) 1 20771 2 = (28963, 6, 0) := of_decide_eq_true (by kernel_rfl)
theorem cl_awake {ab : Nat} (w : World) (ty : TypeId) (h : w.heap[ab]? = some (.cells #[.int .i64 512, .int .u64 2049, .int .i64 1024, .int .u64 3073, .int .i64 1541, .int .u64 7383] ty (0, 0))) : Cl w (some ⟨ab, 0, none⟩) 3 3 ab 0 aw3 := by
  refine ⟨Nat.le_refl _, by decide, fun _ => ⟨rfl, lt_of_block h⟩, fun i hi => ?_, fun i hi => ?_⟩
  · rcases (show i = 0 ∨ i = 1 ∨ i = 2 by omega) with rfl | rfl | rfl
    · exact ⟨by rw [cell_of_row w ab _ _ _ _ h]; rfl, by rw [cell_of_row w ab _ _ _ _ h]; rfl⟩
    · exact ⟨by rw [cell_of_row w ab _ _ _ _ h]; rfl, by rw [cell_of_row w ab _ _ _ _ h]; rfl⟩
    · exact ⟨by rw [cell_of_row w ab _ _ _ _ h]; rfl, by rw [cell_of_row w ab _ _ _ _ h]; rfl⟩
  · rcases (show i = 0 ∨ i = 1 ∨ i = 2 by omega) with rfl | rfl | rfl
    · exact ⟨⟨by decide, by decide⟩, by decide, by decide⟩
    · exact ⟨⟨by decide, by decide⟩, by decide, by decide⟩
    · exact ⟨⟨by decide, by decide⟩, by decide, by decide⟩
end Go.Proofs.Ytekkjalfiogenaa.C
namespace Go.Proofs.Ytekkjalfiogenaa.C
open Go.RowKit
set_option linter.unusedVariables false
set_option maxRecDepth 100000

def hsN (k m : Nat) : Bool := decide (k &&& m = m)
def pmN (k : Nat) : Nat := if hsN k 128 = true then k &&& 14 else k &&& 10
theorem low_cases : ∀ k : Fin 256, (!hsN k.val 1 || (hsN k.val 4 && !hsN k.val 2)) = false → decide (k.val &&& 10 ≠ 0) = true →
    ((hsN k.val 80 && hsN k.val 132) = true ∧ (hsN k.val 80 && hsN k.val 2) = true ∧ (hsN k.val 80 && hsN k.val 8) = true ∧ pmN k.val = 14) ∨
    ((hsN k.val 80 && hsN k.val 132) = true ∧ (hsN k.val 80 && hsN k.val 2) = true ∧ (hsN k.val 80 && hsN k.val 8) = false ∧ pmN k.val = 6) ∨
    ((hsN k.val 80 && hsN k.val 132) = false ∧ (hsN k.val 80 && hsN k.val 2) = true ∧ (hsN k.val 80 && hsN k.val 8) = true ∧ pmN k.val = 10) ∨
    ((hsN k.val 80 && hsN k.val 132) = false ∧ (hsN k.val 80 && hsN k.val 2) = true ∧ (hsN k.val 80 && hsN k.val 8) = false ∧ pmN k.val = 2) ∨
    ((hsN k.val 80 && hsN k.val 132) = false ∧ (hsN k.val 80 && hsN k.val 2) = false ∧ (hsN k.val 80 && hsN k.val 8) = true ∧ pmN k.val = 8) ∨
    ((hsN k.val 80 && hsN k.val 132) = false ∧ (hsN k.val 80 && hsN k.val 2) = false ∧ (hsN k.val 80 && hsN k.val 8) = false) := of_decide_eq_true (by kernel_rfl)
theorem pm_N (e : Int) : pm e = (pmN (lo e) : Int) := by unfold pm pmN hs hsN; split <;> rfl
theorem leaf_cases (e : Int) (h1 : wr e = false) (h2 : lf e = true) :
    (al e 3 = true ∧ al e 2 = true ∧ al e 1 = true ∧ pm e = 14) ∨ (al e 3 = true ∧ al e 2 = true ∧ al e 1 = false ∧ pm e = 6) ∨ (al e 3 = false ∧ al e 2 = true ∧ al e 1 = true ∧ pm e = 10) ∨
    (al e 3 = false ∧ al e 2 = true ∧ al e 1 = false ∧ pm e = 2) ∨ (al e 3 = false ∧ al e 2 = false ∧ al e 1 = true ∧ pm e = 8) ∨ (al e 3 = false ∧ al e 2 = false ∧ al e 1 = false) := by
  have h1' : (!hs e 1 || (hs e 4 && !hs e 2)) = false := by
    unfold wr at h1
    rw [Bool.or_eq_false_iff] at h1
    exact h1.1
  rcases low_cases ⟨lo e, lo_lt e⟩ h1' h2 with ⟨q3, q2, q1, qp⟩ | ⟨q3, q2, q1, qp⟩ | ⟨q3, q2, q1, qp⟩ | ⟨q3, q2, q1, qp⟩ | ⟨q3, q2, q1, qp⟩ | ⟨q3, q2, q1⟩
  · exact .inl ⟨q3, q2, q1, by rw [pm_N]; exact congrArg Int.ofNat qp⟩
  · exact .inr (.inl ⟨q3, q2, q1, by rw [pm_N]; exact congrArg Int.ofNat qp⟩)
  · exact .inr (.inr (.inl ⟨q3, q2, q1, by rw [pm_N]; exact congrArg Int.ofNat qp⟩))
  · exact .inr (.inr (.inr (.inl ⟨q3, q2, q1, by rw [pm_N]; exact congrArg Int.ofNat qp⟩)))
  · exact .inr (.inr (.inr (.inr (.inl ⟨q3, q2, q1, by rw [pm_N]; exact congrArg Int.ofNat qp⟩))))
  · exact .inr (.inr (.inr (.inr (.inr ⟨q3, q2, q1⟩))))
/-- a walk without fault ends at a leaf that is right -/
theorem D_right {R : Int → Int × Int} (addr wrong : Int) (hw : wrong ≠ 0) : ∀ (k : Nat) (t : Int), (D R addr wrong k t).fault = 0 → wr (D R addr wrong k t).leaf = false ∧ lf (D R addr wrong k t).leaf = true ∧ num (D R addr wrong k t).leaf % pw (D R addr wrong k t).level = 0 := by
  intro k
  induction k with
  | zero =>
    intro t h
    by_cases g1 : 4503599627370495 < t
    · rw [D_high g1] at h; exact absurd h (show (3 : Int) ≠ 0 by decide)
    · have g1 : t ≤ 4503599627370495 := by omega
      by_cases g2 : (R (atF addr 0 t)).2 = 0
      · cases g3 : wr (R (atF addr 0 t)).1
        · cases g4 : lf (R (atF addr 0 t)).1
          · rw [D_end g1 g2 g3 g4] at h; exact absurd h hw
          · by_cases g5 : num (R (atF addr 0 t)).1 % pw 0 = 0
            · rw [D_leaf g1 g2 g3 g4 g5]; exact ⟨g3, g4, g5⟩
            · rw [D_mis g1 g2 g3 g4 g5] at h; exact absurd h hw
        · rw [D_wrong g1 g2 g3] at h; exact absurd h hw
      · rw [D_fault g1 g2] at h; exact absurd h g2
  | succ k ih =>
    intro t h
    by_cases g1 : 4503599627370495 < t
    · rw [D_high g1] at h; exact absurd h (show (3 : Int) ≠ 0 by decide)
    · have g1 : t ≤ 4503599627370495 := by omega
      by_cases g2 : (R (atF addr (k + 1) t)).2 = 0
      · cases g3 : wr (R (atF addr (k + 1) t)).1
        · cases g4 : lf (R (atF addr (k + 1) t)).1
          · rw [D_next g1 g2 g3 g4] at h ⊢; exact ih _ h
          · by_cases g5 : num (R (atF addr (k + 1) t)).1 % pw (k + 1) = 0
            · rw [D_leaf g1 g2 g3 g4 g5]; exact ⟨g3, g4, g5⟩
            · rw [D_mis g1 g2 g3 g4 g5] at h; exact absurd h hw
        · rw [D_wrong g1 g2 g3] at h; exact absurd h hw
      · rw [D_fault g1 g2] at h; exact absurd h g2
theorem gst_cases {R : Int → Int × Int} (hR : RdOk R) (root gpa : Int) (r0 : root ≠ 0) (r1 : 0 ≤ root) (r2 : root < 18446744073709551616) : ∃ P f : Int, (f = 2 ∨ f = 3) ∧
    ((gst R root gpa 3 = (0, 0, f) ∧ gst R root gpa 2 = (0, 0, f) ∧ gst R root gpa 1 = (0, 0, f)) ∨
     (gst R root gpa 3 = (P, 14, 0) ∧ gst R root gpa 2 = (P, 14, 0) ∧ gst R root gpa 1 = (P, 14, 0)) ∨
     (gst R root gpa 3 = (P, 6, 0) ∧ gst R root gpa 2 = (P, 6, 0) ∧ gst R root gpa 1 = (0, 0, 2)) ∨
     (gst R root gpa 3 = (0, 0, 2) ∧ gst R root gpa 2 = (P, 10, 0) ∧ gst R root gpa 1 = (P, 10, 0)) ∨
     (gst R root gpa 3 = (0, 0, 2) ∧ gst R root gpa 2 = (P, 2, 0) ∧ gst R root gpa 1 = (0, 0, 2)) ∨
     (gst R root gpa 3 = (0, 0, 2) ∧ gst R root gpa 2 = (0, 0, 2) ∧ gst R root gpa 1 = (P, 8, 0))) := by
  have hu : ∀ acc, gst R root gpa acc = if 549755813888 ≤ gpa then (0, 0, 2) else if (D R gpa 2 2 root).fault ≠ 0 then (0, 0, (D R gpa 2 2 root).fault) else if al (D R gpa 2 2 root).leaf acc = true then (plc (D R gpa 2 2 root) gpa, pm (D R gpa 2 2 root).leaf, 0) else (0, 0, 2) := fun acc => by unfold gst; rw [if_neg r0]
  by_cases g1 : 549755813888 ≤ gpa
  · exact ⟨0, 2, .inl rfl, .inl ⟨by rw [hu, if_pos g1], by rw [hu, if_pos g1], by rw [hu, if_pos g1]⟩⟩
  · by_cases g2 : (D R gpa 2 2 root).fault = 0
    · obtain ⟨h1, h2, _⟩ := D_right gpa 2 (by decide) 2 root g2
      have hv : ∀ acc, gst R root gpa acc = if al (D R gpa 2 2 root).leaf acc = true then (plc (D R gpa 2 2 root) gpa, pm (D R gpa 2 2 root).leaf, 0) else (0, 0, 2) := fun acc => by rw [hu, if_neg g1, if_neg (by rw [g2]; decide)]
      refine ⟨plc (D R gpa 2 2 root) gpa, 2, .inl rfl, ?_⟩
      rw [hv, hv, hv]
      rcases leaf_cases _ h1 h2 with ⟨q3, q2, q1, qp⟩ | ⟨q3, q2, q1, qp⟩ | ⟨q3, q2, q1, qp⟩ | ⟨q3, q2, q1, qp⟩ | ⟨q3, q2, q1, qp⟩ | ⟨q3, q2, q1⟩
      · rw [q3, q2, q1, qp]; exact .inr (.inl ⟨rfl, rfl, rfl⟩)
      · rw [q3, q2, q1, qp]; exact .inr (.inr (.inl ⟨rfl, rfl, rfl⟩))
      · rw [q3, q2, q1, qp]; exact .inr (.inr (.inr (.inl ⟨rfl, rfl, rfl⟩)))
      · rw [q3, q2, q1, qp]; exact .inr (.inr (.inr (.inr (.inl ⟨rfl, rfl, rfl⟩))))
      · rw [q3, q2, q1, qp]; exact .inr (.inr (.inr (.inr (.inr ⟨rfl, rfl, rfl⟩))))
      · rw [q3, q2, q1]; exact .inl ⟨rfl, rfl, rfl⟩
    · have hok := (D_ok hR gpa 2 2 root (by decide) r1 r2).flt
      refine ⟨0, (D R gpa 2 2 root).fault, by rcases hok with q | q | q | q; exact absurd q g2; exact .inl q; exact .inl q; exact .inr q, .inl ?_⟩
      exact ⟨by rw [hu, if_neg g1, if_pos g2], by rw [hu, if_neg g1, if_pos g2], by rw [hu, if_neg g1, if_pos g2]⟩
end Go.Proofs.Ytekkjalfiogenaa.C
namespace Go.Proofs.Ytekkjalfiogenaa.C
open Go.RowKit
set_option linter.unusedVariables false
set_option maxRecDepth 100000

/-- the number that stands at a place -/
def rd8 (f : Nat → Int) (o : Nat) : Int := nu (fun j => f (o + j)) 8
theorem rd8_same (g : Nat → Int) (o : Nat) (v : Int) (v0 : 0 ≤ v) (v1 : v < 18446744073709551616) : rd8 (put g o 8 (byt v)) o = v := by
  unfold rd8
  rw [nu_congr (c := byt v) 8 (fun j hj => put_in g o 8 (byt v) j hj), nu_byt v v0 8]
  have : (256 : Int) ^ 8 = 18446744073709551616 := by decide
  omega
theorem rd8_other (g h : Nat → Int) (o o' : Nat) (hd : o + 8 ≤ o' ∨ o' + 8 ≤ o) : rd8 (put g o' 8 h) o = rd8 g o := by
  unfold rd8
  exact nu_congr 8 (fun j hj => put_out g o' 8 h (o + j) (by omega))
theorem rd8_zero (o : Nat) : rd8 (fun _ => 0) o = 0 := by unfold rd8; rfl
theorem rdm_in (n : Nat) (f : Nat → Int) (a : Int) (o : Nat) (ha : a = o) (h : o + 8 ≤ 4096 * n) : rdm n f a = (rd8 f o, 0) := by
  subst ha
  unfold rdm
  rw [if_pos (by omega)]; rfl
theorem rdm_out (n : Nat) (f : Nat → Int) (a : Int) (h : 4096 * (n : Int) < a + 8) : rdm n f a = (0, 3) := by
  unfold rdm
  rw [if_neg (by omega)]
theorem lo_of (q : Int) (b : Nat) (hb : b < 256) : lo (q * 1024 + b) = b := by unfold lo; omega
theorem num_of (q : Int) (b : Nat) (hb : b < 256) : num (q * 1024 + b) = q := by unfold num; omega
end Go.Proofs.Ytekkjalfiogenaa.C
namespace Go.Proofs.Ytekkjalfiogenaa.C
open Go.RowKit
set_option linter.unusedVariables false
set_option maxRecDepth 100000

theorem put1_b {B : Nat → Int} (hB : ∀ j, 0 ≤ B j ∧ B j < 256) (k : Nat) (x : Int) (hx : 0 ≤ x ∧ x < 256) (j : Nat) : 0 ≤ put B k 1 (fun _ => x) j ∧ put B k 1 (fun _ => x) j < 256 := by
  unfold put
  split
  · exact hx
  · exact hB j
theorem c_BytesF (w : World) (S : Nat → Prop) (p : Nat) (base : Int) (n : Nat) (f : Nat → Int) (h : Mem w S p base n f) (off : Nat) (hl : off + 4096 ≤ 4096 * n) (addr : Int) (ha : addr = base + off) :
    Calls Try.prog 48 #[.pointer (some ⟨p, 0, none⟩), .int .u64 addr, .int .i64 4096] w fun e w' => ∃ b, e = .returned (.tuple #[.slice (some ⟨b, 0, none⟩) 4096 4096, .bool true]) ∧ w'.heap[b]? = some (.cells (row (fun j => f (off + j)) 0 4096).toArray 5 (0, 0)) ∧ w.heap.size ≤ b ∧ Below w.heap.size w w' :=
  c_Bytes w S p base n f h off 4096 hl addr ha
/-- a call of a function of three arguments, as one step of a region that draws its order; its guard, if it has one, says yes -/
theorem step_call3 {P : Program} {ops : Array Oper} {o : Oper} {a : Act} {w : World} {K : Act → World → Prop} {Q : Exit → Act → World → Prop} {E : Prop} (hw : Region.wanted o (yielded ops a.tmps) = true) (f : FuncId) (x y z : Operand) (ts : Array TypeId)
    (ho : o.op = .call { callee := .value (.func f), args := #[x, y, z], argTypes := ts }) (vx vy vz : Value) (hx : a.eval x = vx) (hy : a.eval y = vy) (hz : a.eval z = vz) (hnf : (callFunc f #[vx, vy, vz]).run P w = .ok (.enter f #[vx, vy, vz]) w) {R : Ending → World → Prop} (hc : Calls P f #[vx, vy, vz] w R)
    (h : ∀ e w', R e w' → ∃ v, e = .returned v ∧ K (a.put o.dst v) w') :
    if Region.wanted o (yielded ops a.tmps) = true then Oper.wp P o a w K Q else E := by
  rw [if_pos hw]
  have he : (execOp a.eval o).run P w = .ok (.enter f #[vx, vy, vz]) w := by
    have hf : a.eval (.func f) = .func (.func f) #[] #[] := rfl
    simp [execOp, ho, resolve, invoke, Deferred.ofValue, hf, hx, hy, hz, hnf]
  unfold Oper.wp
  rw [he, Oper.upon_enter]
  refine hc.mono fun e w' hR => ?_
  obtain ⟨v, rfl, hk⟩ := h e w' hR
  exact hk
set_option maxRecDepth 100000 in
theorem c_zero (w : World) (u : Value) (f : Nat → Int) (hu : Sl w u 4096 f) (hf : ∀ j, j < 4096 → f j = 0) :
    Calls Try.prog 49 #[u] w fun e w' => e = .returned (.bool true) ∧ Still w w' := by
  obtain ⟨ad, cap, rfl, hc, a, hh⟩ := hu
  obtain ⟨rfl, _, hcell⟩ := hh (by decide)
  have H1 := hid hcell
  have H3 := hid hf
  clear hcell hf hh
  go_enter Try.func49, Try.ntmps49
  go_wp2
  go_loopw [3] (fun i wr => ∃ k : Nat, k ≤ 4096 ∧ i = .int .i64 k ∧ Still w wr) (fun i _ => 4096 - (intOf i).toNat)
  case atStart => exact ⟨0, by omega, rfl, .refl w⟩
  case round =>
    obtain ⟨k, hk, rfl, hst⟩ := hrel
    by_cases hlt : k < 4096
    · have k1 : wr.cell? (a.add k) = some (.int .u8 0) := by rw [hst.cell, H1.out k hlt, H3.out k hlt]
      have HS := hid hst
      clear hst
      go_wp2
      go_roundw
      case rel => exact ⟨k + 1, by omega, by go_num, HS.out⟩
      case measure => simp [intOf]; omega
    · go_wp2
      go_ret
      exact ⟨rfl, hst⟩
set_option maxHeartbeats 1000000 in
theorem c_Same (w : World) (S T : Nat → Prop) (p q : Nat) (base : Int) (n : Nat) (f : Nat → Int) (hm : Mem w S p base n f) (hq : RMem w T q base n f) :
    Calls Try.prog 14 #[.agg #[.pointer (some ⟨p, 0, none⟩), .pointer (some ⟨q, 0, none⟩)]] w fun e w' => e = .returned (.bool true) ∧ Below w.heap.size w w' := by
  obtain ⟨b0, b1, l0, l1⟩ := hm.nums
  have HM := hid hm
  obtain ⟨g, hs, hr, rfl, hT⟩ := hq
  have HQ := hid hr
  clear hm hr
  go_enter Try.func14, Try.ntmps14
  go_wp2
  go_loopw [3] (fun i wr => ∃ k : Nat, k ≤ hs.length ∧ i = .int .i64 k ∧ wr.heap[w.heap.size]? = some (.cells #[.pointer (some ⟨p, 0, none⟩), .pointer (some ⟨q, 0, none⟩)] 31 (0, 0)) ∧ Below w.heap.size w wr) (fun i _ => hs.length - (intOf i).toNat)
  case atStart => exact ⟨0, by omega, rfl, heap_alloc_new w _, (Below.refl _ _).alloc (Nat.le_refl _) _⟩
  case round =>
    obtain ⟨k, hk, rfl, hg, hb⟩ := hrel
    have t0 : wr.cell? ⟨w.heap.size, 0, none⟩ = some (.pointer (some ⟨p, 0, none⟩)) := by rw [cell_of_row wr _ 0 _ _ _ hg]; rfl
    have t1 : wr.cell? ⟨w.heap.size, 1, none⟩ = some (.pointer (some ⟨q, 0, none⟩)) := by rw [cell_of_row wr _ 1 _ _ _ hg]; rfl
    have hR : QM wr q g base hs f := HQ.out.only (T := fun _ => False) (.ofBelow hb) fun _ _ e => e
    have HMr : Hid (Mem wr S p base hs.length f) := Mem.below HM.out hb
    have HGb := hid hg
    have HBr := hid hb
    have HRR := hid hR
    have d0 := hR.cell0
    have d1 := hR.cell1
    have hgl := lt_of_block hR.tab
    have hql := lt_of_block hR.top
    have hbl := lt_of_block hg
    clear hg hb
    by_cases hlt : k < hs.length
    · obtain ⟨x, hx⟩ : ∃ x, hs[k]? = some x := ⟨_, List.getElem?_eq_getElem hlt⟩
      have cT := hR.cellT _ x hx
      have d2 := hR.cell2
      clear hR
      have hnil := eq_nil
      have HW : Hid (IntKind.u64.wrap (base + IntKind.u64.wrap (IntKind.u64.wrap (k : Int) * 4096)) = base + (k : Int) * 4096) := by show _ = _; rw [IntKind.wrap_u64, IntKind.wrap_u64, IntKind.wrap_u64]; omega
      cases x with
      | none =>
        simp only [fv] at cT
        have HZ : Hid (∀ j, j < 4096 → (fun j => f (k * 4096 + j)) j = 0) := fun j hj => by show f (k * 4096 + j) = 0; rw [Nat.mul_comm]; exact HRR.out.bare k hx j hj
        go_wp2
        go_region_law (refine step_call3 (by simp [Region.wanted]) 48 (.tmp 17) (.tmp 26) (.const (.int .i64 4096)) #[28, 22, 3] rfl (.pointer (some ⟨p, 0, none⟩)) (.int .u64 (base + (k : Int) * 4096)) (.int .i64 4096) (by go_simp) (by go_simp; exact HW.out) rfl (Try.call48 _ _) (c_BytesF _ S p base hs.length f (Mem.drew HMr.out) (k * 4096) (by omega) _ (by omega)) ?_; rintro e w5 ⟨b5, rfl, hg5, hb5', hb5⟩; have HG5 := hid hg5; have HB5 := hid hb5; clear hg5 hb5; refine ⟨_, rfl, ?_⟩)
        all_goals (
          have t1' := (Below.cell HB5.out (p := ⟨w.heap.size, 1, none⟩) hbl).trans t1; have d2' := (Below.cell HB5.out (p := ⟨q, 2, none⟩) hql).trans d2; have cT' := (Below.cell HB5.out (p := ⟨g, k, none⟩) hgl).trans cT
          go_wp2_with (first
            | (go_at_call 49; refine (c_zero w5 _ _ (Sl.row HG5.out) HZ.out).mono ?_; rintro e w6 ⟨rfl, hst⟩; have HST := hid hst; clear hst))
          go_roundw
          case rel => exact ⟨k + 1, by omega, by go_num, by rw [HST.out.heap]; exact (HB5.out.block _ hbl).trans HGb.out, ((HBr.out.drew).trans (HB5.out.mono HBr.out.size)).trans (HST.out.below _)⟩
          case measure => simp [intOf]; omega)
      | some hc =>
        obtain ⟨hh, c⟩ := hc
        simp only [fv] at cT
        obtain ⟨hc4, cur, hgc, hcur⟩ := HRR.out.full k hh c hx
        have HCU := hid hcur
        have HGC := hid hgc
        clear hgc hcur
        go_wp2
        go_region_law (refine step_call3 (by simp [Region.wanted]) 48 (.tmp 17) (.tmp 26) (.const (.int .i64 4096)) #[28, 22, 3] rfl (.pointer (some ⟨p, 0, none⟩)) (.int .u64 (base + (k : Int) * 4096)) (.int .i64 4096) (by go_simp) (by go_simp; exact HW.out) rfl (Try.call48 _ _) (c_BytesF _ S p base hs.length f (Mem.drew HMr.out) (k * 4096) (by omega) _ (by omega)) ?_; rintro e w5 ⟨b5, rfl, hg5, hb5', hb5⟩; have HG5 := hid hg5; have HB5 := hid hb5; clear hg5 hb5; refine ⟨_, rfl, ?_⟩)
        all_goals (
          have t1' := (Below.cell HB5.out (p := ⟨w.heap.size, 1, none⟩) hbl).trans t1; have d2' := (Below.cell HB5.out (p := ⟨q, 2, none⟩) hql).trans d2; have cT' := (Below.cell HB5.out (p := ⟨g, k, none⟩) hgl).trans cT
          go_wp2_with (first
            | (go_at_call 50; refine (c_SameBytes w5 4096 (by decide) _ _ _ (fun j => f (4096 * k + j)) (Sl.row HG5.out) ⟨_, c, rfl, hc4, ⟨hh, 0, none⟩, fun _ => ⟨rfl, Nat.lt_of_lt_of_le (lt_of_block HGC.out) HB5.out.size, fun j hj => by rw [addr_add, Nat.zero_add, Below.cell HB5.out (p := ⟨hh, j, none⟩) (lt_of_block HGC.out)]; exact (cell_of_row wr hh j _ _ _ HGC.out).trans (HCU.out j hj)⟩⟩ (fun j hj => by show f (k * 4096 + j) = f (4096 * k + j); rw [Nat.mul_comm])).mono ?_; rintro e w6 ⟨rfl, hst⟩; have HST := hid hst; clear hst))
          go_roundw
          case rel => exact ⟨k + 1, by omega, by go_num, by rw [HST.out.heap]; exact (HB5.out.block _ hbl).trans HGb.out, ((HBr.out.drew).trans (HB5.out.mono HBr.out.size)).trans (HST.out.below _)⟩
          case measure => simp [intOf]; omega)
    · obtain rfl : k = hs.length := by omega
      go_wp2
      go_ret
      exact ⟨rfl, HBr.out⟩
end Go.Proofs.Ytekkjalfiogenaa.C
namespace Go.Proofs.Ytekkjalfiogenaa.C
open Go.RowKit
set_option linter.unusedVariables false
set_option maxRecDepth 100000

/-- a pair of memories that lies in a block of its own -/
def TB (w : World) (b p q : Nat) : Prop := w.heap[b]? = some (.cells #[.pointer (some ⟨p, 0, none⟩), .pointer (some ⟨q, 0, none⟩)] 31 (0, 0))
theorem TB.c0 {w : World} {b p q : Nat} (h : TB w b p q) : w.cell? ⟨b, 0, none⟩ = some (.pointer (some ⟨p, 0, none⟩)) := by rw [cell_of_row w b 0 _ _ _ h]; rfl
theorem TB.c1 {w : World} {b p q : Nat} (h : TB w b p q) : w.cell? ⟨b, 1, none⟩ = some (.pointer (some ⟨q, 0, none⟩)) := by rw [cell_of_row w b 1 _ _ _ h]; rfl
theorem TB.below {w w' : World} {b p q : Nat} (h : TB w b p q) (hb : Below w.heap.size w w') : TB w' b p q := (hb.block b (lt_of_block h)).trans h
theorem TB.new (w : World) (p q : Nat) : TB (w.alloc (.cells #[.pointer (some ⟨p, 0, none⟩), .pointer (some ⟨q, 0, none⟩)] 31)) w.heap.size p q := heap_alloc_new w _
theorem put_byt {f : Nat → Int} (hf : ∀ j, 0 ≤ f j ∧ f j < 256) (off n : Nat) {g : Nat → Int} (hg : ∀ j, 0 ≤ g j ∧ g j < 256) (j : Nat) : 0 ≤ put f off n g j ∧ put f off n g j < 256 := by
  unfold put; split
  · exact hg _
  · exact hf j
theorem fcl_byt (n : Nat) (X : Nat → Int × Int) : ∀ k j, 0 ≤ fcl n X k j ∧ fcl n X k j < 256
  | 0, j => ⟨Int.le_refl 0, show (0 : Int) < 256 by decide⟩
  | k + 1, j => put_byt (fcl_byt n X k) _ _ (byt_b _) j
end Go.Proofs.Ytekkjalfiogenaa.C
namespace Go.Proofs.Ytekkjalfiogenaa.C
open Go.RowKit
set_option linter.unusedVariables false
set_option maxRecDepth 100000

/-- a world in which all that was there is as it was -/
structure WB (w0 : World) where
  w : World
  h : Below w0.heap.size w0 w
theorem WB.cell {w0 : World} (x : WB w0) {b o : Nat} {v : Value} (hb : b < w0.heap.size) (h : w0.cell? ⟨b, o, none⟩ = some v) : x.w.cell? ⟨b, o, none⟩ = some v := by
  rw [← h]; exact Below.cell x.h (p := ⟨b, o, none⟩) hb
/-- a callee's contract, met in a world of the class -/
theorem Calls.wb {P : Program} {f : FuncId} {args : Array Value} {w0 : World} {v : Value} (x : WB w0) (h : Calls P f args x.w fun e w' => e = .returned v ∧ Below x.w.heap.size x.w w') : Calls P f args x.w fun e w'' => e = .returned v ∧ ∃ y : WB w0, w'' = y.w :=
  h.mono fun _ w' hh => ⟨hh.1, ⟨w', x.h.trans (hh.2.mono x.h.size)⟩, rfl⟩
theorem wp_region_wb {P : Program} {id : Nat} {Q : Exit → Act → World → Prop} {a : Act} {w : World} {l : List Oper} (hm : P.follows .mixedOrders = true) (hB : Region.lexB .any l.toArray = true)
    (h : wpQuiet P l.toArray (fun w' => ∃ x : WB w, w' = x.w) (fun a' => ∀ w', (∃ x : WB w, w' = x.w) → Q .normal a' w') l a) : (Code.region id l.toArray true).wp P Q a w :=
  wp_region_quiet (C := fun w' => ∃ x : WB w, w' = x.w) hm hB ⟨⟨w.drew, (Below.refl _ _).drew⟩, rfl⟩ (by simpa using h)
end Go.Proofs.Ytekkjalfiogenaa.C
namespace Go.Proofs.Ytekkjalfiogenaa.C
open Go.RowKit
set_option linter.unusedVariables false
set_option maxRecDepth 100000

theorem wpAny_inv {P : Program} {md : Region.Mode} {ops : Array Oper} {Q : Exit → Act → World → Prop} (J : Array Bool → Act → World → Prop)
    (step : ∀ listed a w, J listed a w → ∀ i ∈ Region.ready md ops listed, wpOp P ops Q i (J (listed.setIfInBounds i true)) a w)
    (fin : ∀ listed a w, J listed a w → Region.ready md ops listed = [] → Q .normal a w) :
    ∀ (fuel : Nat) (listed : Array Bool) (a : Act) (w : World), listed.toList.count false ≤ fuel → J listed a w → wpAny P md ops Q fuel listed a w := by
  intro fuel
  have key : ∀ (listed : Array Bool) (i : Nat), i ∈ Region.ready md ops listed → (listed.setIfInBounds i true).toList.count false + 1 = listed.toList.count false := by
    intro listed i hi
    have h0 := (mem_ready.1 hi).1
    have hlt : i < listed.size := by
      rcases Nat.lt_or_ge i listed.size with h | h
      · exact h
      · simp [Array.getElem?_eq_none h] at h0
    have hv : listed.toList[i]'(by simpa using hlt) = false := by simpa [hlt] using h0
    have hpos : 0 < listed.toList.count false := List.count_pos_iff.2 (by rw [← hv]; exact List.getElem_mem _)
    rw [Array.toList_setIfInBounds, List.count_set (by simpa using hlt), hv]
    have : ∀ c : Nat, 0 < c → c - (if (false == false) = true then 1 else 0) + (if (true == false) = true then 1 else 0) + 1 = c := by intro c hc; simp; omega
    exact this _ hpos
  induction fuel with
  | zero =>
    intro listed a w hc hJ
    have hr : Region.ready md ops listed = [] := by
      cases h : Region.ready md ops listed with
      | nil => rfl
      | cons i r => have := key listed i (by rw [h]; simp); omega
    exact ⟨hr, fin _ _ _ hJ hr⟩
  | succ fuel ih =>
    intro listed a w hc hJ
    refine ⟨fun h => fin _ _ _ hJ h, fun i hi => ?_⟩
    have := key listed i hi
    exact wpOp_mono (fun a' w' h' => ih _ a' w' (by omega) h') (step _ _ _ hJ i hi)
theorem ready_no {md : Region.Mode} {ops : Array Oper} {listed : Array Bool} (hr : Region.ready md ops listed = []) {j : Nat} {o : Oper} (ho : ops[j]? = some o) (hl : listed.getD j true = false)
    (he : (o.after.all fun e => !Region.binds md e || listed.getD e.on false) = true) : False := by
  have : j ∈ Region.ready md ops listed := by
    refine mem_ready.2 ⟨hl, o, ho, fun e h hb => ?_⟩
    have := Array.all_eq_true_iff_forall_mem.1 he e h
    simpa [hb] using this
  rw [hr] at this
  cases this
def svd : Bool → Value → Value → Value
  | true, v, _ => v
  | false, _, u => u
def bw : Bool → (Nat → Int) → (Nat → Int) → (Nat → Int)
  | true, v, _ => v
  | false, _, u => u
end Go.Proofs.Ytekkjalfiogenaa.C
