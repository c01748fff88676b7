/- What the statements of layer 4 ask of a case, and the answer that they ask for. -/
import Derived.Test.YtajnjmjogaacpaaGreatCPF
import Derived.Test.YtajnjmjogaacpaaGreatMC3
import Derived.Test.YtajnjmjogaacpaaGreatMC2
import Derived.Deep.Slices
namespace Go.Proofs.YtajnjmjogaacpaaGreat.C
open Go.RowKit
set_option linter.unusedVariables false
set_option maxRecDepth 100000

def aw3 : Nat → Int × Int
  | 0 => (512, 2049)
  | 1 => (1024, 3073)
  | _ => (1541, 7383)
theorem gst_awake : gst (rdm 8 (fcl 8 aw3 3)) 1 20771 2 = (28963, 6, 0) := of_decide_eq_true (by kernel_rfl)
theorem cl_awake {ab : Nat} (w : World) (ty : TypeId) (h : w.heap[ab]? = some (.cells #[.int .i64 512, .int .u64 2049, .int .i64 1024, .int .u64 3073, .int .i64 1541, .int .u64 7383] ty (0, 0))) : Cl w (some ⟨ab, 0, none⟩) 3 3 ab 0 aw3 := by
  refine ⟨Nat.le_refl _, by decide, fun _ => ⟨rfl, lt_of_block h⟩, fun i hi => ?_, fun i hi => ?_⟩
  · rcases (show i = 0 ∨ i = 1 ∨ i = 2 by omega) with rfl | rfl | rfl
    · exact ⟨by rw [cell_of_row w ab _ _ _ _ h]; rfl, by rw [cell_of_row w ab _ _ _ _ h]; rfl⟩
    · exact ⟨by rw [cell_of_row w ab _ _ _ _ h]; rfl, by rw [cell_of_row w ab _ _ _ _ h]; rfl⟩
    · exact ⟨by rw [cell_of_row w ab _ _ _ _ h]; rfl, by rw [cell_of_row w ab _ _ _ _ h]; rfl⟩
  · rcases (show i = 0 ∨ i = 1 ∨ i = 2 by omega) with rfl | rfl | rfl
    · exact ⟨⟨by decide, by decide⟩, by decide, by decide⟩
    · exact ⟨⟨by decide, by decide⟩, by decide, by decide⟩
    · exact ⟨⟨by decide, by decide⟩, by decide, by decide⟩
end Go.Proofs.YtajnjmjogaacpaaGreat.C
namespace Go.Proofs.YtajnjmjogaacpaaGreat.C
open Go.RowKit
set_option linter.unusedVariables false
set_option maxRecDepth 100000

def hsN (k m : Nat) : Bool := decide (k &&& m = m)
def pmN (k : Nat) : Nat := if hsN k 128 = true then k &&& 14 else k &&& 10
theorem low_cases : ∀ k : Fin 256, (!hsN k.val 1 || (hsN k.val 4 && !hsN k.val 2)) = false → decide (k.val &&& 10 ≠ 0) = true →
    ((hsN k.val 80 && hsN k.val 132) = true ∧ (hsN k.val 80 && hsN k.val 2) = true ∧ (hsN k.val 80 && hsN k.val 8) = true ∧ pmN k.val = 14) ∨
    ((hsN k.val 80 && hsN k.val 132) = true ∧ (hsN k.val 80 && hsN k.val 2) = true ∧ (hsN k.val 80 && hsN k.val 8) = false ∧ pmN k.val = 6) ∨
    ((hsN k.val 80 && hsN k.val 132) = false ∧ (hsN k.val 80 && hsN k.val 2) = true ∧ (hsN k.val 80 && hsN k.val 8) = true ∧ pmN k.val = 10) ∨
    ((hsN k.val 80 && hsN k.val 132) = false ∧ (hsN k.val 80 && hsN k.val 2) = true ∧ (hsN k.val 80 && hsN k.val 8) = false ∧ pmN k.val = 2) ∨
    ((hsN k.val 80 && hsN k.val 132) = false ∧ (hsN k.val 80 && hsN k.val 2) = false ∧ (hsN k.val 80 && hsN k.val 8) = true ∧ pmN k.val = 8) ∨
    ((hsN k.val 80 && hsN k.val 132) = false ∧ (hsN k.val 80 && hsN k.val 2) = false ∧ (hsN k.val 80 && hsN k.val 8) = false) := of_decide_eq_true (by kernel_rfl)
theorem pm_N (e : Int) : pm e = (pmN (lo e) : Int) := by unfold pm pmN hs hsN; split <;> rfl
theorem leaf_cases (e : Int) (h1 : wr e = false) (h2 : lf e = true) :
    (al e 3 = true ∧ al e 2 = true ∧ al e 1 = true ∧ pm e = 14) ∨ (al e 3 = true ∧ al e 2 = true ∧ al e 1 = false ∧ pm e = 6) ∨ (al e 3 = false ∧ al e 2 = true ∧ al e 1 = true ∧ pm e = 10) ∨
    (al e 3 = false ∧ al e 2 = true ∧ al e 1 = false ∧ pm e = 2) ∨ (al e 3 = false ∧ al e 2 = false ∧ al e 1 = true ∧ pm e = 8) ∨ (al e 3 = false ∧ al e 2 = false ∧ al e 1 = false) := by
  have h1' : (!hs e 1 || (hs e 4 && !hs e 2)) = false := by
    unfold wr at h1
    rw [Bool.or_eq_false_iff] at h1
    exact h1.1
  rcases low_cases ⟨lo e, lo_lt e⟩ h1' h2 with ⟨q3, q2, q1, qp⟩ | ⟨q3, q2, q1, qp⟩ | ⟨q3, q2, q1, qp⟩ | ⟨q3, q2, q1, qp⟩ | ⟨q3, q2, q1, qp⟩ | ⟨q3, q2, q1⟩
  · exact .inl ⟨q3, q2, q1, by rw [pm_N]; exact congrArg Int.ofNat qp⟩
  · exact .inr (.inl ⟨q3, q2, q1, by rw [pm_N]; exact congrArg Int.ofNat qp⟩)
  · exact .inr (.inr (.inl ⟨q3, q2, q1, by rw [pm_N]; exact congrArg Int.ofNat qp⟩))
  · exact .inr (.inr (.inr (.inl ⟨q3, q2, q1, by rw [pm_N]; exact congrArg Int.ofNat qp⟩)))
  · exact .inr (.inr (.inr (.inr (.inl ⟨q3, q2, q1, by rw [pm_N]; exact congrArg Int.ofNat qp⟩))))
  · exact .inr (.inr (.inr (.inr (.inr ⟨q3, q2, q1⟩))))
/-- a walk without fault ends at a leaf that is right -/
theorem D_right {R : Int → Int × Int} (addr wrong : Int) (hw : wrong ≠ 0) : ∀ (k : Nat) (t : Int), (D R addr wrong k t).fault = 0 → wr (D R addr wrong k t).leaf = false ∧ lf (D R addr wrong k t).leaf = true ∧ num (D R addr wrong k t).leaf % pw (D R addr wrong k t).level = 0 := by
  intro k
  induction k with
  | zero =>
    intro t h
    by_cases g1 : 4503599627370495 < t
    · rw [D_high g1] at h; exact absurd h (show (3 : Int) ≠ 0 by decide)
    · have g1 : t ≤ 4503599627370495 := by omega
      by_cases g2 : (R (atF addr 0 t)).2 = 0
      · cases g3 : wr (R (atF addr 0 t)).1
        · cases g4 : lf (R (atF addr 0 t)).1
          · rw [D_end g1 g2 g3 g4] at h; exact absurd h hw
          · by_cases g5 : num (R (atF addr 0 t)).1 % pw 0 = 0
            · rw [D_leaf g1 g2 g3 g4 g5]; exact ⟨g3, g4, g5⟩
            · rw [D_mis g1 g2 g3 g4 g5] at h; exact absurd h hw
        · rw [D_wrong g1 g2 g3] at h; exact absurd h hw
      · rw [D_fault g1 g2] at h; exact absurd h g2
  | succ k ih =>
    intro t h
    by_cases g1 : 4503599627370495 < t
    · rw [D_high g1] at h; exact absurd h (show (3 : Int) ≠ 0 by decide)
    · have g1 : t ≤ 4503599627370495 := by omega
      by_cases g2 : (R (atF addr (k + 1) t)).2 = 0
      · cases g3 : wr (R (atF addr (k + 1) t)).1
        · cases g4 : lf (R (atF addr (k + 1) t)).1
          · rw [D_next g1 g2 g3 g4] at h ⊢; exact ih _ h
          · by_cases g5 : num (R (atF addr (k + 1) t)).1 % pw (k + 1) = 0
            · rw [D_leaf g1 g2 g3 g4 g5]; exact ⟨g3, g4, g5⟩
            · rw [D_mis g1 g2 g3 g4 g5] at h; exact absurd h hw
        · rw [D_wrong g1 g2 g3] at h; exact absurd h hw
      · rw [D_fault g1 g2] at h; exact absurd h g2
theorem gst_cases {R : Int → Int × Int} (hR : RdOk R) (root gpa : Int) (r0 : root ≠ 0) (r1 : 0 ≤ root) (r2 : root < 18446744073709551616) : ∃ P f : Int, (f = 2 ∨ f = 3) ∧
    ((gst R root gpa 3 = (0, 0, f) ∧ gst R root gpa 2 = (0, 0, f) ∧ gst R root gpa 1 = (0, 0, f)) ∨
     (gst R root gpa 3 = (P, 14, 0) ∧ gst R root gpa 2 = (P, 14, 0) ∧ gst R root gpa 1 = (P, 14, 0)) ∨
     (gst R root gpa 3 = (P, 6, 0) ∧ gst R root gpa 2 = (P, 6, 0) ∧ gst R root gpa 1 = (0, 0, 2)) ∨
     (gst R root gpa 3 = (0, 0, 2) ∧ gst R root gpa 2 = (P, 10, 0) ∧ gst R root gpa 1 = (P, 10, 0)) ∨
     (gst R root gpa 3 = (0, 0, 2) ∧ gst R root gpa 2 = (P, 2, 0) ∧ gst R root gpa 1 = (0, 0, 2)) ∨
     (gst R root gpa 3 = (0, 0, 2) ∧ gst R root gpa 2 = (0, 0, 2) ∧ gst R root gpa 1 = (P, 8, 0))) := by
  have hu : ∀ acc, gst R root gpa acc = if 549755813888 ≤ gpa then (0, 0, 2) else if (D R gpa 2 2 root).fault ≠ 0 then (0, 0, (D R gpa 2 2 root).fault) else if al (D R gpa 2 2 root).leaf acc = true then (plc (D R gpa 2 2 root) gpa, pm (D R gpa 2 2 root).leaf, 0) else (0, 0, 2) := fun acc => by unfold gst; rw [if_neg r0]
  by_cases g1 : 549755813888 ≤ gpa
  · exact ⟨0, 2, .inl rfl, .inl ⟨by rw [hu, if_pos g1], by rw [hu, if_pos g1], by rw [hu, if_pos g1]⟩⟩
  · by_cases g2 : (D R gpa 2 2 root).fault = 0
    · obtain ⟨h1, h2, _⟩ := D_right gpa 2 (by decide) 2 root g2
      have hv : ∀ acc, gst R root gpa acc = if al (D R gpa 2 2 root).leaf acc = true then (plc (D R gpa 2 2 root) gpa, pm (D R gpa 2 2 root).leaf, 0) else (0, 0, 2) := fun acc => by rw [hu, if_neg g1, if_neg (by rw [g2]; decide)]
      refine ⟨plc (D R gpa 2 2 root) gpa, 2, .inl rfl, ?_⟩
      rw [hv, hv, hv]
      rcases leaf_cases _ h1 h2 with ⟨q3, q2, q1, qp⟩ | ⟨q3, q2, q1, qp⟩ | ⟨q3, q2, q1, qp⟩ | ⟨q3, q2, q1, qp⟩ | ⟨q3, q2, q1, qp⟩ | ⟨q3, q2, q1⟩
      · rw [q3, q2, q1, qp]; exact .inr (.inl ⟨rfl, rfl, rfl⟩)
      · rw [q3, q2, q1, qp]; exact .inr (.inr (.inl ⟨rfl, rfl, rfl⟩))
      · rw [q3, q2, q1, qp]; exact .inr (.inr (.inr (.inl ⟨rfl, rfl, rfl⟩)))
      · rw [q3, q2, q1, qp]; exact .inr (.inr (.inr (.inr (.inl ⟨rfl, rfl, rfl⟩))))
      · rw [q3, q2, q1, qp]; exact .inr (.inr (.inr (.inr (.inr ⟨rfl, rfl, rfl⟩))))
      · rw [q3, q2, q1]; exact .inl ⟨rfl, rfl, rfl⟩
    · have hok := (D_ok hR gpa 2 2 root (by decide) r1 r2).flt
      refine ⟨0, (D R gpa 2 2 root).fault, by rcases hok with q | q | q | q; exact absurd q g2; exact .inl q; exact .inl q; exact .inr q, .inl ?_⟩
      exact ⟨by rw [hu, if_neg g1, if_pos g2], by rw [hu, if_neg g1, if_pos g2], by rw [hu, if_neg g1, if_pos g2]⟩
end Go.Proofs.YtajnjmjogaacpaaGreat.C
namespace Go.Proofs.YtajnjmjogaacpaaGreat.C
open Go.RowKit
set_option linter.unusedVariables false
set_option maxRecDepth 100000

/-- a pair of memories that lies in a block of its own -/
def TB (w : World) (b p q : Nat) : Prop := w.heap[b]? = some (.cells #[.pointer (some ⟨p, 0, none⟩), .pointer (some ⟨q, 0, none⟩)] 34 (0, 0))
theorem TB.c0 {w : World} {b p q : Nat} (h : TB w b p q) : w.cell? ⟨b, 0, none⟩ = some (.pointer (some ⟨p, 0, none⟩)) := by rw [cell_of_row w b 0 _ _ _ h]; rfl
theorem TB.c1 {w : World} {b p q : Nat} (h : TB w b p q) : w.cell? ⟨b, 1, none⟩ = some (.pointer (some ⟨q, 0, none⟩)) := by rw [cell_of_row w b 1 _ _ _ h]; rfl
theorem TB.below {w w' : World} {b p q : Nat} (h : TB w b p q) (hb : Below w.heap.size w w') : TB w' b p q := (hb.block b (lt_of_block h)).trans h
theorem TB.new (w : World) (p q : Nat) : TB (w.alloc (.cells #[.pointer (some ⟨p, 0, none⟩), .pointer (some ⟨q, 0, none⟩)] 34)) w.heap.size p q := heap_alloc_new w _
theorem put_byt {f : Nat → Int} (hf : ∀ j, 0 ≤ f j ∧ f j < 256) (off n : Nat) {g : Nat → Int} (hg : ∀ j, 0 ≤ g j ∧ g j < 256) (j : Nat) : 0 ≤ put f off n g j ∧ put f off n g j < 256 := by
  unfold put; split
  · exact hg _
  · exact hf j
theorem fcl_byt (n : Nat) (X : Nat → Int × Int) : ∀ k j, 0 ≤ fcl n X k j ∧ fcl n X k j < 256
  | 0, j => ⟨Int.le_refl 0, show (0 : Int) < 256 by decide⟩
  | k + 1, j => put_byt (fcl_byt n X k) _ _ (byt_b _) j
end Go.Proofs.YtajnjmjogaacpaaGreat.C
namespace Go.Proofs.YtajnjmjogaacpaaGreat.C
open Go.RowKit
set_option linter.unusedVariables false
set_option maxRecDepth 100000

/-- a world in which all that was there is as it was -/
structure WB (w0 : World) where
  w : World
  h : Below w0.heap.size w0 w
theorem WB.cell {w0 : World} (x : WB w0) {b o : Nat} {v : Value} (hb : b < w0.heap.size) (h : w0.cell? ⟨b, o, none⟩ = some v) : x.w.cell? ⟨b, o, none⟩ = some v := by
  rw [← h]; exact Below.cell x.h (p := ⟨b, o, none⟩) hb
/-- a callee's contract, met in a world of the class -/
theorem Calls.wb {P : Program} {f : FuncId} {args : Array Value} {w0 : World} {v : Value} (x : WB w0) (h : Calls P f args x.w fun e w' => e = .returned v ∧ Below x.w.heap.size x.w w') : Calls P f args x.w fun e w'' => e = .returned v ∧ ∃ y : WB w0, w'' = y.w :=
  h.mono fun _ w' hh => ⟨hh.1, ⟨w', x.h.trans (hh.2.mono x.h.size)⟩, rfl⟩
theorem wp_region_wb {P : Program} {id : Nat} {Q : Exit → Act → World → Prop} {a : Act} {w : World} {l : List Oper} (hm : P.follows .mixedOrders = true) (hB : Region.lexB .any l.toArray = true)
    (h : wpQuiet P l.toArray (fun w' => ∃ x : WB w, w' = x.w) (fun a' => ∀ w', (∃ x : WB w, w' = x.w) → Q .normal a' w') l a) : (Code.region id l.toArray true).wp P Q a w :=
  wp_region_quiet (C := fun w' => ∃ x : WB w, w' = x.w) hm hB ⟨⟨w.drew, (Below.refl _ _).drew⟩, rfl⟩ (by simpa using h)
end Go.Proofs.YtajnjmjogaacpaaGreat.C
namespace Go.Proofs.YtajnjmjogaacpaaGreat.C
open Go.RowKit
set_option linter.unusedVariables false
set_option maxRecDepth 100000

theorem wpAny_inv {P : Program} {md : Region.Mode} {ops : Array Oper} {Q : Exit → Act → World → Prop} (J : Array Bool → Act → World → Prop)
    (step : ∀ listed a w, J listed a w → ∀ i ∈ Region.ready md ops listed, wpOp P ops Q i (J (listed.setIfInBounds i true)) a w)
    (fin : ∀ listed a w, J listed a w → Region.ready md ops listed = [] → Q .normal a w) :
    ∀ (fuel : Nat) (listed : Array Bool) (a : Act) (w : World), listed.toList.count false ≤ fuel → J listed a w → wpAny P md ops Q fuel listed a w := by
  intro fuel
  have key : ∀ (listed : Array Bool) (i : Nat), i ∈ Region.ready md ops listed → (listed.setIfInBounds i true).toList.count false + 1 = listed.toList.count false := by
    intro listed i hi
    have h0 := (mem_ready.1 hi).1
    have hlt : i < listed.size := by
      rcases Nat.lt_or_ge i listed.size with h | h
      · exact h
      · simp [Array.getElem?_eq_none h] at h0
    have hv : listed.toList[i]'(by simpa using hlt) = false := by simpa [hlt] using h0
    have hpos : 0 < listed.toList.count false := List.count_pos_iff.2 (by rw [← hv]; exact List.getElem_mem _)
    rw [Array.toList_setIfInBounds, List.count_set (by simpa using hlt), hv]
    have : ∀ c : Nat, 0 < c → c - (if (false == false) = true then 1 else 0) + (if (true == false) = true then 1 else 0) + 1 = c := by intro c hc; simp; omega
    exact this _ hpos
  induction fuel with
  | zero =>
    intro listed a w hc hJ
    have hr : Region.ready md ops listed = [] := by
      cases h : Region.ready md ops listed with
      | nil => rfl
      | cons i r => have := key listed i (by rw [h]; simp); omega
    exact ⟨hr, fin _ _ _ hJ hr⟩
  | succ fuel ih =>
    intro listed a w hc hJ
    refine ⟨fun h => fin _ _ _ hJ h, fun i hi => ?_⟩
    have := key listed i hi
    exact wpOp_mono (fun a' w' h' => ih _ a' w' (by omega) h') (step _ _ _ hJ i hi)
theorem ready_no {md : Region.Mode} {ops : Array Oper} {listed : Array Bool} (hr : Region.ready md ops listed = []) {j : Nat} {o : Oper} (ho : ops[j]? = some o) (hl : listed.getD j true = false)
    (he : (o.after.all fun e => !Region.binds md e || listed.getD e.on false) = true) : False := by
  have : j ∈ Region.ready md ops listed := by
    refine mem_ready.2 ⟨hl, o, ho, fun e h hb => ?_⟩
    have := Array.all_eq_true_iff_forall_mem.1 he e h
    simpa [hb] using this
  rw [hr] at this
  cases this
def svd : Bool → Value → Value → Value
  | true, v, _ => v
  | false, _, u => u
def bw : Bool → (Nat → Int) → (Nat → Int) → (Nat → Int)
  | true, v, _ => v
  | false, _, u => u
end Go.Proofs.YtajnjmjogaacpaaGreat.C
namespace Go.Proofs.YtajnjmjogaacpaaGreat.C
open Go.RowKit
set_option linter.unusedVariables false
set_option maxRecDepth 100000

/-- the number that stands at a place -/
def rd8 (f : Nat → Int) (o : Nat) : Int := nu (fun j => f (o + j)) 8
theorem rd8_same (g : Nat → Int) (o : Nat) (v : Int) (v0 : 0 ≤ v) (v1 : v < 18446744073709551616) : rd8 (put g o 8 (byt v)) o = v := by
  unfold rd8
  rw [nu_congr (c := byt v) 8 (fun j hj => put_in g o 8 (byt v) j hj), nu_byt v v0 8]
  have : (256 : Int) ^ 8 = 18446744073709551616 := by decide
  omega
theorem rd8_other (g h : Nat → Int) (o o' : Nat) (hd : o + 8 ≤ o' ∨ o' + 8 ≤ o) : rd8 (put g o' 8 h) o = rd8 g o := by
  unfold rd8
  exact nu_congr 8 (fun j hj => put_out g o' 8 h (o + j) (by omega))
theorem rd8_zero (o : Nat) : rd8 (fun _ => 0) o = 0 := by unfold rd8; rfl
theorem rdm_in (n : Nat) (f : Nat → Int) (a : Int) (o : Nat) (ha : a = o) (h : o + 8 ≤ 4096 * n) : rdm n f a = (rd8 f o, 0) := by
  subst ha
  unfold rdm
  rw [if_pos (by omega)]; rfl
theorem rdm_out (n : Nat) (f : Nat → Int) (a : Int) (h : 4096 * (n : Int) < a + 8) : rdm n f a = (0, 3) := by
  unfold rdm
  rw [if_neg (by omega)]
theorem lo_of (q : Int) (b : Nat) (hb : b < 256) : lo (q * 1024 + b) = b := by unfold lo; omega
theorem num_of (q : Int) (b : Nat) (hb : b < 256) : num (q * 1024 + b) = q := by unfold num; omega
end Go.Proofs.YtajnjmjogaacpaaGreat.C
namespace Go.Proofs.YtajnjmjogaacpaaGreat.C
open Go.RowKit
set_option linter.unusedVariables false
set_option maxRecDepth 100000

def numR (e : Int) : Int := e / 1024 % 17592186044416
theorem numR_eq {e : Int} (h0 : 0 ≤ e) (h : wr e = false) : numR e = num e := by
  have := wr_lt h
  unfold numR num; omega
theorem and_mask44 (x : Int) (h0 : 0 ≤ x) (h1 : x < 18446744073709551616) : bits .and .u64 x 17592186044415 = x % 17592186044416 := by
  obtain ⟨n, rfl⟩ := Int.eq_ofNat_of_zero_le h0
  have h := Nat.and_two_pow_sub_one_eq_mod n 44
  rw [show (17592186044415 : Int) = ((2 ^ 44 - 1 : Nat) : Int) from rfl, bits_and_u64_nat _ _ (by omega) (by decide), h]
  omega
theorem low2 : ∀ k : Fin 256, hsN k.val 1 = decide (k.val % 2 = 1) ∧ hsN k.val 2 = decide (k.val &&& 2 ≠ 0) ∧ hsN k.val 4 = decide (k.val &&& 4 ≠ 0) ∧ hsN k.val 8 = decide (k.val &&& 8 ≠ 0) ∧ hsN k.val 16 = decide (k.val &&& 16 ≠ 0) ∧ hsN k.val 64 = decide (k.val &&& 64 ≠ 0) ∧ hsN k.val 128 = decide (k.val &&& 128 ≠ 0) ∧ hsN k.val 80 = (hsN k.val 16 && hsN k.val 64) ∧ hsN k.val 132 = (hsN k.val 4 && hsN k.val 128) := of_decide_eq_true (by kernel_rfl)
/-- a bit, as the document asks for it -/
theorem bit_of (e : Int) (h0 : 0 ≤ e) (h1 : e < 18446744073709551616) (m : Nat) (hm : m < 256) (mi : Int) (hmi : mi = m) (hb : hsN (lo e) m = decide (lo e &&& m ≠ 0)) : (hs e m = true → (bits .and .u64 e mi == 0) = false ∧ (bits .and .u64 e mi != 0) = true) ∧ (hs e m = false → (bits .and .u64 e mi == 0) = true ∧ (bits .and .u64 e mi != 0) = false) := by
  subst hmi
  have hz : hs e m = decide (lo e &&& m ≠ 0) := hb
  rw [and_lo e h0 h1 m hm, hz]
  constructor
  · intro h
    have h := of_decide_eq_true h
    constructor
    · simp; omega
    · simp; omega
  · intro h
    have h := of_decide_eq_false h
    constructor
    · simp; omega
    · simp; omega
theorem bit_eq (e : Int) (h0 : 0 ≤ e) (h1 : e < 18446744073709551616) : (bits .and .u64 e 2 != 0) = hs e 2 ∧ (bits .and .u64 e 4 != 0) = hs e 4 ∧ (bits .and .u64 e 8 != 0) = hs e 8 ∧ (bits .and .u64 e 16 != 0) = hs e 16 ∧ (bits .and .u64 e 64 != 0) = hs e 64 ∧ (bits .and .u64 e 128 != 0) = hs e 128 ∧ (bits .and .u64 e 10 != 0) = lf e := by
  obtain ⟨l1, l2, l4, l8, l16, l64, l128, _, _⟩ := low2 ⟨lo e, lo_lt e⟩
  have one : ∀ (m : Nat) (mi : Int), m < 256 → mi = m → hsN (lo e) m = decide (lo e &&& m ≠ 0) → (bits .and .u64 e mi != 0) = hs e m := fun m mi hm hmi hb => by
    have q := bit_of e h0 h1 m hm mi hmi hb
    cases h : hs e m
    · exact (q.2 h).2
    · exact (q.1 h).2
  refine ⟨one 2 2 (by decide) rfl l2, one 4 4 (by decide) rfl l4, one 8 8 (by decide) rfl l8, one 16 16 (by decide) rfl l16, one 64 64 (by decide) rfl l64, one 128 128 (by decide) rfl l128, ?_⟩
  rw [show (10 : Int) = ((10 : Nat) : Int) from rfl, and_lo e h0 h1 10 (by decide)]
  unfold lf
  rw [Bool.eq_iff_iff]; simp
theorem odd_eq (e : Int) (h0 : 0 ≤ e) : hs e 1 = decide (e % 2 = 1) := by
  have l1 := (low2 ⟨lo e, lo_lt e⟩).1
  have : hs e 1 = decide (lo e % 2 = 1) := l1
  rw [this]
  unfold lo
  rw [Bool.eq_iff_iff]; simp; omega
theorem bit0_eq (e : Int) (h0 : 0 ≤ e) (h1 : e < 18446744073709551616) : (bits .and .u64 e 2 == 0) = !hs e 2 ∧ (bits .and .u64 e 16 == 0) = !hs e 16 ∧ (bits .and .u64 e 64 == 0) = !hs e 64 ∧ (bits .and .u64 e 10 == 0) = !lf e := by
  obtain ⟨b2, b4, b8, b16, b64, b128, bl⟩ := bit_eq e h0 h1
  have f : ∀ x : Int, (x == 0) = !(x != 0) := fun x => by simp [bne]
  exact ⟨by rw [f, b2], by rw [f, b16], by rw [f, b64], by rw [f, bl]⟩
theorem q_wrong (e : Int) (h0 : 0 ≤ e) (h1 : e < 18446744073709551616) (w : World) :
    Calls Tryz.prog 135 #[.int .u64 e] w fun r w' => r = .returned (.bool (wr e)) ∧ w' = w := by
  have b4 := (bit_eq e h0 h1).2.1
  have b2 := (bit0_eq e h0 h1).1
  have ho := odd_eq e h0
  have HO := hid ho
  clear ho
  obtain ⟨c4, h4⟩ : ∃ c, hs e 4 = c := ⟨_, rfl⟩
  obtain ⟨c2, h2⟩ : ∃ c, hs e 2 = c := ⟨_, rfl⟩
  rw [h4] at b4
  rw [h2] at b2
  have HW : Hid (wr e = (!decide (e % 2 = 1) || (c4 && !c2) || decide (18014398509481984 ≤ e))) := by show _ = _; unfold wr; rw [HO.out, h4, h2]
  clear h4 h2
  go_enter Tryz.func135, Tryz.ntmps135
  cases c4
  · cases c2 <;>
    · go_wp2_with fail
      · go_ret
        have h := ‹e % 2 = 0›
        exact ⟨ret_bool (by rw [HW.out, Bool.eq_iff_iff]; simp <;> omega), rfl⟩
      · go_ret
        have h := ‹¬ e % 2 = 0›
        exact ⟨ret_bool (by rw [HW.out, Bool.eq_iff_iff]; simp <;> omega), rfl⟩
  · cases c2 <;>
    · go_wp2_with fail
      · go_ret
        have h := ‹e % 2 = 0›
        exact ⟨ret_bool (by rw [HW.out, Bool.eq_iff_iff]; simp <;> omega), rfl⟩
      · go_ret
        have h := ‹¬ e % 2 = 0›
        exact ⟨ret_bool (by rw [HW.out, Bool.eq_iff_iff]; simp <;> omega), rfl⟩
theorem q_number (e : Int) (h0 : 0 ≤ e) (h1 : e < 18446744073709551616) (w : World) :
    Calls Tryz.prog 136 #[.int .u64 e] w fun r w' => r = .returned (.int .u64 (numR e)) ∧ w' = w := by
  have hm := and_mask44 (e / 1024) (by omega) (by omega)
  go_enter Tryz.func136, Tryz.ntmps136
  go_wp2
  go_ret
  exact ⟨rfl, rfl⟩
theorem q_misplaced (e : Int) (h0 : 0 ≤ e) (h1 : e < 18446744073709551616) (k : Nat) (hk : k ≤ 2) (w : World) :
    Calls Tryz.prog 137 #[.int .u64 e, .int .i64 k] w fun r w' => r = .returned (.bool (decide (numR e % pw k ≠ 0))) ∧ w' = w := by
  have hn : 0 ≤ numR e := by unfold numR; omega
  have hn2 : numR e < 17592186044416 := by unfold numR; omega
  go_enter Tryz.func137, Tryz.ntmps137
  rcases (show k = 0 ∨ k = 1 ∨ k = 2 by omega) with rfl | rfl | rfl
  · go_wp2_with (go_at_call 136; refine (q_number e h0 h1 _).mono ?_; rintro r w2 ⟨rfl, hw2⟩; obtain rfl := hw2.symm)
    go_ret
    exact ⟨ret_bool (by rw [pw0, Bool.eq_iff_iff]; simp), rfl⟩
  · go_wp2_with (go_at_call 136; refine (q_number e h0 h1 _).mono ?_; rintro r w2 ⟨rfl, hw2⟩; obtain rfl := hw2.symm)
    go_ret
    exact ⟨ret_bool (by rw [pw1, Bool.eq_iff_iff]; simp), rfl⟩
  · go_wp2_with (go_at_call 136; refine (q_number e h0 h1 _).mono ?_; rintro r w2 ⟨rfl, hw2⟩; obtain rfl := hw2.symm)
    go_ret
    exact ⟨ret_bool (by rw [pw2, Bool.eq_iff_iff]; simp), rfl⟩
theorem q_lets (e acc : Int) (h0 : 0 ≤ e) (h1 : e < 18446744073709551616) (w : World) :
    Calls Tryz.prog 138 #[.int .u64 e, .int .i64 acc] w fun r w' => r = .returned (.bool (al e acc)) ∧ w' = w := by
  obtain ⟨b2, b4, b8, _, _, b128, _⟩ := bit_eq e h0 h1
  obtain ⟨_, b16, b64, _⟩ := bit0_eq e h0 h1
  have l80 := (low2 ⟨lo e, lo_lt e⟩).2.2.2.2.2.2.2.1
  have l132 := (low2 ⟨lo e, lo_lt e⟩).2.2.2.2.2.2.2.2
  have HL : Hid (hs e 80 = (hs e 16 && hs e 64) ∧ hs e 132 = (hs e 4 && hs e 128)) := ⟨l80, l132⟩
  clear l80 l132
  go_enter Tryz.func138, Tryz.ntmps138
  cases c16 : hs e 16
  · rw [c16] at b16
    go_wp2_with fail
    go_ret
    exact ⟨ret_bool (by simp [al, HL.out.1, c16]), rfl⟩
  · rw [c16] at b16
    cases c64 : hs e 64
    · rw [c64] at b64
      go_wp2_with fail
      go_ret
      exact ⟨ret_bool (by simp [al, HL.out.1, c64]), rfl⟩
    · rw [c64] at b64
      by_cases a1 : acc = 1
      · subst a1
        go_wp2_with fail
        go_ret
        exact ⟨ret_bool (by simp [al, HL.out.1, c16, c64]), rfl⟩
      · by_cases a2 : acc = 2
        · subst a2
          go_wp2_with fail
          go_ret
          exact ⟨ret_bool (by simp [al, HL.out.1, c16, c64]), rfl⟩
        · by_cases a3 : acc = 3
          · subst a3
            cases c4 : hs e 4
            · rw [c4] at b4
              go_wp2_with fail
              go_ret
              exact ⟨ret_bool (by simp [al, HL.out.2, c4]), rfl⟩
            · rw [c4] at b4
              go_wp2_with fail
              go_ret
              exact ⟨ret_bool (by simp [al, HL.out.1, HL.out.2, c16, c64, c4]), rfl⟩
          · go_wp2_with fail
            go_ret
            exact ⟨ret_bool (by simp [al, a1, a2, a3]), rfl⟩
theorem q_put4 (e addr : Int) (h0 : 0 ≤ e) (h1 : e < 18446744073709551616) (a0 : 0 ≤ addr) (a1 : addr < 18446744073709551616) (k : Nat) (hk : k ≤ 2) (w : World) :
    Calls Tryz.prog 139 #[.agg #[.int .u64 e, .int .i64 k], .int .u64 addr] w fun r w' => r = .returned (.int .u64 (numR e * 4096 + addr % (4096 * pw k))) ∧ Below w.heap.size w w' := by
  have hn : 0 ≤ numR e := by unfold numR; omega
  have hn2 : numR e < 17592186044416 := by unfold numR; omega
  go_enter Tryz.func139, Tryz.ntmps139
  rcases (show k = 0 ∨ k = 1 ∨ k = 2 by omega) with rfl | rfl | rfl
  · go_wp2_with fail
    go_quiet (first
      | (go_at_call 136; exact Calls.quiet_of_same (q_number e h0 h1 _)))
    go_wp2
    go_ret
    exact ⟨ret_int (by rw [pw0]; omega), ((Below.refl _ _).alloc (Nat.le_refl _) _).trans ⟨rfl, rfl, rfl, Nat.le_refl _, fun _ _ => rfl⟩⟩
  · go_wp2_with fail
    go_quiet (first
      | (go_at_call 136; exact Calls.quiet_of_same (q_number e h0 h1 _)))
    go_wp2
    go_ret
    exact ⟨ret_int (by rw [pw1]; omega), ((Below.refl _ _).alloc (Nat.le_refl _) _).trans ⟨rfl, rfl, rfl, Nat.le_refl _, fun _ _ => rfl⟩⟩
  · go_wp2_with fail
    go_quiet (first
      | (go_at_call 136; exact Calls.quiet_of_same (q_number e h0 h1 _)))
    go_wp2
    go_ret
    exact ⟨ret_int (by rw [pw2]; omega), ((Below.refl _ _).alloc (Nat.le_refl _) _).trans ⟨rfl, rfl, rfl, Nat.le_refl _, fun _ _ => rfl⟩⟩
end Go.Proofs.YtajnjmjogaacpaaGreat.C
namespace Go.Proofs.YtajnjmjogaacpaaGreat.C
open Go.RowKit
set_option linter.unusedVariables false
set_option maxRecDepth 100000

/-- an entry that leads to no table above 6 -/
def okT7 (e : Int) : Prop := lf e = true ∨ numR e ≤ 6
/-- two memories that are the same below frame 7, whose entries there lead no further -/
structure Agr7 (f g : Nat → Int) : Prop where
  same : ∀ j, j < 28672 → f j = g j
  tab : ∀ i, i < 3584 → okT7 (rd8 f (8 * i))
  byt : ∀ j, 0 ≤ f j ∧ f j < 256
theorem agr_rd7 {f g : Nat → Int} (h : Agr7 f g) (i : Nat) (hi : i < 3584) : rd8 f (8 * i) = rd8 g (8 * i) := by
  unfold rd8
  exact nu_congr 8 (fun j hj => h.same _ (by omega))
theorem agr_rdm7 {f g : Nat → Int} (h : Agr7 f g) (addr t : Int) (k : Nat) (t0 : 0 ≤ t) (t1 : t ≤ 6) : ∃ e : Int, rdm 8 f (atF addr k t) = (e, 0) ∧ rdm 8 g (atF addr k t) = (e, 0) ∧ 0 ≤ e ∧ okT7 e := by
  obtain ⟨i, hi⟩ : ∃ i : Nat, t * 512 + addr / 4096 / pw k % 512 = (i : Int) := ⟨(t * 512 + addr / 4096 / pw k % 512).toNat, by omega⟩
  have hi2 : i < 3584 := by omega
  have ha : atF addr k t = ((8 * i : Nat) : Int) := by unfold atF; omega
  refine ⟨rd8 f (8 * i), rdm_in 8 f _ _ ha (by omega), ?_, ?_, h.tab i hi2⟩
  · rw [rdm_in 8 g _ _ ha (by omega), agr_rd7 h i hi2]
  · exact (nu_lt (fun j => f (8 * i + j)) (fun j => h.byt _) 8).1
theorem agr_D7 {f g : Nat → Int} (h : Agr7 f g) (addr wrong : Int) : ∀ (k : Nat) (t : Int), 0 ≤ t → t ≤ 6 → D (rdm 8 f) addr wrong k t = D (rdm 8 g) addr wrong k t := by
  intro k
  induction k with
  | zero =>
    intro t t0 t1
    obtain ⟨e, h1, h2, _, _⟩ := agr_rdm7 h addr t 0 t0 t1
    unfold D
    rw [h1, h2]
  | succ k ih =>
    intro t t0 t1
    obtain ⟨e, h1, h2, e0, ho⟩ := agr_rdm7 h addr t (k + 1) t0 t1
    have g1 : t ≤ 4503599627370495 := by omega
    cases g3 : wr e
    · cases g4 : lf e
      · rw [D_next g1 (by rw [h1]) (by rw [h1]; exact g3) (by rw [h1]; exact g4), D_next g1 (by rw [h2]) (by rw [h2]; exact g3) (by rw [h2]; exact g4), h1, h2]
        have hn : num e ≤ 6 := by
          rcases ho with q | q
          · rw [g4] at q; cases q
          · rw [← numR_eq e0 g3]; exact q
        exact ih _ (by show 0 ≤ num e; unfold num; omega) hn
      · by_cases g5 : num e % pw (k + 1) = 0
        · rw [D_leaf g1 (by rw [h1]) (by rw [h1]; exact g3) (by rw [h1]; exact g4) (by rw [h1]; exact g5), D_leaf g1 (by rw [h2]) (by rw [h2]; exact g3) (by rw [h2]; exact g4) (by rw [h2]; exact g5), h1, h2]
        · rw [D_mis g1 (by rw [h1]) (by rw [h1]; exact g3) (by rw [h1]; exact g4) (by rw [h1]; exact g5), D_mis g1 (by rw [h2]) (by rw [h2]; exact g3) (by rw [h2]; exact g4) (by rw [h2]; exact g5)]
    · rw [D_wrong g1 (by rw [h1]) (by rw [h1]; exact g3), D_wrong g1 (by rw [h2]) (by rw [h2]; exact g3)]
theorem agr_gst7 {f g : Nat → Int} (h : Agr7 f g) (root gpa acc : Int) (r0 : 0 ≤ root) (r1 : root ≤ 6) : gst (rdm 8 f) root gpa acc = gst (rdm 8 g) root gpa acc := by
  unfold gst
  rw [agr_D7 h gpa 2 2 root r0 r1]
/-- cells whose entries lead to no table above 6 -/
theorem fcl_tab7 (X : Nat → Int × Int) : ∀ k, (∀ i, i < k → (0 ≤ (X i).1 ∧ (X i).1 < 3584) ∧ (0 ≤ (X i).2 ∧ (X i).2 < 18446744073709551616) ∧ okT7 (X i).2) → ∀ i, i < 3584 → okT7 (rd8 (fcl 8 X k) (8 * i))
  | 0, _, i, _ => by
    show okT7 (rd8 (fun _ => 0) (8 * i))
    rw [rd8_zero]; exact .inr (by decide)
  | k + 1, h, i, hi => by
    obtain ⟨⟨a0, a1⟩, ⟨v0, v1⟩, ho⟩ := h k (by omega)
    have e : 8 * ((X k).1 % (512 * ((8 : Nat) : Int))).toNat = 8 * (X k).1.toNat := by omega
    show okT7 (rd8 (put (fcl 8 X k) (8 * ((X k).1 % (512 * ((8 : Nat) : Int))).toNat) 8 (byt (X k).2)) (8 * i))
    rw [e]
    by_cases q : i = (X k).1.toNat
    · rw [← q, rd8_same _ _ _ v0 v1]; exact ho
    · rw [rd8_other _ _ _ _ (by omega)]
      exact fcl_tab7 X k (fun j hj => h j (by omega)) i hi
end Go.Proofs.YtajnjmjogaacpaaGreat.C
namespace Go.Proofs.YtajnjmjogaacpaaGreat.C
open Go.ChangeShapes Go.WideShapes Go.ChangeAt Go.RowKit Go.Deep
set_option linter.unusedVariables false
set_option maxRecDepth 100000

theorem under_cell : Tryz.prog.underlying 26 = some (.struct (Tryz.prog.fieldsOf 26)) := by kernel_rfl
theorem cells_cell : Tryz.prog.cellsOf 26 = 2 := by kernel_rfl
theorem cells_i : Tryz.prog.cellsOf 3 = 1 := by kernel_rfl
theorem cells_u : Tryz.prog.cellsOf 23 = 1 := by kernel_rfl
theorem cells_b : Tryz.prog.cellsOf 4 = 1 := by kernel_rfl
theorem cells_sc : Tryz.prog.cellsOf 22 = 1 := by kernel_rfl
theorem u_sCell : Tryz.prog.underlying 22 = some (.slice 26) := by kernel_rfl
theorem addr_two (a : Addr) (i j : Nat) : (a.add i).add j = a.add (i + j) := by
  unfold Addr.add
  by_cases hi : i = 0
  · subst hi; simp
  · by_cases hj : j = 0
    · subst hj; simp
    · have : ¬ i + j = 0 := by omega
      simp [hi, hj, Nat.add_assoc]
theorem fldOf {T k : Nat} {t : TypeId} {o : Nat} (h : ((Tryz.prog.fieldsOf T)[k]?).map (fun f => (f.type, f.offset)) = some (t, o)) : ∃ f, (Tryz.prog.fieldsOf T)[k]? = some f ∧ f.type = t ∧ f.offset = o := by
  cases hq : (Tryz.prog.fieldsOf T)[k]? with
  | none => rw [hq] at h; cases h
  | some f => rw [hq] at h; simp at h; exact ⟨f, rfl, h.1, h.2⟩
set_option maxRecDepth 100000 in
theorem open_cell {H : Type} {enc : TypeId × Value → H} {W : World} {base fuel : Nat} {cs : List Value} {x : DataW H × List MemPlace} (h : DataW.trod enc Tryz.prog W base (fun _ => true) true fuel 26 cs = some x) :
    ∃ z0 z1 : Int, cs = [.int .i64 z0, .int .u64 z1] ∧ (-9223372036854775808 ≤ z0 ∧ z0 ≤ 9223372036854775807) ∧ 0 ≤ z1 ∧ z1 < 18446744073709551616 := by
  obtain ⟨xs, n, _, rfl, hcl, hlen, hfs⟩ := DataW.trod_struct under_cell h
  have hl : xs.length = 2 := by rw [hlen]; kernel_rfl
  rw [cells_cell] at hcl
  obtain ⟨f0, e0, t0, o0⟩ := fldOf (T := 26) (k := 0) (t := 3) (o := 0) (by kernel_rfl)
  obtain ⟨f1, e1, t1, o1⟩ := fldOf (T := 26) (k := 1) (t := 23) (o := 1) (by kernel_rfl)
  have q0 := hfs 0 f0 e0
  have q1 := hfs 1 f1 e1
  rw [t0, o0, cells_i, List.getElem?_eq_getElem (by omega)] at q0
  rw [t1, o1, cells_u, List.getElem?_eq_getElem (by omega)] at q1
  obtain ⟨z0, r0, _, w0⟩ := DataW.trod_int Tryz.underlying3 q0
  obtain ⟨z1, r1, _, w1⟩ := DataW.trod_int Tryz.underlying23 q1
  obtain ⟨c0, c1, rfl⟩ : ∃ c0 c1, cs = [c0, c1] := by
    match cs, hcl with
    | [c0, c1], _ => exact ⟨c0, c1, rfl⟩
  simp at r0 r1
  subst r0 r1
  have := bounds_u64 w1
  exact ⟨z0, z1, rfl, bounds_i64 w0, by omega, by omega⟩
set_option maxRecDepth 100000 in
/-- a list of cells, as it stands -/
theorem open_cells {H : Type} {enc : TypeId × Value → H} {W : World} {base fuel : Nat} {cs : List Value} {x : DataW H × List MemPlace} (h : DataW.trod enc Tryz.prog W base (fun _ => true) true fuel 22 cs = some x) (hlt : ∀ p ∈ x.2, p.block < W.heap.size) :
    ∃ (ad : Option Addr) (la cap ab ao : Nat) (X : Nat → Int × Int), cs = [.slice ad la cap] ∧ Cl W ad la cap ab ao X := by
  rcases open_slice u_sCell h with ⟨hcs, hx⟩ | ⟨a, len, cap, m, n, D, Pl, hcs, _, hl, hm, hmm, hx, hel⟩
  · exact ⟨none, 0, 0, 0, 0, fun _ => (0, 0), hcs, ⟨Nat.le_refl _, by decide, fun q => absurd q (by decide), fun i hi => absurd hi (Nat.not_lt_zero i), fun i hi => absurd hi (Nat.not_lt_zero i)⟩⟩
  · subst hx
    simp only [if_true] at hmm
    have each : ∀ i, ∃ X : Int × Int, i < len → ((-9223372036854775808 ≤ X.1 ∧ X.1 ≤ 9223372036854775807) ∧ 0 ≤ X.2 ∧ X.2 < 18446744073709551616) ∧ W.cell? (a.add (i * 2)) = some (.int .i64 X.1) ∧ W.cell? (a.add (i * 2 + 1)) = some (.int .u64 X.2) := fun i => by
      rcases Nat.lt_or_ge i len with hi | hi
      · obtain ⟨cs', h1, h2⟩ := hel i (by omega)
        obtain ⟨z0, z1, rfl, b0, b1⟩ := open_cell h2
        rw [cells_cell] at h1
        obtain ⟨_, hlen, hcell⟩ := World.cells?_some h1
        have k0 := hcell 0 (by decide)
        have k1 := hcell 1 (by decide)
        refine ⟨(z0, z1), fun _ => ⟨⟨b0, b1⟩, ?_, ?_⟩⟩
        · simpa [Addr.add] using k0
        · rw [addr_two] at k1
          simpa using k1
      · exact ⟨(0, 0), fun q => by omega⟩
    obtain ⟨X, hX⟩ := Classical.axiomOfChoice each
    clear each
    have hbl : ∀ h0 : 0 < len, a.spot = none ∧ a.block < W.heap.size := fun h0 => by
      have k0 := (hX 0 h0).2.1
      refine ⟨by simpa [Addr.add] using World.cell?_spot k0, ?_⟩
      obtain ⟨cs', h1, _⟩ := hel 0 (by omega)
      rw [cells_cell] at h1
      have := World.cells?_block h1 (by decide)
      rwa [add_block] at this
    obtain ⟨ab, ao, asp⟩ := a
    refine ⟨some ⟨ab, ao, asp⟩, len, cap, ab, ao, X, hcs, ⟨hl, by simpa [maxLen] using hm, fun h0 => ?_, fun i hi => ?_, fun i hi => (hX i hi).1⟩⟩
    · obtain ⟨q1, q2⟩ := hbl h0
      obtain rfl : asp = none := q1
      exact ⟨rfl, q2⟩
    · obtain ⟨q1, q2⟩ := hbl (by omega)
      obtain rfl : asp = none := q1
      have := (hX i hi).2
      rw [addr_add, addr_add, ← Nat.add_assoc] at this
      exact this
end Go.Proofs.YtajnjmjogaacpaaGreat.C
