/- PageRights: one leaf of the first stage. -/
import Derived.Test.YtfoafgbhelgjcaaCPRD
import Derived.Test.YtfoafgbhelgjcaaCPI
namespace Go.Proofs.Ytfoafgbhelgjcaa.C
open Go.RowKit
set_option linter.unusedVariables false
set_option maxRecDepth 100000

def rgX (b : Nat) : Nat → Int × Int
  | 0 => (512, 2049)
  | 1 => (1024, 3073)
  | _ => (1541, 7168 + b)
theorem rdg0 (R : Int → Int × Int) (a : Int) : rdg R 0 a = R a := by unfold rdg gst; rfl
theorem low3 : ∀ k : Fin 256, decide (k.val &&& 10 ≠ 0) = (hsN k.val 2 || hsN k.val 8) := of_decide_eq_true (by kernel_rfl)
def vbF (b : Nat) : Bool := hsN b 1 && (!hsN b 4 || hsN b 2) && (hsN b 2 || hsN b 8)
def l1F (b : Nat) (mx : Bool) (how : Int) : Bool := if how = 1 then hsN b 8 else if how = 2 then hsN b 2 || (mx && hsN b 8) else hsN b 4 && hsN b 128
def l2F (b : Nat) (us su mx : Bool) (how : Int) : Bool := if us = true then l1F b mx how && hsN b 16 else if hsN b 16 = true then l1F b mx how && decide (how ≠ 1) && su else l1F b mx how
theorem low4 : ∀ k : Fin 256, hsN k.val 132 = (hsN k.val 4 && hsN k.val 128) := of_decide_eq_true (by kernel_rfl)
theorem tr_rightsR (R : Int → Int × Int) (b : Nat) (hb : b < 256) (us su mx : Bool) (how : Int) (hh : how = 1 ∨ how = 2 ∨ how = 3) (q2 : R (atF 20771 2 1) = (2049, 0)) (q1 : R (atF 20771 1 2) = (3073, 0)) (q0 : R (atF 20771 0 3) = (7168 + (b : Int), 0)) :
    tr R ⟨9223372036854775809, 0, us, su, mx⟩ 20771 how = if (vbF b && l2F b us su mx how && hsN b 64) = true then ⟨28963, 28963, 0, false⟩ else ⟨0, 0, 1, false⟩ := by
  obtain ⟨E, hEe⟩ : ∃ E : Int, 7168 + (b : Int) = E := ⟨_, rfl⟩
  have hE : lo E = b := by rw [← hEe]; have := lo_of 7 b hb; simpa using this
  have hn : num E = 7 := by rw [← hEe]; have := num_of 7 b hb; simpa using this
  rw [hEe] at q0
  have r2 : rdg R 0 (atF 20771 2 1) = (2049, 0) := by rw [rdg0]; exact q2
  have r1 : rdg R 0 (atF 20771 1 2) = (3073, 0) := by rw [rdg0]; exact q1
  have r0 : rdg R 0 (atF 20771 0 3) = (E, 0) := by rw [rdg0]; exact q0
  have hwr : wr E = (!hsN b 1 || (hsN b 4 && !hsN b 2)) := by
    have h1 : decide (18014398509481984 ≤ E) = false := decide_eq_false (by omega)
    unfold wr hs; rw [hE, h1, Bool.or_false]; rfl
  have hlf : lf E = (hsN b 2 || hsN b 8) := by
    unfold lf; rw [hE]; exact low3 ⟨b, hb⟩
  have hfa : fa E ⟨9223372036854775809, 0, us, su, mx⟩ how = (hsN b 64 && (if us = true then hsN b 16 else !hsN b 16 || (su && decide (how ≠ 1))) && l1F b mx how) := by
    have h132 : hs E 132 = (hsN b 4 && hsN b 128) := by unfold hs; rw [hE]; exact low4 ⟨b, hb⟩
    have h64 : hs E 64 = hsN b 64 := by unfold hs; rw [hE]; rfl
    have h16 : hs E 16 = hsN b 16 := by unfold hs; rw [hE]; rfl
    have h8 : hs E 8 = hsN b 8 := by unfold hs; rw [hE]; rfl
    have h2 : hs E 2 = hsN b 2 := by unfold hs; rw [hE]; rfl
    unfold fa bel alf l1F
    rw [h64, h16, h8, h2, h132]
    rcases hh with rfl | rfl | rfl
    · rfl
    · rfl
    · rfl
  have hpl : plOf R 0 (plc ⟨0, 3, 0, E⟩ 20771) how = ⟨28963, 28963, 0, false⟩ := by
    have h : plc ⟨0, 3, 0, E⟩ 20771 = 28963 := by
      unfold plc
      show (num E + 20771 / 4096 % pw 0) * 4096 + 20771 % 4096 = 28963
      rw [hn, pw0]; decide
    rw [h]; unfold plOf gst; rw [if_pos rfl]
  have n2 : num (rdg R 0 (atF 20771 (1 + 1) 1)).1 = 2 := by show num (rdg R 0 (atF 20771 2 1)).1 = 2; rw [r2]; decide
  have n1 : num (rdg R 0 (atF 20771 (0 + 1) 2)).1 = 3 := by show num (rdg R 0 (atF 20771 1 2)).1 = 3; rw [r1]; decide
  have hD : D (rdg R 0) 20771 1 2 1 = if (!wr E && lf E) = true then ⟨0, 3, 0, E⟩ else ⟨1, 3, 0, 0⟩ := by
    rw [D_next (k := 1) (by decide) (by show (rdg R 0 (atF 20771 2 1)).2 = 0; rw [r2]) (by show wr (rdg R 0 (atF 20771 2 1)).1 = false; rw [r2]; decide) (by show lf (rdg R 0 (atF 20771 2 1)).1 = false; rw [r2]; decide), n2]
    rw [D_next (k := 0) (by decide) (by show (rdg R 0 (atF 20771 1 2)).2 = 0; rw [r1]) (by show wr (rdg R 0 (atF 20771 1 2)).1 = false; rw [r1]; decide) (by show lf (rdg R 0 (atF 20771 1 2)).1 = false; rw [r1]; decide), n1]
    cases g3 : wr E
    · cases g4 : lf E
      · rw [D_end (by decide) (by rw [r0]) (by rw [r0]; exact g3) (by rw [r0]; exact g4)]; rfl
      · rw [D_leaf (by decide) (by rw [r0]) (by rw [r0]; exact g3) (by rw [r0]; exact g4) (by rw [r0, pw0]; show num E % 1 = 0; omega), r0]; rfl
    · rw [D_wrong (by decide) (by rw [r0]) (by rw [r0]; exact g3)]; rfl
  have hs8 : (9223372036854775809 : Int) / 1152921504606846976 = 8 := by decide
  have hs1 : (9223372036854775809 : Int) % 17592186044416 = 1 := by decide
  have hx : ext 20771 = true := by decide
  unfold tr
  simp only [hs8]
  rw [if_neg (by decide), if_pos trivial]
  unfold thr
  simp only [hs1, hx, hD, hwr, hlf]
  have hl2 : (if us = true then hsN b 16 else !hsN b 16 || (su && decide (how ≠ 1))) = true ∧ l1F b mx how = true ↔ l2F b us su mx how = true := by
    unfold l2F
    cases us <;> cases hsN b 16 <;> cases su <;> cases l1F b mx how <;> cases decide (how ≠ 1) <;> simp
  unfold vbF
  generalize hC1 : hsN b 1 = c1
  generalize hC4 : hsN b 4 = c4
  generalize hC2 : hsN b 2 = c2
  generalize hC8 : hsN b 8 = c8
  have hfa2 : fa E ⟨9223372036854775809, 0, us, su, mx⟩ how = (l2F b us su mx how && hsN b 64) := by
    rw [hfa, Bool.eq_iff_iff]
    simp only [Bool.and_eq_true]
    rw [← hl2]
    constructor
    · rintro ⟨⟨h1, h2⟩, h3⟩; exact ⟨⟨h2, h3⟩, h1⟩
    · rintro ⟨⟨h2, h3⟩, h1⟩; exact ⟨⟨h1, h2⟩, h3⟩
  have key : (!(!c1 || (c4 && !c2)) && (c2 || c8)) = (c1 && (!c4 || c2) && (c2 || c8)) := by cases c1 <;> cases c4 <;> cases c2 <;> cases c8 <;> rfl
  rw [key]
  cases hk : (c1 && (!c4 || c2) && (c2 || c8))
  · simp
  · simp only [if_true, Bool.true_and]
    rw [hfa2, hpl]
    simp
theorem tr_rights (b : Nat) (hb : b < 256) (us su mx : Bool) (how : Int) (hh : how = 1 ∨ how = 2 ∨ how = 3) :
    tr (rdm 8 (fcl 8 (rgX b) 3)) ⟨9223372036854775809, 0, us, su, mx⟩ 20771 how = if (vbF b && l2F b us su mx how && hsN b 64) = true then ⟨28963, 28963, 0, false⟩ else ⟨0, 0, 1, false⟩ := by
  have e1 : 8 * ((512 : Int) % (512 * ((8 : Nat) : Int))).toNat = 4096 := by decide
  have e2 : 8 * ((1024 : Int) % (512 * ((8 : Nat) : Int))).toNat = 8192 := by decide
  have e3 : 8 * ((1541 : Int) % (512 * ((8 : Nat) : Int))).toNat = 12328 := by decide
  have hf : fcl 8 (rgX b) 3 = put (put (put (fun _ => 0) 4096 8 (byt 2049)) 8192 8 (byt 3073)) 12328 8 (byt (7168 + (b : Int))) := by
    show put (put (put _ (8 * ((512 : Int) % (512 * ((8 : Nat) : Int))).toNat) 8 _) (8 * ((1024 : Int) % (512 * ((8 : Nat) : Int))).toNat) 8 _) (8 * ((1541 : Int) % (512 * ((8 : Nat) : Int))).toNat) 8 _ = _
    rw [e1, e2, e3]; rfl
  refine tr_rightsR _ b hb us su mx how hh ?_ ?_ ?_
  · rw [rdm_in 8 _ _ 4096 (by decide) (by decide), hf, rd8_other _ _ _ _ (by decide), rd8_other _ _ _ _ (by decide), rd8_same _ _ _ (by decide) (by decide)]
  · rw [rdm_in 8 _ _ 8192 (by decide) (by decide), hf, rd8_other _ _ _ _ (by decide), rd8_same _ _ _ (by decide) (by decide)]
  · rw [rdm_in 8 _ _ 12328 (by decide) (by decide), hf, rd8_same _ _ _ (by omega) (by omega)]
end Go.Proofs.Ytfoafgbhelgjcaa.C
