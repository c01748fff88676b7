/- Addresses within one page. -/
import Derived.Test.YtfoafgbhelgjcaaCPK
namespace Go.Proofs.Ytfoafgbhelgjcaa.C
open Go.RowKit
set_option linter.unusedVariables false
set_option maxRecDepth 100000

section
variable {x o : Int} (hx : x % 4096 = 0) (o0 : 0 ≤ o) (o1 : o < 4096)
include hx o0 o1
theorem atF_off (k : Nat) (t : Int) : atF (x + o) k t = atF x k t := by
  have e : (x + o) / 4096 = x / 4096 := by omega
  unfold atF; rw [e]
theorem D_off (R : Int → Int × Int) (wrong : Int) : ∀ (k : Nat) (t : Int), D R (x + o) wrong k t = D R x wrong k t := by
  intro k
  induction k with
  | zero => intro t; unfold D; rw [atF_off hx o0 o1]
  | succ k ih => intro t; rw [D, D, atF_off hx o0 o1, ih]
theorem plc_off (r : DR) : plc r (x + o) = plc r x + o := by
  have e : (x + o) / 4096 = x / 4096 := by omega
  unfold plc; rw [e]; omega
theorem gst_off (R : Int → Int × Int) (root acc : Int) : (gst R root (x + o) acc).2.2 = (gst R root x acc).2.2 ∧ ((gst R root x acc).2.2 = 0 → (gst R root (x + o) acc).1 = (gst R root x acc).1 + o) ∧ ((gst R root x acc).2.2 ≠ 0 → (gst R root (x + o) acc).1 = 0 ∧ (gst R root x acc).1 = 0) := by
  unfold gst
  by_cases h0 : root = 0
  · rw [if_pos h0, if_pos h0]; exact ⟨rfl, fun _ => rfl, fun h => absurd rfl h⟩
  · rw [if_neg h0, if_neg h0]
    by_cases h1 : 549755813888 ≤ x
    · rw [if_pos (by omega), if_pos h1]; exact ⟨rfl, fun h => absurd h (show (2 : Int) ≠ 0 by decide), fun _ => ⟨rfl, rfl⟩⟩
    · rw [if_neg (by omega), if_neg h1, D_off hx o0 o1]
      by_cases h2 : (D R x 2 2 root).fault = 0
      · simp only [if_neg (show ¬ ((D R x 2 2 root).fault ≠ 0) by rw [h2]; decide)]
        rw [plc_off hx o0 o1]
        cases al (D R x 2 2 root).leaf acc
        · exact ⟨rfl, fun h => absurd h (show (2 : Int) ≠ 0 by decide), fun _ => ⟨rfl, rfl⟩⟩
        · exact ⟨rfl, fun _ => rfl, fun h => absurd rfl h⟩
      · have e : ∀ c : Int × Int × Int, (if (D R x 2 2 root).fault ≠ 0 then (0, 0, (D R x 2 2 root).fault) else c) = (0, 0, (D R x 2 2 root).fault) := fun c => if_pos h2
        rw [e, e]; exact ⟨rfl, fun h => absurd h h2, fun _ => ⟨rfl, rfl⟩⟩
end
/-- how two places of one page lie to one another -/
def offOk (A B : PlV) (o : Int) : Prop :=
  (A.fault = 0 ∧ B = ⟨A.pa + o, A.gpa + o, 0, A.walk⟩) ∨ (A.fault ≠ 0 ∧ A.walk = true ∧ A.pa = 0 ∧ B = A) ∨ (A = ⟨0, 0, 1, false⟩ ∧ B = A) ∨ (A.fault ≠ 0 ∧ A.fault ≠ 1 ∧ A.walk = false ∧ A.pa = 0 ∧ B = ⟨0, A.gpa + o, A.fault, false⟩)
theorem plOf_off {x o : Int} (hx : x % 4096 = 0) (o0 : 0 ≤ o) (o1 : o < 4096) {R : Int → Int × Int} (hR : RdOk R) (root acc : Int) (r0 : 0 ≤ root) (r1 : root < 18446744073709551616) : offOk (plOf R root x acc) (plOf R root (x + o) acc) o := by
  obtain ⟨h1, h2, h3⟩ := gst_off hx o0 o1 R root acc
  have hf := gst_flt hR root x acc r0 r1
  by_cases h : (gst R root x acc).2.2 = 0
  · refine .inl ⟨h, ?_⟩
    unfold plOf; rw [h2 h, h1, h]
  · refine .inr (.inr (.inr ⟨h, ?_, rfl, (h3 h).2, ?_⟩))
    · show (gst R root x acc).2.2 ≠ 1
      omega
    · unfold plOf; rw [(h3 h).1, h1]
theorem tr_offs {x o : Int} (hx : x % 4096 = 0) (x0 : 0 ≤ x) (x1 : x < 18446744073709551616) (o0 : 0 ≤ o) (o1 : o < 4096) {R : Int → Int × Int} (hR : RdOk R) (v : EnvV) (acc : Int) (s0 : 0 ≤ v.satp) (r0 : 0 ≤ v.root) (r1 : v.root < 18446744073709551616) : offOk (tr R v x acc) (tr R v (x + o) acc) o := by
  have hone : offOk ⟨0, 0, 1, false⟩ ⟨0, 0, 1, false⟩ o := .inr (.inr (.inl ⟨rfl, rfl⟩))
  unfold tr
  by_cases h0 : v.satp / 1152921504606846976 = 0
  · rw [if_pos h0, if_pos h0]; exact plOf_off hx o0 o1 hR v.root acc r0 r1
  · rw [if_neg h0, if_neg h0]
    by_cases h8 : v.satp / 1152921504606846976 = 8
    · rw [if_pos h8, if_pos h8]
      have he : ext (x + o) = ext x := by rw [Bool.eq_iff_iff]; simp [ext]; omega
      unfold thr
      rw [he, D_off hx o0 o1]
      have hq := D_ok (rdg_ok hR v.root r0 r1) x 1 2 (v.satp % 17592186044416) (by decide) (by omega) (by omega)
      generalize D (rdg R v.root) x 1 2 (v.satp % 17592186044416) = r at *
      cases ext x
      · exact hone
      · simp only [if_neg (show ¬ (true = false) by decide)]
        by_cases g1 : r.fault = 1
        · simp only [if_pos g1]; exact hone
        · simp only [if_neg g1]
          by_cases g2 : r.fault = 0
          · simp only [if_neg (show ¬ (r.fault ≠ 0) by rw [g2]; decide)]
            cases fa r.leaf v acc
            · exact hone
            · simp only [if_true]
              rw [plc_off hx o0 o1]
              refine plOf_off ?_ o0 o1 hR v.root acc r0 r1
              unfold plc; omega
          · simp only [if_pos (show r.fault ≠ 0 from g2)]
            rw [atF_off hx o0 o1]
            exact .inr (.inl ⟨g2, rfl, rfl, rfl⟩)
    · rw [if_neg h8, if_neg h8]; exact hone
theorem plOf_b {R : Int → Int × Int} (hR : RdOk R) (root g acc : Int) (r0 : 0 ≤ root) (r1 : root < 18446744073709551616) (g0 : 0 ≤ g) (g1 : g ≤ 18446744073709547520) : (0 ≤ (plOf R root g acc).pa ∧ (plOf R root g acc).pa ≤ 18446744073709547520) ∧ 0 ≤ (plOf R root g acc).gpa ∧ (plOf R root g acc).gpa ≤ 18446744073709547520 := by
  refine ⟨?_, g0, g1⟩
  have hd := D_ok hR g 2 2 root (by decide) r0 r1
  show 0 ≤ (gst R root g acc).1 ∧ (gst R root g acc).1 ≤ 18446744073709547520
  unfold gst
  split
  · exact ⟨g0, g1⟩
  · split
    · exact ⟨Int.le_refl 0, show (0 : Int) ≤ 18446744073709547520 by decide⟩
    · split
      · exact ⟨Int.le_refl 0, show (0 : Int) ≤ 18446744073709547520 by decide⟩
      · split
        · have n1 := num_b hd.leaf0 hd.leaf1
          have hl := hd.lev
          show 0 ≤ plc (D R g 2 2 root) g ∧ plc (D R g 2 2 root) g ≤ 18446744073709547520
          unfold plc
          rcases (show (D R g 2 2 root).level = 0 ∨ (D R g 2 2 root).level = 1 ∨ (D R g 2 2 root).level = 2 by omega) with q | q | q
          · rw [q, pw0]; omega
          · rw [q, pw1]; omega
          · rw [q, pw2]; omega
        · exact ⟨Int.le_refl 0, show (0 : Int) ≤ 18446744073709547520 by decide⟩
theorem tr_b {R : Int → Int × Int} (hR : RdOk R) (v : EnvV) (va acc : Int) (a0 : 0 ≤ va) (a1 : va ≤ 18446744073709547520) (s0 : 0 ≤ v.satp) (r0 : 0 ≤ v.root) (r1 : v.root < 18446744073709551616) : (0 ≤ (tr R v va acc).pa ∧ (tr R v va acc).pa ≤ 18446744073709547520) ∧ 0 ≤ (tr R v va acc).gpa ∧ (tr R v va acc).gpa ≤ 18446744073709547520 := by
  have hone : (0 ≤ (⟨0, 0, 1, false⟩ : PlV).pa ∧ (⟨0, 0, 1, false⟩ : PlV).pa ≤ 18446744073709547520) ∧ 0 ≤ (⟨0, 0, 1, false⟩ : PlV).gpa ∧ (⟨0, 0, 1, false⟩ : PlV).gpa ≤ 18446744073709547520 := by decide
  unfold tr
  split
  · exact plOf_b hR v.root va acc r0 r1 a0 a1
  · split
    · unfold thr
      have hq := D_ok (rdg_ok hR v.root r0 r1) va 1 2 (v.satp % 17592186044416) (by decide) (by omega) (by omega)
      have hT := D_tab (R := rdg R v.root) va 1 2 (v.satp % 17592186044416) (by omega)
      generalize D (rdg R v.root) va 1 2 (v.satp % 17592186044416) = r at *
      split
      · exact hone
      · split
        · exact hone
        · split
          · have t0 := hq.tab0
            refine ⟨⟨Int.le_refl 0, show (0 : Int) ≤ 18446744073709547520 by decide⟩, ?_⟩
            show 0 ≤ atF va r.level r.table ∧ atF va r.level r.table ≤ 18446744073709547520
            unfold atF; omega
          · split
            · have n1 := num_b hq.leaf0 hq.leaf1
              have hl := hq.lev
              have hp : 0 ≤ plc r va ∧ plc r va ≤ 18446744073709547520 := by
                unfold plc
                rcases (show r.level = 0 ∨ r.level = 1 ∨ r.level = 2 by omega) with q | q | q
                · rw [q, pw0]; omega
                · rw [q, pw1]; omega
                · rw [q, pw2]; omega
              exact plOf_b hR v.root _ acc r0 r1 hp.1 hp.2
            · exact hone
    · exact hone
end Go.Proofs.Ytfoafgbhelgjcaa.C
