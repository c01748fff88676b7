/- What the statements of layer 4 ask of a case, and the answer that they ask for. -/
import Derived.Test.YtjkihlpckgaggaaGreatCPF
import Derived.Test.YtjkihlpckgaggaaGreatMC2
import Derived.Laws.AppendOwnNone
import Derived.Deep.QuietTactic
import Derived.BigQuiet
namespace Go.Proofs.YtjkihlpckgaggaaGreat.C
open Go.RowKit
set_option linter.unusedVariables false
set_option maxRecDepth 100000

def aw3 : Nat → Int × Int
  | 0 => (512, 2049)
  | 1 => (1024, 3073)
  | _ => (1541, 7383)
theorem gst_awake : gst (rdm 8 (fcl 8 aw3 3)) 1 20771 2 = (28963, 6, 0) := of_decide_eq_true (by kernel_rfl)
theorem cl_awake {ab : Nat} (w : World) (ty : TypeId) (h : w.heap[ab]? = some (.cells #[.int .i64 512, .int .u64 2049, .int .i64 1024, .int .u64 3073, .int .i64 1541, .int .u64 7383] ty (0, 0))) : Cl w (some ⟨ab, 0, none⟩) 3 3 ab 0 aw3 := by
  refine ⟨Nat.le_refl _, by decide, fun _ => ⟨rfl, lt_of_block h⟩, fun i hi => ?_, fun i hi => ?_⟩
  · rcases (show i = 0 ∨ i = 1 ∨ i = 2 by omega) with rfl | rfl | rfl
    · exact ⟨by rw [cell_of_row w ab _ _ _ _ h]; rfl, by rw [cell_of_row w ab _ _ _ _ h]; rfl⟩
    · exact ⟨by rw [cell_of_row w ab _ _ _ _ h]; rfl, by rw [cell_of_row w ab _ _ _ _ h]; rfl⟩
    · exact ⟨by rw [cell_of_row w ab _ _ _ _ h]; rfl, by rw [cell_of_row w ab _ _ _ _ h]; rfl⟩
  · rcases (show i = 0 ∨ i = 1 ∨ i = 2 by omega) with rfl | rfl | rfl
    · exact ⟨⟨by decide, by decide⟩, by decide, by decide⟩
    · exact ⟨⟨by decide, by decide⟩, by decide, by decide⟩
    · exact ⟨⟨by decide, by decide⟩, by decide, by decide⟩
end Go.Proofs.YtjkihlpckgaggaaGreat.C
namespace Go.Proofs.YtjkihlpckgaggaaGreat.C
open Go.RowKit
set_option linter.unusedVariables false
set_option maxRecDepth 100000

def hsN (k m : Nat) : Bool := decide (k &&& m = m)
def pmN (k : Nat) : Nat := if hsN k 128 = true then k &&& 14 else k &&& 10
theorem low_cases : ∀ k : Fin 256, (!hsN k.val 1 || (hsN k.val 4 && !hsN k.val 2)) = false → decide (k.val &&& 10 ≠ 0) = true →
    ((hsN k.val 80 && hsN k.val 132) = true ∧ (hsN k.val 80 && hsN k.val 2) = true ∧ (hsN k.val 80 && hsN k.val 8) = true ∧ pmN k.val = 14) ∨
    ((hsN k.val 80 && hsN k.val 132) = true ∧ (hsN k.val 80 && hsN k.val 2) = true ∧ (hsN k.val 80 && hsN k.val 8) = false ∧ pmN k.val = 6) ∨
    ((hsN k.val 80 && hsN k.val 132) = false ∧ (hsN k.val 80 && hsN k.val 2) = true ∧ (hsN k.val 80 && hsN k.val 8) = true ∧ pmN k.val = 10) ∨
    ((hsN k.val 80 && hsN k.val 132) = false ∧ (hsN k.val 80 && hsN k.val 2) = true ∧ (hsN k.val 80 && hsN k.val 8) = false ∧ pmN k.val = 2) ∨
    ((hsN k.val 80 && hsN k.val 132) = false ∧ (hsN k.val 80 && hsN k.val 2) = false ∧ (hsN k.val 80 && hsN k.val 8) = true ∧ pmN k.val = 8) ∨
    ((hsN k.val 80 && hsN k.val 132) = false ∧ (hsN k.val 80 && hsN k.val 2) = false ∧ (hsN k.val 80 && hsN k.val 8) = false) := of_decide_eq_true (by kernel_rfl)
theorem pm_N (e : Int) : pm e = (pmN (lo e) : Int) := by unfold pm pmN hs hsN; split <;> rfl
theorem leaf_cases (e : Int) (h1 : wr e = false) (h2 : lf e = true) :
    (al e 3 = true ∧ al e 2 = true ∧ al e 1 = true ∧ pm e = 14) ∨ (al e 3 = true ∧ al e 2 = true ∧ al e 1 = false ∧ pm e = 6) ∨ (al e 3 = false ∧ al e 2 = true ∧ al e 1 = true ∧ pm e = 10) ∨
    (al e 3 = false ∧ al e 2 = true ∧ al e 1 = false ∧ pm e = 2) ∨ (al e 3 = false ∧ al e 2 = false ∧ al e 1 = true ∧ pm e = 8) ∨ (al e 3 = false ∧ al e 2 = false ∧ al e 1 = false) := by
  have h1' : (!hs e 1 || (hs e 4 && !hs e 2)) = false := by
    unfold wr at h1
    rw [Bool.or_eq_false_iff] at h1
    exact h1.1
  rcases low_cases ⟨lo e, lo_lt e⟩ h1' h2 with ⟨q3, q2, q1, qp⟩ | ⟨q3, q2, q1, qp⟩ | ⟨q3, q2, q1, qp⟩ | ⟨q3, q2, q1, qp⟩ | ⟨q3, q2, q1, qp⟩ | ⟨q3, q2, q1⟩
  · exact .inl ⟨q3, q2, q1, by rw [pm_N]; exact congrArg Int.ofNat qp⟩
  · exact .inr (.inl ⟨q3, q2, q1, by rw [pm_N]; exact congrArg Int.ofNat qp⟩)
  · exact .inr (.inr (.inl ⟨q3, q2, q1, by rw [pm_N]; exact congrArg Int.ofNat qp⟩))
  · exact .inr (.inr (.inr (.inl ⟨q3, q2, q1, by rw [pm_N]; exact congrArg Int.ofNat qp⟩)))
  · exact .inr (.inr (.inr (.inr (.inl ⟨q3, q2, q1, by rw [pm_N]; exact congrArg Int.ofNat qp⟩))))
  · exact .inr (.inr (.inr (.inr (.inr ⟨q3, q2, q1⟩))))
/-- a walk without fault ends at a leaf that is right -/
theorem D_right {R : Int → Int × Int} (addr wrong : Int) (hw : wrong ≠ 0) : ∀ (k : Nat) (t : Int), (D R addr wrong k t).fault = 0 → wr (D R addr wrong k t).leaf = false ∧ lf (D R addr wrong k t).leaf = true ∧ num (D R addr wrong k t).leaf % pw (D R addr wrong k t).level = 0 := by
  intro k
  induction k with
  | zero =>
    intro t h
    by_cases g1 : 4503599627370495 < t
    · rw [D_high g1] at h; exact absurd h (show (3 : Int) ≠ 0 by decide)
    · have g1 : t ≤ 4503599627370495 := by omega
      by_cases g2 : (R (atF addr 0 t)).2 = 0
      · cases g3 : wr (R (atF addr 0 t)).1
        · cases g4 : lf (R (atF addr 0 t)).1
          · rw [D_end g1 g2 g3 g4] at h; exact absurd h hw
          · by_cases g5 : num (R (atF addr 0 t)).1 % pw 0 = 0
            · rw [D_leaf g1 g2 g3 g4 g5]; exact ⟨g3, g4, g5⟩
            · rw [D_mis g1 g2 g3 g4 g5] at h; exact absurd h hw
        · rw [D_wrong g1 g2 g3] at h; exact absurd h hw
      · rw [D_fault g1 g2] at h; exact absurd h g2
  | succ k ih =>
    intro t h
    by_cases g1 : 4503599627370495 < t
    · rw [D_high g1] at h; exact absurd h (show (3 : Int) ≠ 0 by decide)
    · have g1 : t ≤ 4503599627370495 := by omega
      by_cases g2 : (R (atF addr (k + 1) t)).2 = 0
      · cases g3 : wr (R (atF addr (k + 1) t)).1
        · cases g4 : lf (R (atF addr (k + 1) t)).1
          · rw [D_next g1 g2 g3 g4] at h ⊢; exact ih _ h
          · by_cases g5 : num (R (atF addr (k + 1) t)).1 % pw (k + 1) = 0
            · rw [D_leaf g1 g2 g3 g4 g5]; exact ⟨g3, g4, g5⟩
            · rw [D_mis g1 g2 g3 g4 g5] at h; exact absurd h hw
        · rw [D_wrong g1 g2 g3] at h; exact absurd h hw
      · rw [D_fault g1 g2] at h; exact absurd h g2
theorem gst_cases {R : Int → Int × Int} (hR : RdOk R) (root gpa : Int) (r0 : root ≠ 0) (r1 : 0 ≤ root) (r2 : root < 18446744073709551616) : ∃ P f : Int, (f = 2 ∨ f = 3) ∧
    ((gst R root gpa 3 = (0, 0, f) ∧ gst R root gpa 2 = (0, 0, f) ∧ gst R root gpa 1 = (0, 0, f)) ∨
     (gst R root gpa 3 = (P, 14, 0) ∧ gst R root gpa 2 = (P, 14, 0) ∧ gst R root gpa 1 = (P, 14, 0)) ∨
     (gst R root gpa 3 = (P, 6, 0) ∧ gst R root gpa 2 = (P, 6, 0) ∧ gst R root gpa 1 = (0, 0, 2)) ∨
     (gst R root gpa 3 = (0, 0, 2) ∧ gst R root gpa 2 = (P, 10, 0) ∧ gst R root gpa 1 = (P, 10, 0)) ∨
     (gst R root gpa 3 = (0, 0, 2) ∧ gst R root gpa 2 = (P, 2, 0) ∧ gst R root gpa 1 = (0, 0, 2)) ∨
     (gst R root gpa 3 = (0, 0, 2) ∧ gst R root gpa 2 = (0, 0, 2) ∧ gst R root gpa 1 = (P, 8, 0))) := by
  have hu : ∀ acc, gst R root gpa acc = if 549755813888 ≤ gpa then (0, 0, 2) else if (D R gpa 2 2 root).fault ≠ 0 then (0, 0, (D R gpa 2 2 root).fault) else if al (D R gpa 2 2 root).leaf acc = true then (plc (D R gpa 2 2 root) gpa, pm (D R gpa 2 2 root).leaf, 0) else (0, 0, 2) := fun acc => by unfold gst; rw [if_neg r0]
  by_cases g1 : 549755813888 ≤ gpa
  · exact ⟨0, 2, .inl rfl, .inl ⟨by rw [hu, if_pos g1], by rw [hu, if_pos g1], by rw [hu, if_pos g1]⟩⟩
  · by_cases g2 : (D R gpa 2 2 root).fault = 0
    · obtain ⟨h1, h2, _⟩ := D_right gpa 2 (by decide) 2 root g2
      have hv : ∀ acc, gst R root gpa acc = if al (D R gpa 2 2 root).leaf acc = true then (plc (D R gpa 2 2 root) gpa, pm (D R gpa 2 2 root).leaf, 0) else (0, 0, 2) := fun acc => by rw [hu, if_neg g1, if_neg (by rw [g2]; decide)]
      refine ⟨plc (D R gpa 2 2 root) gpa, 2, .inl rfl, ?_⟩
      rw [hv, hv, hv]
      rcases leaf_cases _ h1 h2 with ⟨q3, q2, q1, qp⟩ | ⟨q3, q2, q1, qp⟩ | ⟨q3, q2, q1, qp⟩ | ⟨q3, q2, q1, qp⟩ | ⟨q3, q2, q1, qp⟩ | ⟨q3, q2, q1⟩
      · rw [q3, q2, q1, qp]; exact .inr (.inl ⟨rfl, rfl, rfl⟩)
      · rw [q3, q2, q1, qp]; exact .inr (.inr (.inl ⟨rfl, rfl, rfl⟩))
      · rw [q3, q2, q1, qp]; exact .inr (.inr (.inr (.inl ⟨rfl, rfl, rfl⟩)))
      · rw [q3, q2, q1, qp]; exact .inr (.inr (.inr (.inr (.inl ⟨rfl, rfl, rfl⟩))))
      · rw [q3, q2, q1, qp]; exact .inr (.inr (.inr (.inr (.inr ⟨rfl, rfl, rfl⟩))))
      · rw [q3, q2, q1]; exact .inl ⟨rfl, rfl, rfl⟩
    · have hok := (D_ok hR gpa 2 2 root (by decide) r1 r2).flt
      refine ⟨0, (D R gpa 2 2 root).fault, by rcases hok with q | q | q | q; exact absurd q g2; exact .inl q; exact .inl q; exact .inr q, .inl ?_⟩
      exact ⟨by rw [hu, if_neg g1, if_pos g2], by rw [hu, if_neg g1, if_pos g2], by rw [hu, if_neg g1, if_pos g2]⟩
end Go.Proofs.YtjkihlpckgaggaaGreat.C
namespace Go.Proofs.YtjkihlpckgaggaaGreat.C
open Go.RowKit
set_option linter.unusedVariables false
set_option maxRecDepth 100000

/-- a pair of memories that lies in a block of its own -/
def TB (w : World) (b p q : Nat) : Prop := w.heap[b]? = some (.cells #[.pointer (some ⟨p, 0, none⟩), .pointer (some ⟨q, 0, none⟩)] 33 (0, 0))
theorem TB.c0 {w : World} {b p q : Nat} (h : TB w b p q) : w.cell? ⟨b, 0, none⟩ = some (.pointer (some ⟨p, 0, none⟩)) := by rw [cell_of_row w b 0 _ _ _ h]; rfl
theorem TB.c1 {w : World} {b p q : Nat} (h : TB w b p q) : w.cell? ⟨b, 1, none⟩ = some (.pointer (some ⟨q, 0, none⟩)) := by rw [cell_of_row w b 1 _ _ _ h]; rfl
theorem TB.below {w w' : World} {b p q : Nat} (h : TB w b p q) (hb : Below w.heap.size w w') : TB w' b p q := (hb.block b (lt_of_block h)).trans h
theorem TB.new (w : World) (p q : Nat) : TB (w.alloc (.cells #[.pointer (some ⟨p, 0, none⟩), .pointer (some ⟨q, 0, none⟩)] 33)) w.heap.size p q := heap_alloc_new w _
theorem put_byt {f : Nat → Int} (hf : ∀ j, 0 ≤ f j ∧ f j < 256) (off n : Nat) {g : Nat → Int} (hg : ∀ j, 0 ≤ g j ∧ g j < 256) (j : Nat) : 0 ≤ put f off n g j ∧ put f off n g j < 256 := by
  unfold put; split
  · exact hg _
  · exact hf j
theorem fcl_byt (n : Nat) (X : Nat → Int × Int) : ∀ k j, 0 ≤ fcl n X k j ∧ fcl n X k j < 256
  | 0, j => ⟨Int.le_refl 0, show (0 : Int) < 256 by decide⟩
  | k + 1, j => put_byt (fcl_byt n X k) _ _ (byt_b _) j
end Go.Proofs.YtjkihlpckgaggaaGreat.C
namespace Go.Proofs.YtjkihlpckgaggaaGreat.C
open Go.RowKit
set_option linter.unusedVariables false
set_option maxRecDepth 100000

theorem c_CopyBytes (w : World) (ad : Option Addr) (n cap : Nat) (f : Nat → Int) (aa : Addr) (hn : n ≤ 140737488355328) (hnone : ad = none → n = 0 ∧ cap = 0) (hsl : 0 < n → ad = some aa ∧ aa.block < w.heap.size ∧ ∀ j, j < n → w.cell? (aa.add j) = some (.int .u8 (f j))) :
    Calls Tryz.prog 8 #[.slice ad n cap] w fun e w' => ∃ v, e = .returned v ∧ w'.ownsRow w.heap.size 5 1 v n (row f 0 n) ∧ Below w.heap.size w w' := by
  obtain ⟨i0, hi, hz0, hz1, hz2⟩ := info_parts info_u8
  have HSL := hid hsl
  clear hsl
  go_enter Tryz.func8, Tryz.ntmps8
  cases ad with
  | none =>
    obtain ⟨rfl, rfl⟩ := hnone rfl
    go_wp2_with (at_builtin; refine wpList_append_own_none rfl _ _ 23 rfl w.heap.size 5 i0 1 u_su8 hi _ _ _ rfl (World.ownsRow_nil _ _ _ _) rfl ?_)
    go_ret
    exact ⟨_, rfl, World.ownsRow_nil _ _ _ _, Below.refl _ _⟩
  | some b =>
    go_wp2_with (at_builtin; refine wpList_append_own _ rfl _ _ 23 rfl w.heap.size 5 i0 (.int .u8 0) 1 1 u_su8 hi hz0 hz1 hz2 rfl (by decide) _ 0 [] rfl (World.ownsRow_nil _ _ _ _) b n cap (row f 0 n) rfl (by rw [row_length]; omega) (by
      intro j u hu
      have hj : j < n := by
        rcases Nat.lt_or_ge j n with q | q
        · exact q
        · rw [List.getElem?_eq_none (by simpa [row_length] using q)] at hu; cases hu
      rw [row_get _ _ _ _ hj, Nat.zero_add] at hu
      obtain ⟨e, _, hc⟩ := HSL.out (by omega)
      obtain rfl := Option.some.inj e
      rw [hc j hj]; exact hu) (row_one _ _ _) (by unfold maxLen; omega) (by omega) (Nat.le_refl _) ?_; intro v' w1 hown hgrow _; have HO := hid hown; have HG := hid hgrow; clear hown hgrow)
    go_ret
    refine ⟨v', rfl, by simpa using HO.out, (Below.refl _ _).grown HG.out (Nat.le_refl _) (fun k q => by have q' : (none : Option Nat) = some k := q; cases q')⟩
theorem ownBlock_ge {w : World} {base : Nat} {e : TypeId} {size : Nat} {v : Value} {n : Nat} {xs : List Value} (h : w.ownsRow base e size v n xs) {r : Nat} (q : v.ownBlock = some r) : base ≤ r := by
  rcases h.2 with ⟨rfl, _⟩ | ⟨g, cap, cur, rfl, hg, _⟩
  · simp [Value.ownBlock] at q
  · simp [Value.ownBlock] at q; omega
/-- what Lend lays: the bytes, and the marks behind them -/
def lendF (f : Nat → Int) (n : Nat) : Nat → Int := put f n 70 (fun j => 101 + (j : Int))
theorem lend_row (f : Nat → Int) (n k : Nat) (hk : k < 70) : row (lendF f n) 0 (n + k) ++ [.int .u8 (101 + (k : Int))] = row (lendF f n) 0 (n + (k + 1)) := by
  apply List.ext_getElem?
  intro j
  rw [List.getElem?_append, row_length]
  rcases Nat.lt_trichotomy j (n + k) with q | q | q
  · rw [if_pos q, row_get _ _ _ _ q, row_get _ _ _ _ (by omega)]
  · rw [if_neg (by omega), row_get _ _ _ _ (by omega), q, Nat.sub_self, Nat.zero_add]
    unfold lendF
    rw [put_in _ _ _ _ _ hk]; rfl
  · rw [if_neg (by omega), List.getElem?_eq_none (by simp; omega), List.getElem?_eq_none (by rw [row_length]; omega)]
theorem lend_row0 (f : Nat → Int) (n : Nat) : row f 0 n = row (lendF f n) 0 n := row_congr fun j hj => by unfold lendF; rw [Nat.zero_add, put_out _ _ _ _ _ (by omega)]
end Go.Proofs.YtjkihlpckgaggaaGreat.C
