/- A table of one page of tables. -/
import Derived.Test.YtfoafgbhelgjcaaIR
import Derived.Test.YtfoafgbhelgjcaaCPRD
namespace Go.Proofs.Ytfoafgbhelgjcaa
open Go.RowKit
open C (gst rdm hasB D plc pm al hs lo num pw wr lf rd8 atF fcl put byt)
set_option linter.unusedVariables false
set_option maxRecDepth 100000

theorem lev3 (f : Nat → Int) (i : Nat) (hi : i < 512) (e : Int) (h1 : rd8 f 4096 = 2049) (h2 : rd8 f 8192 = 3073) (h3 : rd8 f (12288 + 8 * i) = e) (o acc : Int) (o0 : 0 ≤ o) (o1 : o < 4096) :
    gst (rdm 8 f) 1 ((i : Int) * 4096 + o) acc = if wr e = false ∧ lf e = true ∧ al e acc = true then (num e * 4096 + o, pm e, 0) else (0, 0, 2) := by
  have ha : ((i : Int) * 4096 + o) / 4096 = i := by omega
  have e2 : atF ((i : Int) * 4096 + o) 2 1 = 4096 := by unfold atF; rw [ha, C.pw2]; omega
  have e1 : atF ((i : Int) * 4096 + o) 1 2 = 8192 := by unfold atF; rw [ha, C.pw1]; omega
  have e0 : atF ((i : Int) * 4096 + o) 0 3 = ((12288 + 8 * i : Nat) : Int) := by unfold atF; rw [ha, C.pw0]; omega
  have r2 : rdm 8 f 4096 = (2049, 0) := by rw [C.rdm_in 8 f 4096 4096 rfl (by decide), h1]
  have r1 : rdm 8 f 8192 = (3073, 0) := by rw [C.rdm_in 8 f 8192 8192 rfl (by decide), h2]
  have r0 : rdm 8 f ((12288 + 8 * i : Nat) : Int) = (e, 0) := by rw [C.rdm_in 8 f _ (12288 + 8 * i) rfl (by omega), h3]
  have d2 : D (rdm 8 f) ((i : Int) * 4096 + o) 2 2 1 = D (rdm 8 f) ((i : Int) * 4096 + o) 2 1 2 := by
    rw [C.D_next (by decide) (by rw [e2, r2]) (by rw [e2, r2]; rfl) (by rw [e2, r2]; rfl), e2, r2]; rfl
  have d1 : D (rdm 8 f) ((i : Int) * 4096 + o) 2 1 2 = D (rdm 8 f) ((i : Int) * 4096 + o) 2 0 3 := by
    rw [C.D_next (by decide) (by rw [e1, r1]) (by rw [e1, r1]; rfl) (by rw [e1, r1]; rfl), e1, r1]; rfl
  unfold gst
  rw [if_neg (by decide), if_neg (by omega), d2, d1]
  cases hw : wr e
  · cases hl : lf e
    · rw [C.D_end (by decide) (by rw [e0, r0]) (by rw [e0, r0]; exact hw) (by rw [e0, r0]; exact hl), if_pos (by decide), if_neg (by simp)]
    · rw [C.D_leaf (by decide) (by rw [e0, r0]) (by rw [e0, r0]; exact hw) (by rw [e0, r0]; exact hl) (by rw [C.pw0]; omega), e0, r0, if_neg (by simp)]
      cases hal : al e acc
      · rw [if_neg (by decide), if_neg (by simp)]
      · rw [if_pos rfl, if_pos ⟨rfl, rfl, rfl⟩]
        simp only [Prod.mk.injEq, and_true]
        unfold plc
        rw [ha, C.pw0]
        show (num e + (i : Int) % 1) * 4096 + ((i : Int) * 4096 + o) % 4096 = _
        omega
  · rw [C.D_wrong (by decide) (by rw [e0, r0]) (by rw [e0, r0]; exact hw), if_pos (by decide), if_neg (by simp)]
/-- whether an entry's low bits let an access -/
def ltB (b : Int) (wt : Bool) : Bool :=
  ((bits .and .u64 b 1 != 0) && (bits .and .u64 b 16 != 0) && (bits .and .u64 b 64 != 0) && ((bits .and .u64 b 4 == 0) || (bits .and .u64 b 2 != 0))) &&
  (bif wt then (bits .and .u64 b 4 != 0) && (bits .and .u64 b 128 != 0) else (bits .and .u64 b 2 != 0))
def ltL (l : Nat) (wt : Bool) : Bool := !(!decide (l &&& 1 = 1) || (decide (l &&& 4 = 4) && !decide (l &&& 2 = 2))) && decide (l &&& 10 ≠ 0) && (decide (l &&& 80 = 80) && (bif wt then decide (l &&& 132 = 132) else decide (l &&& 2 = 2)))
theorem lt_all : ∀ l : Fin 256, ltB (l.val : Int) true = ltL l.val true ∧ ltB (l.val : Int) false = ltL l.val false := of_decide_eq_true (by kernel_rfl)
theorem lt_iff (n : Int) (n0 : 0 ≤ n) (n1 : n < 4096) (b : Nat) (hb : b < 256) (wt : Bool) : (wr (n * 1024 + b) = false ∧ lf (n * 1024 + b) = true ∧ al (n * 1024 + b) (akd wt) = true) ↔ ltB b wt = true := by
  have hl : lo (n * 1024 + b) = b := C.lo_of n b hb
  have ha := lt_all ⟨b, hb⟩
  have e : ltB b wt = ltL b wt := by cases wt; exact ha.2; exact ha.1
  rw [e]
  unfold wr lf al hs ltL
  rw [hl]
  have hx : decide (18014398509481984 ≤ n * 1024 + (b : Int)) = false := by simp; omega
  rw [hx]
  cases wt
  · simp [akd]
    constructor
    · rintro ⟨⟨a1, a2⟩, a3, a4, a5⟩; exact ⟨⟨⟨a1, Decidable.imp_iff_not_or.1 a2⟩, a3⟩, a4, a5⟩
    · rintro ⟨⟨⟨a1, a2⟩, a3⟩, a4, a5⟩; exact ⟨⟨a1, Decidable.imp_iff_not_or.2 a2⟩, a3, a4, a5⟩
  · simp [akd]
    constructor
    · rintro ⟨⟨a1, a2⟩, a3, a4, a5⟩; exact ⟨⟨⟨a1, Decidable.imp_iff_not_or.1 a2⟩, a3⟩, a4, a5⟩
    · rintro ⟨⟨⟨a1, a2⟩, a3⟩, a4, a5⟩; exact ⟨⟨a1, Decidable.imp_iff_not_or.2 a2⟩, a3, a4, a5⟩
/-- the cells of such a table, one entry in its last page -/
def X3 (i : Nat) (e : Int) : Nat → Int × Int
  | 0 => (512, 2049)
  | 1 => (1024, 3073)
  | _ => (1536 + i, e)
theorem x3_rd (i : Nat) (hi : i < 512) (e : Int) (e0 : 0 ≤ e) (e1 : e < 18446744073709551616) : rd8 (fcl 8 (X3 i e) 3) 4096 = 2049 ∧ rd8 (fcl 8 (X3 i e) 3) 8192 = 3073 ∧ rd8 (fcl 8 (X3 i e) 3) (12288 + 8 * i) = e := by
  have q0 : 8 * ((X3 i e 0).1 % (512 * (8 : Nat))).toNat = 4096 := by rfl
  have q1 : 8 * ((X3 i e 1).1 % (512 * (8 : Nat))).toNat = 8192 := by rfl
  have q2 : 8 * ((X3 i e 2).1 % (512 * (8 : Nat))).toNat = 12288 + 8 * i := by show 8 * ((1536 + (i : Int)) % (512 * (8 : Nat))).toNat = _; omega
  show rd8 (put (put (put (fun _ => 0) _ 8 _) _ 8 _) _ 8 _) _ = _ ∧ rd8 (put (put (put (fun _ => 0) _ 8 _) _ 8 _) _ 8 _) _ = _ ∧ rd8 (put (put (put (fun _ => 0) _ 8 _) _ 8 _) _ 8 _) _ = _
  rw [q0, q1, q2]
  refine ⟨?_, ?_, ?_⟩
  · rw [C.rd8_other _ _ _ _ (by omega), C.rd8_other _ _ _ _ (by omega)]
    exact C.rd8_same _ _ 2049 (by decide) (by decide)
  · rw [C.rd8_other _ _ _ _ (by omega)]
    exact C.rd8_same _ _ 3073 (by decide) (by decide)
  · exact C.rd8_same _ _ e e0 e1
end Go.Proofs.Ytfoafgbhelgjcaa
