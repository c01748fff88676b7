/- A slot by what is written in it. -/
import Derived.Test.YtjkihlpckgaggaaGreatKE
namespace Go.Proofs.YtjkihlpckgaggaaGreat.P
open Go.RowKit
open C (Only hid Still ret_bool ret_int row)
set_option linter.unusedVariables false
set_option maxRecDepth 100000

structure Sv where
  k : Int
  c : Int
  b1 : Int
  b2 : Int
  b3 : Int
  l : Int
def sv0 (k : Int) : Sv := ⟨k, 0, 0, 0, 0, 0⟩
/-- the bits of a command that are written -/
def a6 (y : Int) : Int := bits BinOp.and IntKind.u8 y 6
def hi4 (y : Int) : Int := y / 16 * 16
structure SOk (v : Sv) : Prop where
  k : 0 ≤ v.k ∧ v.k ≤ 255
  c : Byt v.c ∧ a6 v.c = v.c
  b1 : Byt v.b1 ∧ v.b1 % 16 = 0
  b2 : Byt v.b2
  b3 : Byt v.b3
  l : Byt v.l
/-- a slot's bytes -/
def tab (v : Sv) (o : Nat) : Int := if o = 4 then v.c else if o = 17 then v.b1 else if o = 18 then v.b2 else if o = 19 then v.b3 else if o = 60 then v.l else sp0 v.k o
def atP (o z : Nat) (x : Int) (P : Nat) (g : Int → Int) (old : Int) : Int := if o ≤ P ∧ P < o + z then g (C.byt x (P - o)) else old
def Sv.wr (v : Sv) (o z : Nat) (x : Int) : Sv := ⟨v.k, atP o z x 4 a6 v.c, atP o z x 17 hi4 v.b1, atP o z x 18 id v.b2, atP o z x 19 id v.b3, atP o z x 60 id v.l⟩
def fB (V : Nat → Sv) (j : Nat) : Int := tab (V (j / 256)) (j % 256)
theorem fin_u8 {p : Int → Prop} (h : ∀ i : Fin 256, p (i.val : Int)) (y : Int) (hy : Byt y) : p y := by
  have := h ⟨y.toNat, by have := hy.1; have := hy.2; omega⟩
  simp only [Int.toNat_of_nonneg hy.1] at this
  exact this
theorem x_an6 : ∀ c : Fin 256, a6 (c.val : Int) = (c.val : Int) → bits BinOp.andNot IntKind.u8 (c.val : Int) 6 = 0 := by decide +kernel
theorem x_or0 : ∀ c : Fin 256, bits BinOp.or IntKind.u8 0 (c.val : Int) = (c.val : Int) := by decide +kernel
theorem x_ro0 : ∀ c : Fin 256, bits BinOp.or IntKind.u8 (c.val : Int) 0 = (c.val : Int) := by decide +kernel
theorem x_an255 : ∀ c : Fin 256, bits BinOp.andNot IntKind.u8 (c.val : Int) 255 = 0 := by decide +kernel
theorem x_a255 : ∀ c : Fin 256, bits BinOp.and IntKind.u8 (c.val : Int) 255 = (c.val : Int) := by decide +kernel
theorem x_an0 : ∀ c : Fin 256, bits BinOp.andNot IntKind.u8 (c.val : Int) 0 = (c.val : Int) := by decide +kernel
theorem x_a0 : ∀ c : Fin 256, bits BinOp.and IntKind.u8 (c.val : Int) 0 = 0 := by decide +kernel
theorem x_a240 : ∀ c : Fin 256, bits BinOp.and IntKind.u8 (c.val : Int) 240 = (c.val : Int) / 16 * 16 := by decide +kernel
theorem x_an240 : ∀ c : Fin 256, (c.val : Int) % 16 = 0 → bits BinOp.andNot IntKind.u8 (c.val : Int) 240 = 0 := by decide +kernel
theorem x_a6a : ∀ c : Fin 256, a6 (a6 (c.val : Int)) = a6 (c.val : Int) ∧ 0 ≤ a6 (c.val : Int) ∧ a6 (c.val : Int) < 256 := by decide +kernel
theorem a6_ok (y : Int) (hy : Byt y) : Byt (a6 y) ∧ a6 (a6 y) = a6 y := by
  have := fin_u8 (p := fun y => a6 (a6 y) = a6 y ∧ 0 ≤ a6 y ∧ a6 y < 256) x_a6a y hy
  exact ⟨this.2, this.1⟩
theorem mx6 (c y : Int) (hc : Byt c) (h6 : a6 c = c) (hy : Byt y) : mxb 6 c y = a6 y := by
  unfold mxb
  rw [fin_u8 (p := fun c => a6 c = c → bits BinOp.andNot IntKind.u8 c 6 = 0) x_an6 c hc h6]
  exact fin_u8 (p := fun z => bits BinOp.or IntKind.u8 0 z = z) x_or0 _ (a6_ok y hy).1
theorem mx255 (c y : Int) (hc : Byt c) (hy : Byt y) : mxb 255 c y = y := by
  unfold mxb
  rw [fin_u8 (p := fun c => bits BinOp.andNot IntKind.u8 c 255 = 0) x_an255 c hc, fin_u8 (p := fun c => bits BinOp.and IntKind.u8 c 255 = c) x_a255 y hy]
  exact fin_u8 (p := fun z => bits BinOp.or IntKind.u8 0 z = z) x_or0 _ hy
theorem mx0 (c y : Int) (hc : Byt c) (hy : Byt y) : mxb 0 c y = c := by
  unfold mxb
  rw [fin_u8 (p := fun c => bits BinOp.andNot IntKind.u8 c 0 = c) x_an0 c hc, fin_u8 (p := fun c => bits BinOp.and IntKind.u8 c 0 = 0) x_a0 y hy]
  exact fin_u8 (p := fun z => bits BinOp.or IntKind.u8 z 0 = z) x_ro0 _ hc
theorem hi4_ok (y : Int) (hy : Byt y) : Byt (hi4 y) ∧ hi4 y % 16 = 0 := by
  unfold hi4
  obtain ⟨h1, h2⟩ := hy
  exact ⟨⟨by omega, by omega⟩, by omega⟩
theorem mx240 (c y : Int) (hc : Byt c) (h : c % 16 = 0) (hy : Byt y) : mxb 240 c y = hi4 y := by
  unfold mxb
  rw [fin_u8 (p := fun c => c % 16 = 0 → bits BinOp.andNot IntKind.u8 c 240 = 0) x_an240 c hc h, fin_u8 (p := fun c => bits BinOp.and IntKind.u8 c 240 = c / 16 * 16) x_a240 y hy]
  exact fin_u8 (p := fun z => bits BinOp.or IntKind.u8 0 z = z) x_or0 _ (hi4_ok y hy).1
theorem byt_B (x : Int) (j : Nat) : Byt (C.byt x j) := C.byt_b x j
theorem atP_ok {p : Int → Prop} {o z : Nat} {x : Int} {P : Nat} {g : Int → Int} {old : Int} (h : p old) (hg : ∀ y, Byt y → p (g y)) : p (atP o z x P g old) := by
  unfold atP
  split
  · exact hg _ (byt_B _ _)
  · exact h
theorem SOk.wr {v : Sv} (h : SOk v) (o z : Nat) (x : Int) : SOk (v.wr o z x) :=
  ⟨h.k, atP_ok (p := fun c => Byt c ∧ a6 c = c) h.c a6_ok, atP_ok (p := fun c => Byt c ∧ c % 16 = 0) h.b1 hi4_ok, atP_ok (p := Byt) h.b2 fun _ h => h, atP_ok (p := Byt) h.b3 fun _ h => h, atP_ok (p := Byt) h.l fun _ h => h⟩
theorem b00 : Byt 0 := ⟨by decide, by decide⟩
theorem sok0 (k : Int) (h0 : 0 ≤ k) (h1 : k ≤ 255) : SOk (sv0 k) := ⟨⟨h0, h1⟩, ⟨b00, show a6 0 = 0 by decide⟩, ⟨b00, show (0 : Int) % 16 = 0 by decide⟩, b00, b00, b00⟩
theorem tab_b {v : Sv} (h : SOk v) (o : Nat) : Byt (tab v o) := by
  unfold tab
  split
  · exact h.c.1
  split
  · exact h.b1.1
  split
  · exact h.b2
  split
  · exact h.b3
  split
  · exact h.l
  · exact sp0_b _ _
theorem tab_in {v : Sv} (h : SOk v) (o z : Nat) (x : Int) (i : Nat) (h1 : o ≤ i) (h2 : i < o + z) : tab (v.wr o z x) i = mxb (mkb i) (tab v i) (C.byt x (i - o)) := by
  have hy := byt_B x (i - o)
  have hp : ∀ P g old, i = P → atP o z x P g old = g (C.byt x (i - o)) := fun P g old e => by subst e; unfold atP; rw [if_pos ⟨h1, h2⟩]
  unfold tab mkb Sv.wr
  by_cases e4 : i = 4
  · rw [if_pos e4, if_pos e4, if_pos e4]
    show atP o z x 4 a6 v.c = _
    rw [hp 4 _ _ e4, mx6 _ _ h.c.1 h.c.2 hy]
  · rw [if_neg e4, if_neg e4, if_neg e4]
    by_cases e17 : i = 17
    · rw [if_pos e17, if_pos e17, if_pos e17]
      show atP o z x 17 hi4 v.b1 = _
      rw [hp 17 _ _ e17, mx240 _ _ h.b1.1 h.b1.2 hy]
    · rw [if_neg e17, if_neg e17, if_neg e17]
      by_cases e18 : i = 18
      · rw [if_pos e18, if_pos (.inl e18), if_pos e18]
        show atP o z x 18 id v.b2 = _
        rw [hp 18 _ _ e18, mx255 _ _ h.b2 hy]; rfl
      · rw [if_neg e18, if_neg e18]
        by_cases e19 : i = 19
        · rw [if_pos e19, if_pos (.inr (.inl e19)), if_pos e19]
          show atP o z x 19 id v.b3 = _
          rw [hp 19 _ _ e19, mx255 _ _ h.b3 hy]; rfl
        · rw [if_neg e19, if_neg e19]
          by_cases e60 : i = 60
          · rw [if_pos e60, if_pos (.inr (.inr e60)), if_pos e60]
            show atP o z x 60 id v.l = _
            rw [hp 60 _ _ e60, mx255 _ _ h.l hy]; rfl
          · rw [if_neg e60, if_neg (by omega), if_neg e60, mx0 _ _ (sp0_b _ _) hy]
theorem tab_out (v : Sv) (o z : Nat) (x : Int) (i : Nat) (h1 : ¬ (o ≤ i ∧ i < o + z)) : tab (v.wr o z x) i = tab v i := by
  have hp : ∀ P g old, i = P → atP o z x P g old = old := fun P g old e => by subst e; unfold atP; rw [if_neg h1]
  unfold tab Sv.wr
  by_cases e4 : i = 4
  · rw [if_pos e4, if_pos e4]; exact hp _ _ _ e4
  · rw [if_neg e4, if_neg e4]
    by_cases e17 : i = 17
    · rw [if_pos e17, if_pos e17]; exact hp _ _ _ e17
    · rw [if_neg e17, if_neg e17]
      by_cases e18 : i = 18
      · rw [if_pos e18, if_pos e18]; exact hp _ _ _ e18
      · rw [if_neg e18, if_neg e18]
        by_cases e19 : i = 19
        · rw [if_pos e19, if_pos e19]; exact hp _ _ _ e19
        · rw [if_neg e19, if_neg e19]
          by_cases e60 : i = 60
          · rw [if_pos e60, if_pos e60]; exact hp _ _ _ e60
          · rw [if_neg e60, if_neg e60]
def upV (V : Nat → Sv) (s : Nat) (v : Sv) : Nat → Sv := fun i => if i = s then v else V i
/-- the slots behind a write -/
def wrV (n : Nat) (V : Nat → Sv) (s o z x : Int) : Nat → Sv := if fitB o z && hasS n s then upV V s.toNat ((V s.toNat).wr o.toNat z.toNat x) else V
def VOk (V : Nat → Sv) : Prop := ∀ i, SOk (V i)
theorem VOk.wr {V : Nat → Sv} (h : VOk V) (n : Nat) (s o z x : Int) : VOk (wrV n V s o z x) := by
  unfold wrV
  split
  · intro i
    unfold upV
    split
    · exact (h _).wr _ _ _
    · exact h i
  · exact h
theorem wrF_fB {V : Nat → Sv} (h : VOk V) (n : Nat) (s o z x : Int) (o0 : 0 ≤ o) : wrF n (fB V) s o z x = fB (wrV n V s o z x) := by
  unfold wrF wrV
  cases e : (fitB o z && hasS n s)
  · rfl
  · rw [Bool.and_eq_true] at e
    obtain ⟨q1, q2, q3, q4⟩ := fitB_spec e.1 o0
    rw [if_pos rfl, if_pos rfl]
    obtain ⟨O, rfl⟩ : ∃ O : Nat, o = O := ⟨o.toNat, by omega⟩
    obtain ⟨Z, rfl⟩ : ∃ Z : Nat, z = Z := ⟨z.toNat, by omega⟩
    simp only [Int.toNat_natCast]
    generalize s.toNat = S at *
    have hO : O + Z ≤ 256 := by omega
    clear q1 q2 q3 q4 e o0
    funext j
    unfold C.put
    by_cases r : S * 256 + O ≤ j ∧ j < S * 256 + O + Z
    · rw [if_pos r]
      have d : j / 256 = S := by omega
      unfold fB upV
      rw [if_pos d, tab_in (h S) O Z x (j % 256) (by omega) (by omega)]
      simp only []
      rw [show O + (j - (S * 256 + O)) = j % 256 by omega, show S * 256 + O + (j - (S * 256 + O)) = j by omega, d, show j - (S * 256 + O) = j % 256 - O by omega]
    · rw [if_neg r]
      unfold fB upV
      by_cases d : j / 256 = S
      · rw [if_pos d, tab_out _ _ _ _ _ (by omega), d]
      · rw [if_neg d]
theorem sp0_z (k : Int) (o : Nat) (h : o = 4 ∨ o = 17 ∨ o = 18 ∨ o = 19 ∨ o = 60 ∨ o = 16) : sp0 k o = 0 := by
  rcases h with rfl | rfl | rfl | rfl | rfl | rfl <;> simp [sp0, C.put]
theorem tab_sv0 (k : Int) (o : Nat) : tab (sv0 k) o = sp0 k o := by
  unfold tab sv0
  by_cases e4 : o = 4
  · rw [if_pos e4, sp0_z k o (by omega)]
  · rw [if_neg e4]
    by_cases e17 : o = 17
    · rw [if_pos e17, sp0_z k o (by omega)]
    · rw [if_neg e17]
      by_cases e18 : o = 18
      · rw [if_pos e18, sp0_z k o (by omega)]
      · rw [if_neg e18]
        by_cases e19 : o = 19
        · rw [if_pos e19, sp0_z k o (by omega)]
        · rw [if_neg e19]
          by_cases e60 : o = 60
          · rw [if_pos e60, sp0_z k o (by omega)]
          · rw [if_neg e60]
theorem spn_fB (K : Nat → Int) : spn K = fB fun i => sv0 (K i) := by
  funext j
  unfold spn fB
  rw [tab_sv0]
/-- the number at an offset of a slot -/
def gv (v : Sv) (o z : Nat) : Int := C.nu (fun j => tab v (o + j)) z
theorem gtS_fB (V : Nat → Sv) (s o z : Nat) (h : o + z ≤ 256) : gtS (fB V) s o z = gv (V s) o z := by
  unfold gtS gv
  apply C.nu_congr
  intro j hj
  unfold fB
  rw [show (s * 256 + o + j) / 256 = s by omega, show (s * 256 + o + j) % 256 = o + j by omega]
def rdV (n : Nat) (V : Nat → Sv) (s o z : Int) : Int := if fitB o z then (if hasS n s then gv (V s.toNat) o.toNat z.toNat else 256 ^ z.toNat - 1) else 0
theorem rdB_fB (n : Nat) (V : Nat → Sv) (s o z : Int) (o0 : 0 ≤ o) : rdB n (fB V) s o z = rdV n V s o z := by
  unfold rdB rdV
  cases e : fitB o z
  · rfl
  · obtain ⟨q1, q2, q3, q4⟩ := fitB_spec e o0
    rw [gtS_fB _ _ _ _ (by omega)]
/-- where the registers are -/
def Sv.base (v : Sv) : Int := v.b1 * 256 + v.b2 * 65536 + v.b3 * 16777216
theorem gv_base (v : Sv) : gv v 16 4 = v.base := by
  unfold gv Sv.base
  have t0 : tab v (16 + 0) = 0 := by simp [tab]; exact sp0_z _ _ (by omega)
  have t1 : tab v (16 + 1) = v.b1 := by simp [tab]
  have t2 : tab v (16 + 2) = v.b2 := by simp [tab]
  have t3 : tab v (16 + 3) = v.b3 := by simp [tab]
  simp only [C.nu, t0, t1, t2, t3]
  omega
theorem fB_b {V : Nat → Sv} (h : VOk V) (j : Nat) : Byt (fB V j) := tab_b (h _) _
end Go.Proofs.YtjkihlpckgaggaaGreat.P
