/- What hardware reads by a space's tables. -/
import Derived.Test.YtekkjalfiogenaaMH6
import Derived.Test.YtekkjalfiogenaaMH8
namespace Go.Proofs.Ytekkjalfiogenaa
open Go.RowKit
open C (Only hid Mem put byt rd8 lo hs wr lf num pw atF D D_wrong D_next D_leaf al plc gst pm rdmB DR)
set_option linter.unusedVariables false
set_option maxRecDepth 100000

theorem rdmB_in (b : Int) (n : Nat) (f : Nat → Int) (a : Int) (o : Nat) (ha : a = b + o) (h : o + 8 ≤ 4096 * n) : rdmB b n f a = (rd8 f o, 0) := by
  subst ha
  unfold rdmB
  rw [if_pos (by omega), show (b + (o : Int) - b).toNat = o by omega]
  rfl
/-- what a page's rights let -/
def lets (pm : Nat) (acc : Int) : Bool := if acc = 1 then decide (pm &&& 8 ≠ 0) else if acc = 2 then decide (pm &&& 2 ≠ 0) else if acc = 3 then decide (pm &&& 4 ≠ 0) else false
theorem al_l (b : Int) (t p : Nat) (b0 : 0 ≤ b) (hp : okP p) (acc : Int) : al (lE b t p) acc = lets p acc := by
  unfold al lets
  have hl := lo_lE b t p b0 (.inr hp)
  unfold hs
  rw [hl]
  rcases hp with h | h | h | h | h <;> subst h <;> (by_cases a1 : acc = 1 <;> by_cases a2 : acc = 2 <;> by_cases a3 : acc = 3 <;> simp [a1, a2, a3])
theorem wr_0 : wr 0 = true := by decide
theorem wr_t (b : Int) (t : Nat) (b0 : 0 ≤ b) (b1 : b ≤ 1099511627776) (ht : t ≤ 1024) (h : t ≠ 0) : wr (tE b t) = false ∧ lf (tE b t) = false := by
  have hl := lo_tE b t b0
  rw [if_neg h] at hl
  have hb : tE b t < 18014398509481984 := by unfold tE; rw [if_neg h]; omega
  unfold wr lf hs
  rw [hl]
  exact ⟨by simp; omega, by decide⟩
theorem wr_l (b : Int) (t p : Nat) (b0 : 0 ≤ b) (b1 : b ≤ 1099511627776) (ht : t ≤ 1024) (h : okP p) : wr (lE b t p) = false ∧ lf (lE b t p) = true ∧ pm (lE b t p) = (p : Int) := by
  have hl := lo_lE b t p b0 (.inr h)
  have hb : lE b t p < 18014398509481984 := by unfold okP at h; unfold lE; split <;> omega
  unfold wr lf pm hs
  rw [hl]
  rcases h with h | h | h | h | h <;> subst h <;> exact ⟨by simp; omega, by decide, by decide⟩
section
variable {s : SV} {v : PV} {f : Nat → Int} (hi : Inv s v f)
include hi
theorem D_sp (gpa : Int) (g0 : 0 ≤ gpa) (g1 : gpa < 549755813888) : (D (rdmB v.b v.n f) gpa 2 2 (v.b / 4096 + s.r)).fault = (if s.pp (gpa / 4096).toNat = 0 then 2 else 0) ∧ (s.pp (gpa / 4096).toNat ≠ 0 → (D (rdmB v.b v.n f) gpa 2 2 (v.b / 4096 + s.r)).level = 0 ∧ (D (rdmB v.b v.n f) gpa 2 2 (v.b / 4096 + s.r)).leaf = lE v.b (s.pf (gpa / 4096).toNat) (s.pp (gpa / 4096).toNat)) := by
  obtain ⟨p, hp⟩ : ∃ p : Nat, (p : Int) = gpa / 4096 := ⟨(gpa / 4096).toNat, by omega⟩
  rw [← hp, Int.toNat_natCast]
  have hp27 : p < 134217728 := by omega
  have b0 := hi.ba.b0
  have b1 := hi.ba.b1
  have bm := hi.ba.bm
  have n2 := hi.ba.n2
  have rl := hi.rlt
  have at2 : atF gpa 2 (v.b / 4096 + s.r) = v.b + ((4096 * s.r + 8 * (p / 262144) : Nat) : Int) := by unfold atF; rw [C.pw2, ← hp]; omega
  have r2 := rdmB_in v.b v.n f _ _ at2 (by omega)
  rw [hi.e2 _ (by omega)] at r2
  by_cases h1 : s.k1 (p / 262144) = 0
  · have hz : s.pp p = 0 := by
      rcases Nat.eq_zero_or_pos (s.pp p) with z | z
      · exact z
      · have k0 := (hi.ap p (by omega)).1
        have k1 := (hi.a0 _ k0).1
        rw [show p / 512 / 512 = p / 262144 by omega] at k1
        exact absurd h1 k1
    rw [D_wrong (by omega) (by rw [r2]) (by rw [r2, h1]; exact wr_0), hz]
    exact ⟨rfl, fun z => absurd rfl z⟩
  · have hk1 := (hi.k1lt h1).1
    have w2 := wr_t v.b (s.k1 (p / 262144)) b0 b1 (by omega) h1
    rw [D_next (by omega) (by rw [r2]) (by rw [r2]; exact w2.1) (by rw [r2]; exact w2.2), r2]
    have nt := num_t v.b _ h1
    have nt' : num (tE v.b (s.k1 (p / 262144))) = v.b / 4096 + s.k1 (p / 262144) := nt
    rw [nt']
    have at1 : atF gpa 1 (v.b / 4096 + s.k1 (p / 262144)) = v.b + ((4096 * s.k1 (p / 262144) + 8 * (p / 512 % 512) : Nat) : Int) := by unfold atF; rw [C.pw1, ← hp]; omega
    have r1 := rdmB_in v.b v.n f _ _ at1 (by omega)
    rw [hi.e1 _ _ h1 (by omega), show 512 * (p / 262144) + p / 512 % 512 = p / 512 by omega] at r1
    by_cases h0 : s.k0 (p / 512) = 0
    · have hz : s.pp p = 0 := by
        rcases Nat.eq_zero_or_pos (s.pp p) with z | z
        · exact z
        · exact absurd h0 (hi.ap p (by omega)).1
      rw [D_wrong (by omega) (by rw [r1]) (by rw [r1, h0]; exact wr_0), hz]
      exact ⟨rfl, fun z => absurd rfl z⟩
    · have hk0 := (hi.k0lt h0).1
      have w1 := wr_t v.b (s.k0 (p / 512)) b0 b1 (by omega) h0
      rw [D_next (by omega) (by rw [r1]) (by rw [r1]; exact w1.1) (by rw [r1]; exact w1.2), r1]
      have nt0 : num (tE v.b (s.k0 (p / 512))) = v.b / 4096 + s.k0 (p / 512) := num_t v.b _ h0
      rw [nt0]
      have at0 : atF gpa 0 (v.b / 4096 + s.k0 (p / 512)) = v.b + ((4096 * s.k0 (p / 512) + 8 * (p % 512) : Nat) : Int) := by unfold atF; rw [C.pw0, ← hp]; omega
      have r0 := rdmB_in v.b v.n f _ _ at0 (by omega)
      rw [hi.e0 _ _ h0 (by omega), show 512 * (p / 512) + p % 512 = p by omega] at r0
      by_cases hz : s.pp p = 0
      · rw [hz] at r0
        rw [D_wrong (by omega) (by rw [r0]) (by rw [r0]; exact wr_0), hz]
        exact ⟨rfl, fun z => absurd rfl z⟩
      · obtain ⟨-, hk, hf, -⟩ := hi.ap p hz
        have w0 := wr_l v.b (s.pf p) (s.pp p) b0 b1 (by omega) hk
        rw [D_leaf (by omega) (by rw [r0]) (by rw [r0]; exact w0.1) (by rw [r0]; exact w0.2.1) (by rw [C.pw0]; omega), r0, if_neg hz]
        exact ⟨rfl, fun _ => ⟨rfl, rfl⟩⟩
/-- an address whose page lets the access; and any other -/
theorem gst_yes (gpa acc : Int) (g0 : 0 ≤ gpa) (hp : s.pp (gpa / 4096).toNat ≠ 0) (ha : lets (s.pp (gpa / 4096).toNat) acc = true) : gst (rdmB v.b v.n f) (v.b / 4096 + s.r) gpa acc = (v.b + 4096 * (s.pf (gpa / 4096).toNat : Int) + gpa % 4096, (s.pp (gpa / 4096).toNat : Int), 0) := by
  have hlt := hi.pplt hp
  have g1 : gpa < 549755813888 := by omega
  obtain ⟨d1, d2⟩ := D_sp hi gpa g0 g1
  obtain ⟨d3, d4⟩ := d2 hp
  rw [if_neg hp] at d1
  obtain ⟨-, hk, hf, -⟩ := hi.ap _ hp
  have b0 := hi.ba.b0
  have rl := hi.rlt
  have bm := hi.ba.bm
  have n2 := hi.ba.n2
  have nl := num_l v.b (s.pf (gpa / 4096).toNat) _ hk
  unfold gst
  rw [if_neg (by omega), if_neg (by omega), if_neg (by rw [d1]; decide), if_pos (by rw [d4, al_l _ _ _ b0 hk]; exact ha)]
  unfold plc
  rw [d4, d3, C.pw0, (wr_l v.b _ _ b0 hi.ba.b1 (by omega) hk).2.2]
  have nl' : num (lE v.b (s.pf (gpa / 4096).toNat) (s.pp (gpa / 4096).toNat)) = v.b / 4096 + s.pf (gpa / 4096).toNat := nl
  rw [nl']
  congr 1
  omega
theorem gst_no (gpa acc : Int) (g0 : 0 ≤ gpa) (h : s.pp (gpa / 4096).toNat = 0 ∨ lets (s.pp (gpa / 4096).toNat) acc = false) : gst (rdmB v.b v.n f) (v.b / 4096 + s.r) gpa acc = (0, 0, 2) := by
  have b0 := hi.ba.b0
  have rl := hi.rlt
  unfold gst
  rw [if_neg (by omega)]
  by_cases g1 : 549755813888 ≤ gpa
  · rw [if_pos g1]
  · rw [if_neg g1]
    obtain ⟨d1, d2⟩ := D_sp hi gpa g0 (by omega)
    by_cases hp : s.pp (gpa / 4096).toNat = 0
    · rw [if_pos hp] at d1
      rw [if_pos (by rw [d1]; decide), d1]
    · rw [if_neg hp] at d1
      obtain ⟨d3, d4⟩ := d2 hp
      obtain ⟨-, hk, hf, -⟩ := hi.ap _ hp
      rw [if_neg (by rw [d1]; decide), if_neg (by rw [d4, al_l _ _ _ b0 hk, h.resolve_left hp]; decide)]
end
section
variable (w : World) (F : Nat → Prop) (u : Value) (q pl : Nat) (s : SV) (v : PV) (f : Nat → Int) (vm : Int) (h : SPs w F u q pl s v f vm)
include h
theorem r_Guest (gpa acc : Int) (g0 : 0 ≤ gpa) (g1 : gpa < 18446744073709551616) (x y z : Int) (hg : gst (rdmB v.b v.n f) (v.b / 4096 + s.r) gpa acc = (x, y, z)) : Calls Try.prog 23 #[.pointer (some ⟨v.m, 0, none⟩), .int .u64 (v.b / 4096 + s.r), .int .u64 gpa, .int .i64 acc] w fun r w' => r = .returned (.tuple #[.int .u64 x, .int .i64 y, .int .i64 z]) ∧ Below w.heap.size w w' := by
  obtain ⟨S, hm, -, -⟩ := h.pl.open
  have b0 := h.iv.ba.b0
  have b1 := h.iv.ba.b1
  have rl := h.iv.rlt
  have n2 := h.iv.ba.n2
  exact C.c_GuestB v.b w S v.m v.n f hm _ gpa acc (by omega) (by omega) g0 g1 x y z hg
end
end Go.Proofs.Ytekkjalfiogenaa
