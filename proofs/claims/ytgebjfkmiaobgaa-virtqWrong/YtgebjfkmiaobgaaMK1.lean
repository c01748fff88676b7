/- Descriptors as they stand in a memory. -/
import Derived.Test.YtgebjfkmiaobgaaMH3
import Derived.Laws.AppendOwnNone
namespace Go.Proofs.Ytgebjfkmiaobgaa
open Go.RowKit
open C (Only hid Still ret_int ret_bool Mem RMem okN rdF wrF hasB nu put byt TB Tw TwB)
set_option linter.unusedVariables false
set_option maxRecDepth 100000

theorem okN_in {bs : Int} {n : Nat} {a : Int} {z : Nat} (hz : z = 2 ∨ z = 4 ∨ z = 8) (h1 : bs ≤ a) (h2 : a + z ≤ bs + 4096 * n) : okN bs n a z = true := by
  unfold okN
  obtain ⟨off, rfl⟩ : ∃ off : Nat, a = bs + off := ⟨(a - bs).toNat, by omega⟩
  rw [C.hasB_of (by omega)]
  rcases hz with rfl | rfl | rfl <;> rfl
theorem has_in {bs : Int} {n : Nat} {a z : Int} (h1 : bs ≤ a) (h0 : 0 ≤ z) (h2 : a + z ≤ bs + 4096 * n) : hasB bs n a z = true := by
  obtain ⟨off, rfl⟩ : ∃ off : Nat, a = bs + off := ⟨(a - bs).toNat, by omega⟩
  obtain ⟨k, rfl⟩ : ∃ k : Nat, z = k := ⟨z.toNat, by omega⟩
  exact C.hasB_of (by omega)
theorem has_no {bs : Int} {n : Nat} {a z : Int} (h : bs + 4096 * n < a + z) : hasB bs n a z = false := by
  cases e : hasB bs n a z
  · rfl
  · obtain ⟨off, len, h1, h2, h3⟩ := C.hasB_off e
    omega
/-- a descriptor -/
structure Ds where
  a : Int
  l : Int
  f : Int
  x : Int
def dsF (bs : Int) (n : Nat) (f : Nat → Int) (at0 : Int) : Ds := ⟨rdF bs n f at0 8, rdF bs n f (at0 + 8) 4, rdF bs n f (at0 + 12) 2, rdF bs n f (at0 + 14) 2⟩
theorem rd_same2 {bs : Int} {n : Nat} (f : Nat → Int) (a v : Int) (v0 : 0 ≤ v) (h : okN bs n a 2 = true) : rdF bs n (wrF bs n f a 2 v) a 2 = v % 65536 := rd_same f a 2 v v0 h
theorem rd_same4 {bs : Int} {n : Nat} (f : Nat → Int) (a v : Int) (v0 : 0 ≤ v) (h : okN bs n a 4 = true) : rdF bs n (wrF bs n f a 4 v) a 4 = v % 4294967296 := rd_same f a 4 v v0 h
theorem rd_same8 {bs : Int} {n : Nat} (f : Nat → Int) (a v : Int) (v0 : 0 ≤ v) (v1 : v < 18446744073709551616) (h : okN bs n a 8 = true) : rdF bs n (wrF bs n f a 8 v) a 8 = v := (rd_same f a 8 v v0 h).trans (by rw [show (256 : Int) ^ 8 = 18446744073709551616 by decide]; omega)
theorem rd_out {bs : Int} {n : Nat} (f : Nat → Int) (a a' v : Int) (z z' : Nat) (Z Z' : Int) (hz : Z = z) (hz' : Z' = z') (h : a + Z ≤ a' ∨ a' + Z' ≤ a) : rdF bs n (wrF bs n f a' Z' v) a Z = rdF bs n f a Z := by
  rw [hz, hz']
  exact rd_other f a a' z z' v (by omega)
theorem ds_same {bs : Int} {n : Nat} (f : Nat → Int) (at0 a l fl x : Int) (a0 : 0 ≤ a) (a1 : a < 18446744073709551616) (l0 : 0 ≤ l) (f0 : 0 ≤ fl) (x0 : 0 ≤ x) (h1 : bs ≤ at0) (h2 : at0 + 16 ≤ bs + 4096 * n) : dsF bs n (putD bs n f at0 a l fl x) at0 = ⟨a, l % 4294967296, fl % 65536, x % 65536⟩ := by
  unfold dsF putD
  congr 1
  · rw [rd_out _ _ _ _ 8 2 8 2 rfl rfl (by omega), rd_out _ _ _ _ 8 2 8 2 rfl rfl (by omega), rd_out _ _ _ _ 8 4 8 4 rfl rfl (by omega), rd_same8 _ _ _ a0 a1 (okN_in (z := 8) (by omega) h1 (by omega))]
  · rw [rd_out _ _ _ _ 4 2 4 2 rfl rfl (by omega), rd_out _ _ _ _ 4 2 4 2 rfl rfl (by omega), rd_same4 _ _ _ l0 (okN_in (z := 4) (by omega) (by omega) (by omega))]
  · rw [rd_out _ _ _ _ 2 2 2 2 rfl rfl (by omega), rd_same2 _ _ _ f0 (okN_in (z := 2) (by omega) (by omega) (by omega))]
  · rw [rd_same2 _ _ _ x0 (okN_in (z := 2) (by omega) (by omega) (by omega))]
theorem pd_out {bs : Int} {n : Nat} (f : Nat → Int) (at0 a l fl x : Int) (y : Int) (z : Nat) (Z : Int) (hz : Z = z) (h : y + Z ≤ at0 ∨ at0 + 16 ≤ y) : rdF bs n (putD bs n f at0 a l fl x) y Z = rdF bs n f y Z := by
  unfold putD
  rw [rd_out _ _ _ _ z 2 Z 2 hz rfl (by omega), rd_out _ _ _ _ z 2 Z 2 hz rfl (by omega), rd_out _ _ _ _ z 4 Z 4 hz rfl (by omega), rd_out _ _ _ _ z 8 Z 8 hz rfl (by omega)]
theorem ds_other {bs : Int} {n : Nat} (f : Nat → Int) (at0 a l fl x y : Int) (h : y + 16 ≤ at0 ∨ at0 + 16 ≤ y) : dsF bs n (putD bs n f at0 a l fl x) y = dsF bs n f y := by
  unfold dsF
  rw [pd_out _ _ _ _ _ _ _ 8 8 rfl (by omega), pd_out _ _ _ _ _ _ _ 4 4 rfl (by omega), pd_out _ _ _ _ _ _ _ 2 2 rfl (by omega), pd_out _ _ _ _ _ _ _ 2 2 rfl (by omega)]
theorem ds_wr {bs : Int} {n : Nat} (f : Nat → Int) (y a v : Int) (z : Nat) (Z : Int) (hz : Z = z) (h : y + 16 ≤ a ∨ a + Z ≤ y) : dsF bs n (wrF bs n f a Z v) y = dsF bs n f y := by
  unfold dsF
  rw [rd_out _ _ _ _ 8 z 8 Z rfl hz (by omega), rd_out _ _ _ _ 4 z 4 Z rfl hz (by omega), rd_out _ _ _ _ 2 z 2 Z rfl hz (by omega), rd_out _ _ _ _ 2 z 2 Z rfl hz (by omega)]
theorem okD_in (p : Nat) {bs : Int} {n : Nat} (f : Nat → Int) (at0 : Int) (h1 : bs ≤ at0) (h2 : at0 + 16 ≤ bs + 4096 * n) : okD (RmG p bs n) f at0 = true := by
  show (okN bs n at0 8 && okN bs n (at0 + 8) 4 && okN bs n (at0 + 12) 2 && okN bs n (at0 + 14) 2) = true
  rw [show okN bs n at0 8 = true from okN_in (z := 8) (by omega) h1 (by omega), show okN bs n (at0 + 8) 4 = true from okN_in (z := 4) (by omega) (by omega) (by omega), show okN bs n (at0 + 12) 2 = true from okN_in (z := 2) (by omega) (by omega) (by omega), show okN bs n (at0 + 14) 2 = true from okN_in (z := 2) (by omega) (by omega) (by omega)]
  rfl
theorem fol_stepG (G : MG) (s : G.σ) (v : QV) (k : Nat) (i : Int) (R W : List (Int × Int)) (hi : i < v.sz) (D : Ds) (hD : (⟨G.rd s (v.d + 16 * i) 8, G.rd s (v.d + 16 * i + 8) 4, G.rd s (v.d + 16 * i + 12) 2, G.rd s (v.d + 16 * i + 14) 2⟩ : Ds) = D) (hk : okD G s (v.d + 16 * i) = true) :
    fol G s v (k + 1) i R W = bif !mayD G s D.a D.l D.f (decide (0 < W.length)) then (32, [], []) else
      bif fM D.f then fol G s v k D.x (bif fW2 D.f then R else R ++ [(D.a, D.l)]) (bif fW2 D.f then W ++ [(D.a, D.l)] else W) else (0, bif fW2 D.f then R else R ++ [(D.a, D.l)], bif fW2 D.f then W ++ [(D.a, D.l)] else W) := by
  have h1 : decide (v.sz ≤ i) = false := by simpa using hi
  conv => lhs; unfold fol
  rw [h1, hk, Bool.true_and]
  subst hD
  rfl
/-- one step along a chain -/
theorem fol_step (p : Nat) (bs : Int) (n : Nat) (f : Nat → Int) (v : QV) (k : Nat) (i : Int) (R W : List (Int × Int)) (hi : i < v.sz) (D : Ds) (hD : dsF bs n f (v.d + 16 * i) = D) (hk : okD (RmG p bs n) f (v.d + 16 * i) = true) :
    fol (RmG p bs n) f v (k + 1) i R W = bif !mayD (RmG p bs n) f D.a D.l D.f (decide (0 < W.length)) then (32, [], []) else
      bif fM D.f then fol (RmG p bs n) f v k D.x (bif fW2 D.f then R else R ++ [(D.a, D.l)]) (bif fW2 D.f then W ++ [(D.a, D.l)] else W) else (0, bif fW2 D.f then R else R ++ [(D.a, D.l)], bif fW2 D.f then W ++ [(D.a, D.l)] else W) :=
  fol_stepG (RmG p bs n) f v k i R W hi D hD hk
theorem fol_end (G : MG) (s : G.σ) (v : QV) (i : Int) (R W : List (Int × Int)) (hi : i < v.sz) : fol G s v 0 i R W = (31, [], []) := by
  have h1 : decide (v.sz ≤ i) = false := by simpa using hi
  unfold fol
  rw [h1]
  rfl
theorem fol_far (G : MG) (s : G.σ) (v : QV) (k : Nat) (i : Int) (R W : List (Int × Int)) (hi : v.sz ≤ i) : fol G s v k i R W = (32, [], []) := by
  have h1 : decide (v.sz ≤ i) = true := by simpa using hi
  cases k <;> (unfold fol; rw [h1]; rfl)
/-- n is a power of two below 128 -/
theorem sh7 (k : Int) (k0 : 0 ≤ k) (k1 : k < 7) : ∃ n : Nat, (2 : Int) ^ k.toNat = n ∧ isSz n = true ∧ 1 ≤ n ∧ n ≤ 64 := by
  have : k = 0 ∨ k = 1 ∨ k = 2 ∨ k = 3 ∨ k = 4 ∨ k = 5 ∨ k = 6 := by omega
  rcases this with rfl | rfl | rfl | rfl | rfl | rfl | rfl
  · exact ⟨1, rfl, rfl, by decide, by decide⟩
  · exact ⟨2, rfl, rfl, by decide, by decide⟩
  · exact ⟨4, rfl, rfl, by decide, by decide⟩
  · exact ⟨8, rfl, rfl, by decide, by decide⟩
  · exact ⟨16, rfl, rfl, by decide, by decide⟩
  · exact ⟨32, rfl, rfl, by decide, by decide⟩
  · exact ⟨64, rfl, rfl, by decide, by decide⟩
/-- a queue as the laws set it up -/
def vN (n : Nat) : QV := ⟨n, 256, 2048, 2304, 0, 0, false⟩
theorem vN_set (n : Nat) (h : isSz n = true) : okS q0 n 256 2048 2304 = true ∧ q0.set n 256 2048 2304 = vN n := by
  have : okS q0 n 256 2048 2304 = true := by unfold okS; rw [h]; rfl
  exact ⟨this, by unfold QV.set; rw [this]; rfl⟩
end Go.Proofs.Ytgebjfkmiaobgaa
namespace Go.Proofs.Ytgebjfkmiaobgaa
open Go.RowKit
open C (Only hid Still ret_int ret_bool)
set_option linter.unusedVariables false
set_option maxRecDepth 100000

theorem sgs_app (R W : List (Int × Int)) : sgs (R ++ W) = sgs R ++ sgs W := by simp [sgs]
theorem sgs_one (L : List (Int × Int)) : ∀ u ∈ sgs L, u.oneCell' = true := by
  intro u hu
  simp [sgs] at hu
  obtain ⟨a, b, _, h⟩ := hu
  rcases h with rfl | rfl <;> rfl
theorem wp_app {w : World} {o : Oper} {a : Act} {Q : Exit → Act → World → Prop} {K : Act → World → Prop} (s x : Operand) (ho : o.op = .call { callee := .builtin .append, args := #[s, x], argTypes := #[40, 40] }) {B C : Nat} {V U : Value} {L M : List (Int × Int)} (hs : a.eval s = V) (hV : Sg w B V L) (hx : a.eval x = U) (hU : Sg w C U M) (hl : L.length ≤ 1000) (hm : M.length ≤ 1000) (hB : B ≤ w.heap.size)
    (h : ∀ v' w', Sg w' B v' (L ++ M) → Only (Ug V) w w' → K (a.put o.dst v') w') : o.wp Try.prog a w K Q := by
  obtain ⟨i0, hi0, hz0, hs0, hb0⟩ := info_parts info_seg
  rcases hU.own.2 with ⟨h1, h2⟩ | ⟨g, cap, cur, h1, h2, h3, h4⟩
  · have hM : M = [] := List.length_eq_zero_iff.1 h2
    subst hM
    have hrun := run_append_owned_none (P := Try.prog) (w := w) 0 40 o.type 61 i0 2 u_sseg hi0 V L.length (sgs L) hV.own
    unfold Oper.wp
    have hx' : a.eval x = .slice none 0 0 := by rw [hx, h1]
    simp [execOp, ho, resolve, invoke, builtin, hs, hx', hrun, Result.andThen]
    exact h V w (by simpa using hV) (Only.refl w)
  · by_cases h0 : 0 < M.length
    · obtain ⟨g', cp, e1, e2, e3, e4, e5⟩ := hU.at h0
      rw [e1] at hx
      have hcell : ∀ j u, (sgs M)[j]? = some u → w.cell? ((⟨g', 0, none⟩ : Addr).add j) = some u := fun j u hj => by
        have hjl : j < M.length * 2 := by rw [← sgs_len]; exact (List.getElem?_eq_some_iff.1 hj).1
        obtain ⟨y, hy⟩ : ∃ y, M[j / 2]? = some y := ⟨M[j / 2]'(by omega), List.getElem?_eq_getElem _⟩
        obtain ⟨a1, a2⟩ := sgs_at M (j / 2) y hy
        obtain ⟨b1, b2⟩ := e5 (j / 2) y hy
        rw [_root_.Go.Proofs.Ytgebjfkmiaobgaa.C.addr_add, Nat.zero_add]
        rcases Nat.mod_two_eq_zero_or_one j with z | z
        · rw [show j / 2 * 2 = j by omega] at a1 b1
          rw [a1] at hj; rw [← hj]; exact b1
        · rw [show j / 2 * 2 + 1 = j by omega] at a2 b2
          rw [a2] at hj; rw [← hj]; exact b2
      refine wp_append_blk w s x 40 ho 61 i0 _ 2 16 u_sseg hi0 hz0 hs0 hb0 rfl (by decide) V L.length (sgs L) hs hV.own ⟨g', 0, none⟩ M.length cp (sgs M) hx (sgs_len M) hcell (sgs_one M) (show L.length + M.length ≤ 9223372036854775807 by omega) (by omega) ?_
      intro v' w' k1 k2 k3
      exact h v' w' ⟨by rw [List.length_append, sgs_app]; exact k1, fun k hk => (k3 k hk).elim (hV.ge k) fun z => Nat.le_trans hB z⟩ (grown_ug k2)
    · have hM : M = [] := List.length_eq_zero_iff.1 (by omega)
      subst hM
      rw [h1] at hx
      refine wp_append_blk w s x 40 ho 61 i0 _ 2 16 u_sseg hi0 hz0 hs0 hb0 rfl (by decide) V L.length (sgs L) hs hV.own ⟨g, 0, none⟩ 0 cap [] hx rfl (fun j u hj => by cases hj) (fun u hu => by cases hu) (show L.length + 0 ≤ 9223372036854775807 by omega) (by omega) ?_
      intro v' w' k1 k2 k3
      exact h v' w' ⟨by simpa using k1, fun k hk => (k3 k hk).elim (hV.ge k) fun z => Nat.le_trans hB z⟩ (grown_ug k2)
/-- the states of a region that joins two lists in a new one -/
def MJ (w0 : World) (R W : List (Int × Int)) : Nat → Value × Value → World → Prop
  | 0, _, w => w = w0
  | 1, x, w => Sg w w0.heap.size x.1 R ∧ Below w0.heap.size w0 w
  | _ + 2, x, w => Sg w w0.heap.size x.2 (R ++ W) ∧ Below w0.heap.size w0 w
theorem MJ.bel {w0 w : World} {R W : List (Int × Int)} {s : Nat} {x : Value × Value} (h : MJ w0 R W s x w) : Below w0.heap.size w0 w := by
  match s, h with
  | 0, h => obtain rfl : w = w0 := h; exact .refl _ _
  | 1, h => exact h.2
  | _ + 2, h => exact h.2
end Go.Proofs.Ytgebjfkmiaobgaa
namespace Go.Proofs.Ytgebjfkmiaobgaa
open Go.RowKit
open C (Only hid Still ret_int ret_bool Mem RMem okN rdF wrF hasB nu put byt TB Tw TwB)
set_option linter.unusedVariables false
set_option maxRecDepth 100000

theorem fM_b : fM 1 = true ∧ fM 3 = true ∧ fM 0 = false ∧ fM 2 = false ∧ fW2 1 = false ∧ fW2 3 = true ∧ fW2 0 = false ∧ fW2 2 = true ∧ fX 0 = false ∧ fX 2 = false ∧ fX 4 = true ∧ fX 6 = true := ⟨by kernel_rfl, by kernel_rfl, by kernel_rfl, by kernel_rfl, by kernel_rfl, by kernel_rfl, by kernel_rfl, by kernel_rfl, by kernel_rfl, by kernel_rfl, by kernel_rfl, by kernel_rfl⟩
theorem may_0 (p : Nat) (f : Nat → Int) (F : Int) (hF : F = 1 ∨ F = 3) : mayD (RmG p 0 2) f 4096 8 F false = true := by
  rcases hF with rfl | rfl <;> kernel_rfl
/-- a queue of four with one chain that begins at descriptor 0 -/
theorem one_next (p : Nat) (f : Nat → Int) (E : Int) (R W : List (Int × Int)) (hz : rdF 0 2 f 2052 2 = 0) (hi : rdF 0 2 f 2050 2 = 1) (hf : fol (RmG p 0 2) f (vN 4).take 4 0 [] [] = (E, R, W)) : nxF (RmG p 0 2) f (vN 4) 4 = bif E == 0 then ⟨0, true, 0, R, W, (vN 4).take⟩ else ⟨E, false, 0, [], [], (vN 4).take.die⟩ := by
  have k1 : okN 0 2 2050 2 = true := by kernel_rfl
  have k2 : okN 0 2 2052 2 = true := by kernel_rfl
  have a1 : ahd (RmG p 0 2) f (vN 4) = 1 := by
    show (rdF 0 2 f 2050 2 - 0) % 65536 = 1
    rw [hi]; rfl
  have e1 : ofE (RmG p 0 2) f (vN 4) = 0 := by
    unfold ofE
    rw [a1]
    show (bif !okN 0 2 2050 2 then (32 : Int) else bif decide ((4 : Int) < 1) then 30 else 0) = 0
    rw [k1]; rfl
  have e2 : ofN (RmG p 0 2) f (vN 4) = 1 := by unfold ofN; rw [e1, a1]; rfl
  have av : avA (vN 4) = 2052 := rfl
  have t : tkF (RmG p 0 2) f (vN 4) 4 = ⟨E, true, hdF E 0, R, W, (vN 4).take⟩ := by
    unfold tkF
    rw [av]
    show (bif !okN 0 2 2052 2 then _ else (⟨(fol (RmG p 0 2) f (vN 4).take 4 (rdF 0 2 f 2052 2) [] []).1, true, hdF (fol (RmG p 0 2) f (vN 4).take 4 (rdF 0 2 f 2052 2) [] []).1 (rdF 0 2 f 2052 2), (fol (RmG p 0 2) f (vN 4).take 4 (rdF 0 2 f 2052 2) [] []).2.1, (fol (RmG p 0 2) f (vN 4).take 4 (rdF 0 2 f 2052 2) [] []).2.2, (vN 4).take⟩ : NX)) = _
    rw [k2, hz, hf]
    rfl
  unfold nxF
  have z : ¬ (vN 4).sz = 0 := by show ¬ (4 : Int) = 0; decide
  rw [if_neg z, e1, e2, t]
  have hh : hdF E 0 = 0 := by unfold hdF; split <;> rfl
  rw [hh]
  rfl
/-- two descriptors -/
theorem two_fol (p : Nat) (f : Nat → Int) (F a m g : Int) (hF : F = 1 ∨ F = 3) (hg : fM g = false) (h0 : dsF 0 2 f 256 = ⟨4096, 8, F, 1⟩) (h1 : dsF 0 2 f 272 = ⟨a, m, g, 0⟩) : fol (RmG p 0 2) f (vN 4).take 4 0 [] [] = bif !mayD (RmG p 0 2) f a m g (fW2 F) then (32, [], []) else (0, bif fW2 g then (bif fW2 F then [] else [(4096, 8)]) else (bif fW2 F then [] else [(4096, 8)]) ++ [(a, m)], bif fW2 g then (bif fW2 F then [(4096, 8)] else []) ++ [(a, m)] else (bif fW2 F then [(4096, 8)] else [])) := by
  rw [fol_step p 0 2 f (vN 4).take 3 0 [] [] (by show (0 : Int) < 4; decide) ⟨4096, 8, F, 1⟩ h0 (okD_in p f 256 (by decide) (by decide))]
  show (bif !mayD (RmG p 0 2) f 4096 8 F false then _ else bif fM F then fol (RmG p 0 2) f (vN 4).take 3 1 (bif fW2 F then [] else [] ++ [(4096, 8)]) (bif fW2 F then [] ++ [(4096, 8)] else []) else _) = _
  rw [may_0 p f F hF]
  have hm : fM F = true := by rcases hF with rfl | rfl <;> first | exact fM_b.1 | exact fM_b.2.1
  rw [hm]
  show fol (RmG p 0 2) f (vN 4).take 3 1 (bif fW2 F then [] else [(4096, 8)]) (bif fW2 F then [(4096, 8)] else []) = _
  rw [fol_step p 0 2 f (vN 4).take 2 1 _ _ (by show (1 : Int) < 4; decide) ⟨a, m, g, 0⟩ h1 (okD_in p f 272 (by decide) (by decide))]
  show (bif !mayD (RmG p 0 2) f a m g (decide (0 < (bif fW2 F then [(4096, 8)] else ([] : List (Int × Int))).length)) then _ else bif fM g then _ else _) = _
  rw [hg]
  have hb : decide (0 < (bif fW2 F then [((4096 : Int), (8 : Int))] else ([] : List (Int × Int))).length) = fW2 F := by cases fW2 F <;> rfl
  rw [hb]
  rfl
theorem mayV (p : Nat) (f : Nat → Int) (a m g : Int) (bw : Bool) : mayD (RmG p 0 2) f a m g bw = (!(fX g || bw && !fW2 g) && (m == 0 || hasB 0 2 a m)) := rfl
/-- the law's memory -/
def wrM (F a m g : Int) : Nat → Int := wrF 0 2 (putD 0 2 (putD 0 2 f0 256 4096 8 (u64m F) (u64m 1)) 272 a m (u64m g) (u64m 0)) 2050 2 1
theorem wrM_ok (F a m g : Int) (hF : F = 1 ∨ F = 3) (a0 : 0 ≤ a) (a1 : a < 8192) (m0 : 0 ≤ m) (m1 : m < 20000) (hg : g = 0 ∨ g = 2 ∨ g = 4 ∨ g = 6) : rdF 0 2 (wrM F a m g) 2052 2 = 0 ∧ rdF 0 2 (wrM F a m g) 2050 2 = 1 ∧ dsF 0 2 (wrM F a m g) 256 = ⟨4096, 8, F, 1⟩ ∧ dsF 0 2 (wrM F a m g) 272 = ⟨a, m, g, 0⟩ := by
  have uF : u64m F = F := by unfold u64m; omega
  have ug : u64m g = g := by unfold u64m; omega
  have u1 : u64m 1 = 1 := rfl
  have u0 : u64m 0 = 0 := rfl
  unfold wrM
  refine ⟨?_, ?_, ?_, ?_⟩
  · rw [rd_out _ 2052 2050 1 2 2 2 2 rfl rfl (by omega), pd_out _ _ _ _ _ _ _ 2 2 rfl (by omega), pd_out _ _ _ _ _ _ _ 2 2 rfl (by omega)]
    unfold rdF f0
    split <;> rfl
  · exact (rd_same2 _ 2050 1 (by decide) (by kernel_rfl)).trans rfl
  · rw [ds_wr _ _ 2050 1 2 2 rfl (by omega), ds_other _ _ _ _ _ _ _ (by omega), ds_same _ _ _ _ _ _ (by decide) (by decide) (by decide) (by omega) (by decide) (by omega) (by omega), uF, u1]
    congr 1 <;> omega
  · rw [ds_wr _ _ 2050 1 2 2 rfl (by omega), ds_same _ _ _ _ _ _ a0 (by omega) m0 (by omega) (by decide) (by omega) (by omega), ug, u0]
    congr 1 <;> omega
set_option maxHeartbeats 16000000 in
theorem w_VirtqWrong (W : World) (fi : Int) (i0 : -9223372036854775808 ≤ fi) (i1 : fi ≤ 9223372036854775807) (se : Int) (e0 : -9223372036854775808 ≤ se) (e1 : se ≤ 9223372036854775807) (ad : Int) (d0 : 0 ≤ ad) (d1 : ad < 18446744073709551616) (nn : Int) (n0 : 0 ≤ nn) (n1 : nn < 18446744073709551616) (wr : Int) (r0 : -9223372036854775808 ≤ wr) (r1 : wr ≤ 9223372036854775807) :
    Calls Try.prog 9 #[.int .i64 fi, .int .i64 se, .int .u64 ad, .int .u64 nn, .int .i64 wr] W fun e w' => e = .returned (.bool true) ∧ Below W.heap.size W w' := by
  have hM := l_Memory W 0 (by decide) (by decide) (by decide) 2 (by decide) (by decide) 2 rfl
  have HP1 := hid (fun w => C.c_Place fi 2 (by decide) (by decide) i0 i1 w)
  have HP2 := hid (fun w => C.c_Place se 2 (by decide) (by decide) e0 e1 w)
  have HP3 := hid (fun w => C.c_Place wr 3 (by decide) (by decide) r0 r1 w)
  obtain ⟨A, hA⟩ : ∃ A, ad % 8192 = A := ⟨_, rfl⟩
  have A0 : 0 ≤ A := by omega
  have A1 : A < 8192 := by omega
  have t1 : ad.tmod 8192 = A := by rw [Int.tmod_eq_emod_of_nonneg d0]; exact hA
  have w1' : IntKind.u64.wrap (8192 - A) = 8192 - A := by rw [IntKind.wrap_u64]; omega
  have w2' : IntKind.u64.wrap (8192 - A + 1) = 8192 - A + 1 := by rw [IntKind.wrap_u64]; omega
  obtain ⟨M0, hM0⟩ : ∃ M, nn % (8192 - A + 1) = M := ⟨_, rfl⟩
  have m0 : 0 ≤ M0 := by rw [← hM0]; exact Int.emod_nonneg _ (by omega)
  have m1 : M0 < 8192 - A + 1 := by rw [← hM0]; exact Int.emod_lt_of_pos _ (by omega)
  have t2 : nn.tmod (8192 - A + 1) = M0 := by rw [Int.tmod_eq_emod_of_nonneg n0]; exact hM0
  obtain ⟨M2, hM2⟩ : ∃ M, nn % 1000 = M := ⟨_, rfl⟩
  have t3 : nn.tmod 1000 = M2 := by rw [Int.tmod_eq_emod_of_nonneg n0]; exact hM2
  have b0 : 0 ≤ M2 := by omega
  have b1 : M2 < 1000 := by omega
  have w3' : IntKind.u64.wrap (8192 - A + 1 + M2) = 8192 - A + 1 + M2 := by rw [IntKind.wrap_u64]; omega
  have hne : 8192 - A + 1 ≠ 0 := by omega
  have HAw := hid l_awake
  obtain ⟨x, hx⟩ : ∃ x, fi % 2 = x := ⟨_, rfl⟩
  obtain ⟨y, hy⟩ : ∃ x, se % 2 = x := ⟨_, rfl⟩
  obtain ⟨z, hz⟩ : ∃ x, wr % 3 = x := ⟨_, rfl⟩
  have x2 : x = 0 ∨ x = 1 := by omega
  have y2 : y = 0 ∨ y = 1 := by omega
  have z2 : z = 0 ∨ z = 1 ∨ z = 2 := by omega
  rw [hx] at HP1
  rw [hy] at HP2
  rw [hz] at HP3
  clear hA hM0 hM2 hx hy hz d0 d1 n0 n1 i0 i1 e0 e1 r0 r1
  go_enter Try.func9, Try.ntmps9
  go_upto_region 3 with (first
    | (go_at_call 10; refine hM.mono ?_; rintro e w1 ⟨p, r, U, rfl, h1, h2, h3⟩; have HT := hid h1; have HB := hid h2; have HU := hid h3; clear h1 h2 h3)
    | (go_at_call 11; refine (k_New _).mono ?_; rintro e w2 ⟨rfl, h1, h2⟩; have HL := hid (LQ.lay (.refl _ _) HT.out HB.out HU.out h1 h2); clear h1 h2))
  have ee : (w1.alloc (.cells #[.pointer (some ⟨p, 0, none⟩), .pointer (some ⟨r, 0, none⟩)] 28)).heap.size = w1.heap.size + 1 := by simp
  clear HT HB HU hM
  have hS := l_Setup HL.out 4 256 2048 2304 (by decide) (by decide) (by decide) (by decide) (by decide) (by decide) (by decide) (by decide)
  rw [show okS q0 4 256 2048 2304 = true from rfl, show q0.set 4 256 2048 2304 = vN 4 from rfl] at hS
  go_upto_region 5 with (go_at_call 21; (refine hS.mono ?_); rintro e w3 ⟨rfl, h1, h2⟩; have HL3 := hid h1; clear h1 h2 hS)
  clear HL
  generalize w1.heap.size = B at *
  -- the rest, from region 14 on, whatever was chosen
  have HREST : Hid True := trivial
  go_upto_region 8 with (first
    | (go_at_call 13; (with_reducible refine (HP1.out _).mono ?_); rintro e w' ⟨rfl, hw⟩; obtain rfl := hw.symm)
    | (go_at_call 13; (with_reducible refine (HP2.out _).mono ?_); rintro e w' ⟨rfl, hw⟩; obtain rfl := hw.symm)
    | (go_at_call 13; (with_reducible refine (HP3.out _).mono ?_); rintro e w' ⟨rfl, hw⟩; obtain rfl := hw.symm))
  have HGm : Hid (∀ F G M, (F = 1 ∨ F = 3) → (G = 0 ∨ G = 2 ∨ G = 4 ∨ G = 6) → 0 ≤ M → M < 20000 → ∀ w4, LQ W w4 B (B + 1) p r (vN 4) 0 2 (wrM F A M G) (wrM F A M G) → ∀ X, nxF (RmG p 0 2) (wrM F A M G) (vN 4) 4 = X → Calls Try.prog 14 #[.pointer (some ⟨B + 1, 0, none⟩), gR p] w4 fun e w' => ∃ vr vw, e = .returned (.tuple #[.agg (cc X.h vr vw), .bool X.good, .int .i64 X.e]) ∧ LQ W w' B (B + 1) p r X.v 0 2 (wrM F A M G) (wrM F A M G) ∧ Sg w' w4.heap.size vr X.R ∧ Sg w' w4.heap.size vw X.W) := fun F G M hF hG hM0 hM1 w4 h4 X hX => by
    have := l_Next h4 4 rfl
    rw [hX] at this
    exact this.mono fun e w' ⟨vr, vw, k1, k2, k3, k4, k5, k6, k7⟩ => ⟨vr, vw, k1, k2, k3, k4⟩
  have HFo : Hid (∀ F G M, (F = 1 ∨ F = 3) → (G = 0 ∨ G = 2 ∨ G = 4 ∨ G = 6) → fM G = false → 0 ≤ M → M < 20000 → ∀ my, mayD (RmG p 0 2) (wrM F A M G) A M G (fW2 F) = my → nxF (RmG p 0 2) (wrM F A M G) (vN 4) 4 = bif my then ⟨0, true, 0, bif fW2 G then (bif fW2 F then [] else [(4096, 8)]) else (bif fW2 F then [] else [(4096, 8)]) ++ [(A, M)], bif fW2 G then (bif fW2 F then [(4096, 8)] else []) ++ [(A, M)] else (bif fW2 F then [(4096, 8)] else []), (vN 4).take⟩ else ⟨32, false, 0, [], [], (vN 4).take.die⟩) := fun F G M hF hG hgm hm0 hm1 my hmy => by
    obtain ⟨k1, k2, k3, k4⟩ := wrM_ok F A M G hF A0 A1 hm0 hm1 hG
    have hf := two_fol p (wrM F A M G) F A M G hF hgm k3 k4
    rw [hmy] at hf
    cases my
    · exact one_next p _ 32 [] [] k1 k2 hf
    · exact one_next p _ 0 _ _ k1 k2 hf
  rcases x2 with rfl | rfl <;> rcases y2 with rfl | rfl <;> rcases z2 with rfl | rfl | rfl
  · have hX : nxF (RmG p 0 2) (wrM 1 A M0 0) (vN 4) 4 = ⟨0, true, 0, [(4096, 8), (A, M0)], [], (vN 4).take⟩ := (HFo.out 1 0 M0 (by decide) (by decide) fM_b.2.2.1 (by omega) (by omega) true (by rw [mayV, has_in (by omega) m0 (by omega)]; simp [fM_b])).trans (by first | rfl | simp [fM_b])
    have c0 := HL3.out.c0
    have c1 := HL3.out.c1
    have hPu := l_Put HL3.out 0 0 4096 8 1 1 256 (by decide) (by decide) (by decide) (by decide) (by decide) (by decide) (by decide) (by decide) rfl
    go_upto_region 15 with (go_at_call 20; (refine hPu.mono ?_); rintro e w4 ⟨rfl, h1, h2⟩; have H4 := hid h1; clear h1 h2 hPu c0 c1)
    have c0 := H4.out.c0
    have c1 := H4.out.c1
    have hPu := l_Put H4.out 0 1 A M0 0 0 272 (by decide) (by decide) (by decide) (by decide) A0 (by omega) (by omega) (by omega) rfl
    go_upto_region 16 with (go_at_call 20; (refine hPu.mono ?_); rintro e w5 ⟨rfl, h1, h2⟩; have H5 := hid h1; clear h1 h2 hPu c0 c1)
    have c0 := H5.out.c0
    have c1 := H5.out.c1
    have hW := l_Write H5.out 2050 2 1 (by decide) (by decide) (by decide) (by decide) (by decide) (by decide)
    go_upto_region 17 with (go_at_call 19; (refine hW.mono ?_); rintro e w6 ⟨rfl, h1, h2⟩; have H6 : Hid (LQ W w6 B (B + 1) p r (vN 4) 0 2 (wrM 1 A M0 0) (wrM 1 A M0 0)) := h1; clear h1 h2 hW c0 c1)
    have hN := HGm.out 1 0 M0 (by decide) (by decide) (by omega) (by omega) w6 H6.out _ hX
    have c0 := H6.out.c0
    have HN6x : Hid (∀ w6 : World, (w6.alloc (.cells #[.int .i64 0, .slice none 0 0, .slice none 0 0] 42)).heap[w6.heap.size]? = some (.cells (cc 0 (.slice none 0 0) (.slice none 0 0)) 42 (0, 0))) := fun w6 => heap_alloc_new w6 _
    go_upto_region 18 with (first
      | (go_at_call 14; (refine hN.mono ?_); rintro e w7 ⟨vr, vw, rfl, h1, h2, h3⟩; have HL7 := hid h1; have S1 := hid h2; have S2 := hid h3; clear h1 h2 h3 hN c0)
      | ((with_reducible refine wpL_stC w7.heap.size 0 vr vw S1.out.s S2.out.s ?_ ?_ (HN6x.out w7) ?_); rfl; rfl))
    obtain ⟨w8, hw8⟩ : ∃ w8, w8 = (w7.alloc (.cells #[.int .i64 0, .slice none 0 0, .slice none 0 0] 42)).setRow w7.heap.size (cc 0 vr vw) := ⟨_, rfl⟩
    have HB8 : Hid (Below w7.heap.size w7 w8) := hw8 ▸ below_row ((Below.refl _ _).alloc (Nat.le_refl _) _) (Nat.le_refl _) _
    have HCJ : Hid (w8.heap[w7.heap.size]? = some (.cells (cc 0 vr vw) 42 (0, 0))) := hw8 ▸ setRow_heap _ w7.heap.size _ _ _ _ (HN6x.out w7)
    have HL8 := hid (HL7.out.below HB8.out)
    have SJ1 := hid (S1.out.below HB8.out)
    have SJ2 := hid (S2.out.below HB8.out)
    rw [← hw8]
    clear hw8 HB8 HL7 S1 S2 HN6x H4 H5 H6 hX HGm HFo HREST HP1 HP2 HP3
    obtain ⟨adr, cr, hvr⟩ := SJ1.out.sli
    obtain ⟨adw, cw, hvw⟩ := SJ2.out.sli
    have z1 : w8.cell? ⟨w7.heap.size, 1, none⟩ = some vr := cell_of_row w8 _ 1 _ _ _ HCJ.out
    have z2' : w8.cell? ⟨w7.heap.size, 2, none⟩ = some vw := cell_of_row w8 _ 2 _ _ _ HCJ.out
    rw [hvr] at z1
    rw [hvw] at z2'
    have HVR := hid hvr
    have HVW := hid hvw
    clear hvr hvw
    go_upto_region 23 with fail
    have HLR : Hid (([(4096, 8), (A, M0)] : List (Int × Int)).length ≤ 1000) := by show _ ≤ _; simp
    have HLW : Hid (([] : List (Int × Int)).length ≤ 1000) := by show _ ≤ _; simp
    clear z1 z2'
    obtain ⟨w0, hw0⟩ : ∃ w0, w0 = w8.drew := ⟨_, rfl⟩
    have HB0 : Hid (Below w8.heap.size w8 w0) := hw0 ▸ (Below.refl _ _).drew
    refine wp_region_any (by kernel_rfl) ?_
    rw [show ({ w8 with drawn := w8.drawn + 1 } : World) = w0 from hw0.symm]
    clear hw0
    have HS1 := hid (SJ1.out.below HB0.out)
    have HS2 := hid (SJ2.out.below HB0.out)
    have HCL : Hid (∀ wz, Below w0.heap.size w0 wz → wz.cell? ⟨w7.heap.size, 1, none⟩ = some (vr) ∧ wz.cell? ⟨w7.heap.size, 2, none⟩ = some (vw)) := fun wz hb => by
      have h0 := (HB0.out.block _ (lt_of_block HCJ.out)).trans HCJ.out
      have hk := (hb.block _ (lt_of_block h0)).trans h0
      exact ⟨cell_of_row wz _ 1 _ _ _ hk, cell_of_row wz _ 2 _ _ _ hk⟩
    refine wpAny_fz (α := Value × Value) (fun x => fun dd => if dd = 138 then .pointer (some ⟨w7.heap.size, 1, none⟩) else if dd = 139 then vr else if dd = 140 then x.1 else if dd = 141 then .pointer (some ⟨w7.heap.size, 2, none⟩) else if dd = 142 then vw else if dd = 143 then x.2 else if dd = 23 then x.2 else undef) (VS [2, 5] (MJ w0 [(4096, 8), (A, M0)] [])) ?step ?fin (.bool true, .bool true) ?start
    case start => exact .start rfl
    case step =>
      rintro listed fr wr x hF hW hC i hj
      obtain ⟨hl, o, ho, he⟩ := mem_ready.1 hj
      have hjl : i < listed.size := by rw [hF.q.ls]; exact (Array.getElem?_eq_some_iff.1 ho).1
      have hl0 := getD_tf hjl hl
      clear hj
      have HF := hid hF
      have HW := hid hW
      have HE := hid he
      have HC := hid hC
      clear hF hW he hl hC
      match i, ho with
      | 0, ho =>
        obtain rfl := Option.some.inj ho
        have e19 : fr.tmps[19]?.getD undef = .pointer (some ⟨w7.heap.size, 0, none⟩) := HF.out.base 19 (by kernel_rfl) rfl
        exact wp_q rfl rfl (by simp [execOp, go_sem, e19]; try rfl) ⟨x, HF.out.put (by kernel_rfl) rfl rfl rfl (of_decide_eq_true rfl), HW.out.q hjl (by decide)⟩
      | 1, ho =>
        obtain rfl := Option.some.inj ho
        have e138 : fr.tmps[138]?.getD undef = .pointer (some ⟨w7.heap.size, 1, none⟩) := HF.out.ev (i := 0) rfl rfl (HE.out ⟨0, .data⟩ (by simp) rfl)
        have hc := HCL.out _ (by obtain ⟨sS, -, hm⟩ := HW.out; exact hm.bel)
        exact wp_q rfl rfl (by simp [execOp, go_sem, e138, hc.1]; try rfl) ⟨x, HF.out.put (by kernel_rfl) rfl rfl rfl (of_decide_eq_true rfl), HW.out.q hjl (by decide)⟩
      | 2, ho =>
        obtain rfl := Option.some.inj ho
        have e139 : fr.tmps[139]?.getD undef = vr := HF.out.ev (i := 1) rfl rfl (HE.out ⟨1, .data⟩ (by simp) rfl)
        have m0 : wr = w0 := HW.out.at 0 rfl hl0 (fun j hj => by omega)
        subst m0
        refine wpOp_step rfl fun K' hK => ?_
        rw [if_pos (by simp [Region.wanted])]
        refine wp_app _ _ rfl (V := .slice none 0 0) (by simp [Act.eval]) (Sg.nil wr wr.heap.size) (by first | (simp [Act.eval, e139]; done) | (simp [Act.eval, e139]; rfl)) HS1.out (by decide) HLR.out (Nat.le_refl _) ?_
        intro v' w8 h1 h2
        have HFy : Hid (FrK _ ((fun x : Value × Value => fun dd => if dd = 138 then .pointer (some ⟨w7.heap.size, 1, none⟩) else if dd = 139 then vr else if dd = 140 then x.1 else if dd = 141 then .pointer (some ⟨w7.heap.size, 2, none⟩) else if dd = 142 then vw else if dd = 143 then x.2 else if dd = 23 then x.2 else undef) (v', x.2)) _ listed fr) := HF.out.swap (fun j o d g1 g2 g3 => by
          by_cases e : d = 140
          · subst e
            have := ndB_spec (j := j) (k := 2) (d := 140) (by kernel_rfl) g1 rfl g2 rfl
            subst this
            rw [hl0] at g3; cases g3
          · simp [e])
        exact hK _ _ ⟨(v', x.2), HFy.out.put (by kernel_rfl) rfl rfl rfl (of_decide_eq_true rfl), HW.out.go 0 hjl rfl hl0 (fun j hj => by omega) (by intro a ha; match a, ha with | 0, _ => rfl | 1, ha => simp at ha) ⟨by simpa using h1, h2.below _ (Nat.le_refl _) fun k e => by cases e⟩⟩
      | 3, ho =>
        obtain rfl := Option.some.inj ho
        have e19 : fr.tmps[19]?.getD undef = .pointer (some ⟨w7.heap.size, 0, none⟩) := HF.out.base 19 (by kernel_rfl) rfl
        exact wp_q rfl rfl (by simp [execOp, go_sem, e19]; try rfl) ⟨x, HF.out.put (by kernel_rfl) rfl rfl rfl (of_decide_eq_true rfl), HW.out.q hjl (by decide)⟩
      | 4, ho =>
        obtain rfl := Option.some.inj ho
        have e141 : fr.tmps[141]?.getD undef = .pointer (some ⟨w7.heap.size, 2, none⟩) := HF.out.ev (i := 3) rfl rfl (HE.out ⟨3, .data⟩ (by simp) rfl)
        have hc := HCL.out _ (by obtain ⟨sS, -, hm⟩ := HW.out; exact hm.bel)
        exact wp_q rfl rfl (by simp [execOp, go_sem, e141, hc.2]; try rfl) ⟨x, HF.out.put (by kernel_rfl) rfl rfl rfl (of_decide_eq_true rfl), HW.out.q hjl (by decide)⟩
      | 5, ho =>
        obtain rfl := Option.some.inj ho
        have e140 : fr.tmps[140]?.getD undef = x.1 := HF.out.ev (i := 2) rfl rfl (HE.out ⟨2, .data⟩ (by simp) rfl)
        have e142 : fr.tmps[142]?.getD undef = vw := HF.out.ev (i := 4) rfl rfl (HE.out ⟨4, .data⟩ (by simp) rfl)
        have hp := HE.out ⟨2, .data⟩ (by simp) rfl
        obtain ⟨m1, m2⟩ := HW.out.at 1 rfl hl0 (fun j hj => by obtain rfl : j = 0 := (by omega); exact ⟨2, rfl, hp⟩)
        refine wpOp_step rfl fun K' hK => ?_
        rw [if_pos (by simp [Region.wanted])]
        refine wp_app _ _ rfl (V := x.1) (by simp [Act.eval, e140]) m1 (by first | (simp [Act.eval, e142]; done) | (simp [Act.eval, e142]; rfl)) (HS2.out.below m2) HLR.out HLW.out m2.size ?_
        intro v' w8 h1 h2
        have HFy : Hid (FrK _ ((fun x : Value × Value => fun dd => if dd = 138 then .pointer (some ⟨w7.heap.size, 1, none⟩) else if dd = 139 then vr else if dd = 140 then x.1 else if dd = 141 then .pointer (some ⟨w7.heap.size, 2, none⟩) else if dd = 142 then vw else if dd = 143 then x.2 else if dd = 23 then x.2 else undef) (x.1, v')) _ listed fr) := HF.out.swap (fun j o d g1 g2 g3 => by
          by_cases e : d = 143
          · subst e
            have := ndB_spec (j := j) (k := 5) (d := 143) (by kernel_rfl) g1 rfl g2 rfl
            subst this
            rw [hl0] at g3; cases g3
          · by_cases e2 : d = 23
            · subst e2
              have := ndB_spec (j := j) (k := 6) (d := 23) (by kernel_rfl) g1 rfl g2 rfl
              subst this
              have := HC.out 6 _ rfl g3 ⟨5, .data⟩ (by simp) rfl; rw [hl0] at this; cases this
            · simp [e, e2])
        exact hK _ _ ⟨(x.1, v'), HFy.out.put (by kernel_rfl) rfl rfl rfl (of_decide_eq_true rfl), HW.out.go 1 hjl rfl hl0 (fun j hj => by obtain rfl : j = 0 := (by omega); exact ⟨2, rfl, hp⟩) (by intro a ha; match a, ha with | 0, ha => simp at ha | 1, _ => rfl) ⟨h1, m2.trans ((h2.below w0.heap.size m2.size fun k e => m1.ge k e))⟩⟩
      | 6, ho =>
        obtain rfl := Option.some.inj ho
        have e143 : fr.tmps[143]?.getD undef = x.2 := HF.out.ev (i := 5) rfl rfl (HE.out ⟨5, .data⟩ (by simp) rfl)
        exact wp_q rfl rfl (by simp [execOp, go_sem, e143]; try rfl) ⟨x, HF.out.put (by kernel_rfl) rfl rfl rfl (of_decide_eq_true rfl), HW.out.q hjl (by decide)⟩
    case fin =>
      rintro listed fr w2 x hF hW hr
      have all := allDone hr hF.q.ls (by kernel_rfl)
      obtain ⟨sS, hs1, hm⟩ := hW
      have hs : 2 ≤ sS := by
        have := hs1 1 5 rfl
        rw [all 5 (by decide)] at this
        have : 1 < sS := by simpa using this.symm
        omega
      obtain ⟨s2, rfl⟩ : ∃ s2, sS = s2 + 2 := ⟨sS - 2, by omega⟩
      obtain ⟨m1, m2⟩ := hm
      rw [hF.full all]
      have SJ := hid m1
      have HBJ := hid (HB0.out.trans (m2.mono HB0.out.size))
      clear hF hr all m1 m2 hs1 hs HCL HS1 HS2
      generalize x.2 = vl at *
      simp only [List.foldl_cons, List.foldl_nil, fillF]
      go_simp
      obtain ⟨gl, cl, rfl, q1, q2, q3, q4⟩ := SJ.out.at (by simp)
      obtain ⟨x0, x1⟩ := q4 0 (4096, 8) rfl
      obtain ⟨y0, y1⟩ := q4 1 (A, M0) rfl
      have cW : w2.cell? ⟨w7.heap.size, 2, none⟩ = some vw := by
        have hk := (HBJ.out.block _ (lt_of_block HCJ.out)).trans HCJ.out
        exact cell_of_row w2 _ 2 _ _ _ hk
      rw [HVW.out] at cW
      have hE1 := run_eqS 4096 8
      have hE2 := run_eqS A M0
      have wM : IntKind.i64.wrap M0 = M0 := by rw [IntKind.wrap_i64]; omega
      have HNw := hid ((HL8.out.below HBJ.out).new)
      have q5 : 2 ≤ cl := q1
      clear q4
      go_wp2_with (go_at_call 30; (refine (HAw.out _).mono ?_); rintro e w13 ⟨rfl, h1⟩; have B5 := hid h1; clear h1)
      go_ret
      exact ⟨rfl, HNw.out.trans (B5.out.mono HNw.out.size)⟩
  · have hX : nxF (RmG p 0 2) (wrM 1 A M0 4) (vN 4) 4 = ⟨32, false, 0, [], [], (vN 4).take.die⟩ := (HFo.out 1 4 M0 (by decide) (by decide) (by kernel_rfl) (by omega) (by omega) false (by rw [mayV, fM_b.2.2.2.2.2.2.2.2.2.2.1]; rfl)).trans (by first | rfl | simp [fM_b])
    have c0 := HL3.out.c0
    have c1 := HL3.out.c1
    have hPu := l_Put HL3.out 0 0 4096 8 1 1 256 (by decide) (by decide) (by decide) (by decide) (by decide) (by decide) (by decide) (by decide) rfl
    go_upto_region 15 with (go_at_call 20; (refine hPu.mono ?_); rintro e w4 ⟨rfl, h1, h2⟩; have H4 := hid h1; clear h1 h2 hPu c0 c1)
    have c0 := H4.out.c0
    have c1 := H4.out.c1
    have hPu := l_Put H4.out 0 1 A M0 4 0 272 (by decide) (by decide) (by decide) (by decide) A0 (by omega) (by omega) (by omega) rfl
    go_upto_region 16 with (go_at_call 20; (refine hPu.mono ?_); rintro e w5 ⟨rfl, h1, h2⟩; have H5 := hid h1; clear h1 h2 hPu c0 c1)
    have c0 := H5.out.c0
    have c1 := H5.out.c1
    have hW := l_Write H5.out 2050 2 1 (by decide) (by decide) (by decide) (by decide) (by decide) (by decide)
    go_upto_region 17 with (go_at_call 19; (refine hW.mono ?_); rintro e w6 ⟨rfl, h1, h2⟩; have H6 : Hid (LQ W w6 B (B + 1) p r (vN 4) 0 2 (wrM 1 A M0 4) (wrM 1 A M0 4)) := h1; clear h1 h2 hW c0 c1)
    have hN := HGm.out 1 4 M0 (by decide) (by decide) (by omega) (by omega) w6 H6.out _ hX
    have c0 := H6.out.c0
    have HN6x : Hid (∀ w6 : World, (w6.alloc (.cells #[.int .i64 0, .slice none 0 0, .slice none 0 0] 42)).heap[w6.heap.size]? = some (.cells (cc 0 (.slice none 0 0) (.slice none 0 0)) 42 (0, 0))) := fun w6 => heap_alloc_new w6 _
    go_upto_region 18 with (first
      | (go_at_call 14; (refine hN.mono ?_); rintro e w7 ⟨vr, vw, rfl, h1, h2, h3⟩; have HL7 := hid h1; have S1 := hid h2; have S2 := hid h3; clear h1 h2 h3 hN c0)
      | ((with_reducible refine wpL_stC w7.heap.size 0 vr vw S1.out.s S2.out.s ?_ ?_ (HN6x.out w7) ?_); rfl; rfl))
    obtain ⟨w8, hw8⟩ : ∃ w8, w8 = (w7.alloc (.cells #[.int .i64 0, .slice none 0 0, .slice none 0 0] 42)).setRow w7.heap.size (cc 0 vr vw) := ⟨_, rfl⟩
    have HB8 : Hid (Below w7.heap.size w7 w8) := hw8 ▸ below_row ((Below.refl _ _).alloc (Nat.le_refl _) _) (Nat.le_refl _) _
    have HCJ : Hid (w8.heap[w7.heap.size]? = some (.cells (cc 0 vr vw) 42 (0, 0))) := hw8 ▸ setRow_heap _ w7.heap.size _ _ _ _ (HN6x.out w7)
    have HL8 := hid (HL7.out.below HB8.out)
    have SJ1 := hid (S1.out.below HB8.out)
    have SJ2 := hid (S2.out.below HB8.out)
    rw [← hw8]
    clear hw8 HB8 HL7 S1 S2 HN6x H4 H5 H6 hX HGm HFo HREST HP1 HP2 HP3
    obtain ⟨adr, cr, hvr⟩ := SJ1.out.sli
    obtain ⟨adw, cw, hvw⟩ := SJ2.out.sli
    have z1 : w8.cell? ⟨w7.heap.size, 1, none⟩ = some vr := cell_of_row w8 _ 1 _ _ _ HCJ.out
    have z2' : w8.cell? ⟨w7.heap.size, 2, none⟩ = some vw := cell_of_row w8 _ 2 _ _ _ HCJ.out
    rw [hvr] at z1
    rw [hvw] at z2'
    have hde := l_Dead HL8.out
    have HNw := hid HL8.out.new
    clear hvr hvw
    go_wp2_with (first
      | (go_at_call 26; (refine hde.mono ?_); rintro e w' ⟨rfl, hw⟩; obtain rfl := hw.symm)
      | (go_at_call 30; (refine (HAw.out _).mono ?_); rintro e w13 ⟨rfl, h1⟩; have B5 := hid h1; clear h1))
    go_ret
    exact ⟨rfl, HNw.out.trans (B5.out.mono HNw.out.size)⟩
  · have hX : nxF (RmG p 0 2) (wrM 1 A (8192 - A + 1 + M2) 0) (vN 4) 4 = ⟨32, false, 0, [], [], (vN 4).take.die⟩ := (HFo.out 1 0 (8192 - A + 1 + M2) (by decide) (by decide) fM_b.2.2.1 (by omega) (by omega) false (by rw [mayV, show (8192 - A + 1 + M2 == 0) = false by simp; omega, has_no (by omega)]; simp)).trans (by first | rfl | simp [fM_b])
    have c0 := HL3.out.c0
    have c1 := HL3.out.c1
    have hPu := l_Put HL3.out 0 0 4096 8 1 1 256 (by decide) (by decide) (by decide) (by decide) (by decide) (by decide) (by decide) (by decide) rfl
    go_upto_region 15 with (go_at_call 20; (refine hPu.mono ?_); rintro e w4 ⟨rfl, h1, h2⟩; have H4 := hid h1; clear h1 h2 hPu c0 c1)
    have c0 := H4.out.c0
    have c1 := H4.out.c1
    have hPu := l_Put H4.out 0 1 A (8192 - A + 1 + M2) 0 0 272 (by decide) (by decide) (by decide) (by decide) A0 (by omega) (by omega) (by omega) rfl
    go_upto_region 16 with (go_at_call 20; (refine hPu.mono ?_); rintro e w5 ⟨rfl, h1, h2⟩; have H5 := hid h1; clear h1 h2 hPu c0 c1)
    have c0 := H5.out.c0
    have c1 := H5.out.c1
    have hW := l_Write H5.out 2050 2 1 (by decide) (by decide) (by decide) (by decide) (by decide) (by decide)
    go_upto_region 17 with (go_at_call 19; (refine hW.mono ?_); rintro e w6 ⟨rfl, h1, h2⟩; have H6 : Hid (LQ W w6 B (B + 1) p r (vN 4) 0 2 (wrM 1 A (8192 - A + 1 + M2) 0) (wrM 1 A (8192 - A + 1 + M2) 0)) := h1; clear h1 h2 hW c0 c1)
    have hN := HGm.out 1 0 (8192 - A + 1 + M2) (by decide) (by decide) (by omega) (by omega) w6 H6.out _ hX
    have c0 := H6.out.c0
    have HN6x : Hid (∀ w6 : World, (w6.alloc (.cells #[.int .i64 0, .slice none 0 0, .slice none 0 0] 42)).heap[w6.heap.size]? = some (.cells (cc 0 (.slice none 0 0) (.slice none 0 0)) 42 (0, 0))) := fun w6 => heap_alloc_new w6 _
    go_upto_region 18 with (first
      | (go_at_call 14; (refine hN.mono ?_); rintro e w7 ⟨vr, vw, rfl, h1, h2, h3⟩; have HL7 := hid h1; have S1 := hid h2; have S2 := hid h3; clear h1 h2 h3 hN c0)
      | ((with_reducible refine wpL_stC w7.heap.size 0 vr vw S1.out.s S2.out.s ?_ ?_ (HN6x.out w7) ?_); rfl; rfl))
    obtain ⟨w8, hw8⟩ : ∃ w8, w8 = (w7.alloc (.cells #[.int .i64 0, .slice none 0 0, .slice none 0 0] 42)).setRow w7.heap.size (cc 0 vr vw) := ⟨_, rfl⟩
    have HB8 : Hid (Below w7.heap.size w7 w8) := hw8 ▸ below_row ((Below.refl _ _).alloc (Nat.le_refl _) _) (Nat.le_refl _) _
    have HCJ : Hid (w8.heap[w7.heap.size]? = some (.cells (cc 0 vr vw) 42 (0, 0))) := hw8 ▸ setRow_heap _ w7.heap.size _ _ _ _ (HN6x.out w7)
    have HL8 := hid (HL7.out.below HB8.out)
    have SJ1 := hid (S1.out.below HB8.out)
    have SJ2 := hid (S2.out.below HB8.out)
    rw [← hw8]
    clear hw8 HB8 HL7 S1 S2 HN6x H4 H5 H6 hX HGm HFo HREST HP1 HP2 HP3
    obtain ⟨adr, cr, hvr⟩ := SJ1.out.sli
    obtain ⟨adw, cw, hvw⟩ := SJ2.out.sli
    have z1 : w8.cell? ⟨w7.heap.size, 1, none⟩ = some vr := cell_of_row w8 _ 1 _ _ _ HCJ.out
    have z2' : w8.cell? ⟨w7.heap.size, 2, none⟩ = some vw := cell_of_row w8 _ 2 _ _ _ HCJ.out
    rw [hvr] at z1
    rw [hvw] at z2'
    have hde := l_Dead HL8.out
    have HNw := hid HL8.out.new
    clear hvr hvw
    go_wp2_with (first
      | (go_at_call 26; (refine hde.mono ?_); rintro e w' ⟨rfl, hw⟩; obtain rfl := hw.symm)
      | (go_at_call 30; (refine (HAw.out _).mono ?_); rintro e w13 ⟨rfl, h1⟩; have B5 := hid h1; clear h1))
    go_ret
    exact ⟨rfl, HNw.out.trans (B5.out.mono HNw.out.size)⟩
  · have hX : nxF (RmG p 0 2) (wrM 1 A M0 2) (vN 4) 4 = ⟨0, true, 0, [(4096, 8)], [(A, M0)], (vN 4).take⟩ := (HFo.out 1 2 M0 (by decide) (by decide) fM_b.2.2.2.1 (by omega) (by omega) true (by rw [mayV, has_in (by omega) m0 (by omega)]; simp [fM_b])).trans (by first | rfl | simp [fM_b])
    have c0 := HL3.out.c0
    have c1 := HL3.out.c1
    have hPu := l_Put HL3.out 0 0 4096 8 1 1 256 (by decide) (by decide) (by decide) (by decide) (by decide) (by decide) (by decide) (by decide) rfl
    go_upto_region 15 with (go_at_call 20; (refine hPu.mono ?_); rintro e w4 ⟨rfl, h1, h2⟩; have H4 := hid h1; clear h1 h2 hPu c0 c1)
    have c0 := H4.out.c0
    have c1 := H4.out.c1
    have hPu := l_Put H4.out 0 1 A M0 2 0 272 (by decide) (by decide) (by decide) (by decide) A0 (by omega) (by omega) (by omega) rfl
    go_upto_region 16 with (go_at_call 20; (refine hPu.mono ?_); rintro e w5 ⟨rfl, h1, h2⟩; have H5 := hid h1; clear h1 h2 hPu c0 c1)
    have c0 := H5.out.c0
    have c1 := H5.out.c1
    have hW := l_Write H5.out 2050 2 1 (by decide) (by decide) (by decide) (by decide) (by decide) (by decide)
    go_upto_region 17 with (go_at_call 19; (refine hW.mono ?_); rintro e w6 ⟨rfl, h1, h2⟩; have H6 : Hid (LQ W w6 B (B + 1) p r (vN 4) 0 2 (wrM 1 A M0 2) (wrM 1 A M0 2)) := h1; clear h1 h2 hW c0 c1)
    have hN := HGm.out 1 2 M0 (by decide) (by decide) (by omega) (by omega) w6 H6.out _ hX
    have c0 := H6.out.c0
    have HN6x : Hid (∀ w6 : World, (w6.alloc (.cells #[.int .i64 0, .slice none 0 0, .slice none 0 0] 42)).heap[w6.heap.size]? = some (.cells (cc 0 (.slice none 0 0) (.slice none 0 0)) 42 (0, 0))) := fun w6 => heap_alloc_new w6 _
    go_upto_region 18 with (first
      | (go_at_call 14; (refine hN.mono ?_); rintro e w7 ⟨vr, vw, rfl, h1, h2, h3⟩; have HL7 := hid h1; have S1 := hid h2; have S2 := hid h3; clear h1 h2 h3 hN c0)
      | ((with_reducible refine wpL_stC w7.heap.size 0 vr vw S1.out.s S2.out.s ?_ ?_ (HN6x.out w7) ?_); rfl; rfl))
    obtain ⟨w8, hw8⟩ : ∃ w8, w8 = (w7.alloc (.cells #[.int .i64 0, .slice none 0 0, .slice none 0 0] 42)).setRow w7.heap.size (cc 0 vr vw) := ⟨_, rfl⟩
    have HB8 : Hid (Below w7.heap.size w7 w8) := hw8 ▸ below_row ((Below.refl _ _).alloc (Nat.le_refl _) _) (Nat.le_refl _) _
    have HCJ : Hid (w8.heap[w7.heap.size]? = some (.cells (cc 0 vr vw) 42 (0, 0))) := hw8 ▸ setRow_heap _ w7.heap.size _ _ _ _ (HN6x.out w7)
    have HL8 := hid (HL7.out.below HB8.out)
    have SJ1 := hid (S1.out.below HB8.out)
    have SJ2 := hid (S2.out.below HB8.out)
    rw [← hw8]
    clear hw8 HB8 HL7 S1 S2 HN6x H4 H5 H6 hX HGm HFo HREST HP1 HP2 HP3
    obtain ⟨adr, cr, hvr⟩ := SJ1.out.sli
    obtain ⟨adw, cw, hvw⟩ := SJ2.out.sli
    have z1 : w8.cell? ⟨w7.heap.size, 1, none⟩ = some vr := cell_of_row w8 _ 1 _ _ _ HCJ.out
    have z2' : w8.cell? ⟨w7.heap.size, 2, none⟩ = some vw := cell_of_row w8 _ 2 _ _ _ HCJ.out
    rw [hvr] at z1
    rw [hvw] at z2'
    have HVR := hid hvr
    have HVW := hid hvw
    clear hvr hvw
    go_upto_region 23 with fail
    have HLR : Hid (([(4096, 8)] : List (Int × Int)).length ≤ 1000) := by show _ ≤ _; simp
    have HLW : Hid (([(A, M0)] : List (Int × Int)).length ≤ 1000) := by show _ ≤ _; simp
    clear z1 z2'
    obtain ⟨w0, hw0⟩ : ∃ w0, w0 = w8.drew := ⟨_, rfl⟩
    have HB0 : Hid (Below w8.heap.size w8 w0) := hw0 ▸ (Below.refl _ _).drew
    refine wp_region_any (by kernel_rfl) ?_
    rw [show ({ w8 with drawn := w8.drawn + 1 } : World) = w0 from hw0.symm]
    clear hw0
    have HS1 := hid (SJ1.out.below HB0.out)
    have HS2 := hid (SJ2.out.below HB0.out)
    have HCL : Hid (∀ wz, Below w0.heap.size w0 wz → wz.cell? ⟨w7.heap.size, 1, none⟩ = some (vr) ∧ wz.cell? ⟨w7.heap.size, 2, none⟩ = some (vw)) := fun wz hb => by
      have h0 := (HB0.out.block _ (lt_of_block HCJ.out)).trans HCJ.out
      have hk := (hb.block _ (lt_of_block h0)).trans h0
      exact ⟨cell_of_row wz _ 1 _ _ _ hk, cell_of_row wz _ 2 _ _ _ hk⟩
    refine wpAny_fz (α := Value × Value) (fun x => fun dd => if dd = 138 then .pointer (some ⟨w7.heap.size, 1, none⟩) else if dd = 139 then vr else if dd = 140 then x.1 else if dd = 141 then .pointer (some ⟨w7.heap.size, 2, none⟩) else if dd = 142 then vw else if dd = 143 then x.2 else if dd = 23 then x.2 else undef) (VS [2, 5] (MJ w0 [(4096, 8)] [(A, M0)])) ?step ?fin (.bool true, .bool true) ?start
    case start => exact .start rfl
    case step =>
      rintro listed fr wr x hF hW hC i hj
      obtain ⟨hl, o, ho, he⟩ := mem_ready.1 hj
      have hjl : i < listed.size := by rw [hF.q.ls]; exact (Array.getElem?_eq_some_iff.1 ho).1
      have hl0 := getD_tf hjl hl
      clear hj
      have HF := hid hF
      have HW := hid hW
      have HE := hid he
      have HC := hid hC
      clear hF hW he hl hC
      match i, ho with
      | 0, ho =>
        obtain rfl := Option.some.inj ho
        have e19 : fr.tmps[19]?.getD undef = .pointer (some ⟨w7.heap.size, 0, none⟩) := HF.out.base 19 (by kernel_rfl) rfl
        exact wp_q rfl rfl (by simp [execOp, go_sem, e19]; try rfl) ⟨x, HF.out.put (by kernel_rfl) rfl rfl rfl (of_decide_eq_true rfl), HW.out.q hjl (by decide)⟩
      | 1, ho =>
        obtain rfl := Option.some.inj ho
        have e138 : fr.tmps[138]?.getD undef = .pointer (some ⟨w7.heap.size, 1, none⟩) := HF.out.ev (i := 0) rfl rfl (HE.out ⟨0, .data⟩ (by simp) rfl)
        have hc := HCL.out _ (by obtain ⟨sS, -, hm⟩ := HW.out; exact hm.bel)
        exact wp_q rfl rfl (by simp [execOp, go_sem, e138, hc.1]; try rfl) ⟨x, HF.out.put (by kernel_rfl) rfl rfl rfl (of_decide_eq_true rfl), HW.out.q hjl (by decide)⟩
      | 2, ho =>
        obtain rfl := Option.some.inj ho
        have e139 : fr.tmps[139]?.getD undef = vr := HF.out.ev (i := 1) rfl rfl (HE.out ⟨1, .data⟩ (by simp) rfl)
        have m0 : wr = w0 := HW.out.at 0 rfl hl0 (fun j hj => by omega)
        subst m0
        refine wpOp_step rfl fun K' hK => ?_
        rw [if_pos (by simp [Region.wanted])]
        refine wp_app _ _ rfl (V := .slice none 0 0) (by simp [Act.eval]) (Sg.nil wr wr.heap.size) (by first | (simp [Act.eval, e139]; done) | (simp [Act.eval, e139]; rfl)) HS1.out (by decide) HLR.out (Nat.le_refl _) ?_
        intro v' w8 h1 h2
        have HFy : Hid (FrK _ ((fun x : Value × Value => fun dd => if dd = 138 then .pointer (some ⟨w7.heap.size, 1, none⟩) else if dd = 139 then vr else if dd = 140 then x.1 else if dd = 141 then .pointer (some ⟨w7.heap.size, 2, none⟩) else if dd = 142 then vw else if dd = 143 then x.2 else if dd = 23 then x.2 else undef) (v', x.2)) _ listed fr) := HF.out.swap (fun j o d g1 g2 g3 => by
          by_cases e : d = 140
          · subst e
            have := ndB_spec (j := j) (k := 2) (d := 140) (by kernel_rfl) g1 rfl g2 rfl
            subst this
            rw [hl0] at g3; cases g3
          · simp [e])
        exact hK _ _ ⟨(v', x.2), HFy.out.put (by kernel_rfl) rfl rfl rfl (of_decide_eq_true rfl), HW.out.go 0 hjl rfl hl0 (fun j hj => by omega) (by intro a ha; match a, ha with | 0, _ => rfl | 1, ha => simp at ha) ⟨by simpa using h1, h2.below _ (Nat.le_refl _) fun k e => by cases e⟩⟩
      | 3, ho =>
        obtain rfl := Option.some.inj ho
        have e19 : fr.tmps[19]?.getD undef = .pointer (some ⟨w7.heap.size, 0, none⟩) := HF.out.base 19 (by kernel_rfl) rfl
        exact wp_q rfl rfl (by simp [execOp, go_sem, e19]; try rfl) ⟨x, HF.out.put (by kernel_rfl) rfl rfl rfl (of_decide_eq_true rfl), HW.out.q hjl (by decide)⟩
      | 4, ho =>
        obtain rfl := Option.some.inj ho
        have e141 : fr.tmps[141]?.getD undef = .pointer (some ⟨w7.heap.size, 2, none⟩) := HF.out.ev (i := 3) rfl rfl (HE.out ⟨3, .data⟩ (by simp) rfl)
        have hc := HCL.out _ (by obtain ⟨sS, -, hm⟩ := HW.out; exact hm.bel)
        exact wp_q rfl rfl (by simp [execOp, go_sem, e141, hc.2]; try rfl) ⟨x, HF.out.put (by kernel_rfl) rfl rfl rfl (of_decide_eq_true rfl), HW.out.q hjl (by decide)⟩
      | 5, ho =>
        obtain rfl := Option.some.inj ho
        have e140 : fr.tmps[140]?.getD undef = x.1 := HF.out.ev (i := 2) rfl rfl (HE.out ⟨2, .data⟩ (by simp) rfl)
        have e142 : fr.tmps[142]?.getD undef = vw := HF.out.ev (i := 4) rfl rfl (HE.out ⟨4, .data⟩ (by simp) rfl)
        have hp := HE.out ⟨2, .data⟩ (by simp) rfl
        obtain ⟨m1, m2⟩ := HW.out.at 1 rfl hl0 (fun j hj => by obtain rfl : j = 0 := (by omega); exact ⟨2, rfl, hp⟩)
        refine wpOp_step rfl fun K' hK => ?_
        rw [if_pos (by simp [Region.wanted])]
        refine wp_app _ _ rfl (V := x.1) (by simp [Act.eval, e140]) m1 (by first | (simp [Act.eval, e142]; done) | (simp [Act.eval, e142]; rfl)) (HS2.out.below m2) HLR.out HLW.out m2.size ?_
        intro v' w8 h1 h2
        have HFy : Hid (FrK _ ((fun x : Value × Value => fun dd => if dd = 138 then .pointer (some ⟨w7.heap.size, 1, none⟩) else if dd = 139 then vr else if dd = 140 then x.1 else if dd = 141 then .pointer (some ⟨w7.heap.size, 2, none⟩) else if dd = 142 then vw else if dd = 143 then x.2 else if dd = 23 then x.2 else undef) (x.1, v')) _ listed fr) := HF.out.swap (fun j o d g1 g2 g3 => by
          by_cases e : d = 143
          · subst e
            have := ndB_spec (j := j) (k := 5) (d := 143) (by kernel_rfl) g1 rfl g2 rfl
            subst this
            rw [hl0] at g3; cases g3
          · by_cases e2 : d = 23
            · subst e2
              have := ndB_spec (j := j) (k := 6) (d := 23) (by kernel_rfl) g1 rfl g2 rfl
              subst this
              have := HC.out 6 _ rfl g3 ⟨5, .data⟩ (by simp) rfl; rw [hl0] at this; cases this
            · simp [e, e2])
        exact hK _ _ ⟨(x.1, v'), HFy.out.put (by kernel_rfl) rfl rfl rfl (of_decide_eq_true rfl), HW.out.go 1 hjl rfl hl0 (fun j hj => by obtain rfl : j = 0 := (by omega); exact ⟨2, rfl, hp⟩) (by intro a ha; match a, ha with | 0, ha => simp at ha | 1, _ => rfl) ⟨h1, m2.trans ((h2.below w0.heap.size m2.size fun k e => m1.ge k e))⟩⟩
      | 6, ho =>
        obtain rfl := Option.some.inj ho
        have e143 : fr.tmps[143]?.getD undef = x.2 := HF.out.ev (i := 5) rfl rfl (HE.out ⟨5, .data⟩ (by simp) rfl)
        exact wp_q rfl rfl (by simp [execOp, go_sem, e143]; try rfl) ⟨x, HF.out.put (by kernel_rfl) rfl rfl rfl (of_decide_eq_true rfl), HW.out.q hjl (by decide)⟩
    case fin =>
      rintro listed fr w2 x hF hW hr
      have all := allDone hr hF.q.ls (by kernel_rfl)
      obtain ⟨sS, hs1, hm⟩ := hW
      have hs : 2 ≤ sS := by
        have := hs1 1 5 rfl
        rw [all 5 (by decide)] at this
        have : 1 < sS := by simpa using this.symm
        omega
      obtain ⟨s2, rfl⟩ : ∃ s2, sS = s2 + 2 := ⟨sS - 2, by omega⟩
      obtain ⟨m1, m2⟩ := hm
      rw [hF.full all]
      have SJ := hid m1
      have HBJ := hid (HB0.out.trans (m2.mono HB0.out.size))
      clear hF hr all m1 m2 hs1 hs HCL HS1 HS2
      generalize x.2 = vl at *
      simp only [List.foldl_cons, List.foldl_nil, fillF]
      go_simp
      obtain ⟨gl, cl, rfl, q1, q2, q3, q4⟩ := SJ.out.at (by simp)
      obtain ⟨x0, x1⟩ := q4 0 (4096, 8) rfl
      obtain ⟨y0, y1⟩ := q4 1 (A, M0) rfl
      have cW : w2.cell? ⟨w7.heap.size, 2, none⟩ = some vw := by
        have hk := (HBJ.out.block _ (lt_of_block HCJ.out)).trans HCJ.out
        exact cell_of_row w2 _ 2 _ _ _ hk
      rw [HVW.out] at cW
      have hE1 := run_eqS 4096 8
      have hE2 := run_eqS A M0
      have wM : IntKind.i64.wrap M0 = M0 := by rw [IntKind.wrap_i64]; omega
      have HNw := hid ((HL8.out.below HBJ.out).new)
      have q5 : 2 ≤ cl := q1
      clear q4
      go_wp2_with (go_at_call 30; (refine (HAw.out _).mono ?_); rintro e w13 ⟨rfl, h1⟩; have B5 := hid h1; clear h1)
      go_ret
      exact ⟨rfl, HNw.out.trans (B5.out.mono HNw.out.size)⟩
  · have hX : nxF (RmG p 0 2) (wrM 1 A M0 6) (vN 4) 4 = ⟨32, false, 0, [], [], (vN 4).take.die⟩ := (HFo.out 1 6 M0 (by decide) (by decide) (by kernel_rfl) (by omega) (by omega) false (by rw [mayV, fM_b.2.2.2.2.2.2.2.2.2.2.2]; rfl)).trans (by first | rfl | simp [fM_b])
    have c0 := HL3.out.c0
    have c1 := HL3.out.c1
    have hPu := l_Put HL3.out 0 0 4096 8 1 1 256 (by decide) (by decide) (by decide) (by decide) (by decide) (by decide) (by decide) (by decide) rfl
    go_upto_region 15 with (go_at_call 20; (refine hPu.mono ?_); rintro e w4 ⟨rfl, h1, h2⟩; have H4 := hid h1; clear h1 h2 hPu c0 c1)
    have c0 := H4.out.c0
    have c1 := H4.out.c1
    have hPu := l_Put H4.out 0 1 A M0 6 0 272 (by decide) (by decide) (by decide) (by decide) A0 (by omega) (by omega) (by omega) rfl
    go_upto_region 16 with (go_at_call 20; (refine hPu.mono ?_); rintro e w5 ⟨rfl, h1, h2⟩; have H5 := hid h1; clear h1 h2 hPu c0 c1)
    have c0 := H5.out.c0
    have c1 := H5.out.c1
    have hW := l_Write H5.out 2050 2 1 (by decide) (by decide) (by decide) (by decide) (by decide) (by decide)
    go_upto_region 17 with (go_at_call 19; (refine hW.mono ?_); rintro e w6 ⟨rfl, h1, h2⟩; have H6 : Hid (LQ W w6 B (B + 1) p r (vN 4) 0 2 (wrM 1 A M0 6) (wrM 1 A M0 6)) := h1; clear h1 h2 hW c0 c1)
    have hN := HGm.out 1 6 M0 (by decide) (by decide) (by omega) (by omega) w6 H6.out _ hX
    have c0 := H6.out.c0
    have HN6x : Hid (∀ w6 : World, (w6.alloc (.cells #[.int .i64 0, .slice none 0 0, .slice none 0 0] 42)).heap[w6.heap.size]? = some (.cells (cc 0 (.slice none 0 0) (.slice none 0 0)) 42 (0, 0))) := fun w6 => heap_alloc_new w6 _
    go_upto_region 18 with (first
      | (go_at_call 14; (refine hN.mono ?_); rintro e w7 ⟨vr, vw, rfl, h1, h2, h3⟩; have HL7 := hid h1; have S1 := hid h2; have S2 := hid h3; clear h1 h2 h3 hN c0)
      | ((with_reducible refine wpL_stC w7.heap.size 0 vr vw S1.out.s S2.out.s ?_ ?_ (HN6x.out w7) ?_); rfl; rfl))
    obtain ⟨w8, hw8⟩ : ∃ w8, w8 = (w7.alloc (.cells #[.int .i64 0, .slice none 0 0, .slice none 0 0] 42)).setRow w7.heap.size (cc 0 vr vw) := ⟨_, rfl⟩
    have HB8 : Hid (Below w7.heap.size w7 w8) := hw8 ▸ below_row ((Below.refl _ _).alloc (Nat.le_refl _) _) (Nat.le_refl _) _
    have HCJ : Hid (w8.heap[w7.heap.size]? = some (.cells (cc 0 vr vw) 42 (0, 0))) := hw8 ▸ setRow_heap _ w7.heap.size _ _ _ _ (HN6x.out w7)
    have HL8 := hid (HL7.out.below HB8.out)
    have SJ1 := hid (S1.out.below HB8.out)
    have SJ2 := hid (S2.out.below HB8.out)
    rw [← hw8]
    clear hw8 HB8 HL7 S1 S2 HN6x H4 H5 H6 hX HGm HFo HREST HP1 HP2 HP3
    obtain ⟨adr, cr, hvr⟩ := SJ1.out.sli
    obtain ⟨adw, cw, hvw⟩ := SJ2.out.sli
    have z1 : w8.cell? ⟨w7.heap.size, 1, none⟩ = some vr := cell_of_row w8 _ 1 _ _ _ HCJ.out
    have z2' : w8.cell? ⟨w7.heap.size, 2, none⟩ = some vw := cell_of_row w8 _ 2 _ _ _ HCJ.out
    rw [hvr] at z1
    rw [hvw] at z2'
    have hde := l_Dead HL8.out
    have HNw := hid HL8.out.new
    clear hvr hvw
    go_wp2_with (first
      | (go_at_call 26; (refine hde.mono ?_); rintro e w' ⟨rfl, hw⟩; obtain rfl := hw.symm)
      | (go_at_call 30; (refine (HAw.out _).mono ?_); rintro e w13 ⟨rfl, h1⟩; have B5 := hid h1; clear h1))
    go_ret
    exact ⟨rfl, HNw.out.trans (B5.out.mono HNw.out.size)⟩
  · have hX : nxF (RmG p 0 2) (wrM 1 A (8192 - A + 1 + M2) 2) (vN 4) 4 = ⟨32, false, 0, [], [], (vN 4).take.die⟩ := (HFo.out 1 2 (8192 - A + 1 + M2) (by decide) (by decide) fM_b.2.2.2.1 (by omega) (by omega) false (by rw [mayV, show (8192 - A + 1 + M2 == 0) = false by simp; omega, has_no (by omega)]; simp)).trans (by first | rfl | simp [fM_b])
    have c0 := HL3.out.c0
    have c1 := HL3.out.c1
    have hPu := l_Put HL3.out 0 0 4096 8 1 1 256 (by decide) (by decide) (by decide) (by decide) (by decide) (by decide) (by decide) (by decide) rfl
    go_upto_region 15 with (go_at_call 20; (refine hPu.mono ?_); rintro e w4 ⟨rfl, h1, h2⟩; have H4 := hid h1; clear h1 h2 hPu c0 c1)
    have c0 := H4.out.c0
    have c1 := H4.out.c1
    have hPu := l_Put H4.out 0 1 A (8192 - A + 1 + M2) 2 0 272 (by decide) (by decide) (by decide) (by decide) A0 (by omega) (by omega) (by omega) rfl
    go_upto_region 16 with (go_at_call 20; (refine hPu.mono ?_); rintro e w5 ⟨rfl, h1, h2⟩; have H5 := hid h1; clear h1 h2 hPu c0 c1)
    have c0 := H5.out.c0
    have c1 := H5.out.c1
    have hW := l_Write H5.out 2050 2 1 (by decide) (by decide) (by decide) (by decide) (by decide) (by decide)
    go_upto_region 17 with (go_at_call 19; (refine hW.mono ?_); rintro e w6 ⟨rfl, h1, h2⟩; have H6 : Hid (LQ W w6 B (B + 1) p r (vN 4) 0 2 (wrM 1 A (8192 - A + 1 + M2) 2) (wrM 1 A (8192 - A + 1 + M2) 2)) := h1; clear h1 h2 hW c0 c1)
    have hN := HGm.out 1 2 (8192 - A + 1 + M2) (by decide) (by decide) (by omega) (by omega) w6 H6.out _ hX
    have c0 := H6.out.c0
    have HN6x : Hid (∀ w6 : World, (w6.alloc (.cells #[.int .i64 0, .slice none 0 0, .slice none 0 0] 42)).heap[w6.heap.size]? = some (.cells (cc 0 (.slice none 0 0) (.slice none 0 0)) 42 (0, 0))) := fun w6 => heap_alloc_new w6 _
    go_upto_region 18 with (first
      | (go_at_call 14; (refine hN.mono ?_); rintro e w7 ⟨vr, vw, rfl, h1, h2, h3⟩; have HL7 := hid h1; have S1 := hid h2; have S2 := hid h3; clear h1 h2 h3 hN c0)
      | ((with_reducible refine wpL_stC w7.heap.size 0 vr vw S1.out.s S2.out.s ?_ ?_ (HN6x.out w7) ?_); rfl; rfl))
    obtain ⟨w8, hw8⟩ : ∃ w8, w8 = (w7.alloc (.cells #[.int .i64 0, .slice none 0 0, .slice none 0 0] 42)).setRow w7.heap.size (cc 0 vr vw) := ⟨_, rfl⟩
    have HB8 : Hid (Below w7.heap.size w7 w8) := hw8 ▸ below_row ((Below.refl _ _).alloc (Nat.le_refl _) _) (Nat.le_refl _) _
    have HCJ : Hid (w8.heap[w7.heap.size]? = some (.cells (cc 0 vr vw) 42 (0, 0))) := hw8 ▸ setRow_heap _ w7.heap.size _ _ _ _ (HN6x.out w7)
    have HL8 := hid (HL7.out.below HB8.out)
    have SJ1 := hid (S1.out.below HB8.out)
    have SJ2 := hid (S2.out.below HB8.out)
    rw [← hw8]
    clear hw8 HB8 HL7 S1 S2 HN6x H4 H5 H6 hX HGm HFo HREST HP1 HP2 HP3
    obtain ⟨adr, cr, hvr⟩ := SJ1.out.sli
    obtain ⟨adw, cw, hvw⟩ := SJ2.out.sli
    have z1 : w8.cell? ⟨w7.heap.size, 1, none⟩ = some vr := cell_of_row w8 _ 1 _ _ _ HCJ.out
    have z2' : w8.cell? ⟨w7.heap.size, 2, none⟩ = some vw := cell_of_row w8 _ 2 _ _ _ HCJ.out
    rw [hvr] at z1
    rw [hvw] at z2'
    have hde := l_Dead HL8.out
    have HNw := hid HL8.out.new
    clear hvr hvw
    go_wp2_with (first
      | (go_at_call 26; (refine hde.mono ?_); rintro e w' ⟨rfl, hw⟩; obtain rfl := hw.symm)
      | (go_at_call 30; (refine (HAw.out _).mono ?_); rintro e w13 ⟨rfl, h1⟩; have B5 := hid h1; clear h1))
    go_ret
    exact ⟨rfl, HNw.out.trans (B5.out.mono HNw.out.size)⟩
  · have hX : nxF (RmG p 0 2) (wrM 3 A M0 0) (vN 4) 4 = ⟨32, false, 0, [], [], (vN 4).take.die⟩ := (HFo.out 3 0 M0 (by decide) (by decide) fM_b.2.2.1 (by omega) (by omega) false (by rw [mayV, fM_b.2.2.2.2.2.2.1, fM_b.2.2.2.2.2.1]; simp)).trans (by first | rfl | simp [fM_b])
    have c0 := HL3.out.c0
    have c1 := HL3.out.c1
    have hPu := l_Put HL3.out 0 0 4096 8 3 1 256 (by decide) (by decide) (by decide) (by decide) (by decide) (by decide) (by decide) (by decide) rfl
    go_upto_region 15 with (go_at_call 20; (refine hPu.mono ?_); rintro e w4 ⟨rfl, h1, h2⟩; have H4 := hid h1; clear h1 h2 hPu c0 c1)
    have c0 := H4.out.c0
    have c1 := H4.out.c1
    have hPu := l_Put H4.out 0 1 A M0 0 0 272 (by decide) (by decide) (by decide) (by decide) A0 (by omega) (by omega) (by omega) rfl
    go_upto_region 16 with (go_at_call 20; (refine hPu.mono ?_); rintro e w5 ⟨rfl, h1, h2⟩; have H5 := hid h1; clear h1 h2 hPu c0 c1)
    have c0 := H5.out.c0
    have c1 := H5.out.c1
    have hW := l_Write H5.out 2050 2 1 (by decide) (by decide) (by decide) (by decide) (by decide) (by decide)
    go_upto_region 17 with (go_at_call 19; (refine hW.mono ?_); rintro e w6 ⟨rfl, h1, h2⟩; have H6 : Hid (LQ W w6 B (B + 1) p r (vN 4) 0 2 (wrM 3 A M0 0) (wrM 3 A M0 0)) := h1; clear h1 h2 hW c0 c1)
    have hN := HGm.out 3 0 M0 (by decide) (by decide) (by omega) (by omega) w6 H6.out _ hX
    have c0 := H6.out.c0
    have HN6x : Hid (∀ w6 : World, (w6.alloc (.cells #[.int .i64 0, .slice none 0 0, .slice none 0 0] 42)).heap[w6.heap.size]? = some (.cells (cc 0 (.slice none 0 0) (.slice none 0 0)) 42 (0, 0))) := fun w6 => heap_alloc_new w6 _
    go_upto_region 18 with (first
      | (go_at_call 14; (refine hN.mono ?_); rintro e w7 ⟨vr, vw, rfl, h1, h2, h3⟩; have HL7 := hid h1; have S1 := hid h2; have S2 := hid h3; clear h1 h2 h3 hN c0)
      | ((with_reducible refine wpL_stC w7.heap.size 0 vr vw S1.out.s S2.out.s ?_ ?_ (HN6x.out w7) ?_); rfl; rfl))
    obtain ⟨w8, hw8⟩ : ∃ w8, w8 = (w7.alloc (.cells #[.int .i64 0, .slice none 0 0, .slice none 0 0] 42)).setRow w7.heap.size (cc 0 vr vw) := ⟨_, rfl⟩
    have HB8 : Hid (Below w7.heap.size w7 w8) := hw8 ▸ below_row ((Below.refl _ _).alloc (Nat.le_refl _) _) (Nat.le_refl _) _
    have HCJ : Hid (w8.heap[w7.heap.size]? = some (.cells (cc 0 vr vw) 42 (0, 0))) := hw8 ▸ setRow_heap _ w7.heap.size _ _ _ _ (HN6x.out w7)
    have HL8 := hid (HL7.out.below HB8.out)
    have SJ1 := hid (S1.out.below HB8.out)
    have SJ2 := hid (S2.out.below HB8.out)
    rw [← hw8]
    clear hw8 HB8 HL7 S1 S2 HN6x H4 H5 H6 hX HGm HFo HREST HP1 HP2 HP3
    obtain ⟨adr, cr, hvr⟩ := SJ1.out.sli
    obtain ⟨adw, cw, hvw⟩ := SJ2.out.sli
    have z1 : w8.cell? ⟨w7.heap.size, 1, none⟩ = some vr := cell_of_row w8 _ 1 _ _ _ HCJ.out
    have z2' : w8.cell? ⟨w7.heap.size, 2, none⟩ = some vw := cell_of_row w8 _ 2 _ _ _ HCJ.out
    rw [hvr] at z1
    rw [hvw] at z2'
    have hde := l_Dead HL8.out
    have HNw := hid HL8.out.new
    clear hvr hvw
    go_wp2_with (first
      | (go_at_call 26; (refine hde.mono ?_); rintro e w' ⟨rfl, hw⟩; obtain rfl := hw.symm)
      | (go_at_call 30; (refine (HAw.out _).mono ?_); rintro e w13 ⟨rfl, h1⟩; have B5 := hid h1; clear h1))
    go_ret
    exact ⟨rfl, HNw.out.trans (B5.out.mono HNw.out.size)⟩
  · have hX : nxF (RmG p 0 2) (wrM 3 A M0 4) (vN 4) 4 = ⟨32, false, 0, [], [], (vN 4).take.die⟩ := (HFo.out 3 4 M0 (by decide) (by decide) (by kernel_rfl) (by omega) (by omega) false (by rw [mayV, fM_b.2.2.2.2.2.2.2.2.2.2.1]; rfl)).trans (by first | rfl | simp [fM_b])
    have c0 := HL3.out.c0
    have c1 := HL3.out.c1
    have hPu := l_Put HL3.out 0 0 4096 8 3 1 256 (by decide) (by decide) (by decide) (by decide) (by decide) (by decide) (by decide) (by decide) rfl
    go_upto_region 15 with (go_at_call 20; (refine hPu.mono ?_); rintro e w4 ⟨rfl, h1, h2⟩; have H4 := hid h1; clear h1 h2 hPu c0 c1)
    have c0 := H4.out.c0
    have c1 := H4.out.c1
    have hPu := l_Put H4.out 0 1 A M0 4 0 272 (by decide) (by decide) (by decide) (by decide) A0 (by omega) (by omega) (by omega) rfl
    go_upto_region 16 with (go_at_call 20; (refine hPu.mono ?_); rintro e w5 ⟨rfl, h1, h2⟩; have H5 := hid h1; clear h1 h2 hPu c0 c1)
    have c0 := H5.out.c0
    have c1 := H5.out.c1
    have hW := l_Write H5.out 2050 2 1 (by decide) (by decide) (by decide) (by decide) (by decide) (by decide)
    go_upto_region 17 with (go_at_call 19; (refine hW.mono ?_); rintro e w6 ⟨rfl, h1, h2⟩; have H6 : Hid (LQ W w6 B (B + 1) p r (vN 4) 0 2 (wrM 3 A M0 4) (wrM 3 A M0 4)) := h1; clear h1 h2 hW c0 c1)
    have hN := HGm.out 3 4 M0 (by decide) (by decide) (by omega) (by omega) w6 H6.out _ hX
    have c0 := H6.out.c0
    have HN6x : Hid (∀ w6 : World, (w6.alloc (.cells #[.int .i64 0, .slice none 0 0, .slice none 0 0] 42)).heap[w6.heap.size]? = some (.cells (cc 0 (.slice none 0 0) (.slice none 0 0)) 42 (0, 0))) := fun w6 => heap_alloc_new w6 _
    go_upto_region 18 with (first
      | (go_at_call 14; (refine hN.mono ?_); rintro e w7 ⟨vr, vw, rfl, h1, h2, h3⟩; have HL7 := hid h1; have S1 := hid h2; have S2 := hid h3; clear h1 h2 h3 hN c0)
      | ((with_reducible refine wpL_stC w7.heap.size 0 vr vw S1.out.s S2.out.s ?_ ?_ (HN6x.out w7) ?_); rfl; rfl))
    obtain ⟨w8, hw8⟩ : ∃ w8, w8 = (w7.alloc (.cells #[.int .i64 0, .slice none 0 0, .slice none 0 0] 42)).setRow w7.heap.size (cc 0 vr vw) := ⟨_, rfl⟩
    have HB8 : Hid (Below w7.heap.size w7 w8) := hw8 ▸ below_row ((Below.refl _ _).alloc (Nat.le_refl _) _) (Nat.le_refl _) _
    have HCJ : Hid (w8.heap[w7.heap.size]? = some (.cells (cc 0 vr vw) 42 (0, 0))) := hw8 ▸ setRow_heap _ w7.heap.size _ _ _ _ (HN6x.out w7)
    have HL8 := hid (HL7.out.below HB8.out)
    have SJ1 := hid (S1.out.below HB8.out)
    have SJ2 := hid (S2.out.below HB8.out)
    rw [← hw8]
    clear hw8 HB8 HL7 S1 S2 HN6x H4 H5 H6 hX HGm HFo HREST HP1 HP2 HP3
    obtain ⟨adr, cr, hvr⟩ := SJ1.out.sli
    obtain ⟨adw, cw, hvw⟩ := SJ2.out.sli
    have z1 : w8.cell? ⟨w7.heap.size, 1, none⟩ = some vr := cell_of_row w8 _ 1 _ _ _ HCJ.out
    have z2' : w8.cell? ⟨w7.heap.size, 2, none⟩ = some vw := cell_of_row w8 _ 2 _ _ _ HCJ.out
    rw [hvr] at z1
    rw [hvw] at z2'
    have hde := l_Dead HL8.out
    have HNw := hid HL8.out.new
    clear hvr hvw
    go_wp2_with (first
      | (go_at_call 26; (refine hde.mono ?_); rintro e w' ⟨rfl, hw⟩; obtain rfl := hw.symm)
      | (go_at_call 30; (refine (HAw.out _).mono ?_); rintro e w13 ⟨rfl, h1⟩; have B5 := hid h1; clear h1))
    go_ret
    exact ⟨rfl, HNw.out.trans (B5.out.mono HNw.out.size)⟩
  · have hX : nxF (RmG p 0 2) (wrM 3 A (8192 - A + 1 + M2) 0) (vN 4) 4 = ⟨32, false, 0, [], [], (vN 4).take.die⟩ := (HFo.out 3 0 (8192 - A + 1 + M2) (by decide) (by decide) fM_b.2.2.1 (by omega) (by omega) false (by rw [mayV, show (8192 - A + 1 + M2 == 0) = false by simp; omega, has_no (by omega)]; simp)).trans (by first | rfl | simp [fM_b])
    have c0 := HL3.out.c0
    have c1 := HL3.out.c1
    have hPu := l_Put HL3.out 0 0 4096 8 3 1 256 (by decide) (by decide) (by decide) (by decide) (by decide) (by decide) (by decide) (by decide) rfl
    go_upto_region 15 with (go_at_call 20; (refine hPu.mono ?_); rintro e w4 ⟨rfl, h1, h2⟩; have H4 := hid h1; clear h1 h2 hPu c0 c1)
    have c0 := H4.out.c0
    have c1 := H4.out.c1
    have hPu := l_Put H4.out 0 1 A (8192 - A + 1 + M2) 0 0 272 (by decide) (by decide) (by decide) (by decide) A0 (by omega) (by omega) (by omega) rfl
    go_upto_region 16 with (go_at_call 20; (refine hPu.mono ?_); rintro e w5 ⟨rfl, h1, h2⟩; have H5 := hid h1; clear h1 h2 hPu c0 c1)
    have c0 := H5.out.c0
    have c1 := H5.out.c1
    have hW := l_Write H5.out 2050 2 1 (by decide) (by decide) (by decide) (by decide) (by decide) (by decide)
    go_upto_region 17 with (go_at_call 19; (refine hW.mono ?_); rintro e w6 ⟨rfl, h1, h2⟩; have H6 : Hid (LQ W w6 B (B + 1) p r (vN 4) 0 2 (wrM 3 A (8192 - A + 1 + M2) 0) (wrM 3 A (8192 - A + 1 + M2) 0)) := h1; clear h1 h2 hW c0 c1)
    have hN := HGm.out 3 0 (8192 - A + 1 + M2) (by decide) (by decide) (by omega) (by omega) w6 H6.out _ hX
    have c0 := H6.out.c0
    have HN6x : Hid (∀ w6 : World, (w6.alloc (.cells #[.int .i64 0, .slice none 0 0, .slice none 0 0] 42)).heap[w6.heap.size]? = some (.cells (cc 0 (.slice none 0 0) (.slice none 0 0)) 42 (0, 0))) := fun w6 => heap_alloc_new w6 _
    go_upto_region 18 with (first
      | (go_at_call 14; (refine hN.mono ?_); rintro e w7 ⟨vr, vw, rfl, h1, h2, h3⟩; have HL7 := hid h1; have S1 := hid h2; have S2 := hid h3; clear h1 h2 h3 hN c0)
      | ((with_reducible refine wpL_stC w7.heap.size 0 vr vw S1.out.s S2.out.s ?_ ?_ (HN6x.out w7) ?_); rfl; rfl))
    obtain ⟨w8, hw8⟩ : ∃ w8, w8 = (w7.alloc (.cells #[.int .i64 0, .slice none 0 0, .slice none 0 0] 42)).setRow w7.heap.size (cc 0 vr vw) := ⟨_, rfl⟩
    have HB8 : Hid (Below w7.heap.size w7 w8) := hw8 ▸ below_row ((Below.refl _ _).alloc (Nat.le_refl _) _) (Nat.le_refl _) _
    have HCJ : Hid (w8.heap[w7.heap.size]? = some (.cells (cc 0 vr vw) 42 (0, 0))) := hw8 ▸ setRow_heap _ w7.heap.size _ _ _ _ (HN6x.out w7)
    have HL8 := hid (HL7.out.below HB8.out)
    have SJ1 := hid (S1.out.below HB8.out)
    have SJ2 := hid (S2.out.below HB8.out)
    rw [← hw8]
    clear hw8 HB8 HL7 S1 S2 HN6x H4 H5 H6 hX HGm HFo HREST HP1 HP2 HP3
    obtain ⟨adr, cr, hvr⟩ := SJ1.out.sli
    obtain ⟨adw, cw, hvw⟩ := SJ2.out.sli
    have z1 : w8.cell? ⟨w7.heap.size, 1, none⟩ = some vr := cell_of_row w8 _ 1 _ _ _ HCJ.out
    have z2' : w8.cell? ⟨w7.heap.size, 2, none⟩ = some vw := cell_of_row w8 _ 2 _ _ _ HCJ.out
    rw [hvr] at z1
    rw [hvw] at z2'
    have hde := l_Dead HL8.out
    have HNw := hid HL8.out.new
    clear hvr hvw
    go_wp2_with (first
      | (go_at_call 26; (refine hde.mono ?_); rintro e w' ⟨rfl, hw⟩; obtain rfl := hw.symm)
      | (go_at_call 30; (refine (HAw.out _).mono ?_); rintro e w13 ⟨rfl, h1⟩; have B5 := hid h1; clear h1))
    go_ret
    exact ⟨rfl, HNw.out.trans (B5.out.mono HNw.out.size)⟩
  · have hX : nxF (RmG p 0 2) (wrM 3 A M0 2) (vN 4) 4 = ⟨0, true, 0, [], [(4096, 8), (A, M0)], (vN 4).take⟩ := (HFo.out 3 2 M0 (by decide) (by decide) fM_b.2.2.2.1 (by omega) (by omega) true (by rw [mayV, has_in (by omega) m0 (by omega)]; simp [fM_b])).trans (by first | rfl | simp [fM_b])
    have c0 := HL3.out.c0
    have c1 := HL3.out.c1
    have hPu := l_Put HL3.out 0 0 4096 8 3 1 256 (by decide) (by decide) (by decide) (by decide) (by decide) (by decide) (by decide) (by decide) rfl
    go_upto_region 15 with (go_at_call 20; (refine hPu.mono ?_); rintro e w4 ⟨rfl, h1, h2⟩; have H4 := hid h1; clear h1 h2 hPu c0 c1)
    have c0 := H4.out.c0
    have c1 := H4.out.c1
    have hPu := l_Put H4.out 0 1 A M0 2 0 272 (by decide) (by decide) (by decide) (by decide) A0 (by omega) (by omega) (by omega) rfl
    go_upto_region 16 with (go_at_call 20; (refine hPu.mono ?_); rintro e w5 ⟨rfl, h1, h2⟩; have H5 := hid h1; clear h1 h2 hPu c0 c1)
    have c0 := H5.out.c0
    have c1 := H5.out.c1
    have hW := l_Write H5.out 2050 2 1 (by decide) (by decide) (by decide) (by decide) (by decide) (by decide)
    go_upto_region 17 with (go_at_call 19; (refine hW.mono ?_); rintro e w6 ⟨rfl, h1, h2⟩; have H6 : Hid (LQ W w6 B (B + 1) p r (vN 4) 0 2 (wrM 3 A M0 2) (wrM 3 A M0 2)) := h1; clear h1 h2 hW c0 c1)
    have hN := HGm.out 3 2 M0 (by decide) (by decide) (by omega) (by omega) w6 H6.out _ hX
    have c0 := H6.out.c0
    have HN6x : Hid (∀ w6 : World, (w6.alloc (.cells #[.int .i64 0, .slice none 0 0, .slice none 0 0] 42)).heap[w6.heap.size]? = some (.cells (cc 0 (.slice none 0 0) (.slice none 0 0)) 42 (0, 0))) := fun w6 => heap_alloc_new w6 _
    go_upto_region 18 with (first
      | (go_at_call 14; (refine hN.mono ?_); rintro e w7 ⟨vr, vw, rfl, h1, h2, h3⟩; have HL7 := hid h1; have S1 := hid h2; have S2 := hid h3; clear h1 h2 h3 hN c0)
      | ((with_reducible refine wpL_stC w7.heap.size 0 vr vw S1.out.s S2.out.s ?_ ?_ (HN6x.out w7) ?_); rfl; rfl))
    obtain ⟨w8, hw8⟩ : ∃ w8, w8 = (w7.alloc (.cells #[.int .i64 0, .slice none 0 0, .slice none 0 0] 42)).setRow w7.heap.size (cc 0 vr vw) := ⟨_, rfl⟩
    have HB8 : Hid (Below w7.heap.size w7 w8) := hw8 ▸ below_row ((Below.refl _ _).alloc (Nat.le_refl _) _) (Nat.le_refl _) _
    have HCJ : Hid (w8.heap[w7.heap.size]? = some (.cells (cc 0 vr vw) 42 (0, 0))) := hw8 ▸ setRow_heap _ w7.heap.size _ _ _ _ (HN6x.out w7)
    have HL8 := hid (HL7.out.below HB8.out)
    have SJ1 := hid (S1.out.below HB8.out)
    have SJ2 := hid (S2.out.below HB8.out)
    rw [← hw8]
    clear hw8 HB8 HL7 S1 S2 HN6x H4 H5 H6 hX HGm HFo HREST HP1 HP2 HP3
    obtain ⟨adr, cr, hvr⟩ := SJ1.out.sli
    obtain ⟨adw, cw, hvw⟩ := SJ2.out.sli
    have z1 : w8.cell? ⟨w7.heap.size, 1, none⟩ = some vr := cell_of_row w8 _ 1 _ _ _ HCJ.out
    have z2' : w8.cell? ⟨w7.heap.size, 2, none⟩ = some vw := cell_of_row w8 _ 2 _ _ _ HCJ.out
    rw [hvr] at z1
    rw [hvw] at z2'
    have HVR := hid hvr
    have HVW := hid hvw
    clear hvr hvw
    go_upto_region 23 with fail
    have HLR : Hid (([] : List (Int × Int)).length ≤ 1000) := by show _ ≤ _; simp
    have HLW : Hid (([(4096, 8), (A, M0)] : List (Int × Int)).length ≤ 1000) := by show _ ≤ _; simp
    clear z1 z2'
    obtain ⟨w0, hw0⟩ : ∃ w0, w0 = w8.drew := ⟨_, rfl⟩
    have HB0 : Hid (Below w8.heap.size w8 w0) := hw0 ▸ (Below.refl _ _).drew
    refine wp_region_any (by kernel_rfl) ?_
    rw [show ({ w8 with drawn := w8.drawn + 1 } : World) = w0 from hw0.symm]
    clear hw0
    have HS1 := hid (SJ1.out.below HB0.out)
    have HS2 := hid (SJ2.out.below HB0.out)
    have HCL : Hid (∀ wz, Below w0.heap.size w0 wz → wz.cell? ⟨w7.heap.size, 1, none⟩ = some (vr) ∧ wz.cell? ⟨w7.heap.size, 2, none⟩ = some (vw)) := fun wz hb => by
      have h0 := (HB0.out.block _ (lt_of_block HCJ.out)).trans HCJ.out
      have hk := (hb.block _ (lt_of_block h0)).trans h0
      exact ⟨cell_of_row wz _ 1 _ _ _ hk, cell_of_row wz _ 2 _ _ _ hk⟩
    refine wpAny_fz (α := Value × Value) (fun x => fun dd => if dd = 138 then .pointer (some ⟨w7.heap.size, 1, none⟩) else if dd = 139 then vr else if dd = 140 then x.1 else if dd = 141 then .pointer (some ⟨w7.heap.size, 2, none⟩) else if dd = 142 then vw else if dd = 143 then x.2 else if dd = 23 then x.2 else undef) (VS [2, 5] (MJ w0 [] [(4096, 8), (A, M0)])) ?step ?fin (.bool true, .bool true) ?start
    case start => exact .start rfl
    case step =>
      rintro listed fr wr x hF hW hC i hj
      obtain ⟨hl, o, ho, he⟩ := mem_ready.1 hj
      have hjl : i < listed.size := by rw [hF.q.ls]; exact (Array.getElem?_eq_some_iff.1 ho).1
      have hl0 := getD_tf hjl hl
      clear hj
      have HF := hid hF
      have HW := hid hW
      have HE := hid he
      have HC := hid hC
      clear hF hW he hl hC
      match i, ho with
      | 0, ho =>
        obtain rfl := Option.some.inj ho
        have e19 : fr.tmps[19]?.getD undef = .pointer (some ⟨w7.heap.size, 0, none⟩) := HF.out.base 19 (by kernel_rfl) rfl
        exact wp_q rfl rfl (by simp [execOp, go_sem, e19]; try rfl) ⟨x, HF.out.put (by kernel_rfl) rfl rfl rfl (of_decide_eq_true rfl), HW.out.q hjl (by decide)⟩
      | 1, ho =>
        obtain rfl := Option.some.inj ho
        have e138 : fr.tmps[138]?.getD undef = .pointer (some ⟨w7.heap.size, 1, none⟩) := HF.out.ev (i := 0) rfl rfl (HE.out ⟨0, .data⟩ (by simp) rfl)
        have hc := HCL.out _ (by obtain ⟨sS, -, hm⟩ := HW.out; exact hm.bel)
        exact wp_q rfl rfl (by simp [execOp, go_sem, e138, hc.1]; try rfl) ⟨x, HF.out.put (by kernel_rfl) rfl rfl rfl (of_decide_eq_true rfl), HW.out.q hjl (by decide)⟩
      | 2, ho =>
        obtain rfl := Option.some.inj ho
        have e139 : fr.tmps[139]?.getD undef = vr := HF.out.ev (i := 1) rfl rfl (HE.out ⟨1, .data⟩ (by simp) rfl)
        have m0 : wr = w0 := HW.out.at 0 rfl hl0 (fun j hj => by omega)
        subst m0
        refine wpOp_step rfl fun K' hK => ?_
        rw [if_pos (by simp [Region.wanted])]
        refine wp_app _ _ rfl (V := .slice none 0 0) (by simp [Act.eval]) (Sg.nil wr wr.heap.size) (by first | (simp [Act.eval, e139]; done) | (simp [Act.eval, e139]; rfl)) HS1.out (by decide) HLR.out (Nat.le_refl _) ?_
        intro v' w8 h1 h2
        have HFy : Hid (FrK _ ((fun x : Value × Value => fun dd => if dd = 138 then .pointer (some ⟨w7.heap.size, 1, none⟩) else if dd = 139 then vr else if dd = 140 then x.1 else if dd = 141 then .pointer (some ⟨w7.heap.size, 2, none⟩) else if dd = 142 then vw else if dd = 143 then x.2 else if dd = 23 then x.2 else undef) (v', x.2)) _ listed fr) := HF.out.swap (fun j o d g1 g2 g3 => by
          by_cases e : d = 140
          · subst e
            have := ndB_spec (j := j) (k := 2) (d := 140) (by kernel_rfl) g1 rfl g2 rfl
            subst this
            rw [hl0] at g3; cases g3
          · simp [e])
        exact hK _ _ ⟨(v', x.2), HFy.out.put (by kernel_rfl) rfl rfl rfl (of_decide_eq_true rfl), HW.out.go 0 hjl rfl hl0 (fun j hj => by omega) (by intro a ha; match a, ha with | 0, _ => rfl | 1, ha => simp at ha) ⟨by simpa using h1, h2.below _ (Nat.le_refl _) fun k e => by cases e⟩⟩
      | 3, ho =>
        obtain rfl := Option.some.inj ho
        have e19 : fr.tmps[19]?.getD undef = .pointer (some ⟨w7.heap.size, 0, none⟩) := HF.out.base 19 (by kernel_rfl) rfl
        exact wp_q rfl rfl (by simp [execOp, go_sem, e19]; try rfl) ⟨x, HF.out.put (by kernel_rfl) rfl rfl rfl (of_decide_eq_true rfl), HW.out.q hjl (by decide)⟩
      | 4, ho =>
        obtain rfl := Option.some.inj ho
        have e141 : fr.tmps[141]?.getD undef = .pointer (some ⟨w7.heap.size, 2, none⟩) := HF.out.ev (i := 3) rfl rfl (HE.out ⟨3, .data⟩ (by simp) rfl)
        have hc := HCL.out _ (by obtain ⟨sS, -, hm⟩ := HW.out; exact hm.bel)
        exact wp_q rfl rfl (by simp [execOp, go_sem, e141, hc.2]; try rfl) ⟨x, HF.out.put (by kernel_rfl) rfl rfl rfl (of_decide_eq_true rfl), HW.out.q hjl (by decide)⟩
      | 5, ho =>
        obtain rfl := Option.some.inj ho
        have e140 : fr.tmps[140]?.getD undef = x.1 := HF.out.ev (i := 2) rfl rfl (HE.out ⟨2, .data⟩ (by simp) rfl)
        have e142 : fr.tmps[142]?.getD undef = vw := HF.out.ev (i := 4) rfl rfl (HE.out ⟨4, .data⟩ (by simp) rfl)
        have hp := HE.out ⟨2, .data⟩ (by simp) rfl
        obtain ⟨m1, m2⟩ := HW.out.at 1 rfl hl0 (fun j hj => by obtain rfl : j = 0 := (by omega); exact ⟨2, rfl, hp⟩)
        refine wpOp_step rfl fun K' hK => ?_
        rw [if_pos (by simp [Region.wanted])]
        refine wp_app _ _ rfl (V := x.1) (by simp [Act.eval, e140]) m1 (by first | (simp [Act.eval, e142]; done) | (simp [Act.eval, e142]; rfl)) (HS2.out.below m2) HLR.out HLW.out m2.size ?_
        intro v' w8 h1 h2
        have HFy : Hid (FrK _ ((fun x : Value × Value => fun dd => if dd = 138 then .pointer (some ⟨w7.heap.size, 1, none⟩) else if dd = 139 then vr else if dd = 140 then x.1 else if dd = 141 then .pointer (some ⟨w7.heap.size, 2, none⟩) else if dd = 142 then vw else if dd = 143 then x.2 else if dd = 23 then x.2 else undef) (x.1, v')) _ listed fr) := HF.out.swap (fun j o d g1 g2 g3 => by
          by_cases e : d = 143
          · subst e
            have := ndB_spec (j := j) (k := 5) (d := 143) (by kernel_rfl) g1 rfl g2 rfl
            subst this
            rw [hl0] at g3; cases g3
          · by_cases e2 : d = 23
            · subst e2
              have := ndB_spec (j := j) (k := 6) (d := 23) (by kernel_rfl) g1 rfl g2 rfl
              subst this
              have := HC.out 6 _ rfl g3 ⟨5, .data⟩ (by simp) rfl; rw [hl0] at this; cases this
            · simp [e, e2])
        exact hK _ _ ⟨(x.1, v'), HFy.out.put (by kernel_rfl) rfl rfl rfl (of_decide_eq_true rfl), HW.out.go 1 hjl rfl hl0 (fun j hj => by obtain rfl : j = 0 := (by omega); exact ⟨2, rfl, hp⟩) (by intro a ha; match a, ha with | 0, ha => simp at ha | 1, _ => rfl) ⟨h1, m2.trans ((h2.below w0.heap.size m2.size fun k e => m1.ge k e))⟩⟩
      | 6, ho =>
        obtain rfl := Option.some.inj ho
        have e143 : fr.tmps[143]?.getD undef = x.2 := HF.out.ev (i := 5) rfl rfl (HE.out ⟨5, .data⟩ (by simp) rfl)
        exact wp_q rfl rfl (by simp [execOp, go_sem, e143]; try rfl) ⟨x, HF.out.put (by kernel_rfl) rfl rfl rfl (of_decide_eq_true rfl), HW.out.q hjl (by decide)⟩
    case fin =>
      rintro listed fr w2 x hF hW hr
      have all := allDone hr hF.q.ls (by kernel_rfl)
      obtain ⟨sS, hs1, hm⟩ := hW
      have hs : 2 ≤ sS := by
        have := hs1 1 5 rfl
        rw [all 5 (by decide)] at this
        have : 1 < sS := by simpa using this.symm
        omega
      obtain ⟨s2, rfl⟩ : ∃ s2, sS = s2 + 2 := ⟨sS - 2, by omega⟩
      obtain ⟨m1, m2⟩ := hm
      rw [hF.full all]
      have SJ := hid m1
      have HBJ := hid (HB0.out.trans (m2.mono HB0.out.size))
      clear hF hr all m1 m2 hs1 hs HCL HS1 HS2
      generalize x.2 = vl at *
      simp only [List.foldl_cons, List.foldl_nil, fillF]
      go_simp
      obtain ⟨gl, cl, rfl, q1, q2, q3, q4⟩ := SJ.out.at (by simp)
      obtain ⟨x0, x1⟩ := q4 0 (4096, 8) rfl
      obtain ⟨y0, y1⟩ := q4 1 (A, M0) rfl
      have cW : w2.cell? ⟨w7.heap.size, 2, none⟩ = some vw := by
        have hk := (HBJ.out.block _ (lt_of_block HCJ.out)).trans HCJ.out
        exact cell_of_row w2 _ 2 _ _ _ hk
      rw [HVW.out] at cW
      have hE1 := run_eqS 4096 8
      have hE2 := run_eqS A M0
      have wM : IntKind.i64.wrap M0 = M0 := by rw [IntKind.wrap_i64]; omega
      have HNw := hid ((HL8.out.below HBJ.out).new)
      have q5 : 2 ≤ cl := q1
      clear q4
      go_wp2_with (go_at_call 30; (refine (HAw.out _).mono ?_); rintro e w13 ⟨rfl, h1⟩; have B5 := hid h1; clear h1)
      go_ret
      exact ⟨rfl, HNw.out.trans (B5.out.mono HNw.out.size)⟩
  · have hX : nxF (RmG p 0 2) (wrM 3 A M0 6) (vN 4) 4 = ⟨32, false, 0, [], [], (vN 4).take.die⟩ := (HFo.out 3 6 M0 (by decide) (by decide) (by kernel_rfl) (by omega) (by omega) false (by rw [mayV, fM_b.2.2.2.2.2.2.2.2.2.2.2]; rfl)).trans (by first | rfl | simp [fM_b])
    have c0 := HL3.out.c0
    have c1 := HL3.out.c1
    have hPu := l_Put HL3.out 0 0 4096 8 3 1 256 (by decide) (by decide) (by decide) (by decide) (by decide) (by decide) (by decide) (by decide) rfl
    go_upto_region 15 with (go_at_call 20; (refine hPu.mono ?_); rintro e w4 ⟨rfl, h1, h2⟩; have H4 := hid h1; clear h1 h2 hPu c0 c1)
    have c0 := H4.out.c0
    have c1 := H4.out.c1
    have hPu := l_Put H4.out 0 1 A M0 6 0 272 (by decide) (by decide) (by decide) (by decide) A0 (by omega) (by omega) (by omega) rfl
    go_upto_region 16 with (go_at_call 20; (refine hPu.mono ?_); rintro e w5 ⟨rfl, h1, h2⟩; have H5 := hid h1; clear h1 h2 hPu c0 c1)
    have c0 := H5.out.c0
    have c1 := H5.out.c1
    have hW := l_Write H5.out 2050 2 1 (by decide) (by decide) (by decide) (by decide) (by decide) (by decide)
    go_upto_region 17 with (go_at_call 19; (refine hW.mono ?_); rintro e w6 ⟨rfl, h1, h2⟩; have H6 : Hid (LQ W w6 B (B + 1) p r (vN 4) 0 2 (wrM 3 A M0 6) (wrM 3 A M0 6)) := h1; clear h1 h2 hW c0 c1)
    have hN := HGm.out 3 6 M0 (by decide) (by decide) (by omega) (by omega) w6 H6.out _ hX
    have c0 := H6.out.c0
    have HN6x : Hid (∀ w6 : World, (w6.alloc (.cells #[.int .i64 0, .slice none 0 0, .slice none 0 0] 42)).heap[w6.heap.size]? = some (.cells (cc 0 (.slice none 0 0) (.slice none 0 0)) 42 (0, 0))) := fun w6 => heap_alloc_new w6 _
    go_upto_region 18 with (first
      | (go_at_call 14; (refine hN.mono ?_); rintro e w7 ⟨vr, vw, rfl, h1, h2, h3⟩; have HL7 := hid h1; have S1 := hid h2; have S2 := hid h3; clear h1 h2 h3 hN c0)
      | ((with_reducible refine wpL_stC w7.heap.size 0 vr vw S1.out.s S2.out.s ?_ ?_ (HN6x.out w7) ?_); rfl; rfl))
    obtain ⟨w8, hw8⟩ : ∃ w8, w8 = (w7.alloc (.cells #[.int .i64 0, .slice none 0 0, .slice none 0 0] 42)).setRow w7.heap.size (cc 0 vr vw) := ⟨_, rfl⟩
    have HB8 : Hid (Below w7.heap.size w7 w8) := hw8 ▸ below_row ((Below.refl _ _).alloc (Nat.le_refl _) _) (Nat.le_refl _) _
    have HCJ : Hid (w8.heap[w7.heap.size]? = some (.cells (cc 0 vr vw) 42 (0, 0))) := hw8 ▸ setRow_heap _ w7.heap.size _ _ _ _ (HN6x.out w7)
    have HL8 := hid (HL7.out.below HB8.out)
    have SJ1 := hid (S1.out.below HB8.out)
    have SJ2 := hid (S2.out.below HB8.out)
    rw [← hw8]
    clear hw8 HB8 HL7 S1 S2 HN6x H4 H5 H6 hX HGm HFo HREST HP1 HP2 HP3
    obtain ⟨adr, cr, hvr⟩ := SJ1.out.sli
    obtain ⟨adw, cw, hvw⟩ := SJ2.out.sli
    have z1 : w8.cell? ⟨w7.heap.size, 1, none⟩ = some vr := cell_of_row w8 _ 1 _ _ _ HCJ.out
    have z2' : w8.cell? ⟨w7.heap.size, 2, none⟩ = some vw := cell_of_row w8 _ 2 _ _ _ HCJ.out
    rw [hvr] at z1
    rw [hvw] at z2'
    have hde := l_Dead HL8.out
    have HNw := hid HL8.out.new
    clear hvr hvw
    go_wp2_with (first
      | (go_at_call 26; (refine hde.mono ?_); rintro e w' ⟨rfl, hw⟩; obtain rfl := hw.symm)
      | (go_at_call 30; (refine (HAw.out _).mono ?_); rintro e w13 ⟨rfl, h1⟩; have B5 := hid h1; clear h1))
    go_ret
    exact ⟨rfl, HNw.out.trans (B5.out.mono HNw.out.size)⟩
  · have hX : nxF (RmG p 0 2) (wrM 3 A (8192 - A + 1 + M2) 2) (vN 4) 4 = ⟨32, false, 0, [], [], (vN 4).take.die⟩ := (HFo.out 3 2 (8192 - A + 1 + M2) (by decide) (by decide) fM_b.2.2.2.1 (by omega) (by omega) false (by rw [mayV, show (8192 - A + 1 + M2 == 0) = false by simp; omega, has_no (by omega)]; simp)).trans (by first | rfl | simp [fM_b])
    have c0 := HL3.out.c0
    have c1 := HL3.out.c1
    have hPu := l_Put HL3.out 0 0 4096 8 3 1 256 (by decide) (by decide) (by decide) (by decide) (by decide) (by decide) (by decide) (by decide) rfl
    go_upto_region 15 with (go_at_call 20; (refine hPu.mono ?_); rintro e w4 ⟨rfl, h1, h2⟩; have H4 := hid h1; clear h1 h2 hPu c0 c1)
    have c0 := H4.out.c0
    have c1 := H4.out.c1
    have hPu := l_Put H4.out 0 1 A (8192 - A + 1 + M2) 2 0 272 (by decide) (by decide) (by decide) (by decide) A0 (by omega) (by omega) (by omega) rfl
    go_upto_region 16 with (go_at_call 20; (refine hPu.mono ?_); rintro e w5 ⟨rfl, h1, h2⟩; have H5 := hid h1; clear h1 h2 hPu c0 c1)
    have c0 := H5.out.c0
    have c1 := H5.out.c1
    have hW := l_Write H5.out 2050 2 1 (by decide) (by decide) (by decide) (by decide) (by decide) (by decide)
    go_upto_region 17 with (go_at_call 19; (refine hW.mono ?_); rintro e w6 ⟨rfl, h1, h2⟩; have H6 : Hid (LQ W w6 B (B + 1) p r (vN 4) 0 2 (wrM 3 A (8192 - A + 1 + M2) 2) (wrM 3 A (8192 - A + 1 + M2) 2)) := h1; clear h1 h2 hW c0 c1)
    have hN := HGm.out 3 2 (8192 - A + 1 + M2) (by decide) (by decide) (by omega) (by omega) w6 H6.out _ hX
    have c0 := H6.out.c0
    have HN6x : Hid (∀ w6 : World, (w6.alloc (.cells #[.int .i64 0, .slice none 0 0, .slice none 0 0] 42)).heap[w6.heap.size]? = some (.cells (cc 0 (.slice none 0 0) (.slice none 0 0)) 42 (0, 0))) := fun w6 => heap_alloc_new w6 _
    go_upto_region 18 with (first
      | (go_at_call 14; (refine hN.mono ?_); rintro e w7 ⟨vr, vw, rfl, h1, h2, h3⟩; have HL7 := hid h1; have S1 := hid h2; have S2 := hid h3; clear h1 h2 h3 hN c0)
      | ((with_reducible refine wpL_stC w7.heap.size 0 vr vw S1.out.s S2.out.s ?_ ?_ (HN6x.out w7) ?_); rfl; rfl))
    obtain ⟨w8, hw8⟩ : ∃ w8, w8 = (w7.alloc (.cells #[.int .i64 0, .slice none 0 0, .slice none 0 0] 42)).setRow w7.heap.size (cc 0 vr vw) := ⟨_, rfl⟩
    have HB8 : Hid (Below w7.heap.size w7 w8) := hw8 ▸ below_row ((Below.refl _ _).alloc (Nat.le_refl _) _) (Nat.le_refl _) _
    have HCJ : Hid (w8.heap[w7.heap.size]? = some (.cells (cc 0 vr vw) 42 (0, 0))) := hw8 ▸ setRow_heap _ w7.heap.size _ _ _ _ (HN6x.out w7)
    have HL8 := hid (HL7.out.below HB8.out)
    have SJ1 := hid (S1.out.below HB8.out)
    have SJ2 := hid (S2.out.below HB8.out)
    rw [← hw8]
    clear hw8 HB8 HL7 S1 S2 HN6x H4 H5 H6 hX HGm HFo HREST HP1 HP2 HP3
    obtain ⟨adr, cr, hvr⟩ := SJ1.out.sli
    obtain ⟨adw, cw, hvw⟩ := SJ2.out.sli
    have z1 : w8.cell? ⟨w7.heap.size, 1, none⟩ = some vr := cell_of_row w8 _ 1 _ _ _ HCJ.out
    have z2' : w8.cell? ⟨w7.heap.size, 2, none⟩ = some vw := cell_of_row w8 _ 2 _ _ _ HCJ.out
    rw [hvr] at z1
    rw [hvw] at z2'
    have hde := l_Dead HL8.out
    have HNw := hid HL8.out.new
    clear hvr hvw
    go_wp2_with (first
      | (go_at_call 26; (refine hde.mono ?_); rintro e w' ⟨rfl, hw⟩; obtain rfl := hw.symm)
      | (go_at_call 30; (refine (HAw.out _).mono ?_); rintro e w13 ⟨rfl, h1⟩; have B5 := hid h1; clear h1))
    go_ret
    exact ⟨rfl, HNw.out.trans (B5.out.mono HNw.out.size)⟩
end Go.Proofs.Ytgebjfkmiaobgaa
