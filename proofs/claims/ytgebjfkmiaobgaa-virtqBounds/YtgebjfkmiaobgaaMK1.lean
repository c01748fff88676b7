/- Descriptors as they stand in a memory. -/
import Derived.Test.YtgebjfkmiaobgaaMH3
import Derived.Laws.AppendOwnNone
import Derived.Test.YtgebjfkmiaobgaaRows
import Derived.Test.YtgebjfkmiaobgaaMC2
import Derived.OpenShut
import Derived.SizedLaws
import Derived.Deep.Slices
namespace Go.Proofs.Ytgebjfkmiaobgaa
open Go.RowKit
open C (Only hid Still ret_int ret_bool Mem RMem okN rdF wrF hasB nu put byt TB Tw TwB)
set_option linter.unusedVariables false
set_option maxRecDepth 100000

theorem okN_in {bs : Int} {n : Nat} {a : Int} {z : Nat} (hz : z = 2 ∨ z = 4 ∨ z = 8) (h1 : bs ≤ a) (h2 : a + z ≤ bs + 4096 * n) : okN bs n a z = true := by
  unfold okN
  obtain ⟨off, rfl⟩ : ∃ off : Nat, a = bs + off := ⟨(a - bs).toNat, by omega⟩
  rw [C.hasB_of (by omega)]
  rcases hz with rfl | rfl | rfl <;> rfl
theorem has_in {bs : Int} {n : Nat} {a z : Int} (h1 : bs ≤ a) (h0 : 0 ≤ z) (h2 : a + z ≤ bs + 4096 * n) : hasB bs n a z = true := by
  obtain ⟨off, rfl⟩ : ∃ off : Nat, a = bs + off := ⟨(a - bs).toNat, by omega⟩
  obtain ⟨k, rfl⟩ : ∃ k : Nat, z = k := ⟨z.toNat, by omega⟩
  exact C.hasB_of (by omega)
theorem has_no {bs : Int} {n : Nat} {a z : Int} (h : bs + 4096 * n < a + z) : hasB bs n a z = false := by
  cases e : hasB bs n a z
  · rfl
  · obtain ⟨off, len, h1, h2, h3⟩ := C.hasB_off e
    omega
/-- a descriptor -/
structure Ds where
  a : Int
  l : Int
  f : Int
  x : Int
def dsF (bs : Int) (n : Nat) (f : Nat → Int) (at0 : Int) : Ds := ⟨rdF bs n f at0 8, rdF bs n f (at0 + 8) 4, rdF bs n f (at0 + 12) 2, rdF bs n f (at0 + 14) 2⟩
theorem rd_same2 {bs : Int} {n : Nat} (f : Nat → Int) (a v : Int) (v0 : 0 ≤ v) (h : okN bs n a 2 = true) : rdF bs n (wrF bs n f a 2 v) a 2 = v % 65536 := rd_same f a 2 v v0 h
theorem rd_same4 {bs : Int} {n : Nat} (f : Nat → Int) (a v : Int) (v0 : 0 ≤ v) (h : okN bs n a 4 = true) : rdF bs n (wrF bs n f a 4 v) a 4 = v % 4294967296 := rd_same f a 4 v v0 h
theorem rd_same8 {bs : Int} {n : Nat} (f : Nat → Int) (a v : Int) (v0 : 0 ≤ v) (v1 : v < 18446744073709551616) (h : okN bs n a 8 = true) : rdF bs n (wrF bs n f a 8 v) a 8 = v := (rd_same f a 8 v v0 h).trans (by rw [show (256 : Int) ^ 8 = 18446744073709551616 by decide]; omega)
theorem rd_out {bs : Int} {n : Nat} (f : Nat → Int) (a a' v : Int) (z z' : Nat) (Z Z' : Int) (hz : Z = z) (hz' : Z' = z') (h : a + Z ≤ a' ∨ a' + Z' ≤ a) : rdF bs n (wrF bs n f a' Z' v) a Z = rdF bs n f a Z := by
  rw [hz, hz']
  exact rd_other f a a' z z' v (by omega)
theorem ds_same {bs : Int} {n : Nat} (f : Nat → Int) (at0 a l fl x : Int) (a0 : 0 ≤ a) (a1 : a < 18446744073709551616) (l0 : 0 ≤ l) (f0 : 0 ≤ fl) (x0 : 0 ≤ x) (h1 : bs ≤ at0) (h2 : at0 + 16 ≤ bs + 4096 * n) : dsF bs n (putD bs n f at0 a l fl x) at0 = ⟨a, l % 4294967296, fl % 65536, x % 65536⟩ := by
  unfold dsF putD
  congr 1
  · rw [rd_out _ _ _ _ 8 2 8 2 rfl rfl (by omega), rd_out _ _ _ _ 8 2 8 2 rfl rfl (by omega), rd_out _ _ _ _ 8 4 8 4 rfl rfl (by omega), rd_same8 _ _ _ a0 a1 (okN_in (z := 8) (by omega) h1 (by omega))]
  · rw [rd_out _ _ _ _ 4 2 4 2 rfl rfl (by omega), rd_out _ _ _ _ 4 2 4 2 rfl rfl (by omega), rd_same4 _ _ _ l0 (okN_in (z := 4) (by omega) (by omega) (by omega))]
  · rw [rd_out _ _ _ _ 2 2 2 2 rfl rfl (by omega), rd_same2 _ _ _ f0 (okN_in (z := 2) (by omega) (by omega) (by omega))]
  · rw [rd_same2 _ _ _ x0 (okN_in (z := 2) (by omega) (by omega) (by omega))]
theorem pd_out {bs : Int} {n : Nat} (f : Nat → Int) (at0 a l fl x : Int) (y : Int) (z : Nat) (Z : Int) (hz : Z = z) (h : y + Z ≤ at0 ∨ at0 + 16 ≤ y) : rdF bs n (putD bs n f at0 a l fl x) y Z = rdF bs n f y Z := by
  unfold putD
  rw [rd_out _ _ _ _ z 2 Z 2 hz rfl (by omega), rd_out _ _ _ _ z 2 Z 2 hz rfl (by omega), rd_out _ _ _ _ z 4 Z 4 hz rfl (by omega), rd_out _ _ _ _ z 8 Z 8 hz rfl (by omega)]
theorem ds_other {bs : Int} {n : Nat} (f : Nat → Int) (at0 a l fl x y : Int) (h : y + 16 ≤ at0 ∨ at0 + 16 ≤ y) : dsF bs n (putD bs n f at0 a l fl x) y = dsF bs n f y := by
  unfold dsF
  rw [pd_out _ _ _ _ _ _ _ 8 8 rfl (by omega), pd_out _ _ _ _ _ _ _ 4 4 rfl (by omega), pd_out _ _ _ _ _ _ _ 2 2 rfl (by omega), pd_out _ _ _ _ _ _ _ 2 2 rfl (by omega)]
theorem ds_wr {bs : Int} {n : Nat} (f : Nat → Int) (y a v : Int) (z : Nat) (Z : Int) (hz : Z = z) (h : y + 16 ≤ a ∨ a + Z ≤ y) : dsF bs n (wrF bs n f a Z v) y = dsF bs n f y := by
  unfold dsF
  rw [rd_out _ _ _ _ 8 z 8 Z rfl hz (by omega), rd_out _ _ _ _ 4 z 4 Z rfl hz (by omega), rd_out _ _ _ _ 2 z 2 Z rfl hz (by omega), rd_out _ _ _ _ 2 z 2 Z rfl hz (by omega)]
theorem okD_in (p : Nat) {bs : Int} {n : Nat} (f : Nat → Int) (at0 : Int) (h1 : bs ≤ at0) (h2 : at0 + 16 ≤ bs + 4096 * n) : okD (RmG p bs n) f at0 = true := by
  show (okN bs n at0 8 && okN bs n (at0 + 8) 4 && okN bs n (at0 + 12) 2 && okN bs n (at0 + 14) 2) = true
  rw [show okN bs n at0 8 = true from okN_in (z := 8) (by omega) h1 (by omega), show okN bs n (at0 + 8) 4 = true from okN_in (z := 4) (by omega) (by omega) (by omega), show okN bs n (at0 + 12) 2 = true from okN_in (z := 2) (by omega) (by omega) (by omega), show okN bs n (at0 + 14) 2 = true from okN_in (z := 2) (by omega) (by omega) (by omega)]
  rfl
theorem fol_stepG (G : MG) (s : G.σ) (v : QV) (k : Nat) (i : Int) (R W : List (Int × Int)) (hi : i < v.sz) (D : Ds) (hD : (⟨G.rd s (v.d + 16 * i) 8, G.rd s (v.d + 16 * i + 8) 4, G.rd s (v.d + 16 * i + 12) 2, G.rd s (v.d + 16 * i + 14) 2⟩ : Ds) = D) (hk : okD G s (v.d + 16 * i) = true) :
    fol G s v (k + 1) i R W = bif !mayD G s D.a D.l D.f (decide (0 < W.length)) then (32, [], []) else
      bif fM D.f then fol G s v k D.x (bif fW2 D.f then R else R ++ [(D.a, D.l)]) (bif fW2 D.f then W ++ [(D.a, D.l)] else W) else (0, bif fW2 D.f then R else R ++ [(D.a, D.l)], bif fW2 D.f then W ++ [(D.a, D.l)] else W) := by
  have h1 : decide (v.sz ≤ i) = false := by simpa using hi
  conv => lhs; unfold fol
  rw [h1, hk, Bool.true_and]
  subst hD
  rfl
/-- one step along a chain -/
theorem fol_step (p : Nat) (bs : Int) (n : Nat) (f : Nat → Int) (v : QV) (k : Nat) (i : Int) (R W : List (Int × Int)) (hi : i < v.sz) (D : Ds) (hD : dsF bs n f (v.d + 16 * i) = D) (hk : okD (RmG p bs n) f (v.d + 16 * i) = true) :
    fol (RmG p bs n) f v (k + 1) i R W = bif !mayD (RmG p bs n) f D.a D.l D.f (decide (0 < W.length)) then (32, [], []) else
      bif fM D.f then fol (RmG p bs n) f v k D.x (bif fW2 D.f then R else R ++ [(D.a, D.l)]) (bif fW2 D.f then W ++ [(D.a, D.l)] else W) else (0, bif fW2 D.f then R else R ++ [(D.a, D.l)], bif fW2 D.f then W ++ [(D.a, D.l)] else W) :=
  fol_stepG (RmG p bs n) f v k i R W hi D hD hk
theorem fol_end (G : MG) (s : G.σ) (v : QV) (i : Int) (R W : List (Int × Int)) (hi : i < v.sz) : fol G s v 0 i R W = (31, [], []) := by
  have h1 : decide (v.sz ≤ i) = false := by simpa using hi
  unfold fol
  rw [h1]
  rfl
theorem fol_far (G : MG) (s : G.σ) (v : QV) (k : Nat) (i : Int) (R W : List (Int × Int)) (hi : v.sz ≤ i) : fol G s v k i R W = (32, [], []) := by
  have h1 : decide (v.sz ≤ i) = true := by simpa using hi
  cases k <;> (unfold fol; rw [h1]; rfl)
/-- n is a power of two below 128 -/
theorem sh7 (k : Int) (k0 : 0 ≤ k) (k1 : k < 7) : ∃ n : Nat, (2 : Int) ^ k.toNat = n ∧ isSz n = true ∧ 1 ≤ n ∧ n ≤ 64 := by
  have : k = 0 ∨ k = 1 ∨ k = 2 ∨ k = 3 ∨ k = 4 ∨ k = 5 ∨ k = 6 := by omega
  rcases this with rfl | rfl | rfl | rfl | rfl | rfl | rfl
  · exact ⟨1, rfl, rfl, by decide, by decide⟩
  · exact ⟨2, rfl, rfl, by decide, by decide⟩
  · exact ⟨4, rfl, rfl, by decide, by decide⟩
  · exact ⟨8, rfl, rfl, by decide, by decide⟩
  · exact ⟨16, rfl, rfl, by decide, by decide⟩
  · exact ⟨32, rfl, rfl, by decide, by decide⟩
  · exact ⟨64, rfl, rfl, by decide, by decide⟩
/-- a queue as the laws set it up -/
def vN (n : Nat) : QV := ⟨n, 256, 2048, 2304, 0, 0, false⟩
theorem vN_set (n : Nat) (h : isSz n = true) : okS q0 n 256 2048 2304 = true ∧ q0.set n 256 2048 2304 = vN n := by
  have : okS q0 n 256 2048 2304 = true := by unfold okS; rw [h]; rfl
  exact ⟨this, by unfold QV.set; rw [this]; rfl⟩
end Go.Proofs.Ytgebjfkmiaobgaa
namespace Go.Proofs.Ytgebjfkmiaobgaa
open Go.RowKit
open C (Only hid Still ret_int ret_bool)
set_option linter.unusedVariables false
set_option maxRecDepth 100000

theorem sgs_app (R W : List (Int × Int)) : sgs (R ++ W) = sgs R ++ sgs W := by simp [sgs]
theorem sgs_one (L : List (Int × Int)) : ∀ u ∈ sgs L, u.oneCell' = true := by
  intro u hu
  simp [sgs] at hu
  obtain ⟨a, b, _, h⟩ := hu
  rcases h with rfl | rfl <;> rfl
theorem wp_app {w : World} {o : Oper} {a : Act} {Q : Exit → Act → World → Prop} {K : Act → World → Prop} (s x : Operand) (ho : o.op = .call { callee := .builtin .append, args := #[s, x], argTypes := #[40, 40] }) {B C : Nat} {V U : Value} {L M : List (Int × Int)} (hs : a.eval s = V) (hV : Sg w B V L) (hx : a.eval x = U) (hU : Sg w C U M) (hl : L.length ≤ 1000) (hm : M.length ≤ 1000) (hB : B ≤ w.heap.size)
    (h : ∀ v' w', Sg w' B v' (L ++ M) → Only (Ug V) w w' → K (a.put o.dst v') w') : o.wp Try.prog a w K Q := by
  obtain ⟨i0, hi0, hz0, hs0, hb0⟩ := info_parts info_seg
  rcases hU.own.2 with ⟨h1, h2⟩ | ⟨g, cap, cur, h1, h2, h3, h4⟩
  · have hM : M = [] := List.length_eq_zero_iff.1 h2
    subst hM
    have hrun := run_append_owned_none (P := Try.prog) (w := w) 0 40 o.type 61 i0 2 u_sseg hi0 V L.length (sgs L) hV.own
    unfold Oper.wp
    have hx' : a.eval x = .slice none 0 0 := by rw [hx, h1]
    simp [execOp, ho, resolve, invoke, builtin, hs, hx', hrun, Result.andThen]
    exact h V w (by simpa using hV) (Only.refl w)
  · by_cases h0 : 0 < M.length
    · obtain ⟨g', cp, e1, e2, e3, e4, e5⟩ := hU.at h0
      rw [e1] at hx
      have hcell : ∀ j u, (sgs M)[j]? = some u → w.cell? ((⟨g', 0, none⟩ : Addr).add j) = some u := fun j u hj => by
        have hjl : j < M.length * 2 := by rw [← sgs_len]; exact (List.getElem?_eq_some_iff.1 hj).1
        obtain ⟨y, hy⟩ : ∃ y, M[j / 2]? = some y := ⟨M[j / 2]'(by omega), List.getElem?_eq_getElem _⟩
        obtain ⟨a1, a2⟩ := sgs_at M (j / 2) y hy
        obtain ⟨b1, b2⟩ := e5 (j / 2) y hy
        rw [_root_.Go.Proofs.Ytgebjfkmiaobgaa.C.addr_add, Nat.zero_add]
        rcases Nat.mod_two_eq_zero_or_one j with z | z
        · rw [show j / 2 * 2 = j by omega] at a1 b1
          rw [a1] at hj; rw [← hj]; exact b1
        · rw [show j / 2 * 2 + 1 = j by omega] at a2 b2
          rw [a2] at hj; rw [← hj]; exact b2
      refine wp_append_blk w s x 40 ho 61 i0 _ 2 16 u_sseg hi0 hz0 hs0 hb0 rfl (by decide) V L.length (sgs L) hs hV.own ⟨g', 0, none⟩ M.length cp (sgs M) hx (sgs_len M) hcell (sgs_one M) (show L.length + M.length ≤ 9223372036854775807 by omega) (by omega) ?_
      intro v' w' k1 k2 k3
      exact h v' w' ⟨by rw [List.length_append, sgs_app]; exact k1, fun k hk => (k3 k hk).elim (hV.ge k) fun z => Nat.le_trans hB z⟩ (grown_ug k2)
    · have hM : M = [] := List.length_eq_zero_iff.1 (by omega)
      subst hM
      rw [h1] at hx
      refine wp_append_blk w s x 40 ho 61 i0 _ 2 16 u_sseg hi0 hz0 hs0 hb0 rfl (by decide) V L.length (sgs L) hs hV.own ⟨g, 0, none⟩ 0 cap [] hx rfl (fun j u hj => by cases hj) (fun u hu => by cases hu) (show L.length + 0 ≤ 9223372036854775807 by omega) (by omega) ?_
      intro v' w' k1 k2 k3
      exact h v' w' ⟨by simpa using k1, fun k hk => (k3 k hk).elim (hV.ge k) fun z => Nat.le_trans hB z⟩ (grown_ug k2)
/-- the states of a region that joins two lists in a new one -/
def MJ (w0 : World) (R W : List (Int × Int)) : Nat → Value × Value → World → Prop
  | 0, _, w => w = w0
  | 1, x, w => Sg w w0.heap.size x.1 R ∧ Below w0.heap.size w0 w
  | _ + 2, x, w => Sg w w0.heap.size x.2 (R ++ W) ∧ Below w0.heap.size w0 w
theorem MJ.bel {w0 w : World} {R W : List (Int × Int)} {s : Nat} {x : Value × Value} (h : MJ w0 R W s x w) : Below w0.heap.size w0 w := by
  match s, h with
  | 0, h => obtain rfl : w = w0 := h; exact .refl _ _
  | 1, h => exact h.2
  | _ + 2, h => exact h.2
end Go.Proofs.Ytgebjfkmiaobgaa
namespace Go.Proofs.Ytgebjfkmiaobgaa
open Go.RowKit
open C (Only hid Still ret_int ret_bool)
set_option linter.unusedVariables false
set_option maxRecDepth 100000

/-- a piece that a memory has -/
def Gd (G : MG) (s : G.σ) (x : Int × Int) : Prop := (0 ≤ x.1 ∧ x.1 < 18446744073709551616) ∧ (0 ≤ x.2 ∧ x.2 < 4294967296) ∧ (x.2 = 0 ∨ G.has s x.1 x.2 = true)
/-- what is read are numbers -/
def Rb (G : MG) (s : G.σ) : Prop := ∀ a : Int, 0 ≤ a → (0 ≤ G.rd s a 2 ∧ G.rd s a 2 < 65536) ∧ (0 ≤ G.rd s a 4 ∧ G.rd s a 4 < 4294967296) ∧ 0 ≤ G.rd s a 8 ∧ G.rd s a 8 < 18446744073709551616
section
variable {G : MG} {s : G.σ} {v : QV}
theorem fol_ok (hr : Rb G s) (hd : 0 ≤ v.d) : ∀ (k : Nat) (i : Int) (R W R' W' : List (Int × Int)), 0 ≤ i → fol G s v k i R W = (0, R', W') → i < v.sz ∧ R'.length + W'.length ≤ R.length + W.length + k ∧ R.length + W.length < R'.length + W'.length ∧ (∀ x ∈ R', x ∈ R ∨ Gd G s x) ∧ ∀ x ∈ W', x ∈ W ∨ Gd G s x := by
  intro k
  induction k with
  | zero =>
    intro i R W R' W' i0 h
    by_cases hi : i < v.sz
    · rw [fol_end G s v i R W hi] at h
      cases h
    · rw [fol_far G s v 0 i R W (by omega)] at h
      cases h
  | succ k ih =>
    intro i R W R' W' i0 h
    by_cases hi : i < v.sz
    · cases hk : okD G s (v.d + 16 * i)
      · have h1 : decide (v.sz ≤ i) = false := by simpa using hi
        unfold fol at h
        rw [h1, hk] at h
        cases h
      · obtain ⟨-, -, a0, a1⟩ := hr (v.d + 16 * i) (by omega)
        obtain ⟨-, ⟨l0, l1⟩, -⟩ := hr (v.d + 16 * i + 8) (by omega)
        obtain ⟨⟨x0, x1⟩, -⟩ := hr (v.d + 16 * i + 14) (by omega)
        rw [fol_stepG G s v k i R W hi _ rfl hk] at h
        generalize hD : (⟨G.rd s (v.d + 16 * i) 8, G.rd s (v.d + 16 * i + 8) 4, G.rd s (v.d + 16 * i + 12) 2, G.rd s (v.d + 16 * i + 14) 2⟩ : Ds) = D at h
        have ea : D.a = G.rd s (v.d + 16 * i) 8 := by rw [← hD]
        have el : D.l = G.rd s (v.d + 16 * i + 8) 4 := by rw [← hD]
        have ex : D.x = G.rd s (v.d + 16 * i + 14) 2 := by rw [← hD]
        rw [← ea] at a0 a1
        rw [← el] at l0 l1
        rw [← ex] at x0 x1
        clear hD ea el ex
        cases hm : mayD G s D.a D.l D.f (decide (0 < W.length))
        · rw [hm] at h; cases h
        · rw [hm] at h
          have hg : Gd G s (D.a, D.l) := by
            refine ⟨⟨a0, a1⟩, ⟨l0, l1⟩, ?_⟩
            unfold mayD at hm
            simp only [Bool.and_eq_true, Bool.or_eq_true, beq_iff_eq] at hm
            exact hm.2
          cases hw : fW2 D.f
          · rw [hw] at h
            cases hmm : fM D.f
            · rw [hmm] at h
              obtain ⟨rfl, rfl⟩ : R ++ [(D.a, D.l)] = R' ∧ W = W' := by
                have := (Prod.mk.inj h).2
                exact Prod.mk.inj this
              refine ⟨hi, by simp <;> omega, by simp <;> omega, fun x hx => ?_, fun x hx => .inl hx⟩
              rcases List.mem_append.1 hx with z | z
              · exact .inl z
              · rw [List.mem_singleton.1 z]; exact .inr hg
            · rw [hmm] at h
              obtain ⟨-, k2, k3, k4, k5⟩ := ih D.x (R ++ [(D.a, D.l)]) W R' W' x0 h
              simp at k2 k3
              refine ⟨hi, by omega, by omega, fun x hx => ?_, k5⟩
              rcases k4 x hx with z | z
              · rcases List.mem_append.1 z with y | y
                · exact .inl y
                · rw [List.mem_singleton.1 y]; exact .inr hg
              · exact .inr z
          · rw [hw] at h
            cases hmm : fM D.f
            · rw [hmm] at h
              obtain ⟨rfl, rfl⟩ : R = R' ∧ W ++ [(D.a, D.l)] = W' := by
                have := (Prod.mk.inj h).2
                exact Prod.mk.inj this
              refine ⟨hi, by simp <;> omega, by simp <;> omega, fun x hx => .inl hx, fun x hx => ?_⟩
              rcases List.mem_append.1 hx with z | z
              · exact .inl z
              · rw [List.mem_singleton.1 z]; exact .inr hg
            · rw [hmm] at h
              obtain ⟨-, k2, k3, k4, k5⟩ := ih D.x R (W ++ [(D.a, D.l)]) R' W' x0 h
              simp at k2 k3
              refine ⟨hi, by omega, by omega, k4, fun x hx => ?_⟩
              rcases k5 x hx with z | z
              · rcases List.mem_append.1 z with y | y
                · exact .inl y
                · rw [List.mem_singleton.1 y]; exact .inr hg
              · exact .inr z
    · rw [fol_far G s v (k + 1) i R W (by omega)] at h
      cases h
/-- what a Next tells -/
structure NXok (G : MG) (s : G.σ) (v : QV) (n : Nat) (X : NX) : Prop where
  v : X.v.sz = v.sz ∧ X.v.d = v.d ∧ X.v.a = v.a ∧ X.v.u = v.u ∧ X.v.gv = v.gv
  yes : X.good = true → X.e = 0 ∧ 0 ≤ X.h ∧ X.h < n ∧ X.R.length + X.W.length ≤ n ∧ 1 ≤ X.R.length + X.W.length ∧ (∀ x ∈ X.R, Gd G s x) ∧ ∀ x ∈ X.W, Gd G s x
  no : X.good = false → X.h = 0 ∧ X.R = [] ∧ X.W = [] ∧ (X.e ≠ 0 → X.v.dead = true)
theorem nx_ok (hr : Rb G s) (ho : QOk v) (n : Nat) (hn : v.sz = n) (n0 : 0 < n) : NXok G s v n (nxF G s v n) := by
  have hz : ¬ v.sz = 0 := by omega
  unfold nxF
  rw [if_neg hz]
  cases hd : v.dead
  · rw [if_neg (by decide)]
    cases hE : (ofE G s v != 0)
    · cases hN : (ofN G s v == 0)
      · have ht : (tkF G s v n).v.sz = v.sz ∧ (tkF G s v n).v.d = v.d ∧ (tkF G s v n).v.a = v.a ∧ (tkF G s v n).v.u = v.u ∧ (tkF G s v n).v.gv = v.gv := by
          unfold tkF
          cases G.ok s (avA v) 2 <;> exact ⟨rfl, rfl, rfl, rfl, rfl⟩
        cases hT : ((tkF G s v n).e == 0)
        · refine ⟨ht, fun h => ?_, fun _ => ⟨rfl, rfl, rfl, fun _ => rfl⟩⟩
          cases h
        · have he : (tkF G s v n).e = 0 := by simpa using hT
          refine ⟨ht, fun _ => ?_, fun h => ?_⟩
          · have hb := isSz_b (ho.sz.resolve_left hz)
            have hav : 0 ≤ avA v := by
              have h1 := ho.a.1
              have h2 : 0 ≤ v.tk % v.sz := Int.emod_nonneg _ hz
              unfold avA
              omega
            obtain ⟨⟨r0, r1⟩, -⟩ := hr (avA v) hav
            unfold tkF at he
            cases hk : G.ok s (avA v) 2
            · rw [hk] at he
              exact absurd (show (32 : Int) = 0 from he) (by decide)
            · rw [hk] at he
              have he' : (fol G s v.take n (G.rd s (avA v) 2) [] []).1 = 0 := he
              obtain ⟨k1, k2, k3, k4, k5⟩ := fol_ok (v := v.take) hr ho.d.1 n (G.rd s (avA v) 2) [] [] (fol G s v.take n (G.rd s (avA v) 2) [] []).2.1 (fol G s v.take n (G.rd s (avA v) 2) [] []).2.2 r0 (by rw [← he'])
              have e1 : (tkF G s v n).h = G.rd s (avA v) 2 := by
                unfold tkF
                rw [hk]
                show hdF (fol G s v.take n (G.rd s (avA v) 2) [] []).1 (G.rd s (avA v) 2) = _
                rw [he']; rfl
              have e2 : (tkF G s v n).R = (fol G s v.take n (G.rd s (avA v) 2) [] []).2.1 := by unfold tkF; rw [hk]; rfl
              have e3 : (tkF G s v n).W = (fol G s v.take n (G.rd s (avA v) 2) [] []).2.2 := by unfold tkF; rw [hk]; rfl
              have k1' : G.rd s (avA v) 2 < v.sz := k1
              simp at k2 k3
              refine ⟨rfl, ?_, ?_, ?_, ?_, ?_, ?_⟩
              · show 0 ≤ (tkF G s v n).h
                rw [e1]; exact r0
              · show (tkF G s v n).h < n
                rw [e1]; omega
              · show (tkF G s v n).R.length + (tkF G s v n).W.length ≤ n
                rw [e2, e3]; exact k2
              · show 1 ≤ (tkF G s v n).R.length + (tkF G s v n).W.length
                rw [e2, e3]; omega
              · show ∀ x ∈ (tkF G s v n).R, Gd G s x
                rw [e2]; exact fun x hx => (k4 x hx).resolve_left (by simp)
              · show ∀ x ∈ (tkF G s v n).W, Gd G s x
                rw [e3]; exact fun x hx => (k5 x hx).resolve_left (by simp)
          · cases h
      · exact ⟨⟨rfl, rfl, rfl, rfl, rfl⟩, fun h => (by cases h), fun _ => ⟨rfl, rfl, rfl, fun h => absurd rfl h⟩⟩
    · exact ⟨⟨rfl, rfl, rfl, rfl, rfl⟩, fun h => (by cases h), fun _ => ⟨rfl, rfl, rfl, fun _ => rfl⟩⟩
  · rw [if_pos rfl]
    exact ⟨⟨rfl, rfl, rfl, rfl, rfl⟩, fun h => (by cases h), fun _ => ⟨rfl, rfl, rfl, fun _ => hd⟩⟩
end
end Go.Proofs.Ytgebjfkmiaobgaa
namespace Go.Proofs.Ytgebjfkmiaobgaa
open Go.ChangeShapes Go.WideShapes Go.ChangeAt Go.RowKit Go.Deep
set_option linter.unusedVariables false

theorem cells_i8 : Try.prog.cellsOf 3 = 1 := by kernel_rfl
theorem cells_u8 : Try.prog.cellsOf 22 = 1 := by kernel_rfl
theorem addr_two (a : Addr) (i j : Nat) : (a.add i).add j = a.add (i + j) := by
  unfold Addr.add
  by_cases hi : i = 0
  · subst hi; simp
  · by_cases hj : j = 0
    · subst hj; simp
    · have : ¬ i + j = 0 := by omega
      simp [hi, hj, Nat.add_assoc]
theorem fld8 {T k : Nat} {t : TypeId} {o : Nat} (h : ((Try.prog.fieldsOf T)[k]?).map (fun f => (f.type, f.offset)) = some (t, o)) : ∃ f, (Try.prog.fieldsOf T)[k]? = some f ∧ f.type = t ∧ f.offset = o := by
  cases hq : (Try.prog.fieldsOf T)[k]? with
  | none => rw [hq] at h; cases h
  | some f => rw [hq] at h; simp at h; exact ⟨f, rfl, h.1, h.2⟩
structure VopV where
  kd : Int
  at0 : Int
  hd : Int
  fl : Int
  ad : Int
  n : Int
def VopV.cs (x : VopV) : List Value := [.int .i64 x.kd, .int .i64 x.at0, .int .i64 x.hd, .int .i64 x.fl, .int .u64 x.ad, .int .u64 x.n]
structure VopB (x : VopV) : Prop where
  kd : -9223372036854775808 ≤ x.kd ∧ x.kd ≤ 9223372036854775807
  at0 : -9223372036854775808 ≤ x.at0 ∧ x.at0 ≤ 9223372036854775807
  hd : -9223372036854775808 ≤ x.hd ∧ x.hd ≤ 9223372036854775807
  fl : -9223372036854775808 ≤ x.fl ∧ x.fl ≤ 9223372036854775807
  ad : 0 ≤ x.ad ∧ x.ad < 18446744073709551616
  n : 0 ≤ x.n ∧ x.n < 18446744073709551616
structure Vc (w : World) (ad : Option Addr) (la cap ab ao : Nat) (X : Nat → VopV) : Prop where
  len : la ≤ cap
  cap : cap ≤ 9223372036854775807
  at0 : 0 < la → ad = some ⟨ab, ao, none⟩ ∧ ab < w.heap.size
  cell : ∀ i, i < la → ∀ j, j < 6 → w.cell? ⟨ab, ao + i * 6 + j, none⟩ = (X i).cs[j]?
  num : ∀ i, i < la → VopB (X i)
theorem Vc.below {w w' : World} {ad : Option Addr} {la cap ab ao : Nat} {X : Nat → VopV} (h : Vc w ad la cap ab ao X) (hb : Below w.heap.size w w') : Vc w' ad la cap ab ao X :=
  ⟨h.len, h.cap, fun q => ⟨(h.at0 q).1, Nat.lt_of_lt_of_le (h.at0 q).2 hb.size⟩, fun i hi j hj => by
    have hlt := (h.at0 (by omega)).2
    have e : ∀ o, w'.cell? ⟨ab, o, none⟩ = w.cell? ⟨ab, o, none⟩ := fun o => World.cell?_of_block (w := w) (hb.block _ hlt)
    rw [e]; exact h.cell i hi j hj, h.num⟩
theorem under_vop : Try.prog.underlying 38 = some (.struct (Try.prog.fieldsOf 38)) := by kernel_rfl
theorem cells_vop : Try.prog.cellsOf 38 = 6 := by kernel_rfl
theorem u_sVOp : Try.prog.underlying 24 = some (.slice 38) := by kernel_rfl
set_option maxRecDepth 100000 in
theorem open_vop {H : Type} {enc : TypeId × Value → H} {W : World} {base fuel : Nat} {cs : List Value} {x : DataW H × List MemPlace} (h : DataW.trod enc Try.prog W base (fun _ => true) true fuel 38 cs = some x) :
    ∃ X : VopV, cs = X.cs ∧ VopB X := by
  obtain ⟨xs, n, _, rfl, hcl, hlen, hfs⟩ := DataW.trod_struct under_vop h
  have hl : xs.length = 6 := by rw [hlen]; kernel_rfl
  rw [cells_vop] at hcl
  obtain ⟨f0, e0, t0, o0⟩ := fld8 (T := 38) (k := 0) (t := 3) (o := 0) (by kernel_rfl)
  have q0 := hfs 0 f0 e0
  rw [t0, o0, cells_i8, List.getElem?_eq_getElem (by omega)] at q0
  obtain ⟨z0, r0, _, w0⟩ := DataW.trod_int Try.underlying3 q0
  obtain ⟨f1, e1, t1, o1⟩ := fld8 (T := 38) (k := 1) (t := 3) (o := 1) (by kernel_rfl)
  have q1 := hfs 1 f1 e1
  rw [t1, o1, cells_i8, List.getElem?_eq_getElem (by omega)] at q1
  obtain ⟨z1, r1, _, w1⟩ := DataW.trod_int Try.underlying3 q1
  obtain ⟨f2, e2, t2, o2⟩ := fld8 (T := 38) (k := 2) (t := 3) (o := 2) (by kernel_rfl)
  have q2 := hfs 2 f2 e2
  rw [t2, o2, cells_i8, List.getElem?_eq_getElem (by omega)] at q2
  obtain ⟨z2, r2, _, w2⟩ := DataW.trod_int Try.underlying3 q2
  obtain ⟨f3, e3, t3, o3⟩ := fld8 (T := 38) (k := 3) (t := 3) (o := 3) (by kernel_rfl)
  have q3 := hfs 3 f3 e3
  rw [t3, o3, cells_i8, List.getElem?_eq_getElem (by omega)] at q3
  obtain ⟨z3, r3, _, w3⟩ := DataW.trod_int Try.underlying3 q3
  obtain ⟨f4, e4, t4, o4⟩ := fld8 (T := 38) (k := 4) (t := 22) (o := 4) (by kernel_rfl)
  have q4 := hfs 4 f4 e4
  rw [t4, o4, cells_u8, List.getElem?_eq_getElem (by omega)] at q4
  obtain ⟨z4, r4, _, w4⟩ := DataW.trod_int Try.underlying22 q4
  obtain ⟨f5, e5, t5, o5⟩ := fld8 (T := 38) (k := 5) (t := 22) (o := 5) (by kernel_rfl)
  have q5 := hfs 5 f5 e5
  rw [t5, o5, cells_u8, List.getElem?_eq_getElem (by omega)] at q5
  obtain ⟨z5, r5, _, w5⟩ := DataW.trod_int Try.underlying22 q5
  obtain ⟨c0, c1, c2, c3, c4, c5, rfl⟩ : ∃ c0 c1 c2 c3 c4 c5, cs = [c0, c1, c2, c3, c4, c5] := by
    match cs, hcl with
    | [c0, c1, c2, c3, c4, c5], _ => exact ⟨c0, c1, c2, c3, c4, c5, rfl⟩
  simp at r0 r1 r2 r3 r4 r5
  subst r0 r1 r2 r3 r4 r5
  have b4 := bounds_u64 w4
  have b5 := bounds_u64 w5
  exact ⟨⟨z0, z1, z2, z3, z4, z5⟩, rfl, ⟨bounds_i64 w0, bounds_i64 w1, bounds_i64 w2, bounds_i64 w3, ⟨b4.1, by show z4 < _; omega⟩, ⟨b5.1, by show z5 < _; omega⟩⟩⟩
set_option maxRecDepth 100000 in
/-- a script, as it stands -/
theorem open_vops {H : Type} {enc : TypeId × Value → H} {W : World} {base : Nat} {r : Reach} {b : Nat} {v : Value} {d : DataW H} {p : List MemPlace}
    (hv : Value.okWide Try.prog W r b 24 v) (h : DataW.Trod enc Try.prog W base (fun _ => true) true 24 v d p) (hlt : ∀ x ∈ p, x.block < W.heap.size) :
    ∃ (ad : Option Addr) (la cap ab ao : Nat) (X : Nat → VopV), v = .slice ad la cap ∧ Vc W ad la cap ab ao X := by
  obtain ⟨a0, len, cap, rfl⟩ := okWide_slice u_sVOp hv
  obtain ⟨fuel, hf⟩ := h
  rcases open_slice u_sVOp hf with ⟨hcs, hx⟩ | ⟨a, len', cap', m, n, D, Pl, hcs, _, hl, hm, hmm, hx, hel⟩
  · simp [Value.cells] at hcs
    obtain ⟨rfl, rfl, rfl⟩ := hcs
    exact ⟨none, 0, 0, 0, 0, fun _ => ⟨0, 0, 0, 0, 0, 0⟩, rfl, ⟨Nat.le_refl _, by decide, fun q => absurd q (by decide), fun i hi => absurd hi (Nat.not_lt_zero i), fun i hi => absurd hi (Nat.not_lt_zero i)⟩⟩
  · simp [Value.cells] at hcs
    obtain ⟨rfl, rfl, rfl⟩ := hcs
    simp only [if_true] at hmm
    have each : ∀ i, ∃ X : VopV, i < len → VopB X ∧ ∀ j, j < 6 → W.cell? (a.add (i * 6 + j)) = X.cs[j]? := fun i => by
      rcases Nat.lt_or_ge i len with hi | hi
      · obtain ⟨cs', h1, h2⟩ := hel i (by omega)
        obtain ⟨X, rfl, b0⟩ := open_vop h2
        rw [cells_vop] at h1
        obtain ⟨_, hlen, hcell⟩ := World.cells?_some h1
        refine ⟨X, fun _ => ⟨b0, fun j hj => ?_⟩⟩
        have := hcell j hj
        rw [addr_two] at this
        exact this
      · exact ⟨⟨0, 0, 0, 0, 0, 0⟩, fun q => by omega⟩
    obtain ⟨X, hX⟩ := Classical.axiomOfChoice each
    clear each
    have hbl : ∀ h0 : 0 < len, a.spot = none ∧ a.block < W.heap.size := fun h0 => by
      have k0 := (hX 0 h0).2 0 (by decide)
      refine ⟨by simpa [Addr.add] using World.cell?_spot k0, ?_⟩
      obtain ⟨cs', h1, _⟩ := hel 0 (by omega)
      rw [cells_vop] at h1
      have := World.cells?_block h1 (by decide)
      simpa [Addr.add] using this
    obtain ⟨ab, ao, asp⟩ := a
    refine ⟨some ⟨ab, ao, asp⟩, len, cap, ab, ao, X, rfl, ⟨hl, by simpa [maxLen] using hm, fun h0 => ?_, fun i hi j hj => ?_, fun i hi => (hX i hi).1⟩⟩
    · obtain ⟨q1, q2⟩ := hbl h0
      obtain rfl : asp = none := q1
      exact ⟨rfl, q2⟩
    · obtain ⟨q1, q2⟩ := hbl (by omega)
      obtain rfl : asp = none := q1
      have k := (hX i hi).2 j hj
      rw [C.addr_add, ← Nat.add_assoc] at k
      exact k
theorem bytes_vop : Try.prog.bytesOf 38 = 48 := by kernel_rfl
set_option maxRecDepth 100000 in
theorem vops_len {H : Type} {enc : TypeId × Value → H} {W : World} {base : Nat} {ad : Option Addr} {la cap : Nat} {d : DataW H} {p : List MemPlace} (h : DataW.Trod enc Try.prog W base (fun _ => true) true 24 (.slice ad la cap) d p) (hw : ∀ n ∈ d.weights Try.prog 24, n ≤ reachBytes) : la ≤ 5864062014805 := by
  obtain ⟨fuel, hf⟩ := h
  rcases open_slice u_sVOp hf with ⟨hcs, hx⟩ | ⟨a, len', cap', m, n, D, Pl, hcs, _, hl, hm, hmm, hx, hel⟩
  · simp [Value.cells] at hcs
    obtain ⟨rfl, rfl, rfl⟩ := hcs
    exact Nat.zero_le _
  · simp [Value.cells] at hcs
    obtain ⟨rfl, rfl, rfl⟩ := hcs
    simp only [Prod.mk.injEq] at hx
    obtain ⟨rfl, rfl⟩ := hx
    have h2 := hw ((((List.range la).map D).length + ((List.range (m - la)).map fun j => D (la + j)).length) * Try.prog.bytesOf 38) (by simp [DataW.weights])
    rw [bytes_vop] at h2
    simp [reachBytes] at h2
    omega
/-- a list of numbers of a kind, as it stands -/
structure Nu (k : IntKind) (B : Int → Prop) (w : World) (ad : Option Addr) (la cap ab ao : Nat) (A : Nat → Int) : Prop where
  len : la ≤ cap
  cap : cap ≤ 9223372036854775807
  at0 : 0 < la → ad = some ⟨ab, ao, none⟩ ∧ ab < w.heap.size
  cell : ∀ i, i < la → w.cell? ⟨ab, ao + i, none⟩ = some (.int k (A i))
  num : ∀ i, B (A i)
theorem Nu.below {k : IntKind} {B : Int → Prop} {w w' : World} {ad : Option Addr} {la cap ab ao : Nat} {A : Nat → Int} (h : Nu k B w ad la cap ab ao A) (hb : Below w.heap.size w w') : Nu k B w' ad la cap ab ao A :=
  ⟨h.len, h.cap, fun q => ⟨(h.at0 q).1, Nat.lt_of_lt_of_le (h.at0 q).2 hb.size⟩, fun i hi => by
    have hlt := (h.at0 (by omega)).2
    rw [World.cell?_of_block (w := w) (hb.block _ hlt)]; exact h.cell i hi, h.num⟩
def Bi (x : Int) : Prop := -9223372036854775808 ≤ x ∧ x ≤ 9223372036854775807
def Bu (x : Int) : Prop := 0 ≤ x ∧ x < 18446744073709551616
def Bb (x : Int) : Prop := 0 ≤ x ∧ x < 256
theorem cells_u64s' : Try.prog.cellsOf 22 = 1 := by kernel_rfl
set_option maxRecDepth 100000 in
theorem open_u64s {H : Type} {enc : TypeId × Value → H} {W : World} {base : Nat} {r : Reach} {b : Nat} {v : Value} {d : DataW H} {p : List MemPlace}
    (hv : Value.okWide Try.prog W r b 64 v) (h : DataW.Trod enc Try.prog W base (fun _ => true) true 64 v d p) (hlt : ∀ x ∈ p, x.block < W.heap.size) :
    ∃ (ad : Option Addr) (la cap ab ao : Nat) (A : Nat → Int), v = .slice ad la cap ∧ Nu .u64 Bu W ad la cap ab ao A := by
  obtain ⟨ad, la, cap, ar, aa, rfl, hl, hm, hw, hc⟩ := C.open_nums Try.underlying64 Try.underlying22 cells_u64s' hv h hlt
  obtain ⟨ab, ao, asp⟩ := aa
  have hsp : 0 < la → asp = none := fun q => by
    have := (hc q).2.2 0 q
    simpa [Addr.add] using World.cell?_spot this
  refine ⟨ad, la, cap, ab, ao, ar, rfl, ⟨hl, hm, fun q => ?_, fun i hi => ?_, fun i => ?_⟩⟩
  · obtain rfl := hsp q
    exact ⟨(hc q).1, (hc q).2.1⟩
  · obtain rfl := hsp (by omega)
    have := (hc (by omega)).2.2 i hi
    rwa [C.addr_add] at this
  · rcases hw i with q | q
    · rw [q]; exact ⟨by decide, by decide⟩
    · have := bounds_u64 q; exact ⟨this.1, by omega⟩
theorem u_u64s9 : Try.prog.underlying 64 = some (.slice 22) := by kernel_rfl
theorem bytes_u64s9 : Try.prog.bytesOf 22 = 8 := by kernel_rfl
set_option maxRecDepth 100000 in
theorem u64s_len {H : Type} {enc : TypeId × Value → H} {W : World} {base : Nat} {ad : Option Addr} {la cap : Nat} {d : DataW H} {p : List MemPlace} (h : DataW.Trod enc Try.prog W base (fun _ => true) true 64 (.slice ad la cap) d p) (hw : ∀ n ∈ d.weights Try.prog 64, n ≤ reachBytes) : la ≤ 17592186044416 := by
  obtain ⟨fuel, hf⟩ := h
  rcases open_slice u_u64s9 hf with ⟨hcs, hx⟩ | ⟨a, len', cap', m, n, D, Pl, hcs, _, hl, hm, hmm, hx, hel⟩
  · simp [Value.cells] at hcs
    obtain ⟨rfl, rfl, rfl⟩ := hcs
    exact Nat.zero_le _
  · simp [Value.cells] at hcs
    obtain ⟨rfl, rfl, rfl⟩ := hcs
    simp only [Prod.mk.injEq] at hx
    obtain ⟨rfl, rfl⟩ := hx
    have h2 := hw ((((List.range la).map D).length + ((List.range (m - la)).map fun j => D (la + j)).length) * Try.prog.bytesOf 22) (by simp [DataW.weights])
    rw [bytes_u64s9] at h2
    simp [reachBytes] at h2
    omega
theorem cells_byts' : Try.prog.cellsOf 5 = 1 := by kernel_rfl
set_option maxRecDepth 100000 in
theorem open_byts {H : Type} {enc : TypeId × Value → H} {W : World} {base : Nat} {r : Reach} {b : Nat} {v : Value} {d : DataW H} {p : List MemPlace}
    (hv : Value.okWide Try.prog W r b 23 v) (h : DataW.Trod enc Try.prog W base (fun _ => true) true 23 v d p) (hlt : ∀ x ∈ p, x.block < W.heap.size) :
    ∃ (ad : Option Addr) (la cap ab ao : Nat) (A : Nat → Int), v = .slice ad la cap ∧ Nu .u8 Bb W ad la cap ab ao A := by
  obtain ⟨ad, la, cap, ar, aa, rfl, hl, hm, hw, hc⟩ := C.open_nums Try.underlying23 Try.underlying5 cells_byts' hv h hlt
  obtain ⟨ab, ao, asp⟩ := aa
  have hsp : 0 < la → asp = none := fun q => by
    have := (hc q).2.2 0 q
    simpa [Addr.add] using World.cell?_spot this
  refine ⟨ad, la, cap, ab, ao, ar, rfl, ⟨hl, hm, fun q => ?_, fun i hi => ?_, fun i => ?_⟩⟩
  · obtain rfl := hsp q
    exact ⟨(hc q).1, (hc q).2.1⟩
  · obtain rfl := hsp (by omega)
    have := (hc (by omega)).2.2 i hi
    rwa [C.addr_add] at this
  · rcases hw i with q | q
    · rw [q]; exact ⟨by decide, by decide⟩
    · have := bounds_u8 q; exact ⟨this.1, by omega⟩
theorem u_byts9 : Try.prog.underlying 23 = some (.slice 5) := by kernel_rfl
theorem bytes_byts9 : Try.prog.bytesOf 5 = 1 := by kernel_rfl
set_option maxRecDepth 100000 in
theorem byts_len {H : Type} {enc : TypeId × Value → H} {W : World} {base : Nat} {ad : Option Addr} {la cap : Nat} {d : DataW H} {p : List MemPlace} (h : DataW.Trod enc Try.prog W base (fun _ => true) true 23 (.slice ad la cap) d p) (hw : ∀ n ∈ d.weights Try.prog 23, n ≤ reachBytes) : la ≤ 140737488351232 := by
  obtain ⟨fuel, hf⟩ := h
  rcases open_slice u_byts9 hf with ⟨hcs, hx⟩ | ⟨a, len', cap', m, n, D, Pl, hcs, _, hl, hm, hmm, hx, hel⟩
  · simp [Value.cells] at hcs
    obtain ⟨rfl, rfl, rfl⟩ := hcs
    exact Nat.zero_le _
  · simp [Value.cells] at hcs
    obtain ⟨rfl, rfl, rfl⟩ := hcs
    simp only [Prod.mk.injEq] at hx
    obtain ⟨rfl, rfl⟩ := hx
    have h2 := hw ((((List.range la).map D).length + ((List.range (m - la)).map fun j => D (la + j)).length) * Try.prog.bytesOf 5) (by simp [DataW.weights])
    rw [bytes_byts9] at h2
    simp [reachBytes] at h2
    omega
theorem byts_ln {H : Type} {enc : TypeId × Value → H} {W : World} {base : Nat} {ad : Option Addr} {la cap : Nat} {d : DataW H} {p : List MemPlace} (h : DataW.Trod enc Try.prog W base (fun _ => true) true 23 (.slice ad la cap) d p) (hw : ∀ n ∈ d.weights Try.prog 23, n ≤ reachBytes) : la ≤ 140737488351232 ∧ (ad = none → la = 0 ∧ cap = 0) := by
  refine ⟨byts_len h hw, ?_⟩
  obtain ⟨fuel, hf⟩ := h
  rcases open_slice u_byts9 hf with ⟨hcs, hx⟩ | ⟨a, len', cap', m, n, D, Pl, hcs, _, hl, hm, hmm, hx, hel⟩
  · simp [Value.cells] at hcs
    obtain ⟨rfl, rfl, rfl⟩ := hcs
    exact fun _ => ⟨rfl, rfl⟩
  · simp [Value.cells] at hcs
    obtain ⟨rfl, rfl, rfl⟩ := hcs
    exact fun z => by cases z
end Go.Proofs.Ytgebjfkmiaobgaa
