/- Descriptors as they stand in a memory. -/
import Derived.Test.YtgebjfkmiaobgaaMH3
import Derived.Laws.AppendOwnNone
import Derived.Test.YtgebjfkmiaobgaaRows
import Derived.Test.YtgebjfkmiaobgaaMC2
import Derived.OpenShut
import Derived.SizedLaws
import Derived.Deep.Slices
import Derived.Test.YtgebjfkmiaobgaaMC5
import Derived.Deep.QuietTactic
namespace Go.Proofs.Ytgebjfkmiaobgaa
open Go.RowKit
open C (Only hid Still ret_int ret_bool Mem RMem okN rdF wrF hasB nu put byt TB Tw TwB)
set_option linter.unusedVariables false
set_option maxRecDepth 100000

theorem okN_in {bs : Int} {n : Nat} {a : Int} {z : Nat} (hz : z = 2 ∨ z = 4 ∨ z = 8) (h1 : bs ≤ a) (h2 : a + z ≤ bs + 4096 * n) : okN bs n a z = true := by
  unfold okN
  obtain ⟨off, rfl⟩ : ∃ off : Nat, a = bs + off := ⟨(a - bs).toNat, by omega⟩
  rw [C.hasB_of (by omega)]
  rcases hz with rfl | rfl | rfl <;> rfl
theorem has_in {bs : Int} {n : Nat} {a z : Int} (h1 : bs ≤ a) (h0 : 0 ≤ z) (h2 : a + z ≤ bs + 4096 * n) : hasB bs n a z = true := by
  obtain ⟨off, rfl⟩ : ∃ off : Nat, a = bs + off := ⟨(a - bs).toNat, by omega⟩
  obtain ⟨k, rfl⟩ : ∃ k : Nat, z = k := ⟨z.toNat, by omega⟩
  exact C.hasB_of (by omega)
theorem has_no {bs : Int} {n : Nat} {a z : Int} (h : bs + 4096 * n < a + z) : hasB bs n a z = false := by
  cases e : hasB bs n a z
  · rfl
  · obtain ⟨off, len, h1, h2, h3⟩ := C.hasB_off e
    omega
/-- a descriptor -/
structure Ds where
  a : Int
  l : Int
  f : Int
  x : Int
def dsF (bs : Int) (n : Nat) (f : Nat → Int) (at0 : Int) : Ds := ⟨rdF bs n f at0 8, rdF bs n f (at0 + 8) 4, rdF bs n f (at0 + 12) 2, rdF bs n f (at0 + 14) 2⟩
theorem rd_same2 {bs : Int} {n : Nat} (f : Nat → Int) (a v : Int) (v0 : 0 ≤ v) (h : okN bs n a 2 = true) : rdF bs n (wrF bs n f a 2 v) a 2 = v % 65536 := rd_same f a 2 v v0 h
theorem rd_same4 {bs : Int} {n : Nat} (f : Nat → Int) (a v : Int) (v0 : 0 ≤ v) (h : okN bs n a 4 = true) : rdF bs n (wrF bs n f a 4 v) a 4 = v % 4294967296 := rd_same f a 4 v v0 h
theorem rd_same8 {bs : Int} {n : Nat} (f : Nat → Int) (a v : Int) (v0 : 0 ≤ v) (v1 : v < 18446744073709551616) (h : okN bs n a 8 = true) : rdF bs n (wrF bs n f a 8 v) a 8 = v := (rd_same f a 8 v v0 h).trans (by rw [show (256 : Int) ^ 8 = 18446744073709551616 by decide]; omega)
theorem rd_out {bs : Int} {n : Nat} (f : Nat → Int) (a a' v : Int) (z z' : Nat) (Z Z' : Int) (hz : Z = z) (hz' : Z' = z') (h : a + Z ≤ a' ∨ a' + Z' ≤ a) : rdF bs n (wrF bs n f a' Z' v) a Z = rdF bs n f a Z := by
  rw [hz, hz']
  exact rd_other f a a' z z' v (by omega)
theorem ds_same {bs : Int} {n : Nat} (f : Nat → Int) (at0 a l fl x : Int) (a0 : 0 ≤ a) (a1 : a < 18446744073709551616) (l0 : 0 ≤ l) (f0 : 0 ≤ fl) (x0 : 0 ≤ x) (h1 : bs ≤ at0) (h2 : at0 + 16 ≤ bs + 4096 * n) : dsF bs n (putD bs n f at0 a l fl x) at0 = ⟨a, l % 4294967296, fl % 65536, x % 65536⟩ := by
  unfold dsF putD
  congr 1
  · rw [rd_out _ _ _ _ 8 2 8 2 rfl rfl (by omega), rd_out _ _ _ _ 8 2 8 2 rfl rfl (by omega), rd_out _ _ _ _ 8 4 8 4 rfl rfl (by omega), rd_same8 _ _ _ a0 a1 (okN_in (z := 8) (by omega) h1 (by omega))]
  · rw [rd_out _ _ _ _ 4 2 4 2 rfl rfl (by omega), rd_out _ _ _ _ 4 2 4 2 rfl rfl (by omega), rd_same4 _ _ _ l0 (okN_in (z := 4) (by omega) (by omega) (by omega))]
  · rw [rd_out _ _ _ _ 2 2 2 2 rfl rfl (by omega), rd_same2 _ _ _ f0 (okN_in (z := 2) (by omega) (by omega) (by omega))]
  · rw [rd_same2 _ _ _ x0 (okN_in (z := 2) (by omega) (by omega) (by omega))]
theorem pd_out {bs : Int} {n : Nat} (f : Nat → Int) (at0 a l fl x : Int) (y : Int) (z : Nat) (Z : Int) (hz : Z = z) (h : y + Z ≤ at0 ∨ at0 + 16 ≤ y) : rdF bs n (putD bs n f at0 a l fl x) y Z = rdF bs n f y Z := by
  unfold putD
  rw [rd_out _ _ _ _ z 2 Z 2 hz rfl (by omega), rd_out _ _ _ _ z 2 Z 2 hz rfl (by omega), rd_out _ _ _ _ z 4 Z 4 hz rfl (by omega), rd_out _ _ _ _ z 8 Z 8 hz rfl (by omega)]
theorem ds_other {bs : Int} {n : Nat} (f : Nat → Int) (at0 a l fl x y : Int) (h : y + 16 ≤ at0 ∨ at0 + 16 ≤ y) : dsF bs n (putD bs n f at0 a l fl x) y = dsF bs n f y := by
  unfold dsF
  rw [pd_out _ _ _ _ _ _ _ 8 8 rfl (by omega), pd_out _ _ _ _ _ _ _ 4 4 rfl (by omega), pd_out _ _ _ _ _ _ _ 2 2 rfl (by omega), pd_out _ _ _ _ _ _ _ 2 2 rfl (by omega)]
theorem ds_wr {bs : Int} {n : Nat} (f : Nat → Int) (y a v : Int) (z : Nat) (Z : Int) (hz : Z = z) (h : y + 16 ≤ a ∨ a + Z ≤ y) : dsF bs n (wrF bs n f a Z v) y = dsF bs n f y := by
  unfold dsF
  rw [rd_out _ _ _ _ 8 z 8 Z rfl hz (by omega), rd_out _ _ _ _ 4 z 4 Z rfl hz (by omega), rd_out _ _ _ _ 2 z 2 Z rfl hz (by omega), rd_out _ _ _ _ 2 z 2 Z rfl hz (by omega)]
theorem okD_in (p : Nat) {bs : Int} {n : Nat} (f : Nat → Int) (at0 : Int) (h1 : bs ≤ at0) (h2 : at0 + 16 ≤ bs + 4096 * n) : okD (RmG p bs n) f at0 = true := by
  show (okN bs n at0 8 && okN bs n (at0 + 8) 4 && okN bs n (at0 + 12) 2 && okN bs n (at0 + 14) 2) = true
  rw [show okN bs n at0 8 = true from okN_in (z := 8) (by omega) h1 (by omega), show okN bs n (at0 + 8) 4 = true from okN_in (z := 4) (by omega) (by omega) (by omega), show okN bs n (at0 + 12) 2 = true from okN_in (z := 2) (by omega) (by omega) (by omega), show okN bs n (at0 + 14) 2 = true from okN_in (z := 2) (by omega) (by omega) (by omega)]
  rfl
theorem fol_stepG (G : MG) (s : G.σ) (v : QV) (k : Nat) (i : Int) (R W : List (Int × Int)) (hi : i < v.sz) (D : Ds) (hD : (⟨G.rd s (v.d + 16 * i) 8, G.rd s (v.d + 16 * i + 8) 4, G.rd s (v.d + 16 * i + 12) 2, G.rd s (v.d + 16 * i + 14) 2⟩ : Ds) = D) (hk : okD G s (v.d + 16 * i) = true) :
    fol G s v (k + 1) i R W = bif !mayD G s D.a D.l D.f (decide (0 < W.length)) then (32, [], []) else
      bif fM D.f then fol G s v k D.x (bif fW2 D.f then R else R ++ [(D.a, D.l)]) (bif fW2 D.f then W ++ [(D.a, D.l)] else W) else (0, bif fW2 D.f then R else R ++ [(D.a, D.l)], bif fW2 D.f then W ++ [(D.a, D.l)] else W) := by
  have h1 : decide (v.sz ≤ i) = false := by simpa using hi
  conv => lhs; unfold fol
  rw [h1, hk, Bool.true_and]
  subst hD
  rfl
/-- one step along a chain -/
theorem fol_step (p : Nat) (bs : Int) (n : Nat) (f : Nat → Int) (v : QV) (k : Nat) (i : Int) (R W : List (Int × Int)) (hi : i < v.sz) (D : Ds) (hD : dsF bs n f (v.d + 16 * i) = D) (hk : okD (RmG p bs n) f (v.d + 16 * i) = true) :
    fol (RmG p bs n) f v (k + 1) i R W = bif !mayD (RmG p bs n) f D.a D.l D.f (decide (0 < W.length)) then (32, [], []) else
      bif fM D.f then fol (RmG p bs n) f v k D.x (bif fW2 D.f then R else R ++ [(D.a, D.l)]) (bif fW2 D.f then W ++ [(D.a, D.l)] else W) else (0, bif fW2 D.f then R else R ++ [(D.a, D.l)], bif fW2 D.f then W ++ [(D.a, D.l)] else W) :=
  fol_stepG (RmG p bs n) f v k i R W hi D hD hk
theorem fol_end (G : MG) (s : G.σ) (v : QV) (i : Int) (R W : List (Int × Int)) (hi : i < v.sz) : fol G s v 0 i R W = (31, [], []) := by
  have h1 : decide (v.sz ≤ i) = false := by simpa using hi
  unfold fol
  rw [h1]
  rfl
theorem fol_far (G : MG) (s : G.σ) (v : QV) (k : Nat) (i : Int) (R W : List (Int × Int)) (hi : v.sz ≤ i) : fol G s v k i R W = (32, [], []) := by
  have h1 : decide (v.sz ≤ i) = true := by simpa using hi
  cases k <;> (unfold fol; rw [h1]; rfl)
/-- n is a power of two below 128 -/
theorem sh7 (k : Int) (k0 : 0 ≤ k) (k1 : k < 7) : ∃ n : Nat, (2 : Int) ^ k.toNat = n ∧ isSz n = true ∧ 1 ≤ n ∧ n ≤ 64 := by
  have : k = 0 ∨ k = 1 ∨ k = 2 ∨ k = 3 ∨ k = 4 ∨ k = 5 ∨ k = 6 := by omega
  rcases this with rfl | rfl | rfl | rfl | rfl | rfl | rfl
  · exact ⟨1, rfl, rfl, by decide, by decide⟩
  · exact ⟨2, rfl, rfl, by decide, by decide⟩
  · exact ⟨4, rfl, rfl, by decide, by decide⟩
  · exact ⟨8, rfl, rfl, by decide, by decide⟩
  · exact ⟨16, rfl, rfl, by decide, by decide⟩
  · exact ⟨32, rfl, rfl, by decide, by decide⟩
  · exact ⟨64, rfl, rfl, by decide, by decide⟩
/-- a queue as the laws set it up -/
def vN (n : Nat) : QV := ⟨n, 256, 2048, 2304, 0, 0, false⟩
theorem vN_set (n : Nat) (h : isSz n = true) : okS q0 n 256 2048 2304 = true ∧ q0.set n 256 2048 2304 = vN n := by
  have : okS q0 n 256 2048 2304 = true := by unfold okS; rw [h]; rfl
  exact ⟨this, by unfold QV.set; rw [this]; rfl⟩
end Go.Proofs.Ytgebjfkmiaobgaa
namespace Go.Proofs.Ytgebjfkmiaobgaa
open Go.RowKit
open C (Only hid Still ret_int ret_bool)
set_option linter.unusedVariables false
set_option maxRecDepth 100000

theorem sgs_app (R W : List (Int × Int)) : sgs (R ++ W) = sgs R ++ sgs W := by simp [sgs]
theorem sgs_one (L : List (Int × Int)) : ∀ u ∈ sgs L, u.oneCell' = true := by
  intro u hu
  simp [sgs] at hu
  obtain ⟨a, b, _, h⟩ := hu
  rcases h with rfl | rfl <;> rfl
theorem wp_app {w : World} {o : Oper} {a : Act} {Q : Exit → Act → World → Prop} {K : Act → World → Prop} (s x : Operand) (ho : o.op = .call { callee := .builtin .append, args := #[s, x], argTypes := #[40, 40] }) {B C : Nat} {V U : Value} {L M : List (Int × Int)} (hs : a.eval s = V) (hV : Sg w B V L) (hx : a.eval x = U) (hU : Sg w C U M) (hl : L.length ≤ 1000) (hm : M.length ≤ 1000) (hB : B ≤ w.heap.size)
    (h : ∀ v' w', Sg w' B v' (L ++ M) → Only (Ug V) w w' → K (a.put o.dst v') w') : o.wp Try.prog a w K Q := by
  obtain ⟨i0, hi0, hz0, hs0, hb0⟩ := info_parts info_seg
  rcases hU.own.2 with ⟨h1, h2⟩ | ⟨g, cap, cur, h1, h2, h3, h4⟩
  · have hM : M = [] := List.length_eq_zero_iff.1 h2
    subst hM
    have hrun := run_append_owned_none (P := Try.prog) (w := w) 0 40 o.type 61 i0 2 u_sseg hi0 V L.length (sgs L) hV.own
    unfold Oper.wp
    have hx' : a.eval x = .slice none 0 0 := by rw [hx, h1]
    simp [execOp, ho, resolve, invoke, builtin, hs, hx', hrun, Result.andThen]
    exact h V w (by simpa using hV) (Only.refl w)
  · by_cases h0 : 0 < M.length
    · obtain ⟨g', cp, e1, e2, e3, e4, e5⟩ := hU.at h0
      rw [e1] at hx
      have hcell : ∀ j u, (sgs M)[j]? = some u → w.cell? ((⟨g', 0, none⟩ : Addr).add j) = some u := fun j u hj => by
        have hjl : j < M.length * 2 := by rw [← sgs_len]; exact (List.getElem?_eq_some_iff.1 hj).1
        obtain ⟨y, hy⟩ : ∃ y, M[j / 2]? = some y := ⟨M[j / 2]'(by omega), List.getElem?_eq_getElem _⟩
        obtain ⟨a1, a2⟩ := sgs_at M (j / 2) y hy
        obtain ⟨b1, b2⟩ := e5 (j / 2) y hy
        rw [_root_.Go.Proofs.Ytgebjfkmiaobgaa.C.addr_add, Nat.zero_add]
        rcases Nat.mod_two_eq_zero_or_one j with z | z
        · rw [show j / 2 * 2 = j by omega] at a1 b1
          rw [a1] at hj; rw [← hj]; exact b1
        · rw [show j / 2 * 2 + 1 = j by omega] at a2 b2
          rw [a2] at hj; rw [← hj]; exact b2
      refine wp_append_blk w s x 40 ho 61 i0 _ 2 16 u_sseg hi0 hz0 hs0 hb0 rfl (by decide) V L.length (sgs L) hs hV.own ⟨g', 0, none⟩ M.length cp (sgs M) hx (sgs_len M) hcell (sgs_one M) (show L.length + M.length ≤ 9223372036854775807 by omega) (by omega) ?_
      intro v' w' k1 k2 k3
      exact h v' w' ⟨by rw [List.length_append, sgs_app]; exact k1, fun k hk => (k3 k hk).elim (hV.ge k) fun z => Nat.le_trans hB z⟩ (grown_ug k2)
    · have hM : M = [] := List.length_eq_zero_iff.1 (by omega)
      subst hM
      rw [h1] at hx
      refine wp_append_blk w s x 40 ho 61 i0 _ 2 16 u_sseg hi0 hz0 hs0 hb0 rfl (by decide) V L.length (sgs L) hs hV.own ⟨g, 0, none⟩ 0 cap [] hx rfl (fun j u hj => by cases hj) (fun u hu => by cases hu) (show L.length + 0 ≤ 9223372036854775807 by omega) (by omega) ?_
      intro v' w' k1 k2 k3
      exact h v' w' ⟨by simpa using k1, fun k hk => (k3 k hk).elim (hV.ge k) fun z => Nat.le_trans hB z⟩ (grown_ug k2)
/-- the states of a region that joins two lists in a new one -/
def MJ (w0 : World) (R W : List (Int × Int)) : Nat → Value × Value → World → Prop
  | 0, _, w => w = w0
  | 1, x, w => Sg w w0.heap.size x.1 R ∧ Below w0.heap.size w0 w
  | _ + 2, x, w => Sg w w0.heap.size x.2 (R ++ W) ∧ Below w0.heap.size w0 w
theorem MJ.bel {w0 w : World} {R W : List (Int × Int)} {s : Nat} {x : Value × Value} (h : MJ w0 R W s x w) : Below w0.heap.size w0 w := by
  match s, h with
  | 0, h => obtain rfl : w = w0 := h; exact .refl _ _
  | 1, h => exact h.2
  | _ + 2, h => exact h.2
end Go.Proofs.Ytgebjfkmiaobgaa
namespace Go.Proofs.Ytgebjfkmiaobgaa
open Go.ChangeShapes Go.WideShapes Go.ChangeAt Go.RowKit Go.Deep
set_option linter.unusedVariables false

theorem cells_i8 : Try.prog.cellsOf 3 = 1 := by kernel_rfl
theorem cells_u8 : Try.prog.cellsOf 22 = 1 := by kernel_rfl
theorem addr_two (a : Addr) (i j : Nat) : (a.add i).add j = a.add (i + j) := by
  unfold Addr.add
  by_cases hi : i = 0
  · subst hi; simp
  · by_cases hj : j = 0
    · subst hj; simp
    · have : ¬ i + j = 0 := by omega
      simp [hi, hj, Nat.add_assoc]
theorem fld8 {T k : Nat} {t : TypeId} {o : Nat} (h : ((Try.prog.fieldsOf T)[k]?).map (fun f => (f.type, f.offset)) = some (t, o)) : ∃ f, (Try.prog.fieldsOf T)[k]? = some f ∧ f.type = t ∧ f.offset = o := by
  cases hq : (Try.prog.fieldsOf T)[k]? with
  | none => rw [hq] at h; cases h
  | some f => rw [hq] at h; simp at h; exact ⟨f, rfl, h.1, h.2⟩
structure VopV where
  kd : Int
  at0 : Int
  hd : Int
  fl : Int
  ad : Int
  n : Int
def VopV.cs (x : VopV) : List Value := [.int .i64 x.kd, .int .i64 x.at0, .int .i64 x.hd, .int .i64 x.fl, .int .u64 x.ad, .int .u64 x.n]
structure VopB (x : VopV) : Prop where
  kd : -9223372036854775808 ≤ x.kd ∧ x.kd ≤ 9223372036854775807
  at0 : -9223372036854775808 ≤ x.at0 ∧ x.at0 ≤ 9223372036854775807
  hd : -9223372036854775808 ≤ x.hd ∧ x.hd ≤ 9223372036854775807
  fl : -9223372036854775808 ≤ x.fl ∧ x.fl ≤ 9223372036854775807
  ad : 0 ≤ x.ad ∧ x.ad < 18446744073709551616
  n : 0 ≤ x.n ∧ x.n < 18446744073709551616
structure Vc (w : World) (ad : Option Addr) (la cap ab ao : Nat) (X : Nat → VopV) : Prop where
  len : la ≤ cap
  cap : cap ≤ 9223372036854775807
  at0 : 0 < la → ad = some ⟨ab, ao, none⟩ ∧ ab < w.heap.size
  cell : ∀ i, i < la → ∀ j, j < 6 → w.cell? ⟨ab, ao + i * 6 + j, none⟩ = (X i).cs[j]?
  num : ∀ i, i < la → VopB (X i)
theorem Vc.below {w w' : World} {ad : Option Addr} {la cap ab ao : Nat} {X : Nat → VopV} (h : Vc w ad la cap ab ao X) (hb : Below w.heap.size w w') : Vc w' ad la cap ab ao X :=
  ⟨h.len, h.cap, fun q => ⟨(h.at0 q).1, Nat.lt_of_lt_of_le (h.at0 q).2 hb.size⟩, fun i hi j hj => by
    have hlt := (h.at0 (by omega)).2
    have e : ∀ o, w'.cell? ⟨ab, o, none⟩ = w.cell? ⟨ab, o, none⟩ := fun o => World.cell?_of_block (w := w) (hb.block _ hlt)
    rw [e]; exact h.cell i hi j hj, h.num⟩
theorem under_vop : Try.prog.underlying 38 = some (.struct (Try.prog.fieldsOf 38)) := by kernel_rfl
theorem cells_vop : Try.prog.cellsOf 38 = 6 := by kernel_rfl
theorem u_sVOp : Try.prog.underlying 24 = some (.slice 38) := by kernel_rfl
set_option maxRecDepth 100000 in
theorem open_vop {H : Type} {enc : TypeId × Value → H} {W : World} {base fuel : Nat} {cs : List Value} {x : DataW H × List MemPlace} (h : DataW.trod enc Try.prog W base (fun _ => true) true fuel 38 cs = some x) :
    ∃ X : VopV, cs = X.cs ∧ VopB X := by
  obtain ⟨xs, n, _, rfl, hcl, hlen, hfs⟩ := DataW.trod_struct under_vop h
  have hl : xs.length = 6 := by rw [hlen]; kernel_rfl
  rw [cells_vop] at hcl
  obtain ⟨f0, e0, t0, o0⟩ := fld8 (T := 38) (k := 0) (t := 3) (o := 0) (by kernel_rfl)
  have q0 := hfs 0 f0 e0
  rw [t0, o0, cells_i8, List.getElem?_eq_getElem (by omega)] at q0
  obtain ⟨z0, r0, _, w0⟩ := DataW.trod_int Try.underlying3 q0
  obtain ⟨f1, e1, t1, o1⟩ := fld8 (T := 38) (k := 1) (t := 3) (o := 1) (by kernel_rfl)
  have q1 := hfs 1 f1 e1
  rw [t1, o1, cells_i8, List.getElem?_eq_getElem (by omega)] at q1
  obtain ⟨z1, r1, _, w1⟩ := DataW.trod_int Try.underlying3 q1
  obtain ⟨f2, e2, t2, o2⟩ := fld8 (T := 38) (k := 2) (t := 3) (o := 2) (by kernel_rfl)
  have q2 := hfs 2 f2 e2
  rw [t2, o2, cells_i8, List.getElem?_eq_getElem (by omega)] at q2
  obtain ⟨z2, r2, _, w2⟩ := DataW.trod_int Try.underlying3 q2
  obtain ⟨f3, e3, t3, o3⟩ := fld8 (T := 38) (k := 3) (t := 3) (o := 3) (by kernel_rfl)
  have q3 := hfs 3 f3 e3
  rw [t3, o3, cells_i8, List.getElem?_eq_getElem (by omega)] at q3
  obtain ⟨z3, r3, _, w3⟩ := DataW.trod_int Try.underlying3 q3
  obtain ⟨f4, e4, t4, o4⟩ := fld8 (T := 38) (k := 4) (t := 22) (o := 4) (by kernel_rfl)
  have q4 := hfs 4 f4 e4
  rw [t4, o4, cells_u8, List.getElem?_eq_getElem (by omega)] at q4
  obtain ⟨z4, r4, _, w4⟩ := DataW.trod_int Try.underlying22 q4
  obtain ⟨f5, e5, t5, o5⟩ := fld8 (T := 38) (k := 5) (t := 22) (o := 5) (by kernel_rfl)
  have q5 := hfs 5 f5 e5
  rw [t5, o5, cells_u8, List.getElem?_eq_getElem (by omega)] at q5
  obtain ⟨z5, r5, _, w5⟩ := DataW.trod_int Try.underlying22 q5
  obtain ⟨c0, c1, c2, c3, c4, c5, rfl⟩ : ∃ c0 c1 c2 c3 c4 c5, cs = [c0, c1, c2, c3, c4, c5] := by
    match cs, hcl with
    | [c0, c1, c2, c3, c4, c5], _ => exact ⟨c0, c1, c2, c3, c4, c5, rfl⟩
  simp at r0 r1 r2 r3 r4 r5
  subst r0 r1 r2 r3 r4 r5
  have b4 := bounds_u64 w4
  have b5 := bounds_u64 w5
  exact ⟨⟨z0, z1, z2, z3, z4, z5⟩, rfl, ⟨bounds_i64 w0, bounds_i64 w1, bounds_i64 w2, bounds_i64 w3, ⟨b4.1, by show z4 < _; omega⟩, ⟨b5.1, by show z5 < _; omega⟩⟩⟩
set_option maxRecDepth 100000 in
/-- a script, as it stands -/
theorem open_vops {H : Type} {enc : TypeId × Value → H} {W : World} {base : Nat} {r : Reach} {b : Nat} {v : Value} {d : DataW H} {p : List MemPlace}
    (hv : Value.okWide Try.prog W r b 24 v) (h : DataW.Trod enc Try.prog W base (fun _ => true) true 24 v d p) (hlt : ∀ x ∈ p, x.block < W.heap.size) :
    ∃ (ad : Option Addr) (la cap ab ao : Nat) (X : Nat → VopV), v = .slice ad la cap ∧ Vc W ad la cap ab ao X := by
  obtain ⟨a0, len, cap, rfl⟩ := okWide_slice u_sVOp hv
  obtain ⟨fuel, hf⟩ := h
  rcases open_slice u_sVOp hf with ⟨hcs, hx⟩ | ⟨a, len', cap', m, n, D, Pl, hcs, _, hl, hm, hmm, hx, hel⟩
  · simp [Value.cells] at hcs
    obtain ⟨rfl, rfl, rfl⟩ := hcs
    exact ⟨none, 0, 0, 0, 0, fun _ => ⟨0, 0, 0, 0, 0, 0⟩, rfl, ⟨Nat.le_refl _, by decide, fun q => absurd q (by decide), fun i hi => absurd hi (Nat.not_lt_zero i), fun i hi => absurd hi (Nat.not_lt_zero i)⟩⟩
  · simp [Value.cells] at hcs
    obtain ⟨rfl, rfl, rfl⟩ := hcs
    simp only [if_true] at hmm
    have each : ∀ i, ∃ X : VopV, i < len → VopB X ∧ ∀ j, j < 6 → W.cell? (a.add (i * 6 + j)) = X.cs[j]? := fun i => by
      rcases Nat.lt_or_ge i len with hi | hi
      · obtain ⟨cs', h1, h2⟩ := hel i (by omega)
        obtain ⟨X, rfl, b0⟩ := open_vop h2
        rw [cells_vop] at h1
        obtain ⟨_, hlen, hcell⟩ := World.cells?_some h1
        refine ⟨X, fun _ => ⟨b0, fun j hj => ?_⟩⟩
        have := hcell j hj
        rw [addr_two] at this
        exact this
      · exact ⟨⟨0, 0, 0, 0, 0, 0⟩, fun q => by omega⟩
    obtain ⟨X, hX⟩ := Classical.axiomOfChoice each
    clear each
    have hbl : ∀ h0 : 0 < len, a.spot = none ∧ a.block < W.heap.size := fun h0 => by
      have k0 := (hX 0 h0).2 0 (by decide)
      refine ⟨by simpa [Addr.add] using World.cell?_spot k0, ?_⟩
      obtain ⟨cs', h1, _⟩ := hel 0 (by omega)
      rw [cells_vop] at h1
      have := World.cells?_block h1 (by decide)
      simpa [Addr.add] using this
    obtain ⟨ab, ao, asp⟩ := a
    refine ⟨some ⟨ab, ao, asp⟩, len, cap, ab, ao, X, rfl, ⟨hl, by simpa [maxLen] using hm, fun h0 => ?_, fun i hi j hj => ?_, fun i hi => (hX i hi).1⟩⟩
    · obtain ⟨q1, q2⟩ := hbl h0
      obtain rfl : asp = none := q1
      exact ⟨rfl, q2⟩
    · obtain ⟨q1, q2⟩ := hbl (by omega)
      obtain rfl : asp = none := q1
      have k := (hX i hi).2 j hj
      rw [C.addr_add, ← Nat.add_assoc] at k
      exact k
theorem bytes_vop : Try.prog.bytesOf 38 = 48 := by kernel_rfl
set_option maxRecDepth 100000 in
theorem vops_len {H : Type} {enc : TypeId × Value → H} {W : World} {base : Nat} {ad : Option Addr} {la cap : Nat} {d : DataW H} {p : List MemPlace} (h : DataW.Trod enc Try.prog W base (fun _ => true) true 24 (.slice ad la cap) d p) (hw : ∀ n ∈ d.weights Try.prog 24, n ≤ reachBytes) : la ≤ 5864062014805 := by
  obtain ⟨fuel, hf⟩ := h
  rcases open_slice u_sVOp hf with ⟨hcs, hx⟩ | ⟨a, len', cap', m, n, D, Pl, hcs, _, hl, hm, hmm, hx, hel⟩
  · simp [Value.cells] at hcs
    obtain ⟨rfl, rfl, rfl⟩ := hcs
    exact Nat.zero_le _
  · simp [Value.cells] at hcs
    obtain ⟨rfl, rfl, rfl⟩ := hcs
    simp only [Prod.mk.injEq] at hx
    obtain ⟨rfl, rfl⟩ := hx
    have h2 := hw ((((List.range la).map D).length + ((List.range (m - la)).map fun j => D (la + j)).length) * Try.prog.bytesOf 38) (by simp [DataW.weights])
    rw [bytes_vop] at h2
    simp [reachBytes] at h2
    omega
/-- a list of numbers of a kind, as it stands -/
structure Nu (k : IntKind) (B : Int → Prop) (w : World) (ad : Option Addr) (la cap ab ao : Nat) (A : Nat → Int) : Prop where
  len : la ≤ cap
  cap : cap ≤ 9223372036854775807
  at0 : 0 < la → ad = some ⟨ab, ao, none⟩ ∧ ab < w.heap.size
  cell : ∀ i, i < la → w.cell? ⟨ab, ao + i, none⟩ = some (.int k (A i))
  num : ∀ i, B (A i)
theorem Nu.below {k : IntKind} {B : Int → Prop} {w w' : World} {ad : Option Addr} {la cap ab ao : Nat} {A : Nat → Int} (h : Nu k B w ad la cap ab ao A) (hb : Below w.heap.size w w') : Nu k B w' ad la cap ab ao A :=
  ⟨h.len, h.cap, fun q => ⟨(h.at0 q).1, Nat.lt_of_lt_of_le (h.at0 q).2 hb.size⟩, fun i hi => by
    have hlt := (h.at0 (by omega)).2
    rw [World.cell?_of_block (w := w) (hb.block _ hlt)]; exact h.cell i hi, h.num⟩
def Bi (x : Int) : Prop := -9223372036854775808 ≤ x ∧ x ≤ 9223372036854775807
def Bu (x : Int) : Prop := 0 ≤ x ∧ x < 18446744073709551616
def Bb (x : Int) : Prop := 0 ≤ x ∧ x < 256
theorem cells_u64s' : Try.prog.cellsOf 22 = 1 := by kernel_rfl
set_option maxRecDepth 100000 in
theorem open_u64s {H : Type} {enc : TypeId × Value → H} {W : World} {base : Nat} {r : Reach} {b : Nat} {v : Value} {d : DataW H} {p : List MemPlace}
    (hv : Value.okWide Try.prog W r b 64 v) (h : DataW.Trod enc Try.prog W base (fun _ => true) true 64 v d p) (hlt : ∀ x ∈ p, x.block < W.heap.size) :
    ∃ (ad : Option Addr) (la cap ab ao : Nat) (A : Nat → Int), v = .slice ad la cap ∧ Nu .u64 Bu W ad la cap ab ao A := by
  obtain ⟨ad, la, cap, ar, aa, rfl, hl, hm, hw, hc⟩ := C.open_nums Try.underlying64 Try.underlying22 cells_u64s' hv h hlt
  obtain ⟨ab, ao, asp⟩ := aa
  have hsp : 0 < la → asp = none := fun q => by
    have := (hc q).2.2 0 q
    simpa [Addr.add] using World.cell?_spot this
  refine ⟨ad, la, cap, ab, ao, ar, rfl, ⟨hl, hm, fun q => ?_, fun i hi => ?_, fun i => ?_⟩⟩
  · obtain rfl := hsp q
    exact ⟨(hc q).1, (hc q).2.1⟩
  · obtain rfl := hsp (by omega)
    have := (hc (by omega)).2.2 i hi
    rwa [C.addr_add] at this
  · rcases hw i with q | q
    · rw [q]; exact ⟨by decide, by decide⟩
    · have := bounds_u64 q; exact ⟨this.1, by omega⟩
theorem u_u64s9 : Try.prog.underlying 64 = some (.slice 22) := by kernel_rfl
theorem bytes_u64s9 : Try.prog.bytesOf 22 = 8 := by kernel_rfl
set_option maxRecDepth 100000 in
theorem u64s_len {H : Type} {enc : TypeId × Value → H} {W : World} {base : Nat} {ad : Option Addr} {la cap : Nat} {d : DataW H} {p : List MemPlace} (h : DataW.Trod enc Try.prog W base (fun _ => true) true 64 (.slice ad la cap) d p) (hw : ∀ n ∈ d.weights Try.prog 64, n ≤ reachBytes) : la ≤ 17592186044416 := by
  obtain ⟨fuel, hf⟩ := h
  rcases open_slice u_u64s9 hf with ⟨hcs, hx⟩ | ⟨a, len', cap', m, n, D, Pl, hcs, _, hl, hm, hmm, hx, hel⟩
  · simp [Value.cells] at hcs
    obtain ⟨rfl, rfl, rfl⟩ := hcs
    exact Nat.zero_le _
  · simp [Value.cells] at hcs
    obtain ⟨rfl, rfl, rfl⟩ := hcs
    simp only [Prod.mk.injEq] at hx
    obtain ⟨rfl, rfl⟩ := hx
    have h2 := hw ((((List.range la).map D).length + ((List.range (m - la)).map fun j => D (la + j)).length) * Try.prog.bytesOf 22) (by simp [DataW.weights])
    rw [bytes_u64s9] at h2
    simp [reachBytes] at h2
    omega
theorem cells_byts' : Try.prog.cellsOf 5 = 1 := by kernel_rfl
set_option maxRecDepth 100000 in
theorem open_byts {H : Type} {enc : TypeId × Value → H} {W : World} {base : Nat} {r : Reach} {b : Nat} {v : Value} {d : DataW H} {p : List MemPlace}
    (hv : Value.okWide Try.prog W r b 23 v) (h : DataW.Trod enc Try.prog W base (fun _ => true) true 23 v d p) (hlt : ∀ x ∈ p, x.block < W.heap.size) :
    ∃ (ad : Option Addr) (la cap ab ao : Nat) (A : Nat → Int), v = .slice ad la cap ∧ Nu .u8 Bb W ad la cap ab ao A := by
  obtain ⟨ad, la, cap, ar, aa, rfl, hl, hm, hw, hc⟩ := C.open_nums Try.underlying23 Try.underlying5 cells_byts' hv h hlt
  obtain ⟨ab, ao, asp⟩ := aa
  have hsp : 0 < la → asp = none := fun q => by
    have := (hc q).2.2 0 q
    simpa [Addr.add] using World.cell?_spot this
  refine ⟨ad, la, cap, ab, ao, ar, rfl, ⟨hl, hm, fun q => ?_, fun i hi => ?_, fun i => ?_⟩⟩
  · obtain rfl := hsp q
    exact ⟨(hc q).1, (hc q).2.1⟩
  · obtain rfl := hsp (by omega)
    have := (hc (by omega)).2.2 i hi
    rwa [C.addr_add] at this
  · rcases hw i with q | q
    · rw [q]; exact ⟨by decide, by decide⟩
    · have := bounds_u8 q; exact ⟨this.1, by omega⟩
theorem u_byts9 : Try.prog.underlying 23 = some (.slice 5) := by kernel_rfl
theorem bytes_byts9 : Try.prog.bytesOf 5 = 1 := by kernel_rfl
set_option maxRecDepth 100000 in
theorem byts_len {H : Type} {enc : TypeId × Value → H} {W : World} {base : Nat} {ad : Option Addr} {la cap : Nat} {d : DataW H} {p : List MemPlace} (h : DataW.Trod enc Try.prog W base (fun _ => true) true 23 (.slice ad la cap) d p) (hw : ∀ n ∈ d.weights Try.prog 23, n ≤ reachBytes) : la ≤ 140737488351232 := by
  obtain ⟨fuel, hf⟩ := h
  rcases open_slice u_byts9 hf with ⟨hcs, hx⟩ | ⟨a, len', cap', m, n, D, Pl, hcs, _, hl, hm, hmm, hx, hel⟩
  · simp [Value.cells] at hcs
    obtain ⟨rfl, rfl, rfl⟩ := hcs
    exact Nat.zero_le _
  · simp [Value.cells] at hcs
    obtain ⟨rfl, rfl, rfl⟩ := hcs
    simp only [Prod.mk.injEq] at hx
    obtain ⟨rfl, rfl⟩ := hx
    have h2 := hw ((((List.range la).map D).length + ((List.range (m - la)).map fun j => D (la + j)).length) * Try.prog.bytesOf 5) (by simp [DataW.weights])
    rw [bytes_byts9] at h2
    simp [reachBytes] at h2
    omega
theorem byts_ln {H : Type} {enc : TypeId × Value → H} {W : World} {base : Nat} {ad : Option Addr} {la cap : Nat} {d : DataW H} {p : List MemPlace} (h : DataW.Trod enc Try.prog W base (fun _ => true) true 23 (.slice ad la cap) d p) (hw : ∀ n ∈ d.weights Try.prog 23, n ≤ reachBytes) : la ≤ 140737488351232 ∧ (ad = none → la = 0 ∧ cap = 0) := by
  refine ⟨byts_len h hw, ?_⟩
  obtain ⟨fuel, hf⟩ := h
  rcases open_slice u_byts9 hf with ⟨hcs, hx⟩ | ⟨a, len', cap', m, n, D, Pl, hcs, _, hl, hm, hmm, hx, hel⟩
  · simp [Value.cells] at hcs
    obtain ⟨rfl, rfl, rfl⟩ := hcs
    exact fun _ => ⟨rfl, rfl⟩
  · simp [Value.cells] at hcs
    obtain ⟨rfl, rfl, rfl⟩ := hcs
    exact fun z => by cases z
end Go.Proofs.Ytgebjfkmiaobgaa
namespace Go.Proofs.Ytgebjfkmiaobgaa
open Go.RowKit
open C (Only hid Still ret_int ret_bool Mem RMem okN rdF wrF hasB nu put byt TB Tw TwB)
set_option linter.unusedVariables false
set_option maxRecDepth 100000

theorem tk_yes (G : MG) (s : G.σ) (v : QV) (n : Nat) (A H E : Int) (R W : List (Int × Int)) (hA : avA v = A) (hk : G.ok s A 2 = true) (hd : G.rd s A 2 = H) (hf : fol G s v.take n H [] [] = (E, R, W)) : tkF G s v n = ⟨E, true, hdF E H, R, W, v.take⟩ := by
  unfold tkF
  rw [hA, hk, hd, hf]
  rfl
theorem nx_yes (G : MG) (s : G.σ) (v : QV) (n : Nat) (X : NX) (hz : v.sz ≠ 0) (hd : v.dead = false) (he : ofE G s v = 0) (hn : (ofN G s v == 0) = false) (ht : tkF G s v n = X) (h0 : X.e = 0) (hg : X.good = true) : nxF G s v n = X := by
  unfold nxF
  rw [if_neg hz, hd, he, hn, ht, h0]
  obtain ⟨e, g, h, R, W, v'⟩ := X
  cases h0
  cases hg
  rfl
theorem ps_yes (G : MG) (s : G.σ) (v : QV) (H n A U g1 : Int) (hz : v.sz ≠ 0) (hd : v.dead = false) (hA : puA v = A) (hU : v.u + 2 = U) (hg : (v.gv + 1) % 65536 = g1) (k0 : G.wk s A 4 = true) (k1 : G.wk (G.wr s A 4 H) (A + 4) 4 = true) (k2 : G.wk (G.wr (G.wr s A 4 H) (A + 4) 4 n) U 2 = true) : puF G s v H n = (0, v.give, G.wr (G.wr (G.wr s A 4 H) (A + 4) 4 n) U 2 g1) := by
  subst hA
  subst hU
  subst hg
  have q0 : puK G s v H n 0 = true := k0
  have q1 : puK G s v H n 1 = true := k1
  have q2 : puK G s v H n 2 = true := k2
  unfold puF
  rw [if_neg hz, hd, q0, q1, q2]
  rfl
/-- a queue behind g chains taken, h given -/
def vR (n : Nat) (g h : Nat) : QV := ⟨n, 256, 2048, 2304, (g : Int) % 65536, (h : Int) % 65536, false⟩
/-- L chains are laid, g of them taken and given -/
structure RdM (n : Nat) (K : Nat → Int) (f : Nat → Int) (L g : Nat) : Prop where
  le : g ≤ L
  room : L ≤ g + n
  idx : rdF 0 2 f 2050 2 = (L : Int) % 65536
  hd : ∀ i : Nat, g ≤ i → i < L → rdF 0 2 f (2052 + 2 * ((i % n : Nat) : Int)) 2 = ((i % n : Nat) : Int)
  ds : ∀ i : Nat, g ≤ i → i < L → dsF 0 2 f (256 + 16 * ((i % n : Nat) : Int)) = ⟨4096, K i % 64, 0, 0⟩
section
variable {n : Nat} {K f : Nat → Int} {L g : Nat}
theorem mod_ne {n i j : Nat} (h1 : i < j) (h2 : j < i + n) : i % n ≠ j % n := fun e => by
  have a := Nat.div_add_mod i n
  have b := Nat.div_add_mod j n
  rw [e] at a
  have hd : n * (j / n) - n * (i / n) = j - i := by omega
  rw [← Nat.mul_sub] at hd
  rcases Nat.eq_zero_or_pos (j / n - i / n) with z | z
  · rw [z] at hd; omega
  · have := Nat.le_mul_of_pos_right n z; omega
theorem RdM.lay (h : RdM n K f L g) (n0 : 1 ≤ n) (n64 : n ≤ 64) (hr : L + 1 ≤ g + n) (hK : 0 ≤ K L) : RdM n K (wrF 0 2 (wrF 0 2 (putD 0 2 f (256 + 16 * ((L % n : Nat) : Int)) 4096 (K L % 64) (u64m 0) (u64m 0)) (2052 + 2 * ((L % n : Nat) : Int)) 2 ((L % n : Nat) : Int)) 2050 2 (((L : Int) + 1) % 65536)) (L + 1) g := by
  have hm : L % n < n := Nat.mod_lt _ (by omega)
  have u0 : u64m 0 = 0 := rfl
  refine ⟨by have := h.le; omega, hr, ?_, fun i h1 h2 => ?_, fun i h1 h2 => ?_⟩
  · rw [rd_same2 _ 2050 _ (by omega) (by kernel_rfl)]
    omega
  · have hi : i % n < n := Nat.mod_lt _ (by omega)
    rw [rd_out _ _ _ _ 2 2 2 2 rfl rfl (by omega)]
    by_cases e : i = L
    · subst e
      rw [rd_same2 _ _ _ (by omega) (okN_in (z := 2) (by omega) (by omega) (by omega))]
      omega
    · have := mod_ne (n := n) (i := i) (j := L) (by omega) (by omega)
      rw [rd_out _ _ _ _ 2 2 2 2 rfl rfl (by omega), pd_out _ _ _ _ _ _ _ 2 2 rfl (by omega)]
      exact h.hd i h1 (by omega)
  · have hi : i % n < n := Nat.mod_lt _ (by omega)
    rw [ds_wr _ _ _ _ 2 2 rfl (by omega), ds_wr _ _ _ _ 2 2 rfl (by omega)]
    by_cases e : i = L
    · subst e
      rw [ds_same _ _ _ _ _ _ (by decide) (by decide) (by omega) (by rw [u0]; decide) (by rw [u0]; decide) (by omega) (by omega), u0]
      congr 1
      omega
    · have := mod_ne (n := n) (i := i) (j := L) (by omega) (by omega)
      rw [ds_other _ _ _ _ _ _ _ (by omega)]
      exact h.ds i h1 (by omega)
theorem sz_yes' {n : Nat} (h : isSz (n : Int) = true) : n = 1 ∨ n = 2 ∨ n = 4 ∨ n = 8 ∨ n = 16 ∨ n = 32 ∨ n = 64 := by unfold isSz at h; simp at h; omega
theorem sz_dvd (h : isSz (n : Int) = true) : ∀ g : Nat, ((g : Int) % 65536) % (n : Int) = ((g % n : Nat) : Int) := by
  intro g
  have h' := sz_yes' h
  rcases h' with rfl | rfl | rfl | rfl | rfl | rfl | rfl <;> omega
theorem may_r (p : Nat) (f : Nat → Int) (l : Int) (l0 : 0 ≤ l) (l1 : l < 64) : mayD (RmG p 0 2) f 4096 l 0 false = true := by
  show (!(fX 0 || false && !fW2 0) && (l == 0 || hasB 0 2 4096 l)) = true
  rw [has_in (by omega) l0 (by omega), show fX 0 = false by kernel_rfl]
  simp
set_option maxHeartbeats 2000000 in
theorem r_next (p : Nat) (h : RdM n K f L g) (hs : isSz (n : Int) = true) (n0 : 1 ≤ n) (n64 : n ≤ 64) (hg : g < L) (hK : 0 ≤ K g) : nxF (RmG p 0 2) f (vR n g g) n = ⟨0, true, ((g % n : Nat) : Int), [(4096, K g % 64)], [], vR n (g + 1) g⟩ := by
  have hm : g % n < n := Nat.mod_lt _ (by omega)
  have k1 : okN 0 2 2050 2 = true := by kernel_rfl
  have hroom := h.room
  have a1 : ahd (RmG p 0 2) f (vR n g g) = (L : Int) - g := by
    show (rdF 0 2 f 2050 2 - (g : Int) % 65536) % 65536 = _
    rw [h.idx]; omega
  have e1 : ofE (RmG p 0 2) f (vR n g g) = 0 := by
    unfold ofE
    rw [a1]
    show (bif !okN 0 2 2050 2 then (32 : Int) else bif decide ((n : Int) < (L : Int) - g) then 30 else 0) = 0
    rw [k1]
    have : decide ((n : Int) < (L : Int) - g) = false := by simp; omega
    rw [this]; rfl
  have e2 : (ofN (RmG p 0 2) f (vR n g g) == 0) = false := by unfold ofN; rw [e1, a1]; simp; omega
  have av : avA (vR n g g) = 2052 + 2 * ((g % n : Nat) : Int) := by
    show (2048 : Int) + 4 + 2 * (((g : Int) % 65536) % (n : Int)) = _
    rw [sz_dvd hs]; omega
  have k2 : okN 0 2 (2052 + 2 * ((g % n : Nat) : Int)) 2 = true := okN_in (z := 2) (by omega) (by omega) (by omega)
  have tk : (vR n g g).take = vR n (g + 1) g := by
    show (⟨n, 256, 2048, 2304, ((g : Int) % 65536 + 1) % 65536, (g : Int) % 65536, false⟩ : QV) = ⟨n, 256, 2048, 2304, ((g + 1 : Nat) : Int) % 65536, (g : Int) % 65536, false⟩
    congr 1
    omega
  obtain ⟨m, rfl⟩ : ∃ m, n = m + 1 := ⟨n - 1, by omega⟩
  have hfol : fol (RmG p 0 2) f (vR (m + 1) (g + 1) g) (m + 1) ((g % (m + 1) : Nat) : Int) [] [] = (0, [(4096, K g % 64)], []) := by
    rw [fol_step p 0 2 f (vR (m + 1) (g + 1) g) m _ [] [] (by show ((g % (m + 1) : Nat) : Int) < ((m + 1 : Nat) : Int); omega) ⟨4096, K g % 64, 0, 0⟩ (h.ds g (Nat.le_refl _) hg) (okD_in p f _ (by show (0 : Int) ≤ 256 + 16 * _; omega) (by show (256 : Int) + 16 * _ + 16 ≤ _; omega))]
    have hb : decide (0 < ([] : List (Int × Int)).length) = false := rfl
    simp only [hb, may_r p f (K g % 64) (by omega) (by omega), show fM 0 = false by kernel_rfl, show fW2 0 = false by kernel_rfl]
    rfl
  have t := tk_yes (RmG p 0 2) f (vR (m + 1) g g) (m + 1) _ _ 0 [(4096, K g % 64)] [] av k2 (h.hd g (Nat.le_refl _) hg) (by rw [tk]; exact hfol)
  rw [tk] at t
  exact nx_yes (RmG p 0 2) f (vR (m + 1) g g) (m + 1) _ (show ((m + 1 : Nat) : Int) ≠ 0 by omega) rfl e1 e2 t rfl rfl
theorem r_none (p : Nat) (h : RdM n K f L L) (n0 : 1 ≤ n) : nxF (RmG p 0 2) f (vR n L L) n = ⟨0, false, 0, [], [], vR n L L⟩ := by
  have k1 : okN 0 2 2050 2 = true := by kernel_rfl
  have a1 : ahd (RmG p 0 2) f (vR n L L) = 0 := by
    show (rdF 0 2 f 2050 2 - (L : Int) % 65536) % 65536 = _
    rw [h.idx]; omega
  have e1 : ofE (RmG p 0 2) f (vR n L L) = 0 := by
    unfold ofE
    rw [a1]
    show (bif !okN 0 2 2050 2 then (32 : Int) else bif decide ((n : Int) < 0) then 30 else 0) = 0
    rw [k1]
    have : decide ((n : Int) < 0) = false := by simp
    rw [this]; rfl
  have e2 : ofN (RmG p 0 2) f (vR n L L) = 0 := by unfold ofN; rw [e1, a1]; rfl
  unfold nxF
  have z : ¬ (vR n L L).sz = 0 := by show ¬ (n : Int) = 0; omega
  rw [if_neg z, e1, e2]
  rfl
/-- the memory behind a Push -/
def psM (n : Nat) (f : Nat → Int) (g : Nat) (x : Int) : Nat → Int := wrF 0 2 (wrF 0 2 (wrF 0 2 f (2308 + 8 * ((g % n : Nat) : Int)) 4 ((g % n : Nat) : Int)) (2308 + 8 * ((g % n : Nat) : Int) + 4) 4 x) 2306 2 (((g : Int) + 1) % 65536)
set_option maxHeartbeats 2000000 in
theorem r_push (p : Nat) (f : Nat → Int) (g : Nat) (x : Int) (hs : isSz (n : Int) = true) (n0 : 1 ≤ n) (n64 : n ≤ 64) : puF (RmG p 0 2) f (vR n (g + 1) g) ((g % n : Nat) : Int) x = (0, vR n (g + 1) (g + 1), psM n f g x) := by
  have hm : g % n < n := Nat.mod_lt _ (by omega)
  have pa : puA (vR n (g + 1) g) = 2308 + 8 * ((g % n : Nat) : Int) := by
    show (2304 : Int) + 4 + 8 * (((g : Int) % 65536) % (n : Int)) = _
    rw [sz_dvd hs]; omega
  have gg : ((vR n (g + 1) g).gv + 1) % 65536 = ((g : Int) + 1) % 65536 := by
    show ((g : Int) % 65536 + 1) % 65536 = _
    omega
  have gv : (vR n (g + 1) g).give = vR n (g + 1) (g + 1) := by
    have : ((g : Int) % 65536 + 1) % 65536 = ((g + 1 : Nat) : Int) % 65536 := by omega
    unfold QV.give vR
    rw [this]
  have := ps_yes (RmG p 0 2) f (vR n (g + 1) g) ((g % n : Nat) : Int) x _ 2306 _ (show (n : Int) ≠ 0 by omega) rfl pa rfl gg (okN_in (z := 4) (by omega) (by omega) (by omega)) (okN_in (z := 4) (by omega) (by omega) (by omega)) (by show okN 0 2 2306 2 = true; kernel_rfl)
  rw [gv] at this
  exact this
theorem RdM.push (h : RdM n K f L g) (n0 : 1 ≤ n) (n64 : n ≤ 64) (hg : g < L) (x : Int) : RdM n K (psM n f g x) L (g + 1) := by
  have hm : g % n < n := Nat.mod_lt _ (by omega)
  unfold psM
  refine ⟨hg, by have := h.room; omega, ?_, fun i h1 h2 => ?_, fun i h1 h2 => ?_⟩
  · rw [rd_out _ _ _ _ 2 2 2 2 rfl rfl (by omega), rd_out _ _ _ _ 2 4 2 4 rfl rfl (by omega), rd_out _ _ _ _ 2 4 2 4 rfl rfl (by omega)]
    exact h.idx
  · have hi : i % n < n := Nat.mod_lt _ (by omega)
    rw [rd_out _ _ _ _ 2 2 2 2 rfl rfl (by omega), rd_out _ _ _ _ 2 4 2 4 rfl rfl (by omega), rd_out _ _ _ _ 2 4 2 4 rfl rfl (by omega)]
    exact h.hd i (by omega) h2
  · have hi : i % n < n := Nat.mod_lt _ (by omega)
    rw [ds_wr _ _ _ _ 2 2 rfl (by omega), ds_wr _ _ _ _ 4 4 rfl (by omega), ds_wr _ _ _ _ 4 4 rfl (by omega)]
    exact h.ds i (by omega) h2
theorem ps_rd (n : Nat) (f : Nat → Int) (g : Nat) (x : Int) (x0 : 0 ≤ x) (n0 : 1 ≤ n) (n64 : n ≤ 64) : rdF 0 2 (psM n f g x) (2308 + 8 * ((g % n : Nat) : Int)) 4 = ((g % n : Nat) : Int) ∧ rdF 0 2 (psM n f g x) (2308 + 8 * ((g % n : Nat) : Int) + 4) 4 = x % 4294967296 ∧ rdF 0 2 (psM n f g x) 2306 2 = ((g : Int) + 1) % 65536 := by
  have hm : g % n < n := Nat.mod_lt _ (by omega)
  unfold psM
  refine ⟨?_, ?_, ?_⟩
  · rw [rd_out _ _ _ _ 4 2 4 2 rfl rfl (by omega), rd_out _ _ _ _ 4 4 4 4 rfl rfl (by omega), rd_same4 _ _ _ (by omega) (okN_in (z := 4) (by omega) (by omega) (by omega))]
    omega
  · rw [rd_out _ _ _ _ 4 2 4 2 rfl rfl (by omega), rd_same4 _ _ _ x0 (okN_in (z := 4) (by omega) (by omega) (by omega))]
  · rw [rd_same2 _ _ _ (by omega) (by kernel_rfl)]
    omega
end
end Go.Proofs.Ytgebjfkmiaobgaa
namespace Go.Proofs.Ytgebjfkmiaobgaa
open Go.RowKit
open C (Only hid Still ret_int ret_bool Mem RMem okN rdF wrF hasB nu put byt TB Tw TwB)
set_option linter.unusedVariables false
set_option maxRecDepth 100000

theorem vR_0 (n : Nat) : vR n 0 0 = vN n := rfl
theorem RdM.start (n : Nat) (K : Nat → Int) : RdM n K f0 0 0 := ⟨Nat.le_refl _, by omega, by
  unfold rdF f0
  split <;> rfl, fun i h1 h2 => absurd h2 (by omega), fun i h1 h2 => absurd h2 (by omega)⟩
theorem RdM.shift {n : Nat} {K f : Nat → Int} {L : Nat} (h : RdM n K f L L) : RdM n K f L L := h
set_option maxHeartbeats 16000000 in
theorem w_VirtqRound (W : World) (size : Int) (s0 : -9223372036854775808 ≤ size) (s1 : size ≤ 9223372036854775807) (ad : Option Addr) (la cap ab ao : Nat) (K : Nat → Int) (hN : Nu .u64 Bu W ad la cap ab ao K) (ba : Int) (t0 : -9223372036854775808 ≤ ba) (t1 : ba ≤ 9223372036854775807) (hll : la ≤ 17592186044416) :
    Calls Try.prog 5 #[.int .i64 size, .slice ad la cap, .int .i64 ba] W fun e w' => e = .returned (.bool true) ∧ Below W.heap.size W w' := by
  have hM := l_Memory W 0 (by decide) (by decide) (by decide) 2 (by decide) (by decide) 2 rfl
  have HPs := hid (fun w => C.c_Place size 7 (by decide) (by decide) s0 s1 w)
  obtain ⟨k, hk⟩ : ∃ k, size % 7 = k := ⟨_, rfl⟩
  have k0 : 0 ≤ k := by omega
  have k1 : k < 7 := by omega
  rw [hk] at HPs
  obtain ⟨n, n1, n2, n3, n4⟩ := sh7 k k0 k1
  have wk : IntKind.u64.wrap k = k := by rw [IntKind.wrap_u64]; omega
  have hsh : IntKind.i64.wrap ((2 : Int) ^ k.toNat) = n := by rw [n1, IntKind.wrap_i64]; omega
  have HPb := hid (fun w => C.c_Place ba n (by omega) (by omega) t0 t1 w)
  obtain ⟨a, ha⟩ : ∃ a, ba % (n : Int) = a := ⟨_, rfl⟩
  have a0 : 0 ≤ a := by rw [← ha]; exact Int.emod_nonneg _ (by omega)
  have a1 : a < n := by rw [← ha]; exact Int.emod_lt_of_pos _ (by omega)
  rw [ha] at HPb
  obtain ⟨st, hst⟩ : ∃ st : Nat, 1 + a = st := ⟨(1 + a).toNat, by omega⟩
  have st0 : 1 ≤ st := by omega
  have st1 : st ≤ n := by omega
  have wst : IntKind.i64.wrap (1 + a) = st := by rw [IntKind.wrap_i64]; omega
  have hlc := hN.len
  have hcm := hN.cap
  have HNu := hid hN
  have HAw := hid l_awake
  have HN2 := hid n2
  clear hN hk ha t0 t1 s0 s1 hst
  go_enter Try.func5, Try.ntmps5
  go_upto_region 3 with (first
    | (go_at_call 10; refine hM.mono ?_; rintro e w1 ⟨p, r, U, rfl, h1, h2, h3⟩; have HT := hid h1; have HB := hid h2; have HU := hid h3; clear h1 h2 h3)
    | (go_at_call 11; refine (k_New _).mono ?_; rintro e w2 ⟨rfl, h1, h2⟩; have HL := hid (LQ.lay (.refl _ _) HT.out HB.out HU.out h1 h2); clear h1 h2))
  have ee : (w1.alloc (.cells #[.pointer (some ⟨p, 0, none⟩), .pointer (some ⟨r, 0, none⟩)] 28)).heap.size = w1.heap.size + 1 := by simp
  clear HT HB HU hM
  generalize w1.heap.size = B at *
  have hS := l_Setup HL.out n 256 2048 2304 (by omega) (by omega) (by decide) (by decide) (by decide) (by decide) (by decide) (by decide)
  rw [(vN_set n n2).1, (vN_set n n2).2] at hS
  go_upto_region 8 with (first
    | (go_at_call 13; (with_reducible refine (HPs.out _).mono ?_); rintro e w' ⟨rfl, hw⟩; obtain rfl := hw.symm)
    | (go_at_call 13; (with_reducible refine (HPb.out _).mono ?_); rintro e w' ⟨rfl, hw⟩; obtain rfl := hw.symm)
    | (go_at_call 21; (refine hS.mono ?_); rintro e w4 ⟨rfl, h1, h2⟩; have HL4 : Hid (LQ W _ B (B + 1) p r (vR n 0 0) 0 2 f0 f0) := h1; clear h1 h2 hS))
  clear HL HPs HPb hsh wk n1 n2 wst ee a0 a1 k0 k1
  go_wp2_with fail
  go_loopw [13, 14] (fun x y wr => ∃ (L : Nat) (f h : Nat → Int), L ≤ la ∧ x = .int .i64 L ∧ y = .int .i64 L ∧ Hid (LQ W wr B (B + 1) p r (vR n L L) 0 2 f h ∧ RdM n K f L L)) (fun x _ _ => la - (intOf x).toNat)
  case atStart => exact ⟨0, f0, f0, by omega, rfl, rfl, HL4.out, RdM.start n K⟩
  case round =>
    obtain ⟨L0, f, h, Ln, rfl, rfl, HI⟩ := hrel
    by_cases hL0 : L0 < la
    · have hLl : (L0 : Int) < la := by omega
      go_wp2_with fail
      go_loopw [13, 15] (fun x y wr => ∃ (i : Nat) (f h : Nat → Int), i ≤ st ∧ L0 + i ≤ la ∧ x = .int .i64 ((L0 + i : Nat) : Int) ∧ y = .int .i64 i ∧ Hid (LQ W wr B (B + 1) p r (vR n L0 L0) 0 2 f h ∧ RdM n K f (L0 + i) L0)) (fun _ y _ => st - (intOf y).toNat)
      case atStart => exact ⟨0, f, h, by omega, by omega, rfl, rfl, HI.out⟩
      case round =>
        obtain ⟨i, f1, h1', i1, i2, rfl, rfl, HJ⟩ := hrel
        by_cases hi : i < st
        · have hil : (i : Int) < st := by omega
          obtain ⟨L, hLd⟩ : ∃ L, L0 + i = L := ⟨_, rfl⟩
          rw [hLd] at HJ i2 ⊢
          by_cases hL : L < la
          · have hLa : (L : Int) < la := by omega
            obtain ⟨hK0, hK1⟩ := HNu.out.num L
            obtain ⟨rfl, -⟩ := HNu.out.at0 (by omega)
            have hLm : L % n < n := Nat.mod_lt _ (by omega)
            have tmL : (L : Int).tmod n = ((L % n : Nat) : Int) := by rw [Int.tmod_eq_emod_of_nonneg (by omega)]; omega
            have HM2 := hid (HJ.out.2.lay n3 n4 (by omega) hK0)
            generalize L % n = dd at *
            have hgn : ¬ (L : Int) < 0 := by omega
            have hnz : ((n : Int) == 0) = false := by simp; omega
            have kc : wr.cell? ⟨ab, ao + L, none⟩ = some (.int .u64 (K L)) := (HNu.out.below HJ.out.1.new).cell L hL
            have tk64 : (K L).tmod 64 = K L % 64 := Int.tmod_eq_emod_of_nonneg hK0
            have c0 := HJ.out.1.c0
            have c1 := HJ.out.1.c1
            have HPu : Hid (∀ k, Calls Try.prog 20 #[.agg #[.pointer (some ⟨p, 0, none⟩), .pointer (some ⟨r, 0, none⟩)], .int .u64 0, .int .i64 (dd : Int), .int .u64 4096, .int .u64 (K L % 64), .int .i64 0, .int .i64 0] (wr.drewN k) fun e w' => e = .returned (.tuple #[]) ∧ LQ W w' B (B + 1) p r (vR n L0 L0) 0 2 (putD 0 2 f1 (256 + 16 * (dd : Int)) 4096 (K L % 64) (u64m 0) (u64m 0)) (putD 0 2 h1' (256 + 16 * (dd : Int)) 4096 (K L % 64) (u64m 0) (u64m 0)) ∧ Kq (wr.drewN k) w') := fun k => l_Put (HJ.out.1.below (dnV wr k)) 0 (dd : Int) 4096 (K L % 64) 0 0 (256 + 16 * (dd : Int)) (by decide) (by decide) (by omega) (by omega) (by decide) (by decide) (by omega) (by omega) (by omega)
            go_upto_region 15 with fail
            refine wp_region_last_lit (by simp) (by kernel_rfl) (by kernel_rfl) (by kernel_rfl) ?_
            simp only [List.dropLast, List.getLast]
            repeat (go_big_quiet_step (fail))
            refine wpQuiet_nil ?_
            intro _ hwq
            obtain ⟨nq, hwq⟩ := hwq
            subst hwq
            have hPu := HPu.out nq
            generalize putD 0 2 f1 (256 + 16 * (dd : Int)) 4096 (K L % 64) (u64m 0) (u64m 0) = f2 at *
            generalize putD 0 2 h1' (256 + 16 * (dd : Int)) 4096 (K L % 64) (u64m 0) (u64m 0) = h2' at *
            go_upto_region 16 with (go_at_call 20; (with_reducible refine hPu.mono ?_); rintro e w4 ⟨rfl, h1, h2⟩; have H4 := hid h1; clear h1 h2 hPu c0 c1)
            clear HPu kc tk64
            have c0 := H4.out.c0
            have c1 := H4.out.c1
            have v1 : IntKind.i64.wrap (2 * (dd : Int)) = 2 * (dd : Int) := by rw [IntKind.wrap_i64]; omega
            have v2 : IntKind.i64.wrap (2052 + 2 * (dd : Int)) = 2052 + 2 * (dd : Int) := by rw [IntKind.wrap_i64]; omega
            have v3 : IntKind.u64.wrap (2052 + 2 * (dd : Int)) = 2052 + 2 * (dd : Int) := by rw [IntKind.wrap_u64]; omega
            have v10 : IntKind.u64.wrap (dd : Int) = (dd : Int) := by rw [IntKind.wrap_u64]; omega
            have HW1 : Hid (∀ k, Calls Try.prog 19 #[.agg #[.pointer (some ⟨p, 0, none⟩), .pointer (some ⟨r, 0, none⟩)], .int .u64 (2052 + 2 * (dd : Int)), .int .i64 2, .int .u64 (dd : Int)] (w4.drewN k) fun e w' => e = .returned (.tuple #[]) ∧ LQ W w' B (B + 1) p r (vR n L0 L0) 0 2 (wrF 0 2 f2 (2052 + 2 * (dd : Int)) 2 (dd : Int)) (wrF 0 2 h2' (2052 + 2 * (dd : Int)) 2 (dd : Int)) ∧ Kq (w4.drewN k) w') := fun k => l_Write (H4.out.below (dnV w4 k)) _ 2 _ (by omega) (by omega) (by decide) (by decide) (by omega) (by omega)
            refine wp_region_last_lit (by simp) (by kernel_rfl) (by kernel_rfl) (by kernel_rfl) ?_
            simp only [List.dropLast, List.getLast]
            repeat (go_big_quiet_step (fail))
            refine wpQuiet_nil ?_
            intro _ hwq
            obtain ⟨nq, hwq⟩ := hwq
            subst hwq
            have hW1 := HW1.out nq
            generalize wrF 0 2 f2 (2052 + 2 * (dd : Int)) 2 (dd : Int) = f3 at *
            generalize wrF 0 2 h2' (2052 + 2 * (dd : Int)) 2 (dd : Int) = h3' at *
            have v5 : IntKind.i64.wrap ((L : Int) + 1) = (L : Int) + 1 := by rw [IntKind.wrap_i64]; omega
            have v7 : ((L : Int) + 1).tmod 65536 = ((L : Int) + 1) % 65536 := Int.tmod_eq_emod_of_nonneg (by omega)
            have v8 : IntKind.u64.wrap (((L : Int) + 1) % 65536) = ((L : Int) + 1) % 65536 := by rw [IntKind.wrap_u64]; omega
            have HW2 : Hid (∀ w5, LQ W w5 B (B + 1) p r (vR n L0 L0) 0 2 f3 h3' → Calls Try.prog 19 #[.agg #[.pointer (some ⟨p, 0, none⟩), .pointer (some ⟨r, 0, none⟩)], .int .u64 2050, .int .i64 2, .int .u64 (((L : Int) + 1) % 65536)] w5 fun e w' => e = .returned (.tuple #[]) ∧ LQ W w' B (B + 1) p r (vR n L0 L0) 0 2 (wrF 0 2 f3 2050 2 (((L : Int) + 1) % 65536)) (wrF 0 2 h3' 2050 2 (((L : Int) + 1) % 65536)) ∧ Kq w5 w') := fun w5 h5 => l_Write h5 2050 2 _ (by decide) (by decide) (by decide) (by decide) (by omega) (by omega)
            go_wp2_with (first
              | (go_at_call 19; (with_reducible refine hW1.mono ?_); rintro e w5 ⟨rfl, h1, h2⟩; have hW2 := HW2.out _ h1; have c0 := h1.c0; have c1 := h1.c1; clear h1 h2 hW1)
              | (go_at_call 19; (with_reducible refine hW2.mono ?_); rintro e w6 ⟨rfl, h1, h2⟩; have H6 := hid h1; clear h1 h2 hW2 c0 c1))
            go_roundw
            case rel => exact ⟨i + 1, _, _, by omega, by omega, by go_num, by go_num, H6.out, by rw [show L0 + (i + 1) = L + 1 by omega]; exact HM2.out⟩
            case measure => simp [intOf]; omega
          · have hLx : ¬ (L : Int) < la := by omega
            go_wp2_with fail
            go_loopw [14] (fun y wr => ∃ (g : Nat) (f h : Nat → Int), L0 ≤ g ∧ g ≤ L ∧ y = .int .i64 g ∧ Hid (LQ W wr B (B + 1) p r (vR n g g) 0 2 f h ∧ RdM n K f L g)) (fun y _ => L - (intOf y).toNat)
            case atStart => exact ⟨L0, f1, h1', by omega, by omega, rfl, HJ.out⟩
            case round =>
              obtain ⟨g, f, h, g0, g1, rfl, HG⟩ := hrel
              by_cases hgl : g < L
              · have hgll : (g : Int) < L := by omega
                obtain ⟨hK0, hK1⟩ := HNu.out.num g
                obtain ⟨rfl, -⟩ := HNu.out.at0 (by omega)
                have hgm : g % n < n := Nat.mod_lt _ (by omega)
                have tmg : (g : Int).tmod n = ((g % n : Nat) : Int) := by rw [Int.tmod_eq_emod_of_nonneg (by omega)]; omega
                have c0 := HG.out.1.c0
                have hNx := l_Next HG.out.1 n rfl
                rw [r_next p HG.out.2 HN2.out n3 n4 hgl hK0] at hNx
                have HPU := hid (r_push p f g (K g) HN2.out n3 n4)
                have HPR := hid (ps_rd n f g (K g) hK0 n3 n4)
                generalize g % n = gd at *
                have HN6x : Hid (∀ w6 : World, (w6.alloc (.cells #[.int .i64 0, .slice none 0 0, .slice none 0 0] 42)).heap[w6.heap.size]? = some (.cells (cc 0 (.slice none 0 0) (.slice none 0 0)) 42 (0, 0))) := fun w6 => heap_alloc_new w6 _
                go_upto_region 21 with (first
                  | (go_at_call 14; (refine hNx.mono ?_); rintro e w7 ⟨vr, vw, rfl, h1, h2, h3, h4, h5, h6⟩; have HL7 := hid h1; have S1 := hid h2; have S2 := hid h3; clear h1 h2 h3 h4 h5 h6 hNx c0)
                  | ((with_reducible refine wpL_stC w7.heap.size (gd : Int) vr vw S1.out.s S2.out.s ?_ ?_ (HN6x.out w7) ?_); rfl; rfl))
                obtain ⟨w8, hw8⟩ : ∃ w8, w8 = (w7.alloc (.cells #[.int .i64 0, .slice none 0 0, .slice none 0 0] 42)).setRow w7.heap.size (cc (gd : Int) vr vw) := ⟨_, rfl⟩
                have HB8 : Hid (Below w7.heap.size w7 w8) := hw8 ▸ below_row ((Below.refl _ _).alloc (Nat.le_refl _) _) (Nat.le_refl _) _
                have HCJ : Hid (w8.heap[w7.heap.size]? = some (.cells (cc (gd : Int) vr vw) 42 (0, 0))) := hw8 ▸ setRow_heap _ w7.heap.size _ _ _ _ (HN6x.out w7)
                have HL8 := hid (HL7.out.below HB8.out)
                have SJ1 := hid (S1.out.below HB8.out)
                rw [← hw8]
                clear hw8 HB8 HL7 S1 S2 HN6x
                obtain ⟨gl, cl, rfl, q1, q2, q3, q4⟩ := SJ1.out.at (by simp)
                obtain ⟨x0, x1⟩ := q4 0 (4096, K g % 64) rfl
                have z0 : w8.cell? ⟨w7.heap.size, 0, none⟩ = some (.int .i64 (gd : Int)) := cell_of_row w8 _ 0 _ _ _ HCJ.out
                have z1 : w8.cell? ⟨w7.heap.size, 1, none⟩ = some (.slice (some ⟨gl, 0, none⟩) 1 cl) := cell_of_row w8 _ 1 _ _ _ HCJ.out
                have kc : w8.cell? ⟨ab, ao + g, none⟩ = some (.int .u64 (K g)) := (HNu.out.below HL8.out.new).cell g (by omega)
                have tk64 : (K g).tmod 64 = K g % 64 := Int.tmod_eq_emod_of_nonneg hK0
                have wk64 : IntKind.i64.wrap (K g % 64) = K g % 64 := by rw [IntKind.wrap_i64]; omega
                have hcl : 1 ≤ cl := q1
                have hgc : (g : Int) < la := by omega
                have hgn : ¬ (g : Int) < 0 := by omega
                clear q4 SJ1
                go_quiet (fail)
                clear x0 x1 z0 z1 kc tk64 wk64
                go_upto_region 23 with fail
                obtain ⟨w0, hw0⟩ : ∃ w0, w0 = (w8.drewN nq).drew := ⟨_, rfl⟩
                have HB0 : Hid (Below w8.heap.size w8 w0) := hw0 ▸ (dnV w8 nq).drew
                refine wp_region_any (by kernel_rfl) ?_
                rw [show ({ w8.drewN nq with drawn := (w8.drewN nq).drawn + 1 } : World) = w0 from hw0.symm]
                clear hw0
                have HL0 := hid (HL8.out.below HB0.out)
                have HCL : Hid (w0.cell? ⟨B, 0, none⟩ = some (.pointer (some ⟨p, 0, none⟩)) ∧ w0.cell? ⟨w7.heap.size, 0, none⟩ = some (.int .i64 (gd : Int)) ∧ w0.cell? ⟨ab, ao + g, none⟩ = some (.int .u64 (K g))) := ⟨HL0.out.c0, cell_of_row w0 _ 0 _ _ _ ((HB0.out.block _ (lt_of_block HCJ.out)).trans HCJ.out), (HNu.out.below HL0.out.new).cell g (by omega)⟩
                have HPsh : Hid (Calls Try.prog 17 #[.pointer (some ⟨B + 1, 0, none⟩), gR p, .int .i64 (gd : Int), .int .u64 (K g)] w0 fun e w' => e = .returned (.int .i64 0) ∧ LQ W w' B (B + 1) p r (vR n (g + 1) (g + 1)) 0 2 (psM n f g (K g)) h) := by
                  have := l_Push HL0.out (gd : Int) (K g) (gd : Int) (by omega) hK0 hK1
                  rw [HPU.out] at this
                  exact this.mono fun e w' ⟨a1, a2, a3⟩ => ⟨a1, a2⟩
                have hgc : (g : Int) < la := by omega
                have hgn : ¬ (g : Int) < 0 := by omega
                refine wpAny_fz (α := Unit) (fun _ => fun dd => if dd = 145 then .pointer (some ⟨B + 1, 0, none⟩) else if dd = 146 then .pointer (some ⟨B, 0, none⟩) else if dd = 147 then .pointer (some ⟨p, 0, none⟩) else if dd = 148 then gR p else if dd = 149 then .pointer (some ⟨w7.heap.size, 0, none⟩) else if dd = 150 then .int .i64 (gd : Int) else if dd = 151 then .slice (some ⟨ab, ao, none⟩) la cap else if dd = 152 then .int .i64 (g : Int) else if dd = 153 then .pointer (some ⟨ab, ao + g, none⟩) else if dd = 154 then .int .u64 (K g) else if dd = 155 then .int .i64 0 else if dd = 156 then .bool false else undef) (VS [10] (fun s (_ : Unit) w => match s with | 0 => w = w0 | _ + 1 => LQ W w B (B + 1) p r (vR n (g + 1) (g + 1)) 0 2 (psM n f g (K g)) h)) ?step ?fin () ?start
                case start => exact .start rfl
                case step =>
                  rintro listed fr wr x hF hW hC i hj
                  obtain ⟨hl, o, ho, he⟩ := mem_ready.1 hj
                  have hjl : i < listed.size := by rw [hF.q.ls]; exact (Array.getElem?_eq_some_iff.1 ho).1
                  have hl0 := getD_tf hjl hl
                  clear hj
                  have HF := hid hF
                  have HW := hid hW
                  have HE := hid he
                  have HC := hid hC
                  clear hF hW he hl hC
                  match i, ho with
                  | 0, ho =>
                    obtain rfl := Option.some.inj ho
                    have e9 : fr.tmps[9]?.getD undef = .pointer (some ⟨B + 1, 0, none⟩) := HF.out.base 9 (by kernel_rfl) rfl
                    exact wp_q rfl rfl (by simp [execOp, go_sem, e9]; try rfl) ⟨(), HF.out.put (by kernel_rfl) rfl rfl rfl (of_decide_eq_true rfl), HW.out.q hjl (by decide)⟩
                  | 1, ho =>
                    obtain rfl := Option.some.inj ho
                    have e7 : fr.tmps[7]?.getD undef = .pointer (some ⟨B, 0, none⟩) := HF.out.base 7 (by kernel_rfl) rfl
                    exact wp_q rfl rfl (by simp [execOp, go_sem, e7]; try rfl) ⟨(), HF.out.put (by kernel_rfl) rfl rfl rfl (of_decide_eq_true rfl), HW.out.q hjl (by decide)⟩
                  | 2, ho =>
                    obtain rfl := Option.some.inj ho
                    have e146 : fr.tmps[146]?.getD undef = .pointer (some ⟨B, 0, none⟩) := HF.out.ev (i := 1) rfl rfl (HE.out ⟨1, .data⟩ (by simp) rfl)
                    have hc : wr.cell? ⟨B, 0, none⟩ = some (.pointer (some ⟨p, 0, none⟩)) ∧ wr.cell? ⟨w7.heap.size, 0, none⟩ = some (.int .i64 (gd : Int)) ∧ wr.cell? ⟨ab, ao + g, none⟩ = some (.int .u64 (K g)) := by
                      have h10 : listed.getD 10 false = false := by
                        cases e : listed.getD 10 false
                        · rfl
                        · have := HC.out 10 _ rfl e ⟨3, .data⟩ (by simp) rfl; have := HC.out 3 _ rfl this ⟨2, .data⟩ (by simp) rfl; rw [hl0] at this; cases this
                      obtain ⟨sS, hs1, hm⟩ := HW.out
                      have hz : sS = 0 := by
                        have := hs1 0 10 rfl
                        rw [h10] at this
                        have : ¬ 0 < sS := by simpa using this.symm
                        exact Nat.eq_zero_of_not_pos this
                      subst hz
                      have hwz : wr = w0 := hm
                      rw [hwz]
                      exact HCL.out
                    exact wp_q rfl rfl (by simp [execOp, go_sem, e146, hc.1]; try rfl) ⟨(), HF.out.put (by kernel_rfl) rfl rfl rfl (of_decide_eq_true rfl), HW.out.q hjl (by decide)⟩
                  | 3, ho =>
                    obtain rfl := Option.some.inj ho
                    have e147 : fr.tmps[147]?.getD undef = .pointer (some ⟨p, 0, none⟩) := HF.out.ev (i := 2) rfl rfl (HE.out ⟨2, .data⟩ (by simp) rfl)
                    exact wp_q rfl rfl (by simp [execOp, go_sem, e147]; try rfl) ⟨(), HF.out.put (by kernel_rfl) rfl rfl rfl (of_decide_eq_true rfl), HW.out.q hjl (by decide)⟩
                  | 4, ho =>
                    obtain rfl := Option.some.inj ho
                    have e17 : fr.tmps[17]?.getD undef = .pointer (some ⟨w7.heap.size, 0, none⟩) := HF.out.base 17 (by kernel_rfl) rfl
                    exact wp_q rfl rfl (by simp [execOp, go_sem, e17]; try rfl) ⟨(), HF.out.put (by kernel_rfl) rfl rfl rfl (of_decide_eq_true rfl), HW.out.q hjl (by decide)⟩
                  | 5, ho =>
                    obtain rfl := Option.some.inj ho
                    have e149 : fr.tmps[149]?.getD undef = .pointer (some ⟨w7.heap.size, 0, none⟩) := HF.out.ev (i := 4) rfl rfl (HE.out ⟨4, .data⟩ (by simp) rfl)
                    have hc : wr.cell? ⟨B, 0, none⟩ = some (.pointer (some ⟨p, 0, none⟩)) ∧ wr.cell? ⟨w7.heap.size, 0, none⟩ = some (.int .i64 (gd : Int)) ∧ wr.cell? ⟨ab, ao + g, none⟩ = some (.int .u64 (K g)) := by
                      have h10 : listed.getD 10 false = false := by
                        cases e : listed.getD 10 false
                        · rfl
                        · have := HC.out 10 _ rfl e ⟨5, .data⟩ (by simp) rfl; rw [hl0] at this; cases this
                      obtain ⟨sS, hs1, hm⟩ := HW.out
                      have hz : sS = 0 := by
                        have := hs1 0 10 rfl
                        rw [h10] at this
                        have : ¬ 0 < sS := by simpa using this.symm
                        exact Nat.eq_zero_of_not_pos this
                      subst hz
                      have hwz : wr = w0 := hm
                      rw [hwz]
                      exact HCL.out
                    exact wp_q rfl rfl (by simp [execOp, go_sem, e149, hc.2.1]; try rfl) ⟨(), HF.out.put (by kernel_rfl) rfl rfl rfl (of_decide_eq_true rfl), HW.out.q hjl (by decide)⟩
                  | 6, ho =>
                    obtain rfl := Option.some.inj ho
                    have e1 : fr.tmps[1]?.getD undef = .slice (some ⟨ab, ao, none⟩) la cap := HF.out.base 1 (by kernel_rfl) rfl
                    exact wp_q rfl rfl (by simp [execOp, go_sem, e1]; try rfl) ⟨(), HF.out.put (by kernel_rfl) rfl rfl rfl (of_decide_eq_true rfl), HW.out.q hjl (by decide)⟩
                  | 7, ho =>
                    obtain rfl := Option.some.inj ho
                    have e14 : fr.tmps[14]?.getD undef = .int .i64 (g : Int) := HF.out.base 14 (by kernel_rfl) rfl
                    exact wp_q rfl rfl (by simp [execOp, go_sem, e14]; try rfl) ⟨(), HF.out.put (by kernel_rfl) rfl rfl rfl (of_decide_eq_true rfl), HW.out.q hjl (by decide)⟩
                  | 8, ho =>
                    obtain rfl := Option.some.inj ho
                    have e151 : fr.tmps[151]?.getD undef = .slice (some ⟨ab, ao, none⟩) la cap := HF.out.ev (i := 6) rfl rfl (HE.out ⟨6, .data⟩ (by simp) rfl)
                    have e152 : fr.tmps[152]?.getD undef = .int .i64 (g : Int) := HF.out.ev (i := 7) rfl rfl (HE.out ⟨7, .data⟩ (by simp) rfl)
                    exact wp_q rfl rfl (by simp [execOp, go_sem, e151, e152, hgc]; try rfl) ⟨(), HF.out.put (by kernel_rfl) rfl rfl rfl (of_decide_eq_true rfl), HW.out.q hjl (by decide)⟩
                  | 9, ho =>
                    obtain rfl := Option.some.inj ho
                    have e153 : fr.tmps[153]?.getD undef = .pointer (some ⟨ab, ao + g, none⟩) := HF.out.ev (i := 8) rfl rfl (HE.out ⟨8, .data⟩ (by simp) rfl)
                    have hc : wr.cell? ⟨B, 0, none⟩ = some (.pointer (some ⟨p, 0, none⟩)) ∧ wr.cell? ⟨w7.heap.size, 0, none⟩ = some (.int .i64 (gd : Int)) ∧ wr.cell? ⟨ab, ao + g, none⟩ = some (.int .u64 (K g)) := by
                      have h10 : listed.getD 10 false = false := by
                        cases e : listed.getD 10 false
                        · rfl
                        · have := HC.out 10 _ rfl e ⟨9, .data⟩ (by simp) rfl; rw [hl0] at this; cases this
                      obtain ⟨sS, hs1, hm⟩ := HW.out
                      have hz : sS = 0 := by
                        have := hs1 0 10 rfl
                        rw [h10] at this
                        have : ¬ 0 < sS := by simpa using this.symm
                        exact Nat.eq_zero_of_not_pos this
                      subst hz
                      have hwz : wr = w0 := hm
                      rw [hwz]
                      exact HCL.out
                    exact wp_q rfl rfl (by simp [execOp, go_sem, e153, hc.2.2]; try rfl) ⟨(), HF.out.put (by kernel_rfl) rfl rfl rfl (of_decide_eq_true rfl), HW.out.q hjl (by decide)⟩
                  | 10, ho =>
                    obtain rfl := Option.some.inj ho
                    have e145 : fr.tmps[145]?.getD undef = .pointer (some ⟨B + 1, 0, none⟩) := HF.out.ev (i := 0) rfl rfl (HE.out ⟨0, .data⟩ (by simp) rfl)
                    have e148 : fr.tmps[148]?.getD undef = gR p := HF.out.ev (i := 3) rfl rfl (HE.out ⟨3, .data⟩ (by simp) rfl)
                    have e150 : fr.tmps[150]?.getD undef = .int .i64 (gd : Int) := HF.out.ev (i := 5) rfl rfl (HE.out ⟨5, .data⟩ (by simp) rfl)
                    have e154 : fr.tmps[154]?.getD undef = .int .u64 (K g) := HF.out.ev (i := 9) rfl rfl (HE.out ⟨9, .data⟩ (by simp) rfl)
                    have m0 : wr = w0 := HW.out.at 0 rfl hl0 (fun j hj => by omega)
                    subst m0
                    refine wp_c4 rfl rfl _ _ _ _ _ _ rfl (.pointer (some ⟨B + 1, 0, none⟩)) (gR p) (.int .i64 (gd : Int)) (.int .u64 (K g)) (by simp [Act.eval, e145]) (by simp [Act.eval, e148]) (by simp [Act.eval, e150]) (by simp [Act.eval, e154]) (Try.call17 _ _) HPsh.out ?_
                    rintro e w9 ⟨rfl, k1⟩
                    exact ⟨_, rfl, (), HF.out.put (by kernel_rfl) rfl rfl rfl (of_decide_eq_true rfl), HW.out.go 0 hjl rfl hl0 (fun j hj => by omega) (by intro a ha; match a, ha with | 0, _ => rfl) k1⟩
                  | 11, ho =>
                    obtain rfl := Option.some.inj ho
                    have e155 : fr.tmps[155]?.getD undef = .int .i64 0 := HF.out.ev (i := 10) rfl rfl (HE.out ⟨10, .data⟩ (by simp) rfl)
                    exact wp_q rfl rfl (by simp [execOp, go_sem, e155]; try rfl) ⟨(), HF.out.put (by kernel_rfl) rfl rfl rfl (of_decide_eq_true rfl), HW.out.q hjl (by decide)⟩
                case fin =>
                  rintro listed fr w2 x hF hW hr
                  have all := allDone hr hF.q.ls (by kernel_rfl)
                  obtain ⟨sS, hs1, hm⟩ := hW
                  have hs : 1 ≤ sS := by
                    have := hs1 0 10 rfl
                    rw [all 10 (by decide)] at this
                    have : 0 < sS := by simpa using this.symm
                    omega
                  obtain ⟨s2, rfl⟩ : ∃ s2, sS = s2 + 1 := ⟨sS - 1, by omega⟩
                  rw [hF.full all]
                  have H9 : Hid (LQ W w2 B (B + 1) p r (vR n (g + 1) (g + 1)) 0 2 (psM n f g (K g)) h) := hm
                  clear hF hr all hm hs1 hs HCL HPsh
                  simp only [List.foldl_cons, List.foldl_nil, fillF]
                  go_simp
                  have HR := hid (HG.out.2.push n3 n4 hgl (K g))
                  obtain ⟨u1, u2, u3⟩ := HPR.out
                  have c0 := H9.out.c0
                  have HRd1 : Hid (∀ w3, LQ W w3 B (B + 1) p r (vR n (g + 1) (g + 1)) 0 2 (psM n f g (K g)) h → Calls Try.prog 32 #[.pointer (some ⟨p, 0, none⟩), .int .u64 (2308 + 8 * (gd : Int)), .int .i64 4] w3 fun e w' => (∃ o, e = .returned (.tuple #[.int .u64 (gd : Int), .bool o])) ∧ LQ W w' B (B + 1) p r (vR n (g + 1) (g + 1)) 0 2 (psM n f g (K g)) h) := fun w3 h3 => (l_MRead h3 _ 4 (by omega) (by omega) (by decide) (by decide)).mono fun e w' ⟨a1, a2, a3⟩ => ⟨⟨okN 0 2 (2308 + 8 * (gd : Int)) 4, by rw [a1, u1]⟩, a2⟩
                  have HRd2 : Hid (∀ w3, LQ W w3 B (B + 1) p r (vR n (g + 1) (g + 1)) 0 2 (psM n f g (K g)) h → Calls Try.prog 32 #[.pointer (some ⟨p, 0, none⟩), .int .u64 (2308 + 8 * (gd : Int) + 4), .int .i64 4] w3 fun e w' => (∃ o, e = .returned (.tuple #[.int .u64 (K g % 4294967296), .bool o])) ∧ LQ W w' B (B + 1) p r (vR n (g + 1) (g + 1)) 0 2 (psM n f g (K g)) h) := fun w3 h3 => (l_MRead h3 _ 4 (by omega) (by omega) (by decide) (by decide)).mono fun e w' ⟨a1, a2, a3⟩ => ⟨⟨okN 0 2 (2308 + 8 * (gd : Int) + 4) 4, by rw [a1, u2]⟩, a2⟩
                  have HRd3 : Hid (∀ w3, LQ W w3 B (B + 1) p r (vR n (g + 1) (g + 1)) 0 2 (psM n f g (K g)) h → Calls Try.prog 32 #[.pointer (some ⟨p, 0, none⟩), .int .u64 2306, .int .i64 2] w3 fun e w' => (∃ o, e = .returned (.tuple #[.int .u64 (((g : Int) + 1) % 65536), .bool o])) ∧ LQ W w' B (B + 1) p r (vR n (g + 1) (g + 1)) 0 2 (psM n f g (K g)) h) := fun w3 h3 => (l_MRead h3 2306 2 (by decide) (by decide) (by decide) (by decide)).mono fun e w' ⟨a1, a2, a3⟩ => ⟨⟨okN 0 2 2306 2, by rw [a1, u3]⟩, a2⟩
                  clear u1 u2 u3
                  generalize psM n f g (K g) = f' at *
                  have v1 : IntKind.i64.wrap (8 * (gd : Int)) = 8 * (gd : Int) := by rw [IntKind.wrap_i64]; omega
                  have v2 : IntKind.i64.wrap (2308 + 8 * (gd : Int)) = 2308 + 8 * (gd : Int) := by rw [IntKind.wrap_i64]; omega
                  have v3 : IntKind.u64.wrap (2308 + 8 * (gd : Int)) = 2308 + 8 * (gd : Int) := by rw [IntKind.wrap_u64]; omega
                  have v4 : IntKind.u64.wrap (2308 + 8 * (gd : Int) + 4) = 2308 + 8 * (gd : Int) + 4 := by rw [IntKind.wrap_u64]; omega
                  have v5 : IntKind.i64.wrap ((g : Int) + 1) = (g : Int) + 1 := by rw [IntKind.wrap_i64]; omega
                  have v6 : IntKind.i64.wrap ((g : Int) + 1 - 1) = (g : Int) := by rw [IntKind.wrap_i64]; omega
                  have v6' : (g : Int) + 1 - 1 = (g : Int) := by omega
                  have v6w : IntKind.i64.wrap (g : Int) = (g : Int) := by rw [IntKind.wrap_i64]; omega
                  have v7 : ((g : Int) + 1).tmod 65536 = ((g : Int) + 1) % 65536 := Int.tmod_eq_emod_of_nonneg (by omega)
                  have v8 : IntKind.u64.wrap (((g : Int) + 1) % 65536) = ((g : Int) + 1) % 65536 := by rw [IntKind.wrap_u64]; omega
                  have v9 : (K g).tmod 4294967296 = K g % 4294967296 := Int.tmod_eq_emod_of_nonneg hK0
                  have v10 : IntKind.u64.wrap (gd : Int) = (gd : Int) := by rw [IntKind.wrap_u64]; omega
                  have HKc : Hid (∀ w3, LQ W w3 B (B + 1) p r (vR n (g + 1) (g + 1)) 0 2 f' h → w3.cell? ⟨ab, ao + g, none⟩ = some (.int .u64 (K g))) := fun w3 h3 => (HNu.out.below h3.new).cell g (by omega)
                  have hnz : ((n : Int) == 0) = false := by simp; omega
                  have hr1 := HRd1.out _ H9.out
                  go_upto_region 30 with (first
                    | (go_at_call 32; (with_reducible refine hr1.mono ?_); rintro e w10 ⟨⟨o1, rfl⟩, h1⟩; have c0 := h1.c0; have hr2 := HRd2.out _ h1; clear h1 hr1)
                    | (go_at_call 32; (with_reducible refine hr2.mono ?_); rintro e w11 ⟨⟨o2, rfl⟩, h1⟩; have c0 := h1.c0; have hr3 := HRd3.out _ h1; clear h1 hr2)
                    | (go_at_call 32; (with_reducible refine hr3.mono ?_); rintro e w12 ⟨⟨o3, rfl⟩, h1⟩; have HE := hid h1; have kc := HKc.out _ h1; clear h1 hr3))
                  have n1' : (((gd : Int)) != (gd : Int)) = false := by simp
                  go_wp2_with fail
                  go_roundw
                  case rel => exact ⟨g + 1, f', h, by omega, by omega, by go_num, HE.out, HR.out⟩
                  case measure => simp [intOf]; omega
              · obtain rfl : g = L := by omega
                have c0 := HG.out.1.c0
                have hNx := l_Next HG.out.1 n rfl
                rw [r_none p HG.out.2 n3] at hNx
                have HN6x : Hid (∀ w6 : World, (w6.alloc (.cells #[.int .i64 0, .slice none 0 0, .slice none 0 0] 42)).heap[w6.heap.size]? = some (.cells (cc 0 (.slice none 0 0) (.slice none 0 0)) 42 (0, 0))) := fun w6 => heap_alloc_new w6 _
                go_wp2_with (first
                  | (go_at_call 14; (refine hNx.mono ?_); rintro e w7 ⟨vr, vw, rfl, h1, h2, h3, h4, h5, h6⟩; have HL7 := hid h1; have S1 := hid h2; have S2 := hid h3; clear h1 h2 h3 h4 h5 h6 hNx c0)
                  | ((with_reducible refine wpL_stC w7.heap.size 0 vr vw S1.out.s S2.out.s ?_ ?_ (HN6x.out w7) ?_); rfl; rfl))
                go_roundw
                case rel => exact ⟨g, f, h, by omega, rfl, rfl, HL7.out.below (below_row ((Below.refl _ _).alloc (Nat.le_refl _) _) (Nat.le_refl _) _), HG.out.2⟩
                case measure => simp [intOf]; omega
        · obtain rfl : i = st := by omega
          obtain ⟨L, hLd⟩ : ∃ L, L0 + i = L := ⟨_, rfl⟩
          rw [hLd] at HJ i2 ⊢
          have hix : ¬ (i : Int) < i := by omega
          go_wp2_with fail
          go_loopw [14] (fun y wr => ∃ (g : Nat) (f h : Nat → Int), L0 ≤ g ∧ g ≤ L ∧ y = .int .i64 g ∧ Hid (LQ W wr B (B + 1) p r (vR n g g) 0 2 f h ∧ RdM n K f L g)) (fun y _ => L - (intOf y).toNat)
          case atStart => exact ⟨L0, f1, h1', by omega, by omega, rfl, HJ.out⟩
          case round =>
            obtain ⟨g, f, h, g0, g1, rfl, HG⟩ := hrel
            by_cases hgl : g < L
            · have hgll : (g : Int) < L := by omega
              obtain ⟨hK0, hK1⟩ := HNu.out.num g
              obtain ⟨rfl, -⟩ := HNu.out.at0 (by omega)
              have hgm : g % n < n := Nat.mod_lt _ (by omega)
              have tmg : (g : Int).tmod n = ((g % n : Nat) : Int) := by rw [Int.tmod_eq_emod_of_nonneg (by omega)]; omega
              have c0 := HG.out.1.c0
              have hNx := l_Next HG.out.1 n rfl
              rw [r_next p HG.out.2 HN2.out n3 n4 hgl hK0] at hNx
              have HPU := hid (r_push p f g (K g) HN2.out n3 n4)
              have HPR := hid (ps_rd n f g (K g) hK0 n3 n4)
              generalize g % n = gd at *
              have HN6x : Hid (∀ w6 : World, (w6.alloc (.cells #[.int .i64 0, .slice none 0 0, .slice none 0 0] 42)).heap[w6.heap.size]? = some (.cells (cc 0 (.slice none 0 0) (.slice none 0 0)) 42 (0, 0))) := fun w6 => heap_alloc_new w6 _
              go_upto_region 21 with (first
                | (go_at_call 14; (refine hNx.mono ?_); rintro e w7 ⟨vr, vw, rfl, h1, h2, h3, h4, h5, h6⟩; have HL7 := hid h1; have S1 := hid h2; have S2 := hid h3; clear h1 h2 h3 h4 h5 h6 hNx c0)
                | ((with_reducible refine wpL_stC w7.heap.size (gd : Int) vr vw S1.out.s S2.out.s ?_ ?_ (HN6x.out w7) ?_); rfl; rfl))
              obtain ⟨w8, hw8⟩ : ∃ w8, w8 = (w7.alloc (.cells #[.int .i64 0, .slice none 0 0, .slice none 0 0] 42)).setRow w7.heap.size (cc (gd : Int) vr vw) := ⟨_, rfl⟩
              have HB8 : Hid (Below w7.heap.size w7 w8) := hw8 ▸ below_row ((Below.refl _ _).alloc (Nat.le_refl _) _) (Nat.le_refl _) _
              have HCJ : Hid (w8.heap[w7.heap.size]? = some (.cells (cc (gd : Int) vr vw) 42 (0, 0))) := hw8 ▸ setRow_heap _ w7.heap.size _ _ _ _ (HN6x.out w7)
              have HL8 := hid (HL7.out.below HB8.out)
              have SJ1 := hid (S1.out.below HB8.out)
              rw [← hw8]
              clear hw8 HB8 HL7 S1 S2 HN6x
              obtain ⟨gl, cl, rfl, q1, q2, q3, q4⟩ := SJ1.out.at (by simp)
              obtain ⟨x0, x1⟩ := q4 0 (4096, K g % 64) rfl
              have z0 : w8.cell? ⟨w7.heap.size, 0, none⟩ = some (.int .i64 (gd : Int)) := cell_of_row w8 _ 0 _ _ _ HCJ.out
              have z1 : w8.cell? ⟨w7.heap.size, 1, none⟩ = some (.slice (some ⟨gl, 0, none⟩) 1 cl) := cell_of_row w8 _ 1 _ _ _ HCJ.out
              have kc : w8.cell? ⟨ab, ao + g, none⟩ = some (.int .u64 (K g)) := (HNu.out.below HL8.out.new).cell g (by omega)
              have tk64 : (K g).tmod 64 = K g % 64 := Int.tmod_eq_emod_of_nonneg hK0
              have wk64 : IntKind.i64.wrap (K g % 64) = K g % 64 := by rw [IntKind.wrap_i64]; omega
              have hcl : 1 ≤ cl := q1
              have hgc : (g : Int) < la := by omega
              have hgn : ¬ (g : Int) < 0 := by omega
              clear q4 SJ1
              go_quiet (fail)
              clear x0 x1 z0 z1 kc tk64 wk64
              go_upto_region 23 with fail
              obtain ⟨w0, hw0⟩ : ∃ w0, w0 = (w8.drewN nq).drew := ⟨_, rfl⟩
              have HB0 : Hid (Below w8.heap.size w8 w0) := hw0 ▸ (dnV w8 nq).drew
              refine wp_region_any (by kernel_rfl) ?_
              rw [show ({ w8.drewN nq with drawn := (w8.drewN nq).drawn + 1 } : World) = w0 from hw0.symm]
              clear hw0
              have HL0 := hid (HL8.out.below HB0.out)
              have HCL : Hid (w0.cell? ⟨B, 0, none⟩ = some (.pointer (some ⟨p, 0, none⟩)) ∧ w0.cell? ⟨w7.heap.size, 0, none⟩ = some (.int .i64 (gd : Int)) ∧ w0.cell? ⟨ab, ao + g, none⟩ = some (.int .u64 (K g))) := ⟨HL0.out.c0, cell_of_row w0 _ 0 _ _ _ ((HB0.out.block _ (lt_of_block HCJ.out)).trans HCJ.out), (HNu.out.below HL0.out.new).cell g (by omega)⟩
              have HPsh : Hid (Calls Try.prog 17 #[.pointer (some ⟨B + 1, 0, none⟩), gR p, .int .i64 (gd : Int), .int .u64 (K g)] w0 fun e w' => e = .returned (.int .i64 0) ∧ LQ W w' B (B + 1) p r (vR n (g + 1) (g + 1)) 0 2 (psM n f g (K g)) h) := by
                have := l_Push HL0.out (gd : Int) (K g) (gd : Int) (by omega) hK0 hK1
                rw [HPU.out] at this
                exact this.mono fun e w' ⟨a1, a2, a3⟩ => ⟨a1, a2⟩
              have hgc : (g : Int) < la := by omega
              have hgn : ¬ (g : Int) < 0 := by omega
              refine wpAny_fz (α := Unit) (fun _ => fun dd => if dd = 145 then .pointer (some ⟨B + 1, 0, none⟩) else if dd = 146 then .pointer (some ⟨B, 0, none⟩) else if dd = 147 then .pointer (some ⟨p, 0, none⟩) else if dd = 148 then gR p else if dd = 149 then .pointer (some ⟨w7.heap.size, 0, none⟩) else if dd = 150 then .int .i64 (gd : Int) else if dd = 151 then .slice (some ⟨ab, ao, none⟩) la cap else if dd = 152 then .int .i64 (g : Int) else if dd = 153 then .pointer (some ⟨ab, ao + g, none⟩) else if dd = 154 then .int .u64 (K g) else if dd = 155 then .int .i64 0 else if dd = 156 then .bool false else undef) (VS [10] (fun s (_ : Unit) w => match s with | 0 => w = w0 | _ + 1 => LQ W w B (B + 1) p r (vR n (g + 1) (g + 1)) 0 2 (psM n f g (K g)) h)) ?step ?fin () ?start
              case start => exact .start rfl
              case step =>
                rintro listed fr wr x hF hW hC i hj
                obtain ⟨hl, o, ho, he⟩ := mem_ready.1 hj
                have hjl : i < listed.size := by rw [hF.q.ls]; exact (Array.getElem?_eq_some_iff.1 ho).1
                have hl0 := getD_tf hjl hl
                clear hj
                have HF := hid hF
                have HW := hid hW
                have HE := hid he
                have HC := hid hC
                clear hF hW he hl hC
                match i, ho with
                | 0, ho =>
                  obtain rfl := Option.some.inj ho
                  have e9 : fr.tmps[9]?.getD undef = .pointer (some ⟨B + 1, 0, none⟩) := HF.out.base 9 (by kernel_rfl) rfl
                  exact wp_q rfl rfl (by simp [execOp, go_sem, e9]; try rfl) ⟨(), HF.out.put (by kernel_rfl) rfl rfl rfl (of_decide_eq_true rfl), HW.out.q hjl (by decide)⟩
                | 1, ho =>
                  obtain rfl := Option.some.inj ho
                  have e7 : fr.tmps[7]?.getD undef = .pointer (some ⟨B, 0, none⟩) := HF.out.base 7 (by kernel_rfl) rfl
                  exact wp_q rfl rfl (by simp [execOp, go_sem, e7]; try rfl) ⟨(), HF.out.put (by kernel_rfl) rfl rfl rfl (of_decide_eq_true rfl), HW.out.q hjl (by decide)⟩
                | 2, ho =>
                  obtain rfl := Option.some.inj ho
                  have e146 : fr.tmps[146]?.getD undef = .pointer (some ⟨B, 0, none⟩) := HF.out.ev (i := 1) rfl rfl (HE.out ⟨1, .data⟩ (by simp) rfl)
                  have hc : wr.cell? ⟨B, 0, none⟩ = some (.pointer (some ⟨p, 0, none⟩)) ∧ wr.cell? ⟨w7.heap.size, 0, none⟩ = some (.int .i64 (gd : Int)) ∧ wr.cell? ⟨ab, ao + g, none⟩ = some (.int .u64 (K g)) := by
                    have h10 : listed.getD 10 false = false := by
                      cases e : listed.getD 10 false
                      · rfl
                      · have := HC.out 10 _ rfl e ⟨3, .data⟩ (by simp) rfl; have := HC.out 3 _ rfl this ⟨2, .data⟩ (by simp) rfl; rw [hl0] at this; cases this
                    obtain ⟨sS, hs1, hm⟩ := HW.out
                    have hz : sS = 0 := by
                      have := hs1 0 10 rfl
                      rw [h10] at this
                      have : ¬ 0 < sS := by simpa using this.symm
                      exact Nat.eq_zero_of_not_pos this
                    subst hz
                    have hwz : wr = w0 := hm
                    rw [hwz]
                    exact HCL.out
                  exact wp_q rfl rfl (by simp [execOp, go_sem, e146, hc.1]; try rfl) ⟨(), HF.out.put (by kernel_rfl) rfl rfl rfl (of_decide_eq_true rfl), HW.out.q hjl (by decide)⟩
                | 3, ho =>
                  obtain rfl := Option.some.inj ho
                  have e147 : fr.tmps[147]?.getD undef = .pointer (some ⟨p, 0, none⟩) := HF.out.ev (i := 2) rfl rfl (HE.out ⟨2, .data⟩ (by simp) rfl)
                  exact wp_q rfl rfl (by simp [execOp, go_sem, e147]; try rfl) ⟨(), HF.out.put (by kernel_rfl) rfl rfl rfl (of_decide_eq_true rfl), HW.out.q hjl (by decide)⟩
                | 4, ho =>
                  obtain rfl := Option.some.inj ho
                  have e17 : fr.tmps[17]?.getD undef = .pointer (some ⟨w7.heap.size, 0, none⟩) := HF.out.base 17 (by kernel_rfl) rfl
                  exact wp_q rfl rfl (by simp [execOp, go_sem, e17]; try rfl) ⟨(), HF.out.put (by kernel_rfl) rfl rfl rfl (of_decide_eq_true rfl), HW.out.q hjl (by decide)⟩
                | 5, ho =>
                  obtain rfl := Option.some.inj ho
                  have e149 : fr.tmps[149]?.getD undef = .pointer (some ⟨w7.heap.size, 0, none⟩) := HF.out.ev (i := 4) rfl rfl (HE.out ⟨4, .data⟩ (by simp) rfl)
                  have hc : wr.cell? ⟨B, 0, none⟩ = some (.pointer (some ⟨p, 0, none⟩)) ∧ wr.cell? ⟨w7.heap.size, 0, none⟩ = some (.int .i64 (gd : Int)) ∧ wr.cell? ⟨ab, ao + g, none⟩ = some (.int .u64 (K g)) := by
                    have h10 : listed.getD 10 false = false := by
                      cases e : listed.getD 10 false
                      · rfl
                      · have := HC.out 10 _ rfl e ⟨5, .data⟩ (by simp) rfl; rw [hl0] at this; cases this
                    obtain ⟨sS, hs1, hm⟩ := HW.out
                    have hz : sS = 0 := by
                      have := hs1 0 10 rfl
                      rw [h10] at this
                      have : ¬ 0 < sS := by simpa using this.symm
                      exact Nat.eq_zero_of_not_pos this
                    subst hz
                    have hwz : wr = w0 := hm
                    rw [hwz]
                    exact HCL.out
                  exact wp_q rfl rfl (by simp [execOp, go_sem, e149, hc.2.1]; try rfl) ⟨(), HF.out.put (by kernel_rfl) rfl rfl rfl (of_decide_eq_true rfl), HW.out.q hjl (by decide)⟩
                | 6, ho =>
                  obtain rfl := Option.some.inj ho
                  have e1 : fr.tmps[1]?.getD undef = .slice (some ⟨ab, ao, none⟩) la cap := HF.out.base 1 (by kernel_rfl) rfl
                  exact wp_q rfl rfl (by simp [execOp, go_sem, e1]; try rfl) ⟨(), HF.out.put (by kernel_rfl) rfl rfl rfl (of_decide_eq_true rfl), HW.out.q hjl (by decide)⟩
                | 7, ho =>
                  obtain rfl := Option.some.inj ho
                  have e14 : fr.tmps[14]?.getD undef = .int .i64 (g : Int) := HF.out.base 14 (by kernel_rfl) rfl
                  exact wp_q rfl rfl (by simp [execOp, go_sem, e14]; try rfl) ⟨(), HF.out.put (by kernel_rfl) rfl rfl rfl (of_decide_eq_true rfl), HW.out.q hjl (by decide)⟩
                | 8, ho =>
                  obtain rfl := Option.some.inj ho
                  have e151 : fr.tmps[151]?.getD undef = .slice (some ⟨ab, ao, none⟩) la cap := HF.out.ev (i := 6) rfl rfl (HE.out ⟨6, .data⟩ (by simp) rfl)
                  have e152 : fr.tmps[152]?.getD undef = .int .i64 (g : Int) := HF.out.ev (i := 7) rfl rfl (HE.out ⟨7, .data⟩ (by simp) rfl)
                  exact wp_q rfl rfl (by simp [execOp, go_sem, e151, e152, hgc]; try rfl) ⟨(), HF.out.put (by kernel_rfl) rfl rfl rfl (of_decide_eq_true rfl), HW.out.q hjl (by decide)⟩
                | 9, ho =>
                  obtain rfl := Option.some.inj ho
                  have e153 : fr.tmps[153]?.getD undef = .pointer (some ⟨ab, ao + g, none⟩) := HF.out.ev (i := 8) rfl rfl (HE.out ⟨8, .data⟩ (by simp) rfl)
                  have hc : wr.cell? ⟨B, 0, none⟩ = some (.pointer (some ⟨p, 0, none⟩)) ∧ wr.cell? ⟨w7.heap.size, 0, none⟩ = some (.int .i64 (gd : Int)) ∧ wr.cell? ⟨ab, ao + g, none⟩ = some (.int .u64 (K g)) := by
                    have h10 : listed.getD 10 false = false := by
                      cases e : listed.getD 10 false
                      · rfl
                      · have := HC.out 10 _ rfl e ⟨9, .data⟩ (by simp) rfl; rw [hl0] at this; cases this
                    obtain ⟨sS, hs1, hm⟩ := HW.out
                    have hz : sS = 0 := by
                      have := hs1 0 10 rfl
                      rw [h10] at this
                      have : ¬ 0 < sS := by simpa using this.symm
                      exact Nat.eq_zero_of_not_pos this
                    subst hz
                    have hwz : wr = w0 := hm
                    rw [hwz]
                    exact HCL.out
                  exact wp_q rfl rfl (by simp [execOp, go_sem, e153, hc.2.2]; try rfl) ⟨(), HF.out.put (by kernel_rfl) rfl rfl rfl (of_decide_eq_true rfl), HW.out.q hjl (by decide)⟩
                | 10, ho =>
                  obtain rfl := Option.some.inj ho
                  have e145 : fr.tmps[145]?.getD undef = .pointer (some ⟨B + 1, 0, none⟩) := HF.out.ev (i := 0) rfl rfl (HE.out ⟨0, .data⟩ (by simp) rfl)
                  have e148 : fr.tmps[148]?.getD undef = gR p := HF.out.ev (i := 3) rfl rfl (HE.out ⟨3, .data⟩ (by simp) rfl)
                  have e150 : fr.tmps[150]?.getD undef = .int .i64 (gd : Int) := HF.out.ev (i := 5) rfl rfl (HE.out ⟨5, .data⟩ (by simp) rfl)
                  have e154 : fr.tmps[154]?.getD undef = .int .u64 (K g) := HF.out.ev (i := 9) rfl rfl (HE.out ⟨9, .data⟩ (by simp) rfl)
                  have m0 : wr = w0 := HW.out.at 0 rfl hl0 (fun j hj => by omega)
                  subst m0
                  refine wp_c4 rfl rfl _ _ _ _ _ _ rfl (.pointer (some ⟨B + 1, 0, none⟩)) (gR p) (.int .i64 (gd : Int)) (.int .u64 (K g)) (by simp [Act.eval, e145]) (by simp [Act.eval, e148]) (by simp [Act.eval, e150]) (by simp [Act.eval, e154]) (Try.call17 _ _) HPsh.out ?_
                  rintro e w9 ⟨rfl, k1⟩
                  exact ⟨_, rfl, (), HF.out.put (by kernel_rfl) rfl rfl rfl (of_decide_eq_true rfl), HW.out.go 0 hjl rfl hl0 (fun j hj => by omega) (by intro a ha; match a, ha with | 0, _ => rfl) k1⟩
                | 11, ho =>
                  obtain rfl := Option.some.inj ho
                  have e155 : fr.tmps[155]?.getD undef = .int .i64 0 := HF.out.ev (i := 10) rfl rfl (HE.out ⟨10, .data⟩ (by simp) rfl)
                  exact wp_q rfl rfl (by simp [execOp, go_sem, e155]; try rfl) ⟨(), HF.out.put (by kernel_rfl) rfl rfl rfl (of_decide_eq_true rfl), HW.out.q hjl (by decide)⟩
              case fin =>
                rintro listed fr w2 x hF hW hr
                have all := allDone hr hF.q.ls (by kernel_rfl)
                obtain ⟨sS, hs1, hm⟩ := hW
                have hs : 1 ≤ sS := by
                  have := hs1 0 10 rfl
                  rw [all 10 (by decide)] at this
                  have : 0 < sS := by simpa using this.symm
                  omega
                obtain ⟨s2, rfl⟩ : ∃ s2, sS = s2 + 1 := ⟨sS - 1, by omega⟩
                rw [hF.full all]
                have H9 : Hid (LQ W w2 B (B + 1) p r (vR n (g + 1) (g + 1)) 0 2 (psM n f g (K g)) h) := hm
                clear hF hr all hm hs1 hs HCL HPsh
                simp only [List.foldl_cons, List.foldl_nil, fillF]
                go_simp
                have HR := hid (HG.out.2.push n3 n4 hgl (K g))
                obtain ⟨u1, u2, u3⟩ := HPR.out
                have c0 := H9.out.c0
                have HRd1 : Hid (∀ w3, LQ W w3 B (B + 1) p r (vR n (g + 1) (g + 1)) 0 2 (psM n f g (K g)) h → Calls Try.prog 32 #[.pointer (some ⟨p, 0, none⟩), .int .u64 (2308 + 8 * (gd : Int)), .int .i64 4] w3 fun e w' => (∃ o, e = .returned (.tuple #[.int .u64 (gd : Int), .bool o])) ∧ LQ W w' B (B + 1) p r (vR n (g + 1) (g + 1)) 0 2 (psM n f g (K g)) h) := fun w3 h3 => (l_MRead h3 _ 4 (by omega) (by omega) (by decide) (by decide)).mono fun e w' ⟨a1, a2, a3⟩ => ⟨⟨okN 0 2 (2308 + 8 * (gd : Int)) 4, by rw [a1, u1]⟩, a2⟩
                have HRd2 : Hid (∀ w3, LQ W w3 B (B + 1) p r (vR n (g + 1) (g + 1)) 0 2 (psM n f g (K g)) h → Calls Try.prog 32 #[.pointer (some ⟨p, 0, none⟩), .int .u64 (2308 + 8 * (gd : Int) + 4), .int .i64 4] w3 fun e w' => (∃ o, e = .returned (.tuple #[.int .u64 (K g % 4294967296), .bool o])) ∧ LQ W w' B (B + 1) p r (vR n (g + 1) (g + 1)) 0 2 (psM n f g (K g)) h) := fun w3 h3 => (l_MRead h3 _ 4 (by omega) (by omega) (by decide) (by decide)).mono fun e w' ⟨a1, a2, a3⟩ => ⟨⟨okN 0 2 (2308 + 8 * (gd : Int) + 4) 4, by rw [a1, u2]⟩, a2⟩
                have HRd3 : Hid (∀ w3, LQ W w3 B (B + 1) p r (vR n (g + 1) (g + 1)) 0 2 (psM n f g (K g)) h → Calls Try.prog 32 #[.pointer (some ⟨p, 0, none⟩), .int .u64 2306, .int .i64 2] w3 fun e w' => (∃ o, e = .returned (.tuple #[.int .u64 (((g : Int) + 1) % 65536), .bool o])) ∧ LQ W w' B (B + 1) p r (vR n (g + 1) (g + 1)) 0 2 (psM n f g (K g)) h) := fun w3 h3 => (l_MRead h3 2306 2 (by decide) (by decide) (by decide) (by decide)).mono fun e w' ⟨a1, a2, a3⟩ => ⟨⟨okN 0 2 2306 2, by rw [a1, u3]⟩, a2⟩
                clear u1 u2 u3
                generalize psM n f g (K g) = f' at *
                have v1 : IntKind.i64.wrap (8 * (gd : Int)) = 8 * (gd : Int) := by rw [IntKind.wrap_i64]; omega
                have v2 : IntKind.i64.wrap (2308 + 8 * (gd : Int)) = 2308 + 8 * (gd : Int) := by rw [IntKind.wrap_i64]; omega
                have v3 : IntKind.u64.wrap (2308 + 8 * (gd : Int)) = 2308 + 8 * (gd : Int) := by rw [IntKind.wrap_u64]; omega
                have v4 : IntKind.u64.wrap (2308 + 8 * (gd : Int) + 4) = 2308 + 8 * (gd : Int) + 4 := by rw [IntKind.wrap_u64]; omega
                have v5 : IntKind.i64.wrap ((g : Int) + 1) = (g : Int) + 1 := by rw [IntKind.wrap_i64]; omega
                have v6 : IntKind.i64.wrap ((g : Int) + 1 - 1) = (g : Int) := by rw [IntKind.wrap_i64]; omega
                have v6' : (g : Int) + 1 - 1 = (g : Int) := by omega
                have v6w : IntKind.i64.wrap (g : Int) = (g : Int) := by rw [IntKind.wrap_i64]; omega
                have v7 : ((g : Int) + 1).tmod 65536 = ((g : Int) + 1) % 65536 := Int.tmod_eq_emod_of_nonneg (by omega)
                have v8 : IntKind.u64.wrap (((g : Int) + 1) % 65536) = ((g : Int) + 1) % 65536 := by rw [IntKind.wrap_u64]; omega
                have v9 : (K g).tmod 4294967296 = K g % 4294967296 := Int.tmod_eq_emod_of_nonneg hK0
                have v10 : IntKind.u64.wrap (gd : Int) = (gd : Int) := by rw [IntKind.wrap_u64]; omega
                have HKc : Hid (∀ w3, LQ W w3 B (B + 1) p r (vR n (g + 1) (g + 1)) 0 2 f' h → w3.cell? ⟨ab, ao + g, none⟩ = some (.int .u64 (K g))) := fun w3 h3 => (HNu.out.below h3.new).cell g (by omega)
                have hnz : ((n : Int) == 0) = false := by simp; omega
                have hr1 := HRd1.out _ H9.out
                go_upto_region 30 with (first
                  | (go_at_call 32; (with_reducible refine hr1.mono ?_); rintro e w10 ⟨⟨o1, rfl⟩, h1⟩; have c0 := h1.c0; have hr2 := HRd2.out _ h1; clear h1 hr1)
                  | (go_at_call 32; (with_reducible refine hr2.mono ?_); rintro e w11 ⟨⟨o2, rfl⟩, h1⟩; have c0 := h1.c0; have hr3 := HRd3.out _ h1; clear h1 hr2)
                  | (go_at_call 32; (with_reducible refine hr3.mono ?_); rintro e w12 ⟨⟨o3, rfl⟩, h1⟩; have HE := hid h1; have kc := HKc.out _ h1; clear h1 hr3))
                have n1' : (((gd : Int)) != (gd : Int)) = false := by simp
                go_wp2_with fail
                go_roundw
                case rel => exact ⟨g + 1, f', h, by omega, by omega, by go_num, HE.out, HR.out⟩
                case measure => simp [intOf]; omega
            · obtain rfl : g = L := by omega
              have c0 := HG.out.1.c0
              have hNx := l_Next HG.out.1 n rfl
              rw [r_none p HG.out.2 n3] at hNx
              have HN6x : Hid (∀ w6 : World, (w6.alloc (.cells #[.int .i64 0, .slice none 0 0, .slice none 0 0] 42)).heap[w6.heap.size]? = some (.cells (cc 0 (.slice none 0 0) (.slice none 0 0)) 42 (0, 0))) := fun w6 => heap_alloc_new w6 _
              go_wp2_with (first
                | (go_at_call 14; (refine hNx.mono ?_); rintro e w7 ⟨vr, vw, rfl, h1, h2, h3, h4, h5, h6⟩; have HL7 := hid h1; have S1 := hid h2; have S2 := hid h3; clear h1 h2 h3 h4 h5 h6 hNx c0)
                | ((with_reducible refine wpL_stC w7.heap.size 0 vr vw S1.out.s S2.out.s ?_ ?_ (HN6x.out w7) ?_); rfl; rfl))
              go_roundw
              case rel => exact ⟨g, f, h, by omega, rfl, rfl, HL7.out.below (below_row ((Below.refl _ _).alloc (Nat.le_refl _) _) (Nat.le_refl _) _), HG.out.2⟩
              case measure => simp [intOf]; omega
    · obtain rfl : L0 = la := by omega
      go_wp2_with (go_at_call 30; (refine (HAw.out _).mono ?_); rintro e w13 ⟨rfl, h1⟩; have B5 := hid h1; clear h1)
      go_ret
      exact ⟨rfl, HI.out.1.new.trans (B5.out.mono HI.out.1.new.size)⟩
end Go.Proofs.Ytgebjfkmiaobgaa
