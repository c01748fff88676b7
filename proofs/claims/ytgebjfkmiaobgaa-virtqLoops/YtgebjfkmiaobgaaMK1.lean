/- Descriptors as they stand in a memory. -/
import Derived.Test.YtgebjfkmiaobgaaMH3
import Derived.Deep.QuietTactic
namespace Go.Proofs.Ytgebjfkmiaobgaa
open Go.RowKit
open C (Only hid Still ret_int ret_bool Mem RMem okN rdF wrF hasB nu put byt TB Tw TwB)
set_option linter.unusedVariables false
set_option maxRecDepth 100000

theorem okN_in {bs : Int} {n : Nat} {a : Int} {z : Nat} (hz : z = 2 ∨ z = 4 ∨ z = 8) (h1 : bs ≤ a) (h2 : a + z ≤ bs + 4096 * n) : okN bs n a z = true := by
  unfold okN
  obtain ⟨off, rfl⟩ : ∃ off : Nat, a = bs + off := ⟨(a - bs).toNat, by omega⟩
  rw [C.hasB_of (by omega)]
  rcases hz with rfl | rfl | rfl <;> rfl
theorem has_in {bs : Int} {n : Nat} {a z : Int} (h1 : bs ≤ a) (h0 : 0 ≤ z) (h2 : a + z ≤ bs + 4096 * n) : hasB bs n a z = true := by
  obtain ⟨off, rfl⟩ : ∃ off : Nat, a = bs + off := ⟨(a - bs).toNat, by omega⟩
  obtain ⟨k, rfl⟩ : ∃ k : Nat, z = k := ⟨z.toNat, by omega⟩
  exact C.hasB_of (by omega)
theorem has_no {bs : Int} {n : Nat} {a z : Int} (h : bs + 4096 * n < a + z) : hasB bs n a z = false := by
  cases e : hasB bs n a z
  · rfl
  · obtain ⟨off, len, h1, h2, h3⟩ := C.hasB_off e
    omega
/-- a descriptor -/
structure Ds where
  a : Int
  l : Int
  f : Int
  x : Int
def dsF (bs : Int) (n : Nat) (f : Nat → Int) (at0 : Int) : Ds := ⟨rdF bs n f at0 8, rdF bs n f (at0 + 8) 4, rdF bs n f (at0 + 12) 2, rdF bs n f (at0 + 14) 2⟩
theorem rd_same2 {bs : Int} {n : Nat} (f : Nat → Int) (a v : Int) (v0 : 0 ≤ v) (h : okN bs n a 2 = true) : rdF bs n (wrF bs n f a 2 v) a 2 = v % 65536 := rd_same f a 2 v v0 h
theorem rd_same4 {bs : Int} {n : Nat} (f : Nat → Int) (a v : Int) (v0 : 0 ≤ v) (h : okN bs n a 4 = true) : rdF bs n (wrF bs n f a 4 v) a 4 = v % 4294967296 := rd_same f a 4 v v0 h
theorem rd_same8 {bs : Int} {n : Nat} (f : Nat → Int) (a v : Int) (v0 : 0 ≤ v) (v1 : v < 18446744073709551616) (h : okN bs n a 8 = true) : rdF bs n (wrF bs n f a 8 v) a 8 = v := (rd_same f a 8 v v0 h).trans (by rw [show (256 : Int) ^ 8 = 18446744073709551616 by decide]; omega)
theorem rd_out {bs : Int} {n : Nat} (f : Nat → Int) (a a' v : Int) (z z' : Nat) (Z Z' : Int) (hz : Z = z) (hz' : Z' = z') (h : a + Z ≤ a' ∨ a' + Z' ≤ a) : rdF bs n (wrF bs n f a' Z' v) a Z = rdF bs n f a Z := by
  rw [hz, hz']
  exact rd_other f a a' z z' v (by omega)
theorem ds_same {bs : Int} {n : Nat} (f : Nat → Int) (at0 a l fl x : Int) (a0 : 0 ≤ a) (a1 : a < 18446744073709551616) (l0 : 0 ≤ l) (f0 : 0 ≤ fl) (x0 : 0 ≤ x) (h1 : bs ≤ at0) (h2 : at0 + 16 ≤ bs + 4096 * n) : dsF bs n (putD bs n f at0 a l fl x) at0 = ⟨a, l % 4294967296, fl % 65536, x % 65536⟩ := by
  unfold dsF putD
  congr 1
  · rw [rd_out _ _ _ _ 8 2 8 2 rfl rfl (by omega), rd_out _ _ _ _ 8 2 8 2 rfl rfl (by omega), rd_out _ _ _ _ 8 4 8 4 rfl rfl (by omega), rd_same8 _ _ _ a0 a1 (okN_in (z := 8) (by omega) h1 (by omega))]
  · rw [rd_out _ _ _ _ 4 2 4 2 rfl rfl (by omega), rd_out _ _ _ _ 4 2 4 2 rfl rfl (by omega), rd_same4 _ _ _ l0 (okN_in (z := 4) (by omega) (by omega) (by omega))]
  · rw [rd_out _ _ _ _ 2 2 2 2 rfl rfl (by omega), rd_same2 _ _ _ f0 (okN_in (z := 2) (by omega) (by omega) (by omega))]
  · rw [rd_same2 _ _ _ x0 (okN_in (z := 2) (by omega) (by omega) (by omega))]
theorem pd_out {bs : Int} {n : Nat} (f : Nat → Int) (at0 a l fl x : Int) (y : Int) (z : Nat) (Z : Int) (hz : Z = z) (h : y + Z ≤ at0 ∨ at0 + 16 ≤ y) : rdF bs n (putD bs n f at0 a l fl x) y Z = rdF bs n f y Z := by
  unfold putD
  rw [rd_out _ _ _ _ z 2 Z 2 hz rfl (by omega), rd_out _ _ _ _ z 2 Z 2 hz rfl (by omega), rd_out _ _ _ _ z 4 Z 4 hz rfl (by omega), rd_out _ _ _ _ z 8 Z 8 hz rfl (by omega)]
theorem ds_other {bs : Int} {n : Nat} (f : Nat → Int) (at0 a l fl x y : Int) (h : y + 16 ≤ at0 ∨ at0 + 16 ≤ y) : dsF bs n (putD bs n f at0 a l fl x) y = dsF bs n f y := by
  unfold dsF
  rw [pd_out _ _ _ _ _ _ _ 8 8 rfl (by omega), pd_out _ _ _ _ _ _ _ 4 4 rfl (by omega), pd_out _ _ _ _ _ _ _ 2 2 rfl (by omega), pd_out _ _ _ _ _ _ _ 2 2 rfl (by omega)]
theorem ds_wr {bs : Int} {n : Nat} (f : Nat → Int) (y a v : Int) (z : Nat) (Z : Int) (hz : Z = z) (h : y + 16 ≤ a ∨ a + Z ≤ y) : dsF bs n (wrF bs n f a Z v) y = dsF bs n f y := by
  unfold dsF
  rw [rd_out _ _ _ _ 8 z 8 Z rfl hz (by omega), rd_out _ _ _ _ 4 z 4 Z rfl hz (by omega), rd_out _ _ _ _ 2 z 2 Z rfl hz (by omega), rd_out _ _ _ _ 2 z 2 Z rfl hz (by omega)]
theorem okD_in (p : Nat) {bs : Int} {n : Nat} (f : Nat → Int) (at0 : Int) (h1 : bs ≤ at0) (h2 : at0 + 16 ≤ bs + 4096 * n) : okD (RmG p bs n) f at0 = true := by
  show (okN bs n at0 8 && okN bs n (at0 + 8) 4 && okN bs n (at0 + 12) 2 && okN bs n (at0 + 14) 2) = true
  rw [show okN bs n at0 8 = true from okN_in (z := 8) (by omega) h1 (by omega), show okN bs n (at0 + 8) 4 = true from okN_in (z := 4) (by omega) (by omega) (by omega), show okN bs n (at0 + 12) 2 = true from okN_in (z := 2) (by omega) (by omega) (by omega), show okN bs n (at0 + 14) 2 = true from okN_in (z := 2) (by omega) (by omega) (by omega)]
  rfl
theorem fol_stepG (G : MG) (s : G.σ) (v : QV) (k : Nat) (i : Int) (R W : List (Int × Int)) (hi : i < v.sz) (D : Ds) (hD : (⟨G.rd s (v.d + 16 * i) 8, G.rd s (v.d + 16 * i + 8) 4, G.rd s (v.d + 16 * i + 12) 2, G.rd s (v.d + 16 * i + 14) 2⟩ : Ds) = D) (hk : okD G s (v.d + 16 * i) = true) :
    fol G s v (k + 1) i R W = bif !mayD G s D.a D.l D.f (decide (0 < W.length)) then (32, [], []) else
      bif fM D.f then fol G s v k D.x (bif fW2 D.f then R else R ++ [(D.a, D.l)]) (bif fW2 D.f then W ++ [(D.a, D.l)] else W) else (0, bif fW2 D.f then R else R ++ [(D.a, D.l)], bif fW2 D.f then W ++ [(D.a, D.l)] else W) := by
  have h1 : decide (v.sz ≤ i) = false := by simpa using hi
  conv => lhs; unfold fol
  rw [h1, hk, Bool.true_and]
  subst hD
  rfl
/-- one step along a chain -/
theorem fol_step (p : Nat) (bs : Int) (n : Nat) (f : Nat → Int) (v : QV) (k : Nat) (i : Int) (R W : List (Int × Int)) (hi : i < v.sz) (D : Ds) (hD : dsF bs n f (v.d + 16 * i) = D) (hk : okD (RmG p bs n) f (v.d + 16 * i) = true) :
    fol (RmG p bs n) f v (k + 1) i R W = bif !mayD (RmG p bs n) f D.a D.l D.f (decide (0 < W.length)) then (32, [], []) else
      bif fM D.f then fol (RmG p bs n) f v k D.x (bif fW2 D.f then R else R ++ [(D.a, D.l)]) (bif fW2 D.f then W ++ [(D.a, D.l)] else W) else (0, bif fW2 D.f then R else R ++ [(D.a, D.l)], bif fW2 D.f then W ++ [(D.a, D.l)] else W) :=
  fol_stepG (RmG p bs n) f v k i R W hi D hD hk
theorem fol_end (G : MG) (s : G.σ) (v : QV) (i : Int) (R W : List (Int × Int)) (hi : i < v.sz) : fol G s v 0 i R W = (31, [], []) := by
  have h1 : decide (v.sz ≤ i) = false := by simpa using hi
  unfold fol
  rw [h1]
  rfl
theorem fol_far (G : MG) (s : G.σ) (v : QV) (k : Nat) (i : Int) (R W : List (Int × Int)) (hi : v.sz ≤ i) : fol G s v k i R W = (32, [], []) := by
  have h1 : decide (v.sz ≤ i) = true := by simpa using hi
  cases k <;> (unfold fol; rw [h1]; rfl)
/-- n is a power of two below 128 -/
theorem sh7 (k : Int) (k0 : 0 ≤ k) (k1 : k < 7) : ∃ n : Nat, (2 : Int) ^ k.toNat = n ∧ isSz n = true ∧ 1 ≤ n ∧ n ≤ 64 := by
  have : k = 0 ∨ k = 1 ∨ k = 2 ∨ k = 3 ∨ k = 4 ∨ k = 5 ∨ k = 6 := by omega
  rcases this with rfl | rfl | rfl | rfl | rfl | rfl | rfl
  · exact ⟨1, rfl, rfl, by decide, by decide⟩
  · exact ⟨2, rfl, rfl, by decide, by decide⟩
  · exact ⟨4, rfl, rfl, by decide, by decide⟩
  · exact ⟨8, rfl, rfl, by decide, by decide⟩
  · exact ⟨16, rfl, rfl, by decide, by decide⟩
  · exact ⟨32, rfl, rfl, by decide, by decide⟩
  · exact ⟨64, rfl, rfl, by decide, by decide⟩
/-- a queue as the laws set it up -/
def vN (n : Nat) : QV := ⟨n, 256, 2048, 2304, 0, 0, false⟩
theorem vN_set (n : Nat) (h : isSz n = true) : okS q0 n 256 2048 2304 = true ∧ q0.set n 256 2048 2304 = vN n := by
  have : okS q0 n 256 2048 2304 = true := by unfold okS; rw [h]; rfl
  exact ⟨this, by unfold QV.set; rw [this]; rfl⟩
end Go.Proofs.Ytgebjfkmiaobgaa
namespace Go.Proofs.Ytgebjfkmiaobgaa
open Go.RowKit
open C (Only hid Still ret_int ret_bool Mem RMem okN rdF wrF hasB nu put byt TB Tw TwB)
set_option linter.unusedVariables false
set_option maxRecDepth 100000

/-- descriptor i leads on to below n -/
def LpD (n : Nat) (f : Nat → Int) (i : Nat) : Prop := ∃ x : Int, 0 ≤ x ∧ x < n ∧ dsF 0 2 f (256 + 16 * (i : Int)) = ⟨4096, 8, 1, x⟩
theorem may_1 (p : Nat) (f : Nat → Int) : mayD (RmG p 0 2) f 4096 8 1 false = true := by kernel_rfl
theorem fM_1 : fM 1 = true ∧ fW2 1 = false := ⟨by kernel_rfl, by kernel_rfl⟩
theorem fol_loop (p : Nat) (f : Nat → Int) (v : QV) (n : Nat) (n64 : n ≤ 64) (hz : v.sz = n) (hd : v.d = 256) (h : ∀ i : Nat, i < n → LpD n f i) : ∀ (k : Nat) (i : Int) (R : List (Int × Int)), 0 ≤ i → i < n → fol (RmG p 0 2) f v k i R [] = (31, [], [])
  | 0, i, R, i0, i1 => by
    exact fol_end (RmG p 0 2) f v i R [] (by omega)
  | k + 1, i, R, i0, i1 => by
    obtain ⟨x, x0, x1, hx⟩ := h i.toNat (by omega)
    have e : v.d + 16 * i = 256 + 16 * ((i.toNat : Nat) : Int) := by rw [hd]; omega
    rw [fol_step p 0 2 f v k i R [] (by omega) ⟨4096, 8, 1, x⟩ (by rw [e]; exact hx) (okD_in p f _ (by omega) (by omega))]
    show (bif !mayD (RmG p 0 2) f 4096 8 1 false then _ else bif fM 1 then fol (RmG p 0 2) f v k x (bif fW2 1 then R else R ++ [(4096, 8)]) (bif fW2 1 then [] ++ [(4096, 8)] else []) else _) = _
    rw [may_1, fM_1.1, fM_1.2]
    exact fol_loop p f v n n64 hz hd h k x _ x0 x1
/-- what the law's memory is -/
structure LpM (n : Nat) (f : Nat → Int) (j : Nat) : Prop where
  d : ∀ i : Nat, i < j → LpD n f i
  z : rdF 0 2 f 2052 2 = 0
theorem LpM.put {n j : Nat} {f : Nat → Int} (h : LpM n f j) (i : Nat) (hi : i < 64) (hj : j ≤ 64) (x : Int) (x0 : 0 ≤ x) (x1 : x < n) (n64 : n ≤ 64) (m : Nat) (hm : ∀ k, k < m → k < j ∨ k = i) (hm2 : m ≤ 64) : LpM n (putD 0 2 f (256 + 16 * (i : Int)) 4096 8 (u64m 1) (u64m x)) m := by
  have u1 : u64m 1 = 1 := rfl
  have ux : u64m x = x := by unfold u64m; omega
  refine ⟨fun k hk => ?_, ?_⟩
  · by_cases e : k = i
    · subst e
      refine ⟨x, x0, x1, ?_⟩
      rw [ds_same _ _ _ _ _ _ (by decide) (by decide) (by decide) (by rw [u1]; decide) (by rw [ux]; exact x0) (by omega) (by omega), u1, ux]
      congr 1
      omega
    · obtain ⟨y, y0, y1, hy⟩ := h.d k ((hm k hk).resolve_right e)
      refine ⟨y, y0, y1, ?_⟩
      rw [ds_other _ _ _ _ _ _ _ (by omega)]
      exact hy
  · rw [pd_out _ _ _ _ _ _ _ 2 2 rfl (by omega)]
    exact h.z
theorem rd0 (a : Int) (z : Nat) (hz : z = 2) : rdF 0 2 f0 a z = 0 := by
  subst hz
  unfold rdF f0
  split <;> rfl
theorem lp_next (p : Nat) (f : Nat → Int) (n : Nat) (n0 : 1 ≤ n) (n64 : n ≤ 64) (h : LpM n f n) (hi : rdF 0 2 f 2050 2 = 1) : nxF (RmG p 0 2) f (vN n) n = ⟨31, false, 0, [], [], (vN n).take.die⟩ := by
  have k1 : okN 0 2 2050 2 = true := by kernel_rfl
  have k2 : okN 0 2 2052 2 = true := by kernel_rfl
  have a1 : ahd (RmG p 0 2) f (vN n) = 1 := by
    show (rdF 0 2 f 2050 2 - 0) % 65536 = 1
    rw [hi]; rfl
  have e1 : ofE (RmG p 0 2) f (vN n) = 0 := by
    unfold ofE
    rw [a1]
    show (bif !okN 0 2 2050 2 then (32 : Int) else bif decide ((n : Int) < 1) then 30 else 0) = 0
    rw [k1]
    have : decide ((n : Int) < 1) = false := by simp; omega
    rw [this]; rfl
  have e2 : ofN (RmG p 0 2) f (vN n) = 1 := by unfold ofN; rw [e1, a1]; rfl
  have av : avA (vN n) = 2052 := by
    show (2048 : Int) + 4 + 2 * ((0 : Int) % (n : Int)) = 2052
    rw [Int.zero_emod]; rfl
  have t : tkF (RmG p 0 2) f (vN n) n = ⟨31, true, 0, [], [], (vN n).take⟩ := by
    unfold tkF
    rw [av]
    show (bif !okN 0 2 2052 2 then _ else (⟨(fol (RmG p 0 2) f (vN n).take n (rdF 0 2 f 2052 2) [] []).1, true, hdF (fol (RmG p 0 2) f (vN n).take n (rdF 0 2 f 2052 2) [] []).1 (rdF 0 2 f 2052 2), (fol (RmG p 0 2) f (vN n).take n (rdF 0 2 f 2052 2) [] []).2.1, (fol (RmG p 0 2) f (vN n).take n (rdF 0 2 f 2052 2) [] []).2.2, (vN n).take⟩ : NX)) = _
    rw [k2, h.z, fol_loop p f (vN n).take n n64 rfl rfl h.d n 0 [] (by decide) (by omega)]
    rfl
  unfold nxF
  have z : ¬ (vN n).sz = 0 := by show ¬ (n : Int) = 0; omega
  rw [if_neg z, e1, e2, t]
  rfl
set_option maxHeartbeats 4000000 in
theorem w_VirtqLoops (W : World) (size : Int) (s0 : -9223372036854775808 ≤ size) (s1 : size ≤ 9223372036854775807) (fr : Int) (r0 : -9223372036854775808 ≤ fr) (r1 : fr ≤ 9223372036854775807) (tt : Int) (t0 : -9223372036854775808 ≤ tt) (t1 : tt ≤ 9223372036854775807) :
    Calls Try.prog 6 #[.int .i64 size, .int .i64 fr, .int .i64 tt] W fun e w' => e = .returned (.bool true) ∧ Below W.heap.size W w' := by
  have hM := l_Memory W 0 (by decide) (by decide) (by decide) 2 (by decide) (by decide) 2 rfl
  have hP := fun w => C.c_Place size 7 (by decide) (by decide) s0 s1 w
  obtain ⟨k, hk⟩ : ∃ k, size % 7 = k := ⟨_, rfl⟩
  have k0 : 0 ≤ k := by omega
  have k1 : k < 7 := by omega
  rw [hk] at hP
  obtain ⟨n, n1, n2, n3, n4⟩ := sh7 k k0 k1
  have wk : IntKind.u64.wrap k = k := by rw [IntKind.wrap_u64]; omega
  have hsh : IntKind.i64.wrap ((2 : Int) ^ k.toNat) = n := by rw [n1, IntKind.wrap_i64]; omega
  have HPa := hid (fun w => C.c_Place fr n (by omega) (by omega) r0 r1 w)
  obtain ⟨a, ha⟩ : ∃ a, fr % (n : Int) = a := ⟨_, rfl⟩
  have a0 : 0 ≤ a := by rw [← ha]; exact Int.emod_nonneg _ (by omega)
  have a1 : a < n := by rw [← ha]; exact Int.emod_lt_of_pos _ (by omega)
  rw [ha] at HPa
  have HPb := hid (fun w => C.c_Place tt (a + 1) (by omega) (by omega) t0 t1 w)
  obtain ⟨b, hb⟩ : ∃ b, tt % (a + 1) = b := ⟨_, rfl⟩
  have b0 : 0 ≤ b := by rw [← hb]; exact Int.emod_nonneg _ (by omega)
  have b1 : b < a + 1 := by rw [← hb]; exact Int.emod_lt_of_pos _ (by omega)
  rw [hb] at HPb
  clear ha hb hk
  go_enter Try.func6, Try.ntmps6
  go_upto_region 3 with (first
    | (go_at_call 10; refine hM.mono ?_; rintro e w1 ⟨p, r, U, rfl, h1, h2, h3⟩; have HT := hid h1; have HB := hid h2; have HU := hid h3; clear h1 h2 h3)
    | (go_at_call 11; refine (k_New _).mono ?_; rintro e w2 ⟨rfl, h1, h2⟩; have HL := hid (LQ.lay (.refl _ _) HT.out HB.out HU.out h1 h2); clear h1 h2))
  have e1 : (w1.alloc (.cells #[.pointer (some ⟨p, 0, none⟩), .pointer (some ⟨r, 0, none⟩)] 28)).heap.size = w1.heap.size + 1 := by simp
  clear HT HB HU hM
  go_upto_region 4 with (go_at_call 13; (with_reducible refine (hP _).mono ?_); rintro e w' ⟨rfl, hw⟩; obtain rfl := hw.symm)
  have hS := l_Setup HL.out n 256 2048 2304 (by omega) (by omega) (by decide) (by decide) (by decide) (by decide) (by decide) (by decide)
  rw [(vN_set n n2).1, (vN_set n n2).2] at hS
  have hn0 : ((n : Int) == 0) = false := by simp; omega
  have wa1 : IntKind.i64.wrap (a + 1) = a + 1 := by rw [IntKind.wrap_i64]; omega
  have n2' := n2
  clear hsh hP n2
  go_upto_region 8 with (first
    | (go_at_call 21; (refine hS.mono ?_); rintro e w3 ⟨rfl, h1, h2⟩; have HL3 := hid h1; clear h1 h2 hS)
    | (go_at_call 13; (with_reducible refine (HPa.out _).mono ?_); rintro e w' ⟨rfl, hw⟩; obtain rfl := hw.symm)
    | (go_at_call 13; (with_reducible refine (HPb.out _).mono ?_); rintro e w' ⟨rfl, hw⟩; obtain rfl := hw.symm))
  have HZ0 : Hid (LpM n f0 0) := ⟨fun i hi => absurd hi (by omega), rd0 2052 2 rfl⟩
  clear HPa HPb HL wk n1
  generalize w1.heap.size = B at *
  go_wp2_with fail
  go_loopw [13] (fun i wr => ∃ (j : Nat) (f : Nat → Int), j ≤ n ∧ i = .int .i64 j ∧ Hid (LQ W wr B (B + 1) p r (vN n) 0 2 f f ∧ LpM n f j)) (fun i _ => n - (intOf i).toNat)
  case atStart => exact ⟨0, f0, by omega, rfl, HL3.out, HZ0.out⟩
  case round =>
    obtain ⟨j, f, jn, rfl, HI⟩ := hrel
    by_cases hj : j < n
    · have hjl : (j : Int) < n := by omega
      have c0 := HI.out.1.c0
      have c1 := HI.out.1.c1
      have wj : IntKind.i64.wrap ((j : Int) + 1) = (j : Int) + 1 := by rw [IntKind.wrap_i64]; omega
      obtain ⟨x, hx⟩ : ∃ x, ((j : Int) + 1) % (n : Int) = x := ⟨_, rfl⟩
      have x0 : 0 ≤ x := by rw [← hx]; exact Int.emod_nonneg _ (by omega)
      have x1 : x < n := by rw [← hx]; exact Int.emod_lt_of_pos _ (by omega)
      have tm : ((j : Int) + 1).tmod n = x := by rw [Int.tmod_eq_emod_of_nonneg (by omega)]; exact hx
      have wx : IntKind.i64.wrap x = x := by rw [IntKind.wrap_i64]; omega
      have HPu : Hid (∀ k, Calls Try.prog 20 #[.agg #[.pointer (some ⟨p, 0, none⟩), .pointer (some ⟨r, 0, none⟩)], .int .u64 0, .int .i64 (j : Int), .int .u64 4096, .int .u64 8, .int .i64 1, .int .i64 x] (wr.drewN k) fun e w' => e = .returned (.tuple #[]) ∧ LQ W w' B (B + 1) p r (vN n) 0 2 (putD 0 2 f (256 + 16 * (j : Int)) 4096 8 (u64m 1) (u64m x)) (putD 0 2 f (256 + 16 * (j : Int)) 4096 8 (u64m 1) (u64m x)) ∧ Kq (wr.drewN k) w') := fun k => l_Put (HI.out.1.below (dnV wr k)) 0 j 4096 8 1 x (256 + 16 * (j : Int)) (by decide) (by decide) (by omega) (by omega) (by decide) (by decide) (by decide) (by decide) (by omega)
      have HM2 := hid (HI.out.2.put j (by omega) (by omega) x x0 x1 n4 (j + 1) (fun k hk => by omega) (by omega))
      clear hx
      go_upto_region 11 with fail
      refine wp_region_last_lit (by simp) (by kernel_rfl) (by kernel_rfl) (by kernel_rfl) ?_
      simp only [List.dropLast, List.getLast]
      repeat (go_big_quiet_step (fail))
      refine wpQuiet_nil ?_
      intro _ hwq
      obtain ⟨nq, hwq⟩ := hwq
      subst hwq
      have hPu := HPu.out nq
      go_wp2_with (go_at_call 20; (with_reducible refine hPu.mono ?_); rintro e w4 ⟨rfl, h1, h2⟩; have K1 := hid h1; clear h1 h2)
      go_roundw
      case rel => exact ⟨j + 1, _, by omega, by go_num, K1.out, HM2.out⟩
      case measure => simp [intOf]; omega
    · obtain rfl : j = n := by omega
      have hnj : ¬ ((j : Int) < j) := by omega
      obtain ⟨A, hA⟩ : ∃ A : Nat, a = A := ⟨a.toNat, by omega⟩
      subst hA
      have c0 := HI.out.1.c0
      have c1 := HI.out.1.c1
      have hPu := l_Put HI.out.1 0 A 4096 8 1 b (256 + 16 * (A : Int)) (by decide) (by decide) (by omega) (by omega) (by decide) (by decide) (by decide) (by decide) (by omega)
      have HM1 := hid (HI.out.2.put A (by omega) (by omega) b b0 (by omega) n4 j (fun k hk => .inl hk) (by omega))
      generalize putD 0 2 f (256 + 16 * (A : Int)) 4096 8 (u64m 1) (u64m b) = f1 at *
      go_upto_region 13 with (go_at_call 20; (with_reducible refine hPu.mono ?_); rintro e w4 ⟨rfl, h1, h2⟩; have H4 := hid h1; clear h1 h2 hPu c0 c1)
      have c0 := H4.out.c0
      have c1 := H4.out.c1
      have hW := l_Write H4.out 2050 2 1 (by decide) (by decide) (by decide) (by decide) (by decide) (by decide)
      have HM2 : Hid (LpM j (wrF 0 2 f1 2050 2 1) j) := ⟨fun i hi => by
        obtain ⟨x, x0, x1, hx⟩ := HM1.out.d i hi
        exact ⟨x, x0, x1, by rw [ds_wr f1 _ 2050 1 2 2 rfl (by omega)]; exact hx⟩, by rw [rd_out f1 2052 2050 1 2 2 2 2 rfl rfl (by omega)]; exact HM1.out.z⟩
      have HR2 : Hid (rdF 0 2 (wrF 0 2 f1 2050 2 1) 2050 2 = 1) := (rd_same2 f1 2050 1 (by decide) (by kernel_rfl)).trans rfl
      go_upto_region 14 with (go_at_call 19; (with_reducible refine hW.mono ?_); rintro e w5 ⟨rfl, h1, h2⟩; have H5 := hid h1; clear h1 h2 hW c0 c1)
      generalize wrF 0 2 f1 2050 2 1 = f2 at *
      have c0 := H5.out.c0
      have hN := l_Next H5.out j rfl
      rw [lp_next p f2 j n3 n4 HM2.out HR2.out] at hN
      have HN6x : Hid (∀ w6 : World, (w6.alloc (.cells #[.int .i64 0, .slice none 0 0, .slice none 0 0] 42)).heap[w6.heap.size]? = some (.cells (cc 0 (.slice none 0 0) (.slice none 0 0)) 42 (0, 0))) := fun w6 => heap_alloc_new w6 _
      go_upto_region 15 with (first
        | (go_at_call 14; (refine hN.mono ?_); rintro e w6 ⟨vr, vw, rfl, h1, h2, h3, h4, h5, h6⟩; have HL6 := hid h1; have S1 := hid h2; have S2 := hid h3; clear h1 h2 h3 h4 h5 h6 hN c0)
        | ((with_reducible refine wpL_stC w6.heap.size 0 vr vw S1.out.s S2.out.s ?_ ?_ (HN6x.out w6) ?_); rfl; rfl))
      obtain ⟨w7, hw7⟩ : ∃ w7, w7 = (w6.alloc (.cells #[.int .i64 0, .slice none 0 0, .slice none 0 0] 42)).setRow w6.heap.size (cc 0 vr vw) := ⟨_, rfl⟩
      have HB7 : Hid (Below w6.heap.size w6 w7) := hw7 ▸ below_row ((Below.refl _ _).alloc (Nat.le_refl _) _) (Nat.le_refl _) _
      have HL7 := hid (HL6.out.below HB7.out)
      rw [← hw7]
      clear hw7 HB7 HL6 S1 S2 HN6x HM2 HR2 HM1 H5 H4
      have hde := l_Dead HL7.out
      go_upto_region 17 with (go_at_call 26; (refine hde.mono ?_); rintro e w' ⟨rfl, hw⟩; obtain rfl := hw.symm)
      have hdd : nxF (RmG p 0 2) f2 (vN j).take.die j = ⟨33, false, 0, [], [], (vN j).take.die⟩ := by
        unfold nxF
        have z : ¬ (vN j).take.die.sz = 0 := by show ¬ (j : Int) = 0; omega
        rw [if_neg z]
        rfl
      have hpp : puF (RmG p 0 2) f2 (vN j).take.die 0 1 = (33, (vN j).take.die, f2) := by
        unfold puF
        have z : ¬ (vN j).take.die.sz = 0 := by show ¬ (j : Int) = 0; omega
        rw [if_neg z]
        rfl
      have c0 := HL7.out.c0
      have hN := l_Next HL7.out j rfl
      rw [hdd] at hN
      go_upto_region 18 with (go_at_call 14; (refine hN.mono ?_); rintro e w8 ⟨vr2, vw2, rfl, h1, h2, h3, h4, h5, h6⟩; have HL8 := hid h1; clear h1 h2 h3 h4 h5 h6 hN c0)
      have c0 := HL8.out.c0
      have hU := l_Push HL8.out 0 1 0 rfl (by decide) (by decide)
      rw [hpp] at hU
      have HAw := hid l_awake
      have HRs : Hid (∀ w2 v2, LQ W w2 B (B + 1) p r v2 0 2 f2 f2 → Calls Try.prog 23 #[.pointer (some ⟨B + 1, 0, none⟩)] w2 fun e w' => e = .returned (.tuple #[]) ∧ LQ W w' B (B + 1) p r q0 0 2 f2 f2 ∧ Kq w2 w') := fun w2 v2 h2 => l_Reset h2
      have hSo := vN_set j n2'
      have HSe : Hid (∀ w2, LQ W w2 B (B + 1) p r q0 0 2 f2 f2 → Calls Try.prog 21 #[.pointer (some ⟨B + 1, 0, none⟩), .int .i64 (j : Int), .int .u64 256, .int .u64 2048, .int .u64 2304] w2 fun e w' => e = .returned (.int .i64 0) ∧ LQ W w' B (B + 1) p r (vN j) 0 2 f2 f2 ∧ Kq w2 w') := fun w2 h2 => by
        have := l_Setup h2 j 256 2048 2304 (by omega) (by omega) (by decide) (by decide) (by decide) (by decide) (by decide) (by decide)
        rw [hSo.1, hSo.2] at this
        exact this
      clear hdd hpp hSo
      go_wp2_with (first
        | (go_at_call 17; (refine hU.mono ?_); rintro e w9 ⟨rfl, h1, h2⟩; have d0 := h1.c0; have d1 := h1.c1; have hSm := l_Same h1; clear h1 h2 hU c0)
        | (go_at_call 29; (refine hSm.mono ?_); rintro e w10 ⟨rfl, h1, h2⟩; have hRs := HRs.out _ _ h1; clear h1 h2 hSm d0 d1)
        | (go_at_call 23; (refine hRs.mono ?_); rintro e w11 ⟨rfl, h1, h2⟩; have hD := l_Dead h1; have hR := l_Ready h1; have hSt := HSe.out _ h1; clear h1 h2 hRs)
        | (go_at_call 26; (refine hD.mono ?_); rintro e w' ⟨rfl, hw⟩; obtain rfl := hw.symm)
        | (go_at_call 25; (refine hR.mono ?_); rintro e w' ⟨rfl, hw⟩; obtain rfl := hw.symm)
        | (go_at_call 21; (refine hSt.mono ?_); rintro e w12 ⟨rfl, h1, h2⟩; have HE := hid h1.new; clear h1 h2 hSt)
        | (go_at_call 30; (refine (HAw.out _).mono ?_); rintro e w13 ⟨rfl, h1⟩; have B5 := hid h1; clear h1))
      go_ret
      exact ⟨rfl, HE.out.trans (B5.out.mono HE.out.size)⟩
end Go.Proofs.Ytgebjfkmiaobgaa
