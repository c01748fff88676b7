/- The reference's memory: New, Has, Read, Write, Bytes, Fill, Clear. -/
import Derived.Test.YtioodijiejipiaaQB
import Derived.Test.YtioodijiejipiaaRZA
namespace Go.Proofs.Ytioodijiejipiaa
open Go.RowKit
set_option linter.unusedVariables false

theorem q_HasM (w : World) (S : Nat → Prop) (p : Nat) (base : Int) (n : Nat) (f : Nat → Int) (h : RMem w S p base n f) (addr size : Int) (a0 : 0 ≤ addr) (a1 : addr < 18446744073709551616) (s0 : -9223372036854775808 ≤ size) (s1 : size ≤ 9223372036854775807) :
    Calls Try.prog 11 #[.pointer (some ⟨p, 0, none⟩), .int .u64 addr, .int .i64 size] w fun e w' => e = .returned (.bool (hasB base n addr size)) ∧ Still w w' := by
  obtain ⟨g, hs, hr, rfl, hS⟩ := h
  exact q_Has w p g base hs f hr addr size a0 a1 s0 s1
theorem q_getM (w : World) (S : Nat → Prop) (p : Nat) (base : Int) (n : Nat) (f : Nat → Int) (h : RMem w S p base n f) (off : Nat) (ho : off < 4096 * n) (addr : Int) (ha : addr = base + off) :
    Calls Try.prog 38 #[.pointer (some ⟨p, 0, none⟩), .int .u64 addr] w fun e w' => e = .returned (.int .u8 (f off)) ∧ w' = w := by
  obtain ⟨g, hs, hr, rfl, hS⟩ := h
  exact q_get w p g base hs f hr off ho addr ha
theorem RMem.nums {w : World} {S : Nat → Prop} {p : Nat} {base : Int} {n : Nat} {f : Nat → Int} (h : RMem w S p base n f) : 0 ≤ base ∧ base ≤ 4503599627370496 ∧ 0 < n ∧ n ≤ 1024 := by
  obtain ⟨g, hs, hr, rfl, _⟩ := h
  exact ⟨hr.base0, hr.base1, hr.len0, hr.len1⟩
theorem RMem.byt {w : World} {S : Nat → Prop} {p : Nat} {base : Int} {n : Nat} {f : Nat → Int} (h : RMem w S p base n f) (j : Nat) : 0 ≤ f j ∧ f j < 256 := by
  obtain ⟨g, hs, hr, _, _⟩ := h
  exact hr.byt j
theorem nu_shift (b : Nat → Int) : ∀ m, nu b (m + 1) = b 0 + 256 * nu (fun j => b (1 + j)) m
  | 0 => by simp [nu]
  | m + 1 => by
    have ih := nu_shift b m
    show nu b (m + 1) + b (m + 1) * 256 ^ (m + 1) = b 0 + 256 * (nu (fun j => b (1 + j)) m + b (1 + m) * 256 ^ m)
    rw [ih, Int.pow_succ, Nat.add_comm 1 m, Int.mul_add, ← Int.add_assoc]
    congr 1
    ac_rfl
theorem nu_small (b : Nat → Int) (hb : ∀ j, 0 ≤ b j ∧ b j < 256) (k : Nat) (hk : k ≤ 7) : 0 ≤ nu b k ∧ nu b k < 72057594037927936 := by
  have h := nu_lt b hb k
  have : (256 : Int) ^ k ≤ 72057594037927936 := by
    rcases (show k = 0 ∨ k = 1 ∨ k = 2 ∨ k = 3 ∨ k = 4 ∨ k = 5 ∨ k = 6 ∨ k = 7 by omega) with rfl | rfl | rfl | rfl | rfl | rfl | rfl | rfl <;> decide
  omega
set_option maxHeartbeats 1000000 in
theorem q_Read (w : World) (S : Nat → Prop) (p : Nat) (base : Int) (n : Nat) (f : Nat → Int) (h : RMem w S p base n f) (off size : Nat) (hl : off + size ≤ 4096 * n) (hw : size = 1 ∨ size = 2 ∨ size = 4 ∨ size = 8) (addr : Int) (ha : addr = base + off) :
    Calls Try.prog 16 #[.pointer (some ⟨p, 0, none⟩), .int .u64 addr, .int .i64 size] w fun e w' => e = .returned (.tuple #[.int .u64 (nu (fun j => f (off + j)) size), .bool true]) ∧ Still w w' := by
  subst ha
  obtain ⟨b0, b1, l0, l1⟩ := h.nums
  have hh := hasB_of (base := base) hl
  have hwd : decide ((size : Int) = 1 ∨ (size : Int) = 2 ∨ (size : Int) = 4 ∨ (size : Int) = 8) = true := by simp; omega
  have hs8 : 0 < size ∧ size ≤ 8 := by omega
  have HR := hid h
  clear hw h
  go_enter Try.func16, Try.ntmps16
  go_wp2_with (first
    | (go_at_call 34; refine (q_right _ w).mono ?_; rintro e w1 ⟨rfl, hw1⟩; obtain rfl := hw1.symm; rw [hwd])
    | (go_at_call 11; refine (q_HasM w S p base n f HR.out _ _ (by omega) (by omega) (by omega) (by omega)).mono ?_; rintro e w1 ⟨rfl, hst⟩; rw [hh]; have HST := hid hst; clear hst))
  go_loop [8, 9] (fun v i => ∃ m : Nat, m ≤ size ∧ i = .int .i64 ((m : Int) - 1) ∧ v = .int .u64 (nu (fun j => f (off + m + j)) (size - m))) (fun _ i => (intOf i + 1).toNat)
  case atStart => exact ⟨size, Nat.le_refl _, rfl, by rw [Nat.sub_self]; rfl⟩
  case round =>
    obtain ⟨m, hm, rfl, rfl⟩ := hrel
    by_cases hlt : 0 < m
    · obtain ⟨k, rfl⟩ : ∃ k, m = k + 1 := ⟨m - 1, by omega⟩
      have e0 : ((k + 1 : Nat) : Int) - 1 = (k : Int) := by omega
      obtain ⟨V, hV⟩ : ∃ V, nu (fun j => f (off + (k + 1) + j)) (size - (k + 1)) = V := ⟨_, rfl⟩
      have hVb := nu_small (fun j => f (off + (k + 1) + j)) (fun j => HR.out.byt _) (size - (k + 1)) (by omega)
      rw [hV] at hVb
      have HV := hid hV
      have hx := HR.out.byt (off + k)
      obtain ⟨X, hX⟩ : ∃ X, f (off + k) = X := ⟨_, rfl⟩
      rw [hX] at hx
      have HX := hid hX
      have HN : Hid (V * 256 + X = nu (fun j => f (off + k + j)) (size - k)) := by
        show _ = _
        have e1 : size - k = (size - (k + 1)) + 1 := by omega
        have e3 : (fun j => f (off + (k + 1) + j)) = fun j => f (off + k + (1 + j)) := by funext j; congr 1; omega
        rw [e3] at hV
        rw [e1, nu_shift]
        show _ = f (off + k) + 256 * nu (fun j => f (off + k + (1 + j))) (size - (k + 1))
        rw [hV, hX]; omega
      rw [hV, e0]
      clear hV hX
      go_wp2_with (first
        | (go_at_call 38; refine (q_getM w1 S p base n f (HR.out.below (HST.out.below _)) (off + k) (by omega) _ (by omega)).mono ?_; rintro e w2 ⟨rfl, hw2⟩; obtain rfl := hw2.symm; rw [HX.out]))
      go_round
      case rel => exact ⟨k, by omega, by go_num, congrArg (Value.int .u64) HN.out⟩
      case measure => simp [intOf]
    · obtain rfl : m = 0 := by omega
      go_wp2
      go_ret2
      exact ⟨by simp, HST.out⟩
theorem div_pow (v : Int) (k : Nat) : v / 256 ^ k / 256 = v / 256 ^ (k + 1) := by rw [Int.pow_succ, Int.ediv_ediv_of_nonneg (Int.pow_nonneg (by decide))]
theorem div_b (v : Int) (v0 : 0 ≤ v) (v1 : v < 18446744073709551616) (k : Nat) : 0 ≤ v / 256 ^ k ∧ v / 256 ^ k < 18446744073709551616 := by
  have hp : (0 : Int) < 256 ^ k := Int.pow_pos (by decide)
  exact ⟨Int.ediv_nonneg v0 (by omega), Int.lt_of_le_of_lt (Int.ediv_le_self _ v0) v1⟩
set_option maxHeartbeats 1000000 in
theorem q_Write (w : World) (S : Nat → Prop) (p : Nat) (base : Int) (n : Nat) (f : Nat → Int) (h : RMem w S p base n f) (off size : Nat) (hl : off + size ≤ 4096 * n) (hw : size = 1 ∨ size = 2 ∨ size = 4 ∨ size = 8) (addr : Int) (ha : addr = base + off) (v : Int) (v0 : 0 ≤ v) (v1 : v < 18446744073709551616) :
    Calls Try.prog 14 #[.pointer (some ⟨p, 0, none⟩), .int .u64 addr, .int .i64 size, .int .u64 v] w fun e w' => ∃ S', e = .returned (.bool true) ∧ RMem w' S' p base n (put f off size (byt v)) ∧ Only S w w' ∧ ∀ k, S' k → S k ∨ w.heap.size ≤ k := by
  subst ha
  obtain ⟨b0, b1, l0, l1⟩ := h.nums
  have hh := hasB_of (base := base) hl
  have hwd : decide ((size : Int) = 1 ∨ (size : Int) = 2 ∨ (size : Int) = 4 ∨ (size : Int) = 8) = true := by simp; omega
  have hs8 : 0 < size ∧ size ≤ 8 := by omega
  have HR := hid h
  clear hw h
  go_enter Try.func14, Try.ntmps14
  go_wp2_with (first
    | (go_at_call 34; refine (q_right _ w).mono ?_; rintro e w1 ⟨rfl, hw1⟩; obtain rfl := hw1.symm; rw [hwd])
    | (go_at_call 11; refine (q_HasM w S p base n f HR.out _ _ (by omega) (by omega) (by omega) (by omega)).mono ?_; rintro e w1 ⟨rfl, hst⟩; rw [hh]; have HST := hid hst; clear hst))
  go_loopw [3, 9] (fun x i wr => ∃ (k : Nat) (S' : Nat → Prop), k ≤ size ∧ i = .int .i64 k ∧ x = .int .u64 (v / 256 ^ k) ∧ RMem wr S' p base n (put f off k (byt v)) ∧ Only S w wr ∧ ∀ k, S' k → S k ∨ w.heap.size ≤ k) (fun _ i _ => size - (intOf i).toNat)
  case atStart => exact ⟨0, S, by omega, rfl, by simp, by rw [put_zero]; exact HR.out.below (HST.out.below _), HST.out.only, fun k q => .inl q⟩
  case round =>
    obtain ⟨k, S', hk, rfl, rfl, hr, ho, hS⟩ := hrel
    have HR2 := hid hr
    have HO := hid ho
    have HS := hid hS
    clear hr ho hS
    obtain ⟨V, hV⟩ : ∃ V, v / 256 ^ k = V := ⟨_, rfl⟩
    have hVb := div_b v v0 v1 k
    have HVn : Hid (v / 256 ^ (k + 1) = V / 256) := by show _ = _; rw [← hV, div_pow]
    have HVb : Hid (V % 256 = byt v k) := by show _ = _; rw [← hV]; rfl
    rw [hV] at hVb ⊢
    clear hV
    by_cases hlt : k < size
    · go_wp2_with (first
        | (go_at_call 35; refine (q_put wr S' p base n _ HR2.out (off + k) (by omega) _ (by omega) (V % 256) (by omega) (by omega)).mono ?_; rintro e w2 ⟨S2, rfl, hm, ho, hS2⟩; rw [put_step _ _ _ _ _ HVb.out] at hm; have HM2 := hid hm; have HO2 := hid ho; have HS2 := hid hS2; clear hm ho hS2))
      go_roundw
      case rel => exact ⟨k + 1, S2, by omega, by go_num, by rw [HVn.out], HM2.out, HO.out.trans' HO2.out (fun i hi q => by
          rcases HS.out i q with q | q
          · exact q
          · omega), fun i q => by
          rcases HS2.out i q with q | q
          · exact HS.out i q
          · exact .inr (Nat.le_trans HO.out.size q)⟩
      case measure => simp [intOf]; omega
    · obtain rfl : k = size := by omega
      go_wp2
      go_ret
      exact ⟨S', rfl, HR2.out, HO.out, HS.out⟩
set_option maxHeartbeats 1000000 in
theorem q_Fill (w : World) (S : Nat → Prop) (p : Nat) (base : Int) (n : Nat) (f : Nat → Int) (h : RMem w S p base n f) (off len cap : Nat) (hl : off + len ≤ 4096 * n) (addr : Int) (ha : addr = base + off) (ad : Option Addr) (s : Nat → Int) (hs0 : ∀ j, 0 ≤ s j ∧ s j < 256)
    (aa : Addr) (src : 0 < len → ad = some aa ∧ aa.block < w.heap.size ∧ ¬ S aa.block ∧ ∀ j, j < len → w.cell? (aa.add j) = some (.int .u8 (s j))) :
    Calls Try.prog 19 #[.pointer (some ⟨p, 0, none⟩), .int .u64 addr, .slice ad len cap] w fun e w' => ∃ S', e = .returned (.bool true) ∧ RMem w' S' p base n (put f off len s) ∧ Only S w w' ∧ ∀ k, S' k → S k ∨ w.heap.size ≤ k := by
  subst ha
  obtain ⟨b0, b1, l0, l1⟩ := h.nums
  have hh := hasB_of (base := base) hl
  have HSR := hid src
  have HR := hid h
  have HS0 := hid hs0
  clear src h hs0
  go_enter Try.func19, Try.ntmps19
  go_wp2_with (first
    | (go_at_call 11; refine (q_HasM w S p base n f HR.out _ _ (by omega) (by omega) (by omega) (by omega)).mono ?_; rintro e w1 ⟨rfl, hst⟩; rw [hh]; have HST := hid hst; clear hst))
  go_loopw [7] (fun i wr => ∃ (k : Nat) (S' : Nat → Prop), k ≤ len ∧ i = .int .i64 k ∧ RMem wr S' p base n (put f off k s) ∧ Only S w wr ∧ ∀ k, S' k → S k ∨ w.heap.size ≤ k) (fun i _ => len - (intOf i).toNat)
  case atStart => exact ⟨0, S, by omega, rfl, by rw [put_zero]; exact HR.out.below (HST.out.below _), HST.out.only, fun k q => .inl q⟩
  case round =>
    obtain ⟨k, S', hk, rfl, hr, ho, hS⟩ := hrel
    have HR2 := hid hr
    have HO := hid ho
    have HS := hid hS
    clear hr ho hS
    by_cases hlt : k < len
    · obtain ⟨rfl, hab, hnS, hc⟩ := HSR.out (by omega)
      have c1 : wr.cell? (aa.add k) = some (.int .u8 (s k)) := by
        rw [← hc k hlt]; exact World.cell?_of_block (w := w) (by rw [add_block]; exact HO.out.block _ hab hnS)
      have hx := HS0.out k
      clear hc
      go_wp2_with (first
        | (go_at_call 35; refine (q_put wr S' p base n _ HR2.out (off + k) (by omega) _ (by omega) (s k) hx.1 hx.2).mono ?_; rintro e w2 ⟨S2, rfl, hm, ho, hS2⟩; rw [put_step _ _ _ _ _ rfl] at hm; have HM2 := hid hm; have HO2 := hid ho; have HS2 := hid hS2; clear hm ho hS2))
      go_roundw
      case rel => exact ⟨k + 1, S2, by omega, by go_num, HM2.out, HO.out.trans' HO2.out (fun i hi q => by
          rcases HS.out i q with q | q
          · exact q
          · omega), fun i q => by
          rcases HS2.out i q with q | q
          · exact HS.out i q
          · exact .inr (Nat.le_trans HO.out.size q)⟩
      case measure => simp [intOf]; omega
    · obtain rfl : k = len := by omega
      go_wp2
      go_ret
      exact ⟨S', rfl, HR2.out, HO.out, HS.out⟩
set_option maxHeartbeats 1000000 in
theorem q_Bytes (w : World) (S : Nat → Prop) (p : Nat) (base : Int) (n : Nat) (f : Nat → Int) (h : RMem w S p base n f) (off len : Nat) (hl : off + len ≤ 4096 * n) (addr : Int) (ha : addr = base + off) :
    Calls Try.prog 21 #[.pointer (some ⟨p, 0, none⟩), .int .u64 addr, .int .i64 len] w fun e w' => ∃ b, e = .returned (.tuple #[.slice (some ⟨b, 0, none⟩) len len, .bool true]) ∧ w'.heap[b]? = some (.cells (row (fun j => f (off + j)) 0 len).toArray 5 (0, 0)) ∧ w.heap.size ≤ b ∧ Below w.heap.size w w' := by
  subst ha
  obtain ⟨b0, b1, l0, l1⟩ := h.nums
  have hh := hasB_of (base := base) hl
  have HR := hid h
  clear h
  go_enter Try.func21, Try.ntmps21
  go_wp2_with (first
    | (go_at_call 11; refine (q_HasM w S p base n f HR.out _ _ (by omega) (by omega) (by omega) (by omega)).mono ?_; rintro e w1 ⟨rfl, hst⟩; rw [hh]; have HST := hid hst; clear hst)
    | (at_make; refine wpList_makes _ rfl _ _ 35 rfl 5 _ 1 u_su8 info_u8 rfl len rfl rfl (by omega) (by omega) _ (rowz len) ?_))
  go_loopw [9] (fun i wr => ∃ k : Nat, k ≤ len ∧ i = .int .i64 k ∧ wr.heap[w1.heap.size]? = some (.cells (row (put (fun _ => 0) 0 k (fun j => f (off + j))) 0 len).toArray 5 (0, 0)) ∧ Only (fun _ => False) w1 wr) (fun i _ => len - (intOf i).toNat)
  case atStart => exact ⟨0, by omega, rfl, by rw [put_zero]; exact heap_alloc_new w1 _, (Only.refl w1).alloc _⟩
  case round =>
    obtain ⟨k, hk, rfl, hg, ho⟩ := hrel
    have HG := hid hg
    have HO := hid ho
    clear hg ho
    by_cases hlt : k < len
    · obtain ⟨x1, c1⟩ : ∃ x, wr.cell? ⟨w1.heap.size, k, none⟩ = some x := ⟨_, row_cell HG.out k hlt⟩
      have f1 : wr.frozen? ⟨w1.heap.size, k, none⟩ = false := frozen_of_row wr _ _ _ _ HG.out
      have HG2 : Hid ((wr.setCell ⟨w1.heap.size, k, none⟩ (.int .u8 (f (off + k)))).heap[w1.heap.size]? = some (.cells (row (put (fun _ => 0) 0 (k + 1) (fun j => f (off + j))) 0 len).toArray 5 (0, 0))) := by
        show _ = _
        rw [heap_setCell_same _ _ _ _ _ _ HG.out, set_row _ _ _ _ _ hlt, put_step _ _ _ _ _ rfl]
      go_wp2_with (first
        | (go_at_call 38; refine (q_getM wr S p base n f ((HR.out.below (HST.out.below _)).only HO.out fun _ _ q => q) (off + k) (by omega) _ (by omega)).mono ?_; rintro e w2 ⟨rfl, hw2⟩; obtain rfl := hw2.symm))
      go_roundw
      case rel => exact ⟨k + 1, by omega, by go_num, HG2.out, HO.out.setCell (p := ⟨w1.heap.size, k, none⟩) (.inr (Nat.le_refl _)) _⟩
      case measure => simp [intOf]; omega
    · obtain rfl : k = len := by omega
      go_wp2
      go_ret2
      have hsz : w1.heap.size = w.heap.size := by rw [HST.out.heap]
      have e : row (put (fun _ => 0) 0 k fun j => f (off + j)) 0 k = row (fun j => f (off + j)) 0 k := row_congr fun j hj => by simp only [Nat.zero_add]; rw [put_in' _ _ _ _ _ (by omega) (by omega)]; rfl
      exact ⟨w1.heap.size, by simp, by rw [← e]; exact HG.out, by omega, (HST.out.below _).trans (HO.out.below _ (by omega) (fun _ q => q.elim))⟩
end Go.Proofs.Ytioodijiejipiaa
