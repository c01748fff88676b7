/- A guest's memory: Has, Read. -/
import Derived.Test.YtekkjalfiogenaaSU
namespace Go.Proofs.Ytekkjalfiogenaa
open Go.RowKit
open C (Only hid Mem RMem Still ret_bool ret_int put byt rd8 lo nu c_Place gst rdmB)
set_option linter.unusedVariables false
set_option maxRecDepth 100000

theorem x_Has_neg (w : World) (q : Nat) (a n : Int) (hn : n < 0) : Calls Try.prog 38 #[.pointer (some ⟨q, 0, none⟩), .int .u64 a, .int .i64 n] w fun r w' => r = .returned (.bool false) ∧ w' = w := by
  go_enter Try.func38, Try.ntmps38
  go_wp2
  go_ret
  exact ⟨rfl, rfl⟩
set_option maxHeartbeats 2000000 in
theorem x_Has (w : World) (F : Nat → Prop) (u : Value) (q pl : Nat) (s : SV) (v : PV) (f : Nat → Int) (vm : Int) (h : SPs w F u q pl s v f vm) (a : Int) (a0 : 0 ≤ a) (a1 : a < 18446744073709551616) (n : Int) (n0 : 0 ≤ n) (n1 : n ≤ 9223372036854775807) (b : Bool) (hb : (∀ j : Nat, (j : Int) < n → s.pp ((a.toNat + j) / 4096) ≠ 0) ↔ b = true) :
    Calls Try.prog 38 #[.pointer (some ⟨q, 0, none⟩), .int .u64 a, .int .i64 n] w fun r w' => r = .returned (.bool b) ∧ Below w.heap.size w w' := by
  have H := hid h
  have HB := hid hb
  have g0 : ¬ n < 0 := by omega
  clear h hb
  go_enter Try.func38, Try.ntmps38
  go_wp2_with fail
  clear g0
  go_loopw [1, 2, 7, 8, 9, 10] (fun ad rm x1 x2 x3 x4 wr => ∃ (c : Nat) (A r : Int), ad = .int .u64 A ∧ rm = .int .i64 r ∧ Hid (A = a + c ∧ r = n - c ∧ (∀ j : Nat, j < c → (j : Int) < n → s.pp ((a.toNat + j) / 4096) ≠ 0) ∧ (0 < c → a + c ≤ 549755813888) ∧ r ≤ n ∧ Below w.heap.size w wr) ∧ 0 ≤ A ∧ A < 18446744073709551616 ∧ -4096 ≤ r ∧ r ≤ 9223372036854775807) (fun ad rm x1 x2 x3 x4 _ => (intOf rm).toNat)
  case atStart => exact ⟨0, a, n, rfl, rfl, ⟨by omega, by omega, fun j hj => by omega, fun z => by omega, by omega, Below.refl _ _⟩, a0, a1, by omega, n1⟩
  case round =>
    obtain ⟨c, A, r, rfl, rfl, hI, A0, A1, r0, r1⟩ := hrel
    by_cases hr : 0 < r
    · have hA4 : (A / 4096).toNat = (a.toNat + c) / 4096 := by have := hI.out.1; omega
      by_cases hp : s.pp (A / 4096).toNat = 0
      · have hL := r_leaf_no wr F u q pl s v f vm (H.out.below hI.out.2.2.2.2.2) (A / 4096) (by omega) hp
        have hbf : b = false := by
          rcases hbc : b with _ | _
          · rfl
          · have := HB.out.2 hbc c (by have := hI.out.2.1; omega)
            rw [← hA4] at this
            exact absurd hp this
        subst hbf
        clear hA4
        go_wp2_with (go_at_call 45; refine hL.mono ?_; rintro r' w1 ⟨⟨y1, y2, rfl⟩, h1⟩; have H1 := hid h1; clear h1)
        go_ret
        exact ⟨rfl, hI.out.2.2.2.2.2.trans (H1.out.mono hI.out.2.2.2.2.2.size)⟩
      · have hL := r_leaf_yes wr F u q pl s v f vm (H.out.below hI.out.2.2.2.2.2) (A / 4096).toNat hp
        rw [show (((A / 4096).toNat : Nat) : Int) = A / 4096 by omega] at hL
        have hlt := H.out.iv.pplt hp
        have Alt : A < 549755813888 := by omega
        obtain ⟨c', hc'⟩ : ∃ c' : Nat, (c' : Int) = c + (4096 - A % 4096) := ⟨(c + (4096 - A % 4096)).toNat, by omega⟩
        have HN : Hid (A + (4096 - A % 4096) = a + c' ∧ r - (4096 - A % 4096) = n - c' ∧ (∀ j : Nat, j < c' → (j : Int) < n → s.pp ((a.toNat + j) / 4096) ≠ 0) ∧ (0 < c' → a + c' ≤ 549755813888) ∧ r - (4096 - A % 4096) ≤ n) := by
          have e1 := hI.out.1
          have e2 := hI.out.2.1
          have e5 := hI.out.2.2.2.2.1
          refine ⟨by omega, by omega, fun j hj hjn => ?_, fun _ => by omega, by omega⟩
          rcases Nat.lt_or_ge j c with z | z
          · exact hI.out.2.2.1 j z hjn
          · rw [show (a.toNat + j) / 4096 = (A / 4096).toNat by omega]; exact hp
        clear hp hA4 hlt hc'
        generalize lE v.b (s.pf (A / 4096).toNat) (s.pp (A / 4096).toNat) = ev at hL
        generalize v.b + (lfO s (A / 4096).toNat : Nat) = av at hL
        go_wp2_with (go_at_call 45; refine hL.mono ?_; rintro r' w1 ⟨rfl, h1⟩; have H1 := hid h1; clear h1)
        go_roundw
        case rel => exact ⟨c', A + (4096 - A % 4096), r - (4096 - A % 4096), by first | rfl | (congr 1; rw [IntKind.wrap_u64]; omega) | go_num, by first | rfl | (congr 1; unfold wrap64; omega) | go_num, ⟨HN.out.1, HN.out.2.1, HN.out.2.2.1, HN.out.2.2.2.1, HN.out.2.2.2.2, hI.out.2.2.2.2.2.trans (H1.out.mono hI.out.2.2.2.2.2.size)⟩, by omega, by omega, by omega, by omega⟩
        case measure => first | (simp [intOf]; done) | (simp [intOf]; omega)
    · have hbt : b = true := HB.out.1 fun j hj => hI.out.2.2.1 j (by have := hI.out.2.1; omega) hj
      subst hbt
      go_wp2_with fail
      go_ret
      exact ⟨rfl, hI.out.2.2.2.2.2⟩
theorem t_read_no (w : World) (q : Nat) (a sz : Int) (hp : Calls Try.prog 64 #[.pointer (some ⟨q, 0, none⟩), .int .u64 a, .int .i64 sz, .int .u64 0] w fun r w' => (∃ h, r = .returned (.tuple #[.agg (a8c h), .bool false])) ∧ Below w.heap.size w w') :
    Calls Try.prog 36 #[.pointer (some ⟨q, 0, none⟩), .int .u64 a, .int .i64 sz] w fun r w' => r = .returned (.tuple #[.int .u64 0, .bool false]) ∧ Below w.heap.size w w' := by
  go_enter Try.func36, Try.ntmps36
  go_wp2_with (first
    | (go_at_call 64; refine hp.mono ?_; rintro r w1 ⟨⟨h, rfl⟩, hb⟩; have HB := hid hb; clear hb)
    | ((with_reducible refine wpL_store8 w1.heap.size ?_ (fun _ => 0) h ?_ (heap_alloc_new w1 _) ?_); rfl; rfl))
  go_ret2
  exact ⟨rfl, below_row (HB.out.alloc HB.out.size _) HB.out.size _⟩
theorem pw256 (k : Nat) : ((2 : Int) ^ (8 * k)) = 256 ^ k := by
  have : (2 : Nat) ^ (8 * k) = 256 ^ k := by rw [Nat.pow_mul]
  exact_mod_cast this
set_option maxHeartbeats 2000000 in
theorem x_Read (w : World) (F : Nat → Prop) (u : Value) (q pl : Nat) (s : SV) (v : PV) (f : Nat → Int) (vm : Int) (h : SPs w F u q pl s v f vm) (a : Int) (a0 : 0 ≤ a) (a1 : a < 18446744073709551616) (n : Nat) (hn : wdt n = true) (hb : ∀ j, j < n → s.pp ((a.toNat + j) / 4096) ≠ 0) :
    Calls Try.prog 36 #[.pointer (some ⟨q, 0, none⟩), .int .u64 a, .int .i64 n] w fun r w' => r = .returned (.tuple #[.int .u64 (nu (fun j => f (po s (a.toNat + j))) n), .bool true]) ∧ Below w.heap.size w w' := by
  have hpk : ∀ j, j < n → pgOk s 0 ((a.toNat + j) / 4096) = true := fun j hj => by
    unfold pgOk okR
    rw [decide_eq_true (hb j hj), Nat.and_zero]
    rfl
  have hp := x_places w F u q pl s v f vm h a a0 a1 n hn 0 (.inl rfl) true ⟨fun _ => rfl, fun _ => hpk⟩
  have hn' : n ≤ 8 ∧ 0 < n := by simp [wdt] at hn; omega
  obtain ⟨S, hm, hS, -⟩ := h.pl.open
  have HM := hid hm
  have hby : ∀ j, 0 ≤ f j ∧ f j < 256 := hm.byt
  have HBY := hid hby
  have HNL : Hid (∀ k, 0 ≤ nu (fun j => f (po s (a.toNat + j))) k ∧ nu (fun j => f (po s (a.toNat + j))) k < 256 ^ k) := C.nu_lt _ fun j => hby _
  have H := hid h
  have HBB := hid hb
  clear h hn hb hm hS hby hpk
  go_enter Try.func36, Try.ntmps36
  go_upto_region 2 with (first
    | (go_at_call 64; refine hp.mono ?_; rintro r w1 ⟨⟨g, rfl, hg⟩, hb⟩; have HG := hid hg; have HB1 := hid hb; clear hb hg)
    | ((with_reducible refine wpL_store8 w1.heap.size ?_ (fun _ => 0) g ?_ (heap_alloc_new w1 _) ?_); rfl; rfl))
  obtain ⟨wb, hwb⟩ : ∃ wb, (w1.alloc (.cells (a8c fun _ => 0) 140)).setRow w1.heap.size (a8c g) = wb := ⟨_, rfl⟩
  have HA : Hid (wb.heap[w1.heap.size]? = some (.cells (a8c g) 140 (0, 0))) := hwb ▸ setRow_heap _ _ _ _ _ _ (heap_alloc_new w1 _)
  have HB : Hid (Below w.heap.size w wb) := hwb ▸ below_row (HB1.out.alloc HB1.out.size _) HB1.out.size _
  rw [a8c_0] at hwb
  try rw [hwb]
  clear hwb hp
  have hlen : (n : Int) ≤ 8 := by omega
  go_wp2_with fail
  go_loopw [10, 11, 12, 13, 14, 27] (fun y x1 x2 x3 x4 c wr => ∃ k : Nat, k ≤ n ∧ c = .int .i64 k ∧ y = .int .u64 (nu (fun j => f (po s (a.toNat + j))) k) ∧ Hid (wr.heap[w1.heap.size]? = some (.cells (a8c g) 140 (0, 0)) ∧ Below w.heap.size w wr)) (fun y x1 x2 x3 x4 c _ => n - (intOf c).toNat)
  case atStart => exact ⟨0, by omega, rfl, rfl, HA.out, HB.out⟩
  case round =>
    obtain ⟨k, hk, rfl, rfl, hI⟩ := hrel
    by_cases hlt : k < n
    · have c8 : wr.cell? ⟨w1.heap.size, k, none⟩ = some (.int .u64 (g k)) := (cell_of_row wr _ k _ _ _ hI.out.1).trans (a8c_at g k (by omega))
      have hs' := H.out.below hI.out.2
      have d0 := hs'.sq.c0
      have hgk := (HG.out (by trivial)).2 k hlt
      have hpo := po_lt H.out.iv (HBB.out k hlt)
      have hR := C.c_Read wr S v.m v.b v.n f (HM.out.below hI.out.2) (po s (a.toNat + k)) 1 hpo (by decide) (g k) hgk
      have hn1 : nu (fun j => f (po s (a.toNat + k) + j)) 1 = f (po s (a.toNat + k)) := by show 0 + f (po s (a.toNat + k) + 0) * 256 ^ 0 = _; rw [Nat.add_zero]; omega
      rw [hn1] at hR
      have hR' : Calls Try.prog 87 #[.pointer (some ⟨v.m, 0, none⟩), .int .u64 (g k), .int .i64 1] wr fun e w' => e = .returned (.tuple #[.int .u64 (f (po s (a.toNat + k))), .bool true]) ∧ Below wr.heap.size wr w' := hR
      have hv := HBY.out (po s (a.toNat + k))
      have hnl := HNL.out k
      have hor := C.or_nu (nu (fun j => f (po s (a.toNat + j))) k) (f (po s (a.toNat + k))) k (by omega) hnl.1 hnl.2 hv.1 hv.2
      have hst : nu (fun j => f (po s (a.toNat + j))) k + f (po s (a.toNat + k)) * 256 ^ k = nu (fun j => f (po s (a.toNat + j))) (k + 1) := C.nu_step _ k
      rw [hst] at hor
      have hnl1 := HNL.out (k + 1)
      have hwr : IntKind.u64.wrap (f (po s (a.toNat + k)) * 2 ^ (8 * k)) = f (po s (a.toNat + k)) * 256 ^ k := by
        rw [pw256, IntKind.wrap_u64]
        have h8 : (256 : Int) ^ (k + 1) ≤ 256 ^ 8 := by exact_mod_cast Nat.pow_le_pow_right (n := 256) (by decide) (show k + 1 ≤ 8 by omega)
        have h9 : (256 : Int) ^ 8 = 18446744073709551616 := by decide
        have h10 : 0 ≤ f (po s (a.toNat + k)) * 256 ^ k := Int.mul_nonneg hv.1 (by exact_mod_cast Nat.zero_le (256 ^ k))
        omega
      generalize f (po s (a.toNat + k)) = fv at *
      generalize nu (fun j => f (po s (a.toNat + j))) k = y0 at *
      generalize hy1 : nu (fun j => f (po s (a.toNat + j))) (k + 1) = y1 at *
      have HY1 := hid hy1
      clear hn1 hR hgk hpo hst hnl hnl1 hv hy1 hs'
      go_wp2_with (go_at_call 87; refine hR'.mono ?_; rintro r w2 ⟨rfl, h1⟩; have H1 := hid h1; clear h1)
      go_roundw
      case rel => exact ⟨k + 1, by omega, by go_num, by rw [HY1.out], (H1.out.block _ (lt_of_block hI.out.1)).trans hI.out.1, hI.out.2.trans (H1.out.mono hI.out.2.size)⟩
      case measure => first | (simp [intOf]; done) | (simp [intOf]; omega)
    · obtain rfl : k = n := by omega
      go_wp2_with fail
      go_ret2
      exact ⟨rfl, hI.out.2⟩
end Go.Proofs.Ytekkjalfiogenaa
