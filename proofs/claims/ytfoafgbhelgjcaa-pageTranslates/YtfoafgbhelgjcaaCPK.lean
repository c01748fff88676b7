/- Package page: Translate. -/
import Derived.Test.YtfoafgbhelgjcaaCPJ
namespace Go.Proofs.Ytfoafgbhelgjcaa.C
open Go.RowKit
set_option linter.unusedVariables false
set_option maxRecDepth 100000

theorem D_tab {R : Int → Int × Int} (addr wrong : Int) : ∀ (k : Nat) (t : Int), t < 17592186044416 → (D R addr wrong k t).table < 17592186044416 := by
  intro k
  induction k with
  | zero =>
    intro t ht
    have g1 : t ≤ 4503599627370495 := by omega
    by_cases g2 : (R (atF addr 0 t)).2 = 0
    · cases g3 : wr (R (atF addr 0 t)).1
      · cases g4 : lf (R (atF addr 0 t)).1
        · rw [D_end g1 g2 g3 g4]; exact ht
        · by_cases g5 : num (R (atF addr 0 t)).1 % pw 0 = 0
          · rw [D_leaf g1 g2 g3 g4 g5]; exact ht
          · rw [D_mis g1 g2 g3 g4 g5]; exact ht
      · rw [D_wrong g1 g2 g3]; exact ht
    · rw [D_fault g1 g2]; exact ht
  | succ k ih =>
    intro t ht
    have g1 : t ≤ 4503599627370495 := by omega
    by_cases g2 : (R (atF addr (k + 1) t)).2 = 0
    · cases g3 : wr (R (atF addr (k + 1) t)).1
      · cases g4 : lf (R (atF addr (k + 1) t)).1
        · rw [D_next g1 g2 g3 g4]
          have := wr_lt g3
          exact ih _ (by unfold num; omega)
        · by_cases g5 : num (R (atF addr (k + 1) t)).1 % pw (k + 1) = 0
          · rw [D_leaf g1 g2 g3 g4 g5]; exact ht
          · rw [D_mis g1 g2 g3 g4 g5]; exact ht
      · rw [D_wrong g1 g2 g3]; exact ht
    · rw [D_fault g1 g2]; exact ht
theorem plc_b {r : DR} {wrong : Int} (h : DOk r wrong) (addr : Int) : 0 ≤ plc r addr ∧ plc r addr < 18446744073709551616 := by
  have n1 := num_b h.leaf0 h.leaf1
  have hl := h.lev
  unfold plc
  rcases (show r.level = 0 ∨ r.level = 1 ∨ r.level = 2 by omega) with q | q | q
  · rw [q, pw0]; omega
  · rw [q, pw1]; omega
  · rw [q, pw2]; omega
theorem Below.drewN' {B : Nat} (w : World) (m : Nat) : Below B w (w.drewN m) := ⟨rfl, rfl, rfl, Nat.le_refl _, fun _ _ => rfl⟩
/-- thr by what find says -/
theorem thr_find (R : Int → Int × Int) (v : EnvV) (va acc : Int) (hx : ext va = true) (r : DR) (hr : D (rdg R v.root) va 1 2 (v.satp % 17592186044416) = r) :
    thr R v va acc = if fd1 r v acc = 1 then ⟨0, 0, 1, false⟩ else if fd1 r v acc = 0 then plOf R v.root (plc r va) acc else ⟨0, atF va r.level r.table, fd1 r v acc, true⟩ := by
  unfold thr
  rw [hr, hx, if_neg (by decide)]
  by_cases g : r.fault = 0
  · rw [if_neg (by rw [g]; decide), if_neg (by rw [g]; decide)]
    cases g2 : fa r.leaf v acc
    · have e : fd1 r v acc = 1 := by unfold fd1; rw [if_neg (by rw [g]; decide), g2, if_neg (by decide)]
      rw [e]; rfl
    · have e : fd1 r v acc = 0 := by unfold fd1; rw [if_neg (by rw [g]; decide), g2, if_pos rfl]
      rw [e]; rfl
  · have e : fd1 r v acc = r.fault := by unfold fd1; rw [if_pos g]
    rw [e]
    by_cases g1 : r.fault = 1
    · rw [if_pos g1, if_pos g1]
    · rw [if_neg g1, if_pos g, if_neg g1, if_neg g]
theorem c_placeD (w : World) (b : Nat) (ty : TypeId) (tail : List Value) (p : Nat) (addr wrong : Int) (r : DR) (h : WK w b ty tail p addr r.table r.level wrong r.leaf) (hk : r.level ≤ 2) (h0 : 0 ≤ r.leaf) (h1 : r.leaf < 18014398509481984) (a0 : 0 ≤ addr) (a1 : addr < 18446744073709551616) :
    Calls Try.prog 85 #[.pointer (some ⟨b, 0, none⟩)] w fun e w' => e = .returned (.int .u64 (plc r addr)) ∧ ∃ m, w' = w.drewN m :=
  c_place4 w b ty tail p addr r.table wrong r.leaf r.level hk h h0 h1 a0 a1
set_option maxHeartbeats 1000000 in
set_option maxRecDepth 100000 in
theorem c_throughBoth (w : World) (S : Nat → Prop) (p n : Nat) (f : Nat → Int) (hm : Mem w S p 0 n f) (cm ce : Nat) (v : EnvV) (hcp : Cap w cm ce p v.root) (va acc : Int) (a0 : 0 ≤ va) (a1 : va < 18446744073709551616) (s0 : 0 ≤ v.satp) (s1 : v.satp < 18446744073709551616) (r0 : 0 ≤ v.root) (r1 : v.root < 18446744073709551616) :
    Calls Try.prog 91 #[.pointer (some ⟨p, 0, none⟩), .agg #[.int .u64 v.satp, .int .u64 v.root, .bool v.user, .bool v.sum, .bool v.mxr], .int .u64 va, .int .i64 acc, .func (.func 67) #[] #[.pointer (some ⟨cm, 0, none⟩), .pointer (some ⟨ce, 0, none⟩)]] w fun r w' => r = .returned (plV (thr (rdm n f) v va acc)) ∧ Below w.heap.size w w' := by
  have hRd := rdm_ok n f hm.byt
  have HM := hid hm
  have HCP := hid hcp
  have hlm := hcp.lm
  have hle := hcp.le
  clear hm hcp
  obtain ⟨wa, hwa⟩ : ∃ wa, wa = (w.alloc (.cells #[.int .u64 v.satp, .int .u64 v.root, .bool v.user, .bool v.sum, .bool v.mxr] 83)).alloc (.cells #[.int .u64 0, .int .u64 0, .int .i64 0, .bool false] 93) := ⟨_, rfl⟩
  have HA : Hid (Below w.heap.size w wa) := by rw [hwa]; exact ((Below.refl _ _).alloc (Nat.le_refl _) _).alloc (by simp) _
  have HE : Hid (wa.heap[w.heap.size]? = some (.cells #[.int .u64 v.satp, .int .u64 v.root, .bool v.user, .bool v.sum, .bool v.mxr] 83 (0, 0))) := by
    rw [hwa]; exact (Below.heap_alloc _ _ _ (by simp)).trans (heap_alloc_new w _)
  have HR : Hid (B4 wa (w.heap.size + 1) (.int .u64 0) (.int .u64 0) (.int .i64 0) (.bool false)) := by
    rw [hwa]
    have := heap_alloc_new (w.alloc (.cells #[.int .u64 v.satp, .int .u64 v.root, .bool v.user, .bool v.sum, .bool v.mxr] 83)) (.cells #[.int .u64 0, .int .u64 0, .int .i64 0, .bool false] 93)
    have e1 : (w.alloc (.cells #[.int .u64 v.satp, .int .u64 v.root, .bool v.user, .bool v.sum, .bool v.mxr] 83)).heap.size = w.heap.size + 1 := by simp
    rw [e1] at this
    exact this
  have HWA := hid hwa
  clear hwa
  go_enter Try.func91, Try.ntmps91
  have hrs := rs_func
  cases hx : ext va
  · have ht : thr (rdm n f) v va acc = ⟨0, 0, 1, false⟩ := by unfold thr; rw [hx, if_pos rfl]
    rw [ht]
    clear ht
    go_wp2_with (first
      | (go_at_call 106; rw [← HWA.out]; refine (c_newFirst wa p v va cm ce s0).mono ?_; rintro e w1 ⟨rfl, hb1⟩; have HB1 := hid hb1; have HR1 : Hid (B4 (w1.alloc (.cells (wkL p va (v.satp % 17592186044416) 0 1 0 (tl v cm ce)).toArray 189)) (w.heap.size + 1) (.int .u64 0) (.int .u64 0) (.int .i64 0) (.bool false)) := (HR.out.below hb1).below ((Below.refl _ _).alloc (Nat.le_refl _) _); obtain ⟨k0, k1, k2, k3⟩ := HR1.out.c; obtain ⟨z0, z1, z2, z3⟩ := HR1.out.z; clear hb1)
      | (go_at_call 107; refine (c_find1_no (w1.alloc (.cells (wkL p va (v.satp % 17592186044416) 0 1 0 (tl v cm ce)).toArray 189)) p _ v va (v.satp % 17592186044416) acc a0 a1 hx (heap_alloc_new w1 _)).mono ?_; rintro e w2 ⟨rfl, hw2⟩; obtain rfl := hw2.symm))
    obtain ⟨y0, y1, y2, y3⟩ := HR1.out.y (.int .u64 0) (.int .u64 0) (.int .i64 1) (.bool false)
    refine bodyPost_ret (by simp [results, Try.results91, go_sem, y0, y1, y2, y3]; rfl) rfl ?_
    have q := HA.out.trans (HB1.out.mono HA.out.size)
    exact ⟨rfl, below4 (q.alloc q.size _) (Nat.le_succ _) _ _ _ _⟩
  · obtain ⟨r, hr⟩ : ∃ r, D (rdg (rdm n f) v.root) va 1 2 (v.satp % 17592186044416) = r := ⟨_, rfl⟩
    have t0 : 0 ≤ v.satp % 17592186044416 := by omega
    have hq := D_ok (rdg_ok hRd v.root r0 r1) va 1 2 (v.satp % 17592186044416) (by decide) t0 (by omega)
    have hT := D_tab (R := rdg (rdm n f) v.root) va 1 2 (v.satp % 17592186044416) (by omega)
    obtain ⟨z, hz⟩ : ∃ z, fd1 r v acc = z := ⟨_, rfl⟩
    rw [thr_find (rdm n f) v va acc hx r hr, hz]
    rw [hr] at hq hT
    have HRR := hid hr
    have HQ := hid hq
    have HTT := hid hT
    have HZ := hid hz
    have HRB := HR
    clear hr hq hT hz HR
    by_cases c1 : z = 1
    · subst c1
      rw [if_pos rfl]
      go_wp2_with (first
        | (go_at_call 106; rw [← HWA.out]; refine (c_newFirst wa p v va cm ce s0).mono ?_; rintro e w1 ⟨rfl, hb1⟩; have HB1 := hid hb1; have HR1 : Hid (B4 (w1.alloc (.cells (wkL p va (v.satp % 17592186044416) 0 1 0 (tl v cm ce)).toArray 189)) (w.heap.size + 1) (.int .u64 0) (.int .u64 0) (.int .i64 0) (.bool false)) := (HRB.out.below hb1).below ((Below.refl _ _).alloc (Nat.le_refl _) _); have HE1 : Hid ((w1.alloc (.cells (wkL p va (v.satp % 17592186044416) 0 1 0 (tl v cm ce)).toArray 189)).heap[w.heap.size]? = some (.cells #[.int .u64 v.satp, .int .u64 v.root, .bool v.user, .bool v.sum, .bool v.mxr] 83 (0, 0))) := (Below.heap_alloc w1 _ _ (Nat.lt_of_lt_of_le (lt_of_block HE.out) hb1.size)).trans ((hb1.block _ (lt_of_block HE.out)).trans HE.out); clear hb1)
        | (go_at_call 107; refine (c_find1 (w1.alloc (.cells (wkL p va (v.satp % 17592186044416) 0 1 0 (tl v cm ce)).toArray 189)) S p n f (Mem.below (Mem.below (Mem.below HM.out HA.out) HB1.out) ((Below.refl _ _).alloc (Nat.le_refl _) _)) cm ce w1.heap.size v (((HCP.out.below HA.out).below HB1.out).below ((Below.refl _ _).alloc (Nat.le_refl _) _)) ⟨by have := HA.out.size; have := HB1.out.size; omega, by have := HA.out.size; have := HB1.out.size; omega⟩ va (v.satp % 17592186044416) acc a0 a1 hx t0 (by omega) r0 r1 (heap_alloc_new w1 _)).mono ?_; rintro e w2 ⟨rfl, hw2, ho2⟩; rw [HRR.out] at hw2; rw [HRR.out, HZ.out]; have HW2 := hid hw2; have HO2 := hid ho2; have n1 : ¬ (w.heap.size + 1 = w1.heap.size) := (by have := HB1.out.size; have := lt_of_block HRB.out; omega); have n2 : ¬ (w.heap.size = w1.heap.size) := (by have := HB1.out.size; have := lt_of_block HRB.out; omega); have HR2 : Hid (B4 w2 (w.heap.size + 1) (.int .u64 0) (.int .u64 0) (.int .i64 0) (.bool false)) := ho2.old HR1.out n1; have HE2 := hid (ho2.old HE1.out n2); have x1 : w2.cell? ⟨w.heap.size, 1, none⟩ = some (.int .u64 v.root) := (by rw [cell_of_row w2 _ 1 _ _ _ HE2.out]; rfl); obtain ⟨k0, k1, k2, k3⟩ := HR2.out.c; obtain ⟨z0, z1, z2, z3⟩ := HR2.out.z; have HB2 : Hid (Below w.heap.size w w2) := ((HA.out.trans (HB1.out.mono HA.out.size)).alloc (HA.out.trans (HB1.out.mono HA.out.size)).size _).trans (ho2.below _ (by have := (HA.out.trans (HB1.out.mono HA.out.size)).size; simp; omega) (by rintro k rfl; exact (HA.out.trans (HB1.out.mono HA.out.size)).size)); clear hw2 ho2))
      obtain ⟨y0, y1, y2, y3⟩ := HR2.out.y (.int .u64 0) (.int .u64 0) (.int .i64 1) (.bool false)
      refine bodyPost_ret (by simp [results, Try.results91, go_sem, y0, y1, y2, y3]; rfl) rfl ?_
      exact ⟨rfl, below4 HB2.out (Nat.le_succ _) _ _ _ _⟩
    · rw [if_neg c1]
      by_cases c0 : z = 0
      · subst c0
        rw [if_pos rfl]
        obtain ⟨P, hP⟩ : ∃ P, plOf (rdm n f) v.root (plc r va) acc = P := ⟨_, rfl⟩
        rw [hP]
        have HP := hid hP
        clear hP
        obtain ⟨p0, p1⟩ := plc_b HQ.out va
        go_wp2_with (first
          | (go_at_call 106; rw [← HWA.out]; refine (c_newFirst wa p v va cm ce s0).mono ?_; rintro e w1 ⟨rfl, hb1⟩; have HB1 := hid hb1; have HR1 : Hid (B4 (w1.alloc (.cells (wkL p va (v.satp % 17592186044416) 0 1 0 (tl v cm ce)).toArray 189)) (w.heap.size + 1) (.int .u64 0) (.int .u64 0) (.int .i64 0) (.bool false)) := (HRB.out.below hb1).below ((Below.refl _ _).alloc (Nat.le_refl _) _); have HE1 : Hid ((w1.alloc (.cells (wkL p va (v.satp % 17592186044416) 0 1 0 (tl v cm ce)).toArray 189)).heap[w.heap.size]? = some (.cells #[.int .u64 v.satp, .int .u64 v.root, .bool v.user, .bool v.sum, .bool v.mxr] 83 (0, 0))) := (Below.heap_alloc w1 _ _ (Nat.lt_of_lt_of_le (lt_of_block HE.out) hb1.size)).trans ((hb1.block _ (lt_of_block HE.out)).trans HE.out); clear hb1)
          | (go_at_call 107; refine (c_find1 (w1.alloc (.cells (wkL p va (v.satp % 17592186044416) 0 1 0 (tl v cm ce)).toArray 189)) S p n f (Mem.below (Mem.below (Mem.below HM.out HA.out) HB1.out) ((Below.refl _ _).alloc (Nat.le_refl _) _)) cm ce w1.heap.size v (((HCP.out.below HA.out).below HB1.out).below ((Below.refl _ _).alloc (Nat.le_refl _) _)) ⟨by have := HA.out.size; have := HB1.out.size; omega, by have := HA.out.size; have := HB1.out.size; omega⟩ va (v.satp % 17592186044416) acc a0 a1 hx t0 (by omega) r0 r1 (heap_alloc_new w1 _)).mono ?_; rintro e w2 ⟨rfl, hw2, ho2⟩; rw [HRR.out] at hw2; rw [HRR.out, HZ.out]; have HW2 := hid hw2; have HO2 := hid ho2; have n1 : ¬ (w.heap.size + 1 = w1.heap.size) := (by have := HB1.out.size; have := lt_of_block HRB.out; omega); have n2 : ¬ (w.heap.size = w1.heap.size) := (by have := HB1.out.size; have := lt_of_block HRB.out; omega); have HR2 : Hid (B4 w2 (w.heap.size + 1) (.int .u64 0) (.int .u64 0) (.int .i64 0) (.bool false)) := ho2.old HR1.out n1; have HE2 := hid (ho2.old HE1.out n2); have x1 : w2.cell? ⟨w.heap.size, 1, none⟩ = some (.int .u64 v.root) := (by rw [cell_of_row w2 _ 1 _ _ _ HE2.out]; rfl); obtain ⟨k0, k1, k2, k3⟩ := HR2.out.c; obtain ⟨z0, z1, z2, z3⟩ := HR2.out.z; have HB2 : Hid (Below w.heap.size w w2) := ((HA.out.trans (HB1.out.mono HA.out.size)).alloc (HA.out.trans (HB1.out.mono HA.out.size)).size _).trans (ho2.below _ (by have := (HA.out.trans (HB1.out.mono HA.out.size)).size; simp; omega) (by rintro k rfl; exact (HA.out.trans (HB1.out.mono HA.out.size)).size)); clear hw2 ho2))
        have HCA : Hid (Cap w2 cm ce p v.root) := (((HCP.out.below HA.out).below HB1.out).below ((Below.refl _ _).alloc (Nat.le_refl _) _)).only HO2.out (by have := HA.out.size; have := HB1.out.size; omega) (by have := HA.out.size; have := HB1.out.size; omega)
        have HMA : Hid (Mem w2 S p 0 n f) := Mem.only (Mem.below (Mem.below (Mem.below HM.out HA.out) HB1.out) ((Below.refl _ _).alloc (Nat.le_refl _) _)) HO2.out (fun k hk e => by have := Mem.lt HM.out hk; have := HB1.out.size; have := lt_of_block HRB.out; omega)
        go_wp2_with (first
          | (go_at_call 85; refine (c_placeD w2 w1.heap.size 189 (tl v cm ce) p va 1 r HW2.out HQ.out.lev HQ.out.leaf0 HQ.out.leaf1 a0 a1).mono ?_; rintro e w3 ⟨rfl, m3, rfl⟩)
          | (go_at_call 90; refine (c_placeOf (w2.drewN m3) S p n f (HMA.out.below (Below.drewN' w2 m3)) cm ce v.root (HCA.out.below (Below.drewN' w2 m3)) (plc r va) acc r0 r1 p0 p1).mono ?_; rw [HP.out]; rintro e w3 ⟨he, hb3⟩; unfold plV at he; subst he; have HB3 : Hid (Below w.heap.size w w3) := (HB2.out.trans (Below.drewN' w2 m3)).trans (hb3.mono HB2.out.size); have HR3 : Hid (B4 w3 (w.heap.size + 1) (.int .u64 0) (.int .u64 0) (.int .i64 0) (.bool false)) := B4.below (w := w2.drewN m3) HR2.out hb3; obtain ⟨k0, k1, k2, k3⟩ := HR3.out.c; obtain ⟨z0, z1, z2, z3⟩ := HR3.out.z; clear hb3))
        obtain ⟨y0, y1, y2, y3⟩ := HR3.out.y (.int .u64 P.pa) (.int .u64 P.gpa) (.int .i64 P.fault) (.bool P.walk)
        refine bodyPost_ret (by simp [results, Try.results91, go_sem, y0, y1, y2, y3]; rfl) rfl ?_
        exact ⟨rfl, below4 HB3.out (Nat.le_succ _) _ _ _ _⟩
      · rw [if_neg c0]
        go_wp2_with (first
          | (go_at_call 106; rw [← HWA.out]; refine (c_newFirst wa p v va cm ce s0).mono ?_; rintro e w1 ⟨rfl, hb1⟩; have HB1 := hid hb1; have HR1 : Hid (B4 (w1.alloc (.cells (wkL p va (v.satp % 17592186044416) 0 1 0 (tl v cm ce)).toArray 189)) (w.heap.size + 1) (.int .u64 0) (.int .u64 0) (.int .i64 0) (.bool false)) := (HRB.out.below hb1).below ((Below.refl _ _).alloc (Nat.le_refl _) _); have HE1 : Hid ((w1.alloc (.cells (wkL p va (v.satp % 17592186044416) 0 1 0 (tl v cm ce)).toArray 189)).heap[w.heap.size]? = some (.cells #[.int .u64 v.satp, .int .u64 v.root, .bool v.user, .bool v.sum, .bool v.mxr] 83 (0, 0))) := (Below.heap_alloc w1 _ _ (Nat.lt_of_lt_of_le (lt_of_block HE.out) hb1.size)).trans ((hb1.block _ (lt_of_block HE.out)).trans HE.out); clear hb1)
          | (go_at_call 107; refine (c_find1 (w1.alloc (.cells (wkL p va (v.satp % 17592186044416) 0 1 0 (tl v cm ce)).toArray 189)) S p n f (Mem.below (Mem.below (Mem.below HM.out HA.out) HB1.out) ((Below.refl _ _).alloc (Nat.le_refl _) _)) cm ce w1.heap.size v (((HCP.out.below HA.out).below HB1.out).below ((Below.refl _ _).alloc (Nat.le_refl _) _)) ⟨by have := HA.out.size; have := HB1.out.size; omega, by have := HA.out.size; have := HB1.out.size; omega⟩ va (v.satp % 17592186044416) acc a0 a1 hx t0 (by omega) r0 r1 (heap_alloc_new w1 _)).mono ?_; rintro e w2 ⟨rfl, hw2, ho2⟩; rw [HRR.out] at hw2; rw [HRR.out, HZ.out]; have HW2 := hid hw2; have HO2 := hid ho2; have n1 : ¬ (w.heap.size + 1 = w1.heap.size) := (by have := HB1.out.size; have := lt_of_block HRB.out; omega); have n2 : ¬ (w.heap.size = w1.heap.size) := (by have := HB1.out.size; have := lt_of_block HRB.out; omega); have HR2 : Hid (B4 w2 (w.heap.size + 1) (.int .u64 0) (.int .u64 0) (.int .i64 0) (.bool false)) := ho2.old HR1.out n1; have HE2 := hid (ho2.old HE1.out n2); have x1 : w2.cell? ⟨w.heap.size, 1, none⟩ = some (.int .u64 v.root) := (by rw [cell_of_row w2 _ 1 _ _ _ HE2.out]; rfl); obtain ⟨k0, k1, k2, k3⟩ := HR2.out.c; obtain ⟨z0, z1, z2, z3⟩ := HR2.out.z; have HB2 : Hid (Below w.heap.size w w2) := ((HA.out.trans (HB1.out.mono HA.out.size)).alloc (HA.out.trans (HB1.out.mono HA.out.size)).size _).trans (ho2.below _ (by have := (HA.out.trans (HB1.out.mono HA.out.size)).size; simp; omega) (by rintro k rfl; exact (HA.out.trans (HB1.out.mono HA.out.size)).size)); clear hw2 ho2)
          | (go_at_call 108; refine (c_at w2 w1.heap.size 189 (tl v cm ce) p va r.table 1 r.leaf r.level HQ.out.lev a0 a1 HQ.out.tab0 (by have := HTT.out; omega) HW2.out).mono ?_; rintro e w3 ⟨rfl, m3, rfl⟩))
        have HR3 : Hid (B4 (w2.drewN m3) (w.heap.size + 1) (.int .u64 0) (.int .u64 0) (.int .i64 0) (.bool false)) := HR2.out
        obtain ⟨y0, y1, y2, y3⟩ := HR3.out.y (.int .u64 0) (.int .u64 (atF va r.level r.table)) (.int .i64 z) (.bool true)
        refine bodyPost_ret (by simp [results, Try.results91, go_sem, y0, y1, y2, y3]; rfl) rfl ?_
        exact ⟨rfl, below4 (HB2.out.trans (Below.drewN' w2 m3)) (Nat.le_succ _) _ _ _ _⟩
end Go.Proofs.Ytfoafgbhelgjcaa.C
