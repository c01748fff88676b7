/- Package page: the second stage. -/
import Derived.Test.YtieoingbinfdiaaPC
import Derived.Handy
namespace Go.Proofs.Ytieoingbinfdiaa
open Go.RowKit
set_option linter.unusedVariables false

theorem c_allows2 (w : World) (b : Nat) (ty : TypeId) (tail : List Value) (p : Nat) (addr table level wrong leaf acc : Int) (h : WK w b ty tail p addr table level wrong leaf) (h0 : 0 ≤ leaf) (h1 : leaf < 18446744073709551616) :
    Calls Try.prog 62 #[.pointer (some ⟨b, 0, none⟩), .int .i64 acc] w fun r w' => r = .returned (.bool (al leaf acc)) ∧ w' = w := by
  have c5 := h.c5
  clear h
  go_enter Try.func62, Try.ntmps62
  cases b80 : hs leaf 80
  · go_wp2_with (first
      | (go_at_call 56; (with_reducible refine (c_has80 leaf h0 h1 _ b80 _).mono ?_); rintro r w2 ⟨rfl, rfl⟩))
    go_ret
    exact ⟨ret_bool (by simp [al, b80]), rfl⟩
  · by_cases a1 : acc = 1
    · subst a1
      go_wp2_with (first
        | (go_at_call 56; (with_reducible refine (c_has80 leaf h0 h1 _ b80 _).mono ?_); rintro r w2 ⟨rfl, rfl⟩)
        | (go_at_call 56; (with_reducible refine (c_has8 leaf h0 h1 _ rfl _).mono ?_); rintro r w2 ⟨rfl, rfl⟩))
      go_ret
      exact ⟨ret_bool (by simp [al, b80]), rfl⟩
    · by_cases a2 : acc = 2
      · subst a2
        go_wp2_with (first
          | (go_at_call 56; (with_reducible refine (c_has80 leaf h0 h1 _ b80 _).mono ?_); rintro r w2 ⟨rfl, rfl⟩)
          | (go_at_call 56; (with_reducible refine (c_has2 leaf h0 h1 _ rfl _).mono ?_); rintro r w2 ⟨rfl, rfl⟩))
        go_ret
        exact ⟨ret_bool (by simp [al, b80]), rfl⟩
      · by_cases a3 : acc = 3
        · subst a3
          go_wp2_with (first
            | (go_at_call 56; (with_reducible refine (c_has80 leaf h0 h1 _ b80 _).mono ?_); rintro r w2 ⟨rfl, rfl⟩)
            | (go_at_call 56; (with_reducible refine (c_has132 leaf h0 h1 _ rfl _).mono ?_); rintro r w2 ⟨rfl, rfl⟩))
          go_ret
          exact ⟨ret_bool (by simp [al, b80]), rfl⟩
        · go_wp2_with (first
            | (go_at_call 56; (with_reducible refine (c_has80 leaf h0 h1 _ b80 _).mono ?_); rintro r w2 ⟨rfl, rfl⟩))
          go_ret
          exact ⟨ret_bool (by simp [al, a1, a2, a3]), rfl⟩
/-- what is read is a word, and the fault is one of three -/
def RdOk (R : Int → Int × Int) : Prop := ∀ a, (0 ≤ (R a).1 ∧ (R a).1 < 18446744073709551616) ∧ ((R a).2 = 0 ∨ (R a).2 = 2 ∨ (R a).2 = 3)
structure DOk (r : DR) (wrong : Int) : Prop where
  lev : r.level ≤ 2
  leaf0 : 0 ≤ r.leaf
  leaf1 : r.leaf < 18014398509481984
  tab0 : 0 ≤ r.table
  tab1 : r.table < 18446744073709551616
  flt : r.fault = 0 ∨ r.fault = wrong ∨ r.fault = 2 ∨ r.fault = 3
theorem D_ok {R : Int → Int × Int} (hR : RdOk R) (addr wrong : Int) : ∀ (k : Nat) (t : Int), k ≤ 2 → 0 ≤ t → t < 18446744073709551616 → DOk (D R addr wrong k t) wrong := by
  intro k
  induction k with
  | zero =>
    intro t hk t0 t1
    obtain ⟨⟨e0, e1⟩, hf⟩ := hR (atF addr 0 t)
    by_cases g1 : 4503599627370495 < t
    · rw [D_high g1]; exact ⟨hk, (show (0 : Int) ≤ 0 by decide), (show (0 : Int) < 18014398509481984 by decide), t0, t1, .inr (.inr (.inr rfl))⟩
    · have g1 : t ≤ 4503599627370495 := by omega
      by_cases g2 : (R (atF addr 0 t)).2 = 0
      · cases g3 : wr (R (atF addr 0 t)).1
        · cases g4 : lf (R (atF addr 0 t)).1
          · rw [D_end g1 g2 g3 g4]; exact ⟨hk, (show (0 : Int) ≤ 0 by decide), (show (0 : Int) < 18014398509481984 by decide), t0, t1, .inr (.inl rfl)⟩
          · by_cases g5 : num (R (atF addr 0 t)).1 % pw 0 = 0
            · rw [D_leaf g1 g2 g3 g4 g5]; exact ⟨hk, e0, wr_lt g3, t0, t1, .inl rfl⟩
            · rw [D_mis g1 g2 g3 g4 g5]; exact ⟨hk, (show (0 : Int) ≤ 0 by decide), (show (0 : Int) < 18014398509481984 by decide), t0, t1, .inr (.inl rfl)⟩
        · rw [D_wrong g1 g2 g3]; exact ⟨hk, (show (0 : Int) ≤ 0 by decide), (show (0 : Int) < 18014398509481984 by decide), t0, t1, .inr (.inl rfl)⟩
      · rw [D_fault g1 g2]; exact ⟨hk, (show (0 : Int) ≤ 0 by decide), (show (0 : Int) < 18014398509481984 by decide), t0, t1, by rcases hf with q | q | q; exact absurd q g2; exact .inr (.inr (.inl q)); exact .inr (.inr (.inr q))⟩
  | succ k ih =>
    intro t hk t0 t1
    obtain ⟨⟨e0, e1⟩, hf⟩ := hR (atF addr (k + 1) t)
    by_cases g1 : 4503599627370495 < t
    · rw [D_high g1]; exact ⟨hk, (show (0 : Int) ≤ 0 by decide), (show (0 : Int) < 18014398509481984 by decide), t0, t1, .inr (.inr (.inr rfl))⟩
    · have g1 : t ≤ 4503599627370495 := by omega
      by_cases g2 : (R (atF addr (k + 1) t)).2 = 0
      · cases g3 : wr (R (atF addr (k + 1) t)).1
        · cases g4 : lf (R (atF addr (k + 1) t)).1
          · rw [D_next g1 g2 g3 g4]
            have := wr_lt g3
            exact ih _ (by omega) (by unfold num; omega) (by unfold num; omega)
          · by_cases g5 : num (R (atF addr (k + 1) t)).1 % pw (k + 1) = 0
            · rw [D_leaf g1 g2 g3 g4 g5]; exact ⟨hk, e0, wr_lt g3, t0, t1, .inl rfl⟩
            · rw [D_mis g1 g2 g3 g4 g5]; exact ⟨hk, (show (0 : Int) ≤ 0 by decide), (show (0 : Int) < 18014398509481984 by decide), t0, t1, .inr (.inl rfl)⟩
        · rw [D_wrong g1 g2 g3]; exact ⟨hk, (show (0 : Int) ≤ 0 by decide), (show (0 : Int) < 18014398509481984 by decide), t0, t1, .inr (.inl rfl)⟩
      · rw [D_fault g1 g2]; exact ⟨hk, (show (0 : Int) ≤ 0 by decide), (show (0 : Int) < 18014398509481984 by decide), t0, t1, by rcases hf with q | q | q; exact absurd q g2; exact .inr (.inr (.inl q)); exact .inr (.inr (.inr q))⟩
theorem rdm_ok (n : Nat) (f : Nat → Int) (hf : ∀ j, 0 ≤ f j ∧ f j < 256) : RdOk (rdm n f) := by
  intro a
  unfold rdm
  split
  · have := nu_lt (fun j => f (a.toNat + j)) (fun j => hf _) 8
    exact ⟨⟨this.1, this.2⟩, .inl rfl⟩
  · exact ⟨⟨by decide, by decide⟩, .inr (.inr rfl)⟩
/-- what find says -/
def fd2 (r : DR) (acc : Int) : Int := if r.fault ≠ 0 then r.fault else if al r.leaf acc = true then 0 else 2
set_option maxRecDepth 100000 in
theorem c_find2 (w : World) (S : Nat → Prop) (p n : Nat) (f : Nat → Int) (hm : Mem w S p 0 n f) (b : Nat) (addr root acc : Int) (a0 : 0 ≤ addr) (a1 : addr < 549755813888) (s0 : 0 ≤ root) (s1 : root < 18446744073709551616)
    (h : WK w b 97 [] p addr root 0 2 0) :
    Calls Try.prog 51 #[.pointer (some ⟨b, 0, none⟩), .int .i64 acc] w fun r w' => r = .returned (.int .i64 (fd2 (D (rdm n f) addr 2 2 root) acc)) ∧
      WK w' b 97 [] p addr (D (rdm n f) addr 2 2 root).table (D (rdm n f) addr 2 2 root).level 2 (D (rdm n f) addr 2 2 root).leaf ∧ Only (· = b) w w' := by
  have c1 := h.c1
  have HM := hid hm
  have HW := hid h
  have hnS : ¬ S b := hm.typ h (by decide) (by decide) (by decide)
  have hRd := rdm_ok n f hm.byt
  have hq := D_ok hRd addr 2 2 root (by decide) s0 s1
  obtain ⟨r, hr⟩ : ∃ r, D (rdm n f) addr 2 2 root = r := ⟨_, rfl⟩
  have HR := hid hr
  rw [hr]
  rw [hr] at hq
  have HQ := hid hq
  have hd : addr / 549755813888 = 0 := by omega
  clear h hm hr hq
  go_enter Try.func51, Try.ntmps51
  go_wp2_with fail
  go_region_law (refine step_call rfl 54 (.tmp 20) (.tmp 24) _ _ rfl (.pointer (some ⟨b, 0, none⟩)) (.func (.func 61) #[.pointer (some ⟨b, 0, none⟩)] #[]) (by go_simp) (by go_simp) (Try.call54 _ _) (c_down2 w.drew b 97 [] p addr root 0 2 a0 (by omega) s0 s1 HW.out (rdm n f) (fun a => (hRd a).1) (fun w1 t k hw1 ho1 a q0 q1 => c_loadW w1 b 97 [] p addr t k 2 0 hw1 S n f (HM.out.only (T := (· = b)) ((Only.refl w).drew.trans ho1) (fun j hj q => hnS (q ▸ hj))) a q0 q1)) ?_; rintro e w1 ⟨rfl, hw1, ho1⟩; rw [HR.out] at hw1; rw [HR.out]; have HW1 := hid hw1; have HO1 : Hid (Only (· = b) w w1) := (Only.refl w).drew.trans ho1; have c4 := hw1.c4; clear hw1 ho1; refine ⟨_, rfl, ?_⟩)
  go_wp2_with (first
    | (go_at_call 62; refine (c_allows2 w1 b _ _ p _ _ _ _ _ acc HW1.out HQ.out.leaf0 (by have := HQ.out.leaf1; omega)).mono ?_; rintro e w2 ⟨rfl, hw2⟩; obtain rfl := hw2.symm))
  · go_ret
    have g := ‹(r.fault != 0) = true›
    exact ⟨ret_int (by unfold fd2; rw [if_pos (by simpa using g)]), HW1.out, HO1.out⟩
  · go_ret
    have g := ‹(r.fault != 0) = false›
    have g2 := ‹(!al r.leaf acc) = true›
    exact ⟨ret_int (by unfold fd2; rw [if_neg (by simpa using g), if_neg (by simpa using g2)]), HW1.out, HO1.out⟩
  · go_ret
    have g := ‹(r.fault != 0) = false›
    have g2 := ‹(!al r.leaf acc) = false›
    exact ⟨ret_int (by unfold fd2; rw [if_neg (by simpa using g), if_pos (by simpa using g2)]), HW1.out, HO1.out⟩
theorem c_find2_high (w : World) (p b : Nat) (addr root acc : Int) (a0 : 549755813888 ≤ addr) (a1 : addr < 18446744073709551616) (h : WK w b 97 [] p addr root 0 2 0) :
    Calls Try.prog 51 #[.pointer (some ⟨b, 0, none⟩), .int .i64 acc] w fun r w' => r = .returned (.int .i64 2) ∧ w' = w := by
  have c1 := h.c1
  have c4 := h.c4
  clear h
  have hd : (addr / 549755813888 != 0) = true := by simp; omega
  go_enter Try.func51, Try.ntmps51
  go_wp2
  go_ret
  exact ⟨rfl, rfl⟩
theorem c_newSecond (w : World) (p : Nat) (root gpa : Int) :
    Calls Try.prog 50 #[.pointer (some ⟨p, 0, none⟩), .int .u64 root, .int .u64 gpa] w fun r w' => r = .returned (.agg #[.pointer (some ⟨p, 0, none⟩), .int .u64 gpa, .int .u64 root, .int .i64 0, .int .i64 2, .int .u64 0]) ∧ Below w.heap.size w w' := by
  go_enter Try.func50, Try.ntmps50
  go_wp2
  go_returns
  exact ⟨rfl, (Below.refl _ _).alloc (Nat.le_refl _) _⟩
set_option maxRecDepth 100000 in
theorem c_Guest (w : World) (S : Nat → Prop) (p n : Nat) (f : Nat → Int) (hm : Mem w S p 0 n f) (root gpa acc : Int) (s0 : 0 ≤ root) (s1 : root < 18446744073709551616) (a0 : 0 ≤ gpa) (a1 : gpa < 18446744073709551616) (x y z : Int) (hg : gst (rdm n f) root gpa acc = (x, y, z)) :
    Calls Try.prog 43 #[.pointer (some ⟨p, 0, none⟩), .int .u64 root, .int .u64 gpa, .int .i64 acc] w fun r w' => r = .returned (.tuple #[.int .u64 x, .int .i64 y, .int .i64 z]) ∧ Below w.heap.size w w' := by
  have HM := hid hm
  have hRd := rdm_ok n f hm.byt
  clear hm
  unfold gst at hg
  go_enter Try.func43, Try.ntmps43
  by_cases h0 : root = 0
  · rw [if_pos h0] at hg
    cases hg
    go_wp2
    go_ret3
    exact ⟨rfl, Below.refl _ _⟩
  · rw [if_neg h0] at hg
    by_cases h1 : 549755813888 ≤ gpa
    · rw [if_pos h1] at hg
      cases hg
      go_wp2_with (first
        | (go_at_call 50; refine (c_newSecond _ p root gpa).mono ?_; rintro e w1 ⟨rfl, hb1⟩; have HB1 := hid hb1; clear hb1)
        | (go_at_call 51; refine (c_find2_high _ p _ gpa root acc h1 a1 (heap_alloc_new w1 _)).mono ?_; rintro e w2 ⟨rfl, hw2⟩; obtain rfl := hw2.symm))
      go_ret3
      exact ⟨rfl, HB1.out.alloc HB1.out.size _⟩
    · rw [if_neg h1] at hg
      have hq := D_ok hRd gpa 2 2 root (by decide) s0 s1
      obtain ⟨r, hr⟩ : ∃ r, D (rdm n f) gpa 2 2 root = r := ⟨_, rfl⟩
      rw [hr] at hg hq
      have HR := hid hr
      have HQ := hid hq
      have HG := hid hg
      have HF : Hid (fd2 r acc = z ∧ (z ≠ 0 → x = 0 ∧ y = 0) ∧ (z = 0 → x = plc r gpa ∧ y = pm r.leaf)) := by
        show _ ∧ _
        by_cases g1 : r.fault = 0
        · rw [if_neg (by rw [g1]; decide)] at hg
          cases g2 : al r.leaf acc
          · rw [g2, if_neg (by decide)] at hg
            cases hg
            exact ⟨by unfold fd2; rw [if_neg (by rw [g1]; decide), g2, if_neg (by decide)], fun _ => ⟨rfl, rfl⟩, fun q => absurd q (by decide)⟩
          · rw [g2, if_pos rfl] at hg
            cases hg
            exact ⟨by unfold fd2; rw [if_neg (by rw [g1]; decide), g2, if_pos rfl], fun q => absurd rfl q, fun _ => ⟨rfl, rfl⟩⟩
        · rw [if_pos g1] at hg
          cases hg
          exact ⟨by unfold fd2; rw [if_pos g1], fun _ => ⟨rfl, rfl⟩, fun q => absurd q g1⟩
      clear hr hq hg
      by_cases hz : z = 0
      · subst hz
        go_wp2_with (first
          | (go_at_call 50; refine (c_newSecond _ p root gpa).mono ?_; rintro e w1 ⟨rfl, hb1⟩; have HB1 := hid hb1; clear hb1)
          | (go_at_call 51; refine (c_find2 _ S p n f (Mem.below (Mem.below HM.out HB1.out) ((Below.refl _ _).alloc (Nat.le_refl _) _)) w1.heap.size gpa root acc a0 (by omega) s0 s1 (heap_alloc_new w1 _)).mono ?_; rintro e w2 ⟨rfl, hw2, ho2⟩; rw [HR.out] at hw2; rw [HR.out, HF.out.1]; have c5 := hw2.c5; have HW2 := hid hw2; have HO2 := hid ho2; clear hw2 ho2))
        go_quiet (first
          | (go_at_call 48; exact Calls.quiet_of (c_place4 _ _ _ _ p gpa _ _ _ _ HQ.out.lev (HW2.out.drewN _) HQ.out.leaf0 HQ.out.leaf1 a0 a1))
          | (go_at_call 52; exact Calls.quiet_of_same (c_perm r.leaf HQ.out.leaf0 (by have := HQ.out.leaf1; omega) _)))
        go_wp2
        go_ret3
        obtain ⟨rfl, rfl⟩ := HF.out.2.2 trivial
        exact ⟨rfl, (HB1.out.alloc HB1.out.size _).trans ((HO2.out.drewN _).below _ (by have := HB1.out.size; simp; omega) (by rintro k rfl; exact HB1.out.size))⟩
      · go_wp2_with (first
          | (go_at_call 50; refine (c_newSecond _ p root gpa).mono ?_; rintro e w1 ⟨rfl, hb1⟩; have HB1 := hid hb1; clear hb1)
          | (go_at_call 51; refine (c_find2 _ S p n f (Mem.below (Mem.below HM.out HB1.out) ((Below.refl _ _).alloc (Nat.le_refl _) _)) w1.heap.size gpa root acc a0 (by omega) s0 s1 (heap_alloc_new w1 _)).mono ?_; rintro e w2 ⟨rfl, hw2, ho2⟩; rw [HR.out, HF.out.1]; have HO2 := hid ho2; clear hw2 ho2))
        go_ret3
        obtain ⟨rfl, rfl⟩ := HF.out.2.1 hz
        exact ⟨rfl, (HB1.out.alloc HB1.out.size _).trans (HO2.out.below _ (by have := HB1.out.size; simp; omega) (by rintro k rfl; exact HB1.out.size))⟩
end Go.Proofs.Ytieoingbinfdiaa
