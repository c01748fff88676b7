/- Package page: the second stage. -/
import Derived.Test.YtekkjalfiogenaaCPC
import Derived.Handy
import Derived.Test.YtekkjalfiogenaaMC2
namespace Go.Proofs.Ytekkjalfiogenaa.C
open Go.RowKit
set_option linter.unusedVariables false
set_option maxRecDepth 100000

theorem c_allows2 (w : World) (b : Nat) (ty : TypeId) (tail : List Value) (p : Nat) (addr table level wrong leaf acc : Int) (h : WK w b ty tail p addr table level wrong leaf) (h0 : 0 ≤ leaf) (h1 : leaf < 18446744073709551616) :
    Calls Try.prog 113 #[.pointer (some ⟨b, 0, none⟩), .int .i64 acc] w fun r w' => r = .returned (.bool (al leaf acc)) ∧ w' = w := by
  have c5 := h.c5
  clear h
  go_enter Try.func113, Try.ntmps113
  cases b80 : hs leaf 80
  · go_wp2_with (first
      | (go_at_call 116; (with_reducible refine (c_has80 leaf h0 h1 _ b80 _).mono ?_); rintro r w2 ⟨rfl, rfl⟩))
    go_ret
    exact ⟨ret_bool (by simp [al, b80]), rfl⟩
  · by_cases a1 : acc = 1
    · subst a1
      go_wp2_with (first
        | (go_at_call 116; (with_reducible refine (c_has80 leaf h0 h1 _ b80 _).mono ?_); rintro r w2 ⟨rfl, rfl⟩)
        | (go_at_call 116; (with_reducible refine (c_has8 leaf h0 h1 _ rfl _).mono ?_); rintro r w2 ⟨rfl, rfl⟩))
      go_ret
      exact ⟨ret_bool (by simp [al, b80]), rfl⟩
    · by_cases a2 : acc = 2
      · subst a2
        go_wp2_with (first
          | (go_at_call 116; (with_reducible refine (c_has80 leaf h0 h1 _ b80 _).mono ?_); rintro r w2 ⟨rfl, rfl⟩)
          | (go_at_call 116; (with_reducible refine (c_has2 leaf h0 h1 _ rfl _).mono ?_); rintro r w2 ⟨rfl, rfl⟩))
        go_ret
        exact ⟨ret_bool (by simp [al, b80]), rfl⟩
      · by_cases a3 : acc = 3
        · subst a3
          go_wp2_with (first
            | (go_at_call 116; (with_reducible refine (c_has80 leaf h0 h1 _ b80 _).mono ?_); rintro r w2 ⟨rfl, rfl⟩)
            | (go_at_call 116; (with_reducible refine (c_has132 leaf h0 h1 _ rfl _).mono ?_); rintro r w2 ⟨rfl, rfl⟩))
          go_ret
          exact ⟨ret_bool (by simp [al, b80]), rfl⟩
        · go_wp2_with (first
            | (go_at_call 116; (with_reducible refine (c_has80 leaf h0 h1 _ b80 _).mono ?_); rintro r w2 ⟨rfl, rfl⟩))
          go_ret
          exact ⟨ret_bool (by simp [al, a1, a2, a3]), rfl⟩
/-- what is read is a word, and the fault is one of three -/
def RdOk (R : Int → Int × Int) : Prop := ∀ a, (0 ≤ (R a).1 ∧ (R a).1 < 18446744073709551616) ∧ ((R a).2 = 0 ∨ (R a).2 = 2 ∨ (R a).2 = 3)
structure DOk (r : DR) (wrong : Int) : Prop where
  lev : r.level ≤ 2
  leaf0 : 0 ≤ r.leaf
  leaf1 : r.leaf < 18014398509481984
  tab0 : 0 ≤ r.table
  tab1 : r.table < 18446744073709551616
  flt : r.fault = 0 ∨ r.fault = wrong ∨ r.fault = 2 ∨ r.fault = 3
theorem D_ok {R : Int → Int × Int} (hR : RdOk R) (addr wrong : Int) : ∀ (k : Nat) (t : Int), k ≤ 2 → 0 ≤ t → t < 18446744073709551616 → DOk (D R addr wrong k t) wrong := by
  intro k
  induction k with
  | zero =>
    intro t hk t0 t1
    obtain ⟨⟨e0, e1⟩, hf⟩ := hR (atF addr 0 t)
    by_cases g1 : 4503599627370495 < t
    · rw [D_high g1]; exact ⟨hk, (show (0 : Int) ≤ 0 by decide), (show (0 : Int) < 18014398509481984 by decide), t0, t1, .inr (.inr (.inr rfl))⟩
    · have g1 : t ≤ 4503599627370495 := by omega
      by_cases g2 : (R (atF addr 0 t)).2 = 0
      · cases g3 : wr (R (atF addr 0 t)).1
        · cases g4 : lf (R (atF addr 0 t)).1
          · rw [D_end g1 g2 g3 g4]; exact ⟨hk, (show (0 : Int) ≤ 0 by decide), (show (0 : Int) < 18014398509481984 by decide), t0, t1, .inr (.inl rfl)⟩
          · by_cases g5 : num (R (atF addr 0 t)).1 % pw 0 = 0
            · rw [D_leaf g1 g2 g3 g4 g5]; exact ⟨hk, e0, wr_lt g3, t0, t1, .inl rfl⟩
            · rw [D_mis g1 g2 g3 g4 g5]; exact ⟨hk, (show (0 : Int) ≤ 0 by decide), (show (0 : Int) < 18014398509481984 by decide), t0, t1, .inr (.inl rfl)⟩
        · rw [D_wrong g1 g2 g3]; exact ⟨hk, (show (0 : Int) ≤ 0 by decide), (show (0 : Int) < 18014398509481984 by decide), t0, t1, .inr (.inl rfl)⟩
      · rw [D_fault g1 g2]; exact ⟨hk, (show (0 : Int) ≤ 0 by decide), (show (0 : Int) < 18014398509481984 by decide), t0, t1, by rcases hf with q | q | q; exact absurd q g2; exact .inr (.inr (.inl q)); exact .inr (.inr (.inr q))⟩
  | succ k ih =>
    intro t hk t0 t1
    obtain ⟨⟨e0, e1⟩, hf⟩ := hR (atF addr (k + 1) t)
    by_cases g1 : 4503599627370495 < t
    · rw [D_high g1]; exact ⟨hk, (show (0 : Int) ≤ 0 by decide), (show (0 : Int) < 18014398509481984 by decide), t0, t1, .inr (.inr (.inr rfl))⟩
    · have g1 : t ≤ 4503599627370495 := by omega
      by_cases g2 : (R (atF addr (k + 1) t)).2 = 0
      · cases g3 : wr (R (atF addr (k + 1) t)).1
        · cases g4 : lf (R (atF addr (k + 1) t)).1
          · rw [D_next g1 g2 g3 g4]
            have := wr_lt g3
            exact ih _ (by omega) (by unfold num; omega) (by unfold num; omega)
          · by_cases g5 : num (R (atF addr (k + 1) t)).1 % pw (k + 1) = 0
            · rw [D_leaf g1 g2 g3 g4 g5]; exact ⟨hk, e0, wr_lt g3, t0, t1, .inl rfl⟩
            · rw [D_mis g1 g2 g3 g4 g5]; exact ⟨hk, (show (0 : Int) ≤ 0 by decide), (show (0 : Int) < 18014398509481984 by decide), t0, t1, .inr (.inl rfl)⟩
        · rw [D_wrong g1 g2 g3]; exact ⟨hk, (show (0 : Int) ≤ 0 by decide), (show (0 : Int) < 18014398509481984 by decide), t0, t1, .inr (.inl rfl)⟩
      · rw [D_fault g1 g2]; exact ⟨hk, (show (0 : Int) ≤ 0 by decide), (show (0 : Int) < 18014398509481984 by decide), t0, t1, by rcases hf with q | q | q; exact absurd q g2; exact .inr (.inr (.inl q)); exact .inr (.inr (.inr q))⟩
theorem rdm_ok (n : Nat) (f : Nat → Int) (hf : ∀ j, 0 ≤ f j ∧ f j < 256) : RdOk (rdm n f) := by
  intro a
  unfold rdm
  split
  · have := nu_lt (fun j => f (a.toNat + j)) (fun j => hf _) 8
    exact ⟨⟨this.1, this.2⟩, .inl rfl⟩
  · exact ⟨⟨by decide, by decide⟩, .inr (.inr rfl)⟩
/-- what find says -/
def fd2 (r : DR) (acc : Int) : Int := if r.fault ≠ 0 then r.fault else if al r.leaf acc = true then 0 else 2
set_option maxRecDepth 100000 in
theorem c_find2 (w : World) (S : Nat → Prop) (p n : Nat) (f : Nat → Int) (hm : Mem w S p 0 n f) (b : Nat) (addr root acc : Int) (a0 : 0 ≤ addr) (a1 : addr < 549755813888) (s0 : 0 ≤ root) (s1 : root < 18446744073709551616)
    (h : WK w b 171 [] p addr root 0 2 0) :
    Calls Try.prog 101 #[.pointer (some ⟨b, 0, none⟩), .int .i64 acc] w fun r w' => r = .returned (.int .i64 (fd2 (D (rdm n f) addr 2 2 root) acc)) ∧
      WK w' b 171 [] p addr (D (rdm n f) addr 2 2 root).table (D (rdm n f) addr 2 2 root).level 2 (D (rdm n f) addr 2 2 root).leaf ∧ Only (· = b) w w' := by
  have c1 := h.c1
  have HM := hid hm
  have HW := hid h
  have hnS : ¬ S b := hm.typ h (by decide) (by decide) (by decide)
  have hRd := rdm_ok n f hm.byt
  have hq := D_ok hRd addr 2 2 root (by decide) s0 s1
  obtain ⟨r, hr⟩ : ∃ r, D (rdm n f) addr 2 2 root = r := ⟨_, rfl⟩
  have HR := hid hr
  rw [hr]
  rw [hr] at hq
  have HQ := hid hq
  have hd : addr / 549755813888 = 0 := by omega
  clear h hm hr hq
  go_enter Try.func101, Try.ntmps101
  go_wp2_with fail
  go_region_law (refine step_call rfl 111 (.tmp 20) (.tmp 24) _ _ rfl (.pointer (some ⟨b, 0, none⟩)) (.func (.func 112) #[.pointer (some ⟨b, 0, none⟩)] #[]) (by go_simp) (by go_simp) (Try.call111 _ _) (c_down2 w.drew b 171 [] p addr root 0 2 a0 (by omega) s0 s1 HW.out (rdm n f) (fun a => (hRd a).1) (fun w1 t k hw1 ho1 a q0 q1 => c_loadW w1 b 171 [] p addr t k 2 0 hw1 S n f (HM.out.only (T := (· = b)) ((Only.refl w).drew.trans ho1) (fun j hj q => hnS (q ▸ hj))) a q0 q1)) ?_; rintro e w1 ⟨rfl, hw1, ho1⟩; rw [HR.out] at hw1; rw [HR.out]; have HW1 := hid hw1; have HO1 : Hid (Only (· = b) w w1) := (Only.refl w).drew.trans ho1; have c4 := hw1.c4; clear hw1 ho1; refine ⟨_, rfl, ?_⟩)
  go_wp2_with (first
    | (go_at_call 113; refine (c_allows2 w1 b _ _ p _ _ _ _ _ acc HW1.out HQ.out.leaf0 (by have := HQ.out.leaf1; omega)).mono ?_; rintro e w2 ⟨rfl, hw2⟩; obtain rfl := hw2.symm))
  · go_ret
    have g := ‹(r.fault != 0) = true›
    exact ⟨ret_int (by unfold fd2; rw [if_pos (by simpa using g)]), HW1.out, HO1.out⟩
  · go_ret
    have g := ‹(r.fault != 0) = false›
    have g2 := ‹(!al r.leaf acc) = true›
    exact ⟨ret_int (by unfold fd2; rw [if_neg (by simpa using g), if_neg (by simpa using g2)]), HW1.out, HO1.out⟩
  · go_ret
    have g := ‹(r.fault != 0) = false›
    have g2 := ‹(!al r.leaf acc) = false›
    exact ⟨ret_int (by unfold fd2; rw [if_neg (by simpa using g), if_pos (by simpa using g2)]), HW1.out, HO1.out⟩
theorem c_find2_high (w : World) (p b : Nat) (addr root acc : Int) (a0 : 549755813888 ≤ addr) (a1 : addr < 18446744073709551616) (h : WK w b 171 [] p addr root 0 2 0) :
    Calls Try.prog 101 #[.pointer (some ⟨b, 0, none⟩), .int .i64 acc] w fun r w' => r = .returned (.int .i64 2) ∧ w' = w := by
  have c1 := h.c1
  have c4 := h.c4
  clear h
  have hd : (addr / 549755813888 != 0) = true := by simp; omega
  go_enter Try.func101, Try.ntmps101
  go_wp2
  go_ret
  exact ⟨rfl, rfl⟩
theorem c_newSecond (w : World) (p : Nat) (root gpa : Int) :
    Calls Try.prog 100 #[.pointer (some ⟨p, 0, none⟩), .int .u64 root, .int .u64 gpa] w fun r w' => r = .returned (.agg #[.pointer (some ⟨p, 0, none⟩), .int .u64 gpa, .int .u64 root, .int .i64 0, .int .i64 2, .int .u64 0]) ∧ Below w.heap.size w w' := by
  go_enter Try.func100, Try.ntmps100
  go_wp2
  go_returns
  exact ⟨rfl, (Below.refl _ _).alloc (Nat.le_refl _) _⟩
set_option maxRecDepth 100000 in
theorem c_Second (w : World) (S : Nat → Prop) (p n : Nat) (f : Nat → Int) (hm : Mem w S p 0 n f) (root gpa acc : Int) (s0 : 0 ≤ root) (s1 : root < 18446744073709551616) (a0 : 0 ≤ gpa) (a1 : gpa < 18446744073709551616) (h0 : ¬ root = 0) (x y z : Int) (hg : gst (rdm n f) root gpa acc = (x, y, z)) :
    Calls Try.prog 72 #[.pointer (some ⟨p, 0, none⟩), .int .u64 root, .int .u64 gpa, .int .i64 acc] w fun r w' => r = .returned (.tuple #[.int .u64 x, .int .i64 y, .int .i64 z]) ∧ Below w.heap.size w w' := by
  have HM := hid hm
  have hRd := rdm_ok n f hm.byt
  clear hm
  unfold gst at hg
  go_enter Try.func72, Try.ntmps72
  rw [if_neg h0] at hg
  by_cases h1 : 549755813888 ≤ gpa
  · rw [if_pos h1] at hg
    cases hg
    go_wp2_with (first
      | (go_at_call 100; refine (c_newSecond _ p root gpa).mono ?_; rintro e w1 ⟨rfl, hb1⟩; have HB1 := hid hb1; clear hb1)
      | (go_at_call 101; refine (c_find2_high _ p _ gpa root acc h1 a1 (heap_alloc_new w1 _)).mono ?_; rintro e w2 ⟨rfl, hw2⟩; obtain rfl := hw2.symm))
    go_ret3
    exact ⟨rfl, HB1.out.alloc HB1.out.size _⟩
  · rw [if_neg h1] at hg
    have hq := D_ok hRd gpa 2 2 root (by decide) s0 s1
    obtain ⟨r, hr⟩ : ∃ r, D (rdm n f) gpa 2 2 root = r := ⟨_, rfl⟩
    rw [hr] at hg hq
    have HR := hid hr
    have HQ := hid hq
    have HG := hid hg
    have HF : Hid (fd2 r acc = z ∧ (z ≠ 0 → x = 0 ∧ y = 0) ∧ (z = 0 → x = plc r gpa ∧ y = pm r.leaf)) := by
      show _ ∧ _
      by_cases g1 : r.fault = 0
      · rw [if_neg (by rw [g1]; decide)] at hg
        cases g2 : al r.leaf acc
        · rw [g2, if_neg (by decide)] at hg
          cases hg
          exact ⟨by unfold fd2; rw [if_neg (by rw [g1]; decide), g2, if_neg (by decide)], fun _ => ⟨rfl, rfl⟩, fun q => absurd q (by decide)⟩
        · rw [g2, if_pos rfl] at hg
          cases hg
          exact ⟨by unfold fd2; rw [if_neg (by rw [g1]; decide), g2, if_pos rfl], fun q => absurd rfl q, fun _ => ⟨rfl, rfl⟩⟩
      · rw [if_pos g1] at hg
        cases hg
        exact ⟨by unfold fd2; rw [if_pos g1], fun _ => ⟨rfl, rfl⟩, fun q => absurd q g1⟩
    clear hr hq hg
    by_cases hz : z = 0
    · subst hz
      go_wp2_with (first
        | (go_at_call 100; refine (c_newSecond _ p root gpa).mono ?_; rintro e w1 ⟨rfl, hb1⟩; have HB1 := hid hb1; clear hb1)
        | (go_at_call 101; refine (c_find2 _ S p n f (Mem.below (Mem.below HM.out HB1.out) ((Below.refl _ _).alloc (Nat.le_refl _) _)) w1.heap.size gpa root acc a0 (by omega) s0 s1 (heap_alloc_new w1 _)).mono ?_; rintro e w2 ⟨rfl, hw2, ho2⟩; rw [HR.out] at hw2; rw [HR.out, HF.out.1]; have c5 := hw2.c5; have HW2 := hid hw2; have HO2 := hid ho2; clear hw2 ho2))
      go_quiet (first
        | (go_at_call 102; exact Calls.quiet_of (c_place4 _ _ _ _ p gpa _ _ _ _ HQ.out.lev (HW2.out.drewN _) HQ.out.leaf0 HQ.out.leaf1 a0 a1))
        | (go_at_call 103; exact Calls.quiet_of_same (c_perm r.leaf HQ.out.leaf0 (by have := HQ.out.leaf1; omega) _)))
      go_wp2
      go_ret3
      obtain ⟨rfl, rfl⟩ := HF.out.2.2 trivial
      exact ⟨rfl, (HB1.out.alloc HB1.out.size _).trans ((HO2.out.drewN _).below _ (by have := HB1.out.size; simp; omega) (by rintro k rfl; exact HB1.out.size))⟩
    · go_wp2_with (first
        | (go_at_call 100; refine (c_newSecond _ p root gpa).mono ?_; rintro e w1 ⟨rfl, hb1⟩; have HB1 := hid hb1; clear hb1)
        | (go_at_call 101; refine (c_find2 _ S p n f (Mem.below (Mem.below HM.out HB1.out) ((Below.refl _ _).alloc (Nat.le_refl _) _)) w1.heap.size gpa root acc a0 (by omega) s0 s1 (heap_alloc_new w1 _)).mono ?_; rintro e w2 ⟨rfl, hw2, ho2⟩; rw [HR.out, HF.out.1]; have HO2 := hid ho2; clear hw2 ho2))
      go_ret3
      obtain ⟨rfl, rfl⟩ := HF.out.2.1 hz
      exact ⟨rfl, (HB1.out.alloc HB1.out.size _).trans (HO2.out.below _ (by have := HB1.out.size; simp; omega) (by rintro k rfl; exact HB1.out.size))⟩
theorem c_Guest (w : World) (S : Nat → Prop) (p n : Nat) (f : Nat → Int) (hm : Mem w S p 0 n f) (root gpa acc : Int) (s0 : 0 ≤ root) (s1 : root < 18446744073709551616) (a0 : 0 ≤ gpa) (a1 : gpa < 18446744073709551616) (x y z : Int) (hg : gst (rdm n f) root gpa acc = (x, y, z)) :
    Calls Try.prog 23 #[.pointer (some ⟨p, 0, none⟩), .int .u64 root, .int .u64 gpa, .int .i64 acc] w fun r w' => r = .returned (.tuple #[.int .u64 x, .int .i64 y, .int .i64 z]) ∧ Below w.heap.size w w' := by
  have HM := hid hm
  clear hm
  go_enter Try.func23, Try.ntmps23
  by_cases h0 : root = 0
  · unfold gst at hg
    rw [if_pos h0] at hg
    cases hg
    go_wp2
    go_ret3
    exact ⟨rfl, Below.refl _ _⟩
  · have HG := hid hg
    clear hg
    go_wp2_with (first
      | (go_at_call 72; refine (c_Second _ S p n f HM.out root gpa acc s0 s1 a0 a1 h0 x y z HG.out).mono ?_; rintro e w1 ⟨rfl, hb1⟩; have HB1 := hid hb1; clear hb1))
    go_ret3
    exact ⟨rfl, HB1.out⟩
end Go.Proofs.Ytekkjalfiogenaa.C
namespace Go.Proofs.Ytekkjalfiogenaa.C
open Go.RowKit
set_option linter.unusedVariables false
set_option maxRecDepth 100000

/-- both hold F; U: their blocks -/
def Tw (w : World) (U : Nat → Prop) (p q n : Nat) (F : Nat → Int) : Prop :=
  ∃ S T, Mem w S p 0 n F ∧ RMem w T q 0 n F ∧ (∀ k, U k ↔ S k ∨ T k) ∧ ∀ k, S k → ¬ T k
theorem Tw.lt {w : World} {U : Nat → Prop} {p q n : Nat} {F : Nat → Int} (h : Tw w U p q n F) {k : Nat} (hk : U k) : k < w.heap.size := by
  obtain ⟨S, T, h1, h2, h3, h4⟩ := h
  rcases (h3 k).1 hk with q | q
  · exact h1.lt q
  · exact h2.lt q
theorem Tw.only {w w' : World} {U : Nat → Prop} {p q n : Nat} {F : Nat → Int} (h : Tw w U p q n F) {V : Nat → Prop} (ho : Only V w w') (hd : ∀ k, U k → ¬ V k) : Tw w' U p q n F := by
  obtain ⟨S, T, h1, h2, h3, h4⟩ := h
  exact ⟨S, T, h1.only ho fun k hk => hd k ((h3 k).2 (.inl hk)), h2.only ho fun k hk => hd k ((h3 k).2 (.inr hk)), h3, h4⟩
theorem Tw.below {w w' : World} {U : Nat → Prop} {p q n : Nat} {F : Nat → Int} (h : Tw w U p q n F) (hb : Below w.heap.size w w') : Tw w' U p q n F :=
  h.only (V := fun _ => False) (.ofBelow hb) fun _ _ q => q
theorem Tw.byt {w : World} {U : Nat → Prop} {p q n : Nat} {F : Nat → Int} (h : Tw w U p q n F) (j : Nat) : 0 ≤ F j ∧ F j < 256 := by
  obtain ⟨S, T, h1, _⟩ := h
  exact h1.byt j
theorem Tw.nums {w : World} {U : Nat → Prop} {p q n : Nat} {F : Nat → Int} (h : Tw w U p q n F) : 0 < n ∧ n ≤ 1024 := by
  obtain ⟨S, T, h1, _⟩ := h
  exact h1.nums.2.2
theorem c_TwoWrite (w : World) (U : Nat → Prop) (p q n : Nat) (F : Nat → Int) (h : Tw w U p q n F) (off : Nat) (hl : off + 8 ≤ 4096 * n) (v : Int) (v0 : 0 ≤ v) (v1 : v < 18446744073709551616) (a : Int) (ha : a = off) :
    Calls Try.prog 75 #[.agg #[.pointer (some ⟨p, 0, none⟩), .pointer (some ⟨q, 0, none⟩)], .int .u64 a, .int .i64 8, .int .u64 v] w fun r w' => r = .returned (.tuple #[]) ∧ ∃ U', Tw w' U' p q n (put F off 8 (byt v)) ∧ Only U w w' ∧ ∀ k, U' k → U k ∨ w.heap.size ≤ k := by
  subst ha
  obtain ⟨S, T, h1, h2, h3, h5⟩ := h
  have H1 := hid h1
  have H2 := hid h2
  have H3 := hid h3
  have H5 := hid h5
  clear h1 h2 h3 h5
  have hns : ¬ S w.heap.size := fun q => Nat.lt_irrefl _ (Mem.lt H1.out q)
  obtain ⟨wa, hwa⟩ : ∃ wa, wa = w.alloc (.cells #[.pointer (some ⟨p, 0, none⟩), .pointer (some ⟨q, 0, none⟩)] 31) := ⟨_, rfl⟩
  have HA : Hid (Below w.heap.size w wa) := by rw [hwa]; exact (Below.refl _ _).alloc (Nat.le_refl _) _
  have HWA := hid hwa
  have HC : Hid (wa.heap[w.heap.size]? = some (.cells #[.pointer (some ⟨p, 0, none⟩), .pointer (some ⟨q, 0, none⟩)] 31 (0, 0))) := by rw [hwa]; exact heap_alloc_new w _
  clear hwa
  go_enter Try.func75, Try.ntmps75
  go_wp2_with (first
    | (go_at_call 65; rw [← HWA.out]; refine (c_Write wa S p 0 n F (Mem.below H1.out HA.out) off 8 hl (by decide) _ (by omega) v v0 v1).mono ?_; rintro e w1 ⟨S', rfl, hm1, ho1, hS1⟩; have HM1 := hid hm1; have HO1 := hid ho1; have HS1 := hid hS1; have HC1 := hid (ho1.old HC.out hns); have k0 : w1.cell? ⟨w.heap.size, 0, none⟩ = some (.pointer (some ⟨p, 0, none⟩)) := (by rw [cell_of_row w1 _ 0 _ _ _ HC1.out]; rfl); have k1 : w1.cell? ⟨w.heap.size, 1, none⟩ = some (.pointer (some ⟨q, 0, none⟩)) := (by rw [cell_of_row w1 _ 1 _ _ _ HC1.out]; rfl); clear hm1 ho1 hS1)
    | (go_at_call 84; refine (q_Write w1 T q 0 n F (RMem.only (RMem.below H2.out HA.out) HO1.out (fun k hk hs => H5.out k hs hk)) off 8 hl (by decide) _ (by omega) v v0 v1).mono ?_; rintro e w2 ⟨T', rfl, hm2, ho2, hT2⟩; have HM2 := hid hm2; have HO2 := hid ho2; have HT2 := hid hT2; clear hm2 ho2 hT2))
  go_returns
  have q1 := HA.out.size
  have q2 := HO1.out.size
  have q3 : ∀ k, T k → k < w.heap.size := fun k hk => RMem.lt H2.out hk
  have q4 : ∀ k, S' k → k < w1.heap.size := fun k hk => Mem.lt HM1.out hk
  refine ⟨rfl, fun k => S' k ∨ T' k, ⟨S', T', Mem.only HM1.out HO2.out (fun k hk ht => ?_), HM2.out, fun k => Iff.rfl, fun k hk ht => ?_⟩, ?_, fun k hk => ?_⟩
  · rcases HS1.out k hk with z | z
    · exact H5.out k z ht
    · have := q3 k ht; omega
  · have := q4 k hk
    rcases HT2.out k ht with z | z
    · rcases HS1.out k hk with y | y
      · exact H5.out k y z
      · have := q3 k z; omega
    · omega
  · exact (Only.ofBelow HA.out).trans ((HO1.out.mono fun k _ z => (H3.out k).2 (.inl z)).trans (HO2.out.mono fun k _ z => (H3.out k).2 (.inr z)))
  · rcases hk with hk | hk
    · rcases HS1.out k hk with z | z
      · exact .inl ((H3.out k).2 (.inl z))
      · exact .inr (by omega)
    · rcases HT2.out k hk with z | z
      · exact .inl ((H3.out k).2 (.inr z))
      · exact .inr (by omega)
/-- cells, as they stand -/
structure Cl (w : World) (ad : Option Addr) (la cap ab ao : Nat) (X : Nat → Int × Int) : Prop where
  len : la ≤ cap
  cap : cap ≤ 9223372036854775807
  at0 : 0 < la → ad = some ⟨ab, ao, none⟩ ∧ ab < w.heap.size
  cell : ∀ i, i < la → w.cell? ⟨ab, ao + i * 2, none⟩ = some (.int .i64 (X i).1) ∧ w.cell? ⟨ab, ao + i * 2 + 1, none⟩ = some (.int .u64 (X i).2)
  num : ∀ i, i < la → (-9223372036854775808 ≤ (X i).1 ∧ (X i).1 ≤ 9223372036854775807) ∧ 0 ≤ (X i).2 ∧ (X i).2 < 18446744073709551616
theorem Cl.below {w w' : World} {ad : Option Addr} {la cap ab ao : Nat} {X : Nat → Int × Int} (h : Cl w ad la cap ab ao X) (hb : Below w.heap.size w w') : Cl w' ad la cap ab ao X :=
  ⟨h.len, h.cap, fun q => ⟨(h.at0 q).1, Nat.lt_of_lt_of_le (h.at0 q).2 hb.size⟩, fun i hi => by
    have hlt := (h.at0 (by omega)).2
    have e : ∀ o, w'.cell? ⟨ab, o, none⟩ = w.cell? ⟨ab, o, none⟩ := fun o => World.cell?_of_block (w := w) (hb.block _ hlt)
    rw [e, e]; exact h.cell i hi, h.num⟩
/-- the bytes behind k cells -/
def fcl (n : Nat) (X : Nat → Int × Int) : Nat → Nat → Int
  | 0 => fun _ => 0
  | k + 1 => put (fcl n X k) (8 * ((X k).1 % (512 * n)).toNat) 8 (byt (X k).2)
theorem step_call4 {P : Program} {ops : Array Oper} {o : Oper} {a : Act} {w : World} {K : Act → World → Prop} {Q : Exit → Act → World → Prop} {E : Prop} (hgd : o.guard = none) (f : FuncId) (x y z u : Operand) (ts : Array TypeId)
    (ho : o.op = .call { callee := .value (.func f), args := #[x, y, z, u], argTypes := ts }) (vx vy vz vu : Value) (hx : a.eval x = vx) (hy : a.eval y = vy) (hz : a.eval z = vz) (hu : a.eval u = vu) (hnf : (callFunc f #[vx, vy, vz, vu]).run P w = .ok (.enter f #[vx, vy, vz, vu]) w) {R : Ending → World → Prop} (hc : Calls P f #[vx, vy, vz, vu] w R)
    (h : ∀ e w', R e w' → ∃ v, e = .returned v ∧ K (a.put o.dst v) w') :
    if Region.wanted o (yielded ops a.tmps) = true then Oper.wp P o a w K Q else E := by
  have hw : Region.wanted o (yielded ops a.tmps) = true := by simp [Region.wanted, hgd]
  rw [if_pos hw]
  have he : (execOp a.eval o).run P w = .ok (.enter f #[vx, vy, vz, vu]) w := by
    have hf : a.eval (.func f) = .func (.func f) #[] #[] := rfl
    simp [execOp, ho, resolve, invoke, Deferred.ofValue, hf, hx, hy, hz, hu, hnf]
  unfold Oper.wp
  rw [he, Oper.upon_enter]
  refine hc.mono fun e w' hR => ?_
  obtain ⟨v, rfl, hk⟩ := h e w' hR
  exact hk
end Go.Proofs.Ytekkjalfiogenaa.C
