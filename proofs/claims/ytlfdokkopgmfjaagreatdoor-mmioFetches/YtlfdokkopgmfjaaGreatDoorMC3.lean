/- Package page: the second stage. -/
import Derived.Test.YtlfdokkopgmfjaaGreatDoorCPC
import Derived.Handy
import Derived.Test.YtlfdokkopgmfjaaGreatDoorMC2
import Derived.Laws.Cover3
namespace Go.Proofs.YtlfdokkopgmfjaaGreatDoor.C
open Go.RowKit
set_option linter.unusedVariables false
set_option maxRecDepth 100000
theorem c_allows2 (w : World) (b : Nat) (ty : TypeId) (tail : List Value) (p : Nat) (addr table level wrong leaf acc : Int) (h : WK w b ty tail p addr table level wrong leaf) (h0 : 0 ≤ leaf) (h1 : leaf < 18446744073709551616) :
    Calls Tryz.prog 184 #[.pointer (some ⟨b, 0, none⟩), .int .i64 acc] w fun r w' => r = .returned (.bool (al leaf acc)) ∧ w' = w := by
  have c5 := h.c5
  clear h
  go_enter Tryz.func184, Tryz.ntmps184
  cases b80 : hs leaf 80
  · go_wp2_with (first
      | (go_at_call 178; (with_reducible refine (c_has80 leaf h0 h1 _ b80 _).mono ?_); rintro r w2 ⟨rfl, rfl⟩))
    go_ret
    exact ⟨ret_bool (by simp [al, b80]), rfl⟩
  · by_cases a1 : acc = 1
    · subst a1
      go_wp2_with (first
        | (go_at_call 178; (with_reducible refine (c_has80 leaf h0 h1 _ b80 _).mono ?_); rintro r w2 ⟨rfl, rfl⟩)
        | (go_at_call 178; (with_reducible refine (c_has8 leaf h0 h1 _ rfl _).mono ?_); rintro r w2 ⟨rfl, rfl⟩))
      go_ret
      exact ⟨ret_bool (by simp [al, b80]), rfl⟩
    · by_cases a2 : acc = 2
      · subst a2
        go_wp2_with (first
          | (go_at_call 178; (with_reducible refine (c_has80 leaf h0 h1 _ b80 _).mono ?_); rintro r w2 ⟨rfl, rfl⟩)
          | (go_at_call 178; (with_reducible refine (c_has2 leaf h0 h1 _ rfl _).mono ?_); rintro r w2 ⟨rfl, rfl⟩))
        go_ret
        exact ⟨ret_bool (by simp [al, b80]), rfl⟩
      · by_cases a3 : acc = 3
        · subst a3
          go_wp2_with (first
            | (go_at_call 178; (with_reducible refine (c_has80 leaf h0 h1 _ b80 _).mono ?_); rintro r w2 ⟨rfl, rfl⟩)
            | (go_at_call 178; (with_reducible refine (c_has132 leaf h0 h1 _ rfl _).mono ?_); rintro r w2 ⟨rfl, rfl⟩))
          go_ret
          exact ⟨ret_bool (by simp [al, b80]), rfl⟩
        · go_wp2_with (first
            | (go_at_call 178; (with_reducible refine (c_has80 leaf h0 h1 _ b80 _).mono ?_); rintro r w2 ⟨rfl, rfl⟩))
          go_ret
          exact ⟨ret_bool (by simp [al, a1, a2, a3]), rfl⟩
/-- what is read is a word, and the fault is one of three -/
def RdOk (R : Int → Int × Int) : Prop := ∀ a, (0 ≤ (R a).1 ∧ (R a).1 < 18446744073709551616) ∧ ((R a).2 = 0 ∨ (R a).2 = 2 ∨ (R a).2 = 3)
structure DOk (r : DR) (wrong : Int) : Prop where
  lev : r.level ≤ 2
  leaf0 : 0 ≤ r.leaf
  leaf1 : r.leaf < 18014398509481984
  tab0 : 0 ≤ r.table
  tab1 : r.table < 18446744073709551616
  flt : r.fault = 0 ∨ r.fault = wrong ∨ r.fault = 2 ∨ r.fault = 3
theorem D_ok {R : Int → Int × Int} (hR : RdOk R) (addr wrong : Int) : ∀ (k : Nat) (t : Int), k ≤ 2 → 0 ≤ t → t < 18446744073709551616 → DOk (D R addr wrong k t) wrong := by
  intro k
  induction k with
  | zero =>
    intro t hk t0 t1
    obtain ⟨⟨e0, e1⟩, hf⟩ := hR (atF addr 0 t)
    by_cases g1 : 4503599627370495 < t
    · rw [D_high g1]; exact ⟨hk, (show (0 : Int) ≤ 0 by decide), (show (0 : Int) < 18014398509481984 by decide), t0, t1, .inr (.inr (.inr rfl))⟩
    · have g1 : t ≤ 4503599627370495 := by omega
      by_cases g2 : (R (atF addr 0 t)).2 = 0
      · cases g3 : wr (R (atF addr 0 t)).1
        · cases g4 : lf (R (atF addr 0 t)).1
          · rw [D_end g1 g2 g3 g4]; exact ⟨hk, (show (0 : Int) ≤ 0 by decide), (show (0 : Int) < 18014398509481984 by decide), t0, t1, .inr (.inl rfl)⟩
          · by_cases g5 : num (R (atF addr 0 t)).1 % pw 0 = 0
            · rw [D_leaf g1 g2 g3 g4 g5]; exact ⟨hk, e0, wr_lt g3, t0, t1, .inl rfl⟩
            · rw [D_mis g1 g2 g3 g4 g5]; exact ⟨hk, (show (0 : Int) ≤ 0 by decide), (show (0 : Int) < 18014398509481984 by decide), t0, t1, .inr (.inl rfl)⟩
        · rw [D_wrong g1 g2 g3]; exact ⟨hk, (show (0 : Int) ≤ 0 by decide), (show (0 : Int) < 18014398509481984 by decide), t0, t1, .inr (.inl rfl)⟩
      · rw [D_fault g1 g2]; exact ⟨hk, (show (0 : Int) ≤ 0 by decide), (show (0 : Int) < 18014398509481984 by decide), t0, t1, by rcases hf with q | q | q; exact absurd q g2; exact .inr (.inr (.inl q)); exact .inr (.inr (.inr q))⟩
  | succ k ih =>
    intro t hk t0 t1
    obtain ⟨⟨e0, e1⟩, hf⟩ := hR (atF addr (k + 1) t)
    by_cases g1 : 4503599627370495 < t
    · rw [D_high g1]; exact ⟨hk, (show (0 : Int) ≤ 0 by decide), (show (0 : Int) < 18014398509481984 by decide), t0, t1, .inr (.inr (.inr rfl))⟩
    · have g1 : t ≤ 4503599627370495 := by omega
      by_cases g2 : (R (atF addr (k + 1) t)).2 = 0
      · cases g3 : wr (R (atF addr (k + 1) t)).1
        · cases g4 : lf (R (atF addr (k + 1) t)).1
          · rw [D_next g1 g2 g3 g4]
            have := wr_lt g3
            exact ih _ (by omega) (by unfold num; omega) (by unfold num; omega)
          · by_cases g5 : num (R (atF addr (k + 1) t)).1 % pw (k + 1) = 0
            · rw [D_leaf g1 g2 g3 g4 g5]; exact ⟨hk, e0, wr_lt g3, t0, t1, .inl rfl⟩
            · rw [D_mis g1 g2 g3 g4 g5]; exact ⟨hk, (show (0 : Int) ≤ 0 by decide), (show (0 : Int) < 18014398509481984 by decide), t0, t1, .inr (.inl rfl)⟩
        · rw [D_wrong g1 g2 g3]; exact ⟨hk, (show (0 : Int) ≤ 0 by decide), (show (0 : Int) < 18014398509481984 by decide), t0, t1, .inr (.inl rfl)⟩
      · rw [D_fault g1 g2]; exact ⟨hk, (show (0 : Int) ≤ 0 by decide), (show (0 : Int) < 18014398509481984 by decide), t0, t1, by rcases hf with q | q | q; exact absurd q g2; exact .inr (.inr (.inl q)); exact .inr (.inr (.inr q))⟩
theorem rdm_ok (n : Nat) {bs : Int} (f : Nat → Int) (hf : ∀ j, 0 ≤ f j ∧ f j < 256) : RdOk (rdm bs n f) := by
  intro a
  unfold rdm
  split
  · have := nu_lt (fun j => f ((a - bs).toNat + j)) (fun j => hf _) 8
    exact ⟨⟨this.1, this.2⟩, .inl rfl⟩
  · exact ⟨⟨by decide, by decide⟩, .inr (.inr rfl)⟩
/-- what find says -/
def fd2 (r : DR) (acc : Int) : Int := if r.fault ≠ 0 then r.fault else if al r.leaf acc = true then 0 else 2
theorem c_find2 (w : World) (S : Nat → Prop) (p n : Nat) {bs : Int} (f : Nat → Int) (hm : Mem w S p bs n f) (b : Nat) (addr root acc : Int) (a0 : 0 ≤ addr) (a1 : addr < 549755813888) (s0 : 0 ≤ root) (s1 : root < 18446744073709551616)
    (h : WK w b 170 [] p addr root 0 2 0) :
    Calls Tryz.prog 115 #[.pointer (some ⟨b, 0, none⟩), .int .i64 acc] w fun r w' => r = .returned (.int .i64 (fd2 (D (rdm bs n f) addr 2 2 root) acc)) ∧
      WK w' b 170 [] p addr (D (rdm bs n f) addr 2 2 root).table (D (rdm bs n f) addr 2 2 root).level 2 (D (rdm bs n f) addr 2 2 root).leaf ∧ Only (· = b) w w' := by
  have c1 := h.c1
  have HM := hid hm
  have HW := hid h
  have hnS : ¬ S b := hm.typ h (by decide) (by decide) (by decide)
  have hRd := rdm_ok (bs := bs) n f hm.byt
  have hq := D_ok hRd addr 2 2 root (by decide) s0 s1
  obtain ⟨r, hr⟩ : ∃ r, D (rdm bs n f) addr 2 2 root = r := ⟨_, rfl⟩
  have HR := hid hr
  rw [hr]
  rw [hr] at hq
  have HQ := hid hq
  have hd : addr / 549755813888 = 0 := by omega
  clear h hm hr hq
  go_enter Tryz.func115, Tryz.ntmps115
  go_wp2_with fail
  go_region_law (refine step_call rfl 176 (.tmp 20) (.tmp 24) _ _ rfl (.pointer (some ⟨b, 0, none⟩)) (.func (.func 183) #[.pointer (some ⟨b, 0, none⟩)] #[]) (by go_simp) (by go_simp) (Tryz.call176 _ _) (c_down2 w.drew b 170 [] p addr root 0 2 a0 (by omega) s0 s1 HW.out (rdm bs n f) (fun a => (hRd a).1) (fun w1 t k hw1 ho1 a q0 q1 => c_loadW w1 b 170 [] p addr t k 2 0 hw1 S n f (HM.out.only (T := (· = b)) ((Only.refl w).drew.trans ho1) (fun j hj q => hnS (q ▸ hj))) a q0 q1)) ?_; rintro e w1 ⟨rfl, hw1, ho1⟩; rw [HR.out] at hw1; rw [HR.out]; have HW1 := hid hw1; have HO1 : Hid (Only (· = b) w w1) := (Only.refl w).drew.trans ho1; have c4 := hw1.c4; clear hw1 ho1; refine ⟨_, rfl, ?_⟩)
  go_wp2_with (first
    | (go_at_call 184; refine (c_allows2 w1 b _ _ p _ _ _ _ _ acc HW1.out HQ.out.leaf0 (by have := HQ.out.leaf1; omega)).mono ?_; rintro e w2 ⟨rfl, hw2⟩; obtain rfl := hw2.symm))
  · go_ret
    have g := ‹(r.fault != 0) = true›
    exact ⟨ret_int (by unfold fd2; rw [if_pos (by simpa using g)]), HW1.out, HO1.out⟩
  · go_ret
    have g := ‹(r.fault != 0) = false›
    have g2 := ‹(!al r.leaf acc) = true›
    exact ⟨ret_int (by unfold fd2; rw [if_neg (by simpa using g), if_neg (by simpa using g2)]), HW1.out, HO1.out⟩
  · go_ret
    have g := ‹(r.fault != 0) = false›
    have g2 := ‹(!al r.leaf acc) = false›
    exact ⟨ret_int (by unfold fd2; rw [if_neg (by simpa using g), if_pos (by simpa using g2)]), HW1.out, HO1.out⟩
theorem c_find2_high (w : World) (p b : Nat) (addr root acc : Int) (a0 : 549755813888 ≤ addr) (a1 : addr < 18446744073709551616) (h : WK w b 170 [] p addr root 0 2 0) :
    Calls Tryz.prog 115 #[.pointer (some ⟨b, 0, none⟩), .int .i64 acc] w fun r w' => r = .returned (.int .i64 2) ∧ w' = w := by
  have c1 := h.c1
  have c4 := h.c4
  clear h
  have hd : (addr / 549755813888 != 0) = true := by simp; omega
  go_enter Tryz.func115, Tryz.ntmps115
  go_wp2
  go_ret
  exact ⟨rfl, rfl⟩
theorem c_newSecond (w : World) (p : Nat) (root gpa : Int) :
    Calls Tryz.prog 114 #[.pointer (some ⟨p, 0, none⟩), .int .u64 root, .int .u64 gpa] w fun r w' => r = .returned (.agg #[.pointer (some ⟨p, 0, none⟩), .int .u64 gpa, .int .u64 root, .int .i64 0, .int .i64 2, .int .u64 0]) ∧ Below w.heap.size w w' := by
  go_enter Tryz.func114, Tryz.ntmps114
  go_wp2
  go_returns
  exact ⟨rfl, (Below.refl _ _).alloc (Nat.le_refl _) _⟩
theorem c_Second (w : World) (S : Nat → Prop) (p n : Nat) {bs : Int} (f : Nat → Int) (hm : Mem w S p bs n f) (root gpa acc : Int) (s0 : 0 ≤ root) (s1 : root < 18446744073709551616) (a0 : 0 ≤ gpa) (a1 : gpa < 18446744073709551616) (h0 : ¬ root = 0) (x y z : Int) (hg : gst (rdm bs n f) root gpa acc = (x, y, z)) :
    Calls Tryz.prog 91 #[.pointer (some ⟨p, 0, none⟩), .int .u64 root, .int .u64 gpa, .int .i64 acc] w fun r w' => r = .returned (.tuple #[.int .u64 x, .int .i64 y, .int .i64 z]) ∧ Below w.heap.size w w' := by
  have HM := hid hm
  have hRd := rdm_ok (bs := bs) n f hm.byt
  clear hm
  unfold gst at hg
  go_enter Tryz.func91, Tryz.ntmps91
  rw [if_neg h0] at hg
  by_cases h1 : 549755813888 ≤ gpa
  · rw [if_pos h1] at hg
    cases hg
    go_wp2_with (first
      | (go_at_call 114; refine (c_newSecond _ p root gpa).mono ?_; rintro e w1 ⟨rfl, hb1⟩; have HB1 := hid hb1; clear hb1)
      | (go_at_call 115; refine (c_find2_high _ p _ gpa root acc h1 a1 (heap_alloc_new w1 _)).mono ?_; rintro e w2 ⟨rfl, hw2⟩; obtain rfl := hw2.symm))
    go_ret3
    exact ⟨rfl, HB1.out.alloc HB1.out.size _⟩
  · rw [if_neg h1] at hg
    have hq := D_ok hRd gpa 2 2 root (by decide) s0 s1
    obtain ⟨r, hr⟩ : ∃ r, D (rdm bs n f) gpa 2 2 root = r := ⟨_, rfl⟩
    rw [hr] at hg hq
    have HR := hid hr
    have HQ := hid hq
    have HG := hid hg
    have HF : Hid (fd2 r acc = z ∧ (z ≠ 0 → x = 0 ∧ y = 0) ∧ (z = 0 → x = plc r gpa ∧ y = pm r.leaf)) := by
      show _ ∧ _
      by_cases g1 : r.fault = 0
      · rw [if_neg (by rw [g1]; decide)] at hg
        cases g2 : al r.leaf acc
        · rw [g2, if_neg (by decide)] at hg
          cases hg
          exact ⟨by unfold fd2; rw [if_neg (by rw [g1]; decide), g2, if_neg (by decide)], fun _ => ⟨rfl, rfl⟩, fun q => absurd q (by decide)⟩
        · rw [g2, if_pos rfl] at hg
          cases hg
          exact ⟨by unfold fd2; rw [if_neg (by rw [g1]; decide), g2, if_pos rfl], fun q => absurd rfl q, fun _ => ⟨rfl, rfl⟩⟩
      · rw [if_pos g1] at hg
        cases hg
        exact ⟨by unfold fd2; rw [if_pos g1], fun _ => ⟨rfl, rfl⟩, fun q => absurd q g1⟩
    clear hr hq hg
    by_cases hz : z = 0
    · subst hz
      go_wp2_with (first
        | (go_at_call 114; refine (c_newSecond _ p root gpa).mono ?_; rintro e w1 ⟨rfl, hb1⟩; have HB1 := hid hb1; clear hb1)
        | (go_at_call 115; refine (c_find2 _ S p n f (Mem.below (Mem.below HM.out HB1.out) ((Below.refl _ _).alloc (Nat.le_refl _) _)) w1.heap.size gpa root acc a0 (by omega) s0 s1 (heap_alloc_new w1 _)).mono ?_; rintro e w2 ⟨rfl, hw2, ho2⟩; rw [HR.out] at hw2; rw [HR.out, HF.out.1]; have c5 := hw2.c5; have HW2 := hid hw2; have HO2 := hid ho2; clear hw2 ho2))
      go_quiet (first
        | (go_at_call 112; exact Calls.quiet_of (c_place4 _ _ _ _ p gpa _ _ _ _ HQ.out.lev (HW2.out.drewN _) HQ.out.leaf0 HQ.out.leaf1 a0 a1))
        | (go_at_call 116; exact Calls.quiet_of_same (c_perm r.leaf HQ.out.leaf0 (by have := HQ.out.leaf1; omega) _)))
      go_wp2
      go_ret3
      obtain ⟨rfl, rfl⟩ := HF.out.2.2 trivial
      exact ⟨rfl, (HB1.out.alloc HB1.out.size _).trans ((HO2.out.drewN _).below _ (by have := HB1.out.size; simp; omega) (by rintro k rfl; exact HB1.out.size))⟩
    · go_wp2_with (first
        | (go_at_call 114; refine (c_newSecond _ p root gpa).mono ?_; rintro e w1 ⟨rfl, hb1⟩; have HB1 := hid hb1; clear hb1)
        | (go_at_call 115; refine (c_find2 _ S p n f (Mem.below (Mem.below HM.out HB1.out) ((Below.refl _ _).alloc (Nat.le_refl _) _)) w1.heap.size gpa root acc a0 (by omega) s0 s1 (heap_alloc_new w1 _)).mono ?_; rintro e w2 ⟨rfl, hw2, ho2⟩; rw [HR.out, HF.out.1]; have HO2 := hid ho2; clear hw2 ho2))
      go_ret3
      obtain ⟨rfl, rfl⟩ := HF.out.2.1 hz
      exact ⟨rfl, (HB1.out.alloc HB1.out.size _).trans (HO2.out.below _ (by have := HB1.out.size; simp; omega) (by rintro k rfl; exact HB1.out.size))⟩
theorem c_Guest (w : World) (S : Nat → Prop) (p n : Nat) {bs : Int} (f : Nat → Int) (hm : Mem w S p bs n f) (root gpa acc : Int) (s0 : 0 ≤ root) (s1 : root < 18446744073709551616) (a0 : 0 ≤ gpa) (a1 : gpa < 18446744073709551616) (x y z : Int) (hg : gst (rdm bs n f) root gpa acc = (x, y, z)) :
    Calls Tryz.prog 73 #[.pointer (some ⟨p, 0, none⟩), .int .u64 root, .int .u64 gpa, .int .i64 acc] w fun r w' => r = .returned (.tuple #[.int .u64 x, .int .i64 y, .int .i64 z]) ∧ Below w.heap.size w w' := by
  have HM := hid hm
  clear hm
  go_enter Tryz.func73, Tryz.ntmps73
  by_cases h0 : root = 0
  · unfold gst at hg
    rw [if_pos h0] at hg
    cases hg
    go_wp2
    go_ret3
    exact ⟨rfl, Below.refl _ _⟩
  · have HG := hid hg
    clear hg
    go_wp2_with (first
      | (go_at_call 91; refine (c_Second _ S p n f HM.out root gpa acc s0 s1 a0 a1 h0 x y z HG.out).mono ?_; rintro e w1 ⟨rfl, hb1⟩; have HB1 := hid hb1; clear hb1))
    go_ret3
    exact ⟨rfl, HB1.out⟩
end Go.Proofs.YtlfdokkopgmfjaaGreatDoor.C
namespace Go.Proofs.YtlfdokkopgmfjaaGreatDoor.C
open Go.RowKit
set_option linter.unusedVariables false
set_option maxRecDepth 100000
def fv : Option (Nat × Nat) → Value
  | none => .slice none 0 0
  | some (h, c) => .slice (some ⟨h, 0, none⟩) 4096 c
def FootQ (p g : Nat) (hs : List (Option (Nat × Nat))) (k : Nat) : Prop := k = p ∨ k = g ∨ ∃ (i : Nat) (c : Nat), hs[i]? = some (some (k, c))
structure QM (w : World) (p g : Nat) (base : Int) (hs : List (Option (Nat × Nat))) (f : Nat → Int) : Prop where
  top : w.heap[p]? = some (.cells #[.int .u64 base, .int .i64 hs.length, .slice (some ⟨g, 0, none⟩) hs.length hs.length] 61 (0, 0))
  tab : w.heap[g]? = some (.cells (hs.map fv).toArray 23 (0, 0))
  bare : ∀ i : Nat, hs[i]? = some none → ∀ j, j < 4096 → f (4096 * i + j) = 0
  full : ∀ (i h c : Nat), hs[i]? = some (some (h, c)) → 4096 ≤ c ∧ ∃ cur : Array Value, w.heap[h]? = some (.cells cur 5 (0, 0)) ∧ ∀ j, j < 4096 → cur[j]? = some (.int .u8 (f (4096 * i + j)))
  inj : ∀ (i j h c c' : Nat), hs[i]? = some (some (h, c)) → hs[j]? = some (some (h, c')) → i = j
  byt : ∀ j, 0 ≤ f j ∧ f j < 256
  base0 : 0 ≤ base
  base1 : base ≤ 4503599627370496
  len0 : 0 < hs.length
  len1 : hs.length ≤ 1024
def RMem (w : World) (T : Nat → Prop) (p : Nat) (base : Int) (n : Nat) (f : Nat → Int) : Prop := ∃ g hs, QM w p g base hs f ∧ hs.length = n ∧ ∀ k, T k ↔ FootQ p g hs k
theorem QM.lt {w : World} {p g : Nat} {base : Int} {hs : List (Option (Nat × Nat))} {f : Nat → Int} (h : QM w p g base hs f) {k : Nat} (hk : FootQ p g hs k) : k < w.heap.size := by
  rcases hk with rfl | rfl | ⟨i, c, hi⟩
  · exact lt_of_block h.top
  · exact lt_of_block h.tab
  · obtain ⟨_, cur, hg, _⟩ := h.full i k c hi
    exact lt_of_block hg
theorem QM.only {w w' : World} {p g : Nat} {base : Int} {hs : List (Option (Nat × Nat))} {f : Nat → Int} (h : QM w p g base hs f) {T : Nat → Prop} (ho : Only T w w') (hd : ∀ k, FootQ p g hs k → ¬ T k) : QM w' p g base hs f :=
  ⟨ho.old h.top (hd _ (.inl rfl)), ho.old h.tab (hd _ (.inr (.inl rfl))), h.bare, fun i k c hk => by
    obtain ⟨q, cur, hg, hc⟩ := h.full i k c hk
    exact ⟨q, cur, ho.old hg (hd _ (.inr (.inr ⟨i, c, hk⟩))), hc⟩, h.inj, h.byt, h.base0, h.base1, h.len0, h.len1⟩
theorem RMem.lt {w : World} {S : Nat → Prop} {p : Nat} {base : Int} {n : Nat} {f : Nat → Int} (h : RMem w S p base n f) {k : Nat} (hk : S k) : k < w.heap.size := by
  obtain ⟨g, hs, hr, _, hS⟩ := h
  exact hr.lt ((hS k).1 hk)
theorem RMem.only {w w' : World} {S : Nat → Prop} {p : Nat} {base : Int} {n : Nat} {f : Nat → Int} (h : RMem w S p base n f) {T : Nat → Prop} (ho : Only T w w') (hd : ∀ k, S k → ¬ T k) : RMem w' S p base n f := by
  obtain ⟨g, hs, hr, hl, hS⟩ := h
  exact ⟨g, hs, hr.only ho fun k hk => hd k ((hS k).2 hk), hl, hS⟩
theorem RMem.below {w w' : World} {S : Nat → Prop} {p : Nat} {base : Int} {n : Nat} {f : Nat → Int} (h : RMem w S p base n f) (hb : Below w.heap.size w w') : RMem w' S p base n f :=
  h.only (T := fun _ => False) (.ofBelow hb) fun _ _ q => q
theorem QM.cell0 {w : World} {p g : Nat} {base : Int} {hs : List (Option (Nat × Nat))} {f : Nat → Int} (h : QM w p g base hs f) : w.cell? ⟨p, 0, none⟩ = some (.int .u64 base) := by rw [cell_of_row w p 0 _ _ _ h.top]; rfl
theorem QM.cell1 {w : World} {p g : Nat} {base : Int} {hs : List (Option (Nat × Nat))} {f : Nat → Int} (h : QM w p g base hs f) : w.cell? ⟨p, 1, none⟩ = some (.int .i64 hs.length) := by rw [cell_of_row w p 1 _ _ _ h.top]; rfl
theorem QM.cell2 {w : World} {p g : Nat} {base : Int} {hs : List (Option (Nat × Nat))} {f : Nat → Int} (h : QM w p g base hs f) : w.cell? ⟨p, 2, none⟩ = some (.slice (some ⟨g, 0, none⟩) hs.length hs.length) := by rw [cell_of_row w p 2 _ _ _ h.top]; rfl
theorem QM.cellT {w : World} {p g : Nat} {base : Int} {hs : List (Option (Nat × Nat))} {f : Nat → Int} (h : QM w p g base hs f) (i : Nat) (x : Option (Nat × Nat)) (hi : hs[i]? = some x) : w.cell? ⟨g, i, none⟩ = some (fv x) := by rw [cell_of_row w g i _ _ _ h.tab]; simp [hi]
theorem QM.cellB {w : World} {p g : Nat} {base : Int} {hs : List (Option (Nat × Nat))} {f : Nat → Int} (h : QM w p g base hs f) (i hh c : Nat) (hi : hs[i]? = some (some (hh, c))) (j : Nat) (hj : j < 4096) : w.cell? ⟨hh, j, none⟩ = some (.int .u8 (f (4096 * i + j))) ∧ w.frozen? ⟨hh, j, none⟩ = false := by
  obtain ⟨_, cur, hg, hc⟩ := h.full i hh c hi
  exact ⟨by rw [cell_of_row w hh j _ _ _ hg]; exact hc j hj, frozen_of_row w hh j _ _ hg⟩
theorem q_right (z : Int) (w : World) : Calls Tryz.prog 59 #[.int .i64 z] w fun e w' => e = .returned (.bool (decide (z = 1 ∨ z = 2 ∨ z = 4 ∨ z = 8))) ∧ w' = w := by
  go_enter Tryz.func59, Tryz.ntmps59
  by_cases h1 : z = 1
  · subst h1; go_wp2; go_ret; exact ⟨rfl, rfl⟩
  · by_cases h2 : z = 2
    · subst h2; go_wp2; go_ret; exact ⟨rfl, rfl⟩
    · by_cases h4 : z = 4
      · subst h4; go_wp2; go_ret; exact ⟨rfl, rfl⟩
      · have e1 : decide (z = 1 ∨ z = 2 ∨ z = 4 ∨ z = 8) = decide (z = 8) := by simp [h1, h2, h4]
        rw [e1]
        go_wp2
        go_ret
        exact ⟨ret_bool (by rw [Bool.eq_iff_iff]; simp; omega), rfl⟩
theorem q_Has (w : World) (p g : Nat) (base : Int) (hs : List (Option (Nat × Nat))) (f : Nat → Int) (h : QM w p g base hs f) (addr size : Int) (a0 : 0 ≤ addr) (a1 : addr < 18446744073709551616) (s0 : -9223372036854775808 ≤ size) (s1 : size ≤ 9223372036854775807) :
    Calls Tryz.prog 48 #[.pointer (some ⟨p, 0, none⟩), .int .u64 addr, .int .i64 size] w fun e w' => e = .returned (.bool (hasB base hs.length addr size)) ∧ Still w w' := by
  have c0 := h.cell0
  have c1 := h.cell1
  have h0 := h.base0
  have h1 := h.base1
  have l0 := h.len0
  have l1 := h.len1
  go_enter Tryz.func48, Tryz.ntmps48
  by_cases q0 : size < 0
  · go_wp2
    go_ret
    exact ⟨ret_bool (by simp [hasB]; omega), .refl w⟩
  · by_cases q1 : addr < base
    · go_wp2
      go_ret
      exact ⟨ret_bool (by simp [hasB]; omega), .refl w⟩
    · by_cases q2 : addr - base ≤ (hs.length : Int) * 4096
      · by_cases q3 : size ≤ (hs.length : Int) * 4096 - (addr - base)
        · go_wp2
          go_ret
          exact ⟨ret_bool (by rw [Bool.eq_iff_iff]; simp [hasB]; omega), .refl w⟩
        · go_wp2
          go_ret
          exact ⟨ret_bool (by rw [Bool.eq_iff_iff]; simp [hasB]; omega), .refl w⟩
      · go_wp2
        go_ret
        exact ⟨ret_bool (by rw [Bool.eq_iff_iff]; simp [hasB]; omega), .refl w⟩
theorem eq_nil (w : World) (a : Option Addr) (l c : Nat) : (binOp .eql 23 (.slice a l c) (.slice none 0 0)).run Tryz.prog w = .ok (.bool a.isNone) w := by
  have h := run_equal_slice_nil (P := Tryz.prog) w 23 5 a l c u_su8
  simp [binOp, h]
theorem q_get (w : World) (p g : Nat) (base : Int) (hs : List (Option (Nat × Nat))) (f : Nat → Int) (h : QM w p g base hs f) (off : Nat) (ho : off < 4096 * hs.length) (addr : Int) (ha : addr = base + off) :
    Calls Tryz.prog 60 #[.pointer (some ⟨p, 0, none⟩), .int .u64 addr] w fun e w' => e = .returned (.int .u8 (f off)) ∧ w' = w := by
  subst ha
  have c0 := h.cell0
  have c2 := h.cell2
  have h0 := h.base0
  have h1 := h.base1
  have l1 := h.len1
  obtain ⟨q, m, hm, hqm⟩ : ∃ q m : Nat, m < 4096 ∧ off = 4096 * q + m := ⟨off / 4096, off % 4096, Nat.mod_lt _ (by decide), (Nat.div_add_mod _ _).symm⟩
  subst hqm
  have hq : q < hs.length := by omega
  have e1 : (base + ((4096 * q + m : Nat) : Int) - base) = ((4096 * q + m : Nat) : Int) := by omega
  have e2 : ((4096 * q + m : Nat) : Int) / 4096 = (q : Int) := by omega
  have e3 : ((4096 * q + m : Nat) : Int) % 4096 = (m : Int) := by omega
  generalize hA : (4096 * q + m : Nat) = A at *
  obtain ⟨x, hx⟩ : ∃ x, hs[q]? = some x := ⟨_, List.getElem?_eq_getElem hq⟩
  have cT := h.cellT _ x hx
  cases x with
  | none =>
    have hz := h.bare _ hx m hm
    rw [hA] at hz
    simp only [fv] at cT
    have hnil := eq_nil
    clear h hA
    go_enter Tryz.func60, Tryz.ntmps60
    go_wp2
    go_ret
    exact ⟨ret_int hz.symm, rfl⟩
  | some hc =>
    obtain ⟨hh, c⟩ := hc
    simp only [fv] at cT
    have cB := (h.cellB _ _ _ hx m hm).1
    rw [hA] at cB
    have hnil := eq_nil
    clear h hA
    go_enter Tryz.func60, Tryz.ntmps60
    go_wp2
    go_ret
    exact ⟨rfl, rfl⟩
end Go.Proofs.YtlfdokkopgmfjaaGreatDoor.C
namespace Go.Proofs.YtlfdokkopgmfjaaGreatDoor.C
open Go.RowKit
set_option linter.unusedVariables false
set_option maxRecDepth 100000
theorem put1_byt {f : Nat → Int} (hf : ∀ j, 0 ≤ f j ∧ f j < 256) (off : Nat) (x : Int) (x0 : 0 ≤ x) (x1 : x < 256) (j : Nat) : 0 ≤ put f off 1 (fun _ => x) j ∧ put f off 1 (fun _ => x) j < 256 := by
  unfold put
  split
  · exact ⟨x0, x1⟩
  · exact hf j
theorem QM.putOld {w : World} {p g : Nat} {base : Int} {hs : List (Option (Nat × Nat))} {f : Nat → Int} (h : QM w p g base hs f) {q hh c m : Nat} (hq : hs[q]? = some (some (hh, c))) (hm : m < 4096) (x : Int) (x0 : 0 ≤ x) (x1 : x < 256) :
    QM (w.setCell ⟨hh, m, none⟩ (.int .u8 x)) p g base hs (put f (4096 * q + m) 1 fun _ => x) := by
  obtain ⟨hc, cur, hg, hcur⟩ := h.full q hh c hq
  have hph : p ≠ hh := by rintro rfl; have := h.top; rw [hg] at this; simp at this
  have hgh : g ≠ hh := by rintro rfl; have := h.tab; rw [hg] at this; simp at this
  have hold : ∀ k, k ≠ hh → (w.setCell ⟨hh, m, none⟩ (.int .u8 x)).heap[k]? = w.heap[k]? := fun k hk => Below.heap_setCell _ _ _ k hk
  refine ⟨(hold p hph).trans h.top, (hold g hgh).trans h.tab, ?_, ?_, h.inj, put1_byt h.byt _ x x0 x1, h.base0, h.base1, h.len0, h.len1⟩
  · intro i hi j hj
    have : i ≠ q := by rintro rfl; rw [hq] at hi; cases hi
    rw [put_out _ _ _ _ _ (by omega)]
    exact h.bare i hi j hj
  · intro i h' c' hi
    by_cases e : i = q
    · subst e
      obtain ⟨rfl, rfl⟩ : hh = h' ∧ c = c' := by rw [hq] at hi; simpa using hi
      refine ⟨hc, _, heap_setCell_same w hh m cur _ _ hg, fun j hj => ?_⟩
      have hl : m < cur.size := (Array.getElem?_eq_some_iff.1 (hcur m hm)).1
      by_cases e : m = j
      · subst e; rw [put_in' _ _ _ _ _ (by omega) (by omega)]; simp [hl]
      · rw [put_out _ _ _ _ _ (by omega), Array.getElem?_setIfInBounds_ne (h := e)]; exact hcur j hj
    · have e' : h' ≠ hh := by rintro rfl; exact e (h.inj i q h' c' c hi hq)
      obtain ⟨hc', cur', hg', hcur'⟩ := h.full i h' c' hi
      exact ⟨hc', cur', (hold h' e').trans hg', fun j hj => by rw [put_out _ _ _ _ _ (by omega)]; exact hcur' j hj⟩
theorem QM.putNew {w W : World} {p g : Nat} {base : Int} {hs : List (Option (Nat × Nat))} {f : Nat → Int} (h : QM w p g base hs f) {q m : Nat} (hq : hs[q]? = some none) (hm : m < 4096) (x : Int) (x0 : 0 ≤ x) (x1 : x < 256)
    (ht : W.heap[g]? = some (.cells ((hs.set q (some (w.heap.size, 4096))).map fv).toArray 23 (0, 0))) (hn : W.heap[w.heap.size]? = some (.cells ((row (fun _ => 0) 0 4096).set m (.int .u8 x)).toArray 5 (0, 0)))
    (hold : ∀ k, k < w.heap.size → k ≠ g → W.heap[k]? = w.heap[k]?) : QM W p g base (hs.set q (some (w.heap.size, 4096))) (put f (4096 * q + m) 1 fun _ => x) := by
  have hil : q < hs.length := by
    rcases Nat.lt_or_ge q hs.length with e | e
    · exact e
    · rw [List.getElem?_eq_none e] at hq; cases hq
  have hpg : p ≠ g := by rintro rfl; have := h.top; rw [h.tab] at this; simp at this
  refine ⟨?_, ht, ?_, ?_, ?_, put1_byt h.byt _ x x0 x1, h.base0, h.base1, by simpa using h.len0, by simpa using h.len1⟩
  · rw [hold p (lt_of_block h.top) hpg, List.length_set]; exact h.top
  · intro i hi j hj
    by_cases e : i = q
    · subst e; rw [List.getElem?_set_self hil] at hi; cases hi
    · rw [List.getElem?_set_ne (by omega)] at hi
      rw [put_out _ _ _ _ _ (by omega)]; exact h.bare i hi j hj
  · intro i h' c' hi
    by_cases e : i = q
    · subst e
      rw [List.getElem?_set_self hil] at hi
      obtain ⟨rfl, rfl⟩ : w.heap.size = h' ∧ 4096 = c' := by simpa using hi
      refine ⟨Nat.le_refl _, _, hn, fun j hj => ?_⟩
      rw [← List.setIfInBounds_toArray, set_row _ _ _ _ _ hm]
      have := row_get (put (fun _ => 0) (0 + m) 1 fun _ => x) 0 4096 j hj
      rw [List.getElem?_toArray, this, Nat.zero_add, Nat.zero_add]
      by_cases e : j = m
      · subst e; rw [put_in' _ _ _ _ _ (by omega) (by omega), put_in' _ _ _ _ _ (by omega) (by omega)]
      · rw [put_out (fun _ => 0) _ _ _ _ (by omega), put_out f _ _ _ _ (by omega), h.bare i hq j hj]
    · rw [List.getElem?_set_ne (by omega)] at hi
      obtain ⟨hc', cur', hg', hcur'⟩ := h.full i h' c' hi
      exact ⟨hc', cur', (hold h' (lt_of_block hg') (by rintro rfl; rw [h.tab] at hg'; simp at hg')).trans hg', fun j hj => by rw [put_out _ _ _ _ _ (by omega)]; exact hcur' j hj⟩
  · intro i j h' c c' hi hj
    by_cases e : i = q <;> by_cases e' : j = q
    · omega
    · subst e
      rw [List.getElem?_set_self hil] at hi
      rw [List.getElem?_set_ne (by omega)] at hj
      obtain ⟨_, _, hg', _⟩ := h.full j h' c' hj
      have := lt_of_block hg'
      simp at hi; omega
    · subst e'
      rw [List.getElem?_set_self hil] at hj
      rw [List.getElem?_set_ne (by omega)] at hi
      obtain ⟨_, _, hg', _⟩ := h.full i h' c hi
      have := lt_of_block hg'
      simp at hj; omega
    · rw [List.getElem?_set_ne (by omega)] at hi hj
      exact h.inj i j h' c c' hi hj
theorem run_makeB (w : World) (n : Nat) (hn : n ≤ 281474976710656) : (Instr.makeSlice 23 (.int .i64 (n : Int)) (.int .i64 (n : Int))).run Tryz.prog w = .ok (.slice (some ⟨w.heap.size, 0, none⟩) n n) (w.alloc (.cells (row (fun _ => 0) 0 n).toArray 5)) := by
  obtain ⟨i, hi1, hz, hs, hb⟩ := info_parts info_u8
  have hr := run_make (P := Tryz.prog) w 23 5 i _ u_su8 hi1 hz .i64 .i64 n n (by omega) (by omega) (by rw [hb]; omega) (by omega)
  have hcs : madeCells (Value.int .u8 0).cells ((n : Int).toNat * i.size) = (row (fun _ => 0) 0 n).toArray := by
    rw [← rowz, hs]
    apply Array.ext'
    simpa [Value.cells] using toList_madeCells_one (.int .u8 0) n
  rw [hcs] at hr
  simpa using hr
theorem run_make4 (w : World) : (Instr.makeSlice 23 (.int .i64 4096) (.int .i64 4096)).run Tryz.prog w = .ok (.slice (some ⟨w.heap.size, 0, none⟩) 4096 4096) (w.alloc (.cells (row (fun _ => 0) 0 4096).toArray 5)) := run_makeB w 4096 (by decide)
theorem QM.drew {w : World} {p g : Nat} {base : Int} {hs : List (Option (Nat × Nat))} {f : Nat → Int} (h : QM w p g base hs f) : QM w.drew p g base hs f := h.only (T := fun _ => False) (Only.refl w).drew fun _ _ q => q
theorem fv_set (hs : List (Option (Nat × Nat))) (q h c : Nat) : (hs.map fv).toArray.setIfInBounds q (fv (some (h, c))) = ((hs.set q (some (h, c))).map fv).toArray := by simp [List.map_set]
set_option maxHeartbeats 1000000 in
theorem q_put (w : World) (T : Nat → Prop) (p : Nat) (base : Int) (n : Nat) (f : Nat → Int) (h : RMem w T p base n f) (off : Nat) (ho : off < 4096 * n) (addr : Int) (ha : addr = base + off) (x : Int) (x0 : 0 ≤ x) (x1 : x < 256) :
    Calls Tryz.prog 49 #[.pointer (some ⟨p, 0, none⟩), .int .u64 addr, .int .u8 x] w fun e w' => ∃ T', e = .returned (.tuple #[]) ∧ RMem w' T' p base n (put f off 1 fun _ => x) ∧ Only T w w' ∧ ∀ k, T' k → T k ∨ w.heap.size ≤ k := by
  subst ha
  obtain ⟨g, hs, h, rfl, hT⟩ := h
  have c0 := h.cell0
  have c2 := h.cell2
  have h0 := h.base0
  have h1 := h.base1
  have l1 := h.len1
  obtain ⟨q, m, hm, hqm⟩ : ∃ q m : Nat, m < 4096 ∧ off = 4096 * q + m := ⟨off / 4096, off % 4096, Nat.mod_lt _ (by decide), (Nat.div_add_mod _ _).symm⟩
  subst hqm
  have hq : q < hs.length := by omega
  have e1 : (base + ((4096 * q + m : Nat) : Int) - base) = ((4096 * q + m : Nat) : Int) := by omega
  have e2 : ((4096 * q + m : Nat) : Int) / 4096 = (q : Int) := by omega
  have e3 : ((4096 * q + m : Nat) : Int) % 4096 = (m : Int) := by omega
  obtain ⟨y, hy⟩ : ∃ y, hs[q]? = some y := ⟨_, List.getElem?_eq_getElem hq⟩
  have cT := h.cellT _ y hy
  have fT : w.frozen? ⟨g, q, none⟩ = false := frozen_of_row w g q _ _ h.tab
  have hpg : p ≠ g := by rintro rfl; have := h.top; rw [h.tab] at this; simp at this
  have hgl := lt_of_block h.tab
  have hpl := lt_of_block h.top
  have hnil := eq_nil
  cases y with
  | some hc =>
    obtain ⟨hh, c⟩ := hc
    simp only [fv] at cT
    obtain ⟨cB, fB⟩ := h.cellB _ _ _ hy m hm
    have HP := hid (h.putOld hy hm x x0 x1)
    generalize hA : (4096 * q + m : Nat) = A at *
    clear h hA
    go_enter Tryz.func49, Tryz.ntmps49
    go_wp2
    go_end0
    exact ⟨FootQ p g hs, rfl, ⟨g, hs, HP.out, rfl, fun k => Iff.rfl⟩, (Only.refl w).setCell (p := ⟨hh, m, none⟩) (.inl ((hT _).2 (.inr (.inr ⟨q, c, hy⟩)))) _, fun k hk => .inl ((hT k).2 hk)⟩
  | none =>
    simp only [fv] at cT
    have k1 : (w.setCell ⟨g, q, none⟩ (.slice (some ⟨w.heap.size, 0, none⟩) 4096 4096)).cell? ⟨p, 2, none⟩ = some (.slice (some ⟨g, 0, none⟩) hs.length hs.length) := by
      rw [World.cell?_setCell_other _ _ _ _ (by intro e; cases e; exact hpg rfl)]; exact c2
    have k2 : (w.setCell ⟨g, q, none⟩ (.slice (some ⟨w.heap.size, 0, none⟩) 4096 4096)).cell? ⟨g, q, none⟩ = some (.slice (some ⟨w.heap.size, 0, none⟩) 4096 4096) := World.cell?_setCell_same _ _ _ cT
    have k3 : (row (fun _ => 0) 0 4096).toArray[m]? = some (.int .u8 0) := by have := row_get (fun _ => 0) 0 4096 m hm; simpa using this
    have hmk := run_make4
    generalize hA : (4096 * q + m : Nat) = A at *
    have HH := hid h
    have HA := hid hA
    clear h hA
    go_enter Tryz.func49, Tryz.ntmps49
    go_wp2
    go_region
    go_wp2
    go_end0
    have hsz : (w.setCell ⟨g, q, none⟩ (.slice (some ⟨w.heap.size, 0, none⟩) 4096 4096)).heap.size = w.heap.size := by simp [World.setCell]
    have ht : ∀ o, ((w.setCell ⟨g, q, none⟩ (.slice (some ⟨w.heap.size, 0, none⟩) 4096 4096)).alloc o).heap[g]? = some (.cells ((hs.set q (some (w.heap.size, 4096))).map fv).toArray 23 (0, 0)) := fun o => by
      rw [Below.heap_alloc _ _ _ (by rw [hsz]; exact hgl), heap_setCell_same _ _ q _ _ _ HH.out.tab, ← fv_set]
      rfl
    have hn : ∀ o, ((w.setCell ⟨g, q, none⟩ (.slice (some ⟨w.heap.size, 0, none⟩) 4096 4096)).alloc o).heap[w.heap.size]? = some o := fun o => by
      have := heap_alloc_new (w.setCell ⟨g, q, none⟩ (.slice (some ⟨w.heap.size, 0, none⟩) 4096 4096)) o
      rwa [hsz] at this
    have hold : ∀ o k, k < w.heap.size → k ≠ g → ((w.setCell ⟨g, q, none⟩ (.slice (some ⟨w.heap.size, 0, none⟩) 4096 4096)).alloc o).heap[k]? = w.heap[k]? := fun o k hk hne => (Below.heap_alloc _ _ k (by rw [hsz]; exact hk)).trans (Below.heap_setCell _ _ _ k hne)
    have HQ := QM.putNew HH.out hy hm x x0 x1 (ht (.cells ((row (fun _ => 0) 0 4096).set m (.int .u8 x)).toArray 5)) (hn _) (hold _)
    rw [HA.out] at HQ
    refine ⟨FootQ p g (hs.set q (some (w.heap.size, 4096))), rfl, ⟨g, hs.set q (some (w.heap.size, 4096)), HQ.drew, List.length_set, fun k => Iff.rfl⟩, (((Only.refl w).setCell (p := ⟨g, q, none⟩) (.inl ((hT _).2 (.inr (.inl rfl)))) _).alloc _).drew, ?_⟩
    rintro k (rfl | rfl | ⟨j, c, hj⟩)
    · exact .inl ((hT _).2 (.inl rfl))
    · exact .inl ((hT _).2 (.inr (.inl rfl)))
    · by_cases e : j = q
      · subst e; rw [List.getElem?_set_self hq] at hj; simp at hj; exact .inr (by omega)
      · rw [List.getElem?_set_ne (by omega)] at hj; exact .inl ((hT _).2 (.inr (.inr ⟨j, c, hj⟩)))
end Go.Proofs.YtlfdokkopgmfjaaGreatDoor.C
namespace Go.Proofs.YtlfdokkopgmfjaaGreatDoor.C
open Go.RowKit
set_option linter.unusedVariables false
set_option maxRecDepth 100000
theorem put_step (A B : Nat → Int) (a k : Nat) (x : Int) (hx : x = B k) : put (put A a k B) (a + k) 1 (fun _ => x) = put A a (k + 1) B := by
  rw [← put_more A a k 1 B]
  funext j
  by_cases q : j = a + k
  · subst q; rw [put_in' _ _ _ _ _ (by omega) (by omega), put_in' _ _ _ _ _ (by omega) (by omega), hx]; simp
  · rw [put_out _ _ _ _ _ (by omega), put_out _ _ 1 _ _ (by omega)]
end Go.Proofs.YtlfdokkopgmfjaaGreatDoor.C
namespace Go.Proofs.YtlfdokkopgmfjaaGreatDoor.C
open Go.RowKit
set_option linter.unusedVariables false
set_option maxRecDepth 100000
theorem q_HasM (w : World) (S : Nat → Prop) (p : Nat) (base : Int) (n : Nat) (f : Nat → Int) (h : RMem w S p base n f) (addr size : Int) (a0 : 0 ≤ addr) (a1 : addr < 18446744073709551616) (s0 : -9223372036854775808 ≤ size) (s1 : size ≤ 9223372036854775807) :
    Calls Tryz.prog 48 #[.pointer (some ⟨p, 0, none⟩), .int .u64 addr, .int .i64 size] w fun e w' => e = .returned (.bool (hasB base n addr size)) ∧ Still w w' := by
  obtain ⟨g, hs, hr, rfl, hS⟩ := h
  exact q_Has w p g base hs f hr addr size a0 a1 s0 s1
theorem q_getM (w : World) (S : Nat → Prop) (p : Nat) (base : Int) (n : Nat) (f : Nat → Int) (h : RMem w S p base n f) (off : Nat) (ho : off < 4096 * n) (addr : Int) (ha : addr = base + off) :
    Calls Tryz.prog 60 #[.pointer (some ⟨p, 0, none⟩), .int .u64 addr] w fun e w' => e = .returned (.int .u8 (f off)) ∧ w' = w := by
  obtain ⟨g, hs, hr, rfl, hS⟩ := h
  exact q_get w p g base hs f hr off ho addr ha
theorem RMem.nums {w : World} {S : Nat → Prop} {p : Nat} {base : Int} {n : Nat} {f : Nat → Int} (h : RMem w S p base n f) : 0 ≤ base ∧ base ≤ 4503599627370496 ∧ 0 < n ∧ n ≤ 1024 := by
  obtain ⟨g, hs, hr, rfl, _⟩ := h
  exact ⟨hr.base0, hr.base1, hr.len0, hr.len1⟩
theorem RMem.byt {w : World} {S : Nat → Prop} {p : Nat} {base : Int} {n : Nat} {f : Nat → Int} (h : RMem w S p base n f) (j : Nat) : 0 ≤ f j ∧ f j < 256 := by
  obtain ⟨g, hs, hr, _, _⟩ := h
  exact hr.byt j
theorem nu_shift (b : Nat → Int) : ∀ m, nu b (m + 1) = b 0 + 256 * nu (fun j => b (1 + j)) m
  | 0 => by simp [nu]
  | m + 1 => by
    have ih := nu_shift b m
    show nu b (m + 1) + b (m + 1) * 256 ^ (m + 1) = b 0 + 256 * (nu (fun j => b (1 + j)) m + b (1 + m) * 256 ^ m)
    rw [ih, Int.pow_succ, Nat.add_comm 1 m, Int.mul_add, ← Int.add_assoc]
    congr 1
    ac_rfl
theorem nu_small (b : Nat → Int) (hb : ∀ j, 0 ≤ b j ∧ b j < 256) (k : Nat) (hk : k ≤ 7) : 0 ≤ nu b k ∧ nu b k < 72057594037927936 := by
  have h := nu_lt b hb k
  have : (256 : Int) ^ k ≤ 72057594037927936 := by
    rcases (show k = 0 ∨ k = 1 ∨ k = 2 ∨ k = 3 ∨ k = 4 ∨ k = 5 ∨ k = 6 ∨ k = 7 by omega) with rfl | rfl | rfl | rfl | rfl | rfl | rfl | rfl <;> decide
  omega
set_option maxHeartbeats 1000000 in
theorem q_Read (w : World) (S : Nat → Prop) (p : Nat) (base : Int) (n : Nat) (f : Nat → Int) (h : RMem w S p base n f) (off size : Nat) (hl : off + size ≤ 4096 * n) (hw : size = 1 ∨ size = 2 ∨ size = 4 ∨ size = 8) (addr : Int) (ha : addr = base + off) :
    Calls Tryz.prog 34 #[.pointer (some ⟨p, 0, none⟩), .int .u64 addr, .int .i64 size] w fun e w' => e = .returned (.tuple #[.int .u64 (nu (fun j => f (off + j)) size), .bool true]) ∧ Still w w' := by
  subst ha
  obtain ⟨b0, b1, l0, l1⟩ := h.nums
  have hh := hasB_of (base := base) hl
  have hwd : decide ((size : Int) = 1 ∨ (size : Int) = 2 ∨ (size : Int) = 4 ∨ (size : Int) = 8) = true := by simp; omega
  have hs8 : 0 < size ∧ size ≤ 8 := by omega
  have HR := hid h
  clear hw h
  go_enter Tryz.func34, Tryz.ntmps34
  go_wp2_with (first
    | (go_at_call 59; refine (q_right _ w).mono ?_; rintro e w1 ⟨rfl, hw1⟩; obtain rfl := hw1.symm; rw [hwd])
    | (go_at_call 48; refine (q_HasM w S p base n f HR.out _ _ (by omega) (by omega) (by omega) (by omega)).mono ?_; rintro e w1 ⟨rfl, hst⟩; rw [hh]; have HST := hid hst; clear hst))
  go_loop [8, 9] (fun v i => ∃ m : Nat, m ≤ size ∧ i = .int .i64 ((m : Int) - 1) ∧ v = .int .u64 (nu (fun j => f (off + m + j)) (size - m))) (fun _ i => (intOf i + 1).toNat)
  case atStart => exact ⟨size, Nat.le_refl _, rfl, by rw [Nat.sub_self]; rfl⟩
  case round =>
    obtain ⟨m, hm, rfl, rfl⟩ := hrel
    by_cases hlt : 0 < m
    · obtain ⟨k, rfl⟩ : ∃ k, m = k + 1 := ⟨m - 1, by omega⟩
      have e0 : ((k + 1 : Nat) : Int) - 1 = (k : Int) := by omega
      obtain ⟨V, hV⟩ : ∃ V, nu (fun j => f (off + (k + 1) + j)) (size - (k + 1)) = V := ⟨_, rfl⟩
      have hVb := nu_small (fun j => f (off + (k + 1) + j)) (fun j => HR.out.byt _) (size - (k + 1)) (by omega)
      rw [hV] at hVb
      have HV := hid hV
      have hx := HR.out.byt (off + k)
      obtain ⟨X, hX⟩ : ∃ X, f (off + k) = X := ⟨_, rfl⟩
      rw [hX] at hx
      have HX := hid hX
      have HN : Hid (V * 256 + X = nu (fun j => f (off + k + j)) (size - k)) := by
        show _ = _
        have e1 : size - k = (size - (k + 1)) + 1 := by omega
        have e3 : (fun j => f (off + (k + 1) + j)) = fun j => f (off + k + (1 + j)) := by funext j; congr 1; omega
        rw [e3] at hV
        rw [e1, nu_shift]
        show _ = f (off + k) + 256 * nu (fun j => f (off + k + (1 + j))) (size - (k + 1))
        rw [hV, hX]; omega
      rw [hV, e0]
      clear hV hX
      go_wp2_with (first
        | (go_at_call 60; refine (q_getM w1 S p base n f (HR.out.below (HST.out.below _)) (off + k) (by omega) _ (by omega)).mono ?_; rintro e w2 ⟨rfl, hw2⟩; obtain rfl := hw2.symm; rw [HX.out]))
      go_round
      case rel => exact ⟨k, by omega, by go_num, congrArg (Value.int .u64) HN.out⟩
      case measure => simp [intOf]
    · obtain rfl : m = 0 := by omega
      go_wp2
      go_ret2
      exact ⟨by simp, HST.out⟩
theorem div_pow (v : Int) (k : Nat) : v / 256 ^ k / 256 = v / 256 ^ (k + 1) := by rw [Int.pow_succ, Int.ediv_ediv_of_nonneg (Int.pow_nonneg (by decide))]
theorem div_b (v : Int) (v0 : 0 ≤ v) (v1 : v < 18446744073709551616) (k : Nat) : 0 ≤ v / 256 ^ k ∧ v / 256 ^ k < 18446744073709551616 := by
  have hp : (0 : Int) < 256 ^ k := Int.pow_pos (by decide)
  exact ⟨Int.ediv_nonneg v0 (by omega), Int.lt_of_le_of_lt (Int.ediv_le_self _ v0) v1⟩
set_option maxHeartbeats 1000000 in
theorem q_Write (w : World) (S : Nat → Prop) (p : Nat) (base : Int) (n : Nat) (f : Nat → Int) (h : RMem w S p base n f) (off size : Nat) (hl : off + size ≤ 4096 * n) (hw : size = 1 ∨ size = 2 ∨ size = 4 ∨ size = 8) (addr : Int) (ha : addr = base + off) (v : Int) (v0 : 0 ≤ v) (v1 : v < 18446744073709551616) :
    Calls Tryz.prog 46 #[.pointer (some ⟨p, 0, none⟩), .int .u64 addr, .int .i64 size, .int .u64 v] w fun e w' => ∃ S', e = .returned (.bool true) ∧ RMem w' S' p base n (put f off size (byt v)) ∧ Only S w w' ∧ ∀ k, S' k → S k ∨ w.heap.size ≤ k := by
  subst ha
  obtain ⟨b0, b1, l0, l1⟩ := h.nums
  have hh := hasB_of (base := base) hl
  have hwd : decide ((size : Int) = 1 ∨ (size : Int) = 2 ∨ (size : Int) = 4 ∨ (size : Int) = 8) = true := by simp; omega
  have hs8 : 0 < size ∧ size ≤ 8 := by omega
  have HR := hid h
  clear hw h
  go_enter Tryz.func46, Tryz.ntmps46
  go_wp2_with (first
    | (go_at_call 59; refine (q_right _ w).mono ?_; rintro e w1 ⟨rfl, hw1⟩; obtain rfl := hw1.symm; rw [hwd])
    | (go_at_call 48; refine (q_HasM w S p base n f HR.out _ _ (by omega) (by omega) (by omega) (by omega)).mono ?_; rintro e w1 ⟨rfl, hst⟩; rw [hh]; have HST := hid hst; clear hst))
  go_loopw [3, 9] (fun x i wr => ∃ (k : Nat) (S' : Nat → Prop), k ≤ size ∧ i = .int .i64 k ∧ x = .int .u64 (v / 256 ^ k) ∧ RMem wr S' p base n (put f off k (byt v)) ∧ Only S w wr ∧ ∀ k, S' k → S k ∨ w.heap.size ≤ k) (fun _ i _ => size - (intOf i).toNat)
  case atStart => exact ⟨0, S, by omega, rfl, by simp, by rw [put_zero]; exact HR.out.below (HST.out.below _), HST.out.only, fun k q => .inl q⟩
  case round =>
    obtain ⟨k, S', hk, rfl, rfl, hr, ho, hS⟩ := hrel
    have HR2 := hid hr
    have HO := hid ho
    have HS := hid hS
    clear hr ho hS
    obtain ⟨V, hV⟩ : ∃ V, v / 256 ^ k = V := ⟨_, rfl⟩
    have hVb := div_b v v0 v1 k
    have HVn : Hid (v / 256 ^ (k + 1) = V / 256) := by show _ = _; rw [← hV, div_pow]
    have HVb : Hid (V % 256 = byt v k) := by show _ = _; rw [← hV]; rfl
    rw [hV] at hVb ⊢
    clear hV
    by_cases hlt : k < size
    · go_wp2_with (first
        | (go_at_call 49; refine (q_put wr S' p base n _ HR2.out (off + k) (by omega) _ (by omega) (V % 256) (by omega) (by omega)).mono ?_; rintro e w2 ⟨S2, rfl, hm, ho, hS2⟩; rw [put_step _ _ _ _ _ HVb.out] at hm; have HM2 := hid hm; have HO2 := hid ho; have HS2 := hid hS2; clear hm ho hS2))
      go_roundw
      case rel => exact ⟨k + 1, S2, by omega, by go_num, by rw [HVn.out], HM2.out, HO.out.trans' HO2.out (fun i hi q => by
          rcases HS.out i q with q | q
          · exact q
          · omega), fun i q => by
          rcases HS2.out i q with q | q
          · exact HS.out i q
          · exact .inr (Nat.le_trans HO.out.size q)⟩
      case measure => simp [intOf]; omega
    · obtain rfl : k = size := by omega
      go_wp2
      go_ret
      exact ⟨S', rfl, HR2.out, HO.out, HS.out⟩
set_option maxHeartbeats 1000000 in
theorem q_Fill (w : World) (S : Nat → Prop) (p : Nat) (base : Int) (n : Nat) (f : Nat → Int) (h : RMem w S p base n f) (off len cap : Nat) (hl : off + len ≤ 4096 * n) (addr : Int) (ha : addr = base + off) (ad : Option Addr) (s : Nat → Int) (hs0 : ∀ j, 0 ≤ s j ∧ s j < 256)
    (aa : Addr) (src : 0 < len → ad = some aa ∧ aa.block < w.heap.size ∧ ¬ S aa.block ∧ ∀ j, j < len → w.cell? (aa.add j) = some (.int .u8 (s j))) :
    Calls Tryz.prog 28 #[.pointer (some ⟨p, 0, none⟩), .int .u64 addr, .slice ad len cap] w fun e w' => ∃ S', e = .returned (.bool true) ∧ RMem w' S' p base n (put f off len s) ∧ Only S w w' ∧ ∀ k, S' k → S k ∨ w.heap.size ≤ k := by
  subst ha
  obtain ⟨b0, b1, l0, l1⟩ := h.nums
  have hh := hasB_of (base := base) hl
  have HSR := hid src
  have HR := hid h
  have HS0 := hid hs0
  clear src h hs0
  go_enter Tryz.func28, Tryz.ntmps28
  go_wp2_with (first
    | (go_at_call 48; refine (q_HasM w S p base n f HR.out _ _ (by omega) (by omega) (by omega) (by omega)).mono ?_; rintro e w1 ⟨rfl, hst⟩; rw [hh]; have HST := hid hst; clear hst))
  go_loopw [7] (fun i wr => ∃ (k : Nat) (S' : Nat → Prop), k ≤ len ∧ i = .int .i64 k ∧ RMem wr S' p base n (put f off k s) ∧ Only S w wr ∧ ∀ k, S' k → S k ∨ w.heap.size ≤ k) (fun i _ => len - (intOf i).toNat)
  case atStart => exact ⟨0, S, by omega, rfl, by rw [put_zero]; exact HR.out.below (HST.out.below _), HST.out.only, fun k q => .inl q⟩
  case round =>
    obtain ⟨k, S', hk, rfl, hr, ho, hS⟩ := hrel
    have HR2 := hid hr
    have HO := hid ho
    have HS := hid hS
    clear hr ho hS
    by_cases hlt : k < len
    · obtain ⟨rfl, hab, hnS, hc⟩ := HSR.out (by omega)
      have c1 : wr.cell? (aa.add k) = some (.int .u8 (s k)) := by
        rw [← hc k hlt]; exact World.cell?_of_block (w := w) (by rw [add_block]; exact HO.out.block _ hab hnS)
      have hx := HS0.out k
      clear hc
      go_wp2_with (first
        | (go_at_call 49; refine (q_put wr S' p base n _ HR2.out (off + k) (by omega) _ (by omega) (s k) hx.1 hx.2).mono ?_; rintro e w2 ⟨S2, rfl, hm, ho, hS2⟩; rw [put_step _ _ _ _ _ rfl] at hm; have HM2 := hid hm; have HO2 := hid ho; have HS2 := hid hS2; clear hm ho hS2))
      go_roundw
      case rel => exact ⟨k + 1, S2, by omega, by go_num, HM2.out, HO.out.trans' HO2.out (fun i hi q => by
          rcases HS.out i q with q | q
          · exact q
          · omega), fun i q => by
          rcases HS2.out i q with q | q
          · exact HS.out i q
          · exact .inr (Nat.le_trans HO.out.size q)⟩
      case measure => simp [intOf]; omega
    · obtain rfl : k = len := by omega
      go_wp2
      go_ret
      exact ⟨S', rfl, HR2.out, HO.out, HS.out⟩
end Go.Proofs.YtlfdokkopgmfjaaGreatDoor.C
namespace Go.Proofs.YtlfdokkopgmfjaaGreatDoor.C
open Go.RowKit
set_option linter.unusedVariables false
set_option maxRecDepth 100000
theorem u_ssu8 : Tryz.prog.underlying 59 = some (.slice 23) := by kernel_rfl
theorem info_su8 : (Tryz.prog.info? 23).map (fun i => (i.zero, i.size, i.bytes)) = some (some (.slice none 0 0), 1, 24) := by kernel_rfl
theorem map_fv (n : Nat) : (List.replicate n (Value.slice none 0 0)).toArray = ((List.replicate n (none : Option (Nat × Nat))).map fv).toArray := by simp [fv]
theorem q_New (w : World) (base : Int) (n : Nat) (b0 : 0 ≤ base) (b1 : base ≤ 4503599627370496) (bm : base % 4096 = 0) (n0 : 0 < n) (n1 : n ≤ 1024) :
    Calls Tryz.prog 24 #[.int .u64 base, .int .i64 n] w fun e w' => ∃ p S, e = .returned (.tuple #[.pointer (some ⟨p, 0, none⟩), .int .i64 0]) ∧ RMem w' S p base n (fun _ => 0) ∧ Below w.heap.size w w' ∧ ∀ k, S k → w.heap.size ≤ k := by
  go_enter Tryz.func24, Tryz.ntmps24
  go_wp2_with (at_make; refine wpList_makes _ rfl _ _ 59 rfl 23 _ 24 u_ssu8 info_su8 rfl n rfl rfl (by omega) (by omega) _ (map_fv n) ?_)
  go_ret2
  refine ⟨w.heap.size + 1, FootQ (w.heap.size + 1) w.heap.size (List.replicate n none), by simp, ⟨w.heap.size, List.replicate n none, ⟨?_, ?_, fun i _ j _ => rfl, fun i h c hi => ?_, fun i j h c c' hi _ => ?_, fun j => by simp, b0, b1, by simpa using n0, by simpa using n1⟩, by simp, fun k => Iff.rfl⟩, ?_, ?_⟩
  · rw [heap_alloc2_new]; simp
  · rw [heap_alloc2_old]; simp
  · rw [List.getElem?_replicate] at hi; split at hi <;> simp at hi
  · rw [List.getElem?_replicate] at hi; split at hi <;> simp at hi
  · exact ((Below.refl _ _).alloc (Nat.le_refl _) _).alloc (by simp) _
  · rintro k (rfl | rfl | ⟨i, c, hi⟩)
    · omega
    · omega
    · rw [List.getElem?_replicate] at hi; split at hi <;> simp at hi
theorem q_Read_bad (w : World) (S : Nat → Prop) (p : Nat) (base : Int) (n : Nat) (f : Nat → Int) (h : RMem w S p base n f) (addr size : Int) (a0 : 0 ≤ addr) (a1 : addr < 18446744073709551616) (s0 : -9223372036854775808 ≤ size) (s1 : size ≤ 9223372036854775807) (hb : (wid size && hasB base n addr size) = false) :
    Calls Tryz.prog 34 #[.pointer (some ⟨p, 0, none⟩), .int .u64 addr, .int .i64 size] w fun e w' => e = .returned (.tuple #[.int .u64 0, .bool false]) ∧ Still w w' := by
  go_enter Tryz.func34, Tryz.ntmps34
  cases hwd : decide (size = 1 ∨ size = 2 ∨ size = 4 ∨ size = 8) with
  | false =>
    clear hb
    go_wp2_with (first
      | (go_at_call 59; refine (q_right _ w).mono ?_; rintro e w1 ⟨rfl, hw1⟩; obtain rfl := hw1.symm; rw [hwd]))
    go_ret2
    exact ⟨rfl, .refl w⟩
  | true =>
    have hb2 : hasB base n addr size = false := by
      have : wid size = true := hwd
      rw [this] at hb; simpa using hb
    clear hb
    go_wp2_with (first
      | (go_at_call 59; refine (q_right _ w).mono ?_; rintro e w1 ⟨rfl, hw1⟩; obtain rfl := hw1.symm; rw [hwd])
      | (go_at_call 48; refine (q_HasM w S p base n f h _ _ a0 a1 s0 s1).mono ?_; rintro e w1 ⟨rfl, hst⟩; rw [hb2]))
    go_ret2
    exact ⟨rfl, hst⟩
end Go.Proofs.YtlfdokkopgmfjaaGreatDoor.C
namespace Go.Proofs.YtlfdokkopgmfjaaGreatDoor.C
open Go.RowKit
set_option linter.unusedVariables false
set_option maxRecDepth 100000
/-- cells, as they stand -/
structure Cl (w : World) (ad : Option Addr) (la cap ab ao : Nat) (X : Nat → Int × Int) : Prop where
  len : la ≤ cap
  cap : cap ≤ 9223372036854775807
  at0 : 0 < la → ad = some ⟨ab, ao, none⟩ ∧ ab < w.heap.size
  cell : ∀ i, i < la → w.cell? ⟨ab, ao + i * 2, none⟩ = some (.int .i64 (X i).1) ∧ w.cell? ⟨ab, ao + i * 2 + 1, none⟩ = some (.int .u64 (X i).2)
  num : ∀ i, i < la → (-9223372036854775808 ≤ (X i).1 ∧ (X i).1 ≤ 9223372036854775807) ∧ 0 ≤ (X i).2 ∧ (X i).2 < 18446744073709551616
theorem Cl.below {w w' : World} {ad : Option Addr} {la cap ab ao : Nat} {X : Nat → Int × Int} (h : Cl w ad la cap ab ao X) (hb : Below w.heap.size w w') : Cl w' ad la cap ab ao X :=
  ⟨h.len, h.cap, fun q => ⟨(h.at0 q).1, Nat.lt_of_lt_of_le (h.at0 q).2 hb.size⟩, fun i hi => by
    have hlt := (h.at0 (by omega)).2
    have e : ∀ o, w'.cell? ⟨ab, o, none⟩ = w.cell? ⟨ab, o, none⟩ := fun o => World.cell?_of_block (w := w) (hb.block _ hlt)
    rw [e, e]; exact h.cell i hi, h.num⟩
/-- the bytes behind k cells -/
def fcl (n : Nat) (X : Nat → Int × Int) : Nat → Nat → Int
  | 0 => fun _ => 0
  | k + 1 => put (fcl n X k) (8 * ((X k).1 % (512 * n)).toNat) 8 (byt (X k).2)
theorem step_call4 {P : Program} {ops : Array Oper} {o : Oper} {a : Act} {w : World} {K : Act → World → Prop} {Q : Exit → Act → World → Prop} {E : Prop} (hgd : o.guard = none) (f : FuncId) (x y z u : Operand) (ts : Array TypeId)
    (ho : o.op = .call { callee := .value (.func f), args := #[x, y, z, u], argTypes := ts }) (vx vy vz vu : Value) (hx : a.eval x = vx) (hy : a.eval y = vy) (hz : a.eval z = vz) (hu : a.eval u = vu) (hnf : (callFunc f #[vx, vy, vz, vu]).run P w = .ok (.enter f #[vx, vy, vz, vu]) w) {R : Ending → World → Prop} (hc : Calls P f #[vx, vy, vz, vu] w R)
    (h : ∀ e w', R e w' → ∃ v, e = .returned v ∧ K (a.put o.dst v) w') :
    if Region.wanted o (yielded ops a.tmps) = true then Oper.wp P o a w K Q else E := by
  have hw : Region.wanted o (yielded ops a.tmps) = true := by simp [Region.wanted, hgd]
  rw [if_pos hw]
  have he : (execOp a.eval o).run P w = .ok (.enter f #[vx, vy, vz, vu]) w := by
    have hf : a.eval (.func f) = .func (.func f) #[] #[] := rfl
    simp [execOp, ho, resolve, invoke, Deferred.ofValue, hf, hx, hy, hz, hu, hnf]
  unfold Oper.wp
  rw [he, Oper.upon_enter]
  refine hc.mono fun e w' hR => ?_
  obtain ⟨v, rfl, hk⟩ := h e w' hR
  exact hk
end Go.Proofs.YtlfdokkopgmfjaaGreatDoor.C
