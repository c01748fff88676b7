/- Package page: the second stage. -/
import Derived.Test.YtjkihlpckgaggaaGreatCPC
import Derived.Handy
import Derived.Test.YtjkihlpckgaggaaGreatMC2
namespace Go.Proofs.YtjkihlpckgaggaaGreat.C
open Go.RowKit
set_option linter.unusedVariables false
set_option maxRecDepth 100000

/-- what is read is a word, and the fault is one of three -/
def RdOk (R : Int → Int × Int) : Prop := ∀ a, (0 ≤ (R a).1 ∧ (R a).1 < 18446744073709551616) ∧ ((R a).2 = 0 ∨ (R a).2 = 2 ∨ (R a).2 = 3)
structure DOk (r : DR) (wrong : Int) : Prop where
  lev : r.level ≤ 2
  leaf0 : 0 ≤ r.leaf
  leaf1 : r.leaf < 18014398509481984
  tab0 : 0 ≤ r.table
  tab1 : r.table < 18446744073709551616
  flt : r.fault = 0 ∨ r.fault = wrong ∨ r.fault = 2 ∨ r.fault = 3
theorem D_ok {R : Int → Int × Int} (hR : RdOk R) (addr wrong : Int) : ∀ (k : Nat) (t : Int), k ≤ 2 → 0 ≤ t → t < 18446744073709551616 → DOk (D R addr wrong k t) wrong := by
  intro k
  induction k with
  | zero =>
    intro t hk t0 t1
    obtain ⟨⟨e0, e1⟩, hf⟩ := hR (atF addr 0 t)
    by_cases g1 : 4503599627370495 < t
    · rw [D_high g1]; exact ⟨hk, (show (0 : Int) ≤ 0 by decide), (show (0 : Int) < 18014398509481984 by decide), t0, t1, .inr (.inr (.inr rfl))⟩
    · have g1 : t ≤ 4503599627370495 := by omega
      by_cases g2 : (R (atF addr 0 t)).2 = 0
      · cases g3 : wr (R (atF addr 0 t)).1
        · cases g4 : lf (R (atF addr 0 t)).1
          · rw [D_end g1 g2 g3 g4]; exact ⟨hk, (show (0 : Int) ≤ 0 by decide), (show (0 : Int) < 18014398509481984 by decide), t0, t1, .inr (.inl rfl)⟩
          · by_cases g5 : num (R (atF addr 0 t)).1 % pw 0 = 0
            · rw [D_leaf g1 g2 g3 g4 g5]; exact ⟨hk, e0, wr_lt g3, t0, t1, .inl rfl⟩
            · rw [D_mis g1 g2 g3 g4 g5]; exact ⟨hk, (show (0 : Int) ≤ 0 by decide), (show (0 : Int) < 18014398509481984 by decide), t0, t1, .inr (.inl rfl)⟩
        · rw [D_wrong g1 g2 g3]; exact ⟨hk, (show (0 : Int) ≤ 0 by decide), (show (0 : Int) < 18014398509481984 by decide), t0, t1, .inr (.inl rfl)⟩
      · rw [D_fault g1 g2]; exact ⟨hk, (show (0 : Int) ≤ 0 by decide), (show (0 : Int) < 18014398509481984 by decide), t0, t1, by rcases hf with q | q | q; exact absurd q g2; exact .inr (.inr (.inl q)); exact .inr (.inr (.inr q))⟩
  | succ k ih =>
    intro t hk t0 t1
    obtain ⟨⟨e0, e1⟩, hf⟩ := hR (atF addr (k + 1) t)
    by_cases g1 : 4503599627370495 < t
    · rw [D_high g1]; exact ⟨hk, (show (0 : Int) ≤ 0 by decide), (show (0 : Int) < 18014398509481984 by decide), t0, t1, .inr (.inr (.inr rfl))⟩
    · have g1 : t ≤ 4503599627370495 := by omega
      by_cases g2 : (R (atF addr (k + 1) t)).2 = 0
      · cases g3 : wr (R (atF addr (k + 1) t)).1
        · cases g4 : lf (R (atF addr (k + 1) t)).1
          · rw [D_next g1 g2 g3 g4]
            have := wr_lt g3
            exact ih _ (by omega) (by unfold num; omega) (by unfold num; omega)
          · by_cases g5 : num (R (atF addr (k + 1) t)).1 % pw (k + 1) = 0
            · rw [D_leaf g1 g2 g3 g4 g5]; exact ⟨hk, e0, wr_lt g3, t0, t1, .inl rfl⟩
            · rw [D_mis g1 g2 g3 g4 g5]; exact ⟨hk, (show (0 : Int) ≤ 0 by decide), (show (0 : Int) < 18014398509481984 by decide), t0, t1, .inr (.inl rfl)⟩
        · rw [D_wrong g1 g2 g3]; exact ⟨hk, (show (0 : Int) ≤ 0 by decide), (show (0 : Int) < 18014398509481984 by decide), t0, t1, .inr (.inl rfl)⟩
      · rw [D_fault g1 g2]; exact ⟨hk, (show (0 : Int) ≤ 0 by decide), (show (0 : Int) < 18014398509481984 by decide), t0, t1, by rcases hf with q | q | q; exact absurd q g2; exact .inr (.inr (.inl q)); exact .inr (.inr (.inr q))⟩
theorem rdm_ok (n : Nat) (f : Nat → Int) (hf : ∀ j, 0 ≤ f j ∧ f j < 256) : RdOk (rdm n f) := by
  intro a
  unfold rdm
  split
  · have := nu_lt (fun j => f (a.toNat + j)) (fun j => hf _) 8
    exact ⟨⟨this.1, this.2⟩, .inl rfl⟩
  · exact ⟨⟨by decide, by decide⟩, .inr (.inr rfl)⟩
/-- what find says -/
def fd2 (r : DR) (acc : Int) : Int := if r.fault ≠ 0 then r.fault else if al r.leaf acc = true then 0 else 2
end Go.Proofs.YtjkihlpckgaggaaGreat.C
namespace Go.Proofs.YtjkihlpckgaggaaGreat.C
open Go.RowKit
set_option linter.unusedVariables false
set_option maxRecDepth 100000

/-- both hold F; U: their blocks -/
def Tw (w : World) (U : Nat → Prop) (p q n : Nat) (F : Nat → Int) : Prop :=
  ∃ S T, Mem w S p 0 n F ∧ RMem w T q 0 n F ∧ (∀ k, U k ↔ S k ∨ T k) ∧ ∀ k, S k → ¬ T k
theorem Tw.lt {w : World} {U : Nat → Prop} {p q n : Nat} {F : Nat → Int} (h : Tw w U p q n F) {k : Nat} (hk : U k) : k < w.heap.size := by
  obtain ⟨S, T, h1, h2, h3, h4⟩ := h
  rcases (h3 k).1 hk with q | q
  · exact h1.lt q
  · exact h2.lt q
theorem Tw.only {w w' : World} {U : Nat → Prop} {p q n : Nat} {F : Nat → Int} (h : Tw w U p q n F) {V : Nat → Prop} (ho : Only V w w') (hd : ∀ k, U k → ¬ V k) : Tw w' U p q n F := by
  obtain ⟨S, T, h1, h2, h3, h4⟩ := h
  exact ⟨S, T, h1.only ho fun k hk => hd k ((h3 k).2 (.inl hk)), h2.only ho fun k hk => hd k ((h3 k).2 (.inr hk)), h3, h4⟩
theorem Tw.below {w w' : World} {U : Nat → Prop} {p q n : Nat} {F : Nat → Int} (h : Tw w U p q n F) (hb : Below w.heap.size w w') : Tw w' U p q n F :=
  h.only (V := fun _ => False) (.ofBelow hb) fun _ _ q => q
theorem Tw.byt {w : World} {U : Nat → Prop} {p q n : Nat} {F : Nat → Int} (h : Tw w U p q n F) (j : Nat) : 0 ≤ F j ∧ F j < 256 := by
  obtain ⟨S, T, h1, _⟩ := h
  exact h1.byt j
theorem Tw.nums {w : World} {U : Nat → Prop} {p q n : Nat} {F : Nat → Int} (h : Tw w U p q n F) : 0 < n ∧ n ≤ 1024 := by
  obtain ⟨S, T, h1, _⟩ := h
  exact h1.nums.2.2
theorem c_TwoWrite (w : World) (U : Nat → Prop) (p q n : Nat) (F : Nat → Int) (h : Tw w U p q n F) (off : Nat) (hl : off + 8 ≤ 4096 * n) (v : Int) (v0 : 0 ≤ v) (v1 : v < 18446744073709551616) (a : Int) (ha : a = off) :
    Calls Tryz.prog 30 #[.agg #[.pointer (some ⟨p, 0, none⟩), .pointer (some ⟨q, 0, none⟩)], .int .u64 a, .int .i64 8, .int .u64 v] w fun r w' => r = .returned (.tuple #[]) ∧ ∃ U', Tw w' U' p q n (put F off 8 (byt v)) ∧ Only U w w' ∧ ∀ k, U' k → U k ∨ w.heap.size ≤ k := by
  subst ha
  obtain ⟨S, T, h1, h2, h3, h5⟩ := h
  have H1 := hid h1
  have H2 := hid h2
  have H3 := hid h3
  have H5 := hid h5
  clear h1 h2 h3 h5
  have hns : ¬ S w.heap.size := fun q => Nat.lt_irrefl _ (Mem.lt H1.out q)
  obtain ⟨wa, hwa⟩ : ∃ wa, wa = w.alloc (.cells #[.pointer (some ⟨p, 0, none⟩), .pointer (some ⟨q, 0, none⟩)] 33) := ⟨_, rfl⟩
  have HA : Hid (Below w.heap.size w wa) := by rw [hwa]; exact (Below.refl _ _).alloc (Nat.le_refl _) _
  have HWA := hid hwa
  have HC : Hid (wa.heap[w.heap.size]? = some (.cells #[.pointer (some ⟨p, 0, none⟩), .pointer (some ⟨q, 0, none⟩)] 33 (0, 0))) := by rw [hwa]; exact heap_alloc_new w _
  clear hwa
  go_enter Tryz.func30, Tryz.ntmps30
  go_wp2_with (first
    | (go_at_call 45; rw [← HWA.out]; refine (c_Write wa S p 0 n F (Mem.below H1.out HA.out) off 8 hl (by decide) _ (by omega) v v0 v1).mono ?_; rintro e w1 ⟨S', rfl, hm1, ho1, hS1⟩; have HM1 := hid hm1; have HO1 := hid ho1; have HS1 := hid hS1; have HC1 := hid (ho1.old HC.out hns); have k0 : w1.cell? ⟨w.heap.size, 0, none⟩ = some (.pointer (some ⟨p, 0, none⟩)) := (by rw [cell_of_row w1 _ 0 _ _ _ HC1.out]; rfl); have k1 : w1.cell? ⟨w.heap.size, 1, none⟩ = some (.pointer (some ⟨q, 0, none⟩)) := (by rw [cell_of_row w1 _ 1 _ _ _ HC1.out]; rfl); clear hm1 ho1 hS1)
    | (go_at_call 46; refine (q_Write w1 T q 0 n F (RMem.only (RMem.below H2.out HA.out) HO1.out (fun k hk hs => H5.out k hs hk)) off 8 hl (by decide) _ (by omega) v v0 v1).mono ?_; rintro e w2 ⟨T', rfl, hm2, ho2, hT2⟩; have HM2 := hid hm2; have HO2 := hid ho2; have HT2 := hid hT2; clear hm2 ho2 hT2))
  go_returns
  have q1 := HA.out.size
  have q2 := HO1.out.size
  have q3 : ∀ k, T k → k < w.heap.size := fun k hk => RMem.lt H2.out hk
  have q4 : ∀ k, S' k → k < w1.heap.size := fun k hk => Mem.lt HM1.out hk
  refine ⟨rfl, fun k => S' k ∨ T' k, ⟨S', T', Mem.only HM1.out HO2.out (fun k hk ht => ?_), HM2.out, fun k => Iff.rfl, fun k hk ht => ?_⟩, ?_, fun k hk => ?_⟩
  · rcases HS1.out k hk with z | z
    · exact H5.out k z ht
    · have := q3 k ht; omega
  · have := q4 k hk
    rcases HT2.out k ht with z | z
    · rcases HS1.out k hk with y | y
      · exact H5.out k y z
      · have := q3 k z; omega
    · omega
  · exact (Only.ofBelow HA.out).trans ((HO1.out.mono fun k _ z => (H3.out k).2 (.inl z)).trans (HO2.out.mono fun k _ z => (H3.out k).2 (.inr z)))
  · rcases hk with hk | hk
    · rcases HS1.out k hk with z | z
      · exact .inl ((H3.out k).2 (.inl z))
      · exact .inr (by omega)
    · rcases HT2.out k hk with z | z
      · exact .inl ((H3.out k).2 (.inr z))
      · exact .inr (by omega)
/-- cells, as they stand -/
structure Cl (w : World) (ad : Option Addr) (la cap ab ao : Nat) (X : Nat → Int × Int) : Prop where
  len : la ≤ cap
  cap : cap ≤ 9223372036854775807
  at0 : 0 < la → ad = some ⟨ab, ao, none⟩ ∧ ab < w.heap.size
  cell : ∀ i, i < la → w.cell? ⟨ab, ao + i * 2, none⟩ = some (.int .i64 (X i).1) ∧ w.cell? ⟨ab, ao + i * 2 + 1, none⟩ = some (.int .u64 (X i).2)
  num : ∀ i, i < la → (-9223372036854775808 ≤ (X i).1 ∧ (X i).1 ≤ 9223372036854775807) ∧ 0 ≤ (X i).2 ∧ (X i).2 < 18446744073709551616
theorem Cl.below {w w' : World} {ad : Option Addr} {la cap ab ao : Nat} {X : Nat → Int × Int} (h : Cl w ad la cap ab ao X) (hb : Below w.heap.size w w') : Cl w' ad la cap ab ao X :=
  ⟨h.len, h.cap, fun q => ⟨(h.at0 q).1, Nat.lt_of_lt_of_le (h.at0 q).2 hb.size⟩, fun i hi => by
    have hlt := (h.at0 (by omega)).2
    have e : ∀ o, w'.cell? ⟨ab, o, none⟩ = w.cell? ⟨ab, o, none⟩ := fun o => World.cell?_of_block (w := w) (hb.block _ hlt)
    rw [e, e]; exact h.cell i hi, h.num⟩
/-- the bytes behind k cells -/
def fcl (n : Nat) (X : Nat → Int × Int) : Nat → Nat → Int
  | 0 => fun _ => 0
  | k + 1 => put (fcl n X k) (8 * ((X k).1 % (512 * n)).toNat) 8 (byt (X k).2)
theorem step_call4 {P : Program} {ops : Array Oper} {o : Oper} {a : Act} {w : World} {K : Act → World → Prop} {Q : Exit → Act → World → Prop} {E : Prop} (hgd : o.guard = none) (f : FuncId) (x y z u : Operand) (ts : Array TypeId)
    (ho : o.op = .call { callee := .value (.func f), args := #[x, y, z, u], argTypes := ts }) (vx vy vz vu : Value) (hx : a.eval x = vx) (hy : a.eval y = vy) (hz : a.eval z = vz) (hu : a.eval u = vu) (hnf : (callFunc f #[vx, vy, vz, vu]).run P w = .ok (.enter f #[vx, vy, vz, vu]) w) {R : Ending → World → Prop} (hc : Calls P f #[vx, vy, vz, vu] w R)
    (h : ∀ e w', R e w' → ∃ v, e = .returned v ∧ K (a.put o.dst v) w') :
    if Region.wanted o (yielded ops a.tmps) = true then Oper.wp P o a w K Q else E := by
  have hw : Region.wanted o (yielded ops a.tmps) = true := by simp [Region.wanted, hgd]
  rw [if_pos hw]
  have he : (execOp a.eval o).run P w = .ok (.enter f #[vx, vy, vz, vu]) w := by
    have hf : a.eval (.func f) = .func (.func f) #[] #[] := rfl
    simp [execOp, ho, resolve, invoke, Deferred.ofValue, hf, hx, hy, hz, hu, hnf]
  unfold Oper.wp
  rw [he, Oper.upon_enter]
  refine hc.mono fun e w' hR => ?_
  obtain ⟨v, rfl, hk⟩ := h e w' hR
  exact hk
end Go.Proofs.YtjkihlpckgaggaaGreat.C
