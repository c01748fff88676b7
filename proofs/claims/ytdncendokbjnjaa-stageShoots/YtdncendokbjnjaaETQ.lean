/- The document's list: Put. -/
import Derived.Test.YtdncendokbjnjaaME2
import Derived.BigRegion
namespace Go.Proofs.Ytdncendokbjnjaa.E
open Go.Proofs.Ytdncendokbjnjaa.C
open Go.RowKit
set_option linter.unusedVariables false
set_option maxRecDepth 100000

theorem step_append_own {P : Program} {w : World} {ops : Array Oper} {o : Oper} {a : Act} {K : Act → World → Prop} {Q : Exit → Act → World → Prop} {E : Prop} (hgd : o.guard = none) (s x : Operand) (t : TypeId)
    (ho : o.op = .call { callee := .builtin .append, args := #[s, x], argTypes := #[t, t] })
    (base : Nat) (e : TypeId) (i : TypeInfo) (z : Value) (size bytes : Nat) (ht : P.underlying t = some (.slice e)) (hi : P.info? e = some i) (hz : i.zero = some z)
    (hsize : i.size = size) (hby : i.bytes = bytes) (hzs : z.cells.size = size) (hsz : 0 < size)
    (v : Value) (n : Nat) (xs : List Value) (hs : a.eval s = v) (hown : w.ownsRow base e size v n xs)
    (ad : Addr) (m c : Nat) (news : List Value) (hx : a.eval x = .slice (some ad) m c) (hl : news.length = m * size) (hnews : ∀ j u, news[j]? = some u → w.cell? (ad.add j) = some u) (h1 : ∀ u ∈ news, u.oneCell' = true)
    (h63 : n + m ≤ maxLen) (hbytes : (n + m) * bytes ≤ 140737488355328) (hbase : base ≤ w.heap.size)
    (h : ∀ v' w', w'.ownsRow base e size v' (n + m) (xs ++ news) → w.grownBy w' v.ownBlock → K (a.put o.dst v') w') :
    if Region.wanted o (yielded ops a.tmps) = true then Oper.wp P o a w K Q else E := by
  have hw : Region.wanted o (yielded ops a.tmps) = true := by simp [Region.wanted, hgd]
  rw [if_pos hw]
  exact wp_append_own w s x t ho base e i z size bytes ht hi hz hsize hby hzs hsz v n xs hs hown ad m c news hx hl hnews h1 h63 hbytes hbase fun v' w' h2 h3 _ => h v' w' h2 h3
theorem step_push {ops : Array Oper} {o : Oper} {a : Act} {w : World} {K : Act → World → Prop} {Q : Exit → Act → World → Prop} {E : Prop} (hgd : o.guard = none) (s x : Operand)
    (ho : o.op = .call { callee := .builtin .append, args := #[s, x], argTypes := #[97, 97] })
    (base : Nat) (v : Value) (M : List TV) (hs : a.eval s = v) (hown : Es w base v M) (h64 : M.length ≤ 64) (b m : Nat) (y : TV) (hx : a.eval x = .slice (some ⟨b, 0, none⟩) 1 m) (hy : ∀ j u, y.cs[j]? = some u → w.cell? ⟨b, j, none⟩ = some u) (hb : base ≤ w.heap.size)
    (h : ∀ v' w', Es w' base v' (M ++ [y]) → w.grownBy w' v.ownBlock → K (a.put o.dst v') w') : if Region.wanted o (yielded ops a.tmps) = true then Oper.wp Try.prog o a w K Q else E := by
  obtain ⟨i0, hi, hz0, hz1, hz2⟩ := info_parts info_t
  refine step_append_own hgd s x 97 ho base 92 i0 (.agg #[.int .i64 0, .int .u64 0, .int .u64 0, .int .i64 0]) 4 32 u_sT hi hz0 hz1 hz2 rfl (by decide) v M.length (flat M) hs hown ⟨b, 0, none⟩ 1 m y.cs hx rfl (fun j u hj => by rw [addr_add, Nat.zero_add]; exact hy j u hj) y.one (by unfold maxLen; omega) (by omega) hb ?_
  intro v' w' h1 h2
  refine h v' w' ?_ h2
  unfold Es
  rw [flat_append, flat_one, List.length_append]
  exact h1
/-- what the document's Put leaves -/
def rp (room : Nat) (L : List TV) (e : TV) : List TV := (if room ≤ (fp L e.v e.p).length then (fp L e.v e.p).drop 1 else fp L e.v e.p) ++ [e]
set_option maxHeartbeats 2000000 in
theorem r_Put (w : World) (q room : Nat) (v : Value) (L : List TV) (h : RM w q room v L) (h0 : 0 < room) (hL : L.length ≤ room) (e : TV) : Calls Try.prog 35 #[.pointer (some ⟨q, 0, none⟩), e.ag] w fun r w' => r = .returned (.tuple #[]) ∧ ∃ v', RM w' q room v' (rp room L e) ∧ Only (· = q) w w' ∧ ∀ k, v'.ownBlock = some k → w.heap.size ≤ k := by
  have hql := h.lt
  have h64 := h.room
  have H : Hid (RM (w.alloc (.cells #[.int .i64 e.v, .int .u64 e.p, .int .u64 e.f, .int .i64 e.r] 92)) q room v L) := h.below ((Below.refl _ _).alloc (Nat.le_refl _) _)
  have HE : Hid (Rw (w.alloc (.cells #[.int .i64 e.v, .int .u64 e.p, .int .u64 e.f, .int .i64 e.r] 92)) w.heap.size [e]) := by show _ = _; rw [heap_alloc_new]; rfl
  have HD := hid (r_drop _ q room v L H.out e.v true e.p)
  rw [dp_fp] at HD
  have hle := fp_le L e.v e.p
  have hrp : rp room L e = (if room ≤ (fp L e.v e.p).length then (fp L e.v e.p).drop 1 else fp L e.v e.p) ++ [e] := rfl
  generalize fp L e.v e.p = M at *
  generalize rp room L e = R at *
  clear h
  by_cases hf : room ≤ M.length
  · rw [if_pos hf] at hrp
    have HRP := hid hrp
    have hdl : (M.drop 1).length = M.length - 1 := by simp
    have hsub : ∀ (W : World) (b g n c : Nat), Es W b (.slice (some ⟨g, 0, none⟩) n c) M → n = M.length → ∀ j u, (flat (M.drop 1))[j]? = some u → W.cell? ((⟨g, 1 * 4, none⟩ : Addr).add j) = some u := fun W b g n c hW hn => by
      have := flat_sub hW 1 (M.length - 1)
      rwa [List.take_of_length_le (by simp)] at this
    have HSub := hid hsub
    clear hsub
    generalize M.drop 1 = D at *
    have HDl := hid hdl
    have HRl : Hid (R.length ≤ 64) := by show _ ≤ _; rw [hrp, List.length_append]; simp; omega
    clear hrp hdl
    go_enter Try.func35, Try.ntmps35
    go_wp2_with (go_at_call 97; refine HD.out.mono ?_; rintro r w1 ⟨rfl, v1, hm1, ho1, hv1⟩; have HM1 := hid hm1; have HO1 := hid ho1; have HV1 := hid hv1; have HE1 := hid (ho1.rw HE.out (by omega)); obtain ⟨g1, cap1, rfl⟩ := hm1.es.form (by omega); have k0 := hm1.c0; have k1 := hm1.c1; clear hm1 ho1 hv1)
    go_quiet (fail)
    obtain ⟨w2, hw2⟩ : ∃ w2, w2 = w1.drewN nq := ⟨_, rfl⟩
    have HM2 : Hid (RM w2 q room (.slice (some ⟨g1, 0, none⟩) M.length cap1) M) := by rw [hw2]; exact HM1.out.below ((drewN_still w1 nq).below _)
    have HE2 : Hid (Rw w2 w.heap.size [e]) := by rw [hw2]; exact HE1.out.drewN nq
    have HO2 : Hid (Only (· = q) (w.alloc (.cells #[.int .i64 e.v, .int .u64 e.p, .int .u64 e.f, .int .i64 e.r] 92)) w2) := by rw [hw2]; exact HO1.out.trans (drewN_still w1 nq).only
    rw [← hw2]
    clear hw2 k0 k1
    have c1' := HM2.out.c1
    obtain ⟨hc1, hc2⟩ := HM2.out.es.cap
    have hq2' := HM2.out.lt
    have hb2' := HE2.out.lt
    have HS2 := hid (HSub.out _ _ _ _ _ HM2.out.es rfl)
    by_cases hcc : cap1 = 1
    · subst hcc
      have HD0 : Hid (D.length = 0) := by have := HDl.out; show _ = _; omega
      go_wp2_with (at_builtin; refine wpL_more rfl _ _ rfl w.heap.size (.slice none 0 0) [] rfl (Es.nil _ _) (by simp) ⟨g1, 0, none⟩ 0 0 D rfl (HD0.out) (by omega) (by intro j u hj; rw [List.eq_nil_of_length_eq_zero HD0.out] at hj; simp [flat] at hj) (by omega) ?_; intro v3 w3 he3 hg3; rw [List.nil_append] at he3; have HE3 := hid he3; have HG3 := hid hg3; obtain ⟨ad2, cap2, rfl, -⟩ := he3.rd; have HO3 := hid (grown_only hg3); have HP3 := hid (HO3.out.old HM2.out.top (by intro z; cases z)); have m1 : w3.cell? ⟨q, 1, none⟩ = some (.slice (some ⟨g1, 0, none⟩) M.length 1) := (by rw [cell_of_row w3 _ 1 _ _ _ HP3.out]; rfl); have m2 : w3.frozen? ⟨q, 1, none⟩ = false := frozen_of_row w3 _ 1 _ _ HP3.out; clear he3 hg3)
      obtain ⟨w4, hw4⟩ : ∃ w4, w4 = w3.setCell ⟨q, 1, none⟩ (.slice ad2 D.length cap2) := ⟨_, rfl⟩
      have HX3 := hid (HO3.out.rw HE2.out (by intro z; cases z))
      have HM4 : Hid (RM w4 q room (.slice ad2 D.length cap2) D) := by rw [hw4]; exact RM.put HM2.out HO3.out (by intro z; cases z) HE3.out (by have := HDl.out; omega)
      have HE4 : Hid (Rw w4 w.heap.size [e]) := by rw [hw4]; exact (Below.heap_setCell w3 ⟨q, 1, none⟩ _ w.heap.size (by show w.heap.size ≠ q; omega)).trans HX3.out
      have HO4 : Hid (Only (· = q) (w.alloc (.cells #[.int .i64 e.v, .int .u64 e.p, .int .u64 e.f, .int .i64 e.r] 92)) w4) := by rw [hw4]; exact (HO2.out.trans (HO3.out.mono (fun k _ z => by cases z))).setCell (p := ⟨q, 1, none⟩) (.inl rfl) _
      have HET : Hid (Es w4 w.heap.size (.slice ad2 D.length cap2) D) := HM4.out.es.strong (fun k hk => (HE3.out.lt hk).1)
      rw [← hw4]
      clear hw4 m1 m2 c1' HE3 HG3 HO3 HP3 HX3
      have p1 := HM4.out.c1
      have p2 := HM4.out.z 1
      have hq2 := HM4.out.lt
      have hb2 := HE4.out.lt
      obtain ⟨z0, z1, z2, z3⟩ := cells1 HE4.out
      have HNF : Hid (¬ (Value.slice ad2 D.length cap2).ownBlock = some q) := HM4.out.ne
      go_region_law (refine step_push rfl (.tmp 33) (.tmp 35) rfl w.heap.size (.slice ad2 D.length cap2) D (by go_simp) ((HET.out.below ((Below.refl _ _).alloc (Nat.le_refl _) _)).below (Below.refl _ _).drew) (by have := HDl.out; omega) w4.heap.size 1 e (by go_simp) (by
          intro j u hj
          unfold TV.cs at hj
          match j, hj with
          | 0, hj => simp at hj; subst hj; simp
          | 1, hj => simp at hj; subst hj; simp
          | 2, hj => simp at hj; subst hj; simp
          | 3, hj => simp at hj; subst hj; simp) (by simp; omega) ?_; intro v3 w3 he3 hg3; rw [← HRP.out] at he3; have HE3 := hid he3; have HO3 := hid (grown_only hg3); obtain ⟨ad3, cap3, rfl, -⟩ := he3.rd; have HP3 := hid (HO3.out.old ((Below.heap_alloc w4.drew _ _ hq2).trans HM4.out.top) HNF.out); have v1' : w3.cell? ⟨q, 1, none⟩ = some (.slice ad2 D.length cap2) := (by rw [cell_of_row w3 _ 1 _ _ _ HP3.out]; rfl); have v2' : w3.frozen? ⟨q, 1, none⟩ = false := frozen_of_row w3 _ 1 _ _ HP3.out; clear he3 hg3)
      all_goals
        go_returns
        refine ⟨rfl, _, RM.put (w := (w4.alloc (.cells #[.int .i64 e.v, .int .u64 e.p, .int .u64 e.f, .int .i64 e.r] 92)).drew) (HM4.out.below (((Below.refl _ _).alloc (Nat.le_refl _) _).drew)) HO3.out HNF.out HE3.out HRl.out, ?_, fun k hk => (HE3.out.lt hk).1⟩
        exact ((((Only.refl w).alloc _).trans HO4.out).trans' (((Only.refl w4).alloc _).drew.trans HO3.out) (fun k hk z => by have := (HET.out.lt z).1; omega)).setCell (p := ⟨q, 1, none⟩) (.inl rfl) _
    · go_wp2_with (at_builtin; refine wpL_more rfl _ _ rfl w.heap.size (.slice none 0 0) [] rfl (Es.nil _ _) (by simp) ⟨g1, 1 * 4, none⟩ (M.length - 1) (cap1 - 1) D rfl (HDl.out) (by omega) (HS2.out) (by omega) ?_; intro v3 w3 he3 hg3; rw [List.nil_append] at he3; have HE3 := hid he3; have HG3 := hid hg3; obtain ⟨ad2, cap2, rfl, -⟩ := he3.rd; have HO3 := hid (grown_only hg3); have HP3 := hid (HO3.out.old HM2.out.top (by intro z; cases z)); have m1 : w3.cell? ⟨q, 1, none⟩ = some (.slice (some ⟨g1, 0, none⟩) M.length cap1) := (by rw [cell_of_row w3 _ 1 _ _ _ HP3.out]; rfl); have m2 : w3.frozen? ⟨q, 1, none⟩ = false := frozen_of_row w3 _ 1 _ _ HP3.out; clear he3 hg3)
      obtain ⟨w4, hw4⟩ : ∃ w4, w4 = w3.setCell ⟨q, 1, none⟩ (.slice ad2 D.length cap2) := ⟨_, rfl⟩
      have HX3 := hid (HO3.out.rw HE2.out (by intro z; cases z))
      have HM4 : Hid (RM w4 q room (.slice ad2 D.length cap2) D) := by rw [hw4]; exact RM.put HM2.out HO3.out (by intro z; cases z) HE3.out (by have := HDl.out; omega)
      have HE4 : Hid (Rw w4 w.heap.size [e]) := by rw [hw4]; exact (Below.heap_setCell w3 ⟨q, 1, none⟩ _ w.heap.size (by show w.heap.size ≠ q; omega)).trans HX3.out
      have HO4 : Hid (Only (· = q) (w.alloc (.cells #[.int .i64 e.v, .int .u64 e.p, .int .u64 e.f, .int .i64 e.r] 92)) w4) := by rw [hw4]; exact (HO2.out.trans (HO3.out.mono (fun k _ z => by cases z))).setCell (p := ⟨q, 1, none⟩) (.inl rfl) _
      have HET : Hid (Es w4 w.heap.size (.slice ad2 D.length cap2) D) := HM4.out.es.strong (fun k hk => (HE3.out.lt hk).1)
      rw [← hw4]
      clear hw4 m1 m2 c1' HE3 HG3 HO3 HP3 HX3
      have p1 := HM4.out.c1
      have p2 := HM4.out.z 1
      have hq2 := HM4.out.lt
      have hb2 := HE4.out.lt
      obtain ⟨z0, z1, z2, z3⟩ := cells1 HE4.out
      have HNF : Hid (¬ (Value.slice ad2 D.length cap2).ownBlock = some q) := HM4.out.ne
      go_region_law (refine step_push rfl (.tmp 33) (.tmp 35) rfl w.heap.size (.slice ad2 D.length cap2) D (by go_simp) ((HET.out.below ((Below.refl _ _).alloc (Nat.le_refl _) _)).below (Below.refl _ _).drew) (by have := HDl.out; omega) w4.heap.size 1 e (by go_simp) (by
          intro j u hj
          unfold TV.cs at hj
          match j, hj with
          | 0, hj => simp at hj; subst hj; simp
          | 1, hj => simp at hj; subst hj; simp
          | 2, hj => simp at hj; subst hj; simp
          | 3, hj => simp at hj; subst hj; simp) (by simp; omega) ?_; intro v3 w3 he3 hg3; rw [← HRP.out] at he3; have HE3 := hid he3; have HO3 := hid (grown_only hg3); obtain ⟨ad3, cap3, rfl, -⟩ := he3.rd; have HP3 := hid (HO3.out.old ((Below.heap_alloc w4.drew _ _ hq2).trans HM4.out.top) HNF.out); have v1' : w3.cell? ⟨q, 1, none⟩ = some (.slice ad2 D.length cap2) := (by rw [cell_of_row w3 _ 1 _ _ _ HP3.out]; rfl); have v2' : w3.frozen? ⟨q, 1, none⟩ = false := frozen_of_row w3 _ 1 _ _ HP3.out; clear he3 hg3)
      all_goals
        go_returns
        refine ⟨rfl, _, RM.put (w := (w4.alloc (.cells #[.int .i64 e.v, .int .u64 e.p, .int .u64 e.f, .int .i64 e.r] 92)).drew) (HM4.out.below (((Below.refl _ _).alloc (Nat.le_refl _) _).drew)) HO3.out HNF.out HE3.out HRl.out, ?_, fun k hk => (HE3.out.lt hk).1⟩
        exact ((((Only.refl w).alloc _).trans HO4.out).trans' (((Only.refl w4).alloc _).drew.trans HO3.out) (fun k hk z => by have := (HET.out.lt z).1; omega)).setCell (p := ⟨q, 1, none⟩) (.inl rfl) _
  · rw [if_neg hf] at hrp
    have HRP := hid hrp
    have HRl : Hid (R.length ≤ 64) := by show _ ≤ _; rw [hrp, List.length_append]; simp; omega
    clear hrp
    go_enter Try.func35, Try.ntmps35
    go_wp2_with (go_at_call 97; refine HD.out.mono ?_; rintro r w1 ⟨rfl, v1, hm1, ho1, hv1⟩; have HM1 := hid hm1; have HO1 := hid ho1; have HV1 := hid hv1; have HE1 := hid (ho1.rw HE.out (by omega)); obtain ⟨ad1, cap1, rfl, -⟩ := hm1.es.rd; have k0 := hm1.c0; have k1 := hm1.c1; clear hm1 ho1 hv1)
    go_quiet (fail)
    go_wp2_with fail
    obtain ⟨w2, hw2⟩ : ∃ w2, w2 = w1.drewN nq := ⟨_, rfl⟩
    have HM2 : Hid (RM w2 q room (.slice ad1 M.length cap1) M) := by rw [hw2]; exact HM1.out.below ((drewN_still w1 nq).below _)
    have HE2 : Hid (Rw w2 w.heap.size [e]) := by rw [hw2]; exact HE1.out.drewN nq
    have HO2 : Hid (Only (· = q) (w.alloc (.cells #[.int .i64 e.v, .int .u64 e.p, .int .u64 e.f, .int .i64 e.r] 92)) w2) := by rw [hw2]; exact HO1.out.trans (drewN_still w1 nq).only
    rw [← hw2]
    clear hw2 k0 k1
    have HES : Hid (Es w2 w.heap.size (.slice ad1 M.length cap1) M) := HM2.out.es.strong (fun k hk => by have := HV1.out k hk; simp at this; omega)
    have q1 := HM2.out.c1
    have q2 := HM2.out.z 1
    have hq2 := HM2.out.lt
    have hb2 := HE2.out.lt
    obtain ⟨y0, y1, y2, y3⟩ := cells1 HE2.out
    have HNE : Hid (¬ (Value.slice ad1 M.length cap1).ownBlock = some q) := HM2.out.ne
    go_region_law (refine step_push rfl (.tmp 33) (.tmp 35) rfl w.heap.size (.slice ad1 M.length cap1) M (by go_simp) ((HES.out.below ((Below.refl _ _).alloc (Nat.le_refl _) _)).below (Below.refl _ _).drew) (by omega) w2.heap.size 1 e (by go_simp) (by
        intro j u hj
        unfold TV.cs at hj
        match j, hj with
        | 0, hj => simp at hj; subst hj; simp
        | 1, hj => simp at hj; subst hj; simp
        | 2, hj => simp at hj; subst hj; simp
        | 3, hj => simp at hj; subst hj; simp) (by simp; omega) ?_; intro v3 w3 he3 hg3; rw [← HRP.out] at he3; have HE3 := hid he3; have HO3 := hid (grown_only hg3); obtain ⟨ad3, cap3, rfl, -⟩ := he3.rd; have HP3 := hid (HO3.out.old ((Below.heap_alloc w2.drew _ _ hq2).trans HM2.out.top) HNE.out); have v1' : w3.cell? ⟨q, 1, none⟩ = some (.slice ad1 M.length cap1) := (by rw [cell_of_row w3 _ 1 _ _ _ HP3.out]; rfl); have v2' : w3.frozen? ⟨q, 1, none⟩ = false := frozen_of_row w3 _ 1 _ _ HP3.out; clear he3 hg3)
    all_goals
      go_returns
      refine ⟨rfl, _, RM.put (w := (w2.alloc (.cells #[.int .i64 e.v, .int .u64 e.p, .int .u64 e.f, .int .i64 e.r] 92)).drew) (HM2.out.below (((Below.refl _ _).alloc (Nat.le_refl _) _).drew)) HO3.out HNE.out HE3.out HRl.out, ?_, fun k hk => (HE3.out.lt hk).1⟩
      exact ((((Only.refl w).alloc _).trans HO2.out).trans' (((Only.refl w2).alloc _).drew.trans HO3.out) (fun k hk z => by have := (HES.out.lt z).1; omega)).setCell (p := ⟨q, 1, none⟩) (.inl rfl) _
end Go.Proofs.Ytdncendokbjnjaa.E
