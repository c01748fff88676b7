/- The document's list: Put, Evict. -/
import Derived.Test.YtgenjhcpcjhpmaaTN
namespace Go.Proofs.Ytgenjhcpcjhpmaa
open Go.RowKit
set_option linter.unusedVariables false

theorem flat_sub {w : World} {base : Nat} {g n cap : Nat} {L : List TV} (h : Es w base (.slice (some ⟨g, 0, none⟩) n cap) L) (a m : Nat) : ∀ j u, (flat ((L.drop a).take m))[j]? = some u → w.cell? ((⟨g, a * 4, none⟩ : Addr).add j) = some u := fun j u hu => by
  rw [addr_add]
  rcases h.2 with ⟨e, _⟩ | ⟨g', cap', cur, e, hbg, hg, hnc, hcm, hcs, ht⟩
  · cases e
  · simp only [Value.slice.injEq, Option.some.injEq, Addr.mk.injEq, and_true] at e
    obtain ⟨rfl, rfl, rfl⟩ := e
    rw [← flat_take, ← flat_drop, List.getElem?_take] at hu
    split at hu
    · rw [List.getElem?_drop] at hu
      rw [cell_of_row w g _ _ _ _ hg]
      rw [← ht, List.getElem?_take] at hu
      split at hu
      · simpa using hu
      · cases hu
    · cases hu
theorem wpL_more {ops : Array Oper} {rest : List Oper} {o : Oper} {a : Act} {w : World} {Q : Exit → Act → World → Prop} (hgd : o.guard = none) (s x : Operand)
    (ho : o.op = .call { callee := .builtin .append, args := #[s, x], argTypes := #[43, 43] })
    (base : Nat) (v : Value) (M : List TV) (hs : a.eval s = v) (hown : Es w base v M) (h64 : M.length ≤ 64) (ad : Addr) (m c : Nat) (ys : List TV) (hx : a.eval x = .slice (some ad) m c) (hm : ys.length = m) (hm64 : m ≤ 64) (hy : ∀ j u, (flat ys)[j]? = some u → w.cell? (ad.add j) = some u) (hb : base ≤ w.heap.size)
    (h : ∀ v' w', Es w' base v' (M ++ ys) → w.grownBy w' v.ownBlock → wpList Try.prog ops Q rest (a.put o.dst v') w') : wpList Try.prog ops Q (o :: rest) a w := by
  obtain ⟨i0, hi, hz0, hz1, hz2⟩ := info_parts info_t
  refine wpList_append_own _ hgd s x 43 ho base 33 i0 (.agg #[.int .i64 0, .int .u64 0, .int .u64 0, .int .i64 0]) 4 32 u_sT hi hz0 hz1 hz2 rfl (by decide) v M.length (flat M) hs hown ad m c (flat ys) hx (by rw [flat_length, hm]) hy (flat_one' _) (by unfold maxLen; omega) (by omega) hb ?_
  intro v' w' h1 h2 _
  refine h v' w' ?_ h2
  unfold Es
  rw [flat_append, List.length_append, hm]
  exact h1
theorem r_Evict_no (w : World) (q room : Nat) (v : Value) (L : List TV) (h : RM w q room v L) (i : Int) (hi : i < 0 ∨ (L.length : Int) ≤ i) : Calls Try.prog 15 #[.pointer (some ⟨q, 0, none⟩), .int .i64 i] w fun e w' => e = .returned (.bool false) ∧ w' = w := by
  have c1 := h.c1
  have hl := h.len
  obtain ⟨ad, cap, rfl, hrd⟩ := h.es.rd
  clear h hrd
  rcases hi with hi | hi
  · go_enter Try.func15, Try.ntmps15
    go_wp2
    go_ret
    exact ⟨rfl, rfl⟩
  · have h1 : ¬ i < 0 := by omega
    go_enter Try.func15, Try.ntmps15
    go_wp2
    go_ret
    exact ⟨rfl, rfl⟩
theorem Es.cap {w : World} {base : Nat} {g n cap : Nat} {L : List TV} (h : Es w base (.slice (some ⟨g, 0, none⟩) n cap) L) : n ≤ cap ∧ cap ≤ 9223372036854775807 := by
  rcases h.2 with ⟨e, _⟩ | ⟨g', cap', cur, e, hbg, hg, hnc, hcm, hcs, ht⟩
  · cases e
  · simp only [Value.slice.injEq, Option.some.injEq, Addr.mk.injEq, and_true] at e
    obtain ⟨rfl, rfl, rfl⟩ := e
    unfold maxLen at hcm
    exact ⟨hnc, by omega⟩
theorem Es.strong {w : World} {base : Nat} {v : Value} {L : List TV} (h : Es w 0 v L) (hb : ∀ k, v.ownBlock = some k → base ≤ k) : Es w base v L :=
  ⟨h.1, h.2.imp id fun ⟨g, cap, cur, e, _, hg, rest⟩ => ⟨g, cap, cur, e, hb g (by rw [e]; rfl), hg, rest⟩⟩
theorem grown_only {w w' : World} {row : Option Nat} (h : w.grownBy w' row) : Only (fun k => row = some k) w w' := ⟨h.os, h.tape, h.output, h.size, fun k hk hs => h.block k hk (fun e => hs e.symm)⟩
theorem RM.put {w w' : World} {q room : Nat} {v : Value} {L : List TV} {S : Nat → Prop} (h : RM w q room v L) (ho : Only S w w') (hs : ¬ S q) {base : Nat} {v' : Value} {L' : List TV} (he : Es w' base v' L') (hl : L'.length ≤ 64) : RM (w'.setCell ⟨q, 1, none⟩ v') q room v' L' := by
  have hq := ho.old h.top hs
  refine ⟨by rw [heap_setCell_same _ _ 1 _ _ _ hq]; rfl, he.weak.only (S := (· = q)) ((Only.refl (S := (· = q)) w').setCell (p := ⟨q, 1, none⟩) (.inl rfl) _) (fun k hk e => ?_), hl, h.room⟩
  obtain ⟨cur, hc⟩ := he.block hk
  subst e
  have := hq.symm.trans hc
  simp at this
set_option maxHeartbeats 2000000 in
theorem r_Evict (w : World) (q room : Nat) (v : Value) (L : List TV) (h : RM w q room v L) (k : Nat) (hk : k < L.length) (i : Int) (hi : i = k) : Calls Try.prog 15 #[.pointer (some ⟨q, 0, none⟩), .int .i64 i] w fun e w' => e = .returned (.bool true) ∧ ∃ v', RM w' q room v' (L.take k ++ L.drop (k + 1)) ∧ Only (· = q) w w' ∧ ∀ k, v'.ownBlock = some k → w.heap.size ≤ k := by
  subst hi
  have H := hid h
  have c1 := h.c1
  have hl := h.len
  obtain ⟨g, cap, rfl⟩ := h.es.form (by omega)
  obtain ⟨hc1, hc2⟩ := h.es.cap
  have g1 : ¬ (k : Int) < 0 := by omega
  have g2 : ¬ (L.length : Int) ≤ k := by omega
  have hs1 : ∀ j u, (flat (L.take k))[j]? = some u → w.cell? ((⟨g, 0, none⟩ : Addr).add j) = some u := by
    have := flat_sub h.es 0 k
    simpa using this
  have hs2 := flat_sub h.es (k + 1) (L.length - (k + 1))
  have e1 : (L.drop (k + 1)).take (L.length - (k + 1)) = L.drop (k + 1) := List.take_of_length_le (by simp)
  rw [e1] at hs2
  have T1 : Hid True := trivial
  have hql := h.lt
  have hgl := (h.es.lt rfl).2
  have HZ : Hid (∀ w1, w.grownBy w1 none → w1.cell? ⟨q, 1, none⟩ = some (.slice (some ⟨g, 0, none⟩) L.length cap) ∧ w1.frozen? ⟨q, 1, none⟩ = false ∧ (∀ o, w1.cell? ⟨g, o, none⟩ = w.cell? ⟨g, o, none⟩) ∧ w1.heap[q]? = w.heap[q]?) := fun w1 hg =>
    ⟨(World.cell?_of_block (w := w) (hg.block q hql (by simp))).trans H.out.c1, (World.frozen?_of_block (w := w) (hg.block q hql (by simp))).trans (H.out.z 1), fun o => World.cell?_of_block (w := w) (hg.block g hgl (by simp)), hg.block q hql (by simp)⟩
  have hla : (L.take k).length = k := by simp; omega
  have hld : (L.drop (k + 1)).length = L.length - (k + 1) := by simp
  generalize L.take k = A at *
  generalize L.drop (k + 1) = D at *
  generalize hE : A ++ D = E at *
  have HE := hid hE
  have HAl := hid hla
  have HDl := hid hld
  have HS1 := hid hs1
  have HS2 := hid hs2
  have HEl : Hid (E.length ≤ 64) := by show _ ≤ _; rw [← hE, List.length_append]; omega
  clear h e1 hs1 hs2 hla hld hE
  by_cases hcc : cap = k + 1
  · obtain rfl := hcc
    have hkl : L.length - (k + 1) = 0 := by omega
    have HKL := hid hkl
    clear hkl
    go_enter Try.func15, Try.ntmps15
    go_wp2_with (first
      | (at_builtin; have := T1.out; clear T1; refine wpL_more rfl _ _ rfl w.heap.size (.slice none 0 0) [] rfl (Es.nil _ _) (by simp) ⟨g, 0, none⟩ k (k + 1) A rfl HAl.out (by omega) HS1.out (Nat.le_refl _) ?_; intro v1 w1 he1 hg1; rw [List.nil_append] at he1; have HE1 := hid he1; have HG1 := hid hg1; obtain ⟨ad1, cap1, rfl, -⟩ := he1.rd; obtain ⟨k1, k2, k3, k4⟩ := HZ.out w1 hg1; have HK3 := hid k3; have HK4 := hid k4; clear he1 hg1 k3 k4)
      | (at_builtin; refine wpL_more rfl _ _ rfl w.heap.size _ A rfl HE1.out (by have := HAl.out; omega) ⟨g, 0, none⟩ 0 0 D rfl (HDl.out.trans HKL.out) (by omega) (by intro j u hj; rw [List.eq_nil_of_length_eq_zero (HDl.out.trans HKL.out)] at hj; simp [flat] at hj) HG1.out.size ?_; intro v2 w2 he2 hg2; rw [HE.out] at he2; have HE2 := hid he2; have HG2 := hid hg2; obtain ⟨ad2, cap2, rfl, -⟩ := he2.rd; have HO2 := hid (grown_only hg2); have hne : ¬ (Value.slice ad1 A.length cap1).ownBlock = some q := (fun e => by have := (HE1.out.lt e).1; omega); have HP2 := hid (HO2.out.old (HK4.out.trans H.out.top) hne); have m1 : w2.cell? ⟨q, 1, none⟩ = some (.slice (some ⟨g, 0, none⟩) L.length (k + 1)) := (by rw [cell_of_row w2 _ 1 _ _ _ HP2.out]; rfl); have m2 : w2.frozen? ⟨q, 1, none⟩ = false := frozen_of_row w2 _ 1 _ _ HP2.out; have HNE := hid hne; clear he2 hg2 hne))
    go_ret
    refine ⟨rfl, _, RM.put (H.out) (((grown_only HG1.out).mono (T := fun k => w.heap.size ≤ k) (fun k _ z => by cases z)).trans' (T := fun k => w.heap.size ≤ k) (HO2.out.mono (fun k _ z => (HE1.out.lt z).1)) (fun k _ z => z)) (by omega) HE2.out HEl.out, ?_, fun k' hk' => (HE2.out.lt hk').1⟩
    exact (((grown_only HG1.out).mono (T := (· = q)) (fun k _ z => by cases z)).trans' (HO2.out) (fun k hk z => by have := (HE1.out.lt z).1; omega)).setCell (p := ⟨q, 1, none⟩) (.inl rfl) _
  · go_enter Try.func15, Try.ntmps15
    go_wp2_with (first
      | (at_builtin; have := T1.out; clear T1; refine wpL_more rfl _ _ rfl w.heap.size (.slice none 0 0) [] rfl (Es.nil _ _) (by simp) ⟨g, 0, none⟩ k cap A rfl HAl.out (by omega) HS1.out (Nat.le_refl _) ?_; intro v1 w1 he1 hg1; rw [List.nil_append] at he1; have HE1 := hid he1; have HG1 := hid hg1; obtain ⟨ad1, cap1, rfl, -⟩ := he1.rd; obtain ⟨k1, k2, k3, k4⟩ := HZ.out w1 hg1; have HK3 := hid k3; have HK4 := hid k4; clear he1 hg1 k3 k4)
      | (at_builtin; refine wpL_more rfl _ _ rfl w.heap.size _ A rfl HE1.out (by have := HAl.out; omega) ⟨g, (k + 1) * 4, none⟩ (L.length - (k + 1)) (cap - (k + 1)) D rfl HDl.out (by omega) (fun j u hj => by rw [addr_add, HK3.out, ← addr_add]; exact HS2.out j u hj) HG1.out.size ?_; intro v2 w2 he2 hg2; rw [HE.out] at he2; have HE2 := hid he2; have HG2 := hid hg2; obtain ⟨ad2, cap2, rfl, -⟩ := he2.rd; have HO2 := hid (grown_only hg2); have hne : ¬ (Value.slice ad1 A.length cap1).ownBlock = some q := (fun e => by have := (HE1.out.lt e).1; omega); have HP2 := hid (HO2.out.old (HK4.out.trans H.out.top) hne); have m1 : w2.cell? ⟨q, 1, none⟩ = some (.slice (some ⟨g, 0, none⟩) L.length cap) := (by rw [cell_of_row w2 _ 1 _ _ _ HP2.out]; rfl); have m2 : w2.frozen? ⟨q, 1, none⟩ = false := frozen_of_row w2 _ 1 _ _ HP2.out; have HNE := hid hne; clear he2 hg2 hne))
    go_ret
    refine ⟨rfl, _, RM.put (H.out) (((grown_only HG1.out).mono (T := fun k => w.heap.size ≤ k) (fun k _ z => by cases z)).trans' (T := fun k => w.heap.size ≤ k) (HO2.out.mono (fun k _ z => (HE1.out.lt z).1)) (fun k _ z => z)) (by omega) HE2.out HEl.out, ?_, fun k' hk' => (HE2.out.lt hk').1⟩
    exact (((grown_only HG1.out).mono (T := (· = q)) (fun k _ z => by cases z)).trans' (HO2.out) (fun k hk z => by have := (HE1.out.lt z).1; omega)).setCell (p := ⟨q, 1, none⟩) (.inl rfl) _
end Go.Proofs.Ytgenjhcpcjhpmaa
