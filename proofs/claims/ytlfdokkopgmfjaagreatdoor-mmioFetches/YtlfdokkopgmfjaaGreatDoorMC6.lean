/- The document's page: both stages. -/
import Derived.Test.YtlfdokkopgmfjaaGreatDoorCPU
import Derived.Test.YtlfdokkopgmfjaaGreatDoorMC3
import Derived.BigRegion
namespace Go.Proofs.YtlfdokkopgmfjaaGreatDoor.C
open Go.RowKit
set_option linter.unusedVariables false
set_option maxRecDepth 100000

theorem gst_zero (R : Int → Int × Int) (root gpa acc : Int) (h : (gst R root gpa acc).2.2 ≠ 0) : (gst R root gpa acc).1 = 0 := by
  revert h
  unfold gst
  split
  · intro h; exact absurd rfl h
  · split
    · intro _; rfl
    · split
      · intro _; rfl
      · split
        · intro h; exact absurd rfl h
        · intro _; rfl
theorem thr_wk (R : Int → Int × Int) (v : EnvV) (va acc : Int) (hx : ext va = true) (P : PlV) (dn : Bool) (hP : wk1 (D (rdg R v.root) va 1 2 (v.satp % 17592186044416)) v va acc = (P, dn)) :
    thr R v va acc = if dn = true then plOf R v.root P.gpa acc else P := by
  unfold thr
  unfold wk1 at hP
  rw [hx, if_neg (by decide)]
  generalize D (rdg R v.root) va 1 2 (v.satp % 17592186044416) = r at *
  by_cases g1 : r.fault = 1
  · rw [if_pos g1] at hP ⊢; cases hP; rfl
  · rw [if_neg g1] at hP ⊢
    by_cases g0 : r.fault = 0
    · rw [if_neg (by rw [g0]; decide)] at hP ⊢
      cases h : fa r.leaf v acc
      · rw [h] at hP; cases hP; rfl
      · rw [h] at hP; cases hP; rfl
    · rw [if_pos g0] at hP ⊢; cases hP; rfl
set_option maxHeartbeats 2000000 in
set_option maxRecDepth 100000 in
theorem q_Translate (w : World) (T : Nat → Prop) (q n : Nat) {bs : Int} (f : Nat → Int) (hm : RMem w T q bs n f) (v : EnvV) (va acc : Int) (a0 : 0 ≤ va) (a1 : va < 18446744073709551616) (s0 : 0 ≤ v.satp) (s1 : v.satp < 18446744073709551616) (r0 : 0 ≤ v.root) (r1 : v.root < 18446744073709551616) (Q : PlV) (hQ : tr (rdm bs n f) v va acc = Q) :
    Calls Tryz.prog 33 #[.pointer (some ⟨q, 0, none⟩), .agg #[.int .u64 v.satp, .int .u64 v.root, .bool v.user, .bool v.sum, .bool v.mxr], .int .u64 va, .int .i64 acc] w fun r w' => r = .returned (.agg #[.int .u64 Q.pa, .int .u64 Q.gpa, .int .i64 Q.fault, .bool Q.walk]) ∧ Below w.heap.size w w' := by
  have HM := hid hm
  have hRd := rdm_ok (bs := bs) n f hm.byt
  clear hm
  obtain ⟨wa, hwa⟩ : ∃ wa, wa = (w.alloc (.cells #[.int .u64 v.satp, .int .u64 v.root, .bool v.user, .bool v.sum, .bool v.mxr] 47)).alloc (.cells #[.int .u64 0, .int .u64 0, .int .i64 0, .bool false] 86) := ⟨_, rfl⟩
  have HA : Hid (Below w.heap.size w wa) := by rw [hwa]; exact ((Below.refl _ _).alloc (Nat.le_refl _) _).alloc (by simp) _
  have HE : Hid (EB wa w.heap.size v.satp v.root v.user v.sum v.mxr) := by
    rw [hwa]; exact (Below.heap_alloc _ _ _ (by simp)).trans (heap_alloc_new w _)
  have HRB : Hid (B4 wa (w.heap.size + 1) (.int .u64 0) (.int .u64 0) (.int .i64 0) (.bool false)) := by
    rw [hwa]
    have := heap_alloc_new (w.alloc (.cells #[.int .u64 v.satp, .int .u64 v.root, .bool v.user, .bool v.sum, .bool v.mxr] 47)) (.cells #[.int .u64 0, .int .u64 0, .int .i64 0, .bool false] 86)
    have e1 : (w.alloc (.cells #[.int .u64 v.satp, .int .u64 v.root, .bool v.user, .bool v.sum, .bool v.mxr] 47)).heap.size = w.heap.size + 1 := by simp
    rw [e1] at this
    exact this
  have HWA := hid hwa
  clear hwa
  go_enter Tryz.func33, Tryz.ntmps33
  by_cases h0 : v.satp / 1152921504606846976 = 0
  · obtain ⟨x, y, z, hg⟩ : ∃ x y z, gst (rdm bs n f) v.root va acc = (x, y, z) := ⟨_, _, _, rfl⟩
    have hz := gst_zero (rdm bs n f) v.root va acc
    rw [hg] at hz
    have hz : z ≠ 0 → x = 0 := hz
    have hq : Q = ⟨x, va, z, false⟩ := by rw [← hQ]; unfold tr plOf; rw [if_pos h0, hg]
    subst hq
    have HG := hid hg
    have HZ := hid hz
    clear hQ hg hz
    by_cases gz : z = 0
    · subst gz
      go_wp2_with (first
        | (go_at_call 58; rw [← HWA.out]; refine (q_Guest wa T q n f (HM.out.below HA.out) v.root va acc r0 r1 a0 a1 _ _ _ HG.out).mono ?_; rintro r w2 ⟨rfl, hb2⟩; have HB2 := hid (HA.out.trans (hb2.mono HA.out.size)); have HR2 := hid (HRB.out.below hb2); obtain ⟨k0, k1, k2, k3⟩ := HR2.out.c; obtain ⟨n0, n1, n2, n3⟩ := HR2.out.z; clear hb2))
      obtain ⟨y0, y1, y2, y3⟩ := HR2.out.y (.int .u64 x) (.int .u64 va) (.int .i64 0) (.bool false)
      refine bodyPost_ret (by simp [results, Tryz.results33, go_sem, y0, y1, y2, y3]; rfl) rfl ?_
      exact ⟨rfl, below4 HB2.out (Nat.le_succ _) _ _ _ _⟩
    · obtain rfl := HZ.out gz
      go_wp2_with (first
        | (go_at_call 58; rw [← HWA.out]; refine (q_Guest wa T q n f (HM.out.below HA.out) v.root va acc r0 r1 a0 a1 _ _ _ HG.out).mono ?_; rintro r w2 ⟨rfl, hb2⟩; have HB2 := hid (HA.out.trans (hb2.mono HA.out.size)); have HR2 := hid (HRB.out.below hb2); obtain ⟨k0, k1, k2, k3⟩ := HR2.out.c; obtain ⟨n0, n1, n2, n3⟩ := HR2.out.z; clear hb2))
      obtain ⟨y0, y1, y2, y3⟩ := HR2.out.y (.int .u64 0) (.int .u64 va) (.int .i64 z) (.bool false)
      refine bodyPost_ret (by simp [results, Tryz.results33, go_sem, y0, y1, y2, y3]; rfl) rfl ?_
      exact ⟨rfl, below4 HB2.out (Nat.le_succ _) _ _ _ _⟩
  · by_cases h8 : v.satp / 1152921504606846976 = 8
    · have hq : thr (rdm bs n f) v va acc = Q := by rw [← hQ]; unfold tr; rw [if_neg h0, if_pos h8]
      clear hQ
      cases hx : ext va
      · have hq' : Q = ⟨0, 0, 1, false⟩ := by rw [← hq]; unfold thr; rw [hx, if_pos rfl]
        subst hq'
        have hx2 : ¬ (va < 274877906944 ∨ 18446743798831644672 ≤ va) := by simpa [ext] using hx
        have hge : 549755813888 ≤ va + 274877906944 := by omega
        have hlt : va + 274877906944 < 18446744073709551616 := by omega
        clear hq hx
        go_wp2_with fail
        go_returns
        exact ⟨rfl, ((Below.refl _ _).alloc (Nat.le_refl _) _).alloc (by simp) _⟩
      · obtain ⟨P, dn, hP⟩ : ∃ P dn, wk1 (D (rdg (rdm bs n f) v.root) va 1 2 (v.satp % 17592186044416)) v va acc = (P, dn) := ⟨_, _, rfl⟩
        have hx2 : va < 274877906944 ∨ 18446743798831644672 ≤ va := by simpa [ext] using hx
        have hw : IntKind.u64.wrap (va + 274877906944) < 549755813888 := by rw [IntKind.wrap_u64]; omega
        rw [thr_wk (rdm bs n f) v va acc hx P dn hP] at hq
        have hok := D_ok (rdg_ok hRd v.root r0 r1) va 1 2 (v.satp % 17592186044416) (by decide) (by omega) (by omega)
        cases dn
        · rw [if_neg (by decide)] at hq
          subst hq
          have HP := hid hP
          clear hP hx
          go_wp2_with (first
            | (go_at_call 57; rw [← HWA.out]; refine (q_walk wa T q n f (HM.out.below HA.out) v va acc a0 a1 s0 s1 r0 r1 P false HP.out).mono ?_; rintro r w2 ⟨he, hb2⟩; unfold plV at he; subst he; have HB2 : Hid (Below wa.heap.size wa (w2.alloc (.cells #[.int .u64 P.pa, .int .u64 P.gpa, .int .i64 P.fault, .bool P.walk] 86))) := hb2.alloc hb2.size _; have HR2 := hid (HRB.out.below HB2.out); have HE2 := hid (HE.out.below HB2.out); obtain ⟨k0, k1, k2, k3⟩ := HR2.out.c; obtain ⟨n0, n1, n2, n3⟩ := HR2.out.z; obtain ⟨j0, j1, j2, j3, j4⟩ := HE2.out.cs; have HM2 := hid ((HM.out.below HA.out).below HB2.out); clear hb2))
          obtain ⟨y0, y1, y2, y3⟩ := HR2.out.y (.int .u64 P.pa) (.int .u64 P.gpa) (.int .i64 P.fault) (.bool P.walk)
          refine bodyPost_ret (by simp [results, Tryz.results33, go_sem, y0, y1, y2, y3]; rfl) rfl ?_
          exact ⟨rfl, below4 (HA.out.trans (HB2.out.mono HA.out.size)) (Nat.le_succ _) _ _ _ _⟩
        · rw [if_pos rfl] at hq
          have hpg : 0 ≤ P.gpa ∧ P.gpa < 18446744073709551616 := by
            have hb := plc_b hok va
            have h := hP
            unfold wk1 at h
            split at h
            · cases h
            · split at h
              · cases h
              · split at h
                · cases h; exact hb
                · cases h
          obtain ⟨pg0, pg1⟩ := hpg
          obtain ⟨x, y, z, hg⟩ : ∃ x y z, gst (rdm bs n f) v.root P.gpa acc = (x, y, z) := ⟨_, _, _, rfl⟩
          have hz := gst_zero (rdm bs n f) v.root P.gpa acc
          rw [hg] at hz
          have hz : z ≠ 0 → x = 0 := hz
          have hq' : Q = ⟨x, P.gpa, z, false⟩ := by rw [← hq]; unfold plOf; rw [hg]
          subst hq'
          have HG := hid hg
          have HZ := hid hz
          have HP := hid hP
          clear hq hg hz hP hx
          by_cases gz : z = 0
          · subst gz
            go_wp2_with (first
              | (go_at_call 57; rw [← HWA.out]; refine (q_walk wa T q n f (HM.out.below HA.out) v va acc a0 a1 s0 s1 r0 r1 P true HP.out).mono ?_; rintro r w2 ⟨he, hb2⟩; unfold plV at he; subst he; have HB2 : Hid (Below wa.heap.size wa (w2.alloc (.cells #[.int .u64 P.pa, .int .u64 P.gpa, .int .i64 P.fault, .bool P.walk] 86))) := hb2.alloc hb2.size _; have HR2 := hid (HRB.out.below HB2.out); have HE2 := hid (HE.out.below HB2.out); obtain ⟨k0, k1, k2, k3⟩ := HR2.out.c; obtain ⟨n0, n1, n2, n3⟩ := HR2.out.z; obtain ⟨j0, j1, j2, j3, j4⟩ := HE2.out.cs; have HM2 := hid ((HM.out.below HA.out).below HB2.out); clear hb2)
              | (go_at_call 58; refine (q_Guest (w2.alloc (.cells #[.int .u64 P.pa, .int .u64 P.gpa, .int .i64 P.fault, .bool P.walk] 86)) T q n f HM2.out v.root P.gpa acc r0 r1 pg0 pg1 _ _ _ HG.out).mono ?_; rintro r w3 ⟨rfl, hb3⟩; have HB3 := hid hb3; have HR3 := hid (HR2.out.below hb3); obtain ⟨k0, k1, k2, k3⟩ := HR3.out.c; obtain ⟨n0, n1, n2, n3⟩ := HR3.out.z; clear hb3))
            obtain ⟨y0, y1, y2, y3⟩ := HR3.out.y (.int .u64 x) (.int .u64 P.gpa) (.int .i64 0) (.bool false)
            refine bodyPost_ret (by simp [results, Tryz.results33, go_sem, y0, y1, y2, y3]; rfl) rfl ?_
            have e1 := HA.out.trans (HB2.out.mono HA.out.size)
            exact ⟨rfl, below4 (e1.trans (HB3.out.mono e1.size)) (Nat.le_succ _) _ _ _ _⟩
          · obtain rfl := HZ.out gz
            go_wp2_with (first
              | (go_at_call 57; rw [← HWA.out]; refine (q_walk wa T q n f (HM.out.below HA.out) v va acc a0 a1 s0 s1 r0 r1 P true HP.out).mono ?_; rintro r w2 ⟨he, hb2⟩; unfold plV at he; subst he; have HB2 : Hid (Below wa.heap.size wa (w2.alloc (.cells #[.int .u64 P.pa, .int .u64 P.gpa, .int .i64 P.fault, .bool P.walk] 86))) := hb2.alloc hb2.size _; have HR2 := hid (HRB.out.below HB2.out); have HE2 := hid (HE.out.below HB2.out); obtain ⟨k0, k1, k2, k3⟩ := HR2.out.c; obtain ⟨n0, n1, n2, n3⟩ := HR2.out.z; obtain ⟨j0, j1, j2, j3, j4⟩ := HE2.out.cs; have HM2 := hid ((HM.out.below HA.out).below HB2.out); clear hb2)
              | (go_at_call 58; refine (q_Guest (w2.alloc (.cells #[.int .u64 P.pa, .int .u64 P.gpa, .int .i64 P.fault, .bool P.walk] 86)) T q n f HM2.out v.root P.gpa acc r0 r1 pg0 pg1 _ _ _ HG.out).mono ?_; rintro r w3 ⟨rfl, hb3⟩; have HB3 := hid hb3; have HR3 := hid (HR2.out.below hb3); obtain ⟨k0, k1, k2, k3⟩ := HR3.out.c; obtain ⟨n0, n1, n2, n3⟩ := HR3.out.z; clear hb3))
            obtain ⟨y0, y1, y2, y3⟩ := HR3.out.y (.int .u64 0) (.int .u64 P.gpa) (.int .i64 z) (.bool false)
            refine bodyPost_ret (by simp [results, Tryz.results33, go_sem, y0, y1, y2, y3]; rfl) rfl ?_
            have e1 := HA.out.trans (HB2.out.mono HA.out.size)
            exact ⟨rfl, below4 (e1.trans (HB3.out.mono e1.size)) (Nat.le_succ _) _ _ _ _⟩
    · have hq : Q = ⟨0, 0, 1, false⟩ := by rw [← hQ]; unfold tr; rw [if_neg h0, if_neg h8]
      subst hq
      clear hQ
      have h0' : (v.satp / 1152921504606846976 != 0) = true := by simpa using h0
      have h8' : (v.satp / 1152921504606846976 != 8) = true := by simpa using h8
      go_wp2_with fail
      go_returns
      exact ⟨rfl, ((Below.refl _ _).alloc (Nat.le_refl _) _).alloc (by simp) _⟩
end Go.Proofs.YtlfdokkopgmfjaaGreatDoor.C
namespace Go.Proofs.YtlfdokkopgmfjaaGreatDoor.C
open Go.RowKit
set_option linter.unusedVariables false
set_option maxRecDepth 100000

theorem own_some {w : World} {base : Nat} {e : TypeId} {v : Value} {n : Nat} {xs : List Value} (h : w.ownsRow base e 1 v n xs) (hn : 0 < n) : ∃ g cap cur, v = .slice (some ⟨g, 0, none⟩) n cap ∧ base ≤ g ∧ w.heap[g]? = some (.cells cur e (0, 0)) ∧ n ≤ cap ∧ cur.toList.take n = xs := by
  rcases h.2 with ⟨_, h0⟩ | ⟨g, cap, cur, rfl, hg, hh, hle, _, _, ht⟩
  · omega
  · exact ⟨g, cap, cur, rfl, hg, hh, hle, by simpa using ht⟩
theorem step_append_own {P : Program} {w : World} {ops : Array Oper} {o : Oper} {a : Act} {K : Act → World → Prop} {Q : Exit → Act → World → Prop} {E : Prop} (hgd : o.guard = none) (s x : Operand) (t : TypeId)
    (ho : o.op = .call { callee := .builtin .append, args := #[s, x], argTypes := #[t, t] })
    (base : Nat) (e : TypeId) (i : TypeInfo) (z : Value) (size bytes : Nat) (ht : P.underlying t = some (.slice e)) (hi : P.info? e = some i) (hz : i.zero = some z)
    (hsize : i.size = size) (hby : i.bytes = bytes) (hzs : z.cells.size = size) (hsz : 0 < size)
    (v : Value) (n : Nat) (xs : List Value) (hs : a.eval s = v) (hown : w.ownsRow base e size v n xs)
    (ad : Addr) (m c : Nat) (news : List Value) (hx : a.eval x = .slice (some ad) m c) (hl : news.length = m * size) (hnews : ∀ j u, news[j]? = some u → w.cell? (ad.add j) = some u) (h1 : ∀ u ∈ news, u.oneCell' = true)
    (h63 : n + m ≤ maxLen) (hbytes : (n + m) * bytes ≤ 140737488355328) (hbase : base ≤ w.heap.size)
    (h : ∀ v' w', w'.ownsRow base e size v' (n + m) (xs ++ news) → w.grownBy w' v.ownBlock → K (a.put o.dst v') w') :
    if Region.wanted o (yielded ops a.tmps) = true then Oper.wp P o a w K Q else E := by
  have hw : Region.wanted o (yielded ops a.tmps) = true := by simp [Region.wanted, hgd]
  rw [if_pos hw]
  exact wp_append_own w s x t ho base e i z size bytes ht hi hz hsize hby hzs hsz v n xs hs hown ad m c news hx hl hnews h1 h63 hbytes hbase fun v' w' h2 h3 _ => h v' w' h2 h3
theorem take_get2 {cur : Array Value} {f : Nat → Int} {s n : Nat} (h : cur.toList.take (0 + n) = [] ++ row f s n) (j : Nat) (hj : j < n) : cur[j]? = some (.int .u8 (f (s + j))) := by
  have := row_get f s n j hj
  rw [Nat.zero_add, List.nil_append] at h
  rw [← h, List.getElem?_take_of_lt hj] at this
  simpa using this
theorem grown_only {w w2 : World} (h : w.drew.grownBy w2 none) : Only (fun _ => False) w w2 := ⟨h.os, h.tape, h.output, h.size, fun k hk _ => h.block k hk (by simp)⟩
/-- how far a copy has come: k frames -/
structure QPC (w wr : World) (base : Int) (hs : List (Option (Nat × Nat))) (f : Nat → Int) (k : Nat) (hs' : List (Option (Nat × Nat))) : Prop where
  top : wr.heap[w.heap.size + 1]? = some (.cells #[.int .u64 base, .int .i64 hs.length, .slice (some ⟨w.heap.size, 0, none⟩) hs.length hs.length] 61 (0, 0))
  tab : wr.heap[w.heap.size]? = some (.cells (hs'.map fv).toArray 23 (0, 0))
  len : hs'.length = hs.length
  bare : ∀ i : Nat, i < k → hs'[i]? = some none → hs[i]? = some none
  full : ∀ (i h c : Nat), hs'[i]? = some (some (h, c)) → i < k ∧ w.heap.size + 1 < h ∧ 4096 ≤ c ∧ ∃ cur : Array Value, wr.heap[h]? = some (.cells cur 5 (0, 0)) ∧ ∀ j, j < 4096 → cur[j]? = some (.int .u8 (f (4096 * i + j)))
  inj : ∀ (i j h c c' : Nat), hs'[i]? = some (some (h, c)) → hs'[j]? = some (some (h, c')) → i = j
  below : Below w.heap.size w wr
theorem QPC.bareStep {w wr : World} {base : Int} {hs : List (Option (Nat × Nat))} {f : Nat → Int} {k : Nat} {hs' : List (Option (Nat × Nat))} (h : QPC w wr base hs f k hs') (hk : hs[k]? = some none) : QPC w wr base hs f (k + 1) hs' :=
  ⟨h.top, h.tab, h.len, fun i hi q => by
    by_cases e : i = k
    · subst e; exact hk
    · exact h.bare i (by omega) q, fun i hh c q => ⟨by have := (h.full i hh c q).1; omega, (h.full i hh c q).2⟩, h.inj, h.below⟩
theorem QPC.fullStep {w wr w2 : World} {base : Int} {hs : List (Option (Nat × Nat))} {f : Nat → Int} {k : Nat} {hs' : List (Option (Nat × Nat))} (h : QPC w wr base hs f k hs') (hk : k < hs.length) {g2 c2 : Nat} {cur : Array Value} (hg : w2.heap[g2]? = some (.cells cur 5 (0, 0))) (hgw : wr.heap.size ≤ g2) (hc2 : 4096 ≤ c2)
    (hcur : ∀ j, j < 4096 → cur[j]? = some (.int .u8 (f (4096 * k + j)))) (ho : Only (fun _ => False) wr w2) : QPC w (w2.setCell ⟨w.heap.size, k, none⟩ (.slice (some ⟨g2, 0, none⟩) 4096 c2)) base hs f (k + 1) (hs'.set k (some (g2, c2))) := by
  have hk' : k < hs'.length := by rw [h.len]; exact hk
  have hgl := lt_of_block h.tab
  have htl := lt_of_block h.top
  have hold : ∀ j o, wr.heap[j]? = some o → j ≠ w.heap.size → (w2.setCell ⟨w.heap.size, k, none⟩ (.slice (some ⟨g2, 0, none⟩) 4096 c2)).heap[j]? = some o := fun j o hj hne => (Below.heap_setCell _ _ _ j hne).trans (ho.old hj fun q => q)
  refine ⟨hold _ _ h.top (by omega), ?_, by simpa using h.len, ?_, ?_, ?_, ?_⟩
  · rw [heap_setCell_same _ _ k _ _ _ (ho.old h.tab fun q => q), ← fv_set]
    rfl
  · intro i hi q
    by_cases e : i = k
    · subst e; rw [List.getElem?_set_self hk'] at q; cases q
    · rw [List.getElem?_set_ne (by omega)] at q; exact h.bare i (by omega) q
  · intro i hh c q
    by_cases e : i = k
    · subst e
      rw [List.getElem?_set_self hk'] at q
      obtain ⟨rfl, rfl⟩ : g2 = hh ∧ c2 = c := by simpa using q
      exact ⟨by omega, by omega, hc2, cur, (Below.heap_setCell _ _ _ _ (by show g2 ≠ w.heap.size; omega)).trans hg, hcur⟩
    · rw [List.getElem?_set_ne (by omega)] at q
      obtain ⟨a, b, c', cur', hg', hc'⟩ := h.full i hh c q
      exact ⟨by omega, b, c', cur', hold _ _ hg' (by omega), hc'⟩
  · intro i j hh c c' hi hj
    by_cases e : i = k <;> by_cases e' : j = k
    · omega
    · subst e
      rw [List.getElem?_set_self hk'] at hi
      rw [List.getElem?_set_ne (by omega)] at hj
      obtain ⟨_, _, _, _, hg', _⟩ := h.full j hh c' hj
      have := lt_of_block hg'
      simp at hi; omega
    · subst e'
      rw [List.getElem?_set_self hk'] at hj
      rw [List.getElem?_set_ne (by omega)] at hi
      obtain ⟨_, _, _, _, hg', _⟩ := h.full i hh c hi
      have := lt_of_block hg'
      simp at hj; omega
    · rw [List.getElem?_set_ne (by omega)] at hi hj
      exact h.inj i j hh c c' hi hj
  · exact (h.below.trans (ho.below _ h.below.size (fun _ q => q.elim))).setCell (p := ⟨w.heap.size, k, none⟩) (Nat.le_refl _) _
theorem run_makeT (w : World) (n : Nat) (hn : n ≤ 1024) : (Instr.makeSlice 59 (.int .i64 (n : Int)) (.int .i64 (n : Int))).run Tryz.prog w = .ok (.slice (some ⟨w.heap.size, 0, none⟩) n n) (w.alloc (.cells ((List.replicate n (none : Option (Nat × Nat))).map fv).toArray 23)) := by
  obtain ⟨i, hi1, hz, hs, hb⟩ := info_parts info_su8
  have hr := run_make (P := Tryz.prog) w 59 23 i _ u_ssu8 hi1 hz .i64 .i64 n n (by omega) (by omega) (by rw [hb]; omega) (by omega)
  have hcs : madeCells (Value.slice none 0 0).cells ((n : Int).toNat * i.size) = ((List.replicate n (none : Option (Nat × Nat))).map fv).toArray := by
    rw [← map_fv, hs]
    apply Array.ext'
    simpa [Value.cells] using toList_madeCells_one (.slice none 0 0) n
  rw [hcs] at hr
  simpa using hr
end Go.Proofs.YtlfdokkopgmfjaaGreatDoor.C
