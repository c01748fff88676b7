/- New, Unmap, Protect, Tables. -/
import Derived.Test.YtdncendokbjnjaaSH
import Derived.Laws.CopyOwn
namespace Go.Proofs.Ytdncendokbjnjaa
open Go.RowKit
open C (Only hid Mem Still ret_bool ret_int put byt rd8 lo)
set_option linter.unusedVariables false
set_option maxRecDepth 100000

theorem t_unmap_no (w : World) (q : Nat) (page : Int) (hl : Calls Try.prog 60 #[.pointer (some ⟨q, 0, none⟩), .int .u64 page] w fun r w' => (∃ x y, r = .returned (.tuple #[.int .u64 x, .int .u64 y, .bool false])) ∧ Below w.heap.size w w') :
    Calls Try.prog 18 #[.pointer (some ⟨q, 0, none⟩), .int .u64 page] w fun r w' => r = .returned (.tuple #[.int .i64 0, .int .i64 21]) ∧ Below w.heap.size w w' := by
  go_enter Try.func18, Try.ntmps18
  go_wp2_with (go_at_call 60; refine hl.mono ?_; rintro r w1 ⟨⟨x, y, rfl⟩, hb⟩; have HB := hid hb; clear hb)
  go_ret2
  exact ⟨rfl, HB.out⟩
theorem t_unmap_yes (w : World) (q fr : Nat) (page a e nm : Int) (Q : World → Prop) (hl : Calls Try.prog 60 #[.pointer (some ⟨q, 0, none⟩), .int .u64 page] w fun r w' => r = .returned (.tuple #[.int .u64 a, .int .u64 e, .bool true]) ∧ Below w.heap.size w w')
    (hs : ∀ w1, Below w.heap.size w w1 → Calls Try.prog 71 #[.pointer (some ⟨q, 0, none⟩), .int .u64 a, .int .u64 0] w1 fun r w2 => r = .returned (.tuple #[]) ∧ Q w2) (hn : ∀ w1, Calls Try.prog 78 #[.int .u64 e] w1 fun r w2 => r = .returned (.int .u64 nm) ∧ w2 = w1) (hf : ∀ w1 n, Q w1 → Calls Try.prog 77 #[.pointer (some ⟨q, 0, none⟩), .int .u64 nm] (w1.drewN n) fun r w2 => r = .returned (.int .i64 fr) ∧ w2 = w1.drewN n) :
    Calls Try.prog 18 #[.pointer (some ⟨q, 0, none⟩), .int .u64 page] w fun r w' => r = .returned (.tuple #[.int .i64 fr, .int .i64 0]) ∧ ∃ w2 n, Q w2 ∧ w' = w2.drewN n := by
  have HS := hid hs
  have HF := hid hf
  clear hs hf
  go_enter Try.func18, Try.ntmps18
  go_upto_region 5 with (first
    | (go_at_call 60; refine hl.mono ?_; rintro r w1 ⟨rfl, hb⟩; have hs1 := HS.out w1 hb; clear hb)
    | (go_at_call 71; refine hs1.mono ?_; rintro r w2 ⟨rfl, hq⟩; have HQ := hid hq; have hf2 := fun n => HF.out w2 n hq; clear hq))
  go_quiet (first | (go_at_call 78; exact Calls.quiet_of_same (hn _)) | (go_at_call 77; exact Calls.quiet_of_same (hf2 _)))
  go_wp2_with fail
  go_ret2
  exact ⟨rfl, w2, _, HQ.out, rfl⟩
theorem t_prot_arg (w : World) (q : Nat) (page pm : Int) (m0 : -9223372036854775808 ≤ pm) (m1 : pm ≤ 9223372036854775807) (ha : (decide (page < 134217728) && okPb pm) = false) :
    Calls Try.prog 19 #[.pointer (some ⟨q, 0, none⟩), .int .u64 page, .int .i64 pm] w fun r w' => r = .returned (.int .i64 1) ∧ w' = w := by
  have h := c_isPage page
  have hp := c_isPerm pm m0 m1
  clear m0 m1
  go_enter Try.func19, Try.ntmps19
  by_cases h1 : page < 134217728
  · rw [decide_eq_true h1] at h ha
    have h4 : okPb pm = false := by simpa using ha
    rw [h4] at hp
    clear ha
    go_wp2_with (first
      | (go_at_call 66; refine (h _).mono ?_; rintro r w1 ⟨rfl, hw⟩; obtain rfl := hw.symm)
      | (go_at_call 68; refine (hp _).mono ?_; rintro r w1 ⟨rfl, hw⟩; obtain rfl := hw.symm))
    go_ret
    exact ⟨rfl, rfl⟩
  · rw [decide_eq_false h1] at h
    clear ha
    go_wp2_with (go_at_call 66; refine (h _).mono ?_; rintro r w1 ⟨rfl, hw⟩; obtain rfl := hw.symm)
    go_ret
    exact ⟨rfl, rfl⟩
theorem t_prot_no (w : World) (q : Nat) (page pm : Int) (m0 : -9223372036854775808 ≤ pm) (m1 : pm ≤ 9223372036854775807) (h1 : page < 134217728) (h4 : okPb pm = true)
    (hl : Calls Try.prog 60 #[.pointer (some ⟨q, 0, none⟩), .int .u64 page] w fun r w' => (∃ x y, r = .returned (.tuple #[.int .u64 x, .int .u64 y, .bool false])) ∧ Below w.heap.size w w') :
    Calls Try.prog 19 #[.pointer (some ⟨q, 0, none⟩), .int .u64 page, .int .i64 pm] w fun r w' => r = .returned (.int .i64 21) ∧ Below w.heap.size w w' := by
  have h := c_isPage page
  have hp := c_isPerm pm m0 m1
  rw [decide_eq_true h1] at h
  rw [h4] at hp
  clear m0 m1 h1 h4
  go_enter Try.func19, Try.ntmps19
  go_wp2_with (first
    | (go_at_call 66; refine (h _).mono ?_; rintro r w1 ⟨rfl, hw⟩; obtain rfl := hw.symm)
    | (go_at_call 68; refine (hp _).mono ?_; rintro r w1 ⟨rfl, hw⟩; obtain rfl := hw.symm)
    | (go_at_call 60; refine hl.mono ?_; rintro r w1 ⟨⟨x, y, rfl⟩, hb⟩; have HB := hid hb; clear hb))
  go_ret
  exact ⟨rfl, HB.out⟩
theorem t_prot_yes (w : World) (q : Nat) (page pm a e nm e2 : Int) (Q : World → Prop) (m0 : -9223372036854775808 ≤ pm) (m1 : pm ≤ 9223372036854775807) (h1 : page < 134217728) (h4 : okPb pm = true)
    (hl : Calls Try.prog 60 #[.pointer (some ⟨q, 0, none⟩), .int .u64 page] w fun r w' => r = .returned (.tuple #[.int .u64 a, .int .u64 e, .bool true]) ∧ Below w.heap.size w w')
    (hs : ∀ w1, Below w.heap.size w w1 → Calls Try.prog 71 #[.pointer (some ⟨q, 0, none⟩), .int .u64 a, .int .u64 e2] w1 fun r w2 => r = .returned (.tuple #[]) ∧ Q w2) (hn : ∀ w1, Calls Try.prog 78 #[.int .u64 e] w1 fun r w2 => r = .returned (.int .u64 nm) ∧ w2 = w1) (hf : ∀ w1, Calls Try.prog 75 #[.int .u64 nm, .int .i64 pm] w1 fun r w2 => r = .returned (.int .u64 e2) ∧ w2 = w1) :
    Calls Try.prog 19 #[.pointer (some ⟨q, 0, none⟩), .int .u64 page, .int .i64 pm] w fun r w' => r = .returned (.int .i64 0) ∧ Q w' := by
  have h := c_isPage page
  have hp := c_isPerm pm m0 m1
  rw [decide_eq_true h1] at h
  rw [h4] at hp
  have HS := hid hs
  clear m0 m1 h1 h4 hs
  go_enter Try.func19, Try.ntmps19
  go_upto_region 6 with (first
    | (go_at_call 66; refine (h _).mono ?_; rintro r w1 ⟨rfl, hw⟩; obtain rfl := hw.symm)
    | (go_at_call 68; refine (hp _).mono ?_; rintro r w1 ⟨rfl, hw⟩; obtain rfl := hw.symm)
    | (go_at_call 60; refine hl.mono ?_; rintro r w1 ⟨rfl, hb⟩; have HB := hid hb; clear hb))
  refine wp_region_last_lit (by simp) (by kernel_rfl) (by kernel_rfl) (by kernel_rfl) ?_
  simp only [List.dropLast, List.getLast]
  repeat (go_big_quiet_step (first | (go_at_call 78; exact Calls.quiet_of_same (hn _)) | (go_at_call 75; exact Calls.quiet_of_same (hf _))))
  refine wpQuiet_nil ?_
  intro _ hwq
  obtain ⟨nq, hwq⟩ := hwq
  subst hwq
  have hs1 := HS.out (w1.drewN nq) (below_dn HB.out nq)
  go_wp2_with (go_at_call 71; refine hs1.mono ?_; rintro r w2 ⟨rfl, hq⟩; have HQ := hid hq; clear hq)
  go_ret
  exact ⟨rfl, HQ.out⟩
/-- a space at its beginning -/
def s0 (t : Nat) : SV := ⟨t, fun _ => 0, fun _ => 0, fun _ => 0, fun _ => 0, upd (fun _ => 0) t 1, [t]⟩
theorem inv0 {v : PV} {f : Nat → Int} (ba : Bas v) (ok : v.Ok) (hc : 0 < cnt v.o 0 v.n) : Inv (s0 (ff v.o v.n)) (v.own (ff v.o v.n) (-1)) (clr f (ff v.o v.n)) := by
  obtain ⟨h1, h2⟩ := cnt_pos hc
  have hcn := own_cnt hc
  have hle := cnt_le v.o 0 v.n
  have h0 : ff v.o v.n ≠ 0 := fun e => by have := ok.rs 0 ba.rs; rw [e] at h2; omega
  generalize ff v.o v.n = t at *
  refine ⟨ba.own t _, (upd_same (fun _ => 0) t 1 : upd (fun _ => 0) t 1 t = 1), fun x hx => ?_, fun x => ?_, ⟨[], rfl⟩, ?_, fun i hi => absurd rfl hi, fun i hi => absurd rfl hi, fun i hi => absurd rfl hi, fun i hi => ?_, fun i j hi => absurd rfl hi, fun i j hi => absurd rfl hi⟩
  · have hx' : upd (fun _ => 0) t 1 x ≠ 0 := hx
    by_cases e : x = t
    · subst e; exact ⟨h1, upd_same _ _ _, h0⟩
    · rw [upd_other _ _ _ _ e] at hx'; exact absurd rfl hx'
  · show x ∈ [t] ↔ upd (fun _ => 0) t 1 x ≠ 0
    rw [List.mem_singleton]
    by_cases e : x = t
    · subst e; rw [upd_same]; exact ⟨fun _ => by decide, fun _ => rfl⟩
    · rw [upd_other _ _ _ _ e]; exact ⟨fun z => absurd z e, fun z => absurd rfl z⟩
  · show 1 + cnt (v.own t (-1)).o 0 v.n ≤ v.n
    omega
  · exact rd8_clear f t i hi
def vmOk (x : Int) : Bool := decide (1 ≤ x) && decide (x ≤ 15)
theorem c_isVmid (x : Int) (w : World) : Calls Try.prog 88 #[.int .i64 x] w fun r w' => r = .returned (.bool (vmOk x)) ∧ w' = w := by
  go_enter Try.func88, Try.ntmps88
  by_cases h1 : 1 ≤ x
  · go_wp2; go_ret; exact ⟨ret_bool (by unfold vmOk; rw [Bool.eq_iff_iff]; simp; omega), rfl⟩
  · go_wp2; go_ret; exact ⟨ret_bool (by unfold vmOk; rw [Bool.eq_iff_iff]; simp; omega), rfl⟩
theorem x_sNew_bad (w : World) (m p : Nat) (vm : Int) (hv : vmOk vm = false) : Calls Try.prog 46 #[.pointer (some ⟨m, 0, none⟩), .pointer (some ⟨p, 0, none⟩), .int .i64 vm] w fun r w' => r = .returned (.tuple #[.pointer none, .int .i64 1]) ∧ w' = w := by
  have h := c_isVmid vm
  rw [hv] at h
  go_enter Try.func46, Try.ntmps46
  go_wp2_with (go_at_call 88; refine (h _).mono ?_; rintro r w1 ⟨rfl, hw⟩; obtain rfl := hw.symm)
  go_ret2
  exact ⟨rfl, rfl⟩
set_option maxHeartbeats 1000000 in
theorem x_sNew (w : World) (F : Nat → Prop) (p : Nat) (v : PV) (f : Nat → Int) (hp : Pool w F p v f) (ba : Bas v) (vm : Int) (hv : vmOk vm = true) (hc : 0 < cnt v.o 0 v.n) :
    Calls Try.prog 46 #[.pointer (some ⟨v.m, 0, none⟩), .pointer (some ⟨p, 0, none⟩), .int .i64 vm] w fun r w' => ∃ q F' u', r = .returned (.tuple #[.pointer (some ⟨q, 0, none⟩), .int .i64 0]) ∧ SPs w' F' u' q p (s0 (ff v.o v.n)) (v.own (ff v.o v.n) (-1)) (clr f (ff v.o v.n)) vm ∧ Only F w w' ∧ ∀ k, Ar F' u' q k → F k ∨ w.heap.size ≤ k := by
  have h := c_isVmid vm
  rw [hv] at h
  have hct : Calls Try.prog 42 #[.pointer (some ⟨p, 0, none⟩), .int .i64 0] w fun r w' => r = .returned (.int .i64 (cnt v.o 0 v.n)) ∧ w' = w := by
    obtain ⟨g, d, k, B, S, hp, ok, hF⟩ := hp
    exact c_Count w p g d k B S v f hp ok 0
  have g1 : ¬ ((cnt v.o 0 v.n : Nat) : Int) = 0 := by omega
  obtain ⟨wa, hwa⟩ : ∃ wa, wa = w.alloc (.cells (spc v.m 0 p vm (.slice none 0 0)) 60) := ⟨_, rfl⟩
  have hba : Below w.heap.size w wa := hwa ▸ (Below.refl _ _).alloc (Nat.le_refl _) _
  have hqa : wa.heap[w.heap.size]? = some (.cells (spc v.m 0 p vm (.slice none 0 0)) 60 (0, 0)) := hwa ▸ heap_alloc_new w _
  have hza : wa.heap.size = w.heap.size + 1 := by rw [hwa]; simp
  have hA := x_addTable wa w.heap.size p 0 vm (.slice none 0 0) [] F v f (hp.below hba) hqa (World.ownsRow_nil _ _ _ _) (by simp) hc
  have HI := hid (inv0 (f := f) ba hp.ok hc)
  have HBA := hid hba
  have HZA := hid hza
  have HFL : Hid (∀ k, F k → k < w.heap.size) := fun k hk => hp.lt hk
  clear hp ba hba hqa hza hv
  unfold spc at hwa
  go_enter Try.func46, Try.ntmps46
  go_upto_region 6 with (first
    | (go_at_call 88; refine (h _).mono ?_; rintro r w1 ⟨rfl, hw⟩; obtain rfl := hw.symm)
    | (go_at_call 42; refine hct.mono ?_; rintro r w1 ⟨rfl, hw⟩; obtain rfl := hw.symm))
  rw [← hwa]
  clear hwa
  go_wp2_with (go_at_call 70; refine hA.mono ?_; rintro r w3 ⟨rfl, F1, u1, a1, a2, a3, a4, a5, a6⟩; have A1 := hid a1; have A2 := hid a2; have A3 := hid a3; have A4 := hid a4; have A5 := hid a5; have A6 := hid a6; have c1 : w3.cell? ⟨w.heap.size, 1, none⟩ = some (.int .u64 0) := cell_of_row w3 _ 1 _ _ _ a2; have y1 : w3.frozen? ⟨w.heap.size, 1, none⟩ = false := frozen_of_row w3 _ 1 _ _ a2; clear a1 a2 a3 a4 a5 a6)
  go_ret2
  have q4 := setRowB w3 w.heap.size 1 _ _ _ (.int .u64 (v.b / 4096 + (ff v.o v.n : Nat))) A2.out (show _ = spc v.m (v.b / 4096 + (ff v.o v.n : Nat)) p vm u1 from rfl)
  have nq : ¬ F1 w.heap.size := A1.out.ne A2.out rfl
  have nu : ∀ k, Ug u1 k → k ≠ w.heap.size := fun k hk e => by
    subst e
    obtain ⟨cur, hk'⟩ := own_typ A3.out hk
    rw [A2.out] at hk'
    simp at hk'
  have hz3 := A4.out.size
  have hza := HZA.out
  refine ⟨w.heap.size, F1, u1, rfl, ⟨A1.out.only (only_c w3 w.heap.size 1 _) (fun k hk e => nq (e ▸ hk)), q4, own_only A3.out (only_c w3 w.heap.size 1 _) (fun k hk e => nu k hk e), HI.out⟩, ?_, ?_⟩
  · refine ((Only.ofBelow HBA.out).trans' A4.out fun i hi z => ?_).trans' (only_c w3 w.heap.size 1 _) fun i hi z => by omega
    rcases z with z | z | z
    · exact z
    · omega
    · cases z
  · rintro k (z | z | z)
    · exact (A5.out k z).imp id fun y => by omega
    · exact .inr (by omega)
    · exact (A6.out k z).elim (fun y => by cases y) fun y => .inr (by omega)
theorem eq_nil2 (w : World) (a : Option Addr) (l c : Nat) : (binOp .eql 58 (.slice a l c) (.slice none 0 0)).run Try.prog w = .ok (.bool a.isNone) w := by
  simp only [binOp]
  simp [run_equal_slice_nil w 58 3 a l c u_sintS]
theorem c_CloneI (w : World) (u : Value) (n : Nat) (xs : List Value) (hu : w.ownsRow 0 3 1 u n xs) (h1 : ∀ x ∈ xs, x.oneCell' = true) (h0 : 0 < n) (hn : n ≤ 1024) : Calls Try.prog 82 #[u] w fun r w' => ∃ v, r = .returned v ∧ w'.ownsRow w.heap.size 3 1 v n xs ∧ Below w.heap.size w w' := by
  obtain ⟨i0, hi, hz0, hz1, hz2⟩ := info_parts info_intS
  have hne := eq_nil2
  have hlen := hu.1
  obtain ⟨g, cap, cur, rfl, -, hg, hc, ht⟩ := C.own_some hu h0
  have HC : Hid (∀ (o : Obj) j x, xs[j]? = some x → (w.alloc o).cell? ((⟨g, 0, none⟩ : Addr).add j) = some x) := fun o j x hx => by
    rw [C.addr_add, Nat.zero_add, cell_of_row (w.alloc o) g j _ _ _ ((Below.heap_alloc w _ _ (lt_of_block hg)).trans hg)]
    rw [← ht, List.getElem?_take] at hx
    split at hx
    · simpa using hx
    · cases hx
  have H1 := hid h1
  clear hu hg ht h1
  go_enter Try.func82, Try.ntmps82
  go_wp2_with (at_builtin; refine wpList_append_own _ rfl _ _ 58 rfl w.heap.size 3 i0 (.int .i64 0) 1 8 u_sintS hi hz0 hz1 hz2 rfl (by decide) _ 0 [] rfl (World.ownsRow_lit w #[] 0 (Nat.le_refl _) (by decide) rfl) ⟨g, 0, none⟩ n cap xs rfl (by omega) (HC.out _) H1.out (by unfold maxLen; omega) (by omega) (by simp) ?_; intro v' w2 hown hgrow _; have HO3 := hid hown; have HG3 := hid hgrow; clear hown hgrow)
  go_ret
  have e1 := HO3.out
  rw [Nat.zero_add, List.nil_append] at e1
  refine ⟨v', rfl, e1, ((Below.refl _ _).alloc (Nat.le_refl _) _).grown HG3.out (by simp) (fun r q => ?_)⟩
  obtain rfl : w.heap.size = r := by simpa [Value.ownBlock, Act.eval] using q
  exact Nat.le_refl _
theorem lsv_one (l : List Nat) : ∀ x ∈ lsv l, x.oneCell' = true := by
  intro x hx
  unfold lsv at hx
  obtain ⟨t, -, rfl⟩ := List.mem_map.1 hx
  rfl
theorem x_Tables (w : World) (F : Nat → Prop) (u : Value) (q pl : Nat) (s : SV) (v : PV) (f : Nat → Int) (vm : Int) (h : SPs w F u q pl s v f vm) : Calls Try.prog 22 #[.pointer (some ⟨q, 0, none⟩)] w fun r w' => ∃ x, r = .returned x ∧ w'.ownsRow w.heap.size 3 1 x s.l.length (lsv s.l) ∧ Below w.heap.size w w' := by
  have c4 := h.sq.c4
  have hll := h.iv.ll
  have hn := h.iv.ba.n2
  have hpos : 0 < s.l.length := by obtain ⟨t, e⟩ := h.iv.l0; rw [e]; simp
  have hC := c_CloneI w u s.l.length (lsv s.l) h.ls (lsv_one _) hpos (by omega)
  obtain ⟨ad, c, rfl⟩ := own_form h.ls
  clear h
  go_enter Try.func22, Try.ntmps22
  go_wp2_with (go_at_call 82; refine hC.mono ?_; rintro r w1 ⟨x, rfl, h1, h2⟩; have H1 := hid h1; have H2 := hid h2; clear h1 h2)
  go_ret
  exact ⟨x, rfl, H1.out, H2.out⟩
theorem x_Root (w : World) (F : Nat → Prop) (u : Value) (q pl : Nat) (s : SV) (v : PV) (f : Nat → Int) (vm : Int) (h : SPs w F u q pl s v f vm) : Calls Try.prog 25 #[.pointer (some ⟨q, 0, none⟩)] w fun r w' => r = .returned (.int .u64 (v.b / 4096 + s.r)) ∧ w' = w := by
  have c1 := h.sq.c1
  clear h
  go_enter Try.func25, Try.ntmps25
  go_wp2_with fail
  go_ret
  exact ⟨rfl, rfl⟩
theorem x_Vmid (w : World) (F : Nat → Prop) (u : Value) (q pl : Nat) (s : SV) (v : PV) (f : Nat → Int) (vm : Int) (h : SPs w F u q pl s v f vm) : Calls Try.prog 58 #[.pointer (some ⟨q, 0, none⟩)] w fun r w' => r = .returned (.int .i64 vm) ∧ w' = w := by
  have c1 := h.sq.c3
  clear h
  go_enter Try.func58, Try.ntmps58
  go_wp2_with fail
  go_ret
  exact ⟨rfl, rfl⟩
end Go.Proofs.Ytdncendokbjnjaa
