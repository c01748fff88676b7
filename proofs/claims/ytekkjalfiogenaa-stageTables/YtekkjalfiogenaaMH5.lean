/- New, Unmap, Protect, Tables. -/
import Derived.Test.YtekkjalfiogenaaSH
import Derived.Laws.CopyOwn
import Derived.Test.YtekkjalfiogenaaMH4
namespace Go.Proofs.Ytekkjalfiogenaa
open Go.RowKit
open C (Only hid Mem Still ret_bool ret_int put byt rd8 lo)
set_option linter.unusedVariables false
set_option maxRecDepth 100000

theorem t_unmap_no (w : World) (q : Nat) (page : Int) (hl : Calls Try.prog 45 #[.pointer (some ⟨q, 0, none⟩), .int .u64 page] w fun r w' => (∃ x y, r = .returned (.tuple #[.int .u64 x, .int .u64 y, .bool false])) ∧ Below w.heap.size w w') :
    Calls Try.prog 17 #[.pointer (some ⟨q, 0, none⟩), .int .u64 page] w fun r w' => r = .returned (.tuple #[.int .i64 0, .int .i64 21]) ∧ Below w.heap.size w w' := by
  go_enter Try.func17, Try.ntmps17
  go_wp2_with (go_at_call 45; refine hl.mono ?_; rintro r w1 ⟨⟨x, y, rfl⟩, hb⟩; have HB := hid hb; clear hb)
  go_ret2
  exact ⟨rfl, HB.out⟩
theorem t_unmap_yes (w : World) (q fr : Nat) (page a e nm : Int) (Q : World → Prop) (hl : Calls Try.prog 45 #[.pointer (some ⟨q, 0, none⟩), .int .u64 page] w fun r w' => r = .returned (.tuple #[.int .u64 a, .int .u64 e, .bool true]) ∧ Below w.heap.size w w')
    (hs : ∀ w1, Below w.heap.size w w1 → Calls Try.prog 56 #[.pointer (some ⟨q, 0, none⟩), .int .u64 a, .int .u64 0] w1 fun r w2 => r = .returned (.tuple #[]) ∧ Q w2) (hn : ∀ w1, Calls Try.prog 63 #[.int .u64 e] w1 fun r w2 => r = .returned (.int .u64 nm) ∧ w2 = w1) (hf : ∀ w1 n, Q w1 → Calls Try.prog 62 #[.pointer (some ⟨q, 0, none⟩), .int .u64 nm] (w1.drewN n) fun r w2 => r = .returned (.int .i64 fr) ∧ w2 = w1.drewN n) :
    Calls Try.prog 17 #[.pointer (some ⟨q, 0, none⟩), .int .u64 page] w fun r w' => r = .returned (.tuple #[.int .i64 fr, .int .i64 0]) ∧ ∃ w2 n, Q w2 ∧ w' = w2.drewN n := by
  have HS := hid hs
  have HF := hid hf
  clear hs hf
  go_enter Try.func17, Try.ntmps17
  go_upto_region 5 with (first
    | (go_at_call 45; refine hl.mono ?_; rintro r w1 ⟨rfl, hb⟩; have hs1 := HS.out w1 hb; clear hb)
    | (go_at_call 56; refine hs1.mono ?_; rintro r w2 ⟨rfl, hq⟩; have HQ := hid hq; have hf2 := fun n => HF.out w2 n hq; clear hq))
  go_quiet (first | (go_at_call 63; exact Calls.quiet_of_same (hn _)) | (go_at_call 62; exact Calls.quiet_of_same (hf2 _)))
  go_wp2_with fail
  go_ret2
  exact ⟨rfl, w2, _, HQ.out, rfl⟩
theorem t_prot_arg (w : World) (q : Nat) (page pm : Int) (m0 : -9223372036854775808 ≤ pm) (m1 : pm ≤ 9223372036854775807) (ha : (decide (page < 134217728) && okPb pm) = false) :
    Calls Try.prog 18 #[.pointer (some ⟨q, 0, none⟩), .int .u64 page, .int .i64 pm] w fun r w' => r = .returned (.int .i64 1) ∧ w' = w := by
  have h := c_isPage page
  have hp := c_isPerm pm m0 m1
  clear m0 m1
  go_enter Try.func18, Try.ntmps18
  by_cases h1 : page < 134217728
  · rw [decide_eq_true h1] at h ha
    have h4 : okPb pm = false := by simpa using ha
    rw [h4] at hp
    clear ha
    go_wp2_with (first
      | (go_at_call 51; refine (h _).mono ?_; rintro r w1 ⟨rfl, hw⟩; obtain rfl := hw.symm)
      | (go_at_call 53; refine (hp _).mono ?_; rintro r w1 ⟨rfl, hw⟩; obtain rfl := hw.symm))
    go_ret
    exact ⟨rfl, rfl⟩
  · rw [decide_eq_false h1] at h
    clear ha
    go_wp2_with (go_at_call 51; refine (h _).mono ?_; rintro r w1 ⟨rfl, hw⟩; obtain rfl := hw.symm)
    go_ret
    exact ⟨rfl, rfl⟩
theorem t_prot_no (w : World) (q : Nat) (page pm : Int) (m0 : -9223372036854775808 ≤ pm) (m1 : pm ≤ 9223372036854775807) (h1 : page < 134217728) (h4 : okPb pm = true)
    (hl : Calls Try.prog 45 #[.pointer (some ⟨q, 0, none⟩), .int .u64 page] w fun r w' => (∃ x y, r = .returned (.tuple #[.int .u64 x, .int .u64 y, .bool false])) ∧ Below w.heap.size w w') :
    Calls Try.prog 18 #[.pointer (some ⟨q, 0, none⟩), .int .u64 page, .int .i64 pm] w fun r w' => r = .returned (.int .i64 21) ∧ Below w.heap.size w w' := by
  have h := c_isPage page
  have hp := c_isPerm pm m0 m1
  rw [decide_eq_true h1] at h
  rw [h4] at hp
  clear m0 m1 h1 h4
  go_enter Try.func18, Try.ntmps18
  go_wp2_with (first
    | (go_at_call 51; refine (h _).mono ?_; rintro r w1 ⟨rfl, hw⟩; obtain rfl := hw.symm)
    | (go_at_call 53; refine (hp _).mono ?_; rintro r w1 ⟨rfl, hw⟩; obtain rfl := hw.symm)
    | (go_at_call 45; refine hl.mono ?_; rintro r w1 ⟨⟨x, y, rfl⟩, hb⟩; have HB := hid hb; clear hb))
  go_ret
  exact ⟨rfl, HB.out⟩
theorem t_prot_yes (w : World) (q : Nat) (page pm a e nm e2 : Int) (Q : World → Prop) (m0 : -9223372036854775808 ≤ pm) (m1 : pm ≤ 9223372036854775807) (h1 : page < 134217728) (h4 : okPb pm = true)
    (hl : Calls Try.prog 45 #[.pointer (some ⟨q, 0, none⟩), .int .u64 page] w fun r w' => r = .returned (.tuple #[.int .u64 a, .int .u64 e, .bool true]) ∧ Below w.heap.size w w')
    (hs : ∀ w1, Below w.heap.size w w1 → Calls Try.prog 56 #[.pointer (some ⟨q, 0, none⟩), .int .u64 a, .int .u64 e2] w1 fun r w2 => r = .returned (.tuple #[]) ∧ Q w2) (hn : ∀ w1, Calls Try.prog 63 #[.int .u64 e] w1 fun r w2 => r = .returned (.int .u64 nm) ∧ w2 = w1) (hf : ∀ w1, Calls Try.prog 60 #[.int .u64 nm, .int .i64 pm] w1 fun r w2 => r = .returned (.int .u64 e2) ∧ w2 = w1) :
    Calls Try.prog 18 #[.pointer (some ⟨q, 0, none⟩), .int .u64 page, .int .i64 pm] w fun r w' => r = .returned (.int .i64 0) ∧ Q w' := by
  have h := c_isPage page
  have hp := c_isPerm pm m0 m1
  rw [decide_eq_true h1] at h
  rw [h4] at hp
  have HS := hid hs
  clear m0 m1 h1 h4 hs
  go_enter Try.func18, Try.ntmps18
  go_upto_region 6 with (first
    | (go_at_call 51; refine (h _).mono ?_; rintro r w1 ⟨rfl, hw⟩; obtain rfl := hw.symm)
    | (go_at_call 53; refine (hp _).mono ?_; rintro r w1 ⟨rfl, hw⟩; obtain rfl := hw.symm)
    | (go_at_call 45; refine hl.mono ?_; rintro r w1 ⟨rfl, hb⟩; have HB := hid hb; clear hb))
  refine wp_region_last_lit (by simp) (by kernel_rfl) (by kernel_rfl) (by kernel_rfl) ?_
  simp only [List.dropLast, List.getLast]
  repeat (go_big_quiet_step (first | (go_at_call 63; exact Calls.quiet_of_same (hn _)) | (go_at_call 60; exact Calls.quiet_of_same (hf _))))
  refine wpQuiet_nil ?_
  intro _ hwq
  obtain ⟨nq, hwq⟩ := hwq
  subst hwq
  have hs1 := HS.out (w1.drewN nq) (below_dn HB.out nq)
  go_wp2_with (go_at_call 56; refine hs1.mono ?_; rintro r w2 ⟨rfl, hq⟩; have HQ := hid hq; clear hq)
  go_ret
  exact ⟨rfl, HQ.out⟩
/-- a space at its beginning -/
def s0 (t : Nat) : SV := ⟨t, fun _ => 0, fun _ => 0, fun _ => 0, fun _ => 0, upd (fun _ => 0) t 1, [t]⟩
theorem inv0 {v : PV} {f : Nat → Int} (ba : Bas v) (ok : v.Ok) (hc : 0 < cnt v.o 0 v.n) : Inv (s0 (ff v.o v.n)) (v.own (ff v.o v.n) (-1)) (clr f (ff v.o v.n)) := by
  obtain ⟨h1, h2⟩ := cnt_pos hc
  have hcn := own_cnt hc
  have hle := cnt_le v.o 0 v.n
  have h0 : ff v.o v.n ≠ 0 := fun e => by have := ok.rs 0 ba.rs; rw [e] at h2; omega
  generalize ff v.o v.n = t at *
  refine ⟨ba.own t _, (upd_same (fun _ => 0) t 1 : upd (fun _ => 0) t 1 t = 1), fun x hx => ?_, fun x => ?_, ⟨[], rfl⟩, ?_, fun i hi => absurd rfl hi, fun i hi => absurd rfl hi, fun i hi => absurd rfl hi, fun i hi => ?_, fun i j hi => absurd rfl hi, fun i j hi => absurd rfl hi⟩
  · have hx' : upd (fun _ => 0) t 1 x ≠ 0 := hx
    by_cases e : x = t
    · subst e; exact ⟨h1, upd_same _ _ _, h0⟩
    · rw [upd_other _ _ _ _ e] at hx'; exact absurd rfl hx'
  · show x ∈ [t] ↔ upd (fun _ => 0) t 1 x ≠ 0
    rw [List.mem_singleton]
    by_cases e : x = t
    · subst e; rw [upd_same]; exact ⟨fun _ => by decide, fun _ => rfl⟩
    · rw [upd_other _ _ _ _ e]; exact ⟨fun z => absurd z e, fun z => absurd rfl z⟩
  · show 1 + cnt (v.own t (-1)).o 0 v.n ≤ v.n
    omega
  · exact rd8_clear f t i hi
def vmOk (x : Int) : Bool := decide (1 ≤ x) && decide (x ≤ 15)
theorem c_isVmid (x : Int) (w : World) : Calls Try.prog 76 #[.int .i64 x] w fun r w' => r = .returned (.bool (vmOk x)) ∧ w' = w := by
  go_enter Try.func76, Try.ntmps76
  by_cases h1 : 1 ≤ x
  · go_wp2; go_ret; exact ⟨ret_bool (by unfold vmOk; rw [Bool.eq_iff_iff]; simp; omega), rfl⟩
  · go_wp2; go_ret; exact ⟨ret_bool (by unfold vmOk; rw [Bool.eq_iff_iff]; simp; omega), rfl⟩
theorem x_sNew_bad (w : World) (m p : Nat) (vm : Int) (hv : vmOk vm = false) : Calls Try.prog 30 #[.pointer (some ⟨m, 0, none⟩), .pointer (some ⟨p, 0, none⟩), .int .i64 vm] w fun r w' => r = .returned (.tuple #[.pointer none, .int .i64 1]) ∧ w' = w := by
  have h := c_isVmid vm
  rw [hv] at h
  go_enter Try.func30, Try.ntmps30
  go_wp2_with (go_at_call 76; refine (h _).mono ?_; rintro r w1 ⟨rfl, hw⟩; obtain rfl := hw.symm)
  go_ret2
  exact ⟨rfl, rfl⟩
set_option maxHeartbeats 1000000 in
theorem x_sNew (w : World) (F : Nat → Prop) (p : Nat) (v : PV) (f : Nat → Int) (hp : Pool w F p v f) (ba : Bas v) (vm : Int) (hv : vmOk vm = true) (hc : 0 < cnt v.o 0 v.n) :
    Calls Try.prog 30 #[.pointer (some ⟨v.m, 0, none⟩), .pointer (some ⟨p, 0, none⟩), .int .i64 vm] w fun r w' => ∃ q F' u', r = .returned (.tuple #[.pointer (some ⟨q, 0, none⟩), .int .i64 0]) ∧ SPs w' F' u' q p (s0 (ff v.o v.n)) (v.own (ff v.o v.n) (-1)) (clr f (ff v.o v.n)) vm ∧ Only F w w' ∧ ∀ k, Ar F' u' q k → F k ∨ w.heap.size ≤ k := by
  have h := c_isVmid vm
  rw [hv] at h
  have hct : Calls Try.prog 26 #[.pointer (some ⟨p, 0, none⟩), .int .i64 0] w fun r w' => r = .returned (.int .i64 (cnt v.o 0 v.n)) ∧ w' = w := by
    obtain ⟨g, d, k, B, S, hp, ok, hF⟩ := hp
    exact c_Count w p g d k B S v f hp ok 0
  have g1 : ¬ ((cnt v.o 0 v.n : Nat) : Int) = 0 := by omega
  obtain ⟨wa, hwa⟩ : ∃ wa, wa = w.alloc (.cells (spc v.m 0 p vm (.slice none 0 0)) 60) := ⟨_, rfl⟩
  have hba : Below w.heap.size w wa := hwa ▸ (Below.refl _ _).alloc (Nat.le_refl _) _
  have hqa : wa.heap[w.heap.size]? = some (.cells (spc v.m 0 p vm (.slice none 0 0)) 60 (0, 0)) := hwa ▸ heap_alloc_new w _
  have hza : wa.heap.size = w.heap.size + 1 := by rw [hwa]; simp
  have hA := x_addTable wa w.heap.size p 0 vm (.slice none 0 0) [] F v f (hp.below hba) hqa (World.ownsRow_nil _ _ _ _) (by simp) hc
  have HI := hid (inv0 (f := f) ba hp.ok hc)
  have HBA := hid hba
  have HZA := hid hza
  have HFL : Hid (∀ k, F k → k < w.heap.size) := fun k hk => hp.lt hk
  clear hp ba hba hqa hza hv
  unfold spc at hwa
  go_enter Try.func30, Try.ntmps30
  go_upto_region 6 with (first
    | (go_at_call 76; refine (h _).mono ?_; rintro r w1 ⟨rfl, hw⟩; obtain rfl := hw.symm)
    | (go_at_call 26; refine hct.mono ?_; rintro r w1 ⟨rfl, hw⟩; obtain rfl := hw.symm))
  rw [← hwa]
  clear hwa
  go_wp2_with (go_at_call 55; refine hA.mono ?_; rintro r w3 ⟨rfl, F1, u1, a1, a2, a3, a4, a5, a6⟩; have A1 := hid a1; have A2 := hid a2; have A3 := hid a3; have A4 := hid a4; have A5 := hid a5; have A6 := hid a6; have c1 : w3.cell? ⟨w.heap.size, 1, none⟩ = some (.int .u64 0) := cell_of_row w3 _ 1 _ _ _ a2; have y1 : w3.frozen? ⟨w.heap.size, 1, none⟩ = false := frozen_of_row w3 _ 1 _ _ a2; clear a1 a2 a3 a4 a5 a6)
  go_ret2
  have q4 := setRowB w3 w.heap.size 1 _ _ _ (.int .u64 (v.b / 4096 + (ff v.o v.n : Nat))) A2.out (show _ = spc v.m (v.b / 4096 + (ff v.o v.n : Nat)) p vm u1 from rfl)
  have nq : ¬ F1 w.heap.size := A1.out.ne A2.out rfl
  have nu : ∀ k, Ug u1 k → k ≠ w.heap.size := fun k hk e => by
    subst e
    obtain ⟨cur, hk'⟩ := own_typ A3.out hk
    rw [A2.out] at hk'
    simp at hk'
  have hz3 := A4.out.size
  have hza := HZA.out
  refine ⟨w.heap.size, F1, u1, rfl, ⟨A1.out.only (only_c w3 w.heap.size 1 _) (fun k hk e => nq (e ▸ hk)), q4, own_only A3.out (only_c w3 w.heap.size 1 _) (fun k hk e => nu k hk e), HI.out⟩, ?_, ?_⟩
  · refine ((Only.ofBelow HBA.out).trans' A4.out fun i hi z => ?_).trans' (only_c w3 w.heap.size 1 _) fun i hi z => by omega
    rcases z with z | z | z
    · exact z
    · omega
    · cases z
  · rintro k (z | z | z)
    · exact (A5.out k z).imp id fun y => by omega
    · exact .inr (by omega)
    · exact (A6.out k z).elim (fun y => by cases y) fun y => .inr (by omega)
theorem eq_nil2 (w : World) (a : Option Addr) (l c : Nat) : (binOp .eql 58 (.slice a l c) (.slice none 0 0)).run Try.prog w = .ok (.bool a.isNone) w := by
  simp only [binOp]
  simp [run_equal_slice_nil w 58 3 a l c u_sintS]
theorem c_CloneI (w : World) (u : Value) (n : Nat) (xs : List Value) (hu : w.ownsRow 0 3 1 u n xs) (h1 : ∀ x ∈ xs, x.oneCell' = true) (h0 : 0 < n) (hn : n ≤ 1024) : Calls Try.prog 67 #[u] w fun r w' => ∃ v, r = .returned v ∧ w'.ownsRow w.heap.size 3 1 v n xs ∧ Below w.heap.size w w' := by
  obtain ⟨i0, hi, hz0, hz1, hz2⟩ := info_parts info_intS
  have hne := eq_nil2
  have hlen := hu.1
  obtain ⟨g, cap, cur, rfl, -, hg, hc, ht⟩ := C.own_some hu h0
  have HC : Hid (∀ (o : Obj) j x, xs[j]? = some x → (w.alloc o).cell? ((⟨g, 0, none⟩ : Addr).add j) = some x) := fun o j x hx => by
    rw [C.addr_add, Nat.zero_add, cell_of_row (w.alloc o) g j _ _ _ ((Below.heap_alloc w _ _ (lt_of_block hg)).trans hg)]
    rw [← ht, List.getElem?_take] at hx
    split at hx
    · simpa using hx
    · cases hx
  have H1 := hid h1
  clear hu hg ht h1
  go_enter Try.func67, Try.ntmps67
  go_wp2_with (at_builtin; refine wpList_append_own _ rfl _ _ 58 rfl w.heap.size 3 i0 (.int .i64 0) 1 8 u_sintS hi hz0 hz1 hz2 rfl (by decide) _ 0 [] rfl (World.ownsRow_lit w #[] 0 (Nat.le_refl _) (by decide) rfl) ⟨g, 0, none⟩ n cap xs rfl (by omega) (HC.out _) H1.out (by unfold maxLen; omega) (by omega) (by simp) ?_; intro v' w2 hown hgrow _; have HO3 := hid hown; have HG3 := hid hgrow; clear hown hgrow)
  go_ret
  have e1 := HO3.out
  rw [Nat.zero_add, List.nil_append] at e1
  refine ⟨v', rfl, e1, ((Below.refl _ _).alloc (Nat.le_refl _) _).grown HG3.out (by simp) (fun r q => ?_)⟩
  obtain rfl : w.heap.size = r := by simpa [Value.ownBlock, Act.eval] using q
  exact Nat.le_refl _
theorem lsv_one (l : List Nat) : ∀ x ∈ lsv l, x.oneCell' = true := by
  intro x hx
  unfold lsv at hx
  obtain ⟨t, -, rfl⟩ := List.mem_map.1 hx
  rfl
theorem x_Tables (w : World) (F : Nat → Prop) (u : Value) (q pl : Nat) (s : SV) (v : PV) (f : Nat → Int) (vm : Int) (h : SPs w F u q pl s v f vm) : Calls Try.prog 21 #[.pointer (some ⟨q, 0, none⟩)] w fun r w' => ∃ x, r = .returned x ∧ w'.ownsRow w.heap.size 3 1 x s.l.length (lsv s.l) ∧ Below w.heap.size w w' := by
  have c4 := h.sq.c4
  have hll := h.iv.ll
  have hn := h.iv.ba.n2
  have hpos : 0 < s.l.length := by obtain ⟨t, e⟩ := h.iv.l0; rw [e]; simp
  have hC := c_CloneI w u s.l.length (lsv s.l) h.ls (lsv_one _) hpos (by omega)
  obtain ⟨ad, c, rfl⟩ := own_form h.ls
  clear h
  go_enter Try.func21, Try.ntmps21
  go_wp2_with (go_at_call 67; refine hC.mono ?_; rintro r w1 ⟨x, rfl, h1, h2⟩; have H1 := hid h1; have H2 := hid h2; clear h1 h2)
  go_ret
  exact ⟨x, rfl, H1.out, H2.out⟩
theorem x_Root (w : World) (F : Nat → Prop) (u : Value) (q pl : Nat) (s : SV) (v : PV) (f : Nat → Int) (vm : Int) (h : SPs w F u q pl s v f vm) : Calls Try.prog 24 #[.pointer (some ⟨q, 0, none⟩)] w fun r w' => r = .returned (.int .u64 (v.b / 4096 + s.r)) ∧ w' = w := by
  have c1 := h.sq.c1
  clear h
  go_enter Try.func24, Try.ntmps24
  go_wp2_with fail
  go_ret
  exact ⟨rfl, rfl⟩
theorem x_Vmid (w : World) (F : Nat → Prop) (u : Value) (q pl : Nat) (s : SV) (v : PV) (f : Nat → Int) (vm : Int) (h : SPs w F u q pl s v f vm) : Calls Try.prog 42 #[.pointer (some ⟨q, 0, none⟩)] w fun r w' => r = .returned (.int .i64 vm) ∧ w' = w := by
  have c1 := h.sq.c3
  clear h
  go_enter Try.func42, Try.ntmps42
  go_wp2_with fail
  go_ret
  exact ⟨rfl, rfl⟩
end Go.Proofs.Ytekkjalfiogenaa
namespace Go.Proofs.Ytekkjalfiogenaa
open Go.RowKit Go.Shelf
open C (Only hid rd8 lo)
set_option linter.unusedVariables false
set_option maxRecDepth 100000

/-- the pages that are mapped, rising -/
structure PgL (s : SV) (L : List Nat) : Prop where
  up : L.Pairwise (· < ·)
  mem : ∀ p, p ∈ L ↔ s.pp p ≠ 0
theorem up_ext : ∀ {A B : List Nat}, A.Pairwise (· < ·) → B.Pairwise (· < ·) → (∀ p, p ∈ A ↔ p ∈ B) → A = B
  | [], [], _, _, _ => rfl
  | [], b :: B, _, _, h => by have := (h b).2 (by simp); simp at this
  | a :: A, [], _, _, h => by have := (h a).1 (by simp); simp at this
  | a :: A, b :: B, h1, h2, h => by
    have k1 := List.pairwise_cons.1 h1
    have k2 := List.pairwise_cons.1 h2
    have e : a = b := by
      rcases List.mem_cons.1 ((h a).1 (by simp)) with q | q
      · exact q
      · rcases List.mem_cons.1 ((h b).2 (by simp)) with r | r
        · exact r.symm
        · have := k2.1 a q
          have := k1.1 b r
          omega
    subst e
    rw [up_ext k1.2 k2.2 fun p => ?_]
    constructor
    · intro q
      rcases List.mem_cons.1 ((h p).1 (List.mem_cons_of_mem _ q)) with r | r
      · have := k1.1 p q; omega
      · exact r
    · intro q
      rcases List.mem_cons.1 ((h p).2 (List.mem_cons_of_mem _ q)) with r | r
      · have := k2.1 p q; omega
      · exact r
theorem PgL.same {s : SV} {A B : List Nat} (h : PgL s A) (k : PgL s B) : A = B := up_ext h.up k.up fun p => (h.mem p).trans (k.mem p).symm
/-- a table's entries, by what it is -/
def EEs (s : SV) (b : Int) (t : Int) (i : Nat) : Int :=
  if s.tg (t - b / 4096).toNat = 1 then tE b (s.k1 i) else if s.tg (t - b / 4096).toNat < 2 then 0 else if s.tg (t - b / 4096).toNat < 514 then tE b (s.k0 (512 * (s.tg (t - b / 4096).toNat - 2) + i)) else lE b (s.pf (512 * (s.tg (t - b / 4096).toNat - 514) + i)) (s.pp (512 * (s.tg (t - b / 4096).toNat - 514) + i))
/-- numbers of tables -/
def OKs (s : SV) (b : Int) (t : Int) : Prop := t = b / 4096 + s.r ∨ (∃ a, s.k1 a ≠ 0 ∧ t = b / 4096 + s.k1 a) ∨ ∃ q, s.k0 q ≠ 0 ∧ t = b / 4096 + s.k0 q
def frE (b : Int) (e : Int) : Nat := (e / 1024 - b / 4096).toNat
def pmE (e : Int) : Nat := lo e &&& 14
section
variable {s : SV} {v : PV} {f : Nat → Int} (h : Inv s v f)
include h
theorem Inv.k1b (i : Nat) : s.k1 i ≤ 1024 := by
  by_cases e : s.k1 i = 0
  · omega
  · have := (h.k1lt e).1; have := h.ba.n2; omega
theorem Inv.k0b (i : Nat) : s.k0 i ≤ 1024 := by
  by_cases e : s.k0 i = 0
  · omega
  · have := (h.k0lt e).1; have := h.ba.n2; omega
theorem Inv.ppo (p : Nat) : s.pp p = 0 ∨ okP (s.pp p) := by
  by_cases e : s.pp p = 0
  · exact .inl e
  · exact .inr (h.ap p e).2.1
theorem Inv.lEb (p : Nat) : 0 ≤ lE v.b (s.pf p) (s.pp p) ∧ lE v.b (s.pf p) (s.pp p) < 18446744073709551616 := by
  by_cases e : s.pp p = 0
  · rw [e]; exact ⟨by unfold lE; simp, by unfold lE; simp⟩
  · exact lE_b h.ba.b0 h.ba.b1 (by have := (h.ap p e).2.2.1; have := h.ba.n2; omega) (h.ppo p)
theorem EEs_b (t : Int) (i : Nat) : 0 ≤ EEs s v.b t i ∧ EEs s v.b t i < 18446744073709551616 := by
  unfold EEs
  split
  · exact tE_b h.ba.b0 h.ba.b1 (h.k1b i)
  · split
    · exact ⟨by decide, by decide⟩
    · split
      · exact tE_b h.ba.b0 h.ba.b1 (h.k0b _)
      · exact h.lEb _
theorem EEs_r (i : Nat) : EEs s v.b (v.b / 4096 + s.r) i = tE v.b (s.k1 i) := by
  unfold EEs
  rw [show (v.b / 4096 + (s.r : Int) - v.b / 4096).toNat = s.r by omega, if_pos h.root]
theorem EEs_1 {a : Nat} (ha : s.k1 a ≠ 0) (i : Nat) : EEs s v.b (v.b / 4096 + s.k1 a) i = tE v.b (s.k0 (512 * a + i)) := by
  unfold EEs
  obtain ⟨h1, h2⟩ := h.a1 a ha
  rw [show (v.b / 4096 + (s.k1 a : Int) - v.b / 4096).toNat = s.k1 a by omega, h2, if_neg (by omega), if_neg (by omega), if_pos (by omega), show 2 + a - 2 = a by omega]
theorem EEs_0 {q : Nat} (hq : s.k0 q ≠ 0) (i : Nat) : EEs s v.b (v.b / 4096 + s.k0 q) i = lE v.b (s.pf (512 * q + i)) (s.pp (512 * q + i)) := by
  unfold EEs
  have h2 := (h.a0 q hq).2
  rw [show (v.b / 4096 + (s.k0 q : Int) - v.b / 4096).toNat = s.k0 q by omega, h2, if_neg (by omega), if_neg (by omega), if_neg (by omega), show 514 + q - 514 = q by omega]
theorem isL_t (t : Nat) : isL (tE v.b t) = false := by
  unfold isL
  rw [lo_tE _ _ h.ba.b0]
  split <;> decide
theorem isT_l (p : Nat) : isT (lE v.b (s.pf p) (s.pp p)) = false := by
  unfold isT
  rw [lo_lE _ _ _ h.ba.b0 (h.ppo p)]
  split
  · decide
  · rename_i e
    rcases (h.ppo p).resolve_left e with q | q | q | q | q <;> rw [q] <;> decide
theorem OKs_t {t : Int} (ht : OKs s v.b t) {i : Nat} (hi : i < 512) (hT : isT (EEs s v.b t i) = true) : OKs s v.b (EEs s v.b t i / 1024) := by
  rcases ht with rfl | ⟨a, ha, rfl⟩ | ⟨q, hq, rfl⟩
  · rw [EEs_r h] at hT ⊢
    rw [isT_t _ _ h.ba.b0] at hT
    have hz : s.k1 i ≠ 0 := by simpa using hT
    rw [num_t _ _ hz]
    exact .inr (.inl ⟨i, hz, rfl⟩)
  · rw [EEs_1 h ha] at hT ⊢
    rw [isT_t _ _ h.ba.b0] at hT
    have hz : s.k0 (512 * a + i) ≠ 0 := by simpa using hT
    rw [num_t _ _ hz]
    exact .inr (.inr ⟨_, hz, rfl⟩)
  · rw [EEs_0 h hq, isT_l h] at hT; cases hT
/-- a table's number, and where it lies -/
theorem OKs_at {t : Int} (ht : OKs s v.b t) : ∃ x : Nat, t = v.b / 4096 + x ∧ x < v.n ∧ ∀ i, i < 512 → EEs s v.b t i = rd8 f (4096 * x + 8 * i) := by
  rcases ht with rfl | ⟨a, ha, rfl⟩ | ⟨q, hq, rfl⟩
  · exact ⟨s.r, rfl, h.rlt.1, fun i hi => by rw [EEs_r h, h.e2 i hi]⟩
  · exact ⟨s.k1 a, rfl, (h.k1lt ha).1, fun i hi => by rw [EEs_1 h ha, h.e1 a i ha hi]⟩
  · exact ⟨s.k0 q, rfl, (h.k0lt hq).1, fun i hi => by rw [EEs_0 h hq, h.e0 q i hq hi]⟩
theorem OKs_l {t : Int} (ht : OKs s v.b t) {i : Nat} (hi : i < 512) (hL : isL (EEs s v.b t i) = true) : ∃ p, EEs s v.b t i = lE v.b (s.pf p) (s.pp p) ∧ s.pp p ≠ 0 := by
  rcases ht with rfl | ⟨a, ha, rfl⟩ | ⟨q, hq, rfl⟩
  · rw [EEs_r h, isL_t h] at hL; cases hL
  · rw [EEs_1 h ha, isL_t h] at hL; cases hL
  · rw [EEs_0 h hq] at hL ⊢
    rw [isL_l _ _ _ h.ba.b0 (h.ppo _)] at hL
    exact ⟨_, rfl, by simpa using hL⟩
theorem frE_l {p : Nat} (hp : s.pp p ≠ 0) : frE v.b (lE v.b (s.pf p) (s.pp p)) = s.pf p := by
  unfold frE
  rw [num_l _ _ _ (h.ap p hp).2.1]
  omega
theorem pmE_l {p : Nat} (hp : s.pp p ≠ 0) : pmE (lE v.b (s.pf p) (s.pp p)) = s.pp p := pm_l _ _ _ h.ba.b0 (h.ap p hp).2.1
end
/-- the pages, table by table -/
def pL0 (s : SV) (q : Nat) : List Nat := ((List.range 512).filter fun k => decide (s.pp (512 * q + k) ≠ 0)).map fun k => 512 * q + k
def pL1 (s : SV) (a : Nat) : List Nat := ((List.range 512).filter fun j => decide (s.k0 (512 * a + j) ≠ 0)).flatMap fun j => pL0 s (512 * a + j)
def pL2 (s : SV) : List Nat := ((List.range 512).filter fun i => decide (s.k1 i ≠ 0)).flatMap fun i => pL1 s i
theorem pL0_mem (s : SV) (q p : Nat) : p ∈ pL0 s q ↔ p / 512 = q ∧ s.pp p ≠ 0 := by
  simp only [pL0, List.mem_map, List.mem_filter, List.mem_range, decide_eq_true_eq]
  constructor
  · rintro ⟨k, ⟨h1, h2⟩, rfl⟩
    exact ⟨by omega, h2⟩
  · rintro ⟨h1, h2⟩
    refine ⟨p % 512, ⟨by omega, ?_⟩, by omega⟩
    rwa [show 512 * q + p % 512 = p by omega]
theorem pL1_mem (s : SV) (a p : Nat) : p ∈ pL1 s a ↔ p / 512 / 512 = a ∧ s.k0 (p / 512) ≠ 0 ∧ s.pp p ≠ 0 := by
  simp only [pL1, List.mem_flatMap, List.mem_filter, List.mem_range, decide_eq_true_eq, pL0_mem]
  constructor
  · rintro ⟨j, ⟨h1, h2⟩, h3, h4⟩
    exact ⟨by omega, by rw [h3]; exact h2, h4⟩
  · rintro ⟨h1, h2, h3⟩
    have e : 512 * a + p / 512 % 512 = p / 512 := by omega
    exact ⟨p / 512 % 512, ⟨by omega, by rw [e]; exact h2⟩, e.symm, h3⟩
theorem pL2_mem {s : SV} {v : PV} {f : Nat → Int} (h : Inv s v f) (p : Nat) : p ∈ pL2 s ↔ s.pp p ≠ 0 := by
  simp only [pL2, List.mem_flatMap, List.mem_filter, List.mem_range, decide_eq_true_eq, pL1_mem]
  constructor
  · rintro ⟨i, _, _, _, h4⟩; exact h4
  · intro hp
    have h0 := (h.ap p hp).1
    have h1 := (h.a0 _ h0).1
    exact ⟨p / 512 / 512, ⟨(h.a1 _ h1).1, h1⟩, rfl, h0, hp⟩
theorem up_filter (n : Nat) (P : Nat → Bool) : ((List.range n).filter P).Pairwise (· < ·) := List.Pairwise.filter P List.pairwise_lt_range
theorem pL0_up (s : SV) (q : Nat) : (pL0 s q).Pairwise (· < ·) := by
  unfold pL0
  rw [List.pairwise_map]
  exact (up_filter _ _).imp fun h => by omega
theorem pL1_up (s : SV) (a : Nat) : (pL1 s a).Pairwise (· < ·) := by
  unfold pL1
  rw [List.pairwise_flatMap]
  refine ⟨fun j _ => pL0_up _ _, (up_filter _ _).imp fun {i j} hij x hx y hy => ?_⟩
  have h1 := ((pL0_mem _ _ _).1 hx).1
  have h2 := ((pL0_mem _ _ _).1 hy).1
  omega
theorem pL2_up (s : SV) : (pL2 s).Pairwise (· < ·) := by
  unfold pL2
  rw [List.pairwise_flatMap]
  refine ⟨fun j _ => pL1_up _ _, (up_filter _ _).imp fun {i j} hij x hx y hy => ?_⟩
  have h1 := ((pL1_mem _ _ _).1 hx).1
  have h2 := ((pL1_mem _ _ _).1 hy).1
  omega
theorem pgl (s : SV) {v : PV} {f : Nat → Int} (h : Inv s v f) : PgL s (pL2 s) := ⟨pL2_up s, pL2_mem h⟩
/-- pages as cells -/
def pgx (s : SV) (L : List Nat) : List Value := L.flatMap fun (p : Nat) => pgc (p : Int) (s.pf p) (s.pp p)
theorem pgx_len (s : SV) : ∀ L : List Nat, (pgx s L).length = L.length * 3
  | [] => rfl
  | p :: L => by have := pgx_len s L; simp only [pgx, List.flatMap_cons, List.length_append, List.length_cons] at this ⊢; rw [this]; simp [pgc]; omega
theorem flatMap_congr' {α β : Type} {l : List α} {f g : α → List β} (h : ∀ a ∈ l, f a = g a) : l.flatMap f = l.flatMap g := by
  induction l with
  | nil => rfl
  | cons a l ih => rw [List.flatMap_cons, List.flatMap_cons, h a (by simp), ih fun b hb => h b (by simp [hb])]
theorem pc_all (s : SV) {v : PV} {f : Nat → Int} (h : Inv s v f) : pc2 (EEs s v.b) (frE v.b) pmE (lst (EEs s v.b (v.b / 4096 + s.r)) isT 512) = pgx s (pL2 s) := by
  unfold pc2 pgx pL2 lst
  rw [List.flatMap_map, List.flatMap_assoc]
  have e2 : (fun i => isT (EEs s v.b (v.b / 4096 + s.r) i)) = fun i => decide (s.k1 i ≠ 0) := by
    funext i; rw [EEs_r h, isT_t _ _ h.ba.b0]
  rw [e2]
  refine flatMap_congr' fun i hi => ?_
  obtain ⟨hi1, hi2⟩ := List.mem_filter.1 hi
  have hk : s.k1 i ≠ 0 := by simpa using hi2
  show pc1 (EEs s v.b) (frE v.b) pmE i _ = _
  rw [EEs_r h, num_t _ _ hk]
  unfold pc1 pL1 lst
  rw [List.flatMap_map, List.flatMap_assoc]
  have e1 : (fun j => isT (EEs s v.b (v.b / 4096 + s.k1 i) j)) = fun j => decide (s.k0 (512 * i + j) ≠ 0) := by
    funext j; rw [EEs_1 h hk, isT_t _ _ h.ba.b0]
  rw [e1]
  refine flatMap_congr' fun j hj => ?_
  obtain ⟨hj1, hj2⟩ := List.mem_filter.1 hj
  have hq : s.k0 (512 * i + j) ≠ 0 := by simpa using hj2
  show pc0 (frE v.b) pmE i j _ = _
  rw [EEs_1 h hk, num_t _ _ hq]
  unfold pc0 pL0
  rw [List.flatMap_map, List.flatMap_map]
  have e0 : (fun k => isL (EEs s v.b (v.b / 4096 + s.k0 (512 * i + j)) k)) = fun k => decide (s.pp (512 * (512 * i + j) + k) ≠ 0) := by
    funext k; rw [EEs_0 h hq, isL_l _ _ _ h.ba.b0 (h.ppo _)]
  rw [e0]
  refine flatMap_congr' fun k hk' => ?_
  obtain ⟨hk1, hk2⟩ := List.mem_filter.1 hk'
  have hp : s.pp (512 * (512 * i + j) + k) ≠ 0 := by simpa using hk2
  show pgc (((i : Int) * 512 + j) * 512 + k) (frE v.b (EEs s v.b (v.b / 4096 + s.k0 (512 * i + j)) k)) (pmE (EEs s v.b (v.b / 4096 + s.k0 (512 * i + j)) k)) = pgc ((512 * (512 * i + j) + k : Nat) : Int) _ _
  rw [EEs_0 h hq, frE_l h hp, pmE_l h hp, show (((i : Int) * 512 + j) * 512 + k) = ((512 * (512 * i + j) + k : Nat) : Int) by omega]
/-- the pages that are told, as cells of a list of its own -/
theorem x_Pages (w : World) (F : Nat → Prop) (u : Value) (q pl : Nat) (s : SV) (v : PV) (f : Nat → Int) (vm : Int) (h : SPs w F u q pl s v f vm) : Calls Try.prog 22 #[.pointer (some ⟨q, 0, none⟩)] w fun r w' => ∃ x, r = .returned x ∧ w'.ownsRow w.heap.size 41 3 x (pL2 s).length (pgx s (pL2 s)) ∧ Below w.heap.size w w' := by
  have hi := h.iv
  have ba := hi.ba
  have := e_Pages Fence.wide 12 (fun _ => trivial) rfl (Nat.le_refl _) q (v.b / 4096 + s.r) (EEs s v.b) (frE v.b) pmE (OKs s v.b) w h.sq.c1 (.inl rfl) (fun t i ht hl hT => OKs_t hi ht hl hT) (fun t i => (EEs_b hi t i).1) (fun t i => (EEs_b hi t i).2)
    (fun m t i W' ht hl => callsIn_wide.2 (by
      obtain ⟨x, rfl, hx, -⟩ := OKs_at hi ht
      have := ba.b0; have := ba.b1; have := ba.n2
      exact (c_entryAt _ (i : Int) (by omega) (by omega) (by omega) (by omega) _ rfl W').mono fun e w' hh => ⟨hh.1, by rw [hh.2]; exact .refl _ _⟩))
    (fun m t i W' ht hl hb => callsIn_wide.2 (by
      obtain ⟨x, rfl, hx, he⟩ := OKs_at hi ht
      have hs := h.below hb
      obtain ⟨S, hm, -, -⟩ := hs.pl.open
      rw [he i hl]
      have := ba.bm
      exact c_load W' q S s v f pl vm u hs.sq hm (4096 * x + 8 * i) (by omega) _ (by omega)))
    (fun m e W' e0 e1 => callsIn_wide.2 (c_isTable e e0 e1 W')) (fun m e W' e0 e1 => callsIn_wide.2 (c_isLeaf e e0 e1 W')) (fun m e W' e0 e1 => callsIn_wide.2 (c_number e e0 e1 W'))
    (fun m i j k W' h1 h2 h3 => callsIn_wide.2 (c_pageAt (i : Int) j k (by omega) (by omega) (by omega) (by omega) (by omega) (by omega) W'))
    (fun m t k p W' ht hl hL hb => callsIn_wide.2 (by
      obtain ⟨pg, he, hp⟩ := OKs_l hi ht hl hL
      have hs := h.below hb
      obtain ⟨S, hm, -, -⟩ := hs.pl.open
      rw [he, frE_l hi hp, pmE_l hi hp]
      exact c_told_pg W' q S s v f pl vm u hs.sq hm hi p pg hp))
  refine (callsIn_wide.1 this).mono ?_
  rintro e w' ⟨⟨x, rfl, hx⟩, hb⟩
  rw [pc_all s hi, pgx_len, Nat.mul_div_cancel _ (by decide)] at hx
  exact ⟨x, rfl, hx, hb⟩
end Go.Proofs.Ytekkjalfiogenaa
