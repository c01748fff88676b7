/- The document's UART: Read and Write, whatever is given. -/
import Derived.Test.YtmpldaenakenlaaMK1
import Derived.Test.YtmpldaenakenlaaMH2
import Derived.Test.YtmpldaenakenlaaLA
import Derived.Deep.Cut
import Derived.Test.YtmpldaenakenlaaRows
import Derived.Test.YtmpldaenakenlaaMC2
import Derived.OpenShut
import Derived.SizedLaws
import Derived.Deep.Slices
namespace Go.Proofs.Ytmpldaenakenlaa
open Go.RowKit
open C (Only hid Still ret_bool ret_int)
set_option linter.unusedVariables false
set_option maxRecDepth 100000

/-- FCR is a bit -/
def F01 (v : UV) : Prop := v.h 2 = 0 ∨ v.h 2 = 1
set_option maxHeartbeats 4000000 in
theorem d_next (w : World) (F : Nat → Prop) (p : Nat) (v : UV) (h : Dx w F p v) (hlat : v.lat = false) : Calls Try.prog 15 #[.pointer (some ⟨p, 0, none⟩), .int .u64 0] w fun e w' => e = .returned (.int .u8 v.nxt.1) ∧ ∃ F', Dx w' F' p v.nxt.2 ∧ Tn w w' F F' := by
  obtain ⟨a, b, h1, ok, hF⟩ := h
  have c0 := h1.c0
  have c4 := h1.c4
  have z0 := h1.fz 0
  have k5 : decide (128 ≤ v.h 3) = false := by rw [(cb (ok.h 3)).2.2.2.2]; exact hlat
  have k6 : ¬ 128 ≤ v.h 3 := by simpa using k5
  obtain ⟨y0, y1⟩ := ok.h 3
  have H := hid h1
  have OK := hid ok
  have HF := hid hF
  have hl := ok.l
  clear k5 hlat
  cases e : v.q with
  | nil =>
    have e1 : v.nxt = (0, v) := by unfold UV.nxt; rw [e]
    rw [e1]
    obtain ⟨ad, cp, rfl⟩ := own_form h1.q
    rw [e] at c0
    clear h1 ok hF
    go_enter Try.func15, Try.ntmps15
    go_wp2
    go_ret
    exact ⟨rfl, F, ⟨_, b, H.out, OK.out, HF.out⟩, .refl w F⟩
  | cons x l =>
    have e1 : v.nxt = (x, { v with q := l }) := by unfold UV.nxt; rw [e]
    rw [e1]
    have hq := h1.q
    rw [e] at hq hl
    obtain ⟨g, cap, cur, rfl, hg, hs, hc, hm, ht⟩ := own_head hq
    have hget : ∀ j, j < l.length + 1 → cur[j]? = (bys (x :: l))[j]? := fun j hj => by
      rw [← ht, List.getElem?_take_of_lt hj]; simp
    have cg : w.cell? ⟨g, 0, none⟩ = some (.int .u8 x) := by
      rw [cell_of_row w g 0 _ _ _ hg, hget 0 (by omega)]
      rfl
    have hgp : g ≠ p := own_ne hq h1.top (by decide) g rfl
    obtain ⟨A, hA, hsrc⟩ : ∃ A : Addr, (if cap = 1 then some (⟨g, 0, none⟩ : Addr) else some ⟨g, 1, none⟩) = some A ∧ Hid (∀ t u, (bys l)[t]? = some u → w.cell? (A.add t) = some u) := by
      by_cases h : cap = 1
      · refine ⟨⟨g, 0, none⟩, by simp [h], fun t u hu => ?_⟩
        have h0 : (bys l).length = 0 := by rw [bys_len]; omega
        rw [List.length_eq_zero_iff.1 h0] at hu
        simp at hu
      · refine ⟨⟨g, 1, none⟩, by simp [h], fun t u hu => ?_⟩
        have ht' : t < l.length := by
          have := (List.getElem?_eq_some_iff.1 hu).1
          rwa [bys_len] at this
        rw [C.addr_add, cell_of_row w g _ _ _ _ hg, hget _ (by omega), Nat.add_comm]
        exact hu
    obtain ⟨i0, hi0, hz0, hz1, hz2⟩ := info_parts info_u8
    have hl16 : l.length + 1 ≤ 16 := by simpa using hl
    have h1l : (1 : Int) ≤ (l.length : Int) + 1 := by omega
    have HZ : Hid (∀ w3, w.grownBy w3 (Value.slice none 0 0).ownBlock → w3.heap[p]? = w.heap[p]? ∧ Only (Ug (.slice none 0 0)) w w3) := fun w3 hgr =>
      ⟨(grown_ug hgr).block p (lt_of_block H.out.top) fun z => (by cases z), grown_ug hgr⟩
    have s1 : Hid ((bys l).length = l.length * 1) := by rw [bys_len, Nat.mul_one]; rfl
    clear h1 ok hF hq hg ht hs hget hl
    go_enter Try.func15, Try.ntmps15
    go_wp2_with (at_builtin; refine wpList_append_blk _ (.const (.slice none 0 0)) (.tmp 39) 26 rfl 5 i0 (.int .u8 0) 1 1 u_su8 hi0 hz0 hz1 hz2 rfl (by decide) (.slice none 0 0) 0 [] rfl ⟨rfl, .inl ⟨rfl, rfl⟩⟩ A l.length (cap - 1) (bys l) rfl s1.out hsrc.out (bys_one l) (show 0 + l.length ≤ 9223372036854775807 by omega) (by omega) rfl ?_; intro u' w3 hown hgrow hblk; obtain ⟨ad2, cp2, rfl⟩ := own_form hown; have HO3 := hid hown; have HG3 := hid (HZ.out w3 hgrow); have HB3 := hid hblk; have y4 : w3.cell? ⟨p, 0, none⟩ = some (.slice (some ⟨g, 0, none⟩) (l.length + 1) cap) := (World.cell?_of_block (w := w) HG3.out.1).trans (by simpa [e] using c0); have y8 : w3.frozen? ⟨p, 0, none⟩ = false := (World.frozen?_of_block (w := w) HG3.out.1).trans z0; clear hown hgrow hblk)
    go_ret
    refine ⟨rfl, ?_⟩
    have o3 := HO3.out
    rw [List.nil_append, Nat.zero_add] at o3
    have hb : ∀ k, Ug (.slice ad2 l.length cp2) k → Ug (.slice (some ⟨g, 0, none⟩) (l.length + 1) cap) k ∨ w.heap.size ≤ k := fun k hk => (HB3.out k (by rw [Nat.zero_add]; exact hk)).elim (fun z => by cases z) .inr
    have hg1 : Only (Ug (.slice (some ⟨g, 0, none⟩) (l.length + 1) cap)) w w3 := HG3.out.2.mono fun k _ z => by cases z
    exact Dx.mk HF.out (H.out.newq _ l (by simpa using o3) hg1 hb) ⟨OK.out.h, OK.out.d, by show l.length ≤ 16; omega, fun y hy => OK.out.q y (by rw [e]; exact List.mem_cons_of_mem _ hy), OK.out.s⟩ ((hg1.mono fun k _ z => .inr (.inl z)).setCell (.inl (.inl rfl)) _) hb fun k hk => .inl hk
set_option maxHeartbeats 4000000 in
theorem d_ReadU (w : World) (F : Nat → Prop) (p : Nat) (v : UV) (o : Int) (h : Dx w F p v) (hf : F01 v) (o0 : 0 ≤ o) (o1 : o < 18446744073709551616) : Calls Try.prog 15 #[.pointer (some ⟨p, 0, none⟩), .int .u64 o] w fun e w' => e = .returned (.int .u8 (v.rd o).1) ∧ ∃ F', Dx w' F' p (v.rd o).2 ∧ Tn w w' F F' := by
  have H0 : Hid (∃ F', Dx w F' p v ∧ Tn w w F F') := ⟨F, h, .refl w F⟩
  have HN := hid (d_next w F p v h)
  obtain ⟨a, b, h1, ok, hF⟩ := h
  have hc := d_cause w p a b v h1 ok
  obtain ⟨cb0, cb1⟩ := cau_in v
  have c0 := h1.c0
  have c2 := h1.c2
  have c3 := h1.c3
  have c4 := h1.c4
  have c5 := h1.c5
  have c6 := h1.c6
  have c7 := h1.c7
  have c8 := h1.c8
  have c9 := h1.c9
  have c10 := h1.c10
  have z9 := h1.fz 9
  have z10 := h1.fz 10
  have k5 : decide (128 ≤ v.h 3) = v.lat := (cb (ok.h 3)).2.2.2.2
  obtain ⟨y0, y1⟩ := ok.h 3
  obtain ⟨x0, x1⟩ := ok.h 2
  obtain ⟨ad, cp, rfl⟩ := own_form h1.q
  have H := hid h1
  have OK := hid ok
  have HF := hid hF
  have hlq := ok.l
  clear h1 ok hF
  by_cases q0 : o = 0
  · subst q0
    have e1 : v.rd 0 = if v.lat then (v.d 0, v) else v.nxt := rfl
    rw [e1]
    clear e1
    cases e : v.lat
    · rw [if_neg (by decide)]
      exact HN.out e
    · rw [e] at k5
      have k6 : 128 ≤ v.h 3 := by simpa using k5
      rw [if_pos rfl]
      clear k5 HN
      go_enter Try.func15, Try.ntmps15
      go_wp2
      go_ret
      exact ⟨rfl, H0.out⟩
  by_cases q1 : o = 1
  · subst q1
    have e1 : v.rd 1 = ((if v.lat then v.d 1 else v.h 1), v) := rfl
    rw [e1]
    clear e1
    cases e : v.lat <;> rw [e] at k5
    · have k6 : ¬ 128 ≤ v.h 3 := by simpa using k5
      rw [if_neg (by decide)]
      clear k5 HN
      go_enter Try.func15, Try.ntmps15
      go_wp2
      go_ret
      exact ⟨rfl, H0.out⟩
    · have k6 : 128 ≤ v.h 3 := by simpa using k5
      rw [if_pos rfl]
      clear k5 HN
      go_enter Try.func15, Try.ntmps15
      go_wp2
      go_ret
      exact ⟨rfl, H0.out⟩
  clear k5
  by_cases q2 : o = 2
  · subst q2
    have e1 : v.rd 2 = (v.tca, v.tcv) := rfl
    rw [e1]
    clear e1 HN
    have HO : Hid (bits BinOp.or IntKind.u8 v.cau 192 = v.cau + 192) := by
      have := or_192 ⟨v.cau.toNat, by omega⟩
      simp only [Int.toNat_of_nonneg cb0] at this
      exact this
    have HT : Hid (v.tca = if v.h 2 = 0 then v.cau else v.cau + 192) := rfl
    generalize v.tca = c at *
    by_cases q : v.cau = 2
    · have e1 : v.tcv = { v with em := false } := by unfold UV.tcv; rw [if_pos q]
      rw [e1]
      have HP := hid (H.out.one HF.out 10 (.bool false) { v with em := false } ⟨OK.out.h, OK.out.d, OK.out.l, OK.out.q, OK.out.s⟩ rfl rfl rfl)
      rcases hf with r | r <;>
      (rw [r] at c3
       go_enter Try.func15, Try.ntmps15
       go_wp2_with (go_at_call 44; refine hc.mono ?_; rintro e w' ⟨rfl, hw⟩; obtain rfl := hw.symm)
       go_ret
       refine ⟨ret_int ?_, HP.out⟩
       rw [HT.out]
       have := HO.out
       simp_all)
    · have e1 : v.tcv = v := by unfold UV.tcv; rw [if_neg q]
      rw [e1]
      rcases hf with r | r <;>
      (rw [r] at c3
       go_enter Try.func15, Try.ntmps15
       go_wp2_with (go_at_call 44; refine hc.mono ?_; rintro e w' ⟨rfl, hw⟩; obtain rfl := hw.symm)
       go_ret
       refine ⟨ret_int ?_, H0.out⟩
       rw [HT.out]
       have := HO.out
       simp_all)
  clear HN
  by_cases q3 : o = 3
  · subst q3
    have e1 : v.rd 3 = (v.h 3, v) := rfl
    rw [e1]
    go_enter Try.func15, Try.ntmps15
    go_wp2
    all_goals (go_ret; exact ⟨rfl, H0.out⟩)
  by_cases q4 : o = 4
  · subst q4
    have e1 : v.rd 4 = (v.h 4, v) := rfl
    rw [e1]
    go_enter Try.func15, Try.ntmps15
    go_wp2
    all_goals (go_ret; exact ⟨rfl, H0.out⟩)
  by_cases q5 : o = 5
  · subst q5
    have e1 : v.rd 5 = (v.lin, { v with ov := false }) := rfl
    rw [e1]
    have HP := hid (H.out.one HF.out 9 (.bool false) { v with ov := false } ⟨OK.out.h, OK.out.d, OK.out.l, OK.out.q, OK.out.s⟩ rfl rfl rfl)
    have HC : Hid (v.lin = 96 + (if 0 < v.q.length then 1 else 0) + (if v.ov then 2 else 0)) := rfl
    generalize v.lin = c at *
    cases e : v.ov <;> rw [e] at c9 HC <;> by_cases hn : 0 < v.q.length <;>
    (go_enter Try.func15, Try.ntmps15
     go_wp2
     all_goals
       go_ret
       refine ⟨ret_int ?_, HP.out⟩
       rw [HC.out]
       simp [hn])
  by_cases q6 : o = 6
  · subst q6
    have e1 : v.rd 6 = (176, v) := rfl
    rw [e1]
    go_enter Try.func15, Try.ntmps15
    go_wp2
    all_goals (go_ret; exact ⟨rfl, H0.out⟩)
  by_cases q7 : o = 7
  · subst q7
    have e1 : v.rd 7 = (v.h 7, v) := rfl
    rw [e1]
    go_enter Try.func15, Try.ntmps15
    go_wp2
    all_goals (go_ret; exact ⟨rfl, H0.out⟩)
  have e1 : v.rd o = (0, v) := by unfold UV.rd; rw [if_neg q0, if_neg q1, if_neg q2, if_neg q3, if_neg q4, if_neg q5, if_neg q6, if_neg q7]
  rw [e1]
  go_enter Try.func15, Try.ntmps15
  go_wp2
  all_goals (go_ret; exact ⟨rfl, H0.out⟩)
end Go.Proofs.Ytmpldaenakenlaa
namespace Go.Proofs.Ytmpldaenakenlaa
open Go.RowKit
open C (Only hid Still ret_bool ret_int)
set_option linter.unusedVariables false
set_option maxRecDepth 100000

set_option maxHeartbeats 4000000 in
theorem d_send (w : World) (F : Nat → Prop) (p : Nat) (v : UV) (x : Int) (h : Dx w F p v) (hlat : v.lat = false) (hx : Byt x) (hs : v.s.length < 140737488355328) : Calls Try.prog 17 #[.pointer (some ⟨p, 0, none⟩), .int .u64 0, .int .u8 x] w fun e w' => e = .returned (.tuple #[]) ∧ ∃ F', Dx w' F' p { v with s := v.s ++ [x], em := true } ∧ Tn w w' F F' := by
  obtain ⟨a, b, h1, ok, hF⟩ := h
  have c0 := h1.c1
  have z0 := h1.fz 1
  have c13 := h1.c10
  have z13 := h1.fz 10
  obtain ⟨ad, cp, rfl⟩ := own_form h1.s
  have c4 := h1.c4
  have k5 : decide (128 ≤ v.h 3) = false := by rw [(cb (ok.h 3)).2.2.2.2]; exact hlat
  have k6 : ¬ 128 ≤ v.h 3 := by simpa using k5
  obtain ⟨y0, y1⟩ := ok.h 3
  clear k5
  have H := hid h1
  have OK := hid ok
  have HF := hid hF
  have HX := hid hx
  clear h1 ok hF hx
  obtain ⟨i0, hi0, hz0, hz1, hz2⟩ := info_parts info_u8
  have HN := hid (one_cell w (.int .u8 x) 5)
  have HL := hid (own_below H.out.s ((Below.refl _ _).alloc (Nat.le_refl _) (.cells #[.int .u8 x] 5)))
  have hltp := lt_of_block H.out.top
  have HZ : Hid (∀ w3, (w.alloc (.cells #[.int .u8 x] 5)).grownBy w3 (Value.slice ad v.s.length cp).ownBlock → w3.heap[p]? = w.heap[p]? ∧ Only (Ug (.slice ad v.s.length cp)) w w3) := fun w3 hg =>
    ⟨(grew hg).block p hltp fun z => own_ne H.out.s H.out.top (by decide) p z rfl, grew hg⟩
  go_enter Try.func17, Try.ntmps17
  go_wp2_with (at_builtin; refine wpList_append_blk _ (.tmp 24) (.tmp 26) 26 rfl 5 i0 (.int .u8 0) 1 1 u_su8 hi0 hz0 hz1 hz2 rfl (by decide) (.slice ad v.s.length cp) v.s.length (bys v.s) rfl HL.out ⟨w.heap.size, 0, none⟩ 1 1 [.int .u8 x] rfl rfl HN.out (by intro u hu; simp at hu; subst hu; rfl) (show v.s.length + 1 ≤ 9223372036854775807 by omega) (by omega) rfl ?_; intro u' w3 hown hgrow hblk; obtain ⟨ad2, cp2, rfl⟩ := own_form hown; have HO3 := hid hown; have HG3 := hid (HZ.out w3 hgrow); have HB3 := hid hblk; have y4 : w3.cell? ⟨p, 1, none⟩ = some (.slice ad v.s.length cp) := (World.cell?_of_block (w := w) HG3.out.1).trans c0; have y8 : w3.frozen? ⟨p, 1, none⟩ = false := (World.frozen?_of_block (w := w) HG3.out.1).trans z0; have y9 : w3.cell? ⟨p, 10, none⟩ = some (.bool v.em) := (World.cell?_of_block (w := w) HG3.out.1).trans c13; have y11 : w3.frozen? ⟨p, 10, none⟩ = false := (World.frozen?_of_block (w := w) HG3.out.1).trans z13; clear hown hgrow hblk)
  go_returns
  refine ⟨rfl, ?_⟩
  have o3 := HO3.out
  rw [bys_app] at o3
  have hb : ∀ k, Ug (.slice ad2 (v.s.length + 1) cp2) k → Ug (.slice ad v.s.length cp) k ∨ w.heap.size ≤ k := fun k hk => (HB3.out k hk).imp id fun z => by simp at z; omega
  have h2 := H.out.news _ (v.s ++ [x]) (by simpa using o3) HG3.out.2 hb
  exact Dx.mk HF.out (h2.put 10 (.bool true) { v with s := v.s ++ [x], em := true } rfl rfl rfl) ⟨OK.out.h, OK.out.d, OK.out.l, OK.out.q, fun y hy => by
      rcases List.mem_append.1 hy with z | z
      · exact OK.out.s y z
      · rw [List.mem_singleton.1 z]; exact HX.out⟩ (((HG3.out.2.mono fun k _ z => .inr (.inr z)).setCell (.inl (.inl rfl)) _).setCell (.inl (.inl rfl)) _) (fun k hk => .inl hk) hb
set_option maxHeartbeats 4000000 in
theorem d_WriteU (w : World) (F : Nat → Prop) (p : Nat) (v : UV) (o x : Int) (h : Dx w F p v) (o0 : 0 ≤ o) (o1 : o < 18446744073709551616) (hx : Byt x) (hs : v.s.length < 140737488355328) : Calls Try.prog 17 #[.pointer (some ⟨p, 0, none⟩), .int .u64 o, .int .u8 x] w fun e w' => e = .returned (.tuple #[]) ∧ ∃ F', Dx w' F' p (v.wr o x) ∧ Tn w w' F F' := by
  have H0 : Hid (∃ F', Dx w F' p v ∧ Tn w w F F') := ⟨F, h, .refl w F⟩
  have HN := hid (fun e => d_send w F p v x h e hx hs)
  obtain ⟨a, b, h1, ok, hF⟩ := h
  have k5 : decide (128 ≤ v.h 3) = v.lat := (cb (ok.h 3)).2.2.2.2
  obtain ⟨u0, u1⟩ := ok.h 3
  have H := hid h1
  have OK := hid ok
  have HF := hid hF
  have HX := hid hx
  obtain ⟨-, -, kx2, -, -⟩ := cb hx
  obtain ⟨-, -, kx2', -⟩ := cb' hx
  obtain ⟨-, -, -, kh2, -⟩ := cb (ok.h 1)
  obtain ⟨-, -, -, kh2'⟩ := cb' (ok.h 1)
  obtain ⟨x0, x1⟩ := hx
  have c0 := h1.c0
  have c2 := h1.c2
  have c3 := h1.c3
  have c4 := h1.c4
  have c5 := h1.c5
  have c6 := h1.c6
  have c7 := h1.c7
  have c8 := h1.c8
  have c10 := h1.c10
  have z0 := h1.fz 0
  have z2 := h1.fz 2
  have z3 := h1.fz 3
  have z4 := h1.fz 4
  have z5 := h1.fz 5
  have z6 := h1.fz 6
  have z7 := h1.fz 7
  have z8 := h1.fz 8
  have z10 := h1.fz 10
  obtain ⟨y0, y1⟩ := ok.h 1
  clear h1 ok hF
  by_cases q0 : o = 0
  · subst q0
    have e1 : v.wr 0 x = if v.lat then { v with d := up1 v.d 0 x } else { v with s := v.s ++ [x], em := true } := rfl
    rw [e1]
    clear e1
    cases e : v.lat
    · rw [if_neg (by decide)]
      exact HN.out e
    · rw [e] at k5
      have k6 : 128 ≤ v.h 3 := by simpa using k5
      rw [if_pos rfl]
      clear k5 HN
      go_enter Try.func17, Try.ntmps17
      go_wp2
      go_returns
      exact ⟨rfl, H.out.one HF.out 7 _ { v with d := up1 v.d 0 x } ⟨OK.out.h, up1_byt OK.out.d 0 HX.out, OK.out.l, OK.out.q, OK.out.s⟩ rfl rfl rfl⟩
  clear HN
  by_cases q1 : o = 1
  · subst q1
    have e1 : v.wr 1 x = if v.lat then { v with d := up1 v.d 1 x } else { v with h := up1 v.h 1 (x % 16), em := v.em || (bt x 2 && !bt (v.h 1) 2) } := rfl
    rw [e1]
    clear e1
    cases e : v.lat <;> rw [e] at k5
    · have k6 : ¬ 128 ≤ v.h 3 := by simpa using k5
      rw [if_neg (by decide)]
      clear k5
      have ok2 : ∀ m, UOk { v with h := up1 v.h 1 (x % 16), em := m } := fun m => ⟨up1_byt OK.out.h 1 (byt_16 HX.out), OK.out.d, OK.out.l, OK.out.q, OK.out.s⟩
      have HE1 : Hid (∃ F', Dx ((w.setCell ⟨p, 10, none⟩ (.bool true)).setCell ⟨p, 2, none⟩ (.int .u8 (x % 16))) F' p { v with h := up1 v.h 1 (x % 16), em := true } ∧ Tn w ((w.setCell ⟨p, 10, none⟩ (.bool true)).setCell ⟨p, 2, none⟩ (.int .u8 (x % 16))) F F') :=
        Dx.mk HF.out ((H.out.put 10 (.bool true) { v with em := true } rfl rfl rfl).put 2 (.int .u8 (x % 16)) { v with h := up1 v.h 1 (x % 16), em := true } rfl rfl rfl) (ok2 _) (((only_c w p 10 _).mono fun x _ z => .inl z).setCell (.inl (.inl rfl)) _) (fun k hk => .inl hk) fun k hk => .inl hk
      have HE0 : Hid (∃ F', Dx (w.setCell ⟨p, 2, none⟩ (.int .u8 (x % 16))) F' p { v with h := up1 v.h 1 (x % 16), em := v.em } ∧ Tn w (w.setCell ⟨p, 2, none⟩ (.int .u8 (x % 16))) F F') :=
        H.out.one HF.out 2 _ { v with h := up1 v.h 1 (x % 16), em := v.em } (ok2 _) rfl rfl rfl
      cases b1 : bt x 2 <;> cases b2 : bt (v.h 1) 2
      · rw [show (v.em || (false && !false)) = v.em by simp]
        rw [b1] at kx2 kx2'
        rw [b2] at kh2 kh2'
        go_enter Try.func17, Try.ntmps17
        go_wp2
        go_returns
        exact ⟨rfl, HE0.out⟩
      · rw [show (v.em || (false && !true)) = v.em by simp]
        rw [b1] at kx2 kx2'
        rw [b2] at kh2 kh2'
        go_enter Try.func17, Try.ntmps17
        go_wp2
        go_returns
        exact ⟨rfl, HE0.out⟩
      · rw [show (v.em || (true && !false)) = true by simp]
        rw [b1] at kx2 kx2'
        rw [b2] at kh2 kh2'
        go_enter Try.func17, Try.ntmps17
        go_wp2
        go_returns
        exact ⟨rfl, HE1.out⟩
      · rw [show (v.em || (true && !true)) = v.em by simp]
        rw [b1] at kx2 kx2'
        rw [b2] at kh2 kh2'
        go_enter Try.func17, Try.ntmps17
        go_wp2
        go_returns
        exact ⟨rfl, HE0.out⟩
    · have k6 : 128 ≤ v.h 3 := by simpa using k5
      rw [if_pos rfl]
      clear k5
      go_enter Try.func17, Try.ntmps17
      go_wp2
      go_returns
      exact ⟨rfl, H.out.one HF.out 8 _ { v with d := up1 v.d 1 x } ⟨OK.out.h, up1_byt OK.out.d 1 HX.out, OK.out.l, OK.out.q, OK.out.s⟩ rfl rfl rfl⟩
  clear k5
  by_cases q2 : o = 2
  · subst q2
    have e1 : v.wr 2 x = if bt x 2 then { v with h := up1 v.h 2 (x % 2), q := [] } else { v with h := up1 v.h 2 (x % 2) } := rfl
    rw [e1]
    clear e1
    have hp := H.out.put 3 (.int .u8 (x % 2)) { v with h := up1 v.h 2 (x % 2) } rfl rfl rfl
    have o1 : Only (fun x => x = p ∨ Ug a x ∨ Ug b x) w (w.setCell ⟨p, 3, none⟩ (.int .u8 (x % 2))) := (only_c w p 3 _).mono fun x _ z => .inl z
    have ok1 : UOk { v with h := up1 v.h 2 (x % 2) } := ⟨up1_byt OK.out.h 2 (byt_2 HX.out), OK.out.d, OK.out.l, OK.out.q, OK.out.s⟩
    cases e : bt x 2
    · have HP := hid (Dx.mk HF.out hp ok1 o1 (fun k hk => .inl hk) fun k hk => .inl hk)
      rw [if_neg (by decide)]
      rw [e] at kx2 kx2'
      clear hp o1 ok1 e
      go_enter Try.func17, Try.ntmps17
      go_wp2
      all_goals (go_returns; exact ⟨rfl, HP.out⟩)
    · have HP := hid (Dx.mk HF.out (hp.newq (w1 := w.setCell ⟨p, 3, none⟩ (.int .u8 (x % 2))) (.slice none 0 0) [] ⟨rfl, .inl ⟨rfl, rfl⟩⟩ (.refl _) fun k hk => (by cases hk)) ⟨ok1.h, ok1.d, Nat.zero_le _, fun x hx => (by cases hx), ok1.s⟩ (o1.setCell (.inl (.inl rfl)) _) (fun k hk => (by cases hk)) fun k hk => .inl hk)
      rw [if_pos rfl]
      rw [e] at kx2 kx2'
      clear hp o1 ok1 e
      go_enter Try.func17, Try.ntmps17
      go_wp2
      all_goals (go_returns; exact ⟨rfl, HP.out⟩)
  by_cases q3 : o = 3
  · subst q3
    have e1 : v.wr 3 x = { v with h := up1 v.h 3 x } := rfl
    rw [e1]
    have HP := hid (H.out.one HF.out 4 (.int .u8 x) { v with h := up1 v.h 3 x } ⟨up1_byt OK.out.h 3 HX.out, OK.out.d, OK.out.l, OK.out.q, OK.out.s⟩ rfl rfl rfl)
    go_enter Try.func17, Try.ntmps17
    go_wp2
    all_goals (go_returns; exact ⟨rfl, HP.out⟩)
  by_cases q4 : o = 4
  · subst q4
    have e1 : v.wr 4 x = { v with h := up1 v.h 4 (x % 32) } := rfl
    rw [e1]
    have HP := hid (H.out.one HF.out 5 (.int .u8 (x % 32)) { v with h := up1 v.h 4 (x % 32) } ⟨up1_byt OK.out.h 4 (byt_32 HX.out), OK.out.d, OK.out.l, OK.out.q, OK.out.s⟩ rfl rfl rfl)
    go_enter Try.func17, Try.ntmps17
    go_wp2
    all_goals (go_returns; exact ⟨rfl, HP.out⟩)
  by_cases q7 : o = 7
  · subst q7
    have e1 : v.wr 7 x = { v with h := up1 v.h 7 x } := rfl
    rw [e1]
    have HP := hid (H.out.one HF.out 6 (.int .u8 x) { v with h := up1 v.h 7 x } ⟨up1_byt OK.out.h 7 HX.out, OK.out.d, OK.out.l, OK.out.q, OK.out.s⟩ rfl rfl rfl)
    go_enter Try.func17, Try.ntmps17
    go_wp2
    all_goals (go_returns; exact ⟨rfl, HP.out⟩)
  have e1 : v.wr o x = v := by unfold UV.wr; rw [if_neg q0, if_neg q1, if_neg q2, if_neg q3, if_neg q4, if_neg q7]
  rw [e1]
  go_enter Try.func17, Try.ntmps17
  go_wp2
  all_goals (go_returns; exact ⟨rfl, H0.out⟩)
end Go.Proofs.Ytmpldaenakenlaa
namespace Go.Proofs.Ytmpldaenakenlaa
open Go.RowKit
open C (Only hid Still ret_bool ret_int)
set_option linter.unusedVariables false
set_option maxRecDepth 100000

def ls1 (x : Int) : UV := uv0.inn x
def ls2 (x : Int) : UV := (ls1 x).wr 1 3
def ls3 (x : Int) : UV := (ls2 x).wr 3 131
def ls4 (a x : Int) : UV := (ls3 x).wr 0 a
def ls5 (a b x : Int) : UV := (ls4 a x).wr 1 b
def ls6 (a b c x : Int) : UV := (ls5 a b x).wr 7 c
def ls7 (a b c x : Int) : UV := (ls6 a b c x).wr 3 3
theorem ls1_lat (x : Int) : (ls1 x).lat = false := by
  have : (ls1 x).h 3 = 0 := rfl
  unfold UV.lat
  rw [this]
  decide +kernel
theorem ls2_e (x : Int) : ls2 x = { ls1 x with h := up1 (ls1 x).h 1 3, em := (ls1 x).em || (bt 3 2 && !bt ((ls1 x).h 1) 2) } := by
  show (if (ls1 x).lat then _ else _) = _
  rw [ls1_lat]
  rfl
theorem ls3_e (x : Int) : ls3 x = { ls2 x with h := up1 (ls2 x).h 3 131 } := rfl
theorem ls3_lat (x : Int) : (ls3 x).lat = true := by
  have : (ls3 x).h 3 = 131 := rfl
  unfold UV.lat
  rw [this]
  decide +kernel
theorem ls4_e (a x : Int) : ls4 a x = { ls3 x with d := up1 (ls3 x).d 0 a } := by
  show (if (ls3 x).lat then _ else _) = _
  rw [ls3_lat]
  rfl
theorem ls4_lat (a x : Int) : (ls4 a x).lat = true := by
  rw [ls4_e]
  exact ls3_lat x
theorem ls5_e (a b x : Int) : ls5 a b x = { ls4 a x with d := up1 (ls4 a x).d 1 b } := by
  show (if (ls4 a x).lat then _ else _) = _
  rw [ls4_lat]
  rfl
theorem ls6_e (a b c x : Int) : ls6 a b c x = { ls5 a b x with h := up1 (ls5 a b x).h 7 c } := rfl
theorem ls6_lat (a b c x : Int) : (ls6 a b c x).lat = true := by
  rw [ls6_e, ls5_e]
  exact ls4_lat a x
theorem ls6_0 (a b c x : Int) : (ls6 a b c x).rd 0 = (a, ls6 a b c x) := by
  show (if (ls6 a b c x).lat then ((ls6 a b c x).d 0, ls6 a b c x) else _) = _
  rw [ls6_lat, if_pos rfl]
  have : (ls6 a b c x).d 0 = a := by rw [ls6_e, ls5_e, ls4_e, ls3_e, ls2_e]; rfl
  rw [this]
theorem ls6_1 (a b c x : Int) : (ls6 a b c x).rd 1 = (b, ls6 a b c x) := by
  show ((if (ls6 a b c x).lat then (ls6 a b c x).d 1 else _), ls6 a b c x) = _
  rw [ls6_lat, if_pos rfl]
  have : (ls6 a b c x).d 1 = b := by rw [ls6_e, ls5_e, ls4_e, ls3_e, ls2_e]; rfl
  rw [this]
theorem ls6_7 (a b c x : Int) : (ls6 a b c x).rd 7 = (c, ls6 a b c x) := rfl
theorem ls6_3 (a b c x : Int) : (ls6 a b c x).rd 3 = (131, ls6 a b c x) := by
  show ((ls6 a b c x).h 3, ls6 a b c x) = _
  have : (ls6 a b c x).h 3 = 131 := by rw [ls6_e, ls5_e, ls4_e, ls3_e, ls2_e]; rfl
  rw [this]
theorem ls6_s (a b c x : Int) : (ls6 a b c x).s = [] := by rw [ls6_e, ls5_e, ls4_e, ls3_e, ls2_e]; rfl
theorem ls7_e (a b c x : Int) : ls7 a b c x = { ls6 a b c x with h := up1 (ls6 a b c x).h 3 3 } := rfl
theorem ls7_lat (a b c x : Int) : (ls7 a b c x).lat = false := by
  have : (ls7 a b c x).h 3 = 3 := rfl
  unfold UV.lat
  rw [this]
  decide +kernel
theorem ls7_1 (a b c x : Int) : (ls7 a b c x).rd 1 = (3, ls7 a b c x) := by
  show ((if (ls7 a b c x).lat then _ else (ls7 a b c x).h 1), ls7 a b c x) = _
  rw [ls7_lat, if_neg (by decide)]
  have : (ls7 a b c x).h 1 = 3 := by
    rw [ls7_e, ls6_e, ls5_e, ls4_e, ls3_e, ls2_e]
    rfl
  rw [this]
theorem ls7_0 (a b c x : Int) : ((ls7 a b c x).rd 0).1 = x := by
  have h : (ls7 a b c x).rd 0 = if (ls7 a b c x).lat then ((ls7 a b c x).d 0, ls7 a b c x) else (ls7 a b c x).nxt := rfl
  rw [h, ls7_lat, if_neg (by decide)]
  have : (ls7 a b c x).q = [x] := by rw [ls7_e, ls6_e, ls5_e, ls4_e, ls3_e, ls2_e]; rfl
  unfold UV.nxt
  rw [this]
theorem own_len {w : World} {u : Value} {l : List Int} (h : w.ownsRow 0 5 1 u l.length (bys l)) : ∃ ad c, u = .slice ad l.length c := own_form h
theorem l_Out {W w : World} {p : Nat} {v : UV} (h : LU W w p v) (hn : v.s.length ≤ 140737488355328) : Calls Try.prog 23 #[.pointer (some ⟨p, 0, none⟩)] w fun r w' => ∃ ad c, r = .returned (.slice ad v.s.length c) ∧ w'.ownsRow 0 5 1 (.slice ad v.s.length c) v.s.length (bys v.s) ∧ LU W w' p v ∧ Below w.heap.size w w' := by
  have H := h
  obtain ⟨F, h1, h2, h3⟩ := h
  refine (u_Out w F p v h1 hn).mono ?_
  rintro r w' ⟨u, rfl, ho, hb⟩
  obtain ⟨ad, c, rfl⟩ := own_form ho
  exact ⟨ad, c, rfl, ho, H.below hb, hb⟩
set_option maxHeartbeats 4000000 in
theorem w_PlatLatches (W : World) (a : Int) (ha : Byt a) (b : Int) (hb : Byt b) (c : Int) (hc : Byt c) (x : Int) (hx : Byt x) : Calls Try.prog 9 #[.int .u8 a, .int .u8 b, .int .u8 c, .int .u8 x] W fun e w' => e = .returned (.bool true) ∧ Below W.heap.size W w' := by
  have b3 : Byt 3 := by constructor <;> decide
  have b131 : Byt 131 := by constructor <;> decide
  have hN := l_NewU W W (.refl _ _)
  have HI : Hid (∀ w, LU W w W.heap.size (uv0) → Calls Try.prog 18 #[.pointer (some ⟨W.heap.size, 0, none⟩), .int .u8 x] w fun e w' => e = .returned (.tuple #[]) ∧ LU W w' W.heap.size (ls1 x)) := fun w h => l_In h x hx
  have W1 : Hid (∀ w, LU W w W.heap.size (ls1 x) → Calls Try.prog 16 #[.pointer (some ⟨W.heap.size, 0, none⟩), .int .u64 1, .int .u8 3] w fun e w' => e = .returned (.tuple #[]) ∧ LU W w' W.heap.size (ls2 x)) := fun w h => l_Write h 1 3 (by decide) (by decide) b3 (by show 0 < _; decide)
  have W2 : Hid (∀ w, LU W w W.heap.size (ls2 x) → Calls Try.prog 16 #[.pointer (some ⟨W.heap.size, 0, none⟩), .int .u64 3, .int .u8 131] w fun e w' => e = .returned (.tuple #[]) ∧ LU W w' W.heap.size (ls3 x)) := fun w h => l_Write h 3 131 (by decide) (by decide) b131 (by rw [ls2_e]; show 0 < _; decide)
  have W3 : Hid (∀ w, LU W w W.heap.size (ls3 x) → Calls Try.prog 16 #[.pointer (some ⟨W.heap.size, 0, none⟩), .int .u64 0, .int .u8 a] w fun e w' => e = .returned (.tuple #[]) ∧ LU W w' W.heap.size (ls4 a x)) := fun w h => l_Write h 0 a (by decide) (by decide) ha (by rw [ls3_e, ls2_e]; show 0 < _; decide)
  have W4 : Hid (∀ w, LU W w W.heap.size (ls4 a x) → Calls Try.prog 16 #[.pointer (some ⟨W.heap.size, 0, none⟩), .int .u64 1, .int .u8 b] w fun e w' => e = .returned (.tuple #[]) ∧ LU W w' W.heap.size (ls5 a b x)) := fun w h => l_Write h 1 b (by decide) (by decide) hb (by rw [ls4_e, ls3_e, ls2_e]; show 0 < _; decide)
  have W5 : Hid (∀ w, LU W w W.heap.size (ls5 a b x) → Calls Try.prog 16 #[.pointer (some ⟨W.heap.size, 0, none⟩), .int .u64 7, .int .u8 c] w fun e w' => e = .returned (.tuple #[]) ∧ LU W w' W.heap.size (ls6 a b c x)) := fun w h => l_Write h 7 c (by decide) (by decide) hc (by rw [ls5_e, ls4_e, ls3_e, ls2_e]; show 0 < _; decide)
  have R0 : Hid (∀ w, LU W w W.heap.size (ls6 a b c x) → Calls Try.prog 14 #[.pointer (some ⟨W.heap.size, 0, none⟩), .int .u64 0] w fun e w' => e = .returned (.int .u8 a) ∧ LU W w' W.heap.size (ls6 a b c x)) := fun w h => by have := l_Read h 0 (by decide) (by decide); rw [ls6_0] at this; exact this
  have R1 : Hid (∀ w, LU W w W.heap.size (ls6 a b c x) → Calls Try.prog 14 #[.pointer (some ⟨W.heap.size, 0, none⟩), .int .u64 1] w fun e w' => e = .returned (.int .u8 b) ∧ LU W w' W.heap.size (ls6 a b c x)) := fun w h => by have := l_Read h 1 (by decide) (by decide); rw [ls6_1] at this; exact this
  have R7 : Hid (∀ w, LU W w W.heap.size (ls6 a b c x) → Calls Try.prog 14 #[.pointer (some ⟨W.heap.size, 0, none⟩), .int .u64 7] w fun e w' => e = .returned (.int .u8 c) ∧ LU W w' W.heap.size (ls6 a b c x)) := fun w h => by have := l_Read h 7 (by decide) (by decide); rw [ls6_7] at this; exact this
  have R3 : Hid (∀ w, LU W w W.heap.size (ls6 a b c x) → Calls Try.prog 14 #[.pointer (some ⟨W.heap.size, 0, none⟩), .int .u64 3] w fun e w' => e = .returned (.int .u8 131) ∧ LU W w' W.heap.size (ls6 a b c x)) := fun w h => by have := l_Read h 3 (by decide) (by decide); rw [ls6_3] at this; exact this
  have W6 : Hid (∀ w, LU W w W.heap.size (ls6 a b c x) → Calls Try.prog 16 #[.pointer (some ⟨W.heap.size, 0, none⟩), .int .u64 3, .int .u8 3] w fun e w' => e = .returned (.tuple #[]) ∧ LU W w' W.heap.size (ls7 a b c x)) := fun w h => l_Write h 3 3 (by decide) (by decide) b3 (by rw [ls6_s]; decide)
  have T1 : Hid (∀ w, LU W w W.heap.size (ls7 a b c x) → Calls Try.prog 14 #[.pointer (some ⟨W.heap.size, 0, none⟩), .int .u64 1] w fun e w' => e = .returned (.int .u8 3) ∧ LU W w' W.heap.size (ls7 a b c x)) := fun w h => by have := l_Read h 1 (by decide) (by decide); rw [ls7_1] at this; exact this
  have T0 : Hid (∀ w, LU W w W.heap.size (ls7 a b c x) → Calls Try.prog 14 #[.pointer (some ⟨W.heap.size, 0, none⟩), .int .u64 0] w fun e w' => e = .returned (.int .u8 x) ∧ LU W w' W.heap.size (((ls7 a b c x).rd 0).2)) := fun w h => by have := l_Read h 0 (by decide) (by decide); rw [ls7_0] at this; exact this
  have T6 : Hid (∀ w, LU W w W.heap.size (((ls7 a b c x).rd 0).2) → Calls Try.prog 14 #[.pointer (some ⟨W.heap.size, 0, none⟩), .int .u64 6] w fun e w' => e = .returned (.int .u8 176) ∧ LU W w' W.heap.size (((ls7 a b c x).rd 0).2)) := fun w h => l_Read h 6 (by decide) (by decide)
  have RO : Hid (∀ w, LU W w W.heap.size (ls6 a b c x) → Calls Try.prog 23 #[.pointer (some ⟨W.heap.size, 0, none⟩)] w fun e w' => ∃ ad c', e = .returned (.slice ad 0 c') ∧ LU W w' W.heap.size (ls6 a b c x)) := fun w h => by
    have := l_Out h (by rw [ls6_s]; decide)
    rw [ls6_s] at this
    exact this.mono fun e w' ⟨ad, c', h1, _, h3, _⟩ => ⟨ad, c', h1, h3⟩
  have hA := l_awake
  obtain ⟨a0, a1⟩ := ha
  obtain ⟨b0, b1⟩ := hb
  obtain ⟨c0, c1⟩ := hc
  obtain ⟨x0, x1⟩ := hx
  generalize ((ls7 a b c x).rd 0).2 = s8 at *
  generalize ls7 a b c x = s7 at *
  generalize ls6 a b c x = s6 at *
  generalize ls5 a b x = s5 at *
  generalize ls4 a x = s4 at *
  generalize ls3 x = s3 at *
  generalize ls2 x = s2 at *
  generalize ls1 x = s1 at *
  clear b3 b131
  go_enter Try.func9, Try.ntmps9
  go_wp2_with (first
    | (go_at_call 12; refine hN.mono ?_; rintro e w1 ⟨rfl, hl, -⟩; have HU := hid hl; clear hl hN)
    | (go_at_call 18; (with_reducible refine (HI.out _ HU.out).mono ?_); rintro e w' ⟨rfl, hl⟩; clear HU; have HU := hid hl; clear hl HI)
    | (go_at_call 16; (with_reducible refine (W1.out _ HU.out).mono ?_); rintro e w' ⟨rfl, hl⟩; clear HU; have HU := hid hl; clear hl W1)
    | (go_at_call 16; (with_reducible refine (W2.out _ HU.out).mono ?_); rintro e w' ⟨rfl, hl⟩; clear HU; have HU := hid hl; clear hl W2)
    | (go_at_call 16; (with_reducible refine (W3.out _ HU.out).mono ?_); rintro e w' ⟨rfl, hl⟩; clear HU; have HU := hid hl; clear hl W3)
    | (go_at_call 16; (with_reducible refine (W4.out _ HU.out).mono ?_); rintro e w' ⟨rfl, hl⟩; clear HU; have HU := hid hl; clear hl W4)
    | (go_at_call 16; (with_reducible refine (W5.out _ HU.out).mono ?_); rintro e w' ⟨rfl, hl⟩; clear HU; have HU := hid hl; clear hl W5)
    | (go_at_call 14; (with_reducible refine (R0.out _ HU.out).mono ?_); rintro e w' ⟨rfl, hl⟩; clear HU; have HU := hid hl; clear hl R0)
    | (go_at_call 14; (with_reducible refine (R1.out _ HU.out).mono ?_); rintro e w' ⟨rfl, hl⟩; clear HU; have HU := hid hl; clear hl R1)
    | (go_at_call 14; (with_reducible refine (R7.out _ HU.out).mono ?_); rintro e w' ⟨rfl, hl⟩; clear HU; have HU := hid hl; clear hl R7)
    | (go_at_call 14; (with_reducible refine (R3.out _ HU.out).mono ?_); rintro e w' ⟨rfl, hl⟩; clear HU; have HU := hid hl; clear hl R3)
    | (go_at_call 16; (with_reducible refine (W6.out _ HU.out).mono ?_); rintro e w' ⟨rfl, hl⟩; clear HU; have HU := hid hl; clear hl W6)
    | (go_at_call 14; (with_reducible refine (T1.out _ HU.out).mono ?_); rintro e w' ⟨rfl, hl⟩; clear HU; have HU := hid hl; clear hl T1)
    | (go_at_call 14; (with_reducible refine (T0.out _ HU.out).mono ?_); rintro e w' ⟨rfl, hl⟩; clear HU; have HU := hid hl; clear hl T0)
    | (go_at_call 14; (with_reducible refine (T6.out _ HU.out).mono ?_); rintro e w' ⟨rfl, hl⟩; clear HU; have HU := hid hl; clear hl T6)
    | (go_at_call 23; refine (RO.out _ HU.out).mono ?_; rintro e w' ⟨ad, c', rfl, hl⟩; clear HU; have HU := hid hl; clear hl RO)
    | (go_at_call 24; refine (hA _).mono ?_; rintro e w4 ⟨rfl, hb⟩; have HB4 := hid hb; clear hb hA))
  go_ret
  exact ⟨rfl, HU.out.bel.trans (HB4.out.mono HU.out.bel.size)⟩
end Go.Proofs.Ytmpldaenakenlaa
namespace Go.Proofs.Ytmpldaenakenlaa
open Go.RowKit
open C (Only hid Still ret_bool ret_int)
set_option linter.unusedVariables false
set_option maxRecDepth 100000

theorem Dx.ty {w : World} {F : Nat → Prop} {p : Nat} {v : UV} (h : Dx w F p v) {x : Nat} (hx : F x) : ∃ c t, w.heap[x]? = some (.cells c t (0, 0)) ∧ (t == 28 || t == 5) = true := by
  obtain ⟨a, b, h1, ok, hF⟩ := h
  rcases (hF x).1 hx with z | z | z
  · subst z; exact ⟨_, _, h1.top, rfl⟩
  · obtain ⟨c, y⟩ := own_typ h1.q z; exact ⟨_, _, y, rfl⟩
  · obtain ⟨c, y⟩ := own_typ h1.s z; exact ⟨_, _, y, rfl⟩
/-- what the law has put aside stays -/
def KpU (w w' : World) : Prop := ∀ (x : Nat) (c : Array Value), w.heap[x]? = some (.cells c 31 (0, 0)) → w'.heap[x]? = some (.cells c 31 (0, 0))
theorem KpU.trans {a b c : World} (h : KpU a b) (k : KpU b c) : KpU a c := fun x d hx => k x d (h x d hx)
theorem KpU.refl (w : World) : KpU w w := fun _ _ h => h
/-- the program's UART, and the document's -/
structure P2 (W w : World) (p q : Nat) (v u : UV) (F G : Nat → Prop) : Prop where
  a : Ux w F p v
  b : Dx w G q u
  d : ∀ x, F x → ¬ G x
  f : ∀ x, F x → W.heap.size ≤ x
  g : ∀ x, G x → W.heap.size ≤ x
  n : Below W.heap.size W w
def PU (W w : World) (p q : Nat) (v u : UV) : Prop := ∃ F G, P2 W w p q v u F G
section
variable {W w w' : World} {p q : Nat} {v u v' u' : UV}
theorem PU.bel (h : PU W w p q v u) : Below W.heap.size W w := by obtain ⟨F, G, k⟩ := h; exact k.n
theorem PU.below (h : PU W w p q v u) (hb : Below w.heap.size w w') : PU W w' p q v u := by
  obtain ⟨F, G, k⟩ := h
  exact ⟨F, G, k.a.only (T := fun _ => False) (.ofBelow hb) (fun _ _ z => z), k.b.only (T := fun _ => False) (.ofBelow hb) (fun _ _ z => z), k.d, k.f, k.g, k.n.trans (hb.mono k.n.size)⟩
theorem PU.callU (h : PU W w p q v u) {f : FuncId} {args : Array Value} {r : Value} (hc : ∀ F, Ux w F p v → Calls Try.prog f args w fun e w' => e = .returned r ∧ ∃ F', Ux w' F' p v' ∧ Tn w w' F F') : Calls Try.prog f args w fun e w' => e = .returned r ∧ PU W w' p q v' u ∧ KpU w w' := by
  obtain ⟨F, G, k⟩ := h
  refine (hc F k.a).mono ?_
  rintro e w' ⟨rfl, F', k1, k2, k3⟩
  refine ⟨rfl, ⟨F', G, k1, k.b.only k2 fun x gx fx => k.d x fx gx, fun x fx gx => ?_, fun x hx => (k3 x hx).elim (k.f x) fun z => Nat.le_trans k.n.size z, k.g, k2.bel k.f k.n⟩, fun x c hx => k2.old hx fun fx => ?_⟩
  · rcases k3 x fx with z | z
    · exact k.d x z gx
    · have := k.b.lt gx; omega
  · obtain ⟨c', t, e1, e2⟩ := k.a.ty fx
    rw [hx] at e1
    simp at e1
    obtain ⟨-, rfl⟩ := e1
    revert e2
    decide
theorem PU.callD (h : PU W w p q v u) {f : FuncId} {args : Array Value} {r : Value} (hc : ∀ G, Dx w G q u → Calls Try.prog f args w fun e w' => e = .returned r ∧ ∃ G', Dx w' G' q u' ∧ Tn w w' G G') : Calls Try.prog f args w fun e w' => e = .returned r ∧ PU W w' p q v u' ∧ KpU w w' := by
  obtain ⟨F, G, k⟩ := h
  refine (hc G k.b).mono ?_
  rintro e w' ⟨rfl, G', k1, k2, k3⟩
  refine ⟨rfl, ⟨F, G', k.a.only k2 fun x fx gx => k.d x fx gx, k1, fun x fx gx => ?_, k.f, fun x hx => (k3 x hx).elim (k.g x) fun z => Nat.le_trans k.n.size z, k2.bel k.g k.n⟩, fun x c hx => k2.old hx fun fx => ?_⟩
  · rcases k3 x gx with z | z
    · exact k.d x fx z
    · have := k.a.lt fx; omega
  · obtain ⟨c', t, e1, e2⟩ := k.b.ty fx
    rw [hx] at e1
    simp at e1
    obtain ⟨-, rfl⟩ := e1
    revert e2
    decide
theorem pu_irq (h : PU W w p q v u) : Calls Try.prog 20 #[.pointer (some ⟨p, 0, none⟩)] w fun e w' => e = .returned (.bool (v.cau != 1)) ∧ w' = w := by
  obtain ⟨F, G, k⟩ := h
  exact u_Irq w F p v k.a
theorem pd_irq (h : PU W w p q v u) : Calls Try.prog 21 #[.pointer (some ⟨q, 0, none⟩)] w fun e w' => e = .returned (.bool (u.cau != 1)) ∧ w' = w := by
  obtain ⟨F, G, k⟩ := h
  exact d_Irq w G q u k.b
end
theorem f01_inn {v : UV} (h : F01 v) (x : Int) : F01 (v.inn x) := by unfold UV.inn; split <;> exact h
theorem f01_rd {v : UV} (h : F01 v) (o : Int) : F01 (v.rd o).2 := by
  have a : F01 v.nxt.2 := by unfold UV.nxt; split <;> exact h
  have b : F01 v.tcv := by unfold UV.tcv; split <;> exact h
  unfold UV.rd
  repeat' split
  all_goals first | exact h | exact a | exact b
theorem f01_wr {v : UV} (h : F01 v) (o x : Int) : F01 (v.wr o x) := by
  have a : x % 2 = 0 ∨ x % 2 = 1 := by omega
  unfold UV.wr
  repeat' split
  all_goals first | exact h | exact a
theorem s_rd (v : UV) (o : Int) : (v.rd o).2.s = v.s := by
  have a : v.nxt.2.s = v.s := by unfold UV.nxt; split <;> rfl
  have b : v.tcv.s = v.s := by unfold UV.tcv; split <;> rfl
  unfold UV.rd
  repeat' split
  all_goals first | rfl | exact a | exact b
theorem s_wr (v : UV) (o x : Int) : (v.wr o x).s.length ≤ v.s.length + 1 := by
  unfold UV.wr
  repeat' split
  all_goals first | exact Nat.le_succ _ | (show (v.s ++ [x]).length ≤ _; simp)
theorem s_inn (v : UV) (x : Int) : (v.inn x).s = v.s := by unfold UV.inn; split <;> rfl
end Go.Proofs.Ytmpldaenakenlaa
namespace Go.Proofs.Ytmpldaenakenlaa
open Go.RowKit
open C (Only hid Still ret_bool ret_int)
set_option linter.unusedVariables false
set_option maxRecDepth 100000

theorem info_u64 : (Try.prog.info? 29).map (fun i => (i.zero, i.size, i.bytes)) = some (some (.int .u64 0), 1, 8) := by kernel_rfl
theorem u_su64 : Try.prog.underlying 40 = some (.slice 29) := by kernel_rfl
theorem madeU (n : Nat) : madeCells (Value.int .u64 0).cells (n * 1) = lec (iv0 n) := by
  apply Array.ext
  · rw [size_madeCells]; simp [lec, iv0]
  · intro j h1 h2
    rw [size_madeCells] at h1
    have b := lec_at (iv0 n) j (show j < n by omega)
    rw [Array.getElem?_eq_getElem h2] at b
    rw [Option.some.inj b]
    have e : (Value.int .u64 0).cells = #[.int .u64 0] := by rfl
    simp only [madeCells, Array.getElem_map, Array.getElem_range, e]
    show #[Value.int .u64 0][j % 1]! = _
    rw [Nat.mod_one]
    rfl
/-- the document's New, as far as source k -/
def bN (k : Nat) : Nat → Int := fun j => if j < k then -1 else 0
def zI : Array Value := ((List.range 97).map fun j => if j < 64 then Value.bool false else if j < 96 then .int .i64 0 else .slice none 0 0).toArray
theorem zI_size : zI.size = 97 := by simp [zI]
theorem zI_zero (w : World) : (zeroValue 86).run Try.prog w = .ok (.agg zI) w := by
  have ht : Try.t86.zero = some (.agg zI) := by kernel_rfl
  simp [zeroValue, go_sem, ht]
theorem zI_set (n g : Nat) : zI.setIfInBounds 96 (.slice (some ⟨g, 0, none⟩) n n) = jcs (iv0 n) (bN 0) g := by
  apply Array.ext_getElem?
  intro j
  rw [Array.getElem?_setIfInBounds]
  rcases Nat.lt_or_ge j 97 with q | q
  · rw [jcs_at _ _ _ _ q]
    have hz : zI[j]? = some (if j < 64 then Value.bool false else if j < 96 then .int .i64 0 else .slice none 0 0) := by
      unfold zI
      simp [q]
    rw [hz]
    unfold jc
    by_cases e : 96 = j
    · subst e
      rw [if_pos rfl, if_pos (by rw [zI_size]; decide)]
      rfl
    · rw [if_neg e]
      by_cases a : j < 32
      · rw [if_pos a, if_pos (by omega)]
        show _ = some (Value.bool ((0 : Nat).testBit j))
        rw [Nat.zero_testBit]
      · rw [if_neg a]
        by_cases a2 : j < 64
        · rw [if_pos a2, if_pos a2]
          show _ = some (Value.bool ((0 : Nat).testBit (j - 32)))
          rw [Nat.zero_testBit]
        · rw [if_neg a2, if_neg a2, if_pos (by omega), if_pos (by omega)]
          rfl
  · rw [if_neg (by omega), Array.getElem?_eq_none (by rw [zI_size]; exact q), Array.getElem?_eq_none (by simp [jcs]; omega)]
theorem bN_step (n g k : Nat) (hk : k < 32) : (jcs (iv0 n) (bN k) g).setIfInBounds (64 + k) (.int .i64 (-1)) = jcs (iv0 n) (bN (k + 1)) g := by
  refine jcs_set _ _ _ _ g (64 + k) _ (by omega) ?_ fun j hj hn => ?_
  · unfold jc
    rw [if_neg (by omega), if_neg (by omega), if_pos (by omega)]
    unfold bN
    rw [if_pos (by omega)]
  · unfold jc
    split
    · rfl
    · split
      · rfl
      · split
        · unfold bN
          by_cases e : j - 64 < k
          · rw [if_pos e, if_pos (by omega)]
          · rw [if_neg e, if_neg (by omega)]
        · rfl
theorem rb_0 (n : Nat) : Rb (iv0 n) (bN 32) := fun s h1 h2 => .inl ⟨by unfold bN; rw [if_pos h2], fun k hk => Nat.zero_testBit s⟩
set_option maxHeartbeats 4000000 in
theorem j_New (w : World) (n : Nat) (h1 : 1 ≤ n) (h2 : n ≤ 64) : Calls Try.prog 29 #[.int .i64 n] w fun e w' => e = .returned (.tuple #[.pointer (some ⟨w.heap.size + 1, 0, none⟩), .int .i64 0]) ∧ (∃ F, Jx w' F (w.heap.size + 1) (iv0 n) ∧ ∀ x, F x → w.heap.size ≤ x) ∧ Below w.heap.size w w' := by
  have hz := zI_zero
  have hzs := zI_size
  have hze := zI_set n w.heap.size
  go_enter Try.func29, Try.ntmps29
  go_wp2_with (at_make; refine wpList_made _ rfl _ _ 40 rfl 29 _ 1 8 u_su64 info_u64 n rfl rfl (by omega) (by omega) _ (madeU n) ?_)
  have HB : Hid (Below w.heap.size w ((w.alloc (.cells (lec (iv0 n)) 29)).alloc (.cells (jcs (iv0 n) (bN 0) w.heap.size) 86))) := ((Below.refl _ _).alloc (Nat.le_refl _) _).alloc (by simp) _
  have e1 : ((w.alloc (.cells (lec (iv0 n)) 29)).alloc (.cells (jcs (iv0 n) (bN 0) w.heap.size) 86)).heap[w.heap.size]? = some (.cells (lec (iv0 n)) 29 (0, 0)) := (Below.heap_alloc (w.alloc _) _ _ (by simp)).trans (heap_alloc_new w _)
  have e2 := heap_alloc_new (w.alloc (.cells (lec (iv0 n)) 29)) (.cells (jcs (iv0 n) (bN 0) w.heap.size) 86)
  rw [show (w.alloc (.cells (lec (iv0 n)) 29)).heap.size = w.heap.size + 1 by simp] at e2
  have HJ : Hid (Jo ((w.alloc (.cells (lec (iv0 n)) 29)).alloc (.cells (jcs (iv0 n) (bN 0) w.heap.size) 86)) (w.heap.size + 1) w.heap.size (iv0 n) (bN 0)) := ⟨e2, e1⟩
  clear e1 e2 hz hzs hze
  generalize hq : w.heap.size + 1 = q at *
  go_loopw [5] (fun i wr => ∃ k : Nat, k ≤ 32 ∧ i = .int .i64 k ∧ Hid (Jo wr q w.heap.size (iv0 n) (bN k)) ∧ Hid (Below w.heap.size w wr)) (fun i _ => 32 - (intOf i).toNat)
  case atStart => exact ⟨0, by omega, rfl, HJ, HB⟩
  case round =>
    obtain ⟨k, hk, rfl, hj, hb⟩ := hrel
    by_cases hlt : k < 32
    · have a1 := hj.out.by k hlt
      have z1 := hj.out.fq (64 + k)
      have hk32 : (k : Int) < 32 := by omega
      have HN : Hid (Jo (wr.setCell ⟨q, 64 + k, none⟩ (.int .i64 (-1))) q w.heap.size (iv0 n) (bN (k + 1))) := ⟨setRowB wr q _ _ _ _ _ hj.out.top (bN_step n _ k hlt), (only_c wr q _ _).old hj.out.tab fun z => hj.out.qg z.symm⟩
      have HB2 : Hid (Below w.heap.size w (wr.setCell ⟨q, 64 + k, none⟩ (.int .i64 (-1)))) := hb.out.setCell (show w.heap.size ≤ q by omega) _
      go_wp2
      go_roundw
      case rel => exact ⟨k + 1, by omega, by go_num, HN, HB2⟩
      case measure => simp [intOf]; omega
    · obtain rfl : k = 32 := by omega
      go_wp2
      go_returns
      subst hq
      exact ⟨rfl, ⟨fun x => x = _ ∨ x = w.heap.size, ⟨w.heap.size, bN 32, hj.out, iok0 n h1 h2, rb_0 n, fun x => Iff.rfl⟩, fun x z => by omega⟩, hb.out⟩
theorem j_New_bad (w : World) (n : Int) (n0 : -9223372036854775808 ≤ n) (n1 : n ≤ 9223372036854775807) (h : n < 1 ∨ 64 < n) : Calls Try.prog 29 #[.int .i64 n] w fun e w' => e = .returned (.tuple #[.pointer none, .int .i64 1]) ∧ w' = w := by
  by_cases q : n < 1
  · go_enter Try.func29, Try.ntmps29
    go_wp2
    go_returns
    exact ⟨rfl, rfl⟩
  · have q2 : 64 < n := by omega
    go_enter Try.func29, Try.ntmps29
    go_wp2
    go_returns
    exact ⟨rfl, rfl⟩
theorem Jx.ty {w : World} {F : Nat → Prop} {q : Nat} {c : IV} (h : Jx w F q c) {x : Nat} (hx : F x) : ∃ d t, w.heap[x]? = some (.cells d t (0, 0)) ∧ (t == 86 || t == 29) = true := by
  obtain ⟨g, b, h1, ok, rb, hF⟩ := h
  rcases (hF x).1 hx with z | z
  · subst z; exact ⟨_, _, h1.top, rfl⟩
  · subst z; exact ⟨_, _, h1.tab, rfl⟩
/-- both controllers -/
structure P3 (W w : World) (p q : Nat) (c d : IV) (F G : Nat → Prop) : Prop where
  a : Ix w F p c
  b : Jx w G q d
  f : ∀ x, F x → W.heap.size ≤ x
  g : ∀ x, G x → W.heap.size ≤ x
  n : Below W.heap.size W w
def PI (W w : World) (p q : Nat) (c d : IV) : Prop := ∃ F G, P3 W w p q c d F G
section
variable {W w w' : World} {p q : Nat} {c d c' d' : IV} {F G : Nat → Prop}
theorem P3.ne (h : P3 W w p q c d F G) {x : Nat} (fx : F x) (gx : G x) : False := by
  obtain ⟨c1, t1, e1, f1⟩ := h.a.ty fx
  obtain ⟨c2, t2, e2, f2⟩ := h.b.ty gx
  rw [e1] at e2
  simp at e2
  obtain ⟨-, e3⟩ := e2
  subst e3
  simp at f1
  rcases f1 with rfl | rfl <;> simp at f2
theorem PI.bel (h : PI W w p q c d) : Below W.heap.size W w := by obtain ⟨F, G, k⟩ := h; exact k.n
theorem PI.below (h : PI W w p q c d) (hb : Below w.heap.size w w') : PI W w' p q c d := by
  obtain ⟨F, G, k⟩ := h
  exact ⟨F, G, k.a.below hb, k.b.below hb, k.f, k.g, k.n.trans (hb.mono k.n.size)⟩
theorem PI.callI (h : PI W w p q c d) {f : FuncId} {args : Array Value} {r : Value} (hc : ∀ F, Ix w F p c → Calls Try.prog f args w fun e w' => e = .returned r ∧ Ix w' F p c' ∧ Only F w w') : Calls Try.prog f args w fun e w' => e = .returned r ∧ PI W w' p q c' d ∧ KpU w w' := by
  obtain ⟨F, G, k⟩ := h
  refine (hc F k.a).mono ?_
  rintro e w' ⟨rfl, k1, k2⟩
  refine ⟨rfl, ⟨F, G, k1, k.b.only k2 fun x gx fx => k.ne fx gx, k.f, k.g, k2.bel k.f k.n⟩, fun x c hx => k2.old hx fun fx => ?_⟩
  obtain ⟨c', t, e1, e2⟩ := k.a.ty fx
  rw [hx] at e1
  simp at e1
  obtain ⟨-, rfl⟩ := e1
  revert e2
  decide
theorem PI.callJ (h : PI W w p q c d) {f : FuncId} {args : Array Value} {r : Value} (hc : ∀ G, Jx w G q d → Calls Try.prog f args w fun e w' => e = .returned r ∧ Jx w' G q d' ∧ Only G w w') : Calls Try.prog f args w fun e w' => e = .returned r ∧ PI W w' p q c d' ∧ KpU w w' := by
  obtain ⟨F, G, k⟩ := h
  refine (hc G k.b).mono ?_
  rintro e w' ⟨rfl, k1, k2⟩
  refine ⟨rfl, ⟨F, G, k.a.only k2 fun x fx gx => k.ne fx gx, k1, k.f, k.g, k2.bel k.g k.n⟩, fun x c hx => k2.old hx fun fx => ?_⟩
  obtain ⟨c', t, e1, e2⟩ := k.b.ty fx
  rw [hx] at e1
  simp at e1
  obtain ⟨-, rfl⟩ := e1
  revert e2
  decide
theorem pi_pen (h : PI W w p q c d) (x : Int) (x0 : -9223372036854775808 ≤ x) (x1 : x ≤ 9223372036854775807) : Calls Try.prog 38 #[.pointer (some ⟨p, 0, none⟩), .int .i64 x] w fun e w' => e = .returned (.bool (c.pen x)) ∧ PI W w' p q c d := by
  have H := h
  obtain ⟨F, G, k⟩ := h
  obtain ⟨g, h1, ok, hF⟩ := k.a
  exact (i_Pending w p g c h1 ok x x0 x1).mono fun e w' hh => ⟨hh.1, H.below hh.2⟩
theorem pj_pen (h : PI W w p q c d) (x : Int) (x0 : -9223372036854775808 ≤ x) (x1 : x ≤ 9223372036854775807) : Calls Try.prog 39 #[.pointer (some ⟨q, 0, none⟩), .int .i64 x] w fun e w' => e = .returned (.bool (d.pen x)) ∧ w' = w := by
  obtain ⟨F, G, k⟩ := h
  exact j_Pending w G q d k.b x x0 x1
end
end Go.Proofs.Ytmpldaenakenlaa
namespace Go.Proofs.Ytmpldaenakenlaa
open Go.RowKit
open C (Only hid)
set_option linter.unusedVariables false
set_option maxRecDepth 100000

theorem wpAny_inv {P : Program} {md : Region.Mode} {ops : Array Oper} {Q : Exit → Act → World → Prop} (J : Array Bool → Act → World → Prop)
    (step : ∀ listed a w, J listed a w → ∀ i ∈ Region.ready md ops listed, wpOp P ops Q i (J (listed.setIfInBounds i true)) a w)
    (fin : ∀ listed a w, J listed a w → Region.ready md ops listed = [] → Q .normal a w) :
    ∀ (fuel : Nat) (listed : Array Bool) (a : Act) (w : World), listed.toList.count false ≤ fuel → J listed a w → wpAny P md ops Q fuel listed a w := by
  intro fuel
  have key : ∀ (listed : Array Bool) (i : Nat), i ∈ Region.ready md ops listed → (listed.setIfInBounds i true).toList.count false + 1 = listed.toList.count false := by
    intro listed i hi
    have h0 := (mem_ready.1 hi).1
    have hlt : i < listed.size := by
      rcases Nat.lt_or_ge i listed.size with h | h
      · exact h
      · simp [Array.getElem?_eq_none h] at h0
    have hv : listed.toList[i]'(by simpa using hlt) = false := by simpa [hlt] using h0
    have hpos : 0 < listed.toList.count false := List.count_pos_iff.2 (by rw [← hv]; exact List.getElem_mem _)
    rw [Array.toList_setIfInBounds, List.count_set (by simpa using hlt), hv]
    have : ∀ c : Nat, 0 < c → c - (if (false == false) = true then 1 else 0) + (if (true == false) = true then 1 else 0) + 1 = c := by intro c hc; simp; omega
    exact this _ hpos
  induction fuel with
  | zero =>
    intro listed a w hc hJ
    have hr : Region.ready md ops listed = [] := by
      cases h : Region.ready md ops listed with
      | nil => rfl
      | cons i r => have := key listed i (by rw [h]; simp); omega
    exact ⟨hr, fin _ _ _ hJ hr⟩
  | succ fuel ih =>
    intro listed a w hc hJ
    refine ⟨fun h => fin _ _ _ hJ h, fun i hi => ?_⟩
    have := key listed i hi
    exact wpOp_mono (fun a' w' h' => ih _ a' w' (by omega) h') (step _ _ _ hJ i hi)
/-- no two operations have one slot -/
def ndB (ops : Array Oper) : Bool := (List.range ops.size).all fun j => (List.range ops.size).all fun k => j == k || (match ops[j]?, ops[k]? with | some o, some p => o.dst.isNone || o.dst != p.dst | _, _ => true)
theorem ndB_spec {ops : Array Oper} (h : ndB ops = true) {j k : Nat} {o p : Oper} {d : Nat} (hj : ops[j]? = some o) (hk : ops[k]? = some p) (ho : o.dst = some d) (hp : p.dst = some d) : j = k := by
  unfold ndB at h
  have hjl : j < ops.size := (Array.getElem?_eq_some_iff.1 hj).1
  have hkl : k < ops.size := (Array.getElem?_eq_some_iff.1 hk).1
  have := List.all_eq_true.1 (List.all_eq_true.1 h j (by simpa using hjl)) k (by simpa using hkl)
  simp only [hj, hk, ho, hp] at this
  simpa using this
structure FrQ (ops : Array Oper) (vt : Nat → Value) (t0 : Array Value) (listed : Array Bool) (a : Act) : Prop where
  df : a.defers = []
  sz : a.tmps.size = t0.size
  ls : listed.size = ops.size
  keep : ∀ d, (ops.toList.all fun o => o.dst != some d) = true → a.tmps[d]? = t0[d]?
  val : ∀ j o d, ops[j]? = some o → o.dst = some d → listed.getD j false = true → a.tmps[d]? = some (vt d)
section
variable {ops : Array Oper} {vt : Nat → Value} {t0 : Array Value} {listed : Array Bool} {a : Act}
theorem FrQ.start (hs : listed = Array.replicate ops.size false) : FrQ ops vt t0 listed ⟨t0, []⟩ := by
  subst hs
  refine ⟨rfl, rfl, by simp, fun _ _ => rfl, fun j o d hj _ hl => ?_⟩
  have hjl : j < ops.size := (Array.getElem?_eq_some_iff.1 hj).1
  simp [hjl] at hl
theorem getD_set (l : Array Bool) (j k : Nat) (hj : j < l.size) : (l.setIfInBounds j true).getD k false = if k = j then true else l.getD k false := by
  by_cases e : k = j
  · subst e; simp [hj]
  · rw [if_neg e]
    simp only [Array.getD_eq_getD_getElem?, Array.getElem?_setIfInBounds]
    rw [if_neg (fun q => e q.symm)]
theorem FrQ.put (h : FrQ ops vt t0 listed a) (hn : ndB ops = true) {j : Nat} {o : Oper} {d : Nat} {v : Value} (ho : ops[j]? = some o) (hd : o.dst = some d) (hv : v = vt d) (hdl : d < t0.size) : FrQ ops vt t0 (listed.setIfInBounds j true) (a.put o.dst v) := by
  have hjl : j < listed.size := by rw [h.ls]; exact (Array.getElem?_eq_some_iff.1 ho).1
  subst hv
  rw [hd]
  refine ⟨h.df, by simp [Act.put, h.sz], by simp [h.ls], fun k hk => ?_, fun i p k hi hp hl => ?_⟩
  · have : k ≠ d := fun q => by
      subst q
      have := List.all_eq_true.1 hk o (by have := Array.mem_of_getElem? ho; exact Array.mem_toList_iff.2 this)
      simp [hd] at this
    simp only [Act.put, Array.getElem?_setIfInBounds]
    rw [if_neg (fun q => this q.symm)]
    exact h.keep k hk
  · rw [getD_set _ _ _ hjl] at hl
    simp only [Act.put, Array.getElem?_setIfInBounds]
    by_cases e : d = k
    · subst e
      rw [if_pos rfl, if_pos (by rw [h.sz]; exact hdl)]
    · rw [if_neg e]
      have : i ≠ j := fun q => by subst q; rw [ho] at hi; cases hi; rw [hd] at hp; exact e (Option.some.inj hp)
      rw [if_neg this] at hl
      exact h.val i p k hi hp hl
theorem FrQ.skip (h : FrQ ops vt t0 listed a) {j : Nat} {o : Oper} (ho : ops[j]? = some o) (hd : o.dst = none) (v : Value) : FrQ ops vt t0 (listed.setIfInBounds j true) (a.put o.dst v) := by
  have hjl : j < listed.size := by rw [h.ls]; exact (Array.getElem?_eq_some_iff.1 ho).1
  rw [hd]
  refine ⟨h.df, h.sz, by simp [h.ls], h.keep, fun i p k hi hp hl => ?_⟩
  rw [getD_set _ _ _ hjl] at hl
  have : i ≠ j := fun q => by subst q; rw [ho] at hi; cases hi; rw [hd] at hp; cases hp
  rw [if_neg this] at hl
  exact h.val i p k hi hp hl
theorem FrQ.ev (h : FrQ ops vt t0 listed a) {i : Nat} {o : Oper} {d : Nat} (hi : ops[i]? = some o) (hd : o.dst = some d) (hl : listed.getD i false = true) : a.tmps[d]?.getD undef = vt d := by
  simp only [h.val i o d hi hd hl, Option.getD_some]
theorem FrQ.base (h : FrQ ops vt t0 listed a) (d : Nat) (hd : (ops.toList.all fun o => o.dst != some d) = true) {v : Value} (hv : t0[d]? = some v) : a.tmps[d]?.getD undef = v := by
  simp only [h.keep d hd, hv, Option.getD_some]
end
/-- what an operation waits for has been done -/
theorem he_all {listed : Array Bool} {after : Array Edge} (he : ∀ e ∈ after, Region.binds .any e = true → listed.getD e.on false = true) (n : Nat) (hc : ((List.range n).all fun i => after.any fun e => e.on == i && Region.binds .any e) = true) (i : Nat) (hi : i < n) : listed.getD i false = true := by
  have := List.all_eq_true.1 hc i (by simpa using hi)
  obtain ⟨e, h1, h2⟩ := Array.any_eq_true'.1 this
  simp only [Bool.and_eq_true, beq_iff_eq] at h2
  rw [← h2.1]
  exact he e h1 h2.2
theorem wp_q {P : Program} {ops : Array Oper} {Q : Exit → Act → World → Prop} {i : Nat} {o : Oper} {K : Act → World → Prop} {a : Act} {w w' : World} {v : Value} (ho : ops[i]? = some o) (hg : o.guard = none) (hr : (execOp a.eval o).run P w = .ok (.value v) w') (h : K (a.put o.dst v) w') : wpOp P ops Q i K a w := by
  refine wpOp_step ho fun K' hK => ?_
  rw [if_pos (by simp [Region.wanted, hg])]
  unfold Oper.wp
  rw [hr]
  exact hK _ _ h
theorem wp_s {P : Program} {ops : Array Oper} {Q : Exit → Act → World → Prop} {i : Nat} {o : Oper} {K : Act → World → Prop} {a : Act} {w w' : World} (ho : ops[i]? = some o) (hg : o.guard = none) (hr : (execOp a.eval o).run P w = .ok .skip w') (h : K (a.put o.dst undef) w') : wpOp P ops Q i K a w := by
  refine wpOp_step ho fun K' hK => ?_
  rw [if_pos (by simp [Region.wanted, hg])]
  unfold Oper.wp
  rw [hr]
  exact hK _ _ h
theorem wpAny_fq {P : Program} {ops : Array Oper} {Q : Exit → Act → World → Prop} {t0 : Array Value} {w : World} (vt : Nat → Value) (V : Array Bool → World → Prop)
    (step : ∀ listed a w, FrQ ops vt t0 listed a ∧ V listed w → ∀ i ∈ Region.ready .any ops listed, wpOp P ops Q i (fun a' w' => FrQ ops vt t0 (listed.setIfInBounds i true) a' ∧ V (listed.setIfInBounds i true) w') a w)
    (fin : ∀ listed a w, FrQ ops vt t0 listed a ∧ V listed w → Region.ready .any ops listed = [] → Q .normal a w) (start : V (Array.replicate ops.size false) w) :
    wpAny P .any ops Q ops.size (Array.replicate ops.size false) ⟨t0, []⟩ w :=
  wpAny_inv (fun listed fr wr => FrQ ops vt t0 listed fr ∧ V listed wr) step fin _ _ _ _ (by simp) ⟨FrQ.start rfl, start⟩
theorem getD_tf {l : Array Bool} {j : Nat} (hj : j < l.size) (h : l.getD j true = false) : l.getD j false = false := by simp [hj] at h ⊢; exact h
theorem allDone {ops : Array Oper} {listed : Array Bool} (hr : Region.ready .any ops listed = []) (hs : listed.size = ops.size) (hc : ((List.range ops.size).all fun j => (match ops[j]? with | some o => o.after.all fun e => decide (e.on < j) | none => true)) = true) : ∀ j, j < ops.size → listed.getD j false = true := by
  intro j
  induction j using Nat.strongRecOn with
  | _ j ih =>
    intro hj
    have h1 := List.all_eq_true.1 hc j (by simpa using hj)
    cases z : listed.getD j false with
    | true => rfl
    | false =>
      exfalso
      have hjo : ops[j]? = some ops[j] := by simp [hj]
      rw [hjo] at h1
      have : j ∈ Region.ready .any ops listed := by
        refine mem_ready.2 ⟨?_, ops[j], hjo, fun e he _ => ?_⟩
        · have hjl : j < listed.size := by rw [hs]; exact hj
          simp [hjl] at z ⊢
          exact z
        · have := Array.all_eq_true_iff_forall_mem.1 h1 e he
          have hlt : e.on < j := by simpa using this
          exact ih e.on hlt (Nat.lt_trans hlt hj)
      rw [hr] at this
      cases this
def fillF (vt : Nat → Value) (t : Array Value) (o : Oper) : Array Value := match o.dst with | some d => t.setIfInBounds d (vt d) | none => t
theorem fillF_size (vt : Nat → Value) (t : Array Value) (o : Oper) : (fillF vt t o).size = t.size := by unfold fillF; split <;> simp
theorem fill_get (vt : Nat → Value) (d : Nat) : ∀ (l : List Oper) (t : Array Value), d < t.size → (l.foldl (fillF vt) t)[d]? = if (l.any fun o => o.dst == some d) = true then some (vt d) else t[d]?
  | [], t, hd => by simp
  | o :: l, t, hd => by
    rw [List.foldl_cons, fill_get vt d l _ (by rw [fillF_size]; exact hd), List.any_cons]
    by_cases h1 : (l.any fun o => o.dst == some d) = true
    · rw [if_pos h1, if_pos (by rw [h1, Bool.or_true])]
    · rw [if_neg h1]
      unfold fillF
      cases ho : o.dst with
      | none => rw [if_neg (by simpa using h1)]
      | some e =>
        by_cases e1 : e = d
        · subst e1
          rw [if_pos (by simp)]
          simp [hd]
        · rw [if_neg (by simp [e1]; simpa using h1)]
          simp only [Array.getElem?_setIfInBounds, if_neg e1]
theorem fill_size (vt : Nat → Value) : ∀ (l : List Oper) (t : Array Value), (l.foldl (fillF vt) t).size = t.size
  | [], t => rfl
  | o :: l, t => by rw [List.foldl_cons, fill_size vt l, fillF_size]
theorem FrQ.full {ops : Array Oper} {vt : Nat → Value} {t0 : Array Value} {listed : Array Bool} {a : Act} (h : FrQ ops vt t0 listed a) (hl : ∀ j, j < ops.size → listed.getD j false = true) : a = ⟨ops.toList.foldl (fillF vt) t0, []⟩ := by
  obtain ⟨t, df⟩ := a
  obtain rfl : df = [] := h.df
  have hs : t.size = t0.size := h.sz
  congr 1
  apply Array.ext_getElem?
  intro d
  by_cases hd : d < t0.size
  · rw [fill_get vt d _ _ hd]
    by_cases h1 : (ops.toList.any fun o => o.dst == some d) = true
    · rw [if_pos h1]
      obtain ⟨o, ho, hod⟩ := List.any_eq_true.1 h1
      obtain ⟨j, hj, hjo⟩ := List.getElem_of_mem ho
      have hjl : j < ops.size := by simpa using hj
      exact h.val j o d (by rw [← hjo]; simp [hjl]) (by simpa using hod) (hl j hjl)
    · rw [if_neg h1]
      refine h.keep d (List.all_eq_true.2 fun o ho => ?_)
      have : ¬ (o.dst == some d) = true := fun z => h1 (List.any_eq_true.2 ⟨o, ho, z⟩)
      simpa [bne] using this
  · rw [Array.getElem?_eq_none (by show t.size ≤ d; omega), Array.getElem?_eq_none (by rw [fill_size]; omega)]
/-- a call, then another one: as far as both are done -/
structure VP (w0 : World) (Md Fn : World → Prop) (z y : Nat) (listed : Array Bool) (w : World) : Prop where
  c0 : listed.getD z false = false → w = w0
  c1 : listed.getD z false = true → listed.getD y false = false → Md w
  c2 : listed.getD y false = true → Fn w ∧ listed.getD z false = true
section
variable {w0 w w' : World} {Md Fn : World → Prop} {z y : Nat} {listed : Array Bool}
theorem VP.q (h : VP w0 Md Fn z y listed w) {j : Nat} (hj : j < listed.size) (n1 : z ≠ j) (n2 : y ≠ j) : VP w0 Md Fn z y (listed.setIfInBounds j true) w :=
  ⟨fun a => h.c0 (by rwa [getD_set _ _ _ hj, if_neg n1] at a), fun a b => h.c1 (by rwa [getD_set _ _ _ hj, if_neg n1] at a) (by rwa [getD_set _ _ _ hj, if_neg n2] at b), fun a => by
    rw [getD_set _ _ _ hj, if_neg n2] at a
    rw [getD_set _ _ _ hj, if_neg n1]
    exact h.c2 a⟩
theorem VP.atz (h : VP w0 Md Fn z y listed w) (hl : listed.getD z false = false) : w = w0 ∧ listed.getD y false = false :=
  ⟨h.c0 hl, by cases e : listed.getD y false; rfl; have := (h.c2 e).2; rw [hl] at this; cases this⟩
theorem VP.doz (hj : z < listed.size) (hzy : y ≠ z) (hy : listed.getD y false = false) (hm : Md w') : VP w0 Md Fn z y (listed.setIfInBounds z true) w' :=
  ⟨fun a => (by rw [getD_set _ _ _ hj, if_pos rfl] at a; cases a), fun _ _ => hm, fun a => (by rw [getD_set _ _ _ hj, if_neg hzy, hy] at a; cases a)⟩
theorem VP.doy (hj : y < listed.size) (hzy : z ≠ y) (hz : listed.getD z false = true) (hm : Fn w') : VP w0 Md Fn z y (listed.setIfInBounds y true) w' :=
  ⟨fun a => (by rw [getD_set _ _ _ hj, if_neg hzy, hz] at a; cases a), fun _ a => (by rw [getD_set _ _ _ hj, if_pos rfl] at a; cases a), fun _ => ⟨hm, by rw [getD_set _ _ _ hj, if_neg hzy]; exact hz⟩⟩
end
/-- a call of 2 arguments as a step -/
theorem wp_c2 {P : Program} {ops : Array Oper} {Q : Exit → Act → World → Prop} {i : Nat} {o : Oper} {K : Act → World → Prop} {a : Act} {w : World} (ho : ops[i]? = some o) (hg : o.guard = none) (f : FuncId) (x y : Operand) (ts : Array TypeId) (hop : o.op = .call { callee := .value (.func f), args := #[x, y], argTypes := ts }) (vx vy : Value) (hx : a.eval x = vx) (hy : a.eval y = vy) (hnf : (callFunc f #[vx, vy]).run P w = .ok (.enter f #[vx, vy]) w) {R : Ending → World → Prop} (hc : Calls P f #[vx, vy] w R)
    (h : ∀ e w', R e w' → ∃ v, e = .returned v ∧ K (a.put o.dst v) w') : wpOp P ops Q i K a w := by
  refine wpOp_step ho fun K' hK => ?_
  rw [if_pos (by simp [Region.wanted, hg])]
  have he : (execOp a.eval o).run P w = .ok (.enter f #[vx, vy]) w := by
    have hf : a.eval (.func f) = .func (.func f) #[] #[] := rfl
    simp [execOp, hop, resolve, invoke, Deferred.ofValue, hf, hx, hy, hnf]
  unfold Oper.wp
  rw [he, Oper.upon_enter]
  refine hc.mono fun e w' hR => ?_
  obtain ⟨v, rfl, hk⟩ := h e w' hR
  exact hK _ _ hk
/-- a call of 4 arguments as a step -/
theorem wp_c4 {P : Program} {ops : Array Oper} {Q : Exit → Act → World → Prop} {i : Nat} {o : Oper} {K : Act → World → Prop} {a : Act} {w : World} (ho : ops[i]? = some o) (hg : o.guard = none) (f : FuncId) (x y z t : Operand) (ts : Array TypeId) (hop : o.op = .call { callee := .value (.func f), args := #[x, y, z, t], argTypes := ts }) (vx vy vz vt : Value) (hx : a.eval x = vx) (hy : a.eval y = vy) (hz : a.eval z = vz) (ht : a.eval t = vt) (hnf : (callFunc f #[vx, vy, vz, vt]).run P w = .ok (.enter f #[vx, vy, vz, vt]) w) {R : Ending → World → Prop} (hc : Calls P f #[vx, vy, vz, vt] w R)
    (h : ∀ e w', R e w' → ∃ v, e = .returned v ∧ K (a.put o.dst v) w') : wpOp P ops Q i K a w := by
  refine wpOp_step ho fun K' hK => ?_
  rw [if_pos (by simp [Region.wanted, hg])]
  have he : (execOp a.eval o).run P w = .ok (.enter f #[vx, vy, vz, vt]) w := by
    have hf : a.eval (.func f) = .func (.func f) #[] #[] := rfl
    simp [execOp, hop, resolve, invoke, Deferred.ofValue, hf, hx, hy, hz, ht, hnf]
  unfold Oper.wp
  rw [he, Oper.upon_enter]
  refine hc.mono fun e w' hR => ?_
  obtain ⟨v, rfl, hk⟩ := h e w' hR
  exact hK _ _ hk
/-- what holds in the three worlds holds at each step -/
theorem VP.all {w0 w : World} {Md Fn : World → Prop} {z y : Nat} {listed : Array Bool} (h : VP w0 Md Fn z y listed w) {K : World → Prop} (k0 : K w0) (k1 : ∀ w, Md w → K w) (k2 : ∀ w, Fn w → K w) : K w := by
  cases ey : listed.getD y false
  · cases ez : listed.getD z false
    · rw [h.c0 ez]; exact k0
    · exact k1 _ (h.c1 ez ey)
  · exact k2 _ (h.c2 ey).1
theorem FrQ.swap {ops : Array Oper} {vt vt' : Nat → Value} {t0 : Array Value} {listed : Array Bool} {a : Act} (h : FrQ ops vt t0 listed a) (hv : ∀ j o d, ops[j]? = some o → o.dst = some d → listed.getD j false = true → vt d = vt' d) : FrQ ops vt' t0 listed a :=
  ⟨h.df, h.sz, h.ls, h.keep, fun j o d h1 h2 h3 => by rw [← hv j o d h1 h2 h3]; exact h.val j o d h1 h2 h3⟩
/-- a value that is told only when it is made -/
theorem wpAny_fx {α : Type} {P : Program} {ops : Array Oper} {Q : Exit → Act → World → Prop} {t0 : Array Value} {w : World} (vt : α → Nat → Value) (V : α → Array Bool → World → Prop)
    (step : ∀ listed a w x, FrQ ops (vt x) t0 listed a → V x listed w → ∀ i ∈ Region.ready .any ops listed, wpOp P ops Q i (fun a' w' => ∃ y, FrQ ops (vt y) t0 (listed.setIfInBounds i true) a' ∧ V y (listed.setIfInBounds i true) w') a w)
    (fin : ∀ listed a w x, FrQ ops (vt x) t0 listed a → V x listed w → Region.ready .any ops listed = [] → Q .normal a w) (x0 : α) (start : V x0 (Array.replicate ops.size false) w) :
    wpAny P .any ops Q ops.size (Array.replicate ops.size false) ⟨t0, []⟩ w :=
  wpAny_inv (fun listed fr wr => ∃ x, FrQ ops (vt x) t0 listed fr ∧ V x listed wr) (fun l a w ⟨x, h1, h2⟩ i hi => step l a w x h1 h2 i hi) (fun l a w ⟨x, h1, h2⟩ hr => fin l a w x h1 h2 hr) _ _ _ _ (by simp) ⟨x0, FrQ.start rfl, start⟩
/-- one call that turns something; what holds behind it stays -/
structure VX (w0 : World) (M : World → Prop) (z : Nat) (listed : Array Bool) (w : World) : Prop where
  c0 : listed.getD z false = false → w = w0
  c1 : listed.getD z false = true → M w
theorem VX.q {w0 w w' : World} {M : World → Prop} {z : Nat} {listed : Array Bool} (h : VX w0 M z listed w) {j : Nat} (hj : j < listed.size) (n1 : z ≠ j) (hw : w' = w ∨ (listed.getD z false = true ∧ M w')) : VX w0 M z (listed.setIfInBounds j true) w' := by
  refine ⟨fun a => ?_, fun a => ?_⟩
  · rw [getD_set _ _ _ hj, if_neg n1] at a
    rcases hw with e | ⟨e, _⟩
    · rw [e]; exact h.c0 a
    · rw [a] at e; cases e
  · rw [getD_set _ _ _ hj, if_neg n1] at a
    rcases hw with e | ⟨_, e⟩
    · rw [e]; exact h.c1 a
    · exact e
theorem VX.doz {w0 w' : World} {M : World → Prop} {z : Nat} {listed : Array Bool} (hj : z < listed.size) (hm : M w') : VX w0 M z (listed.setIfInBounds z true) w' :=
  ⟨fun a => (by rw [getD_set _ _ _ hj, if_pos rfl] at a; cases a), fun _ => hm⟩
structure VY (w0 : World) (M : World → Prop) (z : Nat) (B : List Nat) (listed : Array Bool) (w : World) : Prop where
  c0 : listed.getD z false = false → w = w0
  c1 : listed.getD z false = true → M w
  cb : ∀ k ∈ B, listed.getD k false = true → listed.getD z false = true
theorem VY.q {w0 w w' : World} {M : World → Prop} {z : Nat} {B : List Nat} {listed : Array Bool} (h : VY w0 M z B listed w) {j : Nat} (hj : j < listed.size) (n1 : z ≠ j) (hB : j ∈ B → listed.getD z false = true) (hw : w' = w ∨ (listed.getD z false = true ∧ M w')) : VY w0 M z B (listed.setIfInBounds j true) w' := by
  refine ⟨fun a => ?_, fun a => ?_, fun k hk a => ?_⟩
  · rw [getD_set _ _ _ hj, if_neg n1] at a
    rcases hw with e | ⟨e, _⟩
    · rw [e]; exact h.c0 a
    · rw [a] at e; cases e
  · rw [getD_set _ _ _ hj, if_neg n1] at a
    rcases hw with e | ⟨_, e⟩
    · rw [e]; exact h.c1 a
    · exact e
  · rw [getD_set _ _ _ hj, if_neg n1]
    by_cases e : k = j
    · subst e; exact hB hk
    · rw [getD_set _ _ _ hj, if_neg e] at a
      exact h.cb k hk a
theorem VY.doz {w0 w' : World} {M : World → Prop} {z : Nat} {B : List Nat} {listed : Array Bool} (hj : z < listed.size) (hm : M w') : VY w0 M z B (listed.setIfInBounds z true) w' :=
  ⟨fun a => (by rw [getD_set _ _ _ hj, if_pos rfl] at a; cases a), fun _ => hm, fun _ _ _ => by rw [getD_set _ _ _ hj, if_pos rfl]⟩
theorem wp_c1 {P : Program} {ops : Array Oper} {Q : Exit → Act → World → Prop} {i : Nat} {o : Oper} {K : Act → World → Prop} {a : Act} {w : World} (ho : ops[i]? = some o) (hg : o.guard = none) (f : FuncId) (x : Operand) (ts : Array TypeId) (hop : o.op = .call { callee := .value (.func f), args := #[x], argTypes := ts }) (vx : Value) (hx : a.eval x = vx) (hnf : (callFunc f #[vx]).run P w = .ok (.enter f #[vx]) w) {R : Ending → World → Prop} (hc : Calls P f #[vx] w R)
    (h : ∀ e w', R e w' → ∃ v, e = .returned v ∧ K (a.put o.dst v) w') : wpOp P ops Q i K a w := by
  refine wpOp_step ho fun K' hK => ?_
  rw [if_pos (by simp [Region.wanted, hg])]
  have he : (execOp a.eval o).run P w = .ok (.enter f #[vx]) w := by
    have hf : a.eval (.func f) = .func (.func f) #[] #[] := rfl
    simp [execOp, hop, resolve, invoke, Deferred.ofValue, hf, hx, hnf]
  unfold Oper.wp
  rw [he, Oper.upon_enter]
  refine hc.mono fun e w' hR => ?_
  obtain ⟨v, rfl, hk⟩ := h e w' hR
  exact hK _ _ hk
/-- a call of no argument under a guard that holds -/
theorem wp_c0w {P : Program} {ops : Array Oper} {Q : Exit → Act → World → Prop} {i : Nat} {o : Oper} {K : Act → World → Prop} {a : Act} {w : World} (ho : ops[i]? = some o) (hw : Region.wanted o (yielded ops a.tmps) = true) (f : FuncId) (ts : Array TypeId) (hop : o.op = .call { callee := .value (.func f), args := #[], argTypes := ts }) (hnf : (callFunc f #[]).run P w = .ok (.enter f #[]) w) {R : Ending → World → Prop} (hc : Calls P f #[] w R)
    (h : ∀ e w', R e w' → ∃ v, e = .returned v ∧ K (a.put o.dst v) w') : wpOp P ops Q i K a w := by
  refine wpOp_step ho fun K' hK => ?_
  rw [if_pos hw]
  have he : (execOp a.eval o).run P w = .ok (.enter f #[]) w := by
    have hf : a.eval (.func f) = .func (.func f) #[] #[] := rfl
    simp [execOp, hop, resolve, invoke, Deferred.ofValue, hf, hnf]
  unfold Oper.wp
  rw [he, Oper.upon_enter]
  refine hc.mono fun e w' hR => ?_
  obtain ⟨v, rfl, hk⟩ := h e w' hR
  exact hK _ _ hk
end Go.Proofs.Ytmpldaenakenlaa
namespace Go.Proofs.Ytmpldaenakenlaa
open Go.ChangeShapes Go.WideShapes Go.ChangeAt Go.RowKit Go.Deep
set_option linter.unusedVariables false

theorem cells_i8 : Try.prog.cellsOf 3 = 1 := by kernel_rfl
theorem cells_u8 : Try.prog.cellsOf 29 = 1 := by kernel_rfl
theorem addr_two (a : Addr) (i j : Nat) : (a.add i).add j = a.add (i + j) := by
  unfold Addr.add
  by_cases hi : i = 0
  · subst hi; simp
  · by_cases hj : j = 0
    · subst hj; simp
    · have : ¬ i + j = 0 := by omega
      simp [hi, hj, Nat.add_assoc]
theorem fld8 {T k : Nat} {t : TypeId} {o : Nat} (h : ((Try.prog.fieldsOf T)[k]?).map (fun f => (f.type, f.offset)) = some (t, o)) : ∃ f, (Try.prog.fieldsOf T)[k]? = some f ∧ f.type = t ∧ f.offset = o := by
  cases hq : (Try.prog.fieldsOf T)[k]? with
  | none => rw [hq] at h; cases h
  | some f => rw [hq] at h; simp at h; exact ⟨f, rfl, h.1, h.2⟩
structure PopV where
  kd : Int
  sz : Int
  sr : Int
  of : Int
  v : Int
def PopV.cs (x : PopV) : List Value := [.int .i64 x.kd, .int .i64 x.sz, .int .i64 x.sr, .int .u64 x.of, .int .u64 x.v]
structure PopB (x : PopV) : Prop where
  kd : -9223372036854775808 ≤ x.kd ∧ x.kd ≤ 9223372036854775807
  sz : -9223372036854775808 ≤ x.sz ∧ x.sz ≤ 9223372036854775807
  sr : -9223372036854775808 ≤ x.sr ∧ x.sr ≤ 9223372036854775807
  of : 0 ≤ x.of ∧ x.of < 18446744073709551616
  v : 0 ≤ x.v ∧ x.v < 18446744073709551616
structure Pc (w : World) (ad : Option Addr) (la cap ab ao : Nat) (X : Nat → PopV) : Prop where
  len : la ≤ cap
  cap : cap ≤ 9223372036854775807
  at0 : 0 < la → ad = some ⟨ab, ao, none⟩ ∧ ab < w.heap.size
  cell : ∀ i, i < la → ∀ j, j < 5 → w.cell? ⟨ab, ao + i * 5 + j, none⟩ = (X i).cs[j]?
  num : ∀ i, i < la → PopB (X i)
theorem Pc.below {w w' : World} {ad : Option Addr} {la cap ab ao : Nat} {X : Nat → PopV} (h : Pc w ad la cap ab ao X) (hb : Below w.heap.size w w') : Pc w' ad la cap ab ao X :=
  ⟨h.len, h.cap, fun q => ⟨(h.at0 q).1, Nat.lt_of_lt_of_le (h.at0 q).2 hb.size⟩, fun i hi j hj => by
    have hlt := (h.at0 (by omega)).2
    have e : ∀ o, w'.cell? ⟨ab, o, none⟩ = w.cell? ⟨ab, o, none⟩ := fun o => World.cell?_of_block (w := w) (hb.block _ hlt)
    rw [e]; exact h.cell i hi j hj, h.num⟩
theorem under_pop : Try.prog.underlying 31 = some (.struct (Try.prog.fieldsOf 31)) := by kernel_rfl
theorem cells_pop : Try.prog.cellsOf 31 = 5 := by kernel_rfl
theorem u_sPOp : Try.prog.underlying 22 = some (.slice 31) := by kernel_rfl
set_option maxRecDepth 100000 in
theorem open_pop {H : Type} {enc : TypeId × Value → H} {W : World} {base fuel : Nat} {cs : List Value} {x : DataW H × List MemPlace} (h : DataW.trod enc Try.prog W base (fun _ => true) true fuel 31 cs = some x) :
    ∃ X : PopV, cs = X.cs ∧ PopB X := by
  obtain ⟨xs, n, _, rfl, hcl, hlen, hfs⟩ := DataW.trod_struct under_pop h
  have hl : xs.length = 5 := by rw [hlen]; kernel_rfl
  rw [cells_pop] at hcl
  obtain ⟨f0, e0, t0, o0⟩ := fld8 (T := 31) (k := 0) (t := 3) (o := 0) (by kernel_rfl)
  have q0 := hfs 0 f0 e0
  rw [t0, o0, cells_i8, List.getElem?_eq_getElem (by omega)] at q0
  obtain ⟨z0, r0, _, w0⟩ := DataW.trod_int Try.underlying3 q0
  obtain ⟨f1, e1, t1, o1⟩ := fld8 (T := 31) (k := 1) (t := 3) (o := 1) (by kernel_rfl)
  have q1 := hfs 1 f1 e1
  rw [t1, o1, cells_i8, List.getElem?_eq_getElem (by omega)] at q1
  obtain ⟨z1, r1, _, w1⟩ := DataW.trod_int Try.underlying3 q1
  obtain ⟨f2, e2, t2, o2⟩ := fld8 (T := 31) (k := 2) (t := 3) (o := 2) (by kernel_rfl)
  have q2 := hfs 2 f2 e2
  rw [t2, o2, cells_i8, List.getElem?_eq_getElem (by omega)] at q2
  obtain ⟨z2, r2, _, w2⟩ := DataW.trod_int Try.underlying3 q2
  obtain ⟨f3, e3, t3, o3⟩ := fld8 (T := 31) (k := 3) (t := 29) (o := 3) (by kernel_rfl)
  have q3 := hfs 3 f3 e3
  rw [t3, o3, cells_u8, List.getElem?_eq_getElem (by omega)] at q3
  obtain ⟨z3, r3, _, w3⟩ := DataW.trod_int Try.underlying29 q3
  obtain ⟨f4, e4, t4, o4⟩ := fld8 (T := 31) (k := 4) (t := 29) (o := 4) (by kernel_rfl)
  have q4 := hfs 4 f4 e4
  rw [t4, o4, cells_u8, List.getElem?_eq_getElem (by omega)] at q4
  obtain ⟨z4, r4, _, w4⟩ := DataW.trod_int Try.underlying29 q4
  obtain ⟨c0, c1, c2, c3, c4, rfl⟩ : ∃ c0 c1 c2 c3 c4, cs = [c0, c1, c2, c3, c4] := by
    match cs, hcl with
    | [c0, c1, c2, c3, c4], _ => exact ⟨c0, c1, c2, c3, c4, rfl⟩
  simp at r0 r1 r2 r3 r4
  subst r0 r1 r2 r3 r4
  have b3 := bounds_u64 w3
  have b4 := bounds_u64 w4
  exact ⟨⟨z0, z1, z2, z3, z4⟩, rfl, ⟨bounds_i64 w0, bounds_i64 w1, bounds_i64 w2, ⟨b3.1, by show z3 < _; omega⟩, ⟨b4.1, by show z4 < _; omega⟩⟩⟩
set_option maxRecDepth 100000 in
/-- a script, as it stands -/
theorem open_pops {H : Type} {enc : TypeId × Value → H} {W : World} {base : Nat} {r : Reach} {b : Nat} {v : Value} {d : DataW H} {p : List MemPlace}
    (hv : Value.okWide Try.prog W r b 22 v) (h : DataW.Trod enc Try.prog W base (fun _ => true) true 22 v d p) (hlt : ∀ x ∈ p, x.block < W.heap.size) :
    ∃ (ad : Option Addr) (la cap ab ao : Nat) (X : Nat → PopV), v = .slice ad la cap ∧ Pc W ad la cap ab ao X := by
  obtain ⟨a0, len, cap, rfl⟩ := okWide_slice u_sPOp hv
  obtain ⟨fuel, hf⟩ := h
  rcases open_slice u_sPOp hf with ⟨hcs, hx⟩ | ⟨a, len', cap', m, n, D, Pl, hcs, _, hl, hm, hmm, hx, hel⟩
  · simp [Value.cells] at hcs
    obtain ⟨rfl, rfl, rfl⟩ := hcs
    exact ⟨none, 0, 0, 0, 0, fun _ => ⟨0, 0, 0, 0, 0⟩, rfl, ⟨Nat.le_refl _, by decide, fun q => absurd q (by decide), fun i hi => absurd hi (Nat.not_lt_zero i), fun i hi => absurd hi (Nat.not_lt_zero i)⟩⟩
  · simp [Value.cells] at hcs
    obtain ⟨rfl, rfl, rfl⟩ := hcs
    simp only [if_true] at hmm
    have each : ∀ i, ∃ X : PopV, i < len → PopB X ∧ ∀ j, j < 5 → W.cell? (a.add (i * 5 + j)) = X.cs[j]? := fun i => by
      rcases Nat.lt_or_ge i len with hi | hi
      · obtain ⟨cs', h1, h2⟩ := hel i (by omega)
        obtain ⟨X, rfl, b0⟩ := open_pop h2
        rw [cells_pop] at h1
        obtain ⟨_, hlen, hcell⟩ := World.cells?_some h1
        refine ⟨X, fun _ => ⟨b0, fun j hj => ?_⟩⟩
        have := hcell j hj
        rw [addr_two] at this
        exact this
      · exact ⟨⟨0, 0, 0, 0, 0⟩, fun q => by omega⟩
    obtain ⟨X, hX⟩ := Classical.axiomOfChoice each
    clear each
    have hbl : ∀ h0 : 0 < len, a.spot = none ∧ a.block < W.heap.size := fun h0 => by
      have k0 := (hX 0 h0).2 0 (by decide)
      refine ⟨by simpa [Addr.add] using World.cell?_spot k0, ?_⟩
      obtain ⟨cs', h1, _⟩ := hel 0 (by omega)
      rw [cells_pop] at h1
      have := World.cells?_block h1 (by decide)
      simpa [Addr.add] using this
    obtain ⟨ab, ao, asp⟩ := a
    refine ⟨some ⟨ab, ao, asp⟩, len, cap, ab, ao, X, rfl, ⟨hl, by simpa [maxLen] using hm, fun h0 => ?_, fun i hi j hj => ?_, fun i hi => (hX i hi).1⟩⟩
    · obtain ⟨q1, q2⟩ := hbl h0
      obtain rfl : asp = none := q1
      exact ⟨rfl, q2⟩
    · obtain ⟨q1, q2⟩ := hbl (by omega)
      obtain rfl : asp = none := q1
      have k := (hX i hi).2 j hj
      rw [C.addr_add, ← Nat.add_assoc] at k
      exact k
theorem bytes_pop : Try.prog.bytesOf 31 = 40 := by kernel_rfl
set_option maxRecDepth 100000 in
theorem pops_len {H : Type} {enc : TypeId × Value → H} {W : World} {base : Nat} {ad : Option Addr} {la cap : Nat} {d : DataW H} {p : List MemPlace} (h : DataW.Trod enc Try.prog W base (fun _ => true) true 22 (.slice ad la cap) d p) (hw : ∀ n ∈ d.weights Try.prog 22, n ≤ reachBytes) : la ≤ 8796093022208 := by
  obtain ⟨fuel, hf⟩ := h
  rcases open_slice u_sPOp hf with ⟨hcs, hx⟩ | ⟨a, len', cap', m, n, D, Pl, hcs, _, hl, hm, hmm, hx, hel⟩
  · simp [Value.cells] at hcs
    obtain ⟨rfl, rfl, rfl⟩ := hcs
    exact Nat.zero_le _
  · simp [Value.cells] at hcs
    obtain ⟨rfl, rfl, rfl⟩ := hcs
    simp only [Prod.mk.injEq] at hx
    obtain ⟨rfl, rfl⟩ := hx
    have h2 := hw ((((List.range la).map D).length + ((List.range (m - la)).map fun j => D (la + j)).length) * Try.prog.bytesOf 31) (by simp [DataW.weights])
    rw [bytes_pop] at h2
    simp [reachBytes] at h2
    omega
/-- a list of numbers of a kind, as it stands -/
structure Nu (k : IntKind) (B : Int → Prop) (w : World) (ad : Option Addr) (la cap ab ao : Nat) (A : Nat → Int) : Prop where
  len : la ≤ cap
  cap : cap ≤ 9223372036854775807
  at0 : 0 < la → ad = some ⟨ab, ao, none⟩ ∧ ab < w.heap.size
  cell : ∀ i, i < la → w.cell? ⟨ab, ao + i, none⟩ = some (.int k (A i))
  num : ∀ i, B (A i)
theorem Nu.below {k : IntKind} {B : Int → Prop} {w w' : World} {ad : Option Addr} {la cap ab ao : Nat} {A : Nat → Int} (h : Nu k B w ad la cap ab ao A) (hb : Below w.heap.size w w') : Nu k B w' ad la cap ab ao A :=
  ⟨h.len, h.cap, fun q => ⟨(h.at0 q).1, Nat.lt_of_lt_of_le (h.at0 q).2 hb.size⟩, fun i hi => by
    have hlt := (h.at0 (by omega)).2
    rw [World.cell?_of_block (w := w) (hb.block _ hlt)]; exact h.cell i hi, h.num⟩
def Bi (x : Int) : Prop := -9223372036854775808 ≤ x ∧ x ≤ 9223372036854775807
def Bu (x : Int) : Prop := 0 ≤ x ∧ x < 18446744073709551616
def Bb (x : Int) : Prop := 0 ≤ x ∧ x < 256
theorem cells_ints' : Try.prog.cellsOf 3 = 1 := by kernel_rfl
set_option maxRecDepth 100000 in
theorem open_ints {H : Type} {enc : TypeId × Value → H} {W : World} {base : Nat} {r : Reach} {b : Nat} {v : Value} {d : DataW H} {p : List MemPlace}
    (hv : Value.okWide Try.prog W r b 62 v) (h : DataW.Trod enc Try.prog W base (fun _ => true) true 62 v d p) (hlt : ∀ x ∈ p, x.block < W.heap.size) :
    ∃ (ad : Option Addr) (la cap ab ao : Nat) (A : Nat → Int), v = .slice ad la cap ∧ Nu .i64 Bi W ad la cap ab ao A := by
  obtain ⟨ad, la, cap, ar, aa, rfl, hl, hm, hw, hc⟩ := C.open_nums Try.underlying62 Try.underlying3 cells_ints' hv h hlt
  obtain ⟨ab, ao, asp⟩ := aa
  have hsp : 0 < la → asp = none := fun q => by
    have := (hc q).2.2 0 q
    simpa [Addr.add] using World.cell?_spot this
  refine ⟨ad, la, cap, ab, ao, ar, rfl, ⟨hl, hm, fun q => ?_, fun i hi => ?_, fun i => ?_⟩⟩
  · obtain rfl := hsp q
    exact ⟨(hc q).1, (hc q).2.1⟩
  · obtain rfl := hsp (by omega)
    have := (hc (by omega)).2.2 i hi
    rwa [C.addr_add] at this
  · rcases hw i with q | q
    · rw [q]; exact ⟨by decide, by decide⟩
    · exact bounds_i64 q
theorem u_ints9 : Try.prog.underlying 62 = some (.slice 3) := by kernel_rfl
theorem bytes_ints9 : Try.prog.bytesOf 3 = 8 := by kernel_rfl
set_option maxRecDepth 100000 in
theorem ints_len {H : Type} {enc : TypeId × Value → H} {W : World} {base : Nat} {ad : Option Addr} {la cap : Nat} {d : DataW H} {p : List MemPlace} (h : DataW.Trod enc Try.prog W base (fun _ => true) true 62 (.slice ad la cap) d p) (hw : ∀ n ∈ d.weights Try.prog 62, n ≤ reachBytes) : la ≤ 17592186044416 := by
  obtain ⟨fuel, hf⟩ := h
  rcases open_slice u_ints9 hf with ⟨hcs, hx⟩ | ⟨a, len', cap', m, n, D, Pl, hcs, _, hl, hm, hmm, hx, hel⟩
  · simp [Value.cells] at hcs
    obtain ⟨rfl, rfl, rfl⟩ := hcs
    exact Nat.zero_le _
  · simp [Value.cells] at hcs
    obtain ⟨rfl, rfl, rfl⟩ := hcs
    simp only [Prod.mk.injEq] at hx
    obtain ⟨rfl, rfl⟩ := hx
    have h2 := hw ((((List.range la).map D).length + ((List.range (m - la)).map fun j => D (la + j)).length) * Try.prog.bytesOf 3) (by simp [DataW.weights])
    rw [bytes_ints9] at h2
    simp [reachBytes] at h2
    omega
theorem cells_u64s' : Try.prog.cellsOf 29 = 1 := by kernel_rfl
set_option maxRecDepth 100000 in
theorem open_u64s {H : Type} {enc : TypeId × Value → H} {W : World} {base : Nat} {r : Reach} {b : Nat} {v : Value} {d : DataW H} {p : List MemPlace}
    (hv : Value.okWide Try.prog W r b 40 v) (h : DataW.Trod enc Try.prog W base (fun _ => true) true 40 v d p) (hlt : ∀ x ∈ p, x.block < W.heap.size) :
    ∃ (ad : Option Addr) (la cap ab ao : Nat) (A : Nat → Int), v = .slice ad la cap ∧ Nu .u64 Bu W ad la cap ab ao A := by
  obtain ⟨ad, la, cap, ar, aa, rfl, hl, hm, hw, hc⟩ := C.open_nums Try.underlying40 Try.underlying29 cells_u64s' hv h hlt
  obtain ⟨ab, ao, asp⟩ := aa
  have hsp : 0 < la → asp = none := fun q => by
    have := (hc q).2.2 0 q
    simpa [Addr.add] using World.cell?_spot this
  refine ⟨ad, la, cap, ab, ao, ar, rfl, ⟨hl, hm, fun q => ?_, fun i hi => ?_, fun i => ?_⟩⟩
  · obtain rfl := hsp q
    exact ⟨(hc q).1, (hc q).2.1⟩
  · obtain rfl := hsp (by omega)
    have := (hc (by omega)).2.2 i hi
    rwa [C.addr_add] at this
  · rcases hw i with q | q
    · rw [q]; exact ⟨by decide, by decide⟩
    · have := bounds_u64 q; exact ⟨this.1, by omega⟩
theorem u_u64s9 : Try.prog.underlying 40 = some (.slice 29) := by kernel_rfl
theorem bytes_u64s9 : Try.prog.bytesOf 29 = 8 := by kernel_rfl
set_option maxRecDepth 100000 in
theorem u64s_len {H : Type} {enc : TypeId × Value → H} {W : World} {base : Nat} {ad : Option Addr} {la cap : Nat} {d : DataW H} {p : List MemPlace} (h : DataW.Trod enc Try.prog W base (fun _ => true) true 40 (.slice ad la cap) d p) (hw : ∀ n ∈ d.weights Try.prog 40, n ≤ reachBytes) : la ≤ 17592186044416 := by
  obtain ⟨fuel, hf⟩ := h
  rcases open_slice u_u64s9 hf with ⟨hcs, hx⟩ | ⟨a, len', cap', m, n, D, Pl, hcs, _, hl, hm, hmm, hx, hel⟩
  · simp [Value.cells] at hcs
    obtain ⟨rfl, rfl, rfl⟩ := hcs
    exact Nat.zero_le _
  · simp [Value.cells] at hcs
    obtain ⟨rfl, rfl, rfl⟩ := hcs
    simp only [Prod.mk.injEq] at hx
    obtain ⟨rfl, rfl⟩ := hx
    have h2 := hw ((((List.range la).map D).length + ((List.range (m - la)).map fun j => D (la + j)).length) * Try.prog.bytesOf 29) (by simp [DataW.weights])
    rw [bytes_u64s9] at h2
    simp [reachBytes] at h2
    omega
theorem cells_byts' : Try.prog.cellsOf 5 = 1 := by kernel_rfl
set_option maxRecDepth 100000 in
theorem open_byts {H : Type} {enc : TypeId × Value → H} {W : World} {base : Nat} {r : Reach} {b : Nat} {v : Value} {d : DataW H} {p : List MemPlace}
    (hv : Value.okWide Try.prog W r b 26 v) (h : DataW.Trod enc Try.prog W base (fun _ => true) true 26 v d p) (hlt : ∀ x ∈ p, x.block < W.heap.size) :
    ∃ (ad : Option Addr) (la cap ab ao : Nat) (A : Nat → Int), v = .slice ad la cap ∧ Nu .u8 Bb W ad la cap ab ao A := by
  obtain ⟨ad, la, cap, ar, aa, rfl, hl, hm, hw, hc⟩ := C.open_nums Try.underlying26 Try.underlying5 cells_byts' hv h hlt
  obtain ⟨ab, ao, asp⟩ := aa
  have hsp : 0 < la → asp = none := fun q => by
    have := (hc q).2.2 0 q
    simpa [Addr.add] using World.cell?_spot this
  refine ⟨ad, la, cap, ab, ao, ar, rfl, ⟨hl, hm, fun q => ?_, fun i hi => ?_, fun i => ?_⟩⟩
  · obtain rfl := hsp q
    exact ⟨(hc q).1, (hc q).2.1⟩
  · obtain rfl := hsp (by omega)
    have := (hc (by omega)).2.2 i hi
    rwa [C.addr_add] at this
  · rcases hw i with q | q
    · rw [q]; exact ⟨by decide, by decide⟩
    · have := bounds_u8 q; exact ⟨this.1, by omega⟩
theorem u_byts9 : Try.prog.underlying 26 = some (.slice 5) := by kernel_rfl
theorem bytes_byts9 : Try.prog.bytesOf 5 = 1 := by kernel_rfl
set_option maxRecDepth 100000 in
theorem byts_len {H : Type} {enc : TypeId × Value → H} {W : World} {base : Nat} {ad : Option Addr} {la cap : Nat} {d : DataW H} {p : List MemPlace} (h : DataW.Trod enc Try.prog W base (fun _ => true) true 26 (.slice ad la cap) d p) (hw : ∀ n ∈ d.weights Try.prog 26, n ≤ reachBytes) : la ≤ 140737488351232 := by
  obtain ⟨fuel, hf⟩ := h
  rcases open_slice u_byts9 hf with ⟨hcs, hx⟩ | ⟨a, len', cap', m, n, D, Pl, hcs, _, hl, hm, hmm, hx, hel⟩
  · simp [Value.cells] at hcs
    obtain ⟨rfl, rfl, rfl⟩ := hcs
    exact Nat.zero_le _
  · simp [Value.cells] at hcs
    obtain ⟨rfl, rfl, rfl⟩ := hcs
    simp only [Prod.mk.injEq] at hx
    obtain ⟨rfl, rfl⟩ := hx
    have h2 := hw ((((List.range la).map D).length + ((List.range (m - la)).map fun j => D (la + j)).length) * Try.prog.bytesOf 5) (by simp [DataW.weights])
    rw [bytes_byts9] at h2
    simp [reachBytes] at h2
    omega
end Go.Proofs.Ytmpldaenakenlaa
namespace Go.Proofs.Ytmpldaenakenlaa
open Go.RowKit
open C (Only hid Still ret_bool ret_int)
set_option linter.unusedVariables false
set_option maxRecDepth 100000

theorem n_wr (c : IV) (o s x : Int) : (c.wr o s x).2.n = c.n := by
  unfold IV.wr
  repeat' split
  all_goals rfl
theorem n_rd (c : IV) (o s : Int) : (c.rd o s).2.2.n = c.n := by
  unfold IV.rd
  repeat' split
  all_goals rfl
theorem pi_start (W w1 : World) (n p : Nat) (h : LI W w1 p (iv0 n)) (h1 : 1 ≤ n) (h2 : n ≤ 64) : Calls Try.prog 29 #[.int .i64 n] w1 fun e w' => e = .returned (.tuple #[.pointer (some ⟨w1.heap.size + 1, 0, none⟩), .int .i64 0]) ∧ PI W w' p (w1.heap.size + 1) (iv0 n) (iv0 n) := by
  obtain ⟨F, k1, k2, k3⟩ := h
  refine (j_New w1 n h1 h2).mono ?_
  rintro e w' ⟨rfl, ⟨G, g1, g2⟩, g3⟩
  exact ⟨rfl, F, G, k1.below g3, g1, k2, fun x hx => Nat.le_trans k3.size (g2 x hx), k3.trans (g3.mono k3.size)⟩
set_option maxHeartbeats 16000000 in
theorem w_PlatIntcs (W : World) (hs : Int) (hs0 : -9223372036854775808 ≤ hs) (hs1 : hs ≤ 9223372036854775807) (ad : Option Addr) (la cap ab ao : Nat) (X : Nat → PopV) (hX : Pc W ad la cap ab ao X) : Calls Try.prog 5 #[.int .i64 hs, .slice ad la cap] W fun e w' => e = .returned (.bool true) ∧ Below W.heap.size W w' := by
  have hAw := l_awake
  by_cases hok : 1 ≤ hs ∧ hs ≤ 64
  · obtain ⟨n, rfl⟩ : ∃ n : Nat, hs = n := ⟨hs.toNat, by omega⟩
    have hN := l_NewI W W (.refl _ _) n (by omega) (by omega)
    have HM : Hid (∀ w1 p, LI W w1 p (iv0 n) → Calls Try.prog 29 #[.int .i64 n] w1 fun e w' => e = .returned (.tuple #[.pointer (some ⟨w1.heap.size + 1, 0, none⟩), .int .i64 0]) ∧ PI W w' p (w1.heap.size + 1) (iv0 n) (iv0 n)) := fun w1 p h => pi_start W w1 n p h (by omega) (by omega)
    have HXs := hid hX
    have hlen := hX.len
    have hcap := hX.cap
    have n64 : (n : Int) ≤ 64 := hok.2
    clear hX
    go_enter Try.func5, Try.ntmps5
    go_wp2_with (first
      | (go_at_call 28; refine hN.mono ?_; rintro e w1 ⟨rfl, hl, -⟩; have hM := HM.out w1 _ hl; clear hl hN)
      | (go_at_call 29; refine hM.mono ?_; rintro e w2 ⟨rfl, hl⟩; have HU := hid hl; clear hl hM))
    generalize W.heap.size + 1 = p at *
    generalize w1.heap.size + 1 = q at *
    go_loopw [9] (fun i wr => ∃ (j : Nat) (c : IV), j ≤ la ∧ i = .int .i64 j ∧ Hid (PI W wr p q c c) ∧ c.n = n) (fun i _ => la - (intOf i).toNat)
    case atStart => exact ⟨0, iv0 n, by omega, rfl, HU, rfl⟩
    case round =>
      obtain ⟨j, c, hj, rfl, HP, hn⟩ := hrel
      by_cases hlt : j < la
      · obtain ⟨rfl, -⟩ := HXs.out.at0 (by omega)
        have hPc := HXs.out.below HP.out.bel
        have c0 : wr.cell? ⟨ab, ao + j * 5, none⟩ = some (.int .i64 (X j).kd) := hPc.cell j hlt 0 (by decide)
        have c1 : wr.cell? ⟨ab, ao + j * 5 + 1, none⟩ = some (.int .i64 (X j).sz) := hPc.cell j hlt 1 (by decide)
        have c2 : wr.cell? ⟨ab, ao + j * 5 + 2, none⟩ = some (.int .i64 (X j).sr) := hPc.cell j hlt 2 (by decide)
        have c3 : wr.cell? ⟨ab, ao + j * 5 + 3, none⟩ = some (.int .u64 (X j).of) := hPc.cell j hlt 3 (by decide)
        have c4 : wr.cell? ⟨ab, ao + j * 5 + 4, none⟩ = some (.int .u64 (X j).v) := hPc.cell j hlt 4 (by decide)
        obtain ⟨o0, o1⟩ := (hPc.num j hlt).of
        obtain ⟨v0, v1⟩ := (hPc.num j hlt).v
        obtain ⟨s0, s1⟩ := (hPc.num j hlt).sz
        obtain ⟨r0, r1⟩ := (hPc.num j hlt).sr
        obtain ⟨k0, k1⟩ := (hPc.num j hlt).kd
        have hPl := C.c_Place (X j).kd 4 (by decide) (by decide) k0 k1
        have hjl : (j : Int) < la := by omega
        clear hPc k0 k1
        generalize (X j).kd = xk at *
        generalize (X j).sz = xs at *
        generalize (X j).sr = xr at *
        generalize (X j).of = xo at *
        generalize (X j).v = xv at *
        have hk4 : xk % 4 = 0 ∨ xk % 4 = 1 ∨ xk % 4 = 2 ∨ xk % 4 = 3 := by omega
        go_upto_region 12 with fail
        obtain ⟨wx, hwx⟩ : ∃ wx, wx = wr.alloc (.cells #[.int .i64 xk, .int .i64 xs, .int .i64 xr, .int .u64 xo, .int .u64 xv] 31) := ⟨_, rfl⟩
        rw [← hwx]
        have HPx : Hid (PI W wx p q c c) := by rw [hwx]; exact HP.out.below ((Below.refl _ _).alloc (Nat.le_refl _) _)
        have HX : Hid (wx.heap[wr.heap.size]? = some (.cells #[.int .i64 xk, .int .i64 xs, .int .i64 xr, .int .u64 xo, .int .u64 xv] 31 (0, 0))) := by rw [hwx]; exact heap_alloc_new wr _
        clear c0 c1 c2 c3 c4 hwx
        generalize wr.heap.size = xb at *
        have x0 : wx.cell? ⟨xb, 0, none⟩ = some (.int .i64 xk) := cell_of_row wx xb 0 _ _ _ HX.out
        have x1 : wx.cell? ⟨xb, 1, none⟩ = some (.int .i64 xs) := cell_of_row wx xb 1 _ _ _ HX.out
        have x2 : wx.cell? ⟨xb, 2, none⟩ = some (.int .i64 xr) := cell_of_row wx xb 2 _ _ _ HX.out
        have x3 : wx.cell? ⟨xb, 3, none⟩ = some (.int .u64 xo) := cell_of_row wx xb 3 _ _ _ HX.out
        have x4 : wx.cell? ⟨xb, 4, none⟩ = some (.int .u64 xv) := cell_of_row wx xb 4 _ _ _ HX.out
        rcases hk4 with hk | hk | hk | hk
        · rw [hk] at hPl
          have HC1 := hid (HPx.out.callI (f := 30) (args := #[.pointer (some ⟨p, 0, none⟩), .int .u64 xo, .int .i64 xs]) (r := .tuple #[.int .u64 (c.rd xo xs).1, .bool (c.rd xo xs).2.1]) (c' := (c.rd xo xs).2.2) fun F hF => i_Read wx F p c hF xo xs o0 o1 s0 s1)
          have HC2 : Hid (∀ w1, PI W w1 p q ((c.rd xo xs).2.2) c → Calls Try.prog 31 #[.pointer (some ⟨q, 0, none⟩), .int .u64 xo, .int .i64 xs] w1 fun e w' => e = .returned (.tuple #[.int .u64 (c.rd xo xs).1, .bool (c.rd xo xs).2.1]) ∧ PI W w' p q ((c.rd xo xs).2.2) ((c.rd xo xs).2.2) ∧ KpU w1 w') := fun w1 h => h.callJ fun G hG => j_Read w1 G q c hG xo xs o0 o1 s0 s1
          have hn2 : ((c.rd xo xs).2.2).n = n := by rw [n_rd]; exact hn
          generalize (c.rd xo xs).1 = ra at *
          generalize (c.rd xo xs).2.1 = rb at *
          generalize (c.rd xo xs).2.2 = c2 at *
          go_wp2_with (first
            | (go_at_call 13; refine (hPl _).mono ?_; rintro r w' ⟨rfl, hq⟩; obtain rfl := hq.symm; clear hPl)
            | (go_at_call 30; (with_reducible refine HC1.out.mono ?_); rintro r w1 ⟨rfl, k1, k2⟩; have hxb := k2 xb _ HX.out; have hc2 := HC2.out w1 k1; have y1 : w1.cell? ⟨xb, 1, none⟩ = some (.int .i64 xs) := cell_of_row w1 xb 1 _ _ _ hxb; have y2 : w1.cell? ⟨xb, 2, none⟩ = some (.int .i64 xr) := cell_of_row w1 xb 2 _ _ _ hxb; have y3 : w1.cell? ⟨xb, 3, none⟩ = some (.int .u64 xo) := cell_of_row w1 xb 3 _ _ _ hxb; have y4 : w1.cell? ⟨xb, 4, none⟩ = some (.int .u64 xv) := cell_of_row w1 xb 4 _ _ _ hxb; clear k1 k2 hxb HC1)
            | (go_at_call 31; (with_reducible refine hc2.mono ?_); rintro r w2 ⟨rfl, k1, k2⟩; have HP2 := hid k1; clear k1 k2 hc2))
          go_loopw [11, 16] (fun sm h wr => ∃ z : Int, -1 ≤ z ∧ z ≤ 9 ∧ h = .int .i64 z ∧ sm = .bool true ∧ Hid (PI W wr p q c2 c2)) (fun sm h _ => (9 - intOf h).toNat)
          case atStart => exact ⟨-1, by decide, by decide, rfl, rfl, HP2⟩
          case round =>
            obtain ⟨z, z0, z1, rfl, rfl, hp⟩ := hrel
            obtain ⟨w5, rfl⟩ : ∃ w5, w5 = wr := ⟨_, rfl⟩
            by_cases g1 : z ≤ (n : Int)
            · by_cases g2 : z < 9
              · have i1 := pi_pen hp.out z (by omega) (by omega)
                go_wp2_with (first
                  | (go_at_call 38; refine i1.mono ?_; rintro r w6 ⟨rfl, k1⟩; have i2 := pj_pen k1 z (by omega) (by omega); have H6 := hid k1; clear i1 k1)
                  | (go_at_call 39; refine i2.mono ?_; rintro r w' ⟨rfl, hq⟩; obtain rfl := hq.symm; clear i2))
                go_roundw
                case rel => exact ⟨z + 1, by omega, by omega, by go_num, rfl, H6⟩
                case measure => simp [intOf]; omega
              · go_wp2
                go_roundw
                case rel => exact ⟨j + 1, c2, by omega, by go_num, hp, hn2⟩
                case measure => simp [intOf]; omega
            · go_wp2
              go_roundw
              case rel => exact ⟨j + 1, c2, by omega, by go_num, hp, hn2⟩
              case measure => simp [intOf]; omega
        · rw [hk] at hPl
          go_upto_region 18 with (go_at_call 13; refine (hPl _).mono ?_; rintro r w' ⟨rfl, hq⟩; obtain rfl := hq.symm; clear hPl)
          obtain ⟨w0, hw0⟩ : ∃ w0, w0 = wx.drew := ⟨_, rfl⟩
          have HP0 : Hid (PI W w0 p q c c) := by rw [hw0]; exact HPx.out.below (Below.refl _ _).drew
          have HX0 : Hid (w0.heap[xb]? = some (.cells #[.int .i64 xk, .int .i64 xs, .int .i64 xr, .int .u64 xo, .int .u64 xv] 31 (0, 0))) := by rw [hw0]; exact HX.out
          have HC3 := hid (HP0.out.callI (f := 32) (args := #[.pointer (some ⟨p, 0, none⟩), .int .u64 xo, .int .i64 xs, .int .u64 xv]) (r := .bool (c.wr xo xs xv).1) (c' := (c.wr xo xs xv).2) fun F hF => i_Write w0 F p c hF xo xs xv o0 o1 s0 s1 v0 v1)
          have HC7 : Hid (∀ w1, PI W w1 p q (c.wr xo xs xv).2 c → Calls Try.prog 33 #[.pointer (some ⟨q, 0, none⟩), .int .u64 xo, .int .i64 xs, .int .u64 xv] w1 fun e w' => e = .returned (.bool (c.wr xo xs xv).1) ∧ PI W w' p q (c.wr xo xs xv).2 (c.wr xo xs xv).2 ∧ KpU w1 w') := fun w1 h => h.callJ fun G hG => j_Write w1 G q c hG xo xs xv o0 o1 s0 s1 v0 v1
          refine wp_region_any (by kernel_rfl) ?_
          rw [show ({ wx with drawn := wx.drawn + 1 } : World) = w0 from hw0.symm]
          have HLD : Hid (∀ {listed : Array Bool} (w : World), VP w0 (fun w1 => KpU w0 w1 ∧ PI W w1 p q (c.wr xo xs xv).2 c) (fun w2 => KpU w0 w2 ∧ PI W w2 p q (c.wr xo xs xv).2 (c.wr xo xs xv).2) 7 15 listed w → w.cell? ⟨xb, 3, none⟩ = some (.int .u64 xo) ∧ w.cell? ⟨xb, 1, none⟩ = some (.int .i64 xs) ∧ w.cell? ⟨xb, 4, none⟩ = some (.int .u64 xv)) := fun {listed} w hw => by
            have hk := hw.all (K := fun w => KpU w0 w) (.refl w0) (fun w h => h.1) (fun w h => h.1)
            exact ⟨cell_of_row w xb 3 _ _ _ (hk xb _ HX0.out), cell_of_row w xb 1 _ _ _ (hk xb _ HX0.out), cell_of_row w xb 4 _ _ _ (hk xb _ HX0.out)⟩
          clear hw0
          refine wpAny_fq (fun dd => if dd = 83 then .pointer (some ⟨p, 0, none⟩) else if dd = 84 then .pointer (some ⟨xb, 3, none⟩) else if dd = 85 then .int .u64 xo else if dd = 86 then .pointer (some ⟨xb, 1, none⟩) else if dd = 87 then .int .i64 xs else if dd = 88 then .pointer (some ⟨xb, 4, none⟩) else if dd = 89 then .int .u64 xv else if dd = 90 then .bool (c.wr xo xs xv).1 else if dd = 91 then .pointer (some ⟨q, 0, none⟩) else if dd = 92 then .pointer (some ⟨xb, 3, none⟩) else if dd = 93 then .int .u64 xo else if dd = 94 then .pointer (some ⟨xb, 1, none⟩) else if dd = 95 then .int .i64 xs else if dd = 96 then .pointer (some ⟨xb, 4, none⟩) else if dd = 97 then .int .u64 xv else if dd = 98 then .bool (c.wr xo xs xv).1 else if dd = 99 then .bool true else if dd = 11 then .bool true else undef) (VP w0 (fun w1 => KpU w0 w1 ∧ PI W w1 p q (c.wr xo xs xv).2 c) (fun w2 => KpU w0 w2 ∧ PI W w2 p q (c.wr xo xs xv).2 (c.wr xo xs xv).2) 7 15) ?step ?fin ?start
          case start => exact ⟨fun _ => rfl, fun a => absurd a (by decide), fun a => absurd a (by decide)⟩
          case step =>
            rintro listed fr wr ⟨hF, hW⟩ i hj
            obtain ⟨hl, o, ho, he⟩ := mem_ready.1 hj
            have hjl : i < listed.size := by rw [hF.ls]; exact (Array.getElem?_eq_some_iff.1 ho).1
            clear hj
            have HF := hid hF
            have HW := hid hW
            have HE := hid he
            have HL := hid hl
            clear hF hW he hl
            match i, ho with
            | 0, ho =>
              obtain rfl := Option.some.inj ho
              have e5 : fr.tmps[5]?.getD undef = .pointer (some ⟨p, 0, none⟩) := HF.out.base 5 (by kernel_rfl) rfl
              exact wp_q rfl rfl (by simp [execOp, go_sem, e5]; try rfl) ⟨HF.out.put (by kernel_rfl) rfl rfl rfl (of_decide_eq_true rfl), HW.out.q hjl (by decide) (by decide)⟩
            | 1, ho =>
              obtain rfl := Option.some.inj ho
              have e10 : fr.tmps[10]?.getD undef = .pointer (some ⟨xb, 0, none⟩) := HF.out.base 10 (by kernel_rfl) rfl
              exact wp_q rfl rfl (by simp [execOp, go_sem, e10]; try rfl) ⟨HF.out.put (by kernel_rfl) rfl rfl rfl (of_decide_eq_true rfl), HW.out.q hjl (by decide) (by decide)⟩
            | 2, ho =>
              obtain rfl := Option.some.inj ho
              have e84 : fr.tmps[84]?.getD undef = .pointer (some ⟨xb, 3, none⟩) := HF.out.ev (i := 1) rfl rfl (HE.out ⟨1, .data⟩ (by simp) rfl)
              have hc := HLD.out _ HW.out
              exact wp_q rfl rfl (by simp [execOp, go_sem, e84, hc.1]; try rfl) ⟨HF.out.put (by kernel_rfl) rfl rfl rfl (of_decide_eq_true rfl), HW.out.q hjl (by decide) (by decide)⟩
            | 3, ho =>
              obtain rfl := Option.some.inj ho
              have e10 : fr.tmps[10]?.getD undef = .pointer (some ⟨xb, 0, none⟩) := HF.out.base 10 (by kernel_rfl) rfl
              exact wp_q rfl rfl (by simp [execOp, go_sem, e10]; try rfl) ⟨HF.out.put (by kernel_rfl) rfl rfl rfl (of_decide_eq_true rfl), HW.out.q hjl (by decide) (by decide)⟩
            | 4, ho =>
              obtain rfl := Option.some.inj ho
              have e86 : fr.tmps[86]?.getD undef = .pointer (some ⟨xb, 1, none⟩) := HF.out.ev (i := 3) rfl rfl (HE.out ⟨3, .data⟩ (by simp) rfl)
              have hc := HLD.out _ HW.out
              exact wp_q rfl rfl (by simp [execOp, go_sem, e86, hc.2.1]; try rfl) ⟨HF.out.put (by kernel_rfl) rfl rfl rfl (of_decide_eq_true rfl), HW.out.q hjl (by decide) (by decide)⟩
            | 5, ho =>
              obtain rfl := Option.some.inj ho
              have e10 : fr.tmps[10]?.getD undef = .pointer (some ⟨xb, 0, none⟩) := HF.out.base 10 (by kernel_rfl) rfl
              exact wp_q rfl rfl (by simp [execOp, go_sem, e10]; try rfl) ⟨HF.out.put (by kernel_rfl) rfl rfl rfl (of_decide_eq_true rfl), HW.out.q hjl (by decide) (by decide)⟩
            | 6, ho =>
              obtain rfl := Option.some.inj ho
              have e88 : fr.tmps[88]?.getD undef = .pointer (some ⟨xb, 4, none⟩) := HF.out.ev (i := 5) rfl rfl (HE.out ⟨5, .data⟩ (by simp) rfl)
              have hc := HLD.out _ HW.out
              exact wp_q rfl rfl (by simp [execOp, go_sem, e88, hc.2.2]; try rfl) ⟨HF.out.put (by kernel_rfl) rfl rfl rfl (of_decide_eq_true rfl), HW.out.q hjl (by decide) (by decide)⟩
            | 7, ho =>
              obtain rfl := Option.some.inj ho
              have e83 : fr.tmps[83]?.getD undef = .pointer (some ⟨p, 0, none⟩) := HF.out.ev (i := 0) rfl rfl (HE.out ⟨0, .data⟩ (by simp) rfl)
              have e85 : fr.tmps[85]?.getD undef = .int .u64 xo := HF.out.ev (i := 2) rfl rfl (HE.out ⟨2, .data⟩ (by simp) rfl)
              have e87 : fr.tmps[87]?.getD undef = .int .i64 xs := HF.out.ev (i := 4) rfl rfl (HE.out ⟨4, .data⟩ (by simp) rfl)
              have e89 : fr.tmps[89]?.getD undef = .int .u64 xv := HF.out.ev (i := 6) rfl rfl (HE.out ⟨6, .data⟩ (by simp) rfl)
              have h7 : listed.getD 7 false = false := getD_tf hjl HL.out
              obtain ⟨rfl, h15⟩ := HW.out.atz h7
              refine wp_c4 rfl rfl _ _ _ _ _ _ rfl (.pointer (some ⟨p, 0, none⟩)) (.int .u64 xo) (.int .i64 xs) (.int .u64 xv) (by simp [Act.eval, e83]) (by simp [Act.eval, e85]) (by simp [Act.eval, e87]) (by simp [Act.eval, e89]) (Try.call32 _ _) HC3.out ?_
              rintro r w7 ⟨rfl, k1, k2⟩
              exact ⟨_, rfl, HF.out.put (by kernel_rfl) rfl rfl rfl (of_decide_eq_true rfl), VP.doz hjl (by decide) h15 ⟨k2, k1⟩⟩
            | 8, ho =>
              obtain rfl := Option.some.inj ho
              have e7 : fr.tmps[7]?.getD undef = .pointer (some ⟨q, 0, none⟩) := HF.out.base 7 (by kernel_rfl) rfl
              exact wp_q rfl rfl (by simp [execOp, go_sem, e7]; try rfl) ⟨HF.out.put (by kernel_rfl) rfl rfl rfl (of_decide_eq_true rfl), HW.out.q hjl (by decide) (by decide)⟩
            | 9, ho =>
              obtain rfl := Option.some.inj ho
              have e10 : fr.tmps[10]?.getD undef = .pointer (some ⟨xb, 0, none⟩) := HF.out.base 10 (by kernel_rfl) rfl
              exact wp_q rfl rfl (by simp [execOp, go_sem, e10]; try rfl) ⟨HF.out.put (by kernel_rfl) rfl rfl rfl (of_decide_eq_true rfl), HW.out.q hjl (by decide) (by decide)⟩
            | 10, ho =>
              obtain rfl := Option.some.inj ho
              have e92 : fr.tmps[92]?.getD undef = .pointer (some ⟨xb, 3, none⟩) := HF.out.ev (i := 9) rfl rfl (HE.out ⟨9, .data⟩ (by simp) rfl)
              have hc := HLD.out _ HW.out
              exact wp_q rfl rfl (by simp [execOp, go_sem, e92, hc.1]; try rfl) ⟨HF.out.put (by kernel_rfl) rfl rfl rfl (of_decide_eq_true rfl), HW.out.q hjl (by decide) (by decide)⟩
            | 11, ho =>
              obtain rfl := Option.some.inj ho
              have e10 : fr.tmps[10]?.getD undef = .pointer (some ⟨xb, 0, none⟩) := HF.out.base 10 (by kernel_rfl) rfl
              exact wp_q rfl rfl (by simp [execOp, go_sem, e10]; try rfl) ⟨HF.out.put (by kernel_rfl) rfl rfl rfl (of_decide_eq_true rfl), HW.out.q hjl (by decide) (by decide)⟩
            | 12, ho =>
              obtain rfl := Option.some.inj ho
              have e94 : fr.tmps[94]?.getD undef = .pointer (some ⟨xb, 1, none⟩) := HF.out.ev (i := 11) rfl rfl (HE.out ⟨11, .data⟩ (by simp) rfl)
              have hc := HLD.out _ HW.out
              exact wp_q rfl rfl (by simp [execOp, go_sem, e94, hc.2.1]; try rfl) ⟨HF.out.put (by kernel_rfl) rfl rfl rfl (of_decide_eq_true rfl), HW.out.q hjl (by decide) (by decide)⟩
            | 13, ho =>
              obtain rfl := Option.some.inj ho
              have e10 : fr.tmps[10]?.getD undef = .pointer (some ⟨xb, 0, none⟩) := HF.out.base 10 (by kernel_rfl) rfl
              exact wp_q rfl rfl (by simp [execOp, go_sem, e10]; try rfl) ⟨HF.out.put (by kernel_rfl) rfl rfl rfl (of_decide_eq_true rfl), HW.out.q hjl (by decide) (by decide)⟩
            | 14, ho =>
              obtain rfl := Option.some.inj ho
              have e96 : fr.tmps[96]?.getD undef = .pointer (some ⟨xb, 4, none⟩) := HF.out.ev (i := 13) rfl rfl (HE.out ⟨13, .data⟩ (by simp) rfl)
              have hc := HLD.out _ HW.out
              exact wp_q rfl rfl (by simp [execOp, go_sem, e96, hc.2.2]; try rfl) ⟨HF.out.put (by kernel_rfl) rfl rfl rfl (of_decide_eq_true rfl), HW.out.q hjl (by decide) (by decide)⟩
            | 15, ho =>
              obtain rfl := Option.some.inj ho
              have e91 : fr.tmps[91]?.getD undef = .pointer (some ⟨q, 0, none⟩) := HF.out.ev (i := 8) rfl rfl (HE.out ⟨8, .data⟩ (by simp) rfl)
              have e93 : fr.tmps[93]?.getD undef = .int .u64 xo := HF.out.ev (i := 10) rfl rfl (HE.out ⟨10, .data⟩ (by simp) rfl)
              have e95 : fr.tmps[95]?.getD undef = .int .i64 xs := HF.out.ev (i := 12) rfl rfl (HE.out ⟨12, .data⟩ (by simp) rfl)
              have e97 : fr.tmps[97]?.getD undef = .int .u64 xv := HF.out.ev (i := 14) rfl rfl (HE.out ⟨14, .data⟩ (by simp) rfl)
              have h15 : listed.getD 15 false = false := getD_tf hjl HL.out
              have h7 : listed.getD 7 false = true := HE.out ⟨7, .chain⟩ (by simp) rfl
              have hm := HW.out.c1 h7 h15
              refine wp_c4 rfl rfl _ _ _ _ _ _ rfl (.pointer (some ⟨q, 0, none⟩)) (.int .u64 xo) (.int .i64 xs) (.int .u64 xv) (by simp [Act.eval, e91]) (by simp [Act.eval, e93]) (by simp [Act.eval, e95]) (by simp [Act.eval, e97]) (Try.call33 _ _) (HC7.out _ hm.2) ?_
              rintro r w7 ⟨rfl, k1, k2⟩
              exact ⟨_, rfl, HF.out.put (by kernel_rfl) rfl rfl rfl (of_decide_eq_true rfl), VP.doy hjl (by decide) h7 ⟨hm.1.trans k2, k1⟩⟩
            | 16, ho =>
              obtain rfl := Option.some.inj ho
              have e90 : fr.tmps[90]?.getD undef = .bool (c.wr xo xs xv).1 := HF.out.ev (i := 7) rfl rfl (HE.out ⟨7, .data⟩ (by simp) rfl)
              have e98 : fr.tmps[98]?.getD undef = .bool (c.wr xo xs xv).1 := HF.out.ev (i := 15) rfl rfl (HE.out ⟨15, .data⟩ (by simp) rfl)
              exact wp_q rfl rfl (by simp [execOp, go_sem, e90, e98]; try rfl) ⟨HF.out.put (by kernel_rfl) rfl rfl rfl (of_decide_eq_true rfl), HW.out.q hjl (by decide) (by decide)⟩
            | 17, ho =>
              obtain rfl := Option.some.inj ho
              have e99 : fr.tmps[99]?.getD undef = .bool true := HF.out.ev (i := 16) rfl rfl (HE.out ⟨16, .data⟩ (by simp) rfl)
              exact wp_q rfl rfl (by simp [execOp, go_sem, e99]; try rfl) ⟨HF.out.put (by kernel_rfl) rfl rfl rfl (of_decide_eq_true rfl), HW.out.q hjl (by decide) (by decide)⟩
          case fin =>
            rintro listed fr w2 ⟨hF, hW⟩ hr
            have all := allDone hr hF.ls (by kernel_rfl)
            obtain ⟨⟨-, k1⟩, -⟩ := hW.c2 (all 15 (by decide))
            rw [hF.full all]
            have HP2 := hid k1
            clear hF hW hr all k1 HC3 HC7 HLD HX0 HP0
            simp only [List.foldl_cons, List.foldl_nil, fillF]
            go_simp
            have hn2 : ((c.wr xo xs xv).2).n = n := by rw [n_wr]; exact hn
            generalize (c.wr xo xs xv).2 = c2 at *
            go_wp2_with fail
            go_loopw [11, 16] (fun sm h wr => ∃ z : Int, -1 ≤ z ∧ z ≤ 9 ∧ h = .int .i64 z ∧ sm = .bool true ∧ Hid (PI W wr p q c2 c2)) (fun sm h _ => (9 - intOf h).toNat)
            case atStart => exact ⟨-1, by decide, by decide, rfl, rfl, HP2⟩
            case round =>
              obtain ⟨z, z0, z1, rfl, rfl, hp⟩ := hrel
              obtain ⟨w5, rfl⟩ : ∃ w5, w5 = wr := ⟨_, rfl⟩
              by_cases g1 : z ≤ (n : Int)
              · by_cases g2 : z < 9
                · have i1 := pi_pen hp.out z (by omega) (by omega)
                  go_wp2_with (first
                    | (go_at_call 38; refine i1.mono ?_; rintro r w6 ⟨rfl, k1⟩; have i2 := pj_pen k1 z (by omega) (by omega); have H6 := hid k1; clear i1 k1)
                    | (go_at_call 39; refine i2.mono ?_; rintro r w' ⟨rfl, hq⟩; obtain rfl := hq.symm; clear i2))
                  go_roundw
                  case rel => exact ⟨z + 1, by omega, by omega, by go_num, rfl, H6⟩
                  case measure => simp [intOf]; omega
                · go_wp2
                  go_roundw
                  case rel => exact ⟨j + 1, c2, by omega, by go_num, hp, hn2⟩
                  case measure => simp [intOf]; omega
              · go_wp2
                go_roundw
                case rel => exact ⟨j + 1, c2, by omega, by go_num, hp, hn2⟩
                case measure => simp [intOf]; omega
        · rw [hk] at hPl
          obtain ⟨ub, hub⟩ : ∃ ub : Bool, (xv.tmod 2 == 1) = ub := ⟨_, rfl⟩
          have hub2 : (xv % 2 == 1) = ub := by rw [← hub, Int.tmod_eq_emod_of_nonneg v0]
          have HC1 := hid (HPx.out.callI (f := 34) (args := #[.pointer (some ⟨p, 0, none⟩), .int .i64 xr, .bool ub]) (r := .tuple #[]) (c' := c.lev xr ub) fun F hF => i_Level wx F p c hF xr ub r0 r1)
          have HC2 : Hid (∀ w1, PI W w1 p q (c.lev xr ub) c → Calls Try.prog 35 #[.pointer (some ⟨q, 0, none⟩), .int .i64 xr, .bool ub] w1 fun e w' => e = .returned (.tuple #[]) ∧ PI W w' p q (c.lev xr ub) (c.lev xr ub) ∧ KpU w1 w') := fun w1 h => h.callJ fun G hG => j_Level w1 G q c hG xr ub r0 r1
          have hn2 : (c.lev xr ub).n = n := hn
          generalize c.lev xr ub = c2 at *
          go_wp2_with (first
            | (go_at_call 13; refine (hPl _).mono ?_; rintro r w' ⟨rfl, hq⟩; obtain rfl := hq.symm; clear hPl)
            | (go_at_call 34; (with_reducible refine HC1.out.mono ?_); rintro r w1 ⟨rfl, k1, k2⟩; have hxb := k2 xb _ HX.out; have hc2 := HC2.out w1 k1; have y1 : w1.cell? ⟨xb, 1, none⟩ = some (.int .i64 xs) := cell_of_row w1 xb 1 _ _ _ hxb; have y2 : w1.cell? ⟨xb, 2, none⟩ = some (.int .i64 xr) := cell_of_row w1 xb 2 _ _ _ hxb; have y3 : w1.cell? ⟨xb, 3, none⟩ = some (.int .u64 xo) := cell_of_row w1 xb 3 _ _ _ hxb; have y4 : w1.cell? ⟨xb, 4, none⟩ = some (.int .u64 xv) := cell_of_row w1 xb 4 _ _ _ hxb; clear k1 k2 hxb HC1)
            | (go_at_call 35; (with_reducible refine hc2.mono ?_); rintro r w2 ⟨rfl, k1, k2⟩; have HP2 := hid k1; clear k1 k2 hc2))
          go_loopw [11, 16] (fun sm h wr => ∃ z : Int, -1 ≤ z ∧ z ≤ 9 ∧ h = .int .i64 z ∧ sm = .bool true ∧ Hid (PI W wr p q c2 c2)) (fun sm h _ => (9 - intOf h).toNat)
          case atStart => exact ⟨-1, by decide, by decide, rfl, rfl, HP2⟩
          case round =>
            obtain ⟨z, z0, z1, rfl, rfl, hp⟩ := hrel
            obtain ⟨w5, rfl⟩ : ∃ w5, w5 = wr := ⟨_, rfl⟩
            by_cases g1 : z ≤ (n : Int)
            · by_cases g2 : z < 9
              · have i1 := pi_pen hp.out z (by omega) (by omega)
                go_wp2_with (first
                  | (go_at_call 38; refine i1.mono ?_; rintro r w6 ⟨rfl, k1⟩; have i2 := pj_pen k1 z (by omega) (by omega); have H6 := hid k1; clear i1 k1)
                  | (go_at_call 39; refine i2.mono ?_; rintro r w' ⟨rfl, hq⟩; obtain rfl := hq.symm; clear i2))
                go_roundw
                case rel => exact ⟨z + 1, by omega, by omega, by go_num, rfl, H6⟩
                case measure => simp [intOf]; omega
              · go_wp2
                go_roundw
                case rel => exact ⟨j + 1, c2, by omega, by go_num, hp, hn2⟩
                case measure => simp [intOf]; omega
            · go_wp2
              go_roundw
              case rel => exact ⟨j + 1, c2, by omega, by go_num, hp, hn2⟩
              case measure => simp [intOf]; omega
        · rw [hk] at hPl
          have HC1 := hid (HPx.out.callI (f := 36) (args := #[.pointer (some ⟨p, 0, none⟩), .int .i64 xr]) (r := .tuple #[]) (c' := c.pls xr) fun F hF => i_Pulse wx F p c hF xr r0 r1)
          have HC2 : Hid (∀ w1, PI W w1 p q (c.pls xr) c → Calls Try.prog 37 #[.pointer (some ⟨q, 0, none⟩), .int .i64 xr] w1 fun e w' => e = .returned (.tuple #[]) ∧ PI W w' p q (c.pls xr) (c.pls xr) ∧ KpU w1 w') := fun w1 h => h.callJ fun G hG => j_Pulse w1 G q c hG xr r0 r1
          have hn2 : (c.pls xr).n = n := hn
          generalize c.pls xr = c2 at *
          go_wp2_with (first
            | (go_at_call 13; refine (hPl _).mono ?_; rintro r w' ⟨rfl, hq⟩; obtain rfl := hq.symm; clear hPl)
            | (go_at_call 36; (with_reducible refine HC1.out.mono ?_); rintro r w1 ⟨rfl, k1, k2⟩; have hxb := k2 xb _ HX.out; have hc2 := HC2.out w1 k1; have y1 : w1.cell? ⟨xb, 1, none⟩ = some (.int .i64 xs) := cell_of_row w1 xb 1 _ _ _ hxb; have y2 : w1.cell? ⟨xb, 2, none⟩ = some (.int .i64 xr) := cell_of_row w1 xb 2 _ _ _ hxb; have y3 : w1.cell? ⟨xb, 3, none⟩ = some (.int .u64 xo) := cell_of_row w1 xb 3 _ _ _ hxb; have y4 : w1.cell? ⟨xb, 4, none⟩ = some (.int .u64 xv) := cell_of_row w1 xb 4 _ _ _ hxb; clear k1 k2 hxb HC1)
            | (go_at_call 37; (with_reducible refine hc2.mono ?_); rintro r w2 ⟨rfl, k1, k2⟩; have HP2 := hid k1; clear k1 k2 hc2))
          go_loopw [11, 16] (fun sm h wr => ∃ z : Int, -1 ≤ z ∧ z ≤ 9 ∧ h = .int .i64 z ∧ sm = .bool true ∧ Hid (PI W wr p q c2 c2)) (fun sm h _ => (9 - intOf h).toNat)
          case atStart => exact ⟨-1, by decide, by decide, rfl, rfl, HP2⟩
          case round =>
            obtain ⟨z, z0, z1, rfl, rfl, hp⟩ := hrel
            obtain ⟨w5, rfl⟩ : ∃ w5, w5 = wr := ⟨_, rfl⟩
            by_cases g1 : z ≤ (n : Int)
            · by_cases g2 : z < 9
              · have i1 := pi_pen hp.out z (by omega) (by omega)
                go_wp2_with (first
                  | (go_at_call 38; refine i1.mono ?_; rintro r w6 ⟨rfl, k1⟩; have i2 := pj_pen k1 z (by omega) (by omega); have H6 := hid k1; clear i1 k1)
                  | (go_at_call 39; refine i2.mono ?_; rintro r w' ⟨rfl, hq⟩; obtain rfl := hq.symm; clear i2))
                go_roundw
                case rel => exact ⟨z + 1, by omega, by omega, by go_num, rfl, H6⟩
                case measure => simp [intOf]; omega
              · go_wp2
                go_roundw
                case rel => exact ⟨j + 1, c2, by omega, by go_num, hp, hn2⟩
                case measure => simp [intOf]; omega
            · go_wp2
              go_roundw
              case rel => exact ⟨j + 1, c2, by omega, by go_num, hp, hn2⟩
              case measure => simp [intOf]; omega
      · obtain rfl : j = la := by omega
        go_wp2_with (go_at_call 24; refine (hAw _).mono ?_; rintro e w3 ⟨rfl, hb⟩; have HB := hid hb; clear hb)
        go_ret
        exact ⟨rfl, HP.out.bel.trans (HB.out.mono HP.out.bel.size)⟩
  · have hN := i_New_bad W hs hs0 hs1 (by omega)
    have hM := j_New_bad W hs hs0 hs1 (by omega)
    clear hX
    go_enter Try.func5, Try.ntmps5
    go_wp2_with (first
      | (go_at_call 28; refine hN.mono ?_; rintro e w' ⟨rfl, hq⟩; obtain rfl := hq.symm)
      | (go_at_call 29; refine hM.mono ?_; rintro e w' ⟨rfl, hq⟩; obtain rfl := hq.symm)
      | (go_at_call 24; refine (hAw _).mono ?_; rintro e w3 ⟨rfl, hb⟩; have HB := hid hb; clear hb))
    go_ret
    exact ⟨rfl, HB.out⟩
end Go.Proofs.Ytmpldaenakenlaa
