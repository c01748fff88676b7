/- Where an access comes to. -/
import Derived.Test.YtajnjmjogaacpaaGreatMH3
import Derived.Test.YtajnjmjogaacpaaGreatMC4
namespace Go.Proofs.YtajnjmjogaacpaaGreat
open Go.RowKit
open C (Only hid Mem Still ret_int ret_bool put byt nu WB WB.cell Calls.wb wp_region_wb hasB gst rdm)
set_option linter.unusedVariables false
set_option maxRecDepth 100000

/-- where an access comes to, and what the TLB then holds; none: nowhere -/
def fnd (n : Nat) (f : Nat → Int) (root : Int) (room : Nat) (L : List E.TV) (d a : Int) (wt : Bool) : Option (Int × List E.TV) :=
  if (E.lk L d (a / 4096)).2 = true ∧ (bits .and .i64 (E.lk L d (a / 4096)).1.r (art wt) == 0) = false then some (plf (E.lk L d (a / 4096)).1.f a, L) else
  if (gst (rdm n f) root a (akd wt)).2.2 = 0 then some (plf ((gst (rdm n f) root a (akd wt)).1 / 4096) a, E.pu room L ⟨d, a / 4096, (gst (rdm n f) root a (akd wt)).1 / 4096, (gst (rdm n f) root a (akd wt)).2.1⟩) else none
theorem fnd_hit {n : Nat} {f : Nat → Int} {root : Int} {room : Nat} {L : List E.TV} {d a : Int} {wt : Bool} {e : E.TV} (hl : E.lk L d (a / 4096) = (e, true)) (hh : (bits .and .i64 e.r (art wt) == 0) = false) : fnd n f root room L d a wt = some (plf e.f a, L) := by
  unfold fnd; rw [hl]; rw [if_pos ⟨rfl, hh⟩]
theorem fnd_miss {n : Nat} {f : Nat → Int} {root : Int} {room : Nat} {L : List E.TV} {d a : Int} {wt : Bool} {e : E.TV} {ok : Bool} {x y z : Int} (hl : E.lk L d (a / 4096) = (e, ok)) (hh : ¬ (ok = true ∧ (bits .and .i64 e.r (art wt) == 0) = false)) (hg : gst (rdm n f) root a (akd wt) = (x, y, z)) : (z = 0 → fnd n f root room L d a wt = some (plf (x / 4096) a, E.pu room L ⟨d, a / 4096, x / 4096, y⟩)) ∧ (z ≠ 0 → fnd n f root room L d a wt = none) := by
  unfold fnd; rw [hl, if_neg hh, hg]
  exact ⟨fun h => by rw [if_pos h], fun h => by rw [if_neg h]⟩
theorem wrap_u64 (x : Int) : IntKind.u64.wrap x = x % 18446744073709551616 := rfl
theorem plf_eq (x a : Int) (h0 : 0 ≤ x) (h1 : x < 18446744073709551616) : plf (x / 4096) a = x / 4096 * 4096 + a % 4096 := by
  unfold plf
  rw [wrap_u64, wrap_u64]
  omega
theorem ac_ft {w : World} {b : Nat} {d a s : Int} {wr : Bool} {p : Int} {t g room : Nat} {L : List E.TV} (h : Ac w b d a s wr p) (ht : E.TM w t g room L) : ¬ E.Ft t g b := by
  obtain ⟨Z, hZ, -, -⟩ := ht.row
  rintro (rfl | rfl)
  · have := h.symm.trans ht.top; simp at this
  · have := Eq.trans (Eq.symm h) hZ; simp at this
theorem gst_b {n : Nat} {f : Nat → Int} (hf : ∀ j, 0 ≤ f j ∧ f j < 256) (root a k : Int) (a0 : 0 ≤ a) (a1 : a < 18446744073709551616) {x y z : Int} (s0 : 0 ≤ root) (s1 : root < 18446744073709551616) (hg : gst (rdm n f) root a k = (x, y, z)) : 0 ≤ x ∧ x < 18446744073709551616 := by
  unfold gst at hg
  have hq := C.D_ok (C.rdm_ok n f hf) a 2 2 root (by decide) s0 s1
  revert hg
  split
  · intro hg; cases hg; exact ⟨a0, a1⟩
  · split
    · intro hg; cases hg; exact ⟨by decide, by decide⟩
    · intro hg
      revert hg
      generalize C.D (rdm n f) a 2 2 root = r at hq
      obtain ⟨q1, q2, q3, -, -, -⟩ := hq
      have hp : 0 ≤ C.plc r a ∧ C.plc r a < 18446744073709551616 := by
        unfold C.plc C.num
        have e : C.pw r.level = 1 ∨ C.pw r.level = 512 ∨ C.pw r.level = 262144 := by
          match hr : r.level, q1 with
          | 0, _ => exact .inl rfl
          | 1, _ => exact .inr (.inl rfl)
          | 2, _ => exact .inr (.inr rfl)
        rcases e with e | e | e
        all_goals rw [e]; omega
      repeat' split
      all_goals intro hg; cases hg; first | exact hp | exact ⟨by decide, by decide⟩
set_option maxHeartbeats 2000000 in
theorem m_find (w : World) (u b : Nat) (v : UV) (hu : Iu w u v) (S : Nat → Prop) (n : Nat) (f : Nat → Int) (hm : Mem w S v.m 0 n f) (g room : Nat) (L : List E.TV) (ht : E.TM w v.t g room L) (d a s : Int) (wt : Bool) (a0 : 0 ≤ a) (a1 : a < 18446744073709551616) (hb : Ac w b d a s wt 0) (q0 : 0 ≤ d) (q1 : d < 8) (r0 : 0 ≤ v.root d.toNat) (r1 : v.root d.toNat < 18446744073709551616) :
    Calls Tryz.prog 26 #[.pointer (some ⟨u, 0, none⟩), .pointer (some ⟨b, 0, none⟩)] w fun r w' => r = .returned (.bool (fnd n f (v.root d.toNat) room L d a wt).isSome) ∧ (∀ p L', fnd n f (v.root d.toNat) room L d a wt = some (p, L') → Ac w' b d a s wt p ∧ E.TM w' v.t g room L') ∧ (fnd n f (v.root d.toNat) room L d a wt = none → Ac w' b d a s wt 0 ∧ E.TM w' v.t g room L) ∧ Only (fun k => k = b ∨ E.Ft v.t g k) w w' := by
  obtain ⟨e, ok, hl⟩ : ∃ e ok, E.lk L d (a / 4096) = (e, ok) := ⟨_, _, rfl⟩
  have c0 := hu.c0
  have b0 := hb.c0
  have b1 := hb.c1
  have HU := hid hu
  have HM := hid hm
  have HT := hid ht
  have HB := hid hb
  have HL := hid hl
  have hlt := hb.lt
  clear hu ht hb hl hm
  go_enter Tryz.func26, Tryz.ntmps26
  go_wp2_with ((go_at_call 41; refine (m_asks _ b wt HB.out.c3).mono ?_; rintro e w2 ⟨rfl, hw2⟩; obtain rfl := hw2.symm))
  clear c0 b0 b1 hw2
  refine wp_region_any (by kernel_rfl) ?_
  refine C.wpAny_inv (fun listed fr wr => ∃ (b0 b1 b2 b3 b4 b5 b6 b7 b8 b9 b10 b11 b12 b13 b14 b15 : Bool) (eb : Nat), listed = #[b0, b1, b2, b3, b4, b5, b6, b7, b8, b9, b10, b11, b12, b13, b14, b15] ∧ fr = { tmps := #[.pointer (some ⟨u, 0, none⟩), .pointer (some ⟨b, 0, none⟩), undef, undef, .bool false, .int .u64 (a / 4096), .int .i64 (akd wt), .int .i64 (art wt), C.svd b13 (.pointer (some ⟨eb, 0, none⟩)) (undef), C.svd b15 (.bool ok) (undef), undef, undef, undef, .pointer (some ⟨b, 0, none⟩), .pointer (some ⟨b, 0, none⟩), .pointer (some ⟨b, 1, none⟩), .int .u64 a, .int .u64 (a / 4096), .tuple #[.int .i64 (akd wt), .int .i64 (art wt)], .pointer (some ⟨b, 0, none⟩), .tuple #[.int .i64 (akd wt), .int .i64 (art wt)], .int .i64 (akd wt), .int .i64 (art wt), C.svd b10 (.tuple #[(.agg #[.int .i64 e.v, .int .u64 e.p, .int .u64 e.f, .int .i64 e.r]), .bool ok]) (undef), C.svd b0 (.pointer (some ⟨u, 0, none⟩)) (undef), C.svd b1 (.pointer (some ⟨u, 0, none⟩)) (undef), C.svd b2 (.pointer (some ⟨u, 0, none⟩)) (undef), C.svd b3 (.pointer (some ⟨v.t, 0, none⟩)) (undef), C.svd b4 (.pointer (some ⟨b, 0, none⟩)) (undef), C.svd b5 (.pointer (some ⟨b, 0, none⟩)) (undef), C.svd b6 (.pointer (some ⟨b, 0, none⟩)) (undef), C.svd b7 (.int .i64 d) (undef), C.svd b8 (.int .u64 (a / 4096)) (undef), C.svd b9 (.tuple #[(.agg #[.int .i64 e.v, .int .u64 e.p, .int .u64 e.f, .int .i64 e.r]), .bool ok]) (undef), C.svd b11 ((.agg #[.int .i64 e.v, .int .u64 e.p, .int .u64 e.f, .int .i64 e.r])) (undef), C.svd b12 (.bool ok) (undef), undef, undef, undef, undef, undef, undef, undef, undef, undef, undef, undef, undef, undef, undef, undef, undef, undef, undef, undef, undef, undef, undef, undef, undef, undef, undef, undef, undef, undef, undef, undef, undef, undef, undef, undef, undef, undef, undef, undef, undef, undef, undef, undef, undef, undef, undef, undef, undef, undef, undef, undef, undef, undef, undef, undef, undef, undef, undef, undef, undef, undef], defers := [] } ∧ Below w.heap.size w wr ∧ (b14 = true → b13 = true) ∧ (b13 = true → w.heap.size ≤ eb ∧ E.Rw wr eb [bif b14 then e else E.TV.zero])) ?step ?fin _ _ _ _ (by simp) ?start
  case start => exact ⟨false, false, false, false, false, false, false, false, false, false, false, false, false, false, false, false, 0, rfl, rfl, (Below.refl _ _).drew, fun q => absurd q (by decide), fun q => absurd q (by decide)⟩
  case fin =>
    rintro listed fr wr ⟨b0, b1, b2, b3, b4, b5, b6, b7, b8, b9, b10, b11, b12, b13, b14, b15, eb, rfl, rfl, hR⟩ hr
    obtain rfl : b0 = true := by
      cases b0 with
      | true => rfl
      | false => exact (C.ready_no hr (j := 0) rfl rfl (by kernel_rfl)).elim
    obtain rfl : b1 = true := by
      cases b1 with
      | true => rfl
      | false => exact (C.ready_no hr (j := 1) rfl rfl (by kernel_rfl)).elim
    obtain rfl : b2 = true := by
      cases b2 with
      | true => rfl
      | false => exact (C.ready_no hr (j := 2) rfl rfl (by kernel_rfl)).elim
    obtain rfl : b3 = true := by
      cases b3 with
      | true => rfl
      | false => exact (C.ready_no hr (j := 3) rfl rfl (by kernel_rfl)).elim
    obtain rfl : b4 = true := by
      cases b4 with
      | true => rfl
      | false => exact (C.ready_no hr (j := 4) rfl rfl (by kernel_rfl)).elim
    obtain rfl : b5 = true := by
      cases b5 with
      | true => rfl
      | false => exact (C.ready_no hr (j := 5) rfl rfl (by kernel_rfl)).elim
    obtain rfl : b6 = true := by
      cases b6 with
      | true => rfl
      | false => exact (C.ready_no hr (j := 6) rfl rfl (by kernel_rfl)).elim
    obtain rfl : b7 = true := by
      cases b7 with
      | true => rfl
      | false => exact (C.ready_no hr (j := 7) rfl rfl (by kernel_rfl)).elim
    obtain rfl : b8 = true := by
      cases b8 with
      | true => rfl
      | false => exact (C.ready_no hr (j := 8) rfl rfl (by kernel_rfl)).elim
    obtain rfl : b9 = true := by
      cases b9 with
      | true => rfl
      | false => exact (C.ready_no hr (j := 9) rfl rfl (by kernel_rfl)).elim
    obtain rfl : b10 = true := by
      cases b10 with
      | true => rfl
      | false => exact (C.ready_no hr (j := 10) rfl rfl (by kernel_rfl)).elim
    obtain rfl : b11 = true := by
      cases b11 with
      | true => rfl
      | false => exact (C.ready_no hr (j := 11) rfl rfl (by kernel_rfl)).elim
    obtain rfl : b12 = true := by
      cases b12 with
      | true => rfl
      | false => exact (C.ready_no hr (j := 12) rfl rfl (by kernel_rfl)).elim
    obtain rfl : b13 = true := by
      cases b13 with
      | true => rfl
      | false => exact (C.ready_no hr (j := 13) rfl rfl (by kernel_rfl)).elim
    obtain rfl : b14 = true := by
      cases b14 with
      | true => rfl
      | false => exact (C.ready_no hr (j := 14) rfl rfl (by kernel_rfl)).elim
    obtain rfl : b15 = true := by
      cases b15 with
      | true => rfl
      | false => exact (C.ready_no hr (j := 15) rfl rfl (by kernel_rfl)).elim
    clear hr
    simp only [C.svd]
    obtain ⟨hB, -, hE⟩ := hR
    obtain ⟨hE0, hE1⟩ := hE rfl
    simp only [cond_true] at hE1
    have HW := hid hB
    have HE := hid hE1
    clear hE hB hE1
    obtain ⟨z0, z1, z2, z3⟩ := E.cells1 HE.out
    by_cases hh : ok = true ∧ (bits .and .i64 e.r (art wt) == 0) = false
    · obtain ⟨rfl, hh⟩ := hh
      have kb1 := (HB.out.below HW.out).c1
      go_wp2_with fail
      refine wp_region_last_lit (by simp) (by kernel_rfl) (by kernel_rfl) (by kernel_rfl) ?_
      simp only [List.dropLast, List.getLast]
      repeat (go_big_quiet_step (fail))
      refine wpQuiet_nil ?_
      intro _ hwq
      obtain ⟨nq, hwq⟩ := hwq
      subst hwq
      obtain ⟨wz, hwz⟩ : ∃ wz, wr.drewN nq = wz := ⟨_, rfl⟩
      have HWz : Hid (Below w.heap.size w wz) := by rw [← hwz]; exact below_dn HW.out nq
      rw [hwz]
      clear hwz z0 z1 z2 z3
      have kb4 := (HB.out.below HWz.out).c4
      have kbz := (HB.out.below HWz.out).z 4
      go_wp2
      go_ret
      rw [fnd_hit HL.out hh]
      exact ⟨rfl, fun p L' q => by cases q; exact ⟨(HB.out.below HWz.out).set _, (HT.out.below HWz.out).only (only1 _ b _ _) fun k hk q => ac_ft HB.out HT.out (q ▸ hk)⟩, fun q => absurd q (by simp), (Only.ofBelow HWz.out).trans' (only1 _ b _ _) fun _ _ q => .inl q⟩
    · have hx : (!ok || (bits .and .i64 e.r (art wt) == 0)) = true := by
        cases ok
        · rfl
        · simpa using hh
      obtain ⟨x, y, z, hg⟩ : ∃ x y z, gst (rdm n f) (v.root d.toNat) a (akd wt) = (x, y, z) := ⟨_, _, _, rfl⟩
      have HG := hid hg
      have HF := hid (fnd_miss (room := room) HL.out hh hg)
      have hxy : 0 ≤ x ∧ x < 18446744073709551616 := gst_b HM.out.byt (v.root d.toNat) a (akd wt) a0 a1 r0 r1 hg
      have kb0 : ∀ t : WB wr, t.w.cell? ⟨b, 0, none⟩ = some (.int .i64 d) := fun t => t.cell (HB.out.below HW.out).lt (HB.out.below HW.out).c0
      have kb1 : ∀ t : WB wr, t.w.cell? ⟨b, 1, none⟩ = some (.int .u64 a) := fun t => t.cell (HB.out.below HW.out).lt (HB.out.below HW.out).c1
      have ku1 : ∀ t : WB wr, t.w.cell? ⟨u, 1, none⟩ = some (.pointer (some ⟨v.m, 0, none⟩)) := fun t => t.cell (HU.out.below HW.out).lt (HU.out.below HW.out).c1
      have ku2 : ∀ t : WB wr, t.w.cell? ⟨u, 2 + d.toNat, none⟩ = some (.int .u64 (v.root d.toNat)) := fun t => t.cell (HU.out.below HW.out).lt ((HU.out.below HW.out).cr d.toNat (by omega))
      clear hg
      have key : ∀ Q : Prop, (ok = false → Q) → (ok = true → (bits .and .i64 e.r (art wt) == 0) = true → Q) → Q := fun Q h1 h2 => by
        cases ok
        · exact h1 rfl
        · exact h2 rfl (by simpa using hx)
      refine key _ (fun hk => ?_) (fun hk hk2 => ?_)
      all_goals
        subst hk
        clear key hx hh
        go_wp2_with fail
        refine wp_region_wb (by kernel_rfl) (by kernel_rfl) ?_
        repeat
          first
            | (refine wpQuiet_step (fun K hK => ?_)
               go_simp
               first
                 | (refine hK _ ?_; clear hK K)
                 | (refine ⟨_, fun _ => rfl, hK _ ?_⟩; clear hK K)
                 | (refine ⟨.tuple #[.int .u64 x, .int .i64 y, .int .i64 z], fun t => ?_, hK _ ?_⟩
                    · (go_at_call 43; exact Calls.wb t (C.c_Guest t.w S v.m n f ((HM.out.below HW.out).below t.h) (v.root d.toNat) a (akd wt) r0 r1 a0 a1 x y z HG.out))
                    clear hK K))
        refine wpQuiet_nil ?_
        intro _ ht
        obtain ⟨t, rfl⟩ := ht
        have HWt : Hid (Below w.heap.size w t.w) := HW.out.trans (t.h.mono HW.out.size)
        have HEt : Hid (E.Rw t.w eb [e]) := HE.out.below t.h
        clear z0 z1 z2 z3 kb0 kb1 ku1 ku2 HE
        obtain ⟨wq, hwq⟩ : ∃ wq, t.w = wq := ⟨_, rfl⟩
        rw [hwq] at HWt HEt
        rw [hwq]
        clear hwq t
        have kb0 := (HB.out.below HWt.out).c0
        have z4 := E.cells1 HEt.out
        obtain ⟨z0, z1, z2, z3⟩ := z4
        have zf := HEt.out.z
        by_cases hz : z = 0
        · subst hz
          go_wp2_with fail
          obtain ⟨ws, hws⟩ : ∃ ws, (((wq.setCell ⟨eb, 0, none⟩ (.int .i64 d)).setCell ⟨eb, 1, none⟩ (.int .u64 (a / 4096))).setCell ⟨eb, 2, none⟩ (.int .u64 (x / 4096))).setCell ⟨eb, 3, none⟩ (.int .i64 y) = ws := ⟨_, rfl⟩
          have HEs : Hid (E.Rw ws eb [⟨d, a / 4096, x / 4096, y⟩]) := by rw [← hws]; exact E.set4 HEt.out ⟨d, a / 4096, x / 4096, y⟩
          have HWs : Hid (Below w.heap.size w ws) := by rw [← hws]; exact E.below4 HWt.out hE0 ⟨d, a / 4096, x / 4096, y⟩
          rw [hws]
          clear hws z0 z1 z2 z3 zf kb0 HEt HWt
          have z4 := E.cells1 HEs.out
          obtain ⟨z0, z1, z2, z3⟩ := z4
          have ku0 := (HU.out.below HWs.out).c0
          refine wp_region_last_lit (by simp) (by kernel_rfl) (by kernel_rfl) (by kernel_rfl) ?_
          simp only [List.dropLast, List.getLast]
          repeat (go_big_quiet_step (fail))
          refine wpQuiet_nil ?_
          intro _ hwq
          obtain ⟨nq, hwq⟩ := hwq
          subst hwq
          go_wp2_with ((go_at_call 44; refine (E.c_Put _ v.t g room L (HT.out.below (below_dn HWs.out nq)) ⟨d, a / 4096, x / 4096, y⟩).mono ?_; rintro r wp ⟨rfl, ht', ho'⟩; have HTp := hid ht'; have HOp := hid ho'; clear ht' ho'))
          have HBp : Hid (Ac wp b d a s wt 0) := (HB.out.below (below_dn HWs.out nq)).only HOp.out (ac_ft HB.out HT.out)
          have HEp : Hid (E.Rw wp eb [⟨d, a / 4096, x / 4096, y⟩]) := HOp.out.rw (HEs.out.below (below_dn (Below.refl _ _) nq)) (fun q => by have := HT.out.lt q; omega)
          clear z0 z1 z2 z3 ku0
          have z4 := E.cells1 HEp.out
          obtain ⟨z0, z1, z2, z3⟩ := z4
          have kb1 := HBp.out.c1
          obtain ⟨nq1, hnq1⟩ : ∃ nq1, nq1 = nq := ⟨_, rfl⟩
          rw [← hnq1] at HOp
          clear hnq1 nq
          refine wp_region_last_lit (by simp) (by kernel_rfl) (by kernel_rfl) (by kernel_rfl) ?_
          simp only [List.dropLast, List.getLast]
          repeat (go_big_quiet_step (fail))
          refine wpQuiet_nil ?_
          intro _ hwq
          obtain ⟨nq, hwq⟩ := hwq
          subst hwq
          obtain ⟨wz, hwz⟩ : ∃ wz, wp.drewN nq = wz := ⟨_, rfl⟩
          have HBz : Hid (Ac wz b d a s wt 0) := by rw [← hwz]; exact HBp.out
          have HTz : Hid (E.TM wz v.t g room (E.pu room L ⟨d, a / 4096, x / 4096, y⟩)) := by rw [← hwz]; exact HTp.out.drewN nq
          have HOz : Hid (Only (fun k => k = b ∨ E.Ft v.t g k) w wz) := by
            rw [← hwz]
            exact ((Only.ofBelow (below_dn HWs.out nq1)).trans (HOp.out.mono fun k _ q => .inr q)).trans (Only.ofBelow (below_dn (Below.refl _ _) nq))
          rw [hwz]
          clear hwz z0 z1 z2 z3 kb1
          have kb4 := HBz.out.c4
          have kbz := HBz.out.z 4
          go_wp2
          go_ret
          rw [HF.out.1 trivial, plf_eq x a hxy.1 hxy.2]
          exact ⟨rfl, fun p L' q => by cases q; exact ⟨HBz.out.set _, HTz.out.only (only1 _ b _ _) fun k hk q => ac_ft HBz.out HTz.out (q ▸ hk)⟩, fun q => absurd q (by simp), HOz.out.trans' (only1 _ b _ _) fun _ _ q => .inl q⟩
        · have hz' : (z != 0) = true := by simpa using hz
          go_wp2
          go_ret
          rw [HF.out.2 hz]
          exact ⟨rfl, fun p L' q => absurd q (by simp), fun _ => ⟨HB.out.below HWt.out, HT.out.below HWt.out⟩, Only.ofBelow HWt.out⟩
  case step =>
    rintro listed fr wr ⟨b0, b1, b2, b3, b4, b5, b6, b7, b8, b9, b10, b11, b12, b13, b14, b15, eb, rfl, rfl, hR⟩ j hj
    obtain ⟨hl, o, ho, he⟩ := mem_ready.1 hj
    clear hj
    have HH := C.hid hR
    clear hR
    have c0 := (HU.out.below HH.out.1).c0
    have kb0 := (HB.out.below HH.out.1).c0
    have kb1 := (HB.out.below HH.out.1).c1
    have hsv : ∀ v u, C.svd true v u = v := fun _ _ => rfl
    match j, ho, hl, he with
    | 0, ho, hl, he =>
      obtain rfl := Option.some.inj ho
      simp [Region.binds] at hl he
      clear ho
      have hL := hl
      clear hl he
      subst hL
      refine wpOp_step rfl (fun K hK => ?_)
      go_simp
      refine hK _ _ ⟨true, _, _, _, _, _, _, _, _, _, _, _, _, _, _, _, eb, rfl, ?_, HH.out⟩
      first | rfl | simp [C.svd]
    | 1, ho, hl, he =>
      obtain rfl := Option.some.inj ho
      simp [Region.binds] at hl he
      clear ho
      have hL := hl
      (try (have e0 : b0 = true := (by revert he; cases b0 <;> simp)))
      clear hl he
      (try subst e0)
      subst hL
      refine wpOp_step rfl (fun K hK => ?_)
      go_simp
      refine hK _ _ ⟨_, true, _, _, _, _, _, _, _, _, _, _, _, _, _, _, eb, rfl, ?_, HH.out⟩
      first | rfl | simp [C.svd]
    | 2, ho, hl, he =>
      obtain rfl := Option.some.inj ho
      simp [Region.binds] at hl he
      clear ho
      have hL := hl
      (try (have e1 : b1 = true := (by revert he; cases b1 <;> simp)))
      clear hl he
      (try subst e1)
      subst hL
      refine wpOp_step rfl (fun K hK => ?_)
      go_simp
      refine hK _ _ ⟨_, _, true, _, _, _, _, _, _, _, _, _, _, _, _, _, eb, rfl, ?_, HH.out⟩
      first | rfl | simp [C.svd]
    | 3, ho, hl, he =>
      obtain rfl := Option.some.inj ho
      simp [Region.binds] at hl he
      clear ho
      have hL := hl
      (try (have e2 : b2 = true := (by revert he; cases b2 <;> simp)))
      clear hl he
      (try subst e2)
      subst hL
      refine wpOp_step rfl (fun K hK => ?_)
      go_simp
      refine hK _ _ ⟨_, _, _, true, _, _, _, _, _, _, _, _, _, _, _, _, eb, rfl, ?_, HH.out⟩
      first | rfl | simp [C.svd]
    | 4, ho, hl, he =>
      obtain rfl := Option.some.inj ho
      simp [Region.binds] at hl he
      clear ho
      have hL := hl
      clear hl he
      subst hL
      refine wpOp_step rfl (fun K hK => ?_)
      go_simp
      refine hK _ _ ⟨_, _, _, _, true, _, _, _, _, _, _, _, _, _, _, _, eb, rfl, ?_, HH.out⟩
      first | rfl | simp [C.svd]
    | 5, ho, hl, he =>
      obtain rfl := Option.some.inj ho
      simp [Region.binds] at hl he
      clear ho
      have hL := hl
      (try (have e4 : b4 = true := (by revert he; cases b4 <;> simp)))
      clear hl he
      (try subst e4)
      subst hL
      refine wpOp_step rfl (fun K hK => ?_)
      go_simp
      refine hK _ _ ⟨_, _, _, _, _, true, _, _, _, _, _, _, _, _, _, _, eb, rfl, ?_, HH.out⟩
      first | rfl | simp [C.svd]
    | 6, ho, hl, he =>
      obtain rfl := Option.some.inj ho
      simp [Region.binds] at hl he
      clear ho
      have hL := hl
      (try (have e5 : b5 = true := (by revert he; cases b5 <;> simp)))
      clear hl he
      (try subst e5)
      subst hL
      refine wpOp_step rfl (fun K hK => ?_)
      go_simp
      refine hK _ _ ⟨_, _, _, _, _, _, true, _, _, _, _, _, _, _, _, _, eb, rfl, ?_, HH.out⟩
      first | rfl | simp [C.svd]
    | 7, ho, hl, he =>
      obtain rfl := Option.some.inj ho
      simp [Region.binds] at hl he
      clear ho
      have hL := hl
      (try (have e6 : b6 = true := (by revert he; cases b6 <;> simp)))
      clear hl he
      (try subst e6)
      subst hL
      refine wpOp_step rfl (fun K hK => ?_)
      go_simp
      refine hK _ _ ⟨_, _, _, _, _, _, _, true, _, _, _, _, _, _, _, _, eb, rfl, ?_, HH.out⟩
      first | rfl | simp [C.svd]
    | 8, ho, hl, he =>
      obtain rfl := Option.some.inj ho
      simp [Region.binds] at hl he
      clear ho
      have hL := hl
      clear hl he
      subst hL
      refine wpOp_step rfl (fun K hK => ?_)
      go_simp
      refine hK _ _ ⟨_, _, _, _, _, _, _, _, true, _, _, _, _, _, _, _, eb, rfl, ?_, HH.out⟩
      first | rfl | simp [C.svd]
    | 9, ho, hl, he =>
      obtain rfl := Option.some.inj ho
      simp [Region.binds] at hl he
      clear ho
      have hL := hl
      (try (have e3 : b3 = true := (by revert he; cases b3 <;> simp)))
      (try (have e7 : b7 = true := (by revert he; cases b7 <;> simp)))
      (try (have e8 : b8 = true := (by revert he; cases b8 <;> simp)))
      clear hl he
      (try subst e3)
      (try subst e7)
      (try subst e8)
      subst hL
      refine wpOp_step rfl (fun K hK => ?_)
      go_simp
      refine (E.c_Look wr v.t g room L (HT.out.below HH.out.1) d (a / 4096)).mono ?_
      rintro r w1 ⟨rfl, hb1⟩
      rw [HL.out]
      refine hK _ _ ⟨_, _, _, _, _, _, _, _, _, true, _, _, _, _, _, _, eb, rfl, ?_, HH.out.1.trans (hb1.mono HH.out.1.size), HH.out.2.1, fun q => ⟨(HH.out.2.2 q).1, (HH.out.2.2 q).2.below hb1⟩⟩
      first | rfl | simp [C.svd]
    | 10, ho, hl, he =>
      obtain rfl := Option.some.inj ho
      simp [Region.binds] at hl he
      clear ho
      have hL := hl
      (try (have e9 : b9 = true := (by revert he; cases b9 <;> simp)))
      clear hl he
      (try subst e9)
      subst hL
      refine wpOp_step rfl (fun K hK => ?_)
      go_simp
      refine hK _ _ ⟨_, _, _, _, _, _, _, _, _, _, true, _, _, _, _, _, eb, rfl, ?_, HH.out⟩
      first | rfl | simp [C.svd]
    | 11, ho, hl, he =>
      obtain rfl := Option.some.inj ho
      simp [Region.binds] at hl he
      clear ho
      have hL := hl
      (try (have e10 : b10 = true := (by revert he; cases b10 <;> simp)))
      clear hl he
      (try subst e10)
      subst hL
      refine wpOp_step rfl (fun K hK => ?_)
      go_simp
      refine hK _ _ ⟨_, _, _, _, _, _, _, _, _, _, _, true, _, _, _, _, eb, rfl, ?_, HH.out⟩
      first | rfl | simp [C.svd]
    | 12, ho, hl, he =>
      obtain rfl := Option.some.inj ho
      simp [Region.binds] at hl he
      clear ho
      have hL := hl
      (try (have e10 : b10 = true := (by revert he; cases b10 <;> simp)))
      clear hl he
      (try subst e10)
      subst hL
      refine wpOp_step rfl (fun K hK => ?_)
      go_simp
      refine hK _ _ ⟨_, _, _, _, _, _, _, _, _, _, _, _, true, _, _, _, eb, rfl, ?_, HH.out⟩
      first | rfl | simp [C.svd]
    | 13, ho, hl, he =>
      obtain rfl := Option.some.inj ho
      simp [Region.binds] at hl he
      clear ho
      have hL := hl
      clear hl he
      subst hL
      refine wpOp_step rfl (fun K hK => ?_)
      go_simp
      refine hK _ _ ⟨_, _, _, _, _, _, _, _, _, _, _, _, _, true, _, _, wr.heap.size, rfl, ?_, HH.out.1.alloc HH.out.1.size _, fun _ => rfl, fun _ => ⟨HH.out.1.size, ?_⟩⟩
      · first | rfl | simp [C.svd]
      · cases b14
        · exact heap_alloc_new wr _
        · exact absurd (HH.out.2.1 rfl) (by decide)
    | 14, ho, hl, he =>
      obtain rfl := Option.some.inj ho
      simp [Region.binds] at hl he
      clear ho
      have hL := hl
      (try (have e0 : b0 = true := (by revert he; cases b0 <;> simp)))
      (try (have e1 : b1 = true := (by revert he; cases b1 <;> simp)))
      (try (have e2 : b2 = true := (by revert he; cases b2 <;> simp)))
      (try (have e3 : b3 = true := (by revert he; cases b3 <;> simp)))
      (try (have e4 : b4 = true := (by revert he; cases b4 <;> simp)))
      (try (have e5 : b5 = true := (by revert he; cases b5 <;> simp)))
      (try (have e6 : b6 = true := (by revert he; cases b6 <;> simp)))
      (try (have e7 : b7 = true := (by revert he; cases b7 <;> simp)))
      (try (have e8 : b8 = true := (by revert he; cases b8 <;> simp)))
      (try (have e9 : b9 = true := (by revert he; cases b9 <;> simp)))
      (try (have e10 : b10 = true := (by revert he; cases b10 <;> simp)))
      (try (have e11 : b11 = true := (by revert he; cases b11 <;> simp)))
      (try (have e13 : b13 = true := (by revert he; cases b13 <;> simp)))
      clear hl he
      (try subst e0)
      (try subst e1)
      (try subst e2)
      (try subst e3)
      (try subst e4)
      (try subst e5)
      (try subst e6)
      (try subst e7)
      (try subst e8)
      (try subst e9)
      (try subst e10)
      (try subst e11)
      (try subst e13)
      subst hL
      have z4 := E.cells1 (HH.out.2.2 rfl).2
      obtain ⟨z0, z1, z2, z3⟩ := z4
      have zf := (HH.out.2.2 rfl).2.z
      refine wpOp_step rfl (fun K hK => ?_)
      go_simp
      refine hK _ _ ⟨_, _, _, _, _, _, _, _, _, _, _, _, _, _, true, _, eb, rfl, ?_, E.below4 HH.out.1 (HH.out.2.2 rfl).1 e, fun _ => rfl, fun _ => ⟨(HH.out.2.2 rfl).1, E.set4 (HH.out.2.2 rfl).2 e⟩⟩
      first | rfl | simp [C.svd]
    | 15, ho, hl, he =>
      obtain rfl := Option.some.inj ho
      simp [Region.binds] at hl he
      clear ho
      have hL := hl
      (try (have e0 : b0 = true := (by revert he; cases b0 <;> simp)))
      (try (have e1 : b1 = true := (by revert he; cases b1 <;> simp)))
      (try (have e2 : b2 = true := (by revert he; cases b2 <;> simp)))
      (try (have e3 : b3 = true := (by revert he; cases b3 <;> simp)))
      (try (have e4 : b4 = true := (by revert he; cases b4 <;> simp)))
      (try (have e5 : b5 = true := (by revert he; cases b5 <;> simp)))
      (try (have e6 : b6 = true := (by revert he; cases b6 <;> simp)))
      (try (have e7 : b7 = true := (by revert he; cases b7 <;> simp)))
      (try (have e8 : b8 = true := (by revert he; cases b8 <;> simp)))
      (try (have e9 : b9 = true := (by revert he; cases b9 <;> simp)))
      (try (have e10 : b10 = true := (by revert he; cases b10 <;> simp)))
      (try (have e11 : b11 = true := (by revert he; cases b11 <;> simp)))
      (try (have e12 : b12 = true := (by revert he; cases b12 <;> simp)))
      (try (have e13 : b13 = true := (by revert he; cases b13 <;> simp)))
      (try (have e14 : b14 = true := (by revert he; cases b14 <;> simp)))
      clear hl he
      (try subst e0)
      (try subst e1)
      (try subst e2)
      (try subst e3)
      (try subst e4)
      (try subst e5)
      (try subst e6)
      (try subst e7)
      (try subst e8)
      (try subst e9)
      (try subst e10)
      (try subst e11)
      (try subst e12)
      (try subst e13)
      (try subst e14)
      subst hL
      refine wpOp_step rfl (fun K hK => ?_)
      go_simp
      refine hK _ _ ⟨_, _, _, _, _, _, _, _, _, _, _, _, _, _, _, true, eb, rfl, ?_, HH.out⟩
      first | rfl | simp [C.svd]
    | k + 16, ho, hl, he => simp at ho
end Go.Proofs.YtajnjmjogaacpaaGreat
