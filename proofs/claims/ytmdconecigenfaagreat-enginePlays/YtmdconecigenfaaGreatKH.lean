/- The document's IOMMU: an access, what is found. -/
import Derived.Test.YtmdconecigenfaaGreatKG
namespace Go.Proofs.YtmdconecigenfaaGreat
open Go.RowKit
open C (Only hid Mem Still ret_int ret_bool put byt nu RMem hasB WB WB.cell Calls.wb wp_region_wb gst rdm)
set_option linter.unusedVariables false
set_option maxRecDepth 100000

set_option maxHeartbeats 4000000 in
theorem k_Access_page (w : World) (b q r : Nat) (v : UV) (mv : Value) (hu : Ru w b q r v mv) (S : Nat → Prop) (n : Nat) (f : Nat → Int) (hm : RMem w S q 0 n f) (room : Nat) (vv : Value) (L : List E.TV) (hr : E.RM w r room vv L) (ok : VOk v n) (d a s : Int) (wt : Bool) (hd : isDev d = true) (a0 : 0 ≤ a) (a1 : a < 18446744073709551616) (s0 : -9223372036854775808 ≤ s) (s1 : s ≤ 9223372036854775807) (hw : whole a s = true) (h0 : 0 < room) (hL : L.length ≤ room) (hnd : E.Nd L) (hz : (v.root d.toNat == 0) = false) (e : E.TV) (okk : Bool) (hl : E.lk L d (a / 4096) = (e, okk)) (hh : ¬ (okk = true ∧ (bits .and .i64 e.r (art wt) == 0) = false)) (x y z : Int) (hg : gst (rdm n f) (v.root d.toNat) a (akd wt) = (x, y, z)) (hzz : (z == 0) = false) :
    Calls Tryz.prog 62 #[.pointer (some ⟨b, 0, none⟩), .int .i64 d, .int .u64 a, .int .i64 s, .bool wt] w fun e0 w' => e0 = .returned (.tuple #[.int .u64 0, .bool false]) ∧ DQ w w' b q r (rcV v) mv S n (rcF v f d 2 a) room vv L := by
  obtain ⟨q0, q1⟩ := dev_cases hd
  have HD : Hid (Ru w b q r v mv ∧ RMem w S q 0 n f ∧ E.RM w r room vv L) := ⟨hu, hm, hr⟩
  have hlt := hu.lt
  have r0 := (ok.root d.toNat).1
  have r1 := (ok.root d.toNat).2
  have hxb := gst_b hm.byt (v.root d.toNat) a (akd wt) a0 a1 r0 r1 hg
  have c1 := hu.cr d.toNat (by omega)
  have c2 := hu.c1
  have hbr := rm_u hu hr
  have hsr := rm_s hm hr
  have HBR := hid hbr
  have HSR := hid hsr
  have HL := hid hl
  have HG := hid hg
  have hk : okk = false ∨ (okk = true ∧ bits .and .i64 e.r (art wt) = 0) := by
    cases okk
    · exact .inl rfl
    · exact .inr ⟨rfl, by simpa using hh⟩
  clear hu hm hr hl hg hbr hsr hh
  cases wt
  · rcases hk with rfl | ⟨rfl, hp⟩
    · skip
      go_enter Tryz.func62, Tryz.ntmps62
      go_upto_region 8 with ((go_at_call 95; refine (k_none _ d true hd).mono ?_; rintro e w2 ⟨rfl, hw2⟩; obtain rfl := hw2.symm))
      go_cut [43] from 23 (fun t wc => t = .bool (!whole a s) ∧ w = wc)
      case first =>
        have hs : s = 1 ∨ s = 2 ∨ s = 4 ∨ s = 8 ∨ ¬ (s = 1 ∨ s = 2 ∨ s = 4 ∨ s = 8) := by omega
        clear hw
        rcases hs with rfl | rfl | rfl | rfl | hs
        iterate 4
          · go_wp2_with fail
            go_meet
            case rel => exact ⟨ret_bv (by first | (simp [whole]; done) | (simp [whole]; rfl)), rfl⟩
        · have n1 : (s == 1) = false := by simp; omega
          have n2 : (s == 2) = false := by simp; omega
          have n4 : (s == 4) = false := by simp; omega
          have n8 : (s == 8) = false := by simp; omega
          go_wp2_with fail
          go_meet
          case rel => exact ⟨ret_bv (by simp [whole, hs]), rfl⟩
      case rest =>
        obtain ⟨rfl, rfl⟩ := hcut
        rw [hw]
        go_wp2_with (go_at_call 97; refine (E.r_Look _ r room vv L HD.out.2.2 d (a / 4096)).mono ?_; rw [HL.out]; rintro e1 w1 ⟨rfl, hb1⟩; have HB1 := hid hb1; clear hb1; have hlt1 : b < w1.heap.size := Nat.lt_of_lt_of_le hlt HB1.out.size; have k1 := (HD.out.1.below HB1.out).c0)
        obtain ⟨wa, hwa⟩ : ∃ wa, w1.alloc (.cells #[.int .i64 e.v, .int .u64 e.p, .int .u64 e.f, .int .i64 e.r] 127) = wa := ⟨_, rfl⟩
        have HBa : Hid (Below w.heap.size w wa) := hwa ▸ HB1.out.alloc HB1.out.size _
        rw [hwa]
        clear hwa k1 c1 c2 hlt1
        have HUa := hid (HD.out.1.below HBa.out)
        have c1 : ∀ x : WB wa, x.w.cell? ⟨b, 0, none⟩ = some (.pointer (some ⟨q, 0, none⟩)) := fun x => x.cell HUa.out.lt HUa.out.c0
        have c2 : ∀ x : WB wa, x.w.cell? ⟨b, 2 + d.toNat, none⟩ = some (.int .u64 (v.root d.toNat)) := fun x => x.cell HUa.out.lt (HUa.out.cr d.toNat (by omega))
        refine wp_region_wb (by kernel_rfl) (by kernel_rfl) ?_
        repeat
          first
            | (refine wpQuiet_step (fun K hK => ?_)
               go_simp
               first
                 | (refine hK _ ?_; clear hK K)
                 | (refine ⟨_, fun _ => rfl, hK _ ?_⟩; clear hK K)
                 | (refine ⟨.tuple #[.int .u64 x, .int .i64 y, .int .i64 z], fun t => ?_, hK _ ?_⟩
                    · (go_at_call 98; exact Calls.wb t (C.q_Guest t.w S q n f ((HD.out.2.1.below HBa.out).below t.h) (v.root d.toNat) a _ r0 r1 a0 a1 x y z HG.out))
                    clear hK K))
        refine wpQuiet_nil ?_
        intro _ ht
        obtain ⟨t, rfl⟩ := ht
        have HB3 : Hid (Below w.heap.size w t.w) := HBa.out.trans (t.h.mono HBa.out.size)
        clear c1 c2 HUa
        obtain ⟨wq, hwq⟩ : ∃ wq, t.w = wq := ⟨_, rfl⟩
        rw [hwq] at HB3
        rw [hwq]
        clear hwq t
        go_wp2_with (go_at_call 96; refine (k_recD w _ b q r v mv S n f room vv vv L (Only.ofBelow HB3.out) (HD.out.1.below HB3.out) (HD.out.2.1.below HB3.out) (HD.out.2.2.below HB3.out) (fun j h => .inl h) ok d 2 a q0 q1 (by decide) (by decide) a0 a1).mono ?_; rintro e4 w4 ⟨rfl, hq⟩; have HQ := hid hq; clear hq)
        go_ret2
        exact ⟨rfl, HQ.out⟩
    · skip
      have hp : bits .and .i64 e.r 2 = 0 := by simpa [art] using hp
      go_enter Tryz.func62, Tryz.ntmps62
      go_upto_region 8 with ((go_at_call 95; refine (k_none _ d true hd).mono ?_; rintro e w2 ⟨rfl, hw2⟩; obtain rfl := hw2.symm))
      go_cut [43] from 23 (fun t wc => t = .bool (!whole a s) ∧ w = wc)
      case first =>
        have hs : s = 1 ∨ s = 2 ∨ s = 4 ∨ s = 8 ∨ ¬ (s = 1 ∨ s = 2 ∨ s = 4 ∨ s = 8) := by omega
        clear hw
        rcases hs with rfl | rfl | rfl | rfl | hs
        iterate 4
          · go_wp2_with fail
            go_meet
            case rel => exact ⟨ret_bv (by first | (simp [whole]; done) | (simp [whole]; rfl)), rfl⟩
        · have n1 : (s == 1) = false := by simp; omega
          have n2 : (s == 2) = false := by simp; omega
          have n4 : (s == 4) = false := by simp; omega
          have n8 : (s == 8) = false := by simp; omega
          go_wp2_with fail
          go_meet
          case rel => exact ⟨ret_bv (by simp [whole, hs]), rfl⟩
      case rest =>
        obtain ⟨rfl, rfl⟩ := hcut
        rw [hw]
        go_wp2_with (go_at_call 97; refine (E.r_Look _ r room vv L HD.out.2.2 d (a / 4096)).mono ?_; rw [HL.out]; rintro e1 w1 ⟨rfl, hb1⟩; have HB1 := hid hb1; clear hb1; have hlt1 : b < w1.heap.size := Nat.lt_of_lt_of_le hlt HB1.out.size; have k1 := (HD.out.1.below HB1.out).c0)
        obtain ⟨wa, hwa⟩ : ∃ wa, w1.alloc (.cells #[.int .i64 e.v, .int .u64 e.p, .int .u64 e.f, .int .i64 e.r] 127) = wa := ⟨_, rfl⟩
        have HBa : Hid (Below w.heap.size w wa) := hwa ▸ HB1.out.alloc HB1.out.size _
        rw [hwa]
        clear hwa k1 c1 c2 hlt1
        have HUa := hid (HD.out.1.below HBa.out)
        have c1 : ∀ x : WB wa, x.w.cell? ⟨b, 0, none⟩ = some (.pointer (some ⟨q, 0, none⟩)) := fun x => x.cell HUa.out.lt HUa.out.c0
        have c2 : ∀ x : WB wa, x.w.cell? ⟨b, 2 + d.toNat, none⟩ = some (.int .u64 (v.root d.toNat)) := fun x => x.cell HUa.out.lt (HUa.out.cr d.toNat (by omega))
        refine wp_region_wb (by kernel_rfl) (by kernel_rfl) ?_
        repeat
          first
            | (refine wpQuiet_step (fun K hK => ?_)
               go_simp
               first
                 | (refine hK _ ?_; clear hK K)
                 | (refine ⟨_, fun _ => rfl, hK _ ?_⟩; clear hK K)
                 | (refine ⟨.tuple #[.int .u64 x, .int .i64 y, .int .i64 z], fun t => ?_, hK _ ?_⟩
                    · (go_at_call 98; exact Calls.wb t (C.q_Guest t.w S q n f ((HD.out.2.1.below HBa.out).below t.h) (v.root d.toNat) a _ r0 r1 a0 a1 x y z HG.out))
                    clear hK K))
        refine wpQuiet_nil ?_
        intro _ ht
        obtain ⟨t, rfl⟩ := ht
        have HB3 : Hid (Below w.heap.size w t.w) := HBa.out.trans (t.h.mono HBa.out.size)
        clear c1 c2 HUa
        obtain ⟨wq, hwq⟩ : ∃ wq, t.w = wq := ⟨_, rfl⟩
        rw [hwq] at HB3
        rw [hwq]
        clear hwq t
        go_wp2_with (go_at_call 96; refine (k_recD w _ b q r v mv S n f room vv vv L (Only.ofBelow HB3.out) (HD.out.1.below HB3.out) (HD.out.2.1.below HB3.out) (HD.out.2.2.below HB3.out) (fun j h => .inl h) ok d 2 a q0 q1 (by decide) (by decide) a0 a1).mono ?_; rintro e4 w4 ⟨rfl, hq⟩; have HQ := hid hq; clear hq)
        go_ret2
        exact ⟨rfl, HQ.out⟩
  · rcases hk with rfl | ⟨rfl, hp⟩
    · skip
      go_enter Tryz.func62, Tryz.ntmps62
      go_upto_region 8 with ((go_at_call 95; refine (k_none _ d true hd).mono ?_; rintro e w2 ⟨rfl, hw2⟩; obtain rfl := hw2.symm))
      go_cut [43] from 23 (fun t wc => t = .bool (!whole a s) ∧ w = wc)
      case first =>
        have hs : s = 1 ∨ s = 2 ∨ s = 4 ∨ s = 8 ∨ ¬ (s = 1 ∨ s = 2 ∨ s = 4 ∨ s = 8) := by omega
        clear hw
        rcases hs with rfl | rfl | rfl | rfl | hs
        iterate 4
          · go_wp2_with fail
            go_meet
            case rel => exact ⟨ret_bv (by first | (simp [whole]; done) | (simp [whole]; rfl)), rfl⟩
        · have n1 : (s == 1) = false := by simp; omega
          have n2 : (s == 2) = false := by simp; omega
          have n4 : (s == 4) = false := by simp; omega
          have n8 : (s == 8) = false := by simp; omega
          go_wp2_with fail
          go_meet
          case rel => exact ⟨ret_bv (by simp [whole, hs]), rfl⟩
      case rest =>
        obtain ⟨rfl, rfl⟩ := hcut
        rw [hw]
        go_wp2_with (go_at_call 97; refine (E.r_Look _ r room vv L HD.out.2.2 d (a / 4096)).mono ?_; rw [HL.out]; rintro e1 w1 ⟨rfl, hb1⟩; have HB1 := hid hb1; clear hb1; have hlt1 : b < w1.heap.size := Nat.lt_of_lt_of_le hlt HB1.out.size; have k1 := (HD.out.1.below HB1.out).c0)
        obtain ⟨wa, hwa⟩ : ∃ wa, w1.alloc (.cells #[.int .i64 e.v, .int .u64 e.p, .int .u64 e.f, .int .i64 e.r] 127) = wa := ⟨_, rfl⟩
        have HBa : Hid (Below w.heap.size w wa) := hwa ▸ HB1.out.alloc HB1.out.size _
        rw [hwa]
        clear hwa k1 c1 c2 hlt1
        have HUa := hid (HD.out.1.below HBa.out)
        have c1 : ∀ x : WB wa, x.w.cell? ⟨b, 0, none⟩ = some (.pointer (some ⟨q, 0, none⟩)) := fun x => x.cell HUa.out.lt HUa.out.c0
        have c2 : ∀ x : WB wa, x.w.cell? ⟨b, 2 + d.toNat, none⟩ = some (.int .u64 (v.root d.toNat)) := fun x => x.cell HUa.out.lt (HUa.out.cr d.toNat (by omega))
        refine wp_region_wb (by kernel_rfl) (by kernel_rfl) ?_
        repeat
          first
            | (refine wpQuiet_step (fun K hK => ?_)
               go_simp
               first
                 | (refine hK _ ?_; clear hK K)
                 | (refine ⟨_, fun _ => rfl, hK _ ?_⟩; clear hK K)
                 | (refine ⟨.tuple #[.int .u64 x, .int .i64 y, .int .i64 z], fun t => ?_, hK _ ?_⟩
                    · (go_at_call 98; exact Calls.wb t (C.q_Guest t.w S q n f ((HD.out.2.1.below HBa.out).below t.h) (v.root d.toNat) a _ r0 r1 a0 a1 x y z HG.out))
                    clear hK K))
        refine wpQuiet_nil ?_
        intro _ ht
        obtain ⟨t, rfl⟩ := ht
        have HB3 : Hid (Below w.heap.size w t.w) := HBa.out.trans (t.h.mono HBa.out.size)
        clear c1 c2 HUa
        obtain ⟨wq, hwq⟩ : ∃ wq, t.w = wq := ⟨_, rfl⟩
        rw [hwq] at HB3
        rw [hwq]
        clear hwq t
        go_wp2_with (go_at_call 96; refine (k_recD w _ b q r v mv S n f room vv vv L (Only.ofBelow HB3.out) (HD.out.1.below HB3.out) (HD.out.2.1.below HB3.out) (HD.out.2.2.below HB3.out) (fun j h => .inl h) ok d 2 a q0 q1 (by decide) (by decide) a0 a1).mono ?_; rintro e4 w4 ⟨rfl, hq⟩; have HQ := hid hq; clear hq)
        go_ret2
        exact ⟨rfl, HQ.out⟩
    · skip
      have hp : bits .and .i64 e.r 4 = 0 := by simpa [art] using hp
      go_enter Tryz.func62, Tryz.ntmps62
      go_upto_region 8 with ((go_at_call 95; refine (k_none _ d true hd).mono ?_; rintro e w2 ⟨rfl, hw2⟩; obtain rfl := hw2.symm))
      go_cut [43] from 23 (fun t wc => t = .bool (!whole a s) ∧ w = wc)
      case first =>
        have hs : s = 1 ∨ s = 2 ∨ s = 4 ∨ s = 8 ∨ ¬ (s = 1 ∨ s = 2 ∨ s = 4 ∨ s = 8) := by omega
        clear hw
        rcases hs with rfl | rfl | rfl | rfl | hs
        iterate 4
          · go_wp2_with fail
            go_meet
            case rel => exact ⟨ret_bv (by first | (simp [whole]; done) | (simp [whole]; rfl)), rfl⟩
        · have n1 : (s == 1) = false := by simp; omega
          have n2 : (s == 2) = false := by simp; omega
          have n4 : (s == 4) = false := by simp; omega
          have n8 : (s == 8) = false := by simp; omega
          go_wp2_with fail
          go_meet
          case rel => exact ⟨ret_bv (by simp [whole, hs]), rfl⟩
      case rest =>
        obtain ⟨rfl, rfl⟩ := hcut
        rw [hw]
        go_wp2_with (go_at_call 97; refine (E.r_Look _ r room vv L HD.out.2.2 d (a / 4096)).mono ?_; rw [HL.out]; rintro e1 w1 ⟨rfl, hb1⟩; have HB1 := hid hb1; clear hb1; have hlt1 : b < w1.heap.size := Nat.lt_of_lt_of_le hlt HB1.out.size; have k1 := (HD.out.1.below HB1.out).c0)
        obtain ⟨wa, hwa⟩ : ∃ wa, w1.alloc (.cells #[.int .i64 e.v, .int .u64 e.p, .int .u64 e.f, .int .i64 e.r] 127) = wa := ⟨_, rfl⟩
        have HBa : Hid (Below w.heap.size w wa) := hwa ▸ HB1.out.alloc HB1.out.size _
        rw [hwa]
        clear hwa k1 c1 c2 hlt1
        have HUa := hid (HD.out.1.below HBa.out)
        have c1 : ∀ x : WB wa, x.w.cell? ⟨b, 0, none⟩ = some (.pointer (some ⟨q, 0, none⟩)) := fun x => x.cell HUa.out.lt HUa.out.c0
        have c2 : ∀ x : WB wa, x.w.cell? ⟨b, 2 + d.toNat, none⟩ = some (.int .u64 (v.root d.toNat)) := fun x => x.cell HUa.out.lt (HUa.out.cr d.toNat (by omega))
        refine wp_region_wb (by kernel_rfl) (by kernel_rfl) ?_
        repeat
          first
            | (refine wpQuiet_step (fun K hK => ?_)
               go_simp
               first
                 | (refine hK _ ?_; clear hK K)
                 | (refine ⟨_, fun _ => rfl, hK _ ?_⟩; clear hK K)
                 | (refine ⟨.tuple #[.int .u64 x, .int .i64 y, .int .i64 z], fun t => ?_, hK _ ?_⟩
                    · (go_at_call 98; exact Calls.wb t (C.q_Guest t.w S q n f ((HD.out.2.1.below HBa.out).below t.h) (v.root d.toNat) a _ r0 r1 a0 a1 x y z HG.out))
                    clear hK K))
        refine wpQuiet_nil ?_
        intro _ ht
        obtain ⟨t, rfl⟩ := ht
        have HB3 : Hid (Below w.heap.size w t.w) := HBa.out.trans (t.h.mono HBa.out.size)
        clear c1 c2 HUa
        obtain ⟨wq, hwq⟩ : ∃ wq, t.w = wq := ⟨_, rfl⟩
        rw [hwq] at HB3
        rw [hwq]
        clear hwq t
        go_wp2_with (go_at_call 96; refine (k_recD w _ b q r v mv S n f room vv vv L (Only.ofBelow HB3.out) (HD.out.1.below HB3.out) (HD.out.2.1.below HB3.out) (HD.out.2.2.below HB3.out) (fun j h => .inl h) ok d 2 a q0 q1 (by decide) (by decide) a0 a1).mono ?_; rintro e4 w4 ⟨rfl, hq⟩; have HQ := hid hq; clear hq)
        go_ret2
        exact ⟨rfl, HQ.out⟩
end Go.Proofs.YtmdconecigenfaaGreat
