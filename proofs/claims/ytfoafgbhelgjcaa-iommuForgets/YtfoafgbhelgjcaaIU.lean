/- What an access comes to does not hang on what is remembered. -/
import Derived.Test.YtfoafgbhelgjcaaIT
namespace Go.Proofs.Ytfoafgbhelgjcaa
open Go.RowKit
open C (Only hid Mem Still ret_int ret_bool put byt nu fcl c_Place Cl)
set_option linter.unusedVariables false
set_option maxRecDepth 100000

set_option maxHeartbeats 4000000 in
theorem w_IommuForgets (W : World) (ad : Option Addr) (la cap ab ao : Nat) (X : Nat → Int × Int) (hX : Cl W ad la cap ab ao X) (r : Int) (r0 : 0 ≤ r) (r1 : r < 18446744073709551616) (bd : Option Addr) (lb cbp bb bo : Nat) (Y : Nat → OpV) (hY : Sc W bd lb cbp bb bo Y) :
    Calls Try.prog 6 #[.slice ad la cap, .int .u64 r, .slice bd lb cbp] W fun e w' => e = .returned (.bool true) ∧ Below W.heap.size W w' := by
  have HX := hid hX
  have HY := hid hY
  have lb1 : lb ≤ 9223372036854775807 := Nat.le_trans hY.len hY.cap
  have T1 : Hid True := trivial
  have T3 : Hid True := trivial
  clear hX hY
  go_enter Try.func6, Try.ntmps6
  go_wp2_with (first
    | (have tk := T1; go_at_call 18; refine (l_New _ 3 (by decide) (by decide) ad la cap ab ao X HX.out).mono ?_; clear tk T1; rintro e w1 ⟨u, t, m, xx, q, F, T, rfl, hs, -, -, hb, hf⟩; have H1 := hid (LW.start (T := T) (t := t) (m := m) (x := xx) (q := q) (Below.refl W.heap.size W) hs hb hf (.pointer (some ⟨xx, 0, none⟩)) (.pointer (some ⟨m, 0, none⟩)) (.pointer (some ⟨q, 0, none⟩))); clear hs hb hf)
    | (go_at_call 18; refine (l_New _ 3 (by decide) (by decide) ad la cap ab ao X (HX.out.below H1.out.new)).mono ?_; rintro e w2 ⟨u2, t2, m2, xx2, q2, F2, T2, rfl, hs, -, -, hb, hf⟩; have H2 := hid (L2.start (T2 := T2) H1.out hb hs hf (.pointer (some ⟨xx2, 0, none⟩)) (.pointer (some ⟨m2, 0, none⟩)) (.pointer (some ⟨q2, 0, none⟩))); have ca := H2.out.a.c; have cb := H2.out.b.c; clear hs hb hf)
    | (have tk := T3; go_at_call 20; refine (s_SetV _ F u _ 8 _ 3 [] H2.out.a.us 2 r r0 r1).mono ?_; clear tk T3; rintro e w3 ⟨c3, rfl, hs3, ht3⟩; have H3 := hid (H2.out.stepA hs3 ht3); have ca3 := H3.out.a.c; have cb3 := H3.out.b.c; clear hs3 ht3)
    | (go_at_call 20; refine (s_SetV _ F2 u2 _ 8 _ 3 [] H3.out.b.us 2 r r0 r1).mono ?_; rintro e w4 ⟨c4, rfl, hs4, ht4⟩; have H4 := hid (H3.out.stepB hs4 ht4); clear hs4 ht4))
  obtain ⟨oa, hoa⟩ : ∃ oa, w1.heap.size = oa := ⟨_, rfl⟩
  obtain ⟨ob, hob⟩ : ∃ ob, w2.heap.size = ob := ⟨_, rfl⟩
  rw [hoa, hob] at H4
  rw [hoa, hob]
  clear hoa hob ca cb ca3 cb3 H1 H2 H3
  have hby : ∀ j, 0 ≤ fcl 8 X la j ∧ fcl 8 X la j < 256 := H4.out.a.us.byt
  generalize fcl 8 X la = f at H4 hby
  have hr4 : (stV (v0 t m) 2 r).root = (stV (v0 t2 m2) 2 r).root := stV_root (v := v0 t m) (v' := v0 t2 m2) rfl 2 r
  have o1 : (stV (v0 t m) 2 r).there = false := stV_there _ _ _
  have o2 : (stV (v0 t2 m2) 2 r).there = false := stV_there _ _ _
  have HI := hid (And.intro hr4 (And.intro o1 o2))
  clear hr4 o1 o2
  go_loopw [11] (fun i wr => ∃ (k : Nat) (F : Nat → Prop) (v : UV) (L : List E.TV) (F2 : Nat → Prop) (v2 : UV), k ≤ lb ∧ i = .int .i64 k ∧ L2 W wr F oa u v f L F2 ob u2 v2 f [] 3 ∧ v.root = v2.root ∧ v.there = false ∧ v2.there = false ∧ Tr 8 f v L) (fun i _ => lb - (intOf i).toNat)
  case atStart => exact ⟨0, F, _, [], F2, _, by omega, rfl, H4.out, HI.out.1, HI.out.2.1, HI.out.2.2, Tr.nil _ _ _⟩
  case round =>
    clear H4 HI
    obtain ⟨k, F, v, L, F2, v2, hk, rfl, hl, hr, ha, hb, hT⟩ := hrel
    have HL := hid hl
    have HI := hid (And.intro hr (And.intro ha (And.intro hb hT)))
    clear hl hr ha hb hT
    by_cases hlt : k < lb
    · obtain ⟨rfl, hab⟩ := HY.out.at0 (by omega)
      obtain ⟨x0, x1, x2, x3, x4, x5, x6, x7⟩ := (HY.out.below HL.out.a.new).cells k hlt
      obtain ⟨nk, nd, ⟨s0, s1⟩, ⟨a0, a1⟩, nda⟩ := HY.out.num k hlt
      generalize Y k = y at x0 x1 x2 x3 x4 x5 x6 x7 nk nd s0 s1 a0 a1 nda
      obtain ⟨k1, p1, L1, h1⟩ : ∃ k1 p1 L1, acF 8 f v 3 L 2 y.addr y.size y.write = (k1, p1, L1) := ⟨_, _, _, rfl⟩
      obtain ⟨k2, p2, L2', h2⟩ : ∃ k2 p2 L2', acF 8 f v2 3 [] 2 y.addr y.size y.write = (k2, p2, L2') := ⟨_, _, _, rfl⟩
      obtain ⟨t1, tr1⟩ := acF_true hby HL.out.a.us.ok.root HI.out.2.2.2 a0 a1 h1
      obtain ⟨t2, tr2⟩ := acF_true hby HL.out.b.us.ok.root (Tr.nil _ _ _) a0 a1 h2
      rw [HI.out.1, t2] at t1
      cases t1
      have HN := hid (fl_nil (d := 2) (fun e he => (acF_dev h2 e he).resolve_left (by intro z; cases z)))
      have H1 := hid h1
      have H2 := hid h2
      have HTR := hid tr1
      have ca := (HL.out.alloc (.cells #[.int .i64 y.kind, .int .i64 y.dev, .int .i64 y.size, .int .u64 y.addr, .int .u64 y.data, .bool y.write, .int .i64 y.guest, .int .i64 y.irq] 39)).a.c
      have HA := hid (HL.out.alloc (.cells #[.int .i64 y.kind, .int .i64 y.dev, .int .i64 y.size, .int .u64 y.addr, .int .u64 y.data, .bool y.write, .int .i64 y.guest, .int .i64 y.irq] 39))
      have hbl := heap_alloc_new wr (.cells #[.int .i64 y.kind, .int .i64 y.dev, .int .i64 y.size, .int .u64 y.addr, .int .u64 y.data, .bool y.write, .int .i64 y.guest, .int .i64 y.irq] 39)
      have HBL := hid hbl
      clear h1 h2 tr1 tr2 t2 hbl
      have T1 : Hid True := trivial
      go_wp2_with (first
        | (have tk := T1; go_at_call 22; refine (s_Access _ F u v 8 f 3 L HA.out.a.us 2 y.addr y.size y.write rfl a0 a1 s0 s1 _ _ _ H1.out).mono ?_; clear tk T1; rintro e w5 ⟨rfl, F5, hs5, ht5⟩; have H5 := hid (HA.out.stepA hs5 ht5); have hb5 := ht5.1.old HBL.out (fun z => by have := HL.out.a.us.lt z; omega); have cb5 := H5.out.b.c; have y2 : w5.cell? ⟨wr.heap.size, 2, none⟩ = some (.int .i64 y.size) := (by rw [cell_of_row w5 _ 2 _ _ _ hb5]; rfl); have y3 : w5.cell? ⟨wr.heap.size, 3, none⟩ = some (.int .u64 y.addr) := (by rw [cell_of_row w5 _ 3 _ _ _ hb5]; rfl); have y5 : w5.cell? ⟨wr.heap.size, 5, none⟩ = some (.bool y.write) := (by rw [cell_of_row w5 _ 5 _ _ _ hb5]; rfl); clear hs5 ht5 hb5)
        | (go_at_call 22; refine (s_Access _ F2 u2 v2 8 f 3 [] H5.out.b.us 2 y.addr y.size y.write rfl a0 a1 s0 s1 _ _ _ H2.out).mono ?_; rintro e w6 ⟨rfl, F6, hs6, ht6⟩; have H6 := hid (H5.out.stepB hs6 ht6); have cb6 := H6.out.b.c; clear hs6 ht6)
        | (go_at_call 30; refine (s_Invalidate _ F6 u2 _ 8 _ 3 _ H6.out.b.us 2).mono ?_; rw [HN.out]; rintro e w7 ⟨rfl, hs7, ht7⟩; have H7 := hid (H6.out.stepB hs7 ht7); have cb7 := H7.out.b.c; have ku7 := H7.out.b.us.iu.c0; clear hs7 ht7)
        | (go_at_call 31; refine (s_Entries0 _ F6 u2 _ 8 _ 3 H7.out.b.us).mono ?_; rintro e w8 ⟨ad8, cap8, rfl, hb8⟩; have H8 := hid (H7.out.below hb8); clear hb8))
      go_roundw
      case rel =>
        have e8 := H8.out
        rw [bkF_off HI.out.2.1, bkF_off HI.out.2.2.1] at e8
        refine ⟨k + 1, F5, _, _, F6, _, by omega, by go_num, e8, by rw [bkV_root, bkV_root]; exact HI.out.1, bkV_off HI.out.2.1, bkV_off HI.out.2.2.1, ?_⟩
        intro e he
        rw [bkV_root]
        exact HTR.out e he
      case measure => simp [intOf]; omega
    · obtain rfl : k = lb := by omega
      go_wp2_with ((go_at_call 28; refine (l_awake _).mono ?_; rintro e w9 ⟨rfl, hb9⟩; have HB9 := hid hb9; clear hb9))
      go_ret
      exact ⟨rfl, HL.out.a.new.trans (HB9.out.mono HL.out.a.new.size)⟩
end Go.Proofs.Ytfoafgbhelgjcaa
