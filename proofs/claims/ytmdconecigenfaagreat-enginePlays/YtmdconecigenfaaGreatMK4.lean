/- A call of a script at both IOMMUs: kind 8. -/
import Derived.Test.YtmdconecigenfaaGreatMK3
namespace Go.Proofs.YtmdconecigenfaaGreat
open Go.RowKit
open C (Only hid Mem Still ret_int ret_bool put byt nu RMem hasB WB WB.cell Calls.wb wp_region_wb gst rdm c_Place)
set_option linter.unusedVariables false
set_option maxRecDepth 100000

theorem m_InvalidatePage (w : World) (u : Nat) (v : UV) (hu : Iu w u v) (g room : Nat) (L : List E.TV) (ht : E.TM w v.t g room L) (d p : Int) : Calls Tryz.prog 76 #[.pointer (some ⟨u, 0, none⟩), .int .i64 d, .int .u64 p] w fun e w' => e = .returned (.tuple #[]) ∧ E.TM w' v.t g room (E.fp L d p) ∧ Only (E.Ft v.t g) w w' := by
  have c1 := hu.c0
  have HT := hid ht
  clear ht hu
  go_enter Tryz.func76, Tryz.ntmps76
  go_wp2_with (first
    | (go_at_call 102; refine (E.c_FlushPage _ v.t g room L HT.out d p).mono ?_; rintro e w2 ⟨rfl, ht2, ho2⟩))
  go_end0
  exact ⟨rfl, ht2, ho2⟩
theorem s_InvalidatePage (w : World) (F : Nat → Prop) (u : Nat) (v : UV) (n : Nat) (f : Nat → Int) (room : Nat) (L : List E.TV) (h : US w F u v n f room L) (d p : Int) : Calls Tryz.prog 76 #[.pointer (some ⟨u, 0, none⟩), .int .i64 d, .int .u64 p] w fun e w' => e = .returned (.tuple #[]) ∧ US w' F u v n f room (E.fp L d p) ∧ Tn w F w' F := by
  obtain ⟨S, g, i1, i2, i3, i4, i5⟩ := h
  refine (m_InvalidatePage w u v i1 g room L i3 d p).mono ?_
  rintro e w' ⟨rfl, ht, ho⟩
  exact ⟨rfl, ⟨S, g, i1.only ho (iu_ft i1 i3), i2.only ho (fun k hk => mem_ft i2 i3 k hk), ht, i4, i5⟩, ho.mono fun k _ q => (i4 k).2 (.inr (.inl q)), fun _ q => .inl q⟩
set_option maxHeartbeats 2000000 in
theorem do_8 (w : World) (base : Nat) (F G : Nat → Prop) (u b q r : Nat) (v : UV) (n : Nat) (f : Nat → Int) (room : Nat) (L : List E.TV) (M : List MV) (h : PW w base F G u b q r v n f room L M) (X : OpV) (hX : OpB X) (hk : X.kind % 11 = 8) :
    Calls Tryz.prog 35 #[.agg #[.pointer (some ⟨u, 0, none⟩), .pointer (some ⟨b, 0, none⟩), .pointer (some ⟨v.m, 0, none⟩), .pointer (some ⟨q, 0, none⟩)], .agg #[.int .i64 X.kind, .int .i64 X.dev, .int .i64 X.size, .int .u64 X.addr, .int .u64 X.data, .bool X.write, .int .i64 X.guest, .int .i64 X.irq]] w fun e w' => e = .returned (.bool true) ∧ PQ w w' base F G u b q r n room v.t v.m M.length := by
  obtain ⟨k0, k1⟩ := hX.kind
  obtain ⟨d0, d1⟩ := hX.dev
  obtain ⟨s0, s1⟩ := hX.size
  obtain ⟨a0, a1⟩ := hX.addr
  obtain ⟨i0, i1⟩ := hX.data
  have HK := hid hk
  have hlt := fun k => @US.lt _ _ _ _ _ _ _ _ h.us k
  have hlg := fun k => @DS.lt _ _ _ _ _ _ _ _ _ _ _ _ h.ds k
  have HP := hid h
  clear h hX hk
  go_enter Tryz.func35, Tryz.ntmps35
  go_wp2_with fail
  obtain ⟨wa, hwa⟩ : ∃ wa, (w.alloc (.cells #[.pointer (some ⟨u, 0, none⟩), .pointer (some ⟨b, 0, none⟩), .pointer (some ⟨v.m, 0, none⟩), .pointer (some ⟨q, 0, none⟩)] 31)).alloc (.cells #[.int .i64 X.kind, .int .i64 X.dev, .int .i64 X.size, .int .u64 X.addr, .int .u64 X.data, .bool X.write, .int .i64 X.guest, .int .i64 X.irq] 79) = wa := ⟨_, rfl⟩
  have HBa : Hid (Below w.heap.size w wa) := hwa ▸ ((Below.refl _ _).alloc (Nat.le_refl _) _).alloc (by simp) _
  have HB0 : Hid (BX wa w.heap.size (w.heap.size + 1) u b v.m q X) := by
    refine ⟨?_, ?_⟩
    · rw [← hwa]; exact (Below.heap_alloc _ _ _ (by simp)).trans (heap_alloc_new w _)
    · rw [← hwa]
      have := heap_alloc_new (w.alloc (.cells #[.pointer (some ⟨u, 0, none⟩), .pointer (some ⟨b, 0, none⟩), .pointer (some ⟨v.m, 0, none⟩), .pointer (some ⟨q, 0, none⟩)] 31)) (.cells #[.int .i64 X.kind, .int .i64 X.dev, .int .i64 X.size, .int .u64 X.addr, .int .u64 X.data, .bool X.write, .int .i64 X.guest, .int .i64 X.irq] 79)
      rwa [show (w.alloc (.cells #[.pointer (some ⟨u, 0, none⟩), .pointer (some ⟨b, 0, none⟩), .pointer (some ⟨v.m, 0, none⟩), .pointer (some ⟨q, 0, none⟩)] 31)).heap.size = w.heap.size + 1 by simp] at this
  rw [hwa]
  clear hwa
  have HPa := hid (HP.out.below HBa.out)
  have HW0 : Hid (Kp base w F G wa F G) := Kp.below HBa.out HP.out.sz
  have nF0 : ¬ F w.heap.size := fun z => by have := hlt _ z; omega
  have nF1 : ¬ F (w.heap.size + 1) := fun z => by have := hlt _ z; omega
  have nG0 : ¬ G w.heap.size := fun z => by have := hlg _ z; omega
  have nG1 : ¬ G (w.heap.size + 1) := fun z => by have := hlg _ z; omega
  have HN := hid (And.intro nF0 (And.intro nF1 (And.intro nG0 nG1)))
  clear nF0 nF1 nG0 nG1 hlt hlg
  generalize w.heap.size + 1 = xb at *
  generalize hob : w.heap.size = ob at *
  go_at_call 16
  refine (c_Place X.kind 11 (by decide) (by decide) k0 k1 _).mono ?_
  rw [HK.out]
  rintro e wz ⟨rfl, hwz⟩
  obtain rfl := hwz.symm
  have tcu := HB0.out.cu
  have tcb := HB0.out.cb
  have tc1 := HB0.out.c1
  have tc3 := HB0.out.c3
  go_wp2_with (go_at_call 76; refine (s_InvalidatePage _ F u v n f room L HPa.out.us X.dev X.addr).mono ?_; rintro e w1 ⟨rfl, hu1, t1⟩; have HB1 := hid (HB0.out.only t1.1 HN.out.1 HN.out.2.1); have HW1 := hid (HW0.out.trans (HPa.out.kp t1)); have H1 := hid (HPa.out.prog hu1 t1); clear hu1 t1; clear tcu tcb tc1 tc3; have tcu := HB1.out.cu; have tcb := HB1.out.cb; have tc1 := HB1.out.c1; have tc3 := HB1.out.c3; obtain ⟨S, mv, vv, j1, -, -, -, -, -⟩ := H1.out.ds; have b15 := j1.c15; have b1 := j1.c1; have bz := j1.z 15; have hbl := j1.lt; have HR := hid j1; clear j1)
  refine wp_region_last_lit (by simp) (by kernel_rfl) (by kernel_rfl) (by kernel_rfl) ?_
  simp only [List.dropLast, List.getLast]
  repeat (go_big_quiet_step (fail))
  refine wpQuiet_nil ?_
  intro _ hwq
  obtain ⟨nq, hwq⟩ := hwq
  subst hwq
  obtain ⟨wb, hwb⟩ : ∃ wb, w1.drewN nq = wb := ⟨_, rfl⟩
  have HBb : Hid (Below w1.heap.size w1 wb) := hwb ▸ below_dn (Below.refl _ _) nq
  have H1b := hid (H1.out.below HBb.out)
  rw [hwb]
  clear hwb
  go_wp2_with (go_at_call 77; refine (d_FlushPage _ G base b q r v n f room L M H1b.out.ds X.dev X.addr).mono ?_; rintro e w2 ⟨rfl, G', hd2, t2⟩; have H2 := hid (H1b.out.doc hd2 t2 (E.Nd.fp HP.out.nd _ _) HP.out.ms); have HW2 := hid ((HW1.out.trans (Kp.below HBb.out H1.out.sz)).trans (H1b.out.kp t2)); clear hd2 t2)
  go_ret
  exact ⟨rfl, F, G', v, f, _, M, H2.out, HW2.out, by omega, rfl, rfl⟩
end Go.Proofs.YtmdconecigenfaaGreat
namespace Go.Proofs.YtmdconecigenfaaGreat
open Go.RowKit
open C (Only hid Mem Still ret_int ret_bool put byt nu RMem hasB)
set_option linter.unusedVariables false
set_option maxRecDepth 100000

/-- a: the program's call is done; c: the document's -/
structure JY (w : World) (base ob xb : Nat) (F G : Nat → Prop) (u b q r : Nat) (v : UV) (n : Nat) (f : Nat → Int) (room : Nat) (L : List E.TV) (M : List MV) (v' : UV) (f' : Nat → Int) (L' : List E.TV) (M' : List MV) (X : OpV) (a c : Bool) (wr : World) : Prop where
  bx : BX wr ob xb u b v.m q X
  p0 : a = false → c = false ∧ PW wr base F G u b q r v n f room L M ∧ Kp base w F G wr F G
  p1 : a = true → c = false → ∃ F', PH wr base F' G u b q r v n f room L M v' f' L' ∧ Kp base w F G wr F' G
  p2 : a = true → c = true → ∃ F' G', PW wr base F' G' u b q r v' n f' room L' M' ∧ Kp base w F G wr F' G'
section
variable {w wr w1 : World} {base ob xb : Nat} {F G F' G' : Nat → Prop} {u b q r : Nat} {v : UV} {n : Nat} {f : Nat → Int} {room : Nat} {L : List E.TV} {M : List MV} {v' : UV} {f' : Nat → Int} {L' : List E.TV} {M' : List MV} {X : OpV} {a c : Bool}
theorem DS.tr {w : World} (h : DS w G base b q r v n f room L M) : w.cell? ⟨b, 1, none⟩ = some (.pointer (some ⟨r, 0, none⟩)) := by obtain ⟨S, mv, vv, h1, -, -, -, -, -⟩ := h; exact h1.c1
theorem JY.tu (h : JY w base ob xb F G u b q r v n f room L M v' f' L' M' X a c wr) (et : v'.t = v.t) : wr.cell? ⟨u, 0, none⟩ = some (.pointer (some ⟨v.t, 0, none⟩)) := by
  cases a
  · exact (h.p0 rfl).2.1.us.iu.c0
  · cases c
    · obtain ⟨F', z, -⟩ := h.p1 rfl rfl; have := z.us.iu.c0; rwa [et] at this
    · obtain ⟨F', G', z, -⟩ := h.p2 rfl rfl; have := z.us.iu.c0; rwa [et] at this
theorem JY.tr (h : JY w base ob xb F G u b q r v n f room L M v' f' L' M' X a c wr) : wr.cell? ⟨b, 1, none⟩ = some (.pointer (some ⟨r, 0, none⟩)) := by
  cases a
  · exact (h.p0 rfl).2.1.ds.tr
  · cases c
    · obtain ⟨F', z, -⟩ := h.p1 rfl rfl; exact z.ds.tr
    · obtain ⟨F', G', z, -⟩ := h.p2 rfl rfl; exact z.ds.tr
theorem JY.stepA (h : JY w base ob xb F G u b q r v n f room L M v' f' L' M' X false false wr) (h1 : US w1 F' u v' n f' room L') (t : Tn wr F w1 F') (n0 : ¬ F ob) (n1 : ¬ F xb) : JY w base ob xb F G u b q r v n f room L M v' f' L' M' X true false w1 := by
  obtain ⟨-, z, y⟩ := h.p0 rfl
  exact ⟨h.bx.only t.1 n0 n1, (fun y => by cases y), fun _ _ => ⟨F', z.prog h1 t, y.trans (z.kp t)⟩, fun _ y => by cases y⟩
theorem JY.stepB (h : JY w base ob xb F G u b q r v n f room L M v' f' L' M' X true false wr) (z : PH wr base F' G u b q r v n f room L M v' f' L') (y : Kp base w F G wr F' G) (h1 : DS w1 G' base b q r v' n f' room L' M') (t : Td base wr G w1 G') (n0 : ¬ G ob) (n1 : ¬ G xb) (nd : E.Nd L') (ms : MR v' M') : JY w base ob xb F G u b q r v n f room L M v' f' L' M' X true true w1 :=
  ⟨h.bx.only t.1 n0 n1, (fun y => by cases y), (fun _ y => by cases y), fun _ _ => ⟨F', G', z.doc h1 t nd ms, y.trans (z.kp t)⟩⟩
theorem JY.begin (hb : BX wr ob xb u b v.m q X) (hl : Kp base w F G wr F G) (h : PW wr base F G u b q r v n f room L M) : JY w base ob xb F G u b q r v n f room L M v' f' L' M' X false false wr :=
  ⟨hb, fun _ => ⟨rfl, h, hl⟩, (fun y => by cases y), fun y => by cases y⟩
end
end Go.Proofs.YtmdconecigenfaaGreat
