/- EnginePlays: an engine behind an IOMMU does what the document's does. -/
import Derived.Test.YtmdconecigenfaaGreatZP
import Derived.Test.YtmdconecigenfaaGreatMK5
namespace Go.Proofs.YtmdconecigenfaaGreat
open Go.RowKit
open C (Only hid Mem Still ret_int ret_bool put byt nu hasB RMem TB Cl fcl c_Place c_Same)
set_option linter.unusedVariables false
set_option maxRecDepth 100000

def eU (dev : Int) (m u : Nat) : EV := ⟨dev, m, gU u, fun _ => 0⟩
theorem x_New (w : World) (dev : Int) (m u : Nat) (hd : isDev dev = true) : Calls Tryz.prog 7 #[.int .i64 dev, .pointer (some ⟨m, 0, none⟩), .pointer (some ⟨u, 0, none⟩)] w fun r w' => ∃ e, r = .returned (.tuple #[.pointer (some ⟨e, 0, none⟩), .int .i64 0]) ∧ w.heap.size ≤ e ∧ Eg w' e (eU dev m u) ∧ Below w.heap.size w w' := by
  obtain ⟨d0, d1⟩ := dev_cases hd
  go_enter Tryz.func7, Tryz.ntmps7
  go_wp2
  go_returns
  exact ⟨_, rfl, Nat.le_refl _, .inl (heap_alloc_new w _), (Below.refl _ _).alloc (Nat.le_refl _) _⟩
theorem x_New_bad (w : World) (dev : Int) (m u : Nat) (hd : isDev dev = false) : Calls Tryz.prog 7 #[.int .i64 dev, .pointer (some ⟨m, 0, none⟩), .pointer (some ⟨u, 0, none⟩)] w fun r w' => r = .returned (.tuple #[.pointer none, .int .i64 1]) ∧ w' = w := by
  have hd' : dev < 0 ∨ 8 ≤ dev := by simp [isDev] at hd; omega
  go_enter Tryz.func7, Tryz.ntmps7
  rcases hd' with h | h
  · go_wp2
    go_returns
    exact ⟨rfl, rfl⟩
  · have h0 : ¬ dev < 0 := by omega
    go_wp2
    go_returns
    exact ⟨rfl, rfl⟩
theorem y_New (w : World) (dev : Int) (q b : Nat) (hd : isDev dev = true) : Calls Tryz.prog 8 #[.int .i64 dev, .pointer (some ⟨q, 0, none⟩), .pointer (some ⟨b, 0, none⟩)] w fun r w' => ∃ y, r = .returned (.tuple #[.pointer (some ⟨y, 0, none⟩), .int .i64 0]) ∧ w.heap.size ≤ y ∧ Ye w' y ⟨dev, q, some ⟨b, 0, none⟩⟩ (fun _ => 0) 0 ∧ Below w.heap.size w w' := by
  obtain ⟨d0, d1⟩ := dev_cases hd
  go_enter Tryz.func8, Tryz.ntmps8
  go_wp2
  go_returns
  exact ⟨_, rfl, Nat.le_refl _, heap_alloc_new w _, (Below.refl _ _).alloc (Nat.le_refl _) _⟩
theorem y_New_bad (w : World) (dev : Int) (q b : Nat) (hd : isDev dev = false) : Calls Tryz.prog 8 #[.int .i64 dev, .pointer (some ⟨q, 0, none⟩), .pointer (some ⟨b, 0, none⟩)] w fun r w' => r = .returned (.tuple #[.pointer none, .int .i64 1]) ∧ w' = w := by
  have hd' : dev < 0 ∨ 8 ≤ dev := by simp [isDev] at hd; omega
  go_enter Tryz.func8, Tryz.ntmps8
  rcases hd' with h | h
  · go_wp2
    go_returns
    exact ⟨rfl, rfl⟩
  · have h0 : ¬ dev < 0 := by omega
    go_wp2
    go_returns
    exact ⟨rfl, rfl⟩
theorem layU {W w1 w2 w3 : World} {F G : Nat → Prop} {u b q l t m : Nat} {f : Nat → Int} (hp : PW w1 W.heap.size F G u b q l (v0 t m) 8 f 8 [] []) (hb : Below W.heap.size W w1) (dev : Int) (hd : isDev dev = true) (o : Obj) (ho : ∀ c, o ≠ .cells c 201 (0, 0)) (e y : Nat) (he : w1.heap.size < e) (f1 : Eg w2 e (eU dev m u)) (f2 : Below w1.heap.size w1 w2) (f5 : w2.heap[w1.heap.size]? = some o) (f3 : Ye w3 y ⟨dev, q, some ⟨b, 0, none⟩⟩ (fun _ => 0) 0) (hy : w2.heap.size ≤ y) (f4 : Below w2.heap.size w2 w3) :
    PX ⟨W, fun k x => k = w1.heap.size ∧ x = o, u, 8, 8, m, t, dev, b, q, l⟩ w3 e y (eU dev m u) (eU dev m u).r 0 F G 0 ⟨v0 t m, f, []⟩ ⟨v0 t m, f, []⟩ := by
  have z0 := hb.size
  have z1 := f2.size
  have b3 : Below w1.heap.size w1 w3 := f2.trans (f4.mono z1)
  have l2 := f1.lt
  have hp3 := hp.below b3
  refine ⟨f1.below f4, f3, ⟨hp3.us, rfl, rfl⟩, ⟨[], hp3.ds, hp3.nd, hp3.ms, Nat.le_refl _, (by decide : 0 < 8), (by decide : 0 ≤ 8)⟩, hd, by decide, rfl, rfl, rfl, e0_b 0, e0_b 0, fun h => absurd (show (0 : Int) = 1 from h) (by decide), fun h => absurd (show (0 : Int) = 1 from h) (by decide), hp.dj, by omega, fun z => ?_, fun z => ?_, hb.trans (b3.mono z0), fun k z => ?_, fun k x hk => ?_, fun k x hk z => ?_⟩
  · have := hp.ds.lt z; omega
  · have := hp.us.lt z; omega
  · show W.heap.size ≤ k
    rcases z with z | z | z | z
    · omega
    · omega
    · exact hp.bf k z
    · exact hp.bg k z
  · obtain ⟨rfl, rfl⟩ := hk
    exact ⟨(f4.block _ (lt_of_block f5)).trans f5, ho⟩
  · obtain ⟨rfl, rfl⟩ := hk
    rcases z with z | z | z | z
    · omega
    · omega
    · have := hp.us.lt z; omega
    · have := hp.ds.lt z; omega
abbrev kzE (W : World) (o : Nat) (O : Obj) (u m t : Nat) (dev : Int) (b q l : Nat) : Kz := ⟨W, fun k x => k = o ∧ x = O, u, 8, 8, m, t, dev, b, q, l⟩
section
variable {K : Kz} {w w' : World} {e y : Nat} {v : EV} {r : Nat → Int} {c : Int} {S T : Nat → Prop} {cm : Nat} {s s' : Us}
theorem PX.tu (H : PX K w e y v r c S T cm s s') : w.cell? ⟨K.u, 0, none⟩ = some (.pointer (some ⟨K.t, 0, none⟩)) := by have := H.us.1.iu.c0; rwa [H.us.2.2] at this
theorem DS.tr' {w : World} {G : Nat → Prop} {base b q r : Nat} {v : UV} {n : Nat} {f : Nat → Int} {room : Nat} {L : List E.TV} {M : List MV} (h : DS w G base b q r v n f room L M) : w.cell? ⟨b, 1, none⟩ = some (.pointer (some ⟨r, 0, none⟩)) ∧ r < w.heap.size ∧ ∃ lv, w.cell? ⟨r, 1, none⟩ = some lv ∧ E.Rd w lv L := by
  obtain ⟨S, mv, vv, h1, h2, h3, -⟩ := h
  exact ⟨h1.c1, h3.lt, vv, h3.c1, h3.es.rd⟩
theorem PX.tr (H : PX K w e y v r c S T cm s s') : w.cell? ⟨K.d, 1, none⟩ = some (.pointer (some ⟨K.l, 0, none⟩)) := by obtain ⟨M, h, -⟩ := H.ds; exact h.tr'.1
theorem PX.lst (H : PX K w e y v r c S T cm s s') : ∃ lv, w.cell? ⟨K.l, 1, none⟩ = some lv ∧ E.Rd w lv s'.L := by obtain ⟨M, h, -⟩ := H.ds; exact h.tr'.2.2
theorem PX.keep (H : PX K w e y v r c S T cm s s') (hb : Below w.heap.size w w') {x : Value} (h : w.cell? ⟨K.l, 1, none⟩ = some x) : w'.cell? ⟨K.l, 1, none⟩ = some x := by
  obtain ⟨M, h1, -⟩ := H.ds
  exact (World.cell?_of_block (w := w) (hb.block K.l h1.tr'.2.1)).trans h
end
/-- the last line under way: whether play is done (a), whether the entries are there (d) -/
structure JV (K : Kz) (e y : Nat) (v0 : EV) (F G : Nat → Prop) (s0 : Us) (lv ev : Value) (a d : Bool) (wr : World) : Prop where
  p0 : a = false → PX K wr e y v0 v0.r 0 F G 0 s0 s0
  p1 : a = true → ∃ v c S T cm s, PX K wr e y v v.r c S T cm s s ∧ wr.cell? ⟨K.l, 1, none⟩ = some lv ∧ E.Rd wr lv s.L ∧ (d = true → E.Rd wr ev s.L)
section
variable {K : Kz} {wr w' : World} {e y : Nat} {v0 : EV} {F G : Nat → Prop} {s0 : Us} {lv ev : Value} {a d : Bool}
theorem JV.px (h : JV K e y v0 F G s0 lv ev a d wr) : ∃ v r c S T cm s, PX K wr e y v r c S T cm s s := by
  cases a
  · exact ⟨_, _, _, _, _, _, _, h.p0 rfl⟩
  · obtain ⟨v, c, S, T, cm, s, z, -⟩ := h.p1 rfl
    exact ⟨_, _, _, _, _, _, _, z⟩
theorem JV.tu (h : JV K e y v0 F G s0 lv ev a d wr) : wr.cell? ⟨K.u, 0, none⟩ = some (.pointer (some ⟨K.t, 0, none⟩)) := by obtain ⟨_, _, _, _, _, _, _, z⟩ := h.px; exact z.tu
theorem JV.tr (h : JV K e y v0 F G s0 lv ev a d wr) : wr.cell? ⟨K.d, 1, none⟩ = some (.pointer (some ⟨K.l, 0, none⟩)) := by obtain ⟨_, _, _, _, _, _, _, z⟩ := h.px; exact z.tr
theorem JV.bw (h : JV K e y v0 F G s0 lv ev a d wr) : Below K.W.heap.size K.W wr := by obtain ⟨_, _, _, _, _, _, _, z⟩ := h.px; exact z.new
theorem JV.list (h : JV K e y v0 F G s0 lv ev true d wr) : wr.cell? ⟨K.l, 1, none⟩ = some lv := by obtain ⟨v, c, S, T, cm, s, -, z, -⟩ := h.p1 rfl; exact z
theorem JV.below (h : JV K e y v0 F G s0 lv ev a d wr) (hb : Below wr.heap.size wr w') : JV K e y v0 F G s0 lv ev a d w' := by
  refine ⟨fun z => (h.p0 z).below hb, fun z => ?_⟩
  obtain ⟨v, c, S, T, cm, s, z1, z2, z3, z4⟩ := h.p1 z
  exact ⟨v, c, S, T, cm, s, z1.below hb, z1.keep hb z2, z3.below hb, fun x => (z4 x).below hb⟩
theorem JV.on {W : World} {o : Nat} {O : Obj} {u m t : Nat} {dev : Int} {b q l : Nat} (h : JV (kzE W o O u m t dev b q l) e y v0 F G s0 lv ev a d wr) : wr.heap[o]? = some O := by obtain ⟨_, _, _, _, _, _, _, z⟩ := h.px; exact (z.kb o O ⟨rfl, rfl⟩).1
end
set_option maxHeartbeats 4000000 in
theorem w_EnginePlays (W : World) (dev : Int) (x0 : -9223372036854775808 ≤ dev) (x1 : dev ≤ 9223372036854775807) (ad : Option Addr) (la cap ab ao : Nat) (X : Nat → Int × Int) (hX : Cl W ad la cap ab ao X) (bd : Option Addr) (lb cbp bb bo : Nat) (Y : Nat → EOpV) (hY : Ec W bd lb cbp bb bo Y) (hlb : lb ≤ 2199023255552) :
    Calls Tryz.prog 3 #[.int .i64 dev, .slice ad la cap, .slice bd lb cbp] W fun e w' => e = .returned (.bool true) ∧ Below W.heap.size W w' := by
  have HX := hid hX
  have HY := hid hY
  clear hX hY
  go_enter Tryz.func3, Tryz.ntmps3
  go_wp2_with ((go_at_call 6; refine (l_New7 _ 8 (by decide) (by decide) ad la cap ab ao X HX.out).mono ?_; rintro e w1 ⟨u, t, m, b, q, r, F, G, rfl, hp, hb⟩; have HP1 := hid hp; have HB1 := hid hb; clear hp hb))
  go_at_call 7
  obtain ⟨wc, hwc⟩ : ∃ wc, w1.alloc (.cells #[.pointer (some ⟨u, 0, none⟩), .pointer (some ⟨b, 0, none⟩), .pointer (some ⟨m, 0, none⟩), .pointer (some ⟨q, 0, none⟩)] 31) = wc := ⟨_, rfl⟩
  have hbc : Below w1.heap.size w1 wc := hwc ▸ (Below.refl _ _).alloc (Nat.le_refl _) _
  have ho : wc.heap[w1.heap.size]? = some (.cells #[.pointer (some ⟨u, 0, none⟩), .pointer (some ⟨b, 0, none⟩), .pointer (some ⟨m, 0, none⟩), .pointer (some ⟨q, 0, none⟩)] 31 (0, 0)) := hwc ▸ heap_alloc_new w1 _
  rw [hwc]
  clear hwc
  cases hd : isDev dev
  · refine (x_New_bad _ dev m u hd).mono ?_
    rintro e2 w2 ⟨rfl, hw⟩
    obtain rfl := hw.symm
    have c0 : wc.cell? ⟨w1.heap.size, 0, none⟩ = some (.pointer (some ⟨u, 0, none⟩)) := cell_of_row wc _ 0 _ _ _ ho
    have c1 : wc.cell? ⟨w1.heap.size, 1, none⟩ = some (.pointer (some ⟨b, 0, none⟩)) := cell_of_row wc _ 1 _ _ _ ho
    have c2 : wc.cell? ⟨w1.heap.size, 2, none⟩ = some (.pointer (some ⟨m, 0, none⟩)) := cell_of_row wc _ 2 _ _ _ ho
    have c3 : wc.cell? ⟨w1.heap.size, 3, none⟩ = some (.pointer (some ⟨q, 0, none⟩)) := cell_of_row wc _ 3 _ _ _ ho
    have HB := hid (HB1.out.trans (hbc.mono HB1.out.size))
    clear ho hbc
    go_wp2_with (first
      | (go_at_call 8; refine (y_New_bad _ dev q b hd).mono ?_; rintro e3 w3 ⟨rfl, hw⟩; obtain rfl := hw.symm)
      | (go_at_call 9; refine (l_awake8 _).mono ?_; rintro e4 w4 ⟨rfl, h4⟩; have H4 := hid h4; clear h4))
    go_ret
    exact ⟨rfl, HB.out.trans (H4.out.mono HB.out.size)⟩
  · refine (x_New _ dev m u hd).mono ?_
    rintro e2 w2 ⟨e, rfl, he, f1, f2⟩
    have hb2 := hbc.trans (f2.mono hbc.size)
    have ho2 := (f2.block _ (lt_of_block ho)).trans ho
    have hle : w1.heap.size < e := Nat.lt_of_lt_of_le (lt_of_block ho) he
    have c0 : w2.cell? ⟨w1.heap.size, 0, none⟩ = some (.pointer (some ⟨u, 0, none⟩)) := cell_of_row w2 _ 0 _ _ _ ho2
    have c1 : w2.cell? ⟨w1.heap.size, 1, none⟩ = some (.pointer (some ⟨b, 0, none⟩)) := cell_of_row w2 _ 1 _ _ _ ho2
    have c2 : w2.cell? ⟨w1.heap.size, 2, none⟩ = some (.pointer (some ⟨m, 0, none⟩)) := cell_of_row w2 _ 2 _ _ _ ho2
    have c3 : w2.cell? ⟨w1.heap.size, 3, none⟩ = some (.pointer (some ⟨q, 0, none⟩)) := cell_of_row w2 _ 3 _ _ _ ho2
    have F1 := hid f1
    have B2 := hid hb2
    have O2 := hid ho2
    clear ho hbc f1 f2 hb2 ho2 he
    go_wp2_with (first
      | (go_at_call 8; refine (y_New _ dev q b hd).mono ?_; rintro e3 w3 ⟨y, rfl, hy, f3, f4⟩; have F3 := hid f3; have F4 := hid f4; have c0 : w3.cell? ⟨w1.heap.size, 0, none⟩ = some (.pointer (some ⟨u, 0, none⟩)) := cell_of_row w3 _ 0 _ _ _ ((f4.block _ (lt_of_block O2.out)).trans O2.out); have c1 : w3.cell? ⟨w1.heap.size, 1, none⟩ = some (.pointer (some ⟨b, 0, none⟩)) := cell_of_row w3 _ 1 _ _ _ ((f4.block _ (lt_of_block O2.out)).trans O2.out); have c2 : w3.cell? ⟨w1.heap.size, 2, none⟩ = some (.pointer (some ⟨m, 0, none⟩)) := cell_of_row w3 _ 2 _ _ _ ((f4.block _ (lt_of_block O2.out)).trans O2.out); have c3 : w3.cell? ⟨w1.heap.size, 3, none⟩ = some (.pointer (some ⟨q, 0, none⟩)) := cell_of_row w3 _ 3 _ _ _ ((f4.block _ (lt_of_block O2.out)).trans O2.out); clear f3 f4))
    have hz := layU HP1.out HB1.out dev hd _ (fun c z => by cases z) e y hle F1.out B2.out O2.out F3.out hy F4.out
    have HZ := hid hz
    clear hz F1 B2 O2 F3 F4 HP1 HB1
    clear c0 c1 c2 c3
    refine wp_region_any (by kernel_rfl) ?_
    refine C.wpAny_inv (fun listed fr wr => ∃ (b0 b1 b2 b3 b4 b5 b6 b7 b8 b9 b10 b11 b12 b13 b14 b15 b16 b17 b18 b19 b20 b21 b22 b23 b24 b25 b26 b27 b28 b29 b30 : Bool) (lv : Value) (ev : Value), listed = #[b0, b1, b2, b3, b4, b5, b6, b7, b8, b9, b10, b11, b12, b13, b14, b15, b16, b17, b18, b19, b20, b21, b22, b23, b24, b25, b26, b27, b28, b29, b30] ∧ fr = { tmps := #[.int .i64 dev, .slice ad la cap, .slice bd lb cbp, undef, undef, undef, C.svd b30 (.bool true) (.bool false), .pointer (some ⟨w1.heap.size, 0, none⟩), .bool true, .pointer (some ⟨e, 0, none⟩), .int .i64 0, .pointer (some ⟨y, 0, none⟩), .int .i64 0, .tuple #[.agg #[.pointer (some ⟨u, 0, none⟩), .pointer (some ⟨b, 0, none⟩), .pointer (some ⟨m, 0, none⟩), .pointer (some ⟨q, 0, none⟩)], .bool true], .slice ad la cap, .tuple #[.agg #[.pointer (some ⟨u, 0, none⟩), .pointer (some ⟨b, 0, none⟩), .pointer (some ⟨m, 0, none⟩), .pointer (some ⟨q, 0, none⟩)], .bool true], .agg #[.pointer (some ⟨u, 0, none⟩), .pointer (some ⟨b, 0, none⟩), .pointer (some ⟨m, 0, none⟩), .pointer (some ⟨q, 0, none⟩)], .bool true, .bool true, .bool false, .bool false, .pointer (some ⟨w1.heap.size, 0, none⟩), .pointer (some ⟨u, 0, none⟩), .bool false, .bool false, .tuple #[.pointer (some ⟨e, 0, none⟩), .int .i64 0], .int .i64 dev, .pointer (some ⟨w1.heap.size, 2, none⟩), .pointer (some ⟨w1.heap.size, 2, none⟩), .pointer (some ⟨m, 0, none⟩), .pointer (some ⟨w1.heap.size, 0, none⟩), .pointer (some ⟨u, 0, none⟩), .tuple #[.pointer (some ⟨e, 0, none⟩), .int .i64 0], .pointer (some ⟨e, 0, none⟩), .int .i64 0, .tuple #[.pointer (some ⟨y, 0, none⟩), .int .i64 0], .int .i64 dev, .pointer (some ⟨w1.heap.size, 2, none⟩), .pointer (some ⟨w1.heap.size, 3, none⟩), .pointer (some ⟨q, 0, none⟩), .pointer (some ⟨w1.heap.size, 1, none⟩), .pointer (some ⟨b, 0, none⟩), .tuple #[.pointer (some ⟨y, 0, none⟩), .int .i64 0], .pointer (some ⟨y, 0, none⟩), .int .i64 0, .int .i64 0, .int .i64 0, .bool false, .bool false, .pointer (some ⟨e, 0, none⟩), .bool true, .int .i64 0, .bool true, .bool false, .bool false, .int .i64 0, .bool false, undef, C.svd b0 (.pointer (some ⟨e, 0, none⟩)) (undef), C.svd b1 (.pointer (some ⟨y, 0, none⟩)) (undef), C.svd b2 (.agg #[.pointer (some ⟨u, 0, none⟩), .pointer (some ⟨b, 0, none⟩), .pointer (some ⟨m, 0, none⟩), .pointer (some ⟨q, 0, none⟩)]) (undef), C.svd b3 (.slice bd lb cbp) (undef), C.svd b4 (.bool true) (undef), C.svd b5 (.bool true) (undef), C.svd b6 (.pointer (some ⟨w1.heap.size, 2, none⟩)) (undef), C.svd b7 (.agg #[.pointer (some ⟨m, 0, none⟩), .pointer (some ⟨q, 0, none⟩)]) (undef), C.svd b8 (.bool true) (undef), C.svd b9 (.bool true) (undef), C.svd b10 (.bool true) (undef), C.svd b11 (.pointer (some ⟨w1.heap.size, 0, none⟩)) (undef), C.svd b12 (.pointer (some ⟨u, 0, none⟩)) (undef), C.svd b13 (.pointer (some ⟨u, 0, none⟩)) (undef), C.svd b14 (.pointer (some ⟨u, 0, none⟩)) (undef), C.svd b15 (.pointer (some ⟨t, 0, none⟩)) (undef), C.svd b16 (ev) (undef), C.svd b17 (.pointer (some ⟨w1.heap.size, 1, none⟩)) (undef), C.svd b18 (.pointer (some ⟨b, 0, none⟩)) (undef), C.svd b19 (.pointer (some ⟨b, 0, none⟩)) (undef), C.svd b20 (.pointer (some ⟨b, 1, none⟩)) (undef), C.svd b21 (.pointer (some ⟨r, 0, none⟩)) (undef), C.svd b22 (.pointer (some ⟨r, 0, none⟩)) (undef), C.svd b23 (.pointer (some ⟨r, 1, none⟩)) (undef), C.svd b24 (lv) (undef), C.svd b25 (.bool true) (undef), C.svd b26 (.bool true) (undef), C.svd b27 (.bool true) (undef), C.svd b28 (.bool true) (undef), C.svd b29 (.bool true) (undef)], defers := [] } ∧ JV (kzE W w1.heap.size (.cells #[.pointer (some ⟨u, 0, none⟩), .pointer (some ⟨b, 0, none⟩), .pointer (some ⟨m, 0, none⟩), .pointer (some ⟨q, 0, none⟩)] 31 (0, 0)) u m t dev b q r) e y (eU dev m u) F G ⟨v0 t m, fcl 8 X la, []⟩ lv ev b4 b16 wr ∧ ((b5 || b6 || b7 || b8 || b9 || b10 || b11 || b12 || b13 || b14 || b15 || b16 || b17 || b18 || b19 || b20 || b21 || b22 || b23 || b24 || b25 || b26 || b27 || b28 || b29 || b30) = true → b4 = true)) ?step ?fin _ _ _ _ (by simp) ?start
    case start => exact ⟨false, false, false, false, false, false, false, false, false, false, false, false, false, false, false, false, false, false, false, false, false, false, false, false, false, false, false, false, false, false, false, .bool false, .bool false, rfl, rfl, ⟨fun _ => HZ.out.below (Below.refl _ _).drew, fun h => by cases h⟩, fun h => by simp at h⟩
    case fin =>
      rintro listed fr wr ⟨b0, b1, b2, b3, b4, b5, b6, b7, b8, b9, b10, b11, b12, b13, b14, b15, b16, b17, b18, b19, b20, b21, b22, b23, b24, b25, b26, b27, b28, b29, b30, lv, ev, rfl, rfl, hR⟩ hr
      obtain rfl : b0 = true := by
        cases b0 with
        | true => rfl
        | false => exact (C.ready_no hr (j := 0) rfl rfl (by kernel_rfl)).elim
      obtain rfl : b1 = true := by
        cases b1 with
        | true => rfl
        | false => exact (C.ready_no hr (j := 1) rfl rfl (by kernel_rfl)).elim
      obtain rfl : b2 = true := by
        cases b2 with
        | true => rfl
        | false => exact (C.ready_no hr (j := 2) rfl rfl (by kernel_rfl)).elim
      obtain rfl : b3 = true := by
        cases b3 with
        | true => rfl
        | false => exact (C.ready_no hr (j := 3) rfl rfl (by kernel_rfl)).elim
      obtain rfl : b4 = true := by
        cases b4 with
        | true => rfl
        | false => exact (C.ready_no hr (j := 4) rfl rfl (by kernel_rfl)).elim
      obtain rfl : b5 = true := by
        cases b5 with
        | true => rfl
        | false => exact (C.ready_no hr (j := 5) rfl rfl (by kernel_rfl)).elim
      obtain rfl : b6 = true := by
        cases b6 with
        | true => rfl
        | false => exact (C.ready_no hr (j := 6) rfl rfl (by kernel_rfl)).elim
      obtain rfl : b7 = true := by
        cases b7 with
        | true => rfl
        | false => exact (C.ready_no hr (j := 7) rfl rfl (by kernel_rfl)).elim
      obtain rfl : b8 = true := by
        cases b8 with
        | true => rfl
        | false => exact (C.ready_no hr (j := 8) rfl rfl (by kernel_rfl)).elim
      obtain rfl : b9 = true := by
        cases b9 with
        | true => rfl
        | false => exact (C.ready_no hr (j := 9) rfl rfl (by kernel_rfl)).elim
      obtain rfl : b10 = true := by
        cases b10 with
        | true => rfl
        | false => exact (C.ready_no hr (j := 10) rfl rfl (by kernel_rfl)).elim
      obtain rfl : b11 = true := by
        cases b11 with
        | true => rfl
        | false => exact (C.ready_no hr (j := 11) rfl rfl (by kernel_rfl)).elim
      obtain rfl : b12 = true := by
        cases b12 with
        | true => rfl
        | false => exact (C.ready_no hr (j := 12) rfl rfl (by kernel_rfl)).elim
      obtain rfl : b13 = true := by
        cases b13 with
        | true => rfl
        | false => exact (C.ready_no hr (j := 13) rfl rfl (by kernel_rfl)).elim
      obtain rfl : b14 = true := by
        cases b14 with
        | true => rfl
        | false => exact (C.ready_no hr (j := 14) rfl rfl (by kernel_rfl)).elim
      obtain rfl : b15 = true := by
        cases b15 with
        | true => rfl
        | false => exact (C.ready_no hr (j := 15) rfl rfl (by kernel_rfl)).elim
      obtain rfl : b16 = true := by
        cases b16 with
        | true => rfl
        | false => exact (C.ready_no hr (j := 16) rfl rfl (by kernel_rfl)).elim
      obtain rfl : b17 = true := by
        cases b17 with
        | true => rfl
        | false => exact (C.ready_no hr (j := 17) rfl rfl (by kernel_rfl)).elim
      obtain rfl : b18 = true := by
        cases b18 with
        | true => rfl
        | false => exact (C.ready_no hr (j := 18) rfl rfl (by kernel_rfl)).elim
      obtain rfl : b19 = true := by
        cases b19 with
        | true => rfl
        | false => exact (C.ready_no hr (j := 19) rfl rfl (by kernel_rfl)).elim
      obtain rfl : b20 = true := by
        cases b20 with
        | true => rfl
        | false => exact (C.ready_no hr (j := 20) rfl rfl (by kernel_rfl)).elim
      obtain rfl : b21 = true := by
        cases b21 with
        | true => rfl
        | false => exact (C.ready_no hr (j := 21) rfl rfl (by kernel_rfl)).elim
      obtain rfl : b22 = true := by
        cases b22 with
        | true => rfl
        | false => exact (C.ready_no hr (j := 22) rfl rfl (by kernel_rfl)).elim
      obtain rfl : b23 = true := by
        cases b23 with
        | true => rfl
        | false => exact (C.ready_no hr (j := 23) rfl rfl (by kernel_rfl)).elim
      obtain rfl : b24 = true := by
        cases b24 with
        | true => rfl
        | false => exact (C.ready_no hr (j := 24) rfl rfl (by kernel_rfl)).elim
      obtain rfl : b25 = true := by
        cases b25 with
        | true => rfl
        | false => exact (C.ready_no hr (j := 25) rfl rfl (by kernel_rfl)).elim
      obtain rfl : b26 = true := by
        cases b26 with
        | true => rfl
        | false => exact (C.ready_no hr (j := 26) rfl rfl (by kernel_rfl)).elim
      obtain rfl : b27 = true := by
        cases b27 with
        | true => rfl
        | false => exact (C.ready_no hr (j := 27) rfl rfl (by kernel_rfl)).elim
      obtain rfl : b28 = true := by
        cases b28 with
        | true => rfl
        | false => exact (C.ready_no hr (j := 28) rfl rfl (by kernel_rfl)).elim
      obtain rfl : b29 = true := by
        cases b29 with
        | true => rfl
        | false => exact (C.ready_no hr (j := 29) rfl rfl (by kernel_rfl)).elim
      obtain rfl : b30 = true := by
        cases b30 with
        | true => rfl
        | false => exact (C.ready_no hr (j := 30) rfl rfl (by kernel_rfl)).elim
      clear hr
      simp only [C.svd]
      obtain ⟨hJ, -⟩ := hR
      have HN := hid hJ.bw
      clear hJ
      go_wp2
      go_ret
      exact ⟨rfl, HN.out⟩
    case step =>
      rintro listed fr wr ⟨b0, b1, b2, b3, b4, b5, b6, b7, b8, b9, b10, b11, b12, b13, b14, b15, b16, b17, b18, b19, b20, b21, b22, b23, b24, b25, b26, b27, b28, b29, b30, lv, ev, rfl, rfl, hR⟩ j hj
      obtain ⟨hl, o, ho, he⟩ := mem_ready.1 hj
      clear hj
      obtain ⟨hJ, hN⟩ := hR
      have hon := hJ.on
      have c0 : wr.cell? ⟨w1.heap.size, 0, none⟩ = some (.pointer (some ⟨u, 0, none⟩)) := cell_of_row wr _ 0 _ _ _ hon
      have c1 : wr.cell? ⟨w1.heap.size, 1, none⟩ = some (.pointer (some ⟨b, 0, none⟩)) := cell_of_row wr _ 1 _ _ _ hon
      have c2 : wr.cell? ⟨w1.heap.size, 2, none⟩ = some (.pointer (some ⟨m, 0, none⟩)) := cell_of_row wr _ 2 _ _ _ hon
      have c3 : wr.cell? ⟨w1.heap.size, 3, none⟩ = some (.pointer (some ⟨q, 0, none⟩)) := cell_of_row wr _ 3 _ _ _ hon
      have tu : wr.cell? ⟨u, 0, none⟩ = some (.pointer (some ⟨t, 0, none⟩)) := hJ.tu
      have tr : wr.cell? ⟨b, 1, none⟩ = some (.pointer (some ⟨r, 0, none⟩)) := hJ.tr
      have HH := hid (And.intro hJ hN)
      clear hJ hN hon
      have hsv : ∀ v u, C.svd true v u = v := fun _ _ => rfl
      match j, ho, hl, he with
      | 0, ho, hl, he =>
        obtain rfl := Option.some.inj ho
        simp [Region.binds] at hl he
        clear ho
        have hL := hl
        clear hl he
        subst hL
        refine wpOp_step rfl (fun K hK => ?_)
        go_simp
        refine hK _ _ ⟨true, _, _, _, _, _, _, _, _, _, _, _, _, _, _, _, _, _, _, _, _, _, _, _, _, _, _, _, _, _, _, lv, ev, rfl, ?_, HH.out.1, (by first | exact HH.out.2 | exact fun _ => rfl)⟩
        first | rfl | simp [C.svd]
      | 1, ho, hl, he =>
        obtain rfl := Option.some.inj ho
        simp [Region.binds] at hl he
        clear ho
        have hL := hl
        clear hl he
        subst hL
        refine wpOp_step rfl (fun K hK => ?_)
        go_simp
        refine hK _ _ ⟨_, true, _, _, _, _, _, _, _, _, _, _, _, _, _, _, _, _, _, _, _, _, _, _, _, _, _, _, _, _, _, lv, ev, rfl, ?_, HH.out.1, (by first | exact HH.out.2 | exact fun _ => rfl)⟩
        first | rfl | simp [C.svd]
      | 2, ho, hl, he =>
        obtain rfl := Option.some.inj ho
        simp [Region.binds] at hl he
        clear ho
        have hL := hl
        clear hl he
        subst hL
        refine wpOp_step rfl (fun K hK => ?_)
        go_simp
        refine hK _ _ ⟨_, _, true, _, _, _, _, _, _, _, _, _, _, _, _, _, _, _, _, _, _, _, _, _, _, _, _, _, _, _, _, lv, ev, rfl, ?_, HH.out.1, (by first | exact HH.out.2 | exact fun _ => rfl)⟩
        first | rfl | simp [C.svd]
      | 3, ho, hl, he =>
        obtain rfl := Option.some.inj ho
        simp [Region.binds] at hl he
        clear ho
        have hL := hl
        clear hl he
        subst hL
        refine wpOp_step rfl (fun K hK => ?_)
        go_simp
        refine hK _ _ ⟨_, _, _, true, _, _, _, _, _, _, _, _, _, _, _, _, _, _, _, _, _, _, _, _, _, _, _, _, _, _, _, lv, ev, rfl, ?_, HH.out.1, (by first | exact HH.out.2 | exact fun _ => rfl)⟩
        first | rfl | simp [C.svd]
      | 4, ho, hl, he =>
        obtain rfl := Option.some.inj ho
        simp [Region.binds] at hl he
        clear ho
        have hL := hl
        (try (have e0 : b0 = true := (by revert he; cases b0 <;> simp)))
        (try (have e1 : b1 = true := (by revert he; cases b1 <;> simp)))
        (try (have e2 : b2 = true := (by revert he; cases b2 <;> simp)))
        (try (have e3 : b3 = true := (by revert he; cases b3 <;> simp)))
        clear hl he
        (try subst e0)
        (try subst e1)
        (try subst e2)
        (try subst e3)
        subst hL
        refine wpOp_step rfl (fun K hK => ?_)
        go_simp
        have hz : (b5 || b6 || b7 || b8 || b9 || b10 || b11 || b12 || b13 || b14 || b15 || b16 || b17 || b18 || b19 || b20 || b21 || b22 || b23 || b24 || b25 || b26 || b27 || b28 || b29 || b30) = false := by
          cases hh : (b5 || b6 || b7 || b8 || b9 || b10 || b11 || b12 || b13 || b14 || b15 || b16 || b17 || b18 || b19 || b20 || b21 || b22 || b23 || b24 || b25 || b26 || b27 || b28 || b29 || b30)
          · rfl
          · exact absurd (HH.out.2 hh) (by decide)
        simp only [Bool.or_eq_false_iff] at hz
        obtain ⟨⟨⟨⟨⟨⟨⟨⟨⟨⟨⟨⟨⟨⟨⟨⟨⟨⟨⟨⟨⟨⟨⟨⟨⟨rfl, rfl⟩, rfl⟩, rfl⟩, rfl⟩, rfl⟩, rfl⟩, rfl⟩, rfl⟩, rfl⟩, rfl⟩, rfl⟩, rfl⟩, rfl⟩, rfl⟩, rfl⟩, rfl⟩, rfl⟩, rfl⟩, rfl⟩, rfl⟩, rfl⟩, rfl⟩, rfl⟩, rfl⟩, rfl⟩ := hz
        refine (l_playU (kzE W w1.heap.size (.cells #[.pointer (some ⟨u, 0, none⟩), .pointer (some ⟨b, 0, none⟩), .pointer (some ⟨m, 0, none⟩), .pointer (some ⟨q, 0, none⟩)] 31 (0, 0)) u m t dev b q r) wr e y (eU dev m u) 0 F G 0 ⟨v0 t m, fcl 8 X la, []⟩ (HH.out.1.p0 rfl) bd lb cbp bb bo Y HY.out (by omega)).mono ?_
        rintro e1 w4 ⟨rfl, v', c', S', T', cm', s', h4⟩
        obtain ⟨lv', hlv, hrd⟩ := h4.lst
        refine hK _ _ ⟨_, _, _, _, true, _, _, _, _, _, _, _, _, _, _, _, _, _, _, _, _, _, _, _, _, _, _, _, _, _, _, lv', ev, rfl, ?_, ⟨(fun y => by cases y), fun _ => ⟨v', c', S', T', cm', s', h4, hlv, hrd, fun y => by cases y⟩⟩, fun _ => rfl⟩
        first | rfl | simp [C.svd]
      | 5, ho, hl, he =>
        obtain rfl := Option.some.inj ho
        simp [Region.binds] at hl he
        clear ho
        have hL := hl
        (try (have e4 : b4 = true := (by revert he; cases b4 <;> simp)))
        clear hl he
        (try subst e4)
        subst hL
        refine wpOp_step rfl (fun K hK => ?_)
        go_simp
        refine hK _ _ ⟨_, _, _, _, _, true, _, _, _, _, _, _, _, _, _, _, _, _, _, _, _, _, _, _, _, _, _, _, _, _, _, lv, ev, rfl, ?_, HH.out.1, (by first | exact HH.out.2 | exact fun _ => rfl)⟩
        first | rfl | simp [C.svd]
      | 6, ho, hl, he =>
        obtain rfl := Option.some.inj ho
        simp [Region.binds] at hl he
        clear ho
        have hL := hl
        (try (have e5 : b5 = true := (by revert he; cases b5 <;> simp)))
        clear hl he
        (try subst e5)
        subst hL
        have h4 := HH.out.2 (by simp)
        (try subst h4)
        refine wpOp_step rfl (fun K hK => ?_)
        go_simp
        refine hK _ _ ⟨_, _, _, _, _, _, true, _, _, _, _, _, _, _, _, _, _, _, _, _, _, _, _, _, _, _, _, _, _, _, _, lv, ev, rfl, ?_, HH.out.1, (by first | exact HH.out.2 | exact fun _ => rfl)⟩
        first | rfl | simp [C.svd]
      | 7, ho, hl, he =>
        obtain rfl := Option.some.inj ho
        simp [Region.binds] at hl he
        clear ho
        have hL := hl
        (try (have e5 : b5 = true := (by revert he; cases b5 <;> simp)))
        (try (have e6 : b6 = true := (by revert he; cases b6 <;> simp)))
        clear hl he
        (try subst e5)
        (try subst e6)
        subst hL
        have h4 := HH.out.2 (by simp)
        (try subst h4)
        refine wpOp_step rfl (fun K hK => ?_)
        go_simp
        refine hK _ _ ⟨_, _, _, _, _, _, _, true, _, _, _, _, _, _, _, _, _, _, _, _, _, _, _, _, _, _, _, _, _, _, _, lv, ev, rfl, ?_, HH.out.1, (by first | exact HH.out.2 | exact fun _ => rfl)⟩
        first | rfl | simp [C.svd]
      | 8, ho, hl, he =>
        obtain rfl := Option.some.inj ho
        simp [Region.binds] at hl he
        clear ho
        have hL := hl
        (try (have e5 : b5 = true := (by revert he; cases b5 <;> simp)))
        (try (have e7 : b7 = true := (by revert he; cases b7 <;> simp)))
        clear hl he
        (try subst e5)
        (try subst e7)
        subst hL
        have h4 := HH.out.2 (by simp)
        (try subst h4)
        refine wpOp_step rfl (fun K hK => ?_)
        go_simp
        obtain ⟨v', c', S', T', cm', s', z1, z2, z3, z4⟩ := HH.out.1.p1 rfl
        obtain ⟨S2, i2⟩ := us_mem z1.us.1
        obtain ⟨M2, i3, -⟩ := z1.ds
        obtain ⟨S3, i4⟩ := ds_mem _ _ _ _ _ _ _ _ _ _ _ _ i3
        rw [z1.us.2.1] at i2
        refine (C.c_Same wr S2 S3 m q 0 8 s'.f i2 i4).mono ?_
        rintro e1 w4 ⟨rfl, hb⟩
        refine hK _ _ ⟨_, _, _, _, _, _, _, _, true, _, _, _, _, _, _, _, _, _, _, _, _, _, _, _, _, _, _, _, _, _, _, lv, ev, rfl, ?_, HH.out.1.below hb, fun _ => rfl⟩
        first | rfl | simp [C.svd]
      | 9, ho, hl, he =>
        obtain rfl := Option.some.inj ho
        simp [Region.binds] at hl he
        clear ho
        have hL := hl
        (try (have e5 : b5 = true := (by revert he; cases b5 <;> simp)))
        (try (have e8 : b8 = true := (by revert he; cases b8 <;> simp)))
        clear hl he
        (try subst e5)
        (try subst e8)
        subst hL
        have h4 := HH.out.2 (by simp)
        (try subst h4)
        refine wpOp_step rfl (fun K hK => ?_)
        go_simp
        refine hK _ _ ⟨_, _, _, _, _, _, _, _, _, true, _, _, _, _, _, _, _, _, _, _, _, _, _, _, _, _, _, _, _, _, _, lv, ev, rfl, ?_, HH.out.1, (by first | exact HH.out.2 | exact fun _ => rfl)⟩
        first | rfl | simp [C.svd]
      | 10, ho, hl, he =>
        obtain rfl := Option.some.inj ho
        simp [Region.binds] at hl he
        clear ho
        have hL := hl
        (try (have e8 : b8 = true := (by revert he; cases b8 <;> simp)))
        (try (have e9 : b9 = true := (by revert he; cases b9 <;> simp)))
        clear hl he
        (try subst e8)
        (try subst e9)
        subst hL
        have h4 := HH.out.2 (by simp)
        (try subst h4)
        refine wpOp_step rfl (fun K hK => ?_)
        go_simp
        refine hK _ _ ⟨_, _, _, _, _, _, _, _, _, _, true, _, _, _, _, _, _, _, _, _, _, _, _, _, _, _, _, _, _, _, _, lv, ev, rfl, ?_, HH.out.1, (by first | exact HH.out.2 | exact fun _ => rfl)⟩
        first | rfl | simp [C.svd]
      | 11, ho, hl, he =>
        obtain rfl := Option.some.inj ho
        simp [Region.binds] at hl he
        clear ho
        have hL := hl
        (try (have e10 : b10 = true := (by revert he; cases b10 <;> simp)))
        clear hl he
        (try subst e10)
        subst hL
        have h4 := HH.out.2 (by simp)
        (try subst h4)
        refine wpOp_step rfl (fun K hK => ?_)
        go_simp
        refine hK _ _ ⟨_, _, _, _, _, _, _, _, _, _, _, true, _, _, _, _, _, _, _, _, _, _, _, _, _, _, _, _, _, _, _, lv, ev, rfl, ?_, HH.out.1, (by first | exact HH.out.2 | exact fun _ => rfl)⟩
        first | rfl | simp [C.svd]
      | 12, ho, hl, he =>
        obtain rfl := Option.some.inj ho
        simp [Region.binds] at hl he
        clear ho
        have hL := hl
        (try (have e10 : b10 = true := (by revert he; cases b10 <;> simp)))
        (try (have e11 : b11 = true := (by revert he; cases b11 <;> simp)))
        clear hl he
        (try subst e10)
        (try subst e11)
        subst hL
        have h4 := HH.out.2 (by simp)
        (try subst h4)
        refine wpOp_step rfl (fun K hK => ?_)
        go_simp
        refine hK _ _ ⟨_, _, _, _, _, _, _, _, _, _, _, _, true, _, _, _, _, _, _, _, _, _, _, _, _, _, _, _, _, _, _, lv, ev, rfl, ?_, HH.out.1, (by first | exact HH.out.2 | exact fun _ => rfl)⟩
        first | rfl | simp [C.svd]
      | 13, ho, hl, he =>
        obtain rfl := Option.some.inj ho
        simp [Region.binds] at hl he
        clear ho
        have hL := hl
        (try (have e10 : b10 = true := (by revert he; cases b10 <;> simp)))
        (try (have e12 : b12 = true := (by revert he; cases b12 <;> simp)))
        clear hl he
        (try subst e10)
        (try subst e12)
        subst hL
        have h4 := HH.out.2 (by simp)
        (try subst h4)
        refine wpOp_step rfl (fun K hK => ?_)
        go_simp
        refine hK _ _ ⟨_, _, _, _, _, _, _, _, _, _, _, _, _, true, _, _, _, _, _, _, _, _, _, _, _, _, _, _, _, _, _, lv, ev, rfl, ?_, HH.out.1, (by first | exact HH.out.2 | exact fun _ => rfl)⟩
        first | rfl | simp [C.svd]
      | 14, ho, hl, he =>
        obtain rfl := Option.some.inj ho
        simp [Region.binds] at hl he
        clear ho
        have hL := hl
        (try (have e10 : b10 = true := (by revert he; cases b10 <;> simp)))
        (try (have e13 : b13 = true := (by revert he; cases b13 <;> simp)))
        clear hl he
        (try subst e10)
        (try subst e13)
        subst hL
        have h4 := HH.out.2 (by simp)
        (try subst h4)
        refine wpOp_step rfl (fun K hK => ?_)
        go_simp
        refine hK _ _ ⟨_, _, _, _, _, _, _, _, _, _, _, _, _, _, true, _, _, _, _, _, _, _, _, _, _, _, _, _, _, _, _, lv, ev, rfl, ?_, HH.out.1, (by first | exact HH.out.2 | exact fun _ => rfl)⟩
        first | rfl | simp [C.svd]
      | 15, ho, hl, he =>
        obtain rfl := Option.some.inj ho
        simp [Region.binds] at hl he
        clear ho
        have hL := hl
        (try (have e10 : b10 = true := (by revert he; cases b10 <;> simp)))
        (try (have e14 : b14 = true := (by revert he; cases b14 <;> simp)))
        clear hl he
        (try subst e10)
        (try subst e14)
        subst hL
        have h4 := HH.out.2 (by simp)
        (try subst h4)
        refine wpOp_step rfl (fun K hK => ?_)
        go_simp
        refine hK _ _ ⟨_, _, _, _, _, _, _, _, _, _, _, _, _, _, _, true, _, _, _, _, _, _, _, _, _, _, _, _, _, _, _, lv, ev, rfl, ?_, HH.out.1, (by first | exact HH.out.2 | exact fun _ => rfl)⟩
        first | rfl | simp [C.svd]
      | 16, ho, hl, he =>
        obtain rfl := Option.some.inj ho
        simp [Region.binds] at hl he
        clear ho
        have hL := hl
        (try (have e10 : b10 = true := (by revert he; cases b10 <;> simp)))
        (try (have e15 : b15 = true := (by revert he; cases b15 <;> simp)))
        clear hl he
        (try subst e10)
        (try subst e15)
        subst hL
        have h4 := HH.out.2 (by simp)
        (try subst h4)
        refine wpOp_step rfl (fun K hK => ?_)
        go_simp
        obtain ⟨v', c', S', T', cm', s', z1, z2, z3, z4⟩ := HH.out.1.p1 rfl
        have hus := z1.us.1
        obtain ⟨S2, g, i1, i2, i3, i4, i5⟩ := hus
        rw [z1.us.2.2] at i3
        refine (E.c_Entries wr t g 8 s'.L i3).mono ?_
        rintro e1 w4 ⟨ev', rfl, hes, hb⟩
        refine hK _ _ ⟨_, _, _, _, _, _, _, _, _, _, _, _, _, _, _, _, true, _, _, _, _, _, _, _, _, _, _, _, _, _, _, lv, ev', rfl, ?_, ⟨(fun y => by cases y), fun _ => ⟨v', c', S', T', cm', s', z1.below hb, z1.keep hb z2, z3.below hb, fun _ => hes.rd⟩⟩, fun _ => rfl⟩
        first | rfl | simp [C.svd]
      | 17, ho, hl, he =>
        obtain rfl := Option.some.inj ho
        simp [Region.binds] at hl he
        clear ho
        have hL := hl
        (try (have e10 : b10 = true := (by revert he; cases b10 <;> simp)))
        clear hl he
        (try subst e10)
        subst hL
        have h4 := HH.out.2 (by simp)
        (try subst h4)
        refine wpOp_step rfl (fun K hK => ?_)
        go_simp
        refine hK _ _ ⟨_, _, _, _, _, _, _, _, _, _, _, _, _, _, _, _, _, true, _, _, _, _, _, _, _, _, _, _, _, _, _, lv, ev, rfl, ?_, HH.out.1, (by first | exact HH.out.2 | exact fun _ => rfl)⟩
        first | rfl | simp [C.svd]
      | 18, ho, hl, he =>
        obtain rfl := Option.some.inj ho
        simp [Region.binds] at hl he
        clear ho
        have hL := hl
        (try (have e10 : b10 = true := (by revert he; cases b10 <;> simp)))
        (try (have e17 : b17 = true := (by revert he; cases b17 <;> simp)))
        clear hl he
        (try subst e10)
        (try subst e17)
        subst hL
        have h4 := HH.out.2 (by simp)
        (try subst h4)
        refine wpOp_step rfl (fun K hK => ?_)
        go_simp
        refine hK _ _ ⟨_, _, _, _, _, _, _, _, _, _, _, _, _, _, _, _, _, _, true, _, _, _, _, _, _, _, _, _, _, _, _, lv, ev, rfl, ?_, HH.out.1, (by first | exact HH.out.2 | exact fun _ => rfl)⟩
        first | rfl | simp [C.svd]
      | 19, ho, hl, he =>
        obtain rfl := Option.some.inj ho
        simp [Region.binds] at hl he
        clear ho
        have hL := hl
        (try (have e10 : b10 = true := (by revert he; cases b10 <;> simp)))
        (try (have e18 : b18 = true := (by revert he; cases b18 <;> simp)))
        clear hl he
        (try subst e10)
        (try subst e18)
        subst hL
        have h4 := HH.out.2 (by simp)
        (try subst h4)
        refine wpOp_step rfl (fun K hK => ?_)
        go_simp
        refine hK _ _ ⟨_, _, _, _, _, _, _, _, _, _, _, _, _, _, _, _, _, _, _, true, _, _, _, _, _, _, _, _, _, _, _, lv, ev, rfl, ?_, HH.out.1, (by first | exact HH.out.2 | exact fun _ => rfl)⟩
        first | rfl | simp [C.svd]
      | 20, ho, hl, he =>
        obtain rfl := Option.some.inj ho
        simp [Region.binds] at hl he
        clear ho
        have hL := hl
        (try (have e10 : b10 = true := (by revert he; cases b10 <;> simp)))
        (try (have e19 : b19 = true := (by revert he; cases b19 <;> simp)))
        clear hl he
        (try subst e10)
        (try subst e19)
        subst hL
        have h4 := HH.out.2 (by simp)
        (try subst h4)
        refine wpOp_step rfl (fun K hK => ?_)
        go_simp
        refine hK _ _ ⟨_, _, _, _, _, _, _, _, _, _, _, _, _, _, _, _, _, _, _, _, true, _, _, _, _, _, _, _, _, _, _, lv, ev, rfl, ?_, HH.out.1, (by first | exact HH.out.2 | exact fun _ => rfl)⟩
        first | rfl | simp [C.svd]
      | 21, ho, hl, he =>
        obtain rfl := Option.some.inj ho
        simp [Region.binds] at hl he
        clear ho
        have hL := hl
        (try (have e10 : b10 = true := (by revert he; cases b10 <;> simp)))
        (try (have e20 : b20 = true := (by revert he; cases b20 <;> simp)))
        clear hl he
        (try subst e10)
        (try subst e20)
        subst hL
        have h4 := HH.out.2 (by simp)
        (try subst h4)
        refine wpOp_step rfl (fun K hK => ?_)
        go_simp
        refine hK _ _ ⟨_, _, _, _, _, _, _, _, _, _, _, _, _, _, _, _, _, _, _, _, _, true, _, _, _, _, _, _, _, _, _, lv, ev, rfl, ?_, HH.out.1, (by first | exact HH.out.2 | exact fun _ => rfl)⟩
        first | rfl | simp [C.svd]
      | 22, ho, hl, he =>
        obtain rfl := Option.some.inj ho
        simp [Region.binds] at hl he
        clear ho
        have hL := hl
        (try (have e10 : b10 = true := (by revert he; cases b10 <;> simp)))
        (try (have e21 : b21 = true := (by revert he; cases b21 <;> simp)))
        clear hl he
        (try subst e10)
        (try subst e21)
        subst hL
        have h4 := HH.out.2 (by simp)
        (try subst h4)
        refine wpOp_step rfl (fun K hK => ?_)
        go_simp
        refine hK _ _ ⟨_, _, _, _, _, _, _, _, _, _, _, _, _, _, _, _, _, _, _, _, _, _, true, _, _, _, _, _, _, _, _, lv, ev, rfl, ?_, HH.out.1, (by first | exact HH.out.2 | exact fun _ => rfl)⟩
        first | rfl | simp [C.svd]
      | 23, ho, hl, he =>
        obtain rfl := Option.some.inj ho
        simp [Region.binds] at hl he
        clear ho
        have hL := hl
        (try (have e10 : b10 = true := (by revert he; cases b10 <;> simp)))
        (try (have e22 : b22 = true := (by revert he; cases b22 <;> simp)))
        clear hl he
        (try subst e10)
        (try subst e22)
        subst hL
        have h4 := HH.out.2 (by simp)
        (try subst h4)
        refine wpOp_step rfl (fun K hK => ?_)
        go_simp
        refine hK _ _ ⟨_, _, _, _, _, _, _, _, _, _, _, _, _, _, _, _, _, _, _, _, _, _, _, true, _, _, _, _, _, _, _, lv, ev, rfl, ?_, HH.out.1, (by first | exact HH.out.2 | exact fun _ => rfl)⟩
        first | rfl | simp [C.svd]
      | 24, ho, hl, he =>
        obtain rfl := Option.some.inj ho
        simp [Region.binds] at hl he
        clear ho
        have hL := hl
        (try (have e10 : b10 = true := (by revert he; cases b10 <;> simp)))
        (try (have e23 : b23 = true := (by revert he; cases b23 <;> simp)))
        clear hl he
        (try subst e10)
        (try subst e23)
        subst hL
        have h4 := HH.out.2 (by simp)
        (try subst h4)
        have tli := HH.out.1.list
        refine wpOp_step rfl (fun K hK => ?_)
        go_simp
        refine hK _ _ ⟨_, _, _, _, _, _, _, _, _, _, _, _, _, _, _, _, _, _, _, _, _, _, _, _, true, _, _, _, _, _, _, lv, ev, rfl, ?_, HH.out.1, (by first | exact HH.out.2 | exact fun _ => rfl)⟩
        first | rfl | simp [C.svd]
      | 25, ho, hl, he =>
        obtain rfl := Option.some.inj ho
        simp [Region.binds] at hl he
        clear ho
        have hL := hl
        (try (have e10 : b10 = true := (by revert he; cases b10 <;> simp)))
        (try (have e16 : b16 = true := (by revert he; cases b16 <;> simp)))
        (try (have e24 : b24 = true := (by revert he; cases b24 <;> simp)))
        clear hl he
        (try subst e10)
        (try subst e16)
        (try subst e24)
        subst hL
        have h4 := HH.out.2 (by simp)
        (try subst h4)
        refine wpOp_step rfl (fun K hK => ?_)
        go_simp
        obtain ⟨v', c', S', T', cm', s', z1, z2, z3, z4⟩ := HH.out.1.p1 rfl
        refine (E.c_Same wr ev lv s'.L (z4 rfl) z3 (Nat.le_trans z1.us.1.r0.2.2 z1.us.1.r0.2.1)).mono ?_
        rintro e1 w4 ⟨rfl, hs⟩
        refine hK _ _ ⟨_, _, _, _, _, _, _, _, _, _, _, _, _, _, _, _, _, _, _, _, _, _, _, _, _, true, _, _, _, _, _, lv, ev, rfl, ?_, HH.out.1.below (hs.below _), fun _ => rfl⟩
        first | rfl | simp [C.svd]
      | 26, ho, hl, he =>
        obtain rfl := Option.some.inj ho
        simp [Region.binds] at hl he
        clear ho
        have hL := hl
        (try (have e10 : b10 = true := (by revert he; cases b10 <;> simp)))
        (try (have e25 : b25 = true := (by revert he; cases b25 <;> simp)))
        clear hl he
        (try subst e10)
        (try subst e25)
        subst hL
        have h4 := HH.out.2 (by simp)
        (try subst h4)
        refine wpOp_step rfl (fun K hK => ?_)
        go_simp
        refine hK _ _ ⟨_, _, _, _, _, _, _, _, _, _, _, _, _, _, _, _, _, _, _, _, _, _, _, _, _, _, true, _, _, _, _, lv, ev, rfl, ?_, HH.out.1, (by first | exact HH.out.2 | exact fun _ => rfl)⟩
        first | rfl | simp [C.svd]
      | 27, ho, hl, he =>
        obtain rfl := Option.some.inj ho
        simp [Region.binds] at hl he
        clear ho
        have hL := hl
        (try (have e25 : b25 = true := (by revert he; cases b25 <;> simp)))
        (try (have e26 : b26 = true := (by revert he; cases b26 <;> simp)))
        clear hl he
        (try subst e25)
        (try subst e26)
        subst hL
        have h4 := HH.out.2 (by simp)
        (try subst h4)
        refine wpOp_step rfl (fun K hK => ?_)
        go_simp
        refine hK _ _ ⟨_, _, _, _, _, _, _, _, _, _, _, _, _, _, _, _, _, _, _, _, _, _, _, _, _, _, _, true, _, _, _, lv, ev, rfl, ?_, HH.out.1, (by first | exact HH.out.2 | exact fun _ => rfl)⟩
        first | rfl | simp [C.svd]
      | 28, ho, hl, he =>
        obtain rfl := Option.some.inj ho
        simp [Region.binds] at hl he
        clear ho
        have hL := hl
        (try (have e27 : b27 = true := (by revert he; cases b27 <;> simp)))
        clear hl he
        (try subst e27)
        subst hL
        have h4 := HH.out.2 (by simp)
        (try subst h4)
        refine wpOp_step rfl (fun K hK => ?_)
        go_simp
        refine (l_awake8 wr).mono ?_
        rintro e1 w4 ⟨rfl, hb⟩
        refine hK _ _ ⟨_, _, _, _, _, _, _, _, _, _, _, _, _, _, _, _, _, _, _, _, _, _, _, _, _, _, _, _, true, _, _, lv, ev, rfl, ?_, HH.out.1.below hb, fun _ => rfl⟩
        first | rfl | simp [C.svd]
      | 29, ho, hl, he =>
        obtain rfl := Option.some.inj ho
        simp [Region.binds] at hl he
        clear ho
        have hL := hl
        (try (have e27 : b27 = true := (by revert he; cases b27 <;> simp)))
        (try (have e28 : b28 = true := (by revert he; cases b28 <;> simp)))
        clear hl he
        (try subst e27)
        (try subst e28)
        subst hL
        have h4 := HH.out.2 (by simp)
        (try subst h4)
        refine wpOp_step rfl (fun K hK => ?_)
        go_simp
        refine hK _ _ ⟨_, _, _, _, _, _, _, _, _, _, _, _, _, _, _, _, _, _, _, _, _, _, _, _, _, _, _, _, _, true, _, lv, ev, rfl, ?_, HH.out.1, (by first | exact HH.out.2 | exact fun _ => rfl)⟩
        first | rfl | simp [C.svd]
      | 30, ho, hl, he =>
        obtain rfl := Option.some.inj ho
        simp [Region.binds] at hl he
        clear ho
        have hL := hl
        (try (have e0 : b0 = true := (by revert he; cases b0 <;> simp)))
        (try (have e1 : b1 = true := (by revert he; cases b1 <;> simp)))
        (try (have e2 : b2 = true := (by revert he; cases b2 <;> simp)))
        (try (have e3 : b3 = true := (by revert he; cases b3 <;> simp)))
        (try (have e4 : b4 = true := (by revert he; cases b4 <;> simp)))
        (try (have e5 : b5 = true := (by revert he; cases b5 <;> simp)))
        (try (have e6 : b6 = true := (by revert he; cases b6 <;> simp)))
        (try (have e7 : b7 = true := (by revert he; cases b7 <;> simp)))
        (try (have e8 : b8 = true := (by revert he; cases b8 <;> simp)))
        (try (have e9 : b9 = true := (by revert he; cases b9 <;> simp)))
        (try (have e10 : b10 = true := (by revert he; cases b10 <;> simp)))
        (try (have e11 : b11 = true := (by revert he; cases b11 <;> simp)))
        (try (have e12 : b12 = true := (by revert he; cases b12 <;> simp)))
        (try (have e13 : b13 = true := (by revert he; cases b13 <;> simp)))
        (try (have e14 : b14 = true := (by revert he; cases b14 <;> simp)))
        (try (have e15 : b15 = true := (by revert he; cases b15 <;> simp)))
        (try (have e16 : b16 = true := (by revert he; cases b16 <;> simp)))
        (try (have e17 : b17 = true := (by revert he; cases b17 <;> simp)))
        (try (have e18 : b18 = true := (by revert he; cases b18 <;> simp)))
        (try (have e19 : b19 = true := (by revert he; cases b19 <;> simp)))
        (try (have e20 : b20 = true := (by revert he; cases b20 <;> simp)))
        (try (have e21 : b21 = true := (by revert he; cases b21 <;> simp)))
        (try (have e22 : b22 = true := (by revert he; cases b22 <;> simp)))
        (try (have e23 : b23 = true := (by revert he; cases b23 <;> simp)))
        (try (have e24 : b24 = true := (by revert he; cases b24 <;> simp)))
        (try (have e25 : b25 = true := (by revert he; cases b25 <;> simp)))
        (try (have e26 : b26 = true := (by revert he; cases b26 <;> simp)))
        (try (have e27 : b27 = true := (by revert he; cases b27 <;> simp)))
        (try (have e28 : b28 = true := (by revert he; cases b28 <;> simp)))
        (try (have e29 : b29 = true := (by revert he; cases b29 <;> simp)))
        clear hl he
        (try subst e0)
        (try subst e1)
        (try subst e2)
        (try subst e3)
        (try subst e4)
        (try subst e5)
        (try subst e6)
        (try subst e7)
        (try subst e8)
        (try subst e9)
        (try subst e10)
        (try subst e11)
        (try subst e12)
        (try subst e13)
        (try subst e14)
        (try subst e15)
        (try subst e16)
        (try subst e17)
        (try subst e18)
        (try subst e19)
        (try subst e20)
        (try subst e21)
        (try subst e22)
        (try subst e23)
        (try subst e24)
        (try subst e25)
        (try subst e26)
        (try subst e27)
        (try subst e28)
        (try subst e29)
        subst hL
        have h4 := HH.out.2 (by simp)
        (try subst h4)
        refine wpOp_step rfl (fun K hK => ?_)
        go_simp
        refine hK _ _ ⟨_, _, _, _, _, _, _, _, _, _, _, _, _, _, _, _, _, _, _, _, _, _, _, _, _, _, _, _, _, _, true, lv, ev, rfl, ?_, HH.out.1, (by first | exact HH.out.2 | exact fun _ => rfl)⟩
        first | rfl | simp [C.svd]
      | k + 31, ho, hl, he => simp at ho
end Go.Proofs.YtmdconecigenfaaGreat
