/- The document's engine over a plain memory. -/
import Derived.Test.YtmdconecigenfaaGreatYF
import Derived.Test.YtmdconecigenfaaGreatMH6
import Derived.Test.YtmdconecigenfaaGreatCPF
import Derived.Test.YtmdconecigenfaaGreatMC4
namespace Go.Proofs.YtmdconecigenfaaGreat
open Go.RowKit
open C (Only hid Mem Still ret_int ret_bool put byt nu hasB RMem)
set_option linter.unusedVariables false
set_option maxRecDepth 100000

theorem y_accessF (w : World) (T : Nat → Prop) (q : Nat) (bs : Int) (n : Nat) (f : Nat → Int) (h : RMem w T q bs n f) (dev : Int) (y : Nat) (r : Nat → Int) (c : Int) (hy : Ye w y ⟨dev, q, none⟩ r c) (a : Int) (wt : Bool) (a0 : 0 ≤ a) (a1 : a < 18446744073709551616) :
    Calls Tryz.prog 58 #[.pointer (some ⟨y, 0, none⟩), .int .u64 a, .bool wt] w fun e w' => e = .returned (.tuple #[.int .u64 a, .bool (hasB bs n a 8)]) ∧ Below w.heap.size w w' := by
  have k1 := hy.c1
  have k2 := hy.c2
  have HM := hid h
  clear h hy
  go_enter Tryz.func58, Tryz.ntmps58
  go_wp2_with (go_at_call 91; refine (C.q_HasM _ T q bs n f HM.out a 8 a0 a1 (by decide) (by decide)).mono ?_; rintro e w1 ⟨rfl, hs⟩; have HS := hid hs; clear hs)
  go_ret2
  exact ⟨rfl, HS.out.below _⟩
theorem y_messageF (w : World) (q : Nat) (dev : Int) (y : Nat) (r : Nat → Int) (c : Int) (hy : Ye w y ⟨dev, q, none⟩ r c) (hr : RB r) (p : Nat) (bs : Int) (n : Nat) (f : Nat → Int) :
    Calls Tryz.prog 59 #[.pointer (some ⟨y, 0, none⟩)] w fun e w' => e = .returned (.tuple #[.agg #[.int .i64 (mgE (FlG p bs n) r f).1.1, .int .i64 (mgE (FlG p bs n) r f).1.2.1], .bool (mgE (FlG p bs n) r f).1.2.2]) ∧ Below w.heap.size w w' := by
  have hb0 : Below w.heap.size w (w.alloc (.cells #[.int .i64 0, .int .i64 0] 50)) := (Below.refl _ _).alloc (Nat.le_refl _) _
  have hy' := hy.below hb0
  have k2 := hy'.c2
  have k8 := hy'.c8
  have k9 := hy'.c9
  obtain ⟨d0, d1⟩ := hr 5
  obtain ⟨m0, m1⟩ := hr 4
  clear hy hy' hr hb0
  cases h0 : (r 4 == 0)
  · cases h1 : (r 4 == 4276092928)
    · have hm : mgE (FlG p bs n) r f = ((0, 0, false), f) := by unfold mgE; rw [h0]; show ((bif msF (r 4) (r 5) then 1 else 0, bif msF (r 4) (r 5) then 16 + r 5 else 0, msF (r 4) (r 5)), f) = _; rw [show msF (r 4) (r 5) = false by unfold msF; rw [h1]; rfl]; rfl
      have ha : (r 4 != 4276092928) = true := by rw [bne, h1]; rfl
      rw [hm]
      go_enter Tryz.func59, Tryz.ntmps59
      go_wp2
      go_returns
      exact ⟨rfl, (Below.refl _ _).alloc (Nat.le_refl _) _⟩
    · have ha : (r 4 != 4276092928) = false := by rw [bne, h1]; rfl
      by_cases h2 : r 5 < 16
      · have hm : mgE (FlG p bs n) r f = ((1, 16 + r 5, true), f) := by unfold mgE; rw [h0]; show ((bif msF (r 4) (r 5) then 1 else 0, bif msF (r 4) (r 5) then 16 + r 5 else 0, msF (r 4) (r 5)), f) = _; rw [show msF (r 4) (r 5) = true by unfold msF; rw [h1]; simpa using h2]; rfl
        have h3 : ¬ r 5 > 15 := by omega
        rw [hm]
        go_enter Tryz.func59, Tryz.ntmps59
        go_wp2
        go_returns
        exact ⟨rfl, (Below.refl _ _).alloc (Nat.le_refl _) _⟩
      · have hm : mgE (FlG p bs n) r f = ((0, 0, false), f) := by unfold mgE; rw [h0]; show ((bif msF (r 4) (r 5) then 1 else 0, bif msF (r 4) (r 5) then 16 + r 5 else 0, msF (r 4) (r 5)), f) = _; rw [show msF (r 4) (r 5) = false by unfold msF; rw [h1]; simpa using h2]; rfl
        have h3 : r 5 > 15 := by omega
        rw [hm]
        go_enter Tryz.func59, Tryz.ntmps59
        go_wp2
        go_returns
        exact ⟨rfl, (Below.refl _ _).alloc (Nat.le_refl _) _⟩
  · have hm : mgE (FlG p bs n) r f = ((0, 0, false), f) := by unfold mgE; rw [h0]; rfl
    rw [hm]
    go_enter Tryz.func59, Tryz.ntmps59
    go_wp2
    go_returns
    exact ⟨rfl, (Below.refl _ _).alloc (Nat.le_refl _) _⟩
theorem rmem_sep {w : World} {T : Nat → Prop} {q : Nat} {bs : Int} {n : Nat} {f : Nat → Int} (h : RMem w T q bs n f) (k : Nat) (hk : T k) : ∃ c t fr, w.heap[k]? = some (.cells c t fr) ∧ t ≠ 69 ∧ t ≠ 119 := by
  obtain ⟨g, hs, hr, rfl, hS⟩ := h
  rcases (hS k).1 hk with rfl | rfl | ⟨i, c, hi⟩
  · exact ⟨_, _, _, hr.top, by decide, by decide⟩
  · exact ⟨_, _, _, hr.tab, by decide, by decide⟩
  · obtain ⟨_, cur, hg, _⟩ := hr.full i k c hi
    exact ⟨_, _, _, hg, by decide, by decide⟩
theorem frC (p : Nat) (bs : Int) (n : Nat) (dev : Int) (q : Nat) : RGateC (FlG p bs n) (fun w F f => RMem w F q bs n f) ⟨dev, q, none⟩ where
  sep w F s h k hk := by
    obtain ⟨c, t, f, z1, z2, -⟩ := rmem_sep h k hk
    exact ⟨c, t, f, z1, z2⟩
  only w F s h w' T ho hd := C.RMem.only h ho hd
  A w F s h y r c hy a wt a0 a1 := (y_accessF w F q bs n s h dev y r c hy a wt a0 a1).mono (by
    rintro e w' ⟨rfl, hb⟩
    refine ⟨a, rfl, fun z => ?_, F, C.RMem.below h hb, .ofBelow hb⟩
    have z' : hasB bs n a 8 = true := z
    show a = bif hasB bs n a 8 then a else 0
    rw [z']; rfl)
  Rd w F s h p' hp := by
    obtain ⟨h1, h2⟩ := has_off hp
    refine (C.q_Read w F q bs n s h (p' - bs).toNat 8 h1 (by decide) p' h2).mono ?_
    rintro e w' ⟨rfl, hs⟩
    exact ⟨rfl, hs.below _⟩
  rb w F s h p' := C.nu_lt (fun j => s ((p' - bs).toNat + j)) (fun j => h.byt _) 8
  W w F s h p' x hp x0 x1 := by
    obtain ⟨h1, h2⟩ := has_off hp
    refine (C.q_Write w F q bs n s h (p' - bs).toNat 8 h1 (by decide) p' h2 x x0 x1).mono ?_
    rintro e w' ⟨S', rfl, q1, q2, q3⟩
    exact ⟨rfl, S', q1, q2, q3⟩
  M w F s h y r c hy hr := (y_messageF w q dev y r c hy hr p bs n s).mono (by
    rintro e w' ⟨rfl, hb⟩
    refine ⟨rfl, F, ?_, .ofBelow hb⟩
    have : (mgE (FlG p bs n) r s).2 = s := by unfold mgE; cases (r 4 == 0) <;> rfl
    rw [this]; exact C.RMem.below h hb)
end Go.Proofs.YtmdconecigenfaaGreat
namespace Go.Proofs.YtmdconecigenfaaGreat
open Go.RowKit
open C (Only hid Mem Still ret_int ret_bool put byt nu hasB RMem TB Cl fcl Tw)
set_option linter.unusedVariables false
set_option maxRecDepth 100000

theorem rmem_cells {w : World} {T : Nat → Prop} {q : Nat} {bs : Int} {n : Nat} {f : Nat → Int} (h : RMem w T q bs n f) (k : Nat) (hk : T k) : ∃ c t fr, w.heap[k]? = some (.cells c t fr) := by
  obtain ⟨g, hs, hr, rfl, hS⟩ := h
  rcases (hS k).1 hk with rfl | rfl | ⟨i, c, hi⟩
  · exact ⟨_, _, _, hr.top⟩
  · exact ⟨_, _, _, hr.tab⟩
  · obtain ⟨_, cur, hg, _⟩ := hr.full i k c hi
    exact ⟨_, _, _, hg⟩
structure FL (W w : World) (b e : Nat) (v : EV) (S T : Nat → Prop) (p q : Nat) (bs : Int) (n : Nat) (f h : Nat → Int) : Prop where
  eg : Eg w e v
  mm : Mem w S p bs n f
  rm : RMem w T q bs n h
  tb : TB w b p q
  vm : v.m = p
  vg : v.g = gF p
  rb : RB v.r
  st : ∀ k, S k → ¬ T k
  sb : ¬ S b
  nt : ¬ T b
  be : b ≠ e
  te : ¬ T e
  new : Below W.heap.size W w
  own : ∀ k, k = e ∨ S k ∨ T k ∨ k = b → W.heap.size ≤ k
section
variable {W w w' : World} {b e : Nat} {v v' : EV} {S S' T : Nat → Prop} {p q : Nat} {bs : Int} {n : Nat} {f f' h : Nat → Int}
theorem FL.turn (H : FL W w b e v S T p q bs n f h) (t : Txe w e S w' S') (he : Eg w' e v') (hm : Mem w' S' p bs n f') (h1 : v'.m = v.m) (h2 : v'.g = v.g) (h3 : RB v'.r) : FL W w' b e v' S' T p q bs n f' h where
  eg := he
  mm := hm
  rm := H.rm.only t.1 fun k hk z => z.elim (fun y => H.te (y ▸ hk)) fun y => H.st k y hk
  tb := t.1.old H.tb fun z => z.elim H.be H.sb
  vm := h1.trans H.vm
  vg := h2.trans H.vg
  rb := h3
  st := fun k hk z => (t.2 k hk).elim (fun y => H.st k y z) fun y => by have := H.rm.lt z; omega
  sb := fun z => (t.2 b z).elim H.sb fun y => by have := lt_of_block H.tb; omega
  nt := H.nt
  be := H.be
  te := H.te
  new := H.new.trans (t.1.below _ H.new.size fun k z => H.own k (z.elim .inl fun y => .inr (.inl y)))
  own := fun k z => by
    rcases z with z | z | z | z
    · exact H.own k (.inl z)
    · exact (t.2 k z).elim (fun y => H.own k (.inr (.inl y))) fun y => Nat.le_trans H.new.size y
    · exact H.own k (.inr (.inr (.inl z)))
    · exact H.own k (.inr (.inr (.inr z)))
theorem FL.below (H : FL W w b e v S T p q bs n f h) (hb : Below w.heap.size w w') : FL W w' b e v S T p q bs n f h :=
  H.turn (.ofBelow hb) (H.eg.below hb) (H.mm.below hb) rfl rfl H.rb
theorem FL.cells (H : FL W w b e v S T p q bs n f h) : w.cell? ⟨b, 0, none⟩ = some (.pointer (some ⟨p, 0, none⟩)) ∧ w.cell? ⟨b, 1, none⟩ = some (.pointer (some ⟨q, 0, none⟩)) := ⟨H.tb.c0, H.tb.c1⟩
/-- the document's memory turned -/
theorem FL.turnR (H : FL W w b e v S T p q bs n f h) {T' : Nat → Prop} {h' : Nat → Int} (ho : Only T w w') (hr : RMem w' T' q bs n h') (hT : ∀ k, T' k → T k ∨ w.heap.size ≤ k) : FL W w' b e v S T' p q bs n f h' := by
  have hS : ∀ k, S k → ¬ T k := H.st
  refine ⟨H.eg.only ho H.te fun k hk => ?_, H.mm.only ho hS, hr, ho.old H.tb H.nt, H.vm, H.vg, H.rb, fun k hk z => (hT k z).elim (H.st k hk) fun y => by have := H.mm.lt hk; omega, H.sb, fun z => (hT b z).elim H.nt fun y => by have := lt_of_block H.tb; omega, H.be, fun z => (hT e z).elim H.te fun y => by have := H.eg.lt; omega, H.new.trans (ho.below _ H.new.size fun k z => H.own k (.inr (.inr (.inl z)))), fun k z => ?_⟩
  · obtain ⟨c, t, fr, z⟩ := rmem_cells H.rm k hk
    exact ⟨c, t, fr, z⟩
  · rcases z with z | z | z | z
    · exact H.own k (.inl z)
    · exact H.own k (.inr (.inl z))
    · exact (hT k z).elim (fun y => H.own k (.inr (.inr (.inl y)))) fun y => Nat.le_trans H.new.size y
    · exact H.own k (.inr (.inr (.inr z)))
end
section
variable (W w : World) (b e : Nat) (v : EV) (S T : Nat → Prop) (p q : Nat) (bs : Int) (n : Nat) (f h : Nat → Int) (H : FL W w b e v S T p q bs n f h)
include H
theorem f_Write (off size z : Int) (z0 : 0 ≤ z) (z1 : z < 18446744073709551616) (o0 : 0 ≤ off) (o1 : off < 18446744073709551616) (k : Bool) (hk : okE off size = k) (r : Nat → Int) (hr : (bif k then wrE v.r off size z else v.r) = r) :
    Calls Tryz.prog 19 #[.pointer (some ⟨e, 0, none⟩), .int .u64 off, .int .i64 size, .int .u64 z] w fun x w' => x = .returned (.bool k) ∧ FL W w' b e (v.wr r) S T p q bs n f h := by
  refine (x_Write w e v H.eg H.rb off size z z0 z1 o0 o1).mono ?_
  rw [hk]
  rintro x w' ⟨rfl, h1, h2⟩
  rw [hr] at h1
  refine ⟨rfl, H.turn (.own S h2) h1 (H.mm.only h2 fun j hj y => ?_) rfl rfl ?_⟩
  · subst y
    obtain ⟨d, x, q3⟩ := H.eg.blk
    exact H.mm.typ q3 (by decide) (by decide) (by decide) hj
  · show RB r
    rw [← hr]
    cases k
    · exact H.rb
    · exact wrE_b H.rb z0 z1
theorem f_Read (off size : Int) (o0 : 0 ≤ off) (o1 : off < 18446744073709551616) (k : Bool) (hk : okE off size = k) (y : Int) (hy : (bif k then rdE v.r off size else 0) = y) :
    Calls Tryz.prog 20 #[.pointer (some ⟨e, 0, none⟩), .int .u64 off, .int .i64 size] w fun x w' => x = .returned (.tuple #[.int .u64 y, .bool k]) ∧ FL W w' b e v S T p q bs n f h := by
  refine (x_Read w e v H.eg H.rb off size o0 o1).mono ?_
  rw [hk, hy]
  rintro x w' ⟨rfl, h1, h2⟩
  refine ⟨rfl, H.turn (.own S h2) h1 (H.mm.only h2 fun j hj y => ?_) rfl rfl H.rb⟩
  subst y
  obtain ⟨d, x, q3⟩ := H.eg.blk
  exact H.mm.typ q3 (by decide) (by decide) (by decide) hj
theorem f_Step (g i : Int) (k : Bool) (r f' : Nat → Int) (hs : stN (FlG p bs n) v.r f = ((g, i, k), r, f')) :
    Calls Tryz.prog 25 #[.pointer (some ⟨e, 0, none⟩)] w fun x w' => x = .returned (.tuple #[.agg #[.int .i64 g, .int .i64 i], .bool k]) ∧ ∃ S', FL W w' b e (v.wr r) S' T p q bs n f' h := by
  refine (x_Step (flC p bs n v.dev) w e v H.eg H.vm H.vg rfl H.rb S f H.mm).mono ?_
  rw [hs]
  rintro x w' ⟨rfl, h1, F', h2, h3⟩
  refine ⟨rfl, F', H.turn h3 h1 h2 rfl rfl ?_⟩
  have := stN_b (G := FlG p bs n) f H.rb
  rw [hs] at this
  exact this
end
end Go.Proofs.YtmdconecigenfaaGreat
namespace Go.Proofs.YtmdconecigenfaaGreat
open Go.RowKit
open C (Only hid Mem Still ret_int ret_bool put byt nu hasB RMem TB Cl fcl Tw)
set_option linter.unusedVariables false
set_option maxRecDepth 100000

theorem e0_b (m : Nat) : RB (e0 m).r := fun k => by show 0 ≤ (0 : Int) ∧ (0 : Int) < 18446744073709551616; decide
theorem FL.lay {W w : World} {b e p q n : Nat} {U : Nat → Prop} {f : Nat → Int} (ht : Tw w U p q n f) (he : Eg w e (e0 p)) (hb : TB w b p q) (hw : Below W.heap.size W w) (hu : ∀ k, U k → W.heap.size ≤ k ∧ k ≠ e ∧ k ≠ b) (h1 : W.heap.size ≤ e) (h2 : W.heap.size ≤ b) (h3 : b ≠ e) : ∃ S T, FL W w b e (e0 p) S T p q 0 n f f := by
  obtain ⟨S, T, m1, m2, m3, m4⟩ := ht
  refine ⟨S, T, he, m1, m2, hb, rfl, rfl, e0_b p, m4, fun z => (hu b ((m3 b).2 (.inl z))).2.2 rfl, fun z => (hu b ((m3 b).2 (.inr z))).2.2 rfl, h3, fun z => (hu e ((m3 e).2 (.inr z))).2.1 rfl, hw, fun k z => ?_⟩
  rcases z with z | z | z | z
  · exact z ▸ h1
  · exact (hu k ((m3 k).2 (.inl z))).1
  · exact (hu k ((m3 k).2 (.inr z))).1
  · exact z ▸ h2
theorem f_W8 (r : Nat → Int) (h : (r 3 == 1) = false) (z : Int) : wrE r 0 8 z = eu r 0 z ∧ wrE r 8 8 z = eu r 1 z ∧ wrE r 16 8 z = eu r 2 z ∧ wrE r 24 8 z = cmE r z := by
  unfold wrE
  rw [h]
  exact ⟨rfl, rfl, rfl, rfl⟩
theorem f_W4 (r : Nat → Int) (z : Int) : wrE r 24 4 z = cmE r (z % 4294967296) := by
  unfold wrE
  cases (r 3 == 1)
  · rfl
  · rfl
theorem cm_1 (r : Nat → Int) (h : (r 3 == 1) = false) : cmE r 1 = bgE r := by unfold cmE; rw [h]; rfl
/-- src, dst and len are told, and it begins -/
def rB (a b k : Int) : Nat → Int := bgE (eu (eu (eu (fun _ => 0) 0 a) 1 b) 2 k)
theorem rB_0 (a b k : Int) : rB a b k 0 = a ∧ rB a b k 1 = b ∧ rB a b k 2 = k ∧ rB a b k 4 = 0 ∧ rB a b k 5 = 0 ∧ rB a b k 6 = 0 := ⟨rfl, rfl, rfl, rfl, rfl, rfl⟩
def okB (a b k : Int) : Bool := !(k == 0 || decide (k > 4096) || !(a % 8 == 0 && b % 8 == 0 && k % 8 == 0))
theorem rB_3 (a b k : Int) : rB a b k 3 = bif okB a b k then 1 else 3 := by
  show (bif (k == 0 || decide (k > 4096) || !(a % 8 == 0 && b % 8 == 0 && k % 8 == 0)) then (3 : Int) else 1) = _
  unfold okB
  cases (k == 0 || decide (k > 4096) || !(a % 8 == 0 && b % 8 == 0 && k % 8 == 0)) <;> rfl
theorem nu_aw : nu (fun j => put (put (fun _ => 0) 8 8 (byt 77)) 4096 8 (byt (nu (fun j => put (fun _ => 0) 8 8 (byt 77) (8 + j)) 8)) (4096 + j)) 8 = 77 := by decide
def X1 : Nat → Int × Int := fun _ => (1, 77)
theorem fcl1 : fcl 2 X1 1 = put (fun _ => 0) 8 8 (byt 77) := rfl
theorem aw_step (p : Nat) : stN (FlG p 0 2) (rB 8 4096 8) (put (fun _ => 0) 8 8 (byt 77)) = ((0, 0, false), eu (eu (rB 8 4096 8) 6 8) 3 2, put (put (fun _ => 0) 8 8 (byt 77)) 4096 8 (byt (nu (fun j => put (fun _ => 0) 8 8 (byt 77) (8 + j)) 8))) := rfl
theorem cl1 (w : World) (a : Int) (x : Int) (a0 : -9223372036854775808 ≤ a ∧ a ≤ 9223372036854775807) (x0 : 0 ≤ x ∧ x < 18446744073709551616) : Cl (w.alloc (.cells #[.int .i64 a, .int .u64 x] 72)) (some ⟨w.heap.size, 0, none⟩) 1 1 w.heap.size 0 (fun _ => (a, x)) where
  len := Nat.le_refl _
  cap := by decide
  at0 := fun _ => ⟨rfl, by simp⟩
  cell := fun i hi => by
    obtain rfl : i = 0 := by omega
    exact ⟨cell_of_row _ _ 0 _ _ _ (heap_alloc_new w _), cell_of_row _ _ 1 _ _ _ (heap_alloc_new w _)⟩
  num := fun i _ => ⟨a0, x0⟩
/-- the engine is made behind the memory -/
theorem lay_flat {W w0 w1 w2 : World} {p q n : Nat} {U : Nat → Prop} {f : Nat → Int} (h0 : Below W.heap.size W w0) (ht : Tw w1 U p q n f) (hb : Below w0.heap.size w0 w1) (hu : ∀ k, U k → w0.heap.size ≤ k) (f1 : Eg w2 (w1.alloc (.cells #[.pointer (some ⟨p, 0, none⟩), .pointer (some ⟨q, 0, none⟩)] 29)).heap.size (e0 p)) (f2 : Below (w1.alloc (.cells #[.pointer (some ⟨p, 0, none⟩), .pointer (some ⟨q, 0, none⟩)] 29)).heap.size (w1.alloc (.cells #[.pointer (some ⟨p, 0, none⟩), .pointer (some ⟨q, 0, none⟩)] 29)) w2) :
    ∃ S T, FL W w2 w1.heap.size (w1.heap.size + 1) (e0 p) S T p q 0 n f f := by
  have b1 : Below w1.heap.size w1 (w1.alloc (.cells #[.pointer (some ⟨p, 0, none⟩), .pointer (some ⟨q, 0, none⟩)] 29)) := (Below.refl _ _).alloc (Nat.le_refl _) _
  have b2 : Below w1.heap.size w1 w2 := b1.trans (f2.mono b1.size)
  have z0 := h0.size
  have z1 := hb.size
  refine FL.lay (ht.below b2) ?_ (C.TB.below (C.TB.new w1 p q) f2) (h0.trans ((hb.mono z0).trans (b2.mono (Nat.le_trans z0 z1)))) (fun k hk => ?_) (by omega) (by omega) (by omega)
  · have : (w1.alloc (.cells #[.pointer (some ⟨p, 0, none⟩), .pointer (some ⟨q, 0, none⟩)] 29)).heap.size = w1.heap.size + 1 := by simp
    rw [← this]; exact f1
  · have y1 := hu k hk
    have y2 := ht.lt hk
    omega
set_option maxHeartbeats 1000000 in
theorem l_awake8 (w : World) : Calls Tryz.prog 9 #[] w fun r w' => r = .returned (.bool true) ∧ Below w.heap.size w w' := by
  have H0 : Hid (Below w.heap.size w (w.alloc (.cells #[.int .i64 1, .int .u64 77] 72))) := (Below.refl _ _).alloc (Nat.le_refl _) _
  have hA := nu_aw
  go_enter Tryz.func9, Tryz.ntmps9
  have T0 : Hid True := hid trivial
  have T1 : Hid True := hid trivial
  have T2 : Hid True := hid trivial
  go_wp2_with (first
    | (go_at_call 14; refine (C.c_Memory _ 2 (by decide) (by decide) _ 1 1 _ 0 X1 (cl1 w 1 77 (by decide) (by decide))).mono ?_; rintro r w1 ⟨p, q, U, rfl, ht, hb, hu⟩; have HT := hid ht; have HB := hid hb; have HU := hid hu; clear ht hb hu)
    | (go_at_call 15; refine (x_Flat _ p).mono ?_; rintro r w2 ⟨rfl, f1, f2⟩; obtain ⟨S, T, hL⟩ := lay_flat H0.out HT.out HB.out HU.out f1 f2; have HL := hid hL; clear f1 f2 hL)
    | (go_at_call 19; have t := T0; clear t T0; refine (f_Write _ _ _ _ _ _ _ _ _ _ _ _ _ HL.out 0 8 8 (by decide) (by decide) (by decide) (by decide) true rfl (eu (fun _ => 0) 0 8) (f_W8 (fun _ => 0) rfl 8).1).mono ?_; rintro r w3 ⟨rfl, hL⟩; have HL3 := hid hL; clear hL)
    | (go_at_call 19; have t := T1; clear t T1; refine (f_Write _ _ _ _ _ _ _ _ _ _ _ _ _ HL3.out 8 8 4096 (by decide) (by decide) (by decide) (by decide) true rfl (eu (eu (fun _ => 0) 0 8) 1 4096) (f_W8 (eu (fun _ => 0) 0 8) rfl 4096).2.1).mono ?_; rintro r w4 ⟨rfl, hL⟩; have HL4 := hid hL; clear hL)
    | (go_at_call 19; have t := T2; clear t T2; refine (f_Write _ _ _ _ _ _ _ _ _ _ _ _ _ HL4.out 16 8 8 (by decide) (by decide) (by decide) (by decide) true rfl (eu (eu (eu (fun _ => 0) 0 8) 1 4096) 2 8) (f_W8 (eu (eu (fun _ => 0) 0 8) 1 4096) rfl 8).2.2.1).mono ?_; rintro r w5 ⟨rfl, hL⟩; have HL5 := hid hL; clear hL)
    | (go_at_call 19; refine (f_Write _ _ _ _ _ _ _ _ _ _ _ _ _ HL5.out 24 8 1 (by decide) (by decide) (by decide) (by decide) true rfl (rB 8 4096 8) ((f_W8 (eu (eu (eu (fun _ => 0) 0 8) 1 4096) 2 8) rfl 1).2.2.2.trans (cm_1 (eu (eu (eu (fun _ => 0) 0 8) 1 4096) 2 8) rfl))).mono ?_; rintro r w6 ⟨rfl, hL⟩; have HL6 := hid hL; clear hL)
    | (go_at_call 21; refine (x_Busy _ _ _ HL6.out.eg).mono ?_; rw [show (((((e0 p).wr (eu (fun _ => 0) 0 8)).wr (eu (eu (fun _ => 0) 0 8) 1 4096)).wr (eu (eu (eu (fun _ => 0) 0 8) 1 4096) 2 8)).wr (rB 8 4096 8)).r 3 = 1 from rfl]; rintro r w7 ⟨rfl, hw⟩; obtain rfl := hw.symm)
    | (go_at_call 25; refine (f_Step _ _ _ _ _ _ _ _ _ _ _ _ _ HL6.out 0 0 false _ _ (aw_step p)).mono ?_; rintro r w8 ⟨rfl, S8, hL⟩; have HL8 := hid hL; have c0 := HL8.out.tb.c0; clear hL)
    | (go_at_call 29; refine (C.c_Read _ S8 p 0 2 _ HL8.out.mm 4096 8 (by decide) (by decide) 4096 rfl).mono ?_; rw [hA]; rintro r w9 ⟨rfl, hb⟩; have HL9 := hid (HL8.out.below hb); clear hb)
    | (go_at_call 20; refine (f_Read _ _ _ _ _ _ _ _ _ _ _ _ _ HL9.out 32 8 (by decide) (by decide) true rfl 2 rfl).mono ?_; rintro r w10 ⟨rfl, hL⟩; have HL10 := hid hL; clear hL))
  go_ret
  exact ⟨rfl, HL10.out.new⟩
end Go.Proofs.YtmdconecigenfaaGreat
namespace Go.Proofs.YtmdconecigenfaaGreat
open Go.RowKit
open C (Only hid Mem Still ret_int ret_bool put byt nu hasB RMem)
set_option linter.unusedVariables false
set_option maxRecDepth 100000

/-- what holds of an engine that runs -/
def Inv (r : Nat → Int) : Prop := r 3 = 1 → r 6 % 8 = 0 ∧ r 6 < r 2 ∧ r 2 % 8 = 0 ∧ r 2 ≤ 4096
theorem inv_bg {r : Nat → Int} (hr : RB r) : Inv (bgE r) := fun h => by
  have h' : (bif bgB r then (3 : Int) else 1) = 1 := h
  have hb : bgB r = false := by
    cases z : bgB r
    · rfl
    · rw [z] at h'; exact absurd h' (by decide)
  have n0 := (hr 2).1
  simp [bgB] at hb
  show (0 : Int) % 8 = 0 ∧ (0 : Int) < r 2 ∧ r 2 % 8 = 0 ∧ r 2 ≤ 4096
  omega
theorem inv_eu {r : Nat → Int} (h : ¬ r 3 = 1) (k : Nat) (hk : k ≠ 3) (x : Int) : Inv (eu r k x) := fun q => by
  have : eu r k x 3 = r 3 := by unfold eu; rw [if_neg (fun z => hk z.symm)]
  exact absurd (this ▸ q) h
theorem inv_cm {r : Nat → Int} (hr : RB r) (hi : Inv r) (x : Int) : Inv (cmE r x) := by
  unfold cmE
  cases (x % 2 != 0 && !(r 3 == 1))
  · cases (x / 2 % 2 != 0)
    · exact hi
    · exact fun h => absurd (show (0 : Int) = 1 from h) (by decide)
  · exact inv_bg hr
theorem inv_wr {r : Nat → Int} (hr : RB r) (hi : Inv r) (off size z : Int) : Inv (wrE r off size z) := by
  unfold wrE
  cases hb : (r 3 == 1)
  · have e3 : ¬ r 3 = 1 := by simpa using hb
    show Inv (ptE r off size z (off / 8).toNat)
    unfold ptE
    split
    · exact inv_eu e3 0 (by decide) _
    · exact inv_eu e3 1 (by decide) _
    · exact inv_eu e3 2 (by decide) _
    · exact inv_cm hr hi _
    · exact hi
    · exact inv_eu e3 4 (by decide) _
    · exact inv_eu e3 5 (by decide) _
  · cases ho : (off == 24)
    · exact hi
    · have : off = 24 := by simpa using ho
      subst this
      exact inv_cm hr hi _
theorem inv_st {G : Gate} {r : Nat → Int} (hr : RB r) (hi : Inv r) (s : G.σ) : Inv (stN G r s).2.1 := by
  unfold stN
  cases h3 : (r 3 == 1)
  · exact hi
  · have e3 : r 3 = 1 := by simpa using h3
    obtain ⟨i1, i2, i3, i4⟩ := hi e3
    have j0 := (hr 6).1
    have e8 : w64 (r 6 + 8) = r 6 + 8 := by unfold w64; omega
    have key : Inv (eu (cpN G r s).2.1 3 (cpN G r s).1) := fun q => by
      have q' : (cpN G r s).1 = 1 := q
      show (cpN G r s).2.1 6 % 8 = 0 ∧ (cpN G r s).2.1 6 < (cpN G r s).2.1 2 ∧ (cpN G r s).2.1 2 % 8 = 0 ∧ (cpN G r s).2.1 2 ≤ 4096
      rw [cpN_eq s 2 (by decide)]
      revert q'
      unfold cpN
      cases (G.acc s (w64 (r 0 + r 6)) false).2.1
      · exact fun z => absurd (show (3 : Int) = 1 from z) (by decide)
      · cases (G.acc (G.acc s (w64 (r 0 + r 6)) false).2.2 (w64 (r 1 + r 6)) true).2.1
        · exact fun z => absurd (show (3 : Int) = 1 from z) (by decide)
        · intro z
          have z' : (bif w64 (r 6 + 8) == r 2 then (2 : Int) else 1) = 1 := z
          have hne : ¬ r 6 + 8 = r 2 := fun y => by
            rw [show (w64 (r 6 + 8) == r 2) = true by rw [e8]; simpa using y] at z'
            exact absurd z' (by decide)
          show w64 (r 6 + 8) % 8 = 0 ∧ w64 (r 6 + 8) < r 2 ∧ r 2 % 8 = 0 ∧ r 2 ≤ 4096
          rw [e8]; omega
    cases msB G r s
    · exact key
    · exact key
/-- what both engines started from: a world, and a block that neither touches -/
structure Bz where
  W : World
  b : Nat
  x : Obj
structure PZ (W : Bz) (w : World) (e y : Nat) (v : EV) (r : Nat → Int) (c : Int) (S T : Nat → Prop) (p q : Nat) (bs : Int) (n : Nat) (f h : Nat → Int) : Prop where
  eg : Eg w e v
  ye : Ye w y ⟨0, q, none⟩ r c
  mm : Mem w S p bs n f
  rm : RMem w T q bs n h
  vm : v.m = p
  vg : v.g = gF p
  vd : v.dev = 0
  rb : RB v.r
  rr : RB r
  hc : r 3 = 1 → c = r 6
  hi : Inv r
  st : ∀ k, S k → ¬ T k
  ey : e ≠ y
  te : ¬ T e
  sy : ¬ S y
  new : Below W.W.heap.size W.W w
  own : ∀ k, k = e ∨ k = y ∨ S k ∨ T k → W.W.heap.size ≤ k
  kb : w.heap[W.b]? = some W.x
  nb : ¬ (W.b = e ∨ W.b = y ∨ S W.b ∨ T W.b)
section
variable {W : Bz} {w w' : World} {e y : Nat} {v v' : EV} {r r' : Nat → Int} {c c' : Int} {S S' T T' : Nat → Prop} {p q : Nat} {bs : Int} {n : Nat} {f f' h h' : Nat → Int}
theorem PZ.ty (H : PZ W w e y v r c S T p q bs n f h) : ¬ T y := fun z => by
  obtain ⟨a, t, fr, z1, z2, -⟩ := rmem_sep H.rm y z
  rw [H.ye] at z1
  cases z1
  exact z2 rfl
theorem PZ.turnE (H : PZ W w e y v r c S T p q bs n f h) (t : Txe w e S w' S') (he : Eg w' e v') (hm : Mem w' S' p bs n f') (h1 : v'.m = v.m) (h2 : v'.g = v.g) (h4 : v'.dev = v.dev) (h3 : RB v'.r) : PZ W w' e y v' r c S' T p q bs n f' h where
  eg := he
  ye := H.ye.only t.1 fun z => z.elim (fun x => H.ey x.symm) H.sy
  mm := hm
  rm := C.RMem.only H.rm t.1 fun k hk z => z.elim (fun x => H.te (x ▸ hk)) fun x => H.st k x hk
  vm := h1.trans H.vm
  vg := h2.trans H.vg
  vd := h4.trans H.vd
  rb := h3
  rr := H.rr
  hc := H.hc
  hi := H.hi
  st := fun k hk z => (t.2 k hk).elim (fun x => H.st k x z) fun x => by have := H.rm.lt z; omega
  ey := H.ey
  te := H.te
  sy := fun z => (t.2 y z).elim H.sy fun x => by have := H.ye.lt; omega
  new := H.new.trans (t.1.below _ H.new.size fun k z => H.own k (z.elim .inl fun x => .inr (.inr (.inl x))))
  own := fun k z => by
    rcases z with z | z | z | z
    · exact H.own k (.inl z)
    · exact H.own k (.inr (.inl z))
    · exact (t.2 k z).elim (fun x => H.own k (.inr (.inr (.inl x)))) fun x => Nat.le_trans H.new.size x
    · exact H.own k (.inr (.inr (.inr z)))
  kb := t.1.old H.kb fun z => H.nb (z.elim .inl fun x => .inr (.inr (.inl x)))
  nb := fun z => by
    rcases z with z | z | z | z
    · exact H.nb (.inl z)
    · exact H.nb (.inr (.inl z))
    · exact (t.2 _ z).elim (fun x => H.nb (.inr (.inr (.inl x)))) fun x => by have := lt_of_block H.kb; omega
    · exact H.nb (.inr (.inr (.inr z)))
theorem PZ.turnY (H : PZ W w e y v r c S T p q bs n f h) (t : Txe w y T w' T') (he : Ye w' y ⟨0, q, none⟩ r' c') (hm : RMem w' T' q bs n h') (h3 : RB r') (h5 : r' 3 = 1 → c' = r' 6) (h6 : Inv r') : PZ W w' e y v r' c' S T' p q bs n f h' where
  eg := H.eg.only t.1 (fun z => z.elim H.ey H.te) fun k hk => by
    rcases hk with z | z
    · subst z; exact ⟨_, _, _, H.ye⟩
    · obtain ⟨a, t, fr, x⟩ := rmem_cells H.rm k z; exact ⟨a, t, fr, x⟩
  ye := he
  mm := H.mm.only t.1 fun k hk z => z.elim (fun x => H.sy (x ▸ hk)) fun x => H.st k hk x
  rm := hm
  vm := H.vm
  vg := H.vg
  vd := H.vd
  rb := H.rb
  rr := h3
  hc := h5
  hi := h6
  st := fun k hk z => (t.2 k z).elim (H.st k hk) fun x => by have := H.mm.lt hk; omega
  ey := H.ey
  te := fun z => (t.2 e z).elim H.te fun x => by have := H.eg.lt; omega
  sy := H.sy
  new := H.new.trans (t.1.below _ H.new.size fun k z => H.own k (z.elim (fun x => .inr (.inl x)) fun x => .inr (.inr (.inr x))))
  own := fun k z => by
    rcases z with z | z | z | z
    · exact H.own k (.inl z)
    · exact H.own k (.inr (.inl z))
    · exact H.own k (.inr (.inr (.inl z)))
    · exact (t.2 k z).elim (fun x => H.own k (.inr (.inr (.inr x)))) fun x => Nat.le_trans H.new.size x
  kb := t.1.old H.kb fun z => H.nb (z.elim (fun x => .inr (.inl x)) fun x => .inr (.inr (.inr x)))
  nb := fun z => by
    rcases z with z | z | z | z
    · exact H.nb (.inl z)
    · exact H.nb (.inr (.inl z))
    · exact H.nb (.inr (.inr (.inl z)))
    · exact (t.2 _ z).elim (fun x => H.nb (.inr (.inr (.inr x)))) fun x => by have := lt_of_block H.kb; omega
theorem PZ.below (H : PZ W w e y v r c S T p q bs n f h) (hb : Below w.heap.size w w') : PZ W w' e y v r c S T p q bs n f h :=
  H.turnE (.ofBelow hb) (H.eg.below hb) (H.mm.below hb) rfl rfl rfl H.rb
theorem PZ.se (H : PZ W w e y v r c S T p q bs n f h) : ¬ S e := fun z => by
  obtain ⟨d, x, q3⟩ := H.eg.blk
  exact H.mm.typ q3 (by decide) (by decide) (by decide) z
end
section
variable (W : Bz) (w : World) (e y : Nat) (v : EV) (r : Nat → Int) (c : Int) (S T : Nat → Prop) (p q : Nat) (bs : Int) (n : Nat) (f h : Nat → Int) (H : PZ W w e y v r c S T p q bs n f h)
include H
theorem z_W (off size z : Int) (z0 : 0 ≤ z) (z1 : z < 18446744073709551616) (o0 : 0 ≤ off) (o1 : off < 18446744073709551616) :
    Calls Tryz.prog 19 #[.pointer (some ⟨e, 0, none⟩), .int .u64 off, .int .i64 size, .int .u64 z] w fun x w' => x = .returned (.bool (okE off size)) ∧ PZ W w' e y (v.wr (bif okE off size then wrE v.r off size z else v.r)) r c S T p q bs n f h ∧ Txe w e S w' S := by
  refine (x_Write w e v H.eg H.rb off size z z0 z1 o0 o1).mono ?_
  rintro x w' ⟨rfl, h1, h2⟩
  refine ⟨rfl, H.turnE (.own S h2) h1 (H.mm.only h2 fun j hj y => H.se (y ▸ hj)) rfl rfl rfl ?_, .own S h2⟩
  cases okE off size
  · exact H.rb
  · exact wrE_b H.rb z0 z1
theorem z_YW (off size z : Int) (z0 : 0 ≤ z) (z1 : z < 18446744073709551616) (o0 : 0 ≤ off) (o1 : off < 18446744073709551616) (s0 : -9223372036854775808 ≤ size) (s1 : size ≤ 9223372036854775807) :
    Calls Tryz.prog 30 #[.pointer (some ⟨y, 0, none⟩), .int .u64 off, .int .i64 size, .int .u64 z] w fun x w' => x = .returned (.bool (okE off size)) ∧ ∃ c', PZ W w' e y v (bif okE off size then wrE r off size z else r) c' S T p q bs n f h ∧ Only (· = y) w w' := by
  refine (y_Write w y _ r c H.ye H.rr off size z z0 z1 o0 o1 s0 s1).mono ?_
  rintro x w' ⟨rfl, ⟨c', h1, h2⟩, h3⟩
  refine ⟨rfl, c', H.turnY (.own T h3) h1 (C.RMem.only H.rm h3 fun j hj x => H.ty (x ▸ hj)) ?_ (h2 H.hc) ?_, h3⟩
  · cases okE off size
    · exact H.rr
    · exact wrE_b H.rr z0 z1
  · cases okE off size
    · exact H.hi
    · exact inv_wr H.rr H.hi off size z
theorem z_R (off size : Int) (o0 : 0 ≤ off) (o1 : off < 18446744073709551616) :
    Calls Tryz.prog 20 #[.pointer (some ⟨e, 0, none⟩), .int .u64 off, .int .i64 size] w fun x w' => x = .returned (.tuple #[.int .u64 (bif okE off size then rdE v.r off size else 0), .bool (okE off size)]) ∧ PZ W w' e y v r c S T p q bs n f h ∧ Txe w e S w' S := by
  refine (x_Read w e v H.eg H.rb off size o0 o1).mono ?_
  rintro x w' ⟨rfl, h1, h2⟩
  exact ⟨rfl, H.turnE (.own S h2) h1 (H.mm.only h2 fun j hj y => H.se (y ▸ hj)) rfl rfl rfl H.rb, .own S h2⟩
theorem z_S (g i : Int) (k : Bool) (r' f' : Nat → Int) (hs : stN (FlG p bs n) v.r f = ((g, i, k), r', f')) : Calls Tryz.prog 25 #[.pointer (some ⟨e, 0, none⟩)] w fun x w' => x = .returned (.tuple #[.agg #[.int .i64 g, .int .i64 i], .bool k]) ∧ ∃ S', PZ W w' e y (v.wr r') r c S' T p q bs n f' h := by
  refine (x_Step (flC p bs n v.dev) w e v H.eg H.vm H.vg rfl H.rb S f H.mm).mono ?_
  have hb := stN_b (G := FlG p bs n) f H.rb
  rw [hs] at hb
  rw [hs]
  rintro x w' ⟨rfl, h1, F', h2, h3⟩
  exact ⟨rfl, F', H.turnE h3 h1 h2 rfl rfl rfl hb⟩
theorem z_YS (g i : Int) (k : Bool) (r' f' : Nat → Int) (hs : stN (FlG p bs n) r h = ((g, i, k), r', f')) : Calls Tryz.prog 32 #[.pointer (some ⟨y, 0, none⟩)] w fun x w' => x = .returned (.tuple #[.agg #[.int .i64 g, .int .i64 i], .bool k]) ∧ ∃ c' T', PZ W w' e y v r' c' S T' p q bs n f f' ∧ Txe w y T w' T' := by
  refine (y_Step (flC p bs n 0) (frC p bs n 0 q) w y r c H.ye H.rr T h H.rm H.hc H.hi).mono ?_
  have hb := stN_b (G := FlG p bs n) h H.rr
  have hv := inv_st (G := FlG p bs n) H.rr H.hi h
  rw [hs] at hb hv
  rw [hs]
  rintro x w' ⟨rfl, ⟨c', h1, h2⟩, F', h3, h4⟩
  exact ⟨rfl, c', F', H.turnY h4 h1 h3 hb h2 hv, h4⟩
theorem z_E0 : Calls Tryz.prog 33 #[.pointer (some ⟨e, 0, none⟩)] w fun x w' => x = .returned (.tuple #[]) ∧ PZ W w' e y (v.wr (fun _ => 0)) r c S T p q bs n f h := by
  refine (x_Reset w e v H.eg).mono ?_
  rintro x w' ⟨rfl, h1, h2⟩
  exact ⟨rfl, H.turnE (.own S h2) h1 (H.mm.only h2 fun j hj y => H.se (y ▸ hj)) rfl rfl rfl (e0_b p)⟩
theorem z_Y0 : Calls Tryz.prog 34 #[.pointer (some ⟨y, 0, none⟩)] w fun x w' => x = .returned (.tuple #[]) ∧ PZ W w' e y v (fun _ => 0) 0 S T p q bs n f h := by
  refine (y_Reset w y _ r c H.ye).mono ?_
  rintro x w' ⟨rfl, h1, h2⟩
  exact ⟨rfl, H.turnY (.own T h2) h1 (C.RMem.only H.rm h2 fun j hj x => H.ty (x ▸ hj)) (e0_b p) (fun z => absurd (show (0 : Int) = 1 from z) (by decide)) (fun z => absurd (show (0 : Int) = 1 from z) (by decide))⟩
end
end Go.Proofs.YtmdconecigenfaaGreat
