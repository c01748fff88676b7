/- An access: which block comes, or where it comes to. -/
import Derived.Test.YtfoafgbhelgjcaaGreatIG
import Derived.Great.BuildSlice
import Derived.Test.YtfoafgbhelgjcaaGreatCPF
namespace Go.Proofs.YtfoafgbhelgjcaaGreat
open Go.RowKit
open C (Only hid Mem Still ret_int ret_bool put byt nu WB WB.cell Calls.wb wp_region_wb hasB gst rdm)
set_option linter.unusedVariables false
set_option maxRecDepth 100000

theorem m_Access_no (w : World) (u : Nat) (d a s : Int) (wt : Bool) (hd : isDev d = false) : Calls Tryz.prog 17 #[.pointer (some ⟨u, 0, none⟩), .int .i64 d, .int .u64 a, .int .i64 s, .bool wt] w fun e w' => e = .returned (.tuple #[.int .u64 0, .bool false]) ∧ w' = w := by
  go_enter Tryz.func17, Tryz.ntmps17
  go_wp2_with (first
    | (go_at_call 47; refine (m_isDevice _ d false hd).mono ?_; rintro e w2 ⟨rfl, hw2⟩; obtain rfl := hw2.symm))

  go_ret2
  exact ⟨rfl, rfl⟩
/-- the record under way: its block, the bytes beside it as they were -/
def Rk (w : World) (r : Nat) (d k a : Int) : Prop := w.heap[r]? = some (.cells #[.int .i64 d, .int .i64 k, .int .u64 a] 79 (0, 0))
section
variable {w w' : World} {r : Nat} {d k a : Int}
theorem Rk.lt (h : Rk w r d k a) : r < w.heap.size := lt_of_block h
theorem Rk.c0 (h : Rk w r d k a) : w.cell? ⟨r, 0, none⟩ = some (.int .i64 d) := by rw [cell_of_row w r 0 _ _ _ h]; rfl
theorem Rk.c1 (h : Rk w r d k a) : w.cell? ⟨r, 1, none⟩ = some (.int .i64 k) := by rw [cell_of_row w r 1 _ _ _ h]; rfl
theorem Rk.c2 (h : Rk w r d k a) : w.cell? ⟨r, 2, none⟩ = some (.int .u64 a) := by rw [cell_of_row w r 2 _ _ _ h]; rfl
theorem Rk.z (h : Rk w r d k a) (j : Nat) : w.frozen? ⟨r, j, none⟩ = false := frozen_of_row w r j _ _ h
theorem Rk.below (h : Rk w r d k a) (hb : Below w.heap.size w w') : Rk w' r d k a := (hb.block r h.lt).trans h
theorem Rk.set (h : Rk w r d k a) (q : Int) : Rk (w.setCell ⟨r, 1, none⟩ (.int .i64 q)) r d q a := by
  unfold Rk
  rw [setCell_eq_setRow w r 1 _ _ (0, 0) _ h]
  exact setRow_heap w r _ _ _ _ h
end
theorem ac_new (w : World) (d a s : Int) (wt : Bool) (o : Obj) (n : Nat) : Ac (((w.alloc (.cells #[.int .i64 d, .int .u64 a, .int .i64 s, .bool wt, .int .u64 0] 113)).alloc o).drewN n) w.heap.size d a s wt 0 :=
  ((Below.refl (w.alloc (.cells #[.int .i64 d, .int .u64 a, .int .i64 s, .bool wt, .int .u64 0] 113)).heap.size _).alloc (Nat.le_refl _) o).block _ (by simp) |>.trans (heap_alloc_new w _)
theorem rk_new (w : World) (o : Obj) (d a : Int) (n : Nat) : Rk (((w.alloc o).alloc (.cells #[.int .i64 d, .int .i64 0, .int .u64 a] 79)).drewN n) (w.heap.size + 1) d 0 a := by
  have e : (w.alloc o).heap.size = w.heap.size + 1 := by simp
  rw [← e]
  exact heap_alloc_new (w.alloc o) _
theorem cell_new (w : World) (b k : Nat) (cs : Array Value) (t : TypeId) (h : w.heap.size = b) : (w.alloc (.cells cs t)).cell? ⟨b, k, none⟩ = cs[k]? := by
  subst h
  exact cell_of_row _ _ k cs t (0, 0) (heap_alloc_new w _)
theorem bl_new (w : World) (o o' : Obj) (n : Nat) : Below w.heap.size w (((w.alloc o).alloc o').drewN n) := below_dn (((Below.refl _ _).alloc (Nat.le_refl _) _).alloc (by simp) _) n
theorem bl_set {B : Nat} {w0 w : World} (h : Below B w0 w) {r : Nat} (hr : B ≤ r) (hB : B ≤ w.heap.size) (k : Int) (o : Obj) : Below B w0 ((w.setCell ⟨r, 1, none⟩ (.int .i64 k)).alloc o) := (h.setCell (p := ⟨r, 1, none⟩) hr _).alloc (by simpa using hB) _
set_option maxHeartbeats 2000000 in
theorem m_Access_size (w : World) (u : Nat) (d a s : Int) (wt : Bool) (hd : isDev d = true) (a0 : 0 ≤ a) (a1 : a < 18446744073709551616) (hw : whole a s = false) (R : World → Prop)
    (hr : ∀ w1, Below w.heap.size w w1 → Calls Tryz.prog 48 #[.pointer (some ⟨u, 0, none⟩), .agg #[.int .i64 d, .int .i64 4, .int .u64 a]] w1 fun e w' => e = .returned (.tuple #[]) ∧ R w') :
    Calls Tryz.prog 17 #[.pointer (some ⟨u, 0, none⟩), .int .i64 d, .int .u64 a, .int .i64 s, .bool wt] w fun e w' => e = .returned (.tuple #[.int .u64 0, .bool false]) ∧ R w' := by
  have HR := hid hr
  clear hr
  have T1 : Hid True := trivial
  have T2 : Hid True := trivial
  have T3 : Hid True := trivial
  go_enter Tryz.func17, Tryz.ntmps17
  go_wp2_with (first
    | (go_at_call 47; refine (m_isDevice _ d true hd).mono ?_; rintro e w2 ⟨rfl, hw2⟩; obtain rfl := hw2.symm)
    | (go_at_call 49; refine (m_isWhole _ _ a s a0 a1 (by simp) (by simp)).mono ?_; rw [hw]; rintro e w3 ⟨rfl, nq, hw3⟩; have HB3 : Hid (Below w.heap.size w w3) := hw3 ▸ bl_new w _ _ nq; have HK3 : Hid (Rk w3 (w.heap.size + 1) d 0 a) := hw3 ▸ rk_new w _ d a nq; clear hw3; have k0 := HK3.out.c0; have k1 := HK3.out.c1; have k2 := HK3.out.c2; have kz := HK3.out.z; have kl := HK3.out.lt)
    | (have t := T1; go_at_call 50; refine (m_Or _ _ _ 4 1 ?_ ?_ (by decide)).mono ?_; (exact (cell_new _ _ 0 _ _ (by simp)).trans rfl); (exact (cell_new _ _ 1 _ _ (by simp)).trans rfl); clear t T1; rw [show orI 4 1 = 4 from rfl]; rintro e w4 ⟨rfl, hw4⟩; have HB4 : Hid (Below w.heap.size w w4) := (by rw [hw4]; exact bl_set HB3.out (by omega) HB3.out.size 4 _); have HK4 : Hid (Rk w4 (w.heap.size + 1) d 4 a) := (by rw [hw4]; exact (HK3.out.set 4).below ((Below.refl _ _).alloc (Nat.le_refl _) _)); clear hw4 k0 k1 k2 kz kl; have k0 := HK4.out.c0; have k1 := HK4.out.c1; have k2 := HK4.out.c2; have kz := HK4.out.z; have kl := HK4.out.lt)
    | (have t := T2; go_at_call 50; refine (m_Or _ _ _ 4 2 ?_ ?_ (by decide)).mono ?_; (exact (cell_new _ _ 0 _ _ (by simp)).trans rfl); (exact (cell_new _ _ 1 _ _ (by simp)).trans rfl); clear t T2; rw [show orI 4 2 = 4 from rfl]; rintro e w5 ⟨rfl, hw5⟩; have HB5 : Hid (Below w.heap.size w w5) := (by rw [hw5]; exact bl_set HB4.out (by omega) HB4.out.size 4 _); have HK5 : Hid (Rk w5 (w.heap.size + 1) d 4 a) := (by rw [hw5]; exact (HK4.out.set 4).below ((Below.refl _ _).alloc (Nat.le_refl _) _)); clear hw5 k0 k1 k2 kz kl; have k0 := HK5.out.c0; have k1 := HK5.out.c1; have k2 := HK5.out.c2; have kz := HK5.out.z; have kl := HK5.out.lt)
    | (have t := T3; go_at_call 50; refine (m_Or _ _ _ 4 3 ?_ ?_ (by decide)).mono ?_; (exact (cell_new _ _ 0 _ _ (by simp)).trans rfl); (exact (cell_new _ _ 1 _ _ (by simp)).trans rfl); clear t T3; rw [show orI 4 3 = 4 from rfl]; rintro e w6 ⟨rfl, hw6⟩; have HB6 : Hid (Below w.heap.size w w6) := (by rw [hw6]; exact bl_set HB5.out (by omega) HB5.out.size 4 _); have HK6 : Hid (Rk w6 (w.heap.size + 1) d 4 a) := (by rw [hw6]; exact (HK5.out.set 4).below ((Below.refl _ _).alloc (Nat.le_refl _) _)); clear hw6 k0 k1 k2 kz kl; have k0 := HK6.out.c0; have k1 := HK6.out.c1; have k2 := HK6.out.c2; have kz := HK6.out.z; have kl := HK6.out.lt)
    | (go_at_call 48; refine (HR.out _ (HB6.out.setCell (p := ⟨w.heap.size + 1, 1, none⟩) (Nat.le_succ _) _)).mono ?_; rintro e w9 ⟨rfl, hr9⟩; have HR9 := hid hr9; clear hr9))
  go_ret2
  exact ⟨rfl, HR9.out⟩
set_option maxHeartbeats 2000000 in
theorem m_Access_none (w : World) (u : Nat) (v : UV) (hu : Iu w u v) (d a s : Int) (wt : Bool) (hd : isDev d = true) (a0 : 0 ≤ a) (a1 : a < 18446744073709551616) (hw : whole a s = true) (h0 : v.root d.toNat = 0) (R : World → Prop)
    (hr : ∀ w1, Below w.heap.size w w1 → Calls Tryz.prog 48 #[.pointer (some ⟨u, 0, none⟩), .agg #[.int .i64 d, .int .i64 1, .int .u64 a]] w1 fun e w' => e = .returned (.tuple #[]) ∧ R w') :
    Calls Tryz.prog 17 #[.pointer (some ⟨u, 0, none⟩), .int .i64 d, .int .u64 a, .int .i64 s, .bool wt] w fun e w' => e = .returned (.tuple #[.int .u64 0, .bool false]) ∧ R w' := by
  obtain ⟨q0, q1⟩ := dev_cases hd
  have HR := hid hr
  have HU := hid hu
  clear hr hu
  have T1 : Hid True := trivial
  have T2 : Hid True := trivial
  have T3 : Hid True := trivial
  go_enter Tryz.func17, Tryz.ntmps17
  go_wp2_with (first
    | (go_at_call 47; refine (m_isDevice _ d true hd).mono ?_; rintro e w2 ⟨rfl, hw2⟩; obtain rfl := hw2.symm)
    | (go_at_call 49; refine (m_isWhole _ _ a s a0 a1 (by simp) (by simp)).mono ?_; rw [hw]; rintro e w3 ⟨rfl, nq, hw3⟩; have HB3 : Hid (Below w.heap.size w w3) := hw3 ▸ bl_new w _ _ nq; have HK3 : Hid (Rk w3 (w.heap.size + 1) d 0 a) := hw3 ▸ rk_new w _ d a nq; have ku := (HU.out.below HB3.out).cr d.toNat (by omega); rw [h0] at ku; clear hw3; have k0 := HK3.out.c0; have k1 := HK3.out.c1; have k2 := HK3.out.c2; have kz := HK3.out.z; have kl := HK3.out.lt)
    | (have t := T1; go_at_call 50; refine (m_Or _ _ _ 0 1 ?_ ?_ (by decide)).mono ?_; (exact (cell_new _ _ 0 _ _ (by simp)).trans rfl); (exact (cell_new _ _ 1 _ _ (by simp)).trans rfl); clear t T1; rw [show orI 0 1 = 1 from rfl]; rintro e w4 ⟨rfl, hw4⟩; have HB4 : Hid (Below w.heap.size w w4) := (by rw [hw4]; exact HB3.out.alloc HB3.out.size _); have HK4 : Hid (Rk w4 (w.heap.size + 1) d 0 a) := (by rw [hw4]; exact HK3.out.below ((Below.refl _ _).alloc (Nat.le_refl _) _)); clear hw4 k0 k1 k2 kz kl; have k0 := HK4.out.c0; have k1 := HK4.out.c1; have k2 := HK4.out.c2; have kz := HK4.out.z; have kl := HK4.out.lt)
    | (have t := T2; go_at_call 50; refine (m_Or _ _ _ 1 2 ?_ ?_ (by decide)).mono ?_; (exact (cell_new _ _ 0 _ _ (by simp)).trans rfl); (exact (cell_new _ _ 1 _ _ (by simp)).trans rfl); clear t T2; rw [show orI 1 2 = 1 from rfl]; rintro e w5 ⟨rfl, hw5⟩; have HB5 : Hid (Below w.heap.size w w5) := (by rw [hw5]; exact bl_set HB4.out (by omega) HB4.out.size 1 _); have HK5 : Hid (Rk w5 (w.heap.size + 1) d 1 a) := (by rw [hw5]; exact (HK4.out.set 1).below ((Below.refl _ _).alloc (Nat.le_refl _) _)); clear hw5 k0 k1 k2 kz kl; have k0 := HK5.out.c0; have k1 := HK5.out.c1; have k2 := HK5.out.c2; have kz := HK5.out.z; have kl := HK5.out.lt)
    | (have t := T3; go_at_call 50; refine (m_Or _ _ _ 1 3 ?_ ?_ (by decide)).mono ?_; (exact (cell_new _ _ 0 _ _ (by simp)).trans rfl); (exact (cell_new _ _ 1 _ _ (by simp)).trans rfl); clear t T3; rw [show orI 1 3 = 1 from rfl]; rintro e w6 ⟨rfl, hw6⟩; have HB6 : Hid (Below w.heap.size w w6) := (by rw [hw6]; exact bl_set HB5.out (by omega) HB5.out.size 1 _); have HK6 : Hid (Rk w6 (w.heap.size + 1) d 1 a) := (by rw [hw6]; exact (HK5.out.set 1).below ((Below.refl _ _).alloc (Nat.le_refl _) _)); clear hw6 k0 k1 k2 kz kl; have k0 := HK6.out.c0; have k1 := HK6.out.c1; have k2 := HK6.out.c2; have kz := HK6.out.z; have kl := HK6.out.lt)
    | (go_at_call 48; refine (HR.out _ (HB6.out.setCell (p := ⟨w.heap.size + 1, 1, none⟩) (Nat.le_succ _) _)).mono ?_; rintro e w9 ⟨rfl, hr9⟩; have HR9 := hid hr9; clear hr9))
  go_ret2
  exact ⟨rfl, HR9.out⟩
end Go.Proofs.YtfoafgbhelgjcaaGreat
namespace Go.Proofs.YtfoafgbhelgjcaaGreat
open Go.RowKit
open C (Only hid Mem Still ret_int ret_bool put byt nu WB WB.cell Calls.wb wp_region_wb hasB gst rdm)
set_option linter.unusedVariables false
set_option maxRecDepth 100000

theorem iu_ft {w : World} {u : Nat} {v : UV} {t g room : Nat} {L : List E.TV} (h : Iu w u v) (ht : E.TM w t g room L) : ¬ E.Ft t g u := by
  obtain ⟨Z, hZ, -, -⟩ := ht.row
  rintro (rfl | rfl)
  · have := h.symm.trans ht.top; simp at this
  · have := Eq.trans (Eq.symm h) hZ; simp at this
theorem mem_ft {w : World} {S : Nat → Prop} {p n : Nat} {f : Nat → Int} {t g room : Nat} {L : List E.TV} (h : Mem w S p 0 n f) (ht : E.TM w t g room L) (k : Nat) (hk : S k) : ¬ E.Ft t g k := by
  obtain ⟨Z, hZ, -, -⟩ := ht.row
  rintro (rfl | rfl)
  · exact h.typ ht.top (by decide) (by decide) (by decide) hk
  · exact h.typ hZ (by decide) (by decide) (by decide) hk
/-- behind find -/
structure FK (w : World) (u : Nat) (v : UV) (S : Nat → Prop) (n : Nat) (f : Nat → Int) (g room : Nat) (L : List E.TV) (d k a : Int) (w' : World) : Prop where
  hu : Iu w' u v
  hm : Mem w' S v.m 0 n f
  ht : E.TM w' v.t g room L
  ho : Only (E.Ft v.t g) w w'
  k : Rk w' (w.heap.size + 1) d k a
  lt : u < w.heap.size
structure FJ (w : World) (u : Nat) (v : UV) (S : Nat → Prop) (n : Nat) (f : Nat → Int) (g room : Nat) (L : List E.TV) (d a s : Int) (wt : Bool) (p : Int) (w' : World) : Prop where
  hu : Iu w' u v
  hm : Mem w' S v.m 0 n f
  ht : E.TM w' v.t g room L
  ho : Only (E.Ft v.t g) w w'
  k : Rk w' (w.heap.size + 1) d 0 a
  a : Ac w' w.heap.size d a s wt p
  lt : u < w.heap.size
section
variable {w : World} {u : Nat} {v : UV} {S : Nat → Prop} {n : Nat} {f : Nat → Int} {g room : Nat} {L L' : List E.TV} {d k a s : Int} {wt : Bool} {p : Int} {w3 w4 w' : World}
theorem fj (hu : Iu w u v) (hm : Mem w S v.m 0 n f) (ht : E.TM w v.t g room L) (hb : Below w.heap.size w w3) (hk : Rk w3 (w.heap.size + 1) d 0 a) (ho : Only (fun k => k = w.heap.size ∨ E.Ft v.t g k) w3 w4) (hA : Ac w4 w.heap.size d a s wt p) (hT : E.TM w4 v.t g room L') : FJ w u v S n f g room L' d a s wt p w4 where
  hu := (hu.below hb).only ho (fun q => q.elim (fun z => by have := hu.lt; omega) (iu_ft hu ht))
  hm := (hm.below hb).only ho (fun k hk q => q.elim (fun z => by have := hm.lt hk; omega) (mem_ft hm ht k hk))
  ht := hT
  ho := (Only.ofBelow hb).trans' ho fun i hi q => q.elim (fun z => absurd z (by omega)) id
  k := ho.old hk (fun q => q.elim (fun z => by omega) (fun z => by have := ht.lt z; omega))
  a := hA
  lt := hu.lt
theorem FJ.fk (h : FJ w u v S n f g room L d a s wt p w') : FK w u v S n f g room L d 0 a w' := ⟨h.hu, h.hm, h.ht, h.ho, h.k, h.lt⟩
theorem FJ.below {w2 : World} (h : FJ w u v S n f g room L d a s wt p w') (hb : Below w'.heap.size w' w2) : FJ w u v S n f g room L d a s wt p w2 := ⟨h.hu.below hb, h.hm.below hb, h.ht.below hb, h.ho.trans (Only.ofBelow hb), h.k.below hb, h.a.below hb, h.lt⟩
theorem FK.alloc (h : FK w u v S n f g room L d k a w') (o : Obj) : FK w u v S n f g room L d k a (w'.alloc o) :=
  have hb := (Below.refl w'.heap.size w').alloc (Nat.le_refl _) o
  ⟨h.hu.below hb, h.hm.below hb, h.ht.below hb, h.ho.alloc o, h.k.below hb, h.lt⟩
theorem FK.set (h : FK w u v S n f g room L d k a w') (q : Int) : FK w u v S n f g room L d q a (w'.setCell ⟨w.heap.size + 1, 1, none⟩ (.int .i64 q)) :=
  have ho := only1 w' (w.heap.size + 1) 1 (.int .i64 q)
  ⟨h.hu.only ho (by have := h.lt; omega), h.hm.only ho (fun k hk z => h.hm.typ h.k (by decide) (by decide) (by decide) (z ▸ hk)),
   h.ht.only ho (fun k hk z => by
     obtain ⟨Z, hZ, -, -⟩ := h.ht.row
     have hk' := h.k
     rcases hk with rfl | rfl
     · rw [← z] at hk'; have := hk'.symm.trans h.ht.top; simp at this
     · rw [← z] at hk'; have := Eq.trans (Eq.symm hk') hZ; simp at this), h.ho.trans' ho (fun i hi z => by omega), h.k.set q, h.lt⟩
end
set_option maxHeartbeats 2000000 in
theorem m_Access_page (w : World) (u : Nat) (v : UV) (hu : Iu w u v) (S : Nat → Prop) (n : Nat) (f : Nat → Int) (hm : Mem w S v.m 0 n f) (g room : Nat) (L : List E.TV) (ht : E.TM w v.t g room L) (d a s : Int) (wt : Bool) (hd : isDev d = true) (a0 : 0 ≤ a) (a1 : a < 18446744073709551616) (s0 : -9223372036854775808 ≤ s) (s1 : s ≤ 9223372036854775807) (hw : whole a s = true) (h0 : (v.root d.toNat == 0) = false) (r0 : 0 ≤ v.root d.toNat) (r1 : v.root d.toNat < 18446744073709551616) (hf : fnd n f (v.root d.toNat) room L d a wt = none) (R : World → Prop)
    (hr : ∀ w1, Iu w1 u v → Mem w1 S v.m 0 n f → E.TM w1 v.t g room L → Only (E.Ft v.t g) w w1 → Calls Tryz.prog 48 #[.pointer (some ⟨u, 0, none⟩), .agg #[.int .i64 d, .int .i64 2, .int .u64 a]] w1 fun e w' => e = .returned (.tuple #[]) ∧ R w') :
    Calls Tryz.prog 17 #[.pointer (some ⟨u, 0, none⟩), .int .i64 d, .int .u64 a, .int .i64 s, .bool wt] w fun e w' => e = .returned (.tuple #[.int .u64 0, .bool false]) ∧ R w' := by
  obtain ⟨q0, q1⟩ := dev_cases hd
  have HU := hid hu
  have HM := hid hm
  have HT := hid ht
  clear hu hm ht
  have HR := hid hr
  clear hr
  have T2 : Hid True := trivial
  have T3 : Hid True := trivial
  go_enter Tryz.func17, Tryz.ntmps17
  go_wp2_with (first
    | (go_at_call 47; refine (m_isDevice _ d true hd).mono ?_; rintro e w2 ⟨rfl, hw2⟩; obtain rfl := hw2.symm)
    | (go_at_call 49; refine (m_isWhole _ _ a s a0 a1 (by simp) (by simp)).mono ?_; rw [hw]; rintro e w3 ⟨rfl, nq, hw3⟩; have HB3 : Hid (Below w.heap.size w w3) := hw3 ▸ bl_new w _ _ nq; have HK3 : Hid (Rk w3 (w.heap.size + 1) d 0 a) := hw3 ▸ rk_new w _ d a nq; have HA3 : Hid (Ac w3 w.heap.size d a s wt 0) := hw3 ▸ ac_new w d a s wt _ nq; clear hw3; have ku := (HU.out.below HB3.out).cr d.toNat (by omega))
    | (go_at_call 51; refine (m_find w3 u w.heap.size v (HU.out.below HB3.out) S n f (HM.out.below HB3.out) g room L (HT.out.below HB3.out) d a s wt a0 a1 HA3.out q0 q1 r0 r1).mono ?_; rw [hf]; rintro e w4 ⟨rfl, h1, h2, ho⟩; obtain ⟨hA, hT⟩ := h2 rfl; clear h1 h2; have HJ : Hid (FJ w u v S n f g room L d a s wt 0 w4) := fj HU.out HM.out HT.out HB3.out HK3.out ho hA hT; clear ho hA hT HB3 HK3 HA3 ku; have HK4 := hid HJ.out.k; have k0 := HK4.out.c0; have k1 := HK4.out.c1; have k2 := HK4.out.c2; have kz := HK4.out.z; have kl := HK4.out.lt)
    | (have t := T2; go_at_call 50; refine (m_Or _ _ _ 0 2 ?_ ?_ (by decide)).mono ?_; (exact (cell_new _ _ 0 _ _ (by simp)).trans rfl); (exact (cell_new _ _ 1 _ _ (by simp)).trans rfl); clear t T2; rw [show orI 0 2 = 2 from rfl]; rintro e w5 ⟨rfl, hw5⟩; have HJ5 : Hid (FK w u v S n f g room L d 0 a w5) := (by rw [hw5]; exact HJ.out.fk.alloc _); clear hw5 k0 k1 k2 kz kl; have HK5 := hid HJ5.out.k; have k0 := HK5.out.c0; have k1 := HK5.out.c1; have k2 := HK5.out.c2; have kz := HK5.out.z; have kl := HK5.out.lt)
    | (have t := T3; go_at_call 50; refine (m_Or _ _ _ 2 3 ?_ ?_ (by decide)).mono ?_; (exact (cell_new _ _ 0 _ _ (by simp)).trans rfl); (exact (cell_new _ _ 1 _ _ (by simp)).trans rfl); clear t T3; rw [show orI 2 3 = 2 from rfl]; rintro e w6 ⟨rfl, hw6⟩; have HJ6 : Hid (FK w u v S n f g room L d 2 a w6) := (by rw [hw6]; exact (HJ5.out.set 2).alloc _); clear hw6 k0 k1 k2 kz kl; have HK6 := hid HJ6.out.k; have k0 := HK6.out.c0; have k1 := HK6.out.c1; have k2 := HK6.out.c2; have kz := HK6.out.z; have kl := HK6.out.lt)
    | (go_at_call 48; refine (HR.out _ (HJ6.out.set 2).hu (HJ6.out.set 2).hm (HJ6.out.set 2).ht (HJ6.out.set 2).ho).mono ?_; rintro e w9 ⟨rfl, hr9⟩; have HR9 := hid hr9; clear hr9))
  go_ret2
  exact ⟨rfl, HR9.out⟩
set_option maxHeartbeats 2000000 in
theorem m_Access_bus (w : World) (u : Nat) (v : UV) (hu : Iu w u v) (S : Nat → Prop) (n : Nat) (f : Nat → Int) (hm : Mem w S v.m 0 n f) (g room : Nat) (L : List E.TV) (ht : E.TM w v.t g room L) (d a s : Int) (wt : Bool) (hd : isDev d = true) (a0 : 0 ≤ a) (a1 : a < 18446744073709551616) (s0 : -9223372036854775808 ≤ s) (s1 : s ≤ 9223372036854775807) (hw : whole a s = true) (h0 : (v.root d.toNat == 0) = false) (r0 : 0 ≤ v.root d.toNat) (r1 : v.root d.toNat < 18446744073709551616) (p : Int) (L' : List E.TV) (hf : fnd n f (v.root d.toNat) room L d a wt = some (p, L')) (p0 : 0 ≤ p) (p1 : p < 18446744073709551616) (hh : hasB 0 n p s = false) (R : World → Prop)
    (hr : ∀ w1, Iu w1 u v → Mem w1 S v.m 0 n f → E.TM w1 v.t g room L' → Only (E.Ft v.t g) w w1 → Calls Tryz.prog 48 #[.pointer (some ⟨u, 0, none⟩), .agg #[.int .i64 d, .int .i64 3, .int .u64 a]] w1 fun e w' => e = .returned (.tuple #[]) ∧ R w') :
    Calls Tryz.prog 17 #[.pointer (some ⟨u, 0, none⟩), .int .i64 d, .int .u64 a, .int .i64 s, .bool wt] w fun e w' => e = .returned (.tuple #[.int .u64 0, .bool false]) ∧ R w' := by
  obtain ⟨q0, q1⟩ := dev_cases hd
  have HU := hid hu
  have HM := hid hm
  have HT := hid ht
  clear hu hm ht
  have HR := hid hr
  clear hr
  have T3 : Hid True := trivial
  go_enter Tryz.func17, Tryz.ntmps17
  go_wp2_with (first
    | (go_at_call 47; refine (m_isDevice _ d true hd).mono ?_; rintro e w2 ⟨rfl, hw2⟩; obtain rfl := hw2.symm)
    | (go_at_call 49; refine (m_isWhole _ _ a s a0 a1 (by simp) (by simp)).mono ?_; rw [hw]; rintro e w3 ⟨rfl, nq, hw3⟩; have HB3 : Hid (Below w.heap.size w w3) := hw3 ▸ bl_new w _ _ nq; have HK3 : Hid (Rk w3 (w.heap.size + 1) d 0 a) := hw3 ▸ rk_new w _ d a nq; have HA3 : Hid (Ac w3 w.heap.size d a s wt 0) := hw3 ▸ ac_new w d a s wt _ nq; clear hw3; have ku := (HU.out.below HB3.out).cr d.toNat (by omega))
    | (go_at_call 51; refine (m_find w3 u w.heap.size v (HU.out.below HB3.out) S n f (HM.out.below HB3.out) g room L (HT.out.below HB3.out) d a s wt a0 a1 HA3.out q0 q1 r0 r1).mono ?_; rw [hf]; rintro e w4 ⟨rfl, h1, h2, ho⟩; obtain ⟨hA, hT⟩ := h1 p L' rfl; clear h1 h2; have HJ : Hid (FJ w u v S n f g room L' d a s wt p w4) := fj HU.out HM.out HT.out HB3.out HK3.out ho hA hT; clear ho hA hT HB3 HK3 HA3 ku; have HK4 := hid HJ.out.k; have k0 := HK4.out.c0; have k1 := HK4.out.c1; have k2 := HK4.out.c2; have kz := HK4.out.z; have kl := HK4.out.lt))
  have kh0 : ∀ t : WB w4, t.w.cell? ⟨w.heap.size, 4, none⟩ = some (.int .u64 p) := fun t => t.cell HJ.out.a.lt HJ.out.a.c4
  have kh1 : ∀ t : WB w4, t.w.cell? ⟨w.heap.size, 2, none⟩ = some (.int .i64 s) := fun t => t.cell HJ.out.a.lt HJ.out.a.c2
  have kh2 : ∀ t : WB w4, t.w.cell? ⟨u, 1, none⟩ = some (.pointer (some ⟨v.m, 0, none⟩)) := fun t => t.cell HJ.out.hu.lt HJ.out.hu.c1
  refine wp_region_wb (by kernel_rfl) (by kernel_rfl) ?_
  repeat
    first
      | (refine wpQuiet_step (fun K hK => ?_)
         go_simp
         first
           | (refine hK _ ?_; clear hK K)
           | (refine ⟨_, fun _ => rfl, hK _ ?_⟩; clear hK K)
           | (refine ⟨.bool false, fun t => ?_, hK _ ?_⟩
              · (go_at_call 52; exact Calls.wb t ((C.c_HasM t.w S v.m 0 n f (HJ.out.hm.below t.h) p s p0 p1 s0 s1 false hh).mono fun _ _ q => ⟨q.1, q.2.below _⟩))
              clear hK K))
  refine wpQuiet_nil ?_
  intro _ ht
  obtain ⟨t, rfl⟩ := ht
  have HJt := hid (HJ.out.below t.h)
  clear kh0 kh1 kh2 HJ HK4 k0 k1 k2 kz kl
  obtain ⟨w5, hw5⟩ : ∃ w5, t.w = w5 := ⟨_, rfl⟩
  rw [hw5] at HJt
  rw [hw5]
  clear hw5 t
  have HK5 := hid HJt.out.k
  have k0 := HK5.out.c0
  have k1 := HK5.out.c1
  have k2 := HK5.out.c2
  have kz := HK5.out.z
  have kl := HK5.out.lt
  go_wp2_with (first
    | (have t := T3; go_at_call 50; refine (m_Or _ _ _ 0 3 ?_ ?_ (by decide)).mono ?_; (exact (cell_new _ _ 0 _ _ (by simp)).trans rfl); (exact (cell_new _ _ 1 _ _ (by simp)).trans rfl); clear t T3; rw [show orI 0 3 = 3 from rfl]; rintro e w6 ⟨rfl, hw6⟩; have HJ6 : Hid (FK w u v S n f g room L' d 0 a w6) := (by rw [hw6]; exact HJt.out.fk.alloc _); clear hw6 k0 k1 k2 kz kl; have HK6 := hid HJ6.out.k; have k0 := HK6.out.c0; have k1 := HK6.out.c1; have k2 := HK6.out.c2; have kz := HK6.out.z; have kl := HK6.out.lt)
    | (go_at_call 48; refine (HR.out _ (HJ6.out.set 3).hu (HJ6.out.set 3).hm (HJ6.out.set 3).ht (HJ6.out.set 3).ho).mono ?_; rintro e w9 ⟨rfl, hr9⟩; have HR9 := hid hr9; clear hr9))
  go_ret2
  exact ⟨rfl, HR9.out⟩
set_option maxHeartbeats 2000000 in
theorem m_Access_ok (w : World) (u : Nat) (v : UV) (hu : Iu w u v) (S : Nat → Prop) (n : Nat) (f : Nat → Int) (hm : Mem w S v.m 0 n f) (g room : Nat) (L : List E.TV) (ht : E.TM w v.t g room L) (d a s : Int) (wt : Bool) (hd : isDev d = true) (a0 : 0 ≤ a) (a1 : a < 18446744073709551616) (s0 : -9223372036854775808 ≤ s) (s1 : s ≤ 9223372036854775807) (hw : whole a s = true) (h0 : (v.root d.toNat == 0) = false) (r0 : 0 ≤ v.root d.toNat) (r1 : v.root d.toNat < 18446744073709551616) (p : Int) (L' : List E.TV) (hf : fnd n f (v.root d.toNat) room L d a wt = some (p, L')) (p0 : 0 ≤ p) (p1 : p < 18446744073709551616) (hh : hasB 0 n p s = true) :
    Calls Tryz.prog 17 #[.pointer (some ⟨u, 0, none⟩), .int .i64 d, .int .u64 a, .int .i64 s, .bool wt] w fun e w' => e = .returned (.tuple #[.int .u64 p, .bool true]) ∧ Iu w' u v ∧ Mem w' S v.m 0 n f ∧ E.TM w' v.t g room L' ∧ Only (E.Ft v.t g) w w' := by
  obtain ⟨q0, q1⟩ := dev_cases hd
  have HU := hid hu
  have HM := hid hm
  have HT := hid ht
  clear hu hm ht
  go_enter Tryz.func17, Tryz.ntmps17
  go_wp2_with (first
    | (go_at_call 47; refine (m_isDevice _ d true hd).mono ?_; rintro e w2 ⟨rfl, hw2⟩; obtain rfl := hw2.symm)
    | (go_at_call 49; refine (m_isWhole _ _ a s a0 a1 (by simp) (by simp)).mono ?_; rw [hw]; rintro e w3 ⟨rfl, nq, hw3⟩; have HB3 : Hid (Below w.heap.size w w3) := hw3 ▸ bl_new w _ _ nq; have HK3 : Hid (Rk w3 (w.heap.size + 1) d 0 a) := hw3 ▸ rk_new w _ d a nq; have HA3 : Hid (Ac w3 w.heap.size d a s wt 0) := hw3 ▸ ac_new w d a s wt _ nq; clear hw3; have ku := (HU.out.below HB3.out).cr d.toNat (by omega))
    | (go_at_call 51; refine (m_find w3 u w.heap.size v (HU.out.below HB3.out) S n f (HM.out.below HB3.out) g room L (HT.out.below HB3.out) d a s wt a0 a1 HA3.out q0 q1 r0 r1).mono ?_; rw [hf]; rintro e w4 ⟨rfl, h1, h2, ho⟩; obtain ⟨hA, hT⟩ := h1 p L' rfl; clear h1 h2; have HJ : Hid (FJ w u v S n f g room L' d a s wt p w4) := fj HU.out HM.out HT.out HB3.out HK3.out ho hA hT; clear ho hA hT HB3 HK3 HA3 ku; have HK4 := hid HJ.out.k; have k0 := HK4.out.c0; have k1 := HK4.out.c1; have k2 := HK4.out.c2; have kz := HK4.out.z; have kl := HK4.out.lt))
  have kh0 : ∀ t : WB w4, t.w.cell? ⟨w.heap.size, 4, none⟩ = some (.int .u64 p) := fun t => t.cell HJ.out.a.lt HJ.out.a.c4
  have kh1 : ∀ t : WB w4, t.w.cell? ⟨w.heap.size, 2, none⟩ = some (.int .i64 s) := fun t => t.cell HJ.out.a.lt HJ.out.a.c2
  have kh2 : ∀ t : WB w4, t.w.cell? ⟨u, 1, none⟩ = some (.pointer (some ⟨v.m, 0, none⟩)) := fun t => t.cell HJ.out.hu.lt HJ.out.hu.c1
  refine wp_region_wb (by kernel_rfl) (by kernel_rfl) ?_
  repeat
    first
      | (refine wpQuiet_step (fun K hK => ?_)
         go_simp
         first
           | (refine hK _ ?_; clear hK K)
           | (refine ⟨_, fun _ => rfl, hK _ ?_⟩; clear hK K)
           | (refine ⟨.bool true, fun t => ?_, hK _ ?_⟩
              · (go_at_call 52; exact Calls.wb t ((C.c_HasM t.w S v.m 0 n f (HJ.out.hm.below t.h) p s p0 p1 s0 s1 true hh).mono fun _ _ q => ⟨q.1, q.2.below _⟩))
              clear hK K))
  refine wpQuiet_nil ?_
  intro _ ht
  obtain ⟨t, rfl⟩ := ht
  have HJt := hid (HJ.out.below t.h)
  clear kh0 kh1 kh2 HJ HK4 k0 k1 k2 kz kl
  obtain ⟨w5, hw5⟩ : ∃ w5, t.w = w5 := ⟨_, rfl⟩
  rw [hw5] at HJt
  rw [hw5]
  clear hw5 t
  have kp := HJt.out.a.c4
  go_wp2
  go_ret2
  exact ⟨rfl, HJt.out.hu, HJt.out.hm, HJt.out.ht, HJt.out.ho⟩
end Go.Proofs.YtfoafgbhelgjcaaGreat
namespace Go.Proofs.YtfoafgbhelgjcaaGreat
open Go.RowKit
open C (Only hid Mem Still ret_int ret_bool put byt nu WB WB.cell Calls.wb wp_region_wb hasB gst rdm)
set_option linter.unusedVariables false
set_option maxRecDepth 100000

theorem m_Message_no (w : World) (u : Nat) (d a i : Int) (hd : isDev d = false) : Calls Tryz.prog 15 #[.pointer (some ⟨u, 0, none⟩), .int .i64 d, .int .u64 a, .int .u64 i] w fun e w' => e = .returned (.tuple #[.agg #[.int .i64 0, .int .i64 0], .bool false]) ∧ Below w.heap.size w w' := by
  go_enter Tryz.func15, Tryz.ntmps15
  go_wp2_with (first
    | (go_at_call 47; refine (m_isDevice _ d false hd).mono ?_; rintro e w2 ⟨rfl, hw2⟩; obtain rfl := hw2.symm))
  go_returns
  exact ⟨rfl, (Below.refl _ _).alloc (Nat.le_refl _) _⟩
theorem m_Message_go (w : World) (u : Nat) (v : UV) (hu : Iu w u v) (d i : Int) (hd : isDev d = true) (i0 : 0 ≤ i) (i1 : i < 32) (hg : (v.mg (d.toNat * 32 + i.toNat) != 0) = true) : Calls Tryz.prog 15 #[.pointer (some ⟨u, 0, none⟩), .int .i64 d, .int .u64 4276092928, .int .u64 i] w fun e w' => e = .returned (.tuple #[.agg #[.int .i64 (v.mg (d.toNat * 32 + i.toNat)), .int .i64 (v.mi (d.toNat * 32 + i.toNat))], .bool true]) ∧ Below w.heap.size w w' := by
  obtain ⟨q0, q1⟩ := dev_cases hd
  have c1 := hu.cg d.toNat i.toNat (by omega) (by omega)
  have c2 := hu.ci d.toNat i.toNat (by omega) (by omega)
  have hlt := hu.lt
  go_enter Tryz.func15, Tryz.ntmps15
  go_wp2_with (first
    | (go_at_call 47; refine (m_isDevice _ d true hd).mono ?_; rintro e w2 ⟨rfl, hw2⟩; obtain rfl := hw2.symm))
  go_returns
  exact ⟨rfl, (Below.refl _ _).alloc (Nat.le_refl _) _⟩
theorem set2 {w : World} {b : Nat} {ty : TypeId} {a0 a1 : Value} (h : w.heap[b]? = some (.cells #[a0, a1] ty (0, 0))) (x y : Value) : ((w.setCell ⟨b, 0, none⟩ x).setCell ⟨b, 1, none⟩ y).heap[b]? = some (.cells #[x, y] ty (0, 0)) := by
  have s1 : (w.setCell ⟨b, 0, none⟩ x).heap[b]? = some (.cells #[x, a1] ty (0, 0)) := by rw [setCell_eq_setRow w b 0 _ _ (0, 0) x h]; exact setRow_heap w b _ _ _ _ h
  rw [setCell_eq_setRow _ b 1 _ _ (0, 0) y s1]
  exact setRow_heap _ b _ _ _ _ s1
/-- whether a message goes somewhere -/
def goes (v : UV) (d a i : Int) : Bool := decide (a = 4276092928) && decide (i < 32) && (v.mg (d.toNat * 32 + i.toNat) != 0)
theorem m_Message_bad (w : World) (u : Nat) (v : UV) (hu : Iu w u v) (d a i : Int) (hd : isDev d = true) (a0 : 0 ≤ a) (a1 : a < 18446744073709551616) (i0 : 0 ≤ i) (hg : goes v d a i = false) (R : World → Prop) (T : Nat → Prop) (hT : ∀ k, T k → k < w.heap.size)
    (hr : ∀ w1, Below w.heap.size w w1 → w.heap.size < w1.heap.size → Calls Tryz.prog 48 #[.pointer (some ⟨u, 0, none⟩), .agg #[.int .i64 d, .int .i64 5, .int .u64 a]] w1 fun e w' => e = .returned (.tuple #[]) ∧ R w' ∧ Only T w1 w') :
    Calls Tryz.prog 15 #[.pointer (some ⟨u, 0, none⟩), .int .i64 d, .int .u64 a, .int .u64 i] w fun e w' => e = .returned (.tuple #[.agg #[.int .i64 0, .int .i64 0], .bool false]) ∧ ∃ w1, R w1 ∧ Only (· = w.heap.size) w1 w' := by
  obtain ⟨q0, q1⟩ := dev_cases hd
  have hlt := hu.lt
  have HR := hid hr
  have HT := hid hT
  have HU := hid hu
  clear hr hT hu
  have key : ∀ Q : Prop, ((a == 4276092928) = false → Q) → (a = 4276092928 → (i < 32) = False → Q) → (a = 4276092928 → i < 32 → (v.mg (d.toNat * 32 + i.toNat) != 0) = false → Q) → Q := fun Q h1 h2 h3 => by
    by_cases e1 : a = 4276092928
    · by_cases e2 : i < 32
      · exact h3 e1 e2 (by simpa [goes, e1, e2] using hg)
      · exact h2 e1 (by simpa using e2)
    · exact h1 (by simpa using e1)
  clear hg
  refine key _ (fun k1 => ?_) (fun k1 k2 => ?_) (fun k1 k2 k3 => ?_)
  · clear key
    go_enter Tryz.func15, Tryz.ntmps15
    go_wp2_with (first
      | (go_at_call 47; refine (m_isDevice _ d true hd).mono ?_; rintro e w2 ⟨rfl, hw2⟩; obtain rfl := hw2.symm)
      | (go_at_call 48; refine (HR.out _ ((Below.refl _ _).alloc (Nat.le_refl _) _) (by simp)).mono ?_; rintro e w9 ⟨rfl, hr9, ho9⟩; have hb9 := ho9.old (heap_alloc_new w _) (fun q => by have := HT.out _ q; omega); have y0 : w9.cell? ⟨w.heap.size, 0, none⟩ = some (.int .i64 0) := (by rw [cell_of_row w9 _ 0 _ _ _ hb9]; rfl); have y1 : w9.cell? ⟨w.heap.size, 1, none⟩ = some (.int .i64 0) := (by rw [cell_of_row w9 _ 1 _ _ _ hb9]; rfl); have yf : ∀ j, w9.frozen? ⟨w.heap.size, j, none⟩ = false := (fun j => frozen_of_row w9 _ j _ _ hb9); have HR9 := hid hr9; have HB9 := hid hb9; clear hr9 ho9 hb9))
    have ho6 := (only1 w9 w.heap.size 0 (.int .i64 0)).trans (only1 _ w.heap.size 1 (.int .i64 0))
    have h6 := set2 HB9.out (.int .i64 0) (.int .i64 0)
    generalize (w9.setCell ⟨w.heap.size, 0, none⟩ (.int .i64 0)).setCell ⟨w.heap.size, 1, none⟩ (.int .i64 0) = w6 at *
    clear y0 y1 yf
    have y0 : w6.cell? ⟨w.heap.size, 0, none⟩ = some (.int .i64 0) := by rw [cell_of_row w6 _ 0 _ _ _ h6]; rfl
    have y1 : w6.cell? ⟨w.heap.size, 1, none⟩ = some (.int .i64 0) := by rw [cell_of_row w6 _ 1 _ _ _ h6]; rfl
    refine bodyPost_ret (by simp [results, Tryz.results15, go_sem, y0, y1]; rfl) rfl ?_
    exact ⟨rfl, w9, HR9.out, ho6⟩
  · clear key
    subst k1
    go_enter Tryz.func15, Tryz.ntmps15
    go_wp2_with (first
      | (go_at_call 47; refine (m_isDevice _ d true hd).mono ?_; rintro e w2 ⟨rfl, hw2⟩; obtain rfl := hw2.symm)
      | (go_at_call 48; refine (HR.out _ ((Below.refl _ _).alloc (Nat.le_refl _) _) (by simp)).mono ?_; rintro e w9 ⟨rfl, hr9, ho9⟩; have hb9 := ho9.old (heap_alloc_new w _) (fun q => by have := HT.out _ q; omega); have y0 : w9.cell? ⟨w.heap.size, 0, none⟩ = some (.int .i64 0) := (by rw [cell_of_row w9 _ 0 _ _ _ hb9]; rfl); have y1 : w9.cell? ⟨w.heap.size, 1, none⟩ = some (.int .i64 0) := (by rw [cell_of_row w9 _ 1 _ _ _ hb9]; rfl); have yf : ∀ j, w9.frozen? ⟨w.heap.size, j, none⟩ = false := (fun j => frozen_of_row w9 _ j _ _ hb9); have HR9 := hid hr9; have HB9 := hid hb9; clear hr9 ho9 hb9))
    have ho6 := (only1 w9 w.heap.size 0 (.int .i64 0)).trans (only1 _ w.heap.size 1 (.int .i64 0))
    have h6 := set2 HB9.out (.int .i64 0) (.int .i64 0)
    generalize (w9.setCell ⟨w.heap.size, 0, none⟩ (.int .i64 0)).setCell ⟨w.heap.size, 1, none⟩ (.int .i64 0) = w6 at *
    clear y0 y1 yf
    have y0 : w6.cell? ⟨w.heap.size, 0, none⟩ = some (.int .i64 0) := by rw [cell_of_row w6 _ 0 _ _ _ h6]; rfl
    have y1 : w6.cell? ⟨w.heap.size, 1, none⟩ = some (.int .i64 0) := by rw [cell_of_row w6 _ 1 _ _ _ h6]; rfl
    refine bodyPost_ret (by simp [results, Tryz.results15, go_sem, y0, y1]; rfl) rfl ?_
    exact ⟨rfl, w9, HR9.out, ho6⟩
  · clear key
    subst k1
    have c1 := HU.out.cg d.toNat i.toNat (by omega) (by omega)
    go_enter Tryz.func15, Tryz.ntmps15
    go_wp2_with (first
      | (go_at_call 47; refine (m_isDevice _ d true hd).mono ?_; rintro e w2 ⟨rfl, hw2⟩; obtain rfl := hw2.symm)
      | (go_at_call 48; refine (HR.out _ ((Below.refl _ _).alloc (Nat.le_refl _) _) (by simp)).mono ?_; rintro e w9 ⟨rfl, hr9, ho9⟩; have hb9 := ho9.old (heap_alloc_new w _) (fun q => by have := HT.out _ q; omega); have y0 : w9.cell? ⟨w.heap.size, 0, none⟩ = some (.int .i64 0) := (by rw [cell_of_row w9 _ 0 _ _ _ hb9]; rfl); have y1 : w9.cell? ⟨w.heap.size, 1, none⟩ = some (.int .i64 0) := (by rw [cell_of_row w9 _ 1 _ _ _ hb9]; rfl); have yf : ∀ j, w9.frozen? ⟨w.heap.size, j, none⟩ = false := (fun j => frozen_of_row w9 _ j _ _ hb9); have HR9 := hid hr9; have HB9 := hid hb9; clear hr9 ho9 hb9))
    have ho6 := (only1 w9 w.heap.size 0 (.int .i64 0)).trans (only1 _ w.heap.size 1 (.int .i64 0))
    have h6 := set2 HB9.out (.int .i64 0) (.int .i64 0)
    generalize (w9.setCell ⟨w.heap.size, 0, none⟩ (.int .i64 0)).setCell ⟨w.heap.size, 1, none⟩ (.int .i64 0) = w6 at *
    clear y0 y1 yf
    have y0 : w6.cell? ⟨w.heap.size, 0, none⟩ = some (.int .i64 0) := by rw [cell_of_row w6 _ 0 _ _ _ h6]; rfl
    have y1 : w6.cell? ⟨w.heap.size, 1, none⟩ = some (.int .i64 0) := by rw [cell_of_row w6 _ 1 _ _ _ h6]; rfl
    refine bodyPost_ret (by simp [results, Tryz.results15, go_sem, y0, y1]; rfl) rfl ?_
    exact ⟨rfl, w9, HR9.out, ho6⟩
end Go.Proofs.YtfoafgbhelgjcaaGreat
namespace Go.Proofs.YtfoafgbhelgjcaaGreat
open Go.RowKit
open C (Only hid Mem Still ret_int ret_bool put byt nu WB WB.cell Calls.wb wp_region_wb hasB gst rdm)
set_option linter.unusedVariables false
set_option maxRecDepth 100000

/-- an IOMMU that is new -/
def v0 (t m : Nat) : UV := ⟨t, m, fun _ => 0, fun _ => 0, fun _ => 0, false, 0, 0, 0, false⟩
theorem built_u (t m : Nat) : Tryz.prog.built 55 [(0, .pointer (some ⟨t, 0, none⟩)), (1, .pointer (some ⟨m, 0, none⟩))] = some (v0 t m).ca := by kernel_rfl
theorem wpL_build {P : Program} {ops : Array Oper} {rest : List Oper} {d : Option Nat} {t tt : TypeId} {L : List (Nat × Operand)} {pos : String} {after : Array Edge} {a : Act} {w : World} {Q : Exit → Act → World → Prop} (X : List (Nat × Value)) (cells : Array Value)
    (hX : (L.map fun p => (p.1, a.eval p.2)) = X) (hf : P.built t X = some cells) (h : wpList P ops Q rest (a.put d (.agg cells)) w) : wpList P ops Q ({ dst := d, op := Op.build t L.toArray, type := tt, pos := pos, after := after, guard := none } :: rest) a w :=
  wpList_buildTo rfl t L.toArray rfl d rfl cells (by rw [List.map_toArray]; rw [← hX] at hf; exact hf) h
theorem m_New (w : World) (m room : Nat) (h0 : 0 < room) (h1 : room ≤ 64) (r : Int) (hr : r = room) : Calls Tryz.prog 12 #[.pointer (some ⟨m, 0, none⟩), .int .i64 r] w fun e w' => ∃ u t g, e = .returned (.tuple #[.pointer (some ⟨u, 0, none⟩), .int .i64 0]) ∧ Iu w' u (v0 t m) ∧ E.TM w' t g room [] ∧ Below w.heap.size w w' ∧ w.heap.size ≤ u ∧ ∀ k, E.Ft t g k → w.heap.size ≤ k := by
  subst hr
  go_enter Tryz.func12, Tryz.ntmps12
  go_wp2_with (first
    | (go_at_call 45; refine (E.c_New _ room h0 h1 _ rfl).mono ?_; rintro e w1 ⟨t, g, rfl, ht, hb, hf⟩; have HT := hid ht; have HB := hid hb; have HF := hid hf; clear ht hb hf; have hbu := built_u t m; obtain ⟨cc, hcc⟩ : ∃ cc, (v0 t m).ca = cc := ⟨_, rfl⟩; rw [hcc] at hbu; have HCC := hid hcc; have HBU := hid hbu; clear hbu hcc)
    | ((with_reducible refine wpL_build (d := some 18) [(0, .pointer (some ⟨t, 0, none⟩)), (1, .pointer (some ⟨m, 0, none⟩))] cc ?_ HBU.out ?_); rfl))
  go_ret2
  refine ⟨_, t, g, rfl, ?_, HT.out.below ((Below.refl _ _).alloc (Nat.le_refl _) _), HB.out.alloc HB.out.size _, HB.out.size, HF.out⟩
  unfold Iu
  rw [HCC.out]
  exact heap_alloc_new w1 _
end Go.Proofs.YtfoafgbhelgjcaaGreat
namespace Go.Proofs.YtfoafgbhelgjcaaGreat
open Go.RowKit
open C (Only hid Mem Still ret_int ret_bool put byt nu WB WB.cell Calls.wb wp_region_wb hasB gst rdm)
set_option linter.unusedVariables false
set_option maxRecDepth 100000

/-- numbers within their bounds -/
structure VOk (v : UV) (n : Nat) : Prop where
  root : ∀ j, 0 ≤ v.root j ∧ v.root j < 18446744073709551616
  first : v.first < 256
  count : v.count ≤ 255
  ring : v.there = true → v.addr + 4096 ≤ 4096 * n
  none : v.there = false → v.count = 0
def US (w : World) (F : Nat → Prop) (u : Nat) (v : UV) (n : Nat) (f : Nat → Int) (room : Nat) (L : List E.TV) : Prop :=
  ∃ S g, Iu w u v ∧ Mem w S v.m 0 n f ∧ E.TM w v.t g room L ∧ (∀ k, F k ↔ (k = u ∨ E.Ft v.t g k ∨ S k)) ∧ VOk v n
/-- what one call may turn -/
def Tn (w : World) (F : Nat → Prop) (w' : World) (F' : Nat → Prop) : Prop := Only F w w' ∧ ∀ k, F' k → F k ∨ w.heap.size ≤ k
theorem Tn.trans {w w' w'' : World} {F F' F'' : Nat → Prop} (h : Tn w F w' F') (k : Tn w' F' w'' F'') : Tn w F w'' F'' :=
  ⟨h.1.trans' k.1 fun i hi q => (h.2 i q).resolve_right (by omega), fun i q => (k.2 i q).elim (h.2 i) fun z => .inr (Nat.le_trans h.1.size z)⟩
theorem Tn.refl (w : World) (F : Nat → Prop) : Tn w F w F := ⟨Only.refl w, fun _ q => .inl q⟩
theorem Tn.ofBelow {w w' : World} {F : Nat → Prop} (h : Below w.heap.size w w') : Tn w F w' F := ⟨Only.ofBelow h, fun _ q => .inl q⟩
section
variable {w w' : World} {F : Nat → Prop} {u : Nat} {v : UV} {n : Nat} {f : Nat → Int} {room : Nat} {L : List E.TV}
theorem US.lt (h : US w F u v n f room L) {k : Nat} (hk : F k) : k < w.heap.size := by
  obtain ⟨S, g, h1, h2, h3, h4, -⟩ := h
  rcases (h4 k).1 hk with rfl | q | q
  · exact h1.lt
  · exact h3.lt q
  · exact h2.lt q
theorem US.only (h : US w F u v n f room L) {T : Nat → Prop} (ho : Only T w w') (hd : ∀ k, F k → ¬ T k) : US w' F u v n f room L := by
  obtain ⟨S, g, h1, h2, h3, h4, h5⟩ := h
  exact ⟨S, g, h1.only ho (hd u ((h4 u).2 (.inl rfl))), h2.only ho (fun k hk => hd k ((h4 k).2 (.inr (.inr hk)))), h3.only ho (fun k hk => hd k ((h4 k).2 (.inr (.inl hk)))), h4, h5⟩
theorem US.below (h : US w F u v n f room L) (hb : Below w.heap.size w w') : US w' F u v n f room L := h.only (T := fun _ => False) (Only.ofBelow hb) fun _ _ q => q
theorem US.ok (h : US w F u v n f room L) : VOk v n := by obtain ⟨S, g, -, -, -, -, h5⟩ := h; exact h5
theorem US.byt (h : US w F u v n f room L) : ∀ j, 0 ≤ f j ∧ f j < 256 := by obtain ⟨S, g, -, h2, -, -, -⟩ := h; exact h2.byt
theorem US.r0 (h : US w F u v n f room L) : 0 < room ∧ room ≤ 64 ∧ L.length ≤ room := by obtain ⟨S, g, -, -, h3, -, -⟩ := h; exact ⟨h3.r0, h3.r1, h3.len⟩
end
/-- a record: where it goes -/
def rcB (v : UV) : Bool := v.there && decide (v.count < 255)
def rcV (v : UV) : UV := bif rcB v then v.setCount (v.count + 1) else v.setLost true
def rcF (v : UV) (f : Nat → Int) (d k a : Int) : Nat → Int := bif rcB v then rcf f (v.at v.count) d k a else f
theorem rcV_m (v : UV) : (rcV v).m = v.m := by unfold rcV; cases rcB v <;> rfl
theorem rcV_t (v : UV) : (rcV v).t = v.t := by unfold rcV; cases rcB v <;> rfl
theorem rcV_root (v : UV) : (rcV v).root = v.root := by unfold rcV; cases rcB v <;> rfl
theorem rcV_ok {v : UV} {n : Nat} (h : VOk v n) : VOk (rcV v) n := by
  unfold rcV
  cases e : rcB v
  · exact ⟨h.root, h.first, h.count, h.ring, h.none⟩
  · simp [rcB] at e
    exact ⟨h.root, h.first, by show v.count + 1 ≤ 255; omega, h.ring, fun q => by have q : v.there = false := q; rw [e.1] at q; cases q⟩
theorem iu_mem {w : World} {S : Nat → Prop} {p n : Nat} {f : Nat → Int} {u : Nat} {v : UV} (h : Mem w S p 0 n f) (hu : Iu w u v) : ¬ S u := h.typ hu (by decide) (by decide) (by decide)
theorem m_rec (w : World) (u : Nat) (v : UV) (hu : Iu w u v) (S : Nat → Prop) (n : Nat) (f : Nat → Int) (hm : Mem w S v.m 0 n f) (g room : Nat) (L : List E.TV) (ht : E.TM w v.t g room L) (ok : VOk v n) (d k a : Int) (d0 : 0 ≤ d) (d1 : d < 8) (k0 : 0 ≤ k) (k1 : k < 8) (a0 : 0 ≤ a) (a1 : a < 18446744073709551616) :
    Calls Tryz.prog 48 #[.pointer (some ⟨u, 0, none⟩), .agg #[.int .i64 d, .int .i64 k, .int .u64 a]] w fun e w' => e = .returned (.tuple #[]) ∧ ∃ S', Iu w' u (rcV v) ∧ Mem w' S' v.m 0 n (rcF v f d k a) ∧ E.TM w' v.t g room L ∧ Only (fun k => k = u ∨ S k) w w' ∧ ∀ k, S' k → S k ∨ w.heap.size ≤ k := by
  have hx : ∀ k, E.Ft v.t g k → ¬ (k = u ∨ S k) := fun k hk q => q.elim (fun z => iu_ft hu ht (z ▸ hk)) (fun z => mem_ft hm ht k z hk)
  cases e : rcB v
  · refine (m_record_lost w u v hu d k a (by by_cases q : v.there = true; simp [rcB, q] at e; exact .inr e; exact .inl (by simpa using q))).mono ?_
    rintro r w' ⟨rfl, h1, h2⟩
    have hm' := hm.only h2 (fun j hj q => iu_mem hm hu (q ▸ hj))
    refine ⟨rfl, S, ?_, ?_, ht.only h2 (fun j hj q => hx j hj (.inl q)), h2.mono fun _ _ q => .inl q, fun _ q => .inl q⟩
    · unfold rcV; rw [e]; exact h1
    · unfold rcF; rw [e]; exact hm'
  · simp [rcB] at e
    refine (m_record w u v hu S n f hm d k a d0 d1 k0 k1 a0 a1 e.1 e.2 ok.first (ok.ring e.1)).mono ?_
    rintro r w' ⟨rfl, S', h1, h2, h3, h4⟩
    have e' : rcB v = true := by simp [rcB, e]
    refine ⟨rfl, S', ?_, ?_, ht.only h3 hx, h3, h4⟩
    · unfold rcV; rw [e']; exact h1
    · unfold rcF; rw [e']; exact h2
/-- which block comes (0: none), where it comes to, what the TLB then holds -/
def acF (n : Nat) (f : Nat → Int) (v : UV) (room : Nat) (L : List E.TV) (d a s : Int) (wt : Bool) : Int × Int × List E.TV :=
  if whole a s = false then (4, 0, L) else if v.root d.toNat = 0 then (1, 0, L) else
  match fnd n f (v.root d.toNat) room L d a wt with
  | none => (2, 0, L)
  | some (p, L') => if hasB 0 n p s = true then (0, p, L') else (3, 0, L')
theorem plf_b (x a : Int) : 0 ≤ plf x a ∧ plf x a < 18446744073709551616 := by unfold plf; rw [wrap_u64]; omega
theorem fnd_b {n : Nat} {f : Nat → Int} {root : Int} {room : Nat} {L : List E.TV} {d a : Int} {wt : Bool} {p : Int} {L' : List E.TV} (h : fnd n f root room L d a wt = some (p, L')) : 0 ≤ p ∧ p < 18446744073709551616 := by
  unfold fnd at h
  revert h
  repeat' split
  all_goals intro h; cases h <;> exact plf_b _ _
def bkV (v : UV) (k : Int) : UV := if k = 0 then v else rcV v
def bkF (v : UV) (f : Nat → Int) (d k a : Int) : Nat → Int := if k = 0 then f else rcF v f d k a
set_option maxHeartbeats 1000000 in
theorem s_Access (w : World) (F : Nat → Prop) (u : Nat) (v : UV) (n : Nat) (f : Nat → Int) (room : Nat) (L : List E.TV) (h : US w F u v n f room L) (d a s : Int) (wt : Bool) (hd : isDev d = true) (a0 : 0 ≤ a) (a1 : a < 18446744073709551616) (s0 : -9223372036854775808 ≤ s) (s1 : s ≤ 9223372036854775807) (k p : Int) (L' : List E.TV) (hk : acF n f v room L d a s wt = (k, p, L')) :
    Calls Tryz.prog 17 #[.pointer (some ⟨u, 0, none⟩), .int .i64 d, .int .u64 a, .int .i64 s, .bool wt] w fun e w' => e = .returned (.tuple #[.int .u64 p, .bool (decide (k = 0))]) ∧ ∃ F', US w' F' u (bkV v k) n (bkF v f d k a) room L' ∧ Tn w F w' F' := by
  obtain ⟨S, g, h1, h2, h3, h4, h5⟩ := h
  obtain ⟨q0, q1⟩ := dev_cases hd
  have key : ∀ (c : Int) (LL : List E.TV) (w1 w' : World), c ≠ 0 → Only (E.Ft v.t g) w w1 → (∃ S', Iu w' u (rcV v) ∧ Mem w' S' v.m 0 n (rcF v f d c a) ∧ E.TM w' v.t g room LL ∧ Only (fun k => k = u ∨ S k) w1 w' ∧ ∀ k, S' k → S k ∨ w1.heap.size ≤ k) → ∃ F', US w' F' u (bkV v c) n (bkF v f d c a) room LL ∧ Tn w F w' F' := by
    rintro c LL w1 w' hc ho ⟨S', i1, i2, i3, i4, i5⟩
    refine ⟨fun k => k = u ∨ E.Ft v.t g k ∨ S' k, ⟨S', g, ?_, ?_, ?_, fun k => ?_, ?_⟩, ?_, ?_⟩
    · unfold bkV; rw [if_neg hc]; exact i1
    · unfold bkV bkF; rw [if_neg hc, if_neg hc, rcV_m]; exact i2
    · unfold bkV; rw [if_neg hc, rcV_t]; exact i3
    · unfold bkV; rw [if_neg hc, rcV_t]
    · unfold bkV; rw [if_neg hc]; exact rcV_ok h5
    · exact (ho.mono fun k _ q => (h4 k).2 (.inr (.inl q))).trans' i4 fun k _ q => (h4 k).2 (q.elim .inl fun z => .inr (.inr z))
    · intro k q
      rcases q with q | q | q
      · exact .inl ((h4 k).2 (.inl q))
      · exact .inl ((h4 k).2 (.inr (.inl q)))
      · exact (i5 k q).elim (fun z => .inl ((h4 k).2 (.inr (.inr z)))) fun z => .inr (Nat.le_trans ho.size z)
  unfold acF at hk
  cases e1 : whole a s
  · rw [if_pos e1] at hk
    cases hk
    refine (m_Access_size w u d a s wt hd a0 a1 e1 _ (fun w1 hb => m_rec w1 u v (h1.below hb) S n f (h2.below hb) g room L (h3.below hb) h5 d 4 a q0 q1 (by decide) (by decide) a0 a1 |>.mono fun _ w' hh => ⟨hh.1, key 4 L w1 w' (by decide) (Only.ofBelow hb) hh.2⟩)).mono ?_
    rintro e w' ⟨rfl, hr⟩
    exact ⟨rfl, hr⟩
  · rw [if_neg (by rw [e1]; decide)] at hk
    by_cases e2 : v.root d.toNat = 0
    · rw [if_pos e2] at hk
      cases hk
      refine (m_Access_none w u v h1 d a s wt hd a0 a1 e1 e2 _ (fun w1 hb => m_rec w1 u v (h1.below hb) S n f (h2.below hb) g room L (h3.below hb) h5 d 1 a q0 q1 (by decide) (by decide) a0 a1 |>.mono fun _ w' hh => ⟨hh.1, key 1 L w1 w' (by decide) (Only.ofBelow hb) hh.2⟩)).mono ?_
      rintro e w' ⟨rfl, hr⟩
      exact ⟨rfl, hr⟩
    · rw [if_neg e2] at hk
      have e2' : (v.root d.toNat == 0) = false := by simpa using e2
      have r0 := (h5.root d.toNat).1
      have r1 := (h5.root d.toNat).2
      cases e3 : fnd n f (v.root d.toNat) room L d a wt with
      | none =>
        rw [e3] at hk
        cases hk
        refine (m_Access_page w u v h1 S n f h2 g room L h3 d a s wt hd a0 a1 s0 s1 e1 e2' r0 r1 e3 _ (fun w1 i1 i2 i3 i4 => m_rec w1 u v i1 S n f i2 g room L i3 h5 d 2 a q0 q1 (by decide) (by decide) a0 a1 |>.mono fun _ w' hh => ⟨hh.1, key 2 L w1 w' (by decide) i4 hh.2⟩)).mono ?_
        rintro e w' ⟨rfl, hr⟩
        exact ⟨rfl, hr⟩
      | some q =>
        obtain ⟨pp, LL⟩ := q
        rw [e3] at hk
        have hb := fnd_b e3
        cases e4 : hasB 0 n pp s
        · simp only [e4] at hk
          cases hk
          refine (m_Access_bus w u v h1 S n f h2 g room L h3 d a s wt hd a0 a1 s0 s1 e1 e2' r0 r1 pp _ e3 hb.1 hb.2 e4 _ (fun w1 i1 i2 i3 i4 => m_rec w1 u v i1 S n f i2 g room _ i3 h5 d 3 a q0 q1 (by decide) (by decide) a0 a1 |>.mono fun _ w' hh => ⟨hh.1, key 3 _ w1 w' (by decide) i4 hh.2⟩)).mono ?_
          rintro e w' ⟨rfl, hr⟩
          exact ⟨rfl, hr⟩
        · simp only [e4] at hk
          cases hk
          refine (m_Access_ok w u v h1 S n f h2 g room L h3 d a s wt hd a0 a1 s0 s1 e1 e2' r0 r1 _ _ e3 hb.1 hb.2 e4).mono ?_
          rintro e w' ⟨rfl, i1, i2, i3, i4⟩
          exact ⟨rfl, F, ⟨S, g, i1, i2, i3, h4, h5⟩, i4.mono fun k _ q => (h4 k).2 (.inr (.inl q)), fun _ q => .inl q⟩
end Go.Proofs.YtfoafgbhelgjcaaGreat
namespace Go.Proofs.YtfoafgbhelgjcaaGreat
open Go.RowKit
open C (Only hid Mem Still ret_int ret_bool put byt nu RMem hasB)
set_option linter.unusedVariables false
set_option maxRecDepth 100000

/-- its cells: memory, TLB, roots, the list of messages' places, the ring, the flag -/
def RU (q r : Nat) (v : UV) (mv : Value) : Array Value := #[.pointer (some ⟨q, 0, none⟩), .pointer (some ⟨r, 0, none⟩), .int .u64 (v.root 0), .int .u64 (v.root 1), .int .u64 (v.root 2), .int .u64 (v.root 3), .int .u64 (v.root 4), .int .u64 (v.root 5), .int .u64 (v.root 6), .int .u64 (v.root 7), mv, .int .u64 v.addr, .bool v.there, .int .i64 v.first, .int .i64 v.count, .bool v.lost]
def Ru (w : World) (b q r : Nat) (v : UV) (mv : Value) : Prop := w.heap[b]? = some (.cells (RU q r v mv) 45 (0, 0))
section
variable {w w' : World} {b q r : Nat} {v v' : UV} {mv mv' : Value}
theorem Ru.lt (h : Ru w b q r v mv) : b < w.heap.size := lt_of_block h
theorem Ru.c (h : Ru w b q r v mv) (k : Nat) : w.cell? ⟨b, k, none⟩ = (RU q r v mv)[k]? := cell_of_row w b k _ _ _ h
theorem Ru.z (h : Ru w b q r v mv) (k : Nat) : w.frozen? ⟨b, k, none⟩ = false := frozen_of_row w b k _ _ h
theorem Ru.only (h : Ru w b q r v mv) {T : Nat → Prop} (ho : Only T w w') (hb : ¬ T b) : Ru w' b q r v mv := ho.old h hb
theorem Ru.below (h : Ru w b q r v mv) (hb : Below w.heap.size w w') : Ru w' b q r v mv := (hb.block b h.lt).trans h
theorem Ru.set (h : Ru w b q r v mv) (k : Nat) (x : Value) (he : (RU q r v mv).setIfInBounds k x = RU q r v' mv') : Ru (w.setCell ⟨b, k, none⟩ x) b q r v' mv' := by
  unfold Ru
  rw [setCell_eq_setRow w b k _ _ (0, 0) x h, he]
  exact setRow_heap w b _ _ _ _ h
theorem Ru.c0 (h : Ru w b q r v mv) : w.cell? ⟨b, 0, none⟩ = some (.pointer (some ⟨q, 0, none⟩)) := h.c 0
theorem Ru.c1 (h : Ru w b q r v mv) : w.cell? ⟨b, 1, none⟩ = some (.pointer (some ⟨r, 0, none⟩)) := h.c 1
theorem Ru.c10 (h : Ru w b q r v mv) : w.cell? ⟨b, 10, none⟩ = some mv := h.c 10
theorem Ru.c11 (h : Ru w b q r v mv) : w.cell? ⟨b, 11, none⟩ = some (.int .u64 v.addr) := h.c 11
theorem Ru.c12 (h : Ru w b q r v mv) : w.cell? ⟨b, 12, none⟩ = some (.bool v.there) := h.c 12
theorem Ru.c13 (h : Ru w b q r v mv) : w.cell? ⟨b, 13, none⟩ = some (.int .i64 v.first) := h.c 13
theorem Ru.c14 (h : Ru w b q r v mv) : w.cell? ⟨b, 14, none⟩ = some (.int .i64 v.count) := h.c 14
theorem Ru.c15 (h : Ru w b q r v mv) : w.cell? ⟨b, 15, none⟩ = some (.bool v.lost) := h.c 15
theorem Ru.cr (h : Ru w b q r v mv) (d : Nat) (hd : d < 8) : w.cell? ⟨b, 2 + d, none⟩ = some (.int .u64 (v.root d)) := by
  rw [h.c]
  match d, hd with
  | 0, _ => rfl
  | 1, _ => rfl
  | 2, _ => rfl
  | 3, _ => rfl
  | 4, _ => rfl
  | 5, _ => rfl
  | 6, _ => rfl
  | 7, _ => rfl
theorem Ru.sr (h : Ru w b q r v mv) (d : Nat) (hd : d < 8) (x : Int) : Ru (w.setCell ⟨b, 2 + d, none⟩ (.int .u64 x)) b q r (v.setRoot d x) mv := by
  refine h.set _ _ ?_
  match d, hd with
  | 0, _ => rfl
  | 1, _ => rfl
  | 2, _ => rfl
  | 3, _ => rfl
  | 4, _ => rfl
  | 5, _ => rfl
  | 6, _ => rfl
  | 7, _ => rfl
end
theorem k_none (w : World) (d : Int) (x : Bool) (hx : isDev d = x) : Calls Tryz.prog 53 #[.int .i64 d] w fun e w' => e = .returned (.bool (!x)) ∧ w' = w := by
  subst hx
  go_enter Tryz.func53, Tryz.ntmps53
  by_cases a : d < 0
  · go_wp2
    go_ret
    exact ⟨ret_bool (by simp [isDev]; omega), rfl⟩
  · go_wp2
    go_ret
    exact ⟨ret_bool (by rw [Bool.eq_iff_iff]; simp [isDev]; omega), rfl⟩
theorem k_Set_bad (w : World) (b : Nat) (d x : Int) (h : isDev d = false ∨ x = 0) : Calls Tryz.prog 21 #[.pointer (some ⟨b, 0, none⟩), .int .i64 d, .int .u64 x] w fun e w' => e = .returned (.int .i64 1) ∧ w' = w := by
  cases hd : isDev d
  · clear h
    go_enter Tryz.func21, Tryz.ntmps21
    go_wp2_with ((go_at_call 53; refine (k_none _ d false hd).mono ?_; rintro e w2 ⟨rfl, hw2⟩; obtain rfl := hw2.symm))
    go_ret
    exact ⟨rfl, rfl⟩
  · obtain rfl : x = 0 := by simpa [hd] using h
    clear h
    go_enter Tryz.func21, Tryz.ntmps21
    go_wp2_with ((go_at_call 53; refine (k_none _ d true hd).mono ?_; rintro e w2 ⟨rfl, hw2⟩; obtain rfl := hw2.symm))
    go_ret
    exact ⟨rfl, rfl⟩
theorem k_Set (w : World) (b q r : Nat) (v : UV) (mv : Value) (h : Ru w b q r v mv) (d x : Int) (hd : isDev d = true) (hx : (x == 0) = false) : Calls Tryz.prog 21 #[.pointer (some ⟨b, 0, none⟩), .int .i64 d, .int .u64 x] w fun e w' => e = .returned (.int .i64 0) ∧ Ru w' b q r (v.setRoot d.toNat x) mv ∧ Only (· = b) w w' := by
  obtain ⟨q0, q1⟩ := dev_cases hd
  have c1 := h.cr d.toNat (by omega)
  have f1 := h.z (2 + d.toNat)
  go_enter Tryz.func21, Tryz.ntmps21
  go_wp2_with ((go_at_call 53; refine (k_none _ d true hd).mono ?_; rintro e w2 ⟨rfl, hw2⟩; obtain rfl := hw2.symm))
  go_ret
  exact ⟨rfl, h.sr _ (by omega) _, only1 w b _ _⟩
theorem k_Drop_bad (w : World) (b : Nat) (d : Int) (hd : isDev d = false) : Calls Tryz.prog 25 #[.pointer (some ⟨b, 0, none⟩), .int .i64 d] w fun e w' => e = .returned (.int .i64 1) ∧ w' = w := by
  go_enter Tryz.func25, Tryz.ntmps25
  go_wp2_with ((go_at_call 53; refine (k_none _ d false hd).mono ?_; rintro e w2 ⟨rfl, hw2⟩; obtain rfl := hw2.symm))
  go_ret
  exact ⟨rfl, rfl⟩
theorem k_Drop (w : World) (b q r : Nat) (v : UV) (mv : Value) (h : Ru w b q r v mv) (d : Int) (hd : isDev d = true) : Calls Tryz.prog 25 #[.pointer (some ⟨b, 0, none⟩), .int .i64 d] w fun e w' => e = .returned (.int .i64 0) ∧ Ru w' b q r (v.setRoot d.toNat 0) mv ∧ Only (· = b) w w' := by
  obtain ⟨q0, q1⟩ := dev_cases hd
  have c1 := h.cr d.toNat (by omega)
  have f1 := h.z (2 + d.toNat)
  go_enter Tryz.func25, Tryz.ntmps25
  go_wp2_with ((go_at_call 53; refine (k_none _ d true hd).mono ?_; rintro e w2 ⟨rfl, hw2⟩; obtain rfl := hw2.symm))
  go_ret
  exact ⟨rfl, h.sr _ (by omega) _, only1 w b _ _⟩
def rootOf (v : UV) (d : Int) : Int := if isDev d = true then v.root d.toNat else 0
theorem k_Root (w : World) (b q r : Nat) (v : UV) (mv : Value) (h : Ru w b q r v mv) (d : Int) : Calls Tryz.prog 23 #[.pointer (some ⟨b, 0, none⟩), .int .i64 d] w fun e w' => e = .returned (.int .u64 (rootOf v d)) ∧ w' = w := by
  cases hd : isDev d
  · go_enter Tryz.func23, Tryz.ntmps23
    go_wp2_with ((go_at_call 53; refine (k_none _ d false hd).mono ?_; rintro e w2 ⟨rfl, hw2⟩; obtain rfl := hw2.symm))
    go_ret
    exact ⟨ret_int (by simp [rootOf, hd]), rfl⟩
  · obtain ⟨q0, q1⟩ := dev_cases hd
    have c1 := h.cr d.toNat (by omega)
    go_enter Tryz.func23, Tryz.ntmps23
    go_wp2_with ((go_at_call 53; refine (k_none _ d true hd).mono ?_; rintro e w2 ⟨rfl, hw2⟩; obtain rfl := hw2.symm))
    go_ret
    exact ⟨ret_int (by simp [rootOf, hd]), rfl⟩
theorem k_Ring (w : World) (b q r : Nat) (v : UV) (mv : Value) (h : Ru w b q r v mv) (T : Nat → Prop) (n : Nat) (f : Nat → Int) (hm : RMem w T q 0 n f) (a : Nat) (ha : a % 4096 = 0) (hl : a + 4096 ≤ 4096 * n) (hn : n ≤ 1024) (i : Int) (hi : i = a) : Calls Tryz.prog 37 #[.pointer (some ⟨b, 0, none⟩), .int .u64 i] w fun e w' => e = .returned (.int .i64 0) ∧ Ru w' b q r (v.setRing a) mv ∧ Only (· = b) w w' := by
  subst hi
  have c0 := h.c0
  have HU := hid h
  have HM := hid hm
  have hz : ((a : Int) % 4096 != 0) = false := by simp; omega
  have hb : hasB 0 n a 4096 = true := by simp [hasB]; omega
  clear h hm
  go_enter Tryz.func37, Tryz.ntmps37
  go_wp2_with ((go_at_call 58; refine (C.q_HasM _ T q 0 n f HM.out a 4096 (by omega) (by omega) (by decide) (by decide)).mono ?_; rw [hb]; rintro e w1 ⟨rfl, hs1⟩; have HU1 := hid (HU.out.below (hs1.below _)); have HO1 := hid (hs1.only (S := (· = b))); have f1 := HU1.out.z; have c2 := HU1.out.c11; have c3 := HU1.out.c12; have c4 := HU1.out.c13; have c5 := HU1.out.c14; clear hs1))
  go_ret
  exact ⟨rfl, (((HU1.out.set (v' := { v with addr := a }) (mv' := mv) 11 _ rfl).set (v' := { v with addr := a, there := true }) (mv' := mv) 12 _ rfl).set (v' := { v with addr := a, there := true, first := 0 }) (mv' := mv) 13 _ rfl).set (v' := v.setRing a) (mv' := mv) 14 _ rfl, (((HO1.out.trans (only1 _ b _ _)).trans (only1 _ b _ _)).trans (only1 _ b _ _)).trans (only1 _ b _ _)⟩
end Go.Proofs.YtfoafgbhelgjcaaGreat
namespace Go.Proofs.YtfoafgbhelgjcaaGreat
open Go.RowKit
open C (Only hid Mem Still ret_int ret_bool put byt nu RMem hasB)
set_option linter.unusedVariables false
set_option maxRecDepth 100000

theorem rmem_typ {w : World} {S : Nat → Prop} {p : Nat} {base : Int} {n : Nat} {f : Nat → Int} (h : RMem w S p base n f) {b : Nat} {c : Array Value} {t : TypeId} {fr : Nat × Nat} (hb : w.heap[b]? = some (.cells c t fr)) (h1 : t ≠ 94) (h2 : t ≠ 95) (h3 : t ≠ 5) : ¬ S b := by
  obtain ⟨g, hs, hr, _, hS⟩ := h
  intro hk
  rcases (hS b).1 hk with rfl | rfl | ⟨i, cc, hi⟩
  · rw [hr.top] at hb; simp at hb; exact h1 hb.2.1.symm
  · rw [hr.tab] at hb; simp at hb; exact h2 hb.2.1.symm
  · obtain ⟨_, cur, hg, _⟩ := hr.full i b cc hi
    rw [hg] at hb; simp at hb; exact h3 hb.2.1.symm
theorem ru_mem {w : World} {S : Nat → Prop} {n : Nat} {f : Nat → Int} {b q r : Nat} {v : UV} {mv : Value} (h : RMem w S q 0 n f) (hu : Ru w b q r v mv) : ¬ S b := rmem_typ h hu (by decide) (by decide) (by decide)
/-- a record of the document's under way -/
structure KJ (w0 : World) (S0 : Nat → Prop) (b q r : Nat) (v : UV) (mv : Value) (n : Nat) (w : World) (S : Nat → Prop) (f : Nat → Int) : Prop where
  hu : Ru w b q r v mv
  hm : RMem w S q 0 n f
  ho : Only S0 w0 w
  hs : ∀ k, S k → S0 k ∨ w0.heap.size ≤ k
theorem KJ.step {w0 : World} {S0 : Nat → Prop} {b q r : Nat} {v : UV} {mv : Value} {n : Nat} {w w' : World} {S S' : Nat → Prop} {f f' : Nat → Int} (h : KJ w0 S0 b q r v mv n w S f) (hm : RMem w' S' q 0 n f') (ho : Only S w w') (hs : ∀ k, S' k → S k ∨ w.heap.size ≤ k) : KJ w0 S0 b q r v mv n w' S' f' where
  hu := h.hu.only ho (ru_mem h.hm h.hu)
  hm := hm
  ho := h.ho.trans' ho fun i hi q => (h.hs i q).resolve_right (by omega)
  hs := fun k q => (hs k q).elim (fun z => h.hs k z) fun z => .inr (Nat.le_trans h.ho.size z)
theorem KJ.dn {w0 : World} {S0 : Nat → Prop} {b q r : Nat} {v : UV} {mv : Value} {n : Nat} {w : World} {S : Nat → Prop} {f : Nat → Int} (h : KJ w0 S0 b q r v mv n w S f) (m : Nat) : KJ w0 S0 b q r v mv n (w.drewN m) S f :=
  h.step (h.hm.below (below_dn (Below.refl _ _) m)) (Only.ofBelow (below_dn (Below.refl _ _) m)) fun k q => .inl q
theorem k_blocked_lost (w : World) (b q r : Nat) (v : UV) (mv : Value) (hu : Ru w b q r v mv) (d k a : Int) (h : v.there = false ∨ 255 ≤ v.count) : Calls Tryz.prog 54 #[.pointer (some ⟨b, 0, none⟩), .int .i64 d, .int .i64 k, .int .u64 a] w fun e w' => e = .returned (.tuple #[]) ∧ Ru w' b q r (v.setLost true) mv ∧ Only (· = b) w w' := by
  have c1 : w.cell? ⟨b, 12, none⟩ = some (.bool v.there) := hu.c 12
  have c2 : w.cell? ⟨b, 14, none⟩ = some (.int .i64 v.count) := hu.c 14
  have c3 : w.cell? ⟨b, 15, none⟩ = some (.bool v.lost) := hu.c 15
  have f1 := hu.z 15
  have HU := hid hu
  clear hu
  by_cases ht : v.there = false
  · rw [ht] at c1
    clear h
    go_enter Tryz.func54, Tryz.ntmps54
    go_wp2
    exact bodyPost_ret (results_none Tryz.results54 _ _ _) rfl ⟨rfl, HU.out.set 15 _ rfl, only1 w b _ _⟩
  · have ht' : v.there = true := by simpa using ht
    have hc : (255 ≤ (v.count : Int)) = True := by have := h.resolve_left ht; simp; omega
    rw [ht'] at c1
    clear h
    go_enter Tryz.func54, Tryz.ntmps54
    go_wp2
    exact bodyPost_ret (results_none Tryz.results54 _ _ _) rfl ⟨rfl, HU.out.set 15 _ rfl, only1 w b _ _⟩
theorem k_blocked (w : World) (b q r : Nat) (v : UV) (mv : Value) (hu : Ru w b q r v mv) (S : Nat → Prop) (n : Nat) (f : Nat → Int) (hm : RMem w S q 0 n f) (d k a : Int) (d0 : 0 ≤ d) (d1 : d < 8) (k0 : 0 ≤ k) (k1 : k < 8) (a0 : 0 ≤ a) (a1 : a < 18446744073709551616) (h : v.there = true) (hc : v.count < 255) (hf : v.first < 256) (ha : v.addr + 4096 ≤ 4096 * n) :
    Calls Tryz.prog 54 #[.pointer (some ⟨b, 0, none⟩), .int .i64 d, .int .i64 k, .int .u64 a] w fun e w' => e = .returned (.tuple #[]) ∧ ∃ S', Ru w' b q r (v.setCount (v.count + 1)) mv ∧ RMem w' S' q 0 n (rcf f (v.at v.count) d k a) ∧ Only (fun k => k = b ∨ S k) w w' ∧ ∀ k, S' k → S k ∨ w.heap.size ≤ k := by
  have n1 := hm.nums.2.2.2
  have c1 : w.cell? ⟨b, 12, none⟩ = some (.bool v.there) := hu.c 12
  have c2 : w.cell? ⟨b, 14, none⟩ = some (.int .i64 v.count) := hu.c 14
  have c3 : w.cell? ⟨b, 11, none⟩ = some (.int .u64 v.addr) := hu.c 11
  have c4 : w.cell? ⟨b, 13, none⟩ = some (.int .i64 v.first) := hu.c 13
  rw [h] at c1
  have hcc : (255 ≤ (v.count : Int)) = False := by simp; omega
  have hat : v.at v.count + 16 ≤ 4096 * n := by unfold UV.at; omega
  have HA : Hid ((v.addr : Int) + 16 * (((v.first : Int) + v.count) % 256) = ((v.at v.count : Nat) : Int)) := by show _ = _; unfold UV.at; omega
  have HJ0 : Hid (KJ w S b q r v mv n w S f) := ⟨hu, hm, Only.refl _, fun k q => .inl q⟩
  clear hu hm
  go_enter Tryz.func54, Tryz.ntmps54
  go_wp2_with fail
  go_quiet (fail)
  rw [HA.out]
  clear c1 c2 c3 c4
  rename_i nq
  have HJ1 := hid (HJ0.out.dn nq)
  obtain ⟨wb, hwb⟩ : ∃ wb, w.drewN nq = wb := ⟨_, rfl⟩
  rw [hwb] at HJ1
  rw [hwb]
  clear hwb HJ0 
  have c1 : wb.cell? ⟨b, 0, none⟩ = some (.pointer (some ⟨q, 0, none⟩)) := HJ1.out.hu.c 0
  have T1 : Hid True := trivial
  have T2 : Hid True := trivial
  go_wp2_with (first
    | (have t := T1; go_at_call 67; refine (C.q_Write _ S q 0 n f HJ1.out.hm (v.at v.count) 4 (by omega) (by omega) _ (by omega) d d0 (by omega)).mono ?_; clear t T1; rintro e w1 ⟨S1, rfl, hm1, ho1, hs1⟩; have HJ2 := hid (HJ1.out.step hm1 ho1 hs1); clear hm1 ho1 hs1 HJ1 c1; have c1 : w1.cell? ⟨b, 0, none⟩ = some (.pointer (some ⟨q, 0, none⟩)) := HJ2.out.hu.c 0)
    | (have t := T2; go_at_call 67; refine (C.q_Write _ S1 q 0 n _ HJ2.out.hm (v.at v.count + 4) 4 (by omega) (by omega) _ (by omega) k k0 (by omega)).mono ?_; clear t T2; rintro e w2 ⟨S2, rfl, hm1, ho1, hs1⟩; have HJ3 := hid (HJ2.out.step hm1 ho1 hs1); clear hm1 ho1 hs1 HJ2 c1; have c1 : w2.cell? ⟨b, 0, none⟩ = some (.pointer (some ⟨q, 0, none⟩)) := HJ3.out.hu.c 0)
    | (go_at_call 67; refine (C.q_Write _ S2 q 0 n _ HJ3.out.hm (v.at v.count + 8) 8 (by omega) (by omega) _ (by omega) a a0 a1).mono ?_; rintro e w3 ⟨S3, rfl, hm1, ho1, hs1⟩; have HJ4 := hid (HJ3.out.step hm1 ho1 hs1); clear hm1 ho1 hs1 HJ3 c1; have c1 : w3.cell? ⟨b, 14, none⟩ = some (.int .i64 v.count) := HJ4.out.hu.c 14; have f1 := HJ4.out.hu.z 14))
  have e1 : (v.count : Int) + 1 = ((v.count + 1 : Nat) : Int) := by omega
  rw [e1]
  refine bodyPost_end (results_none Tryz.results54 _ _ _) rfl ⟨rfl, S3, ?_, ?_, ?_, fun k q => HJ4.out.hs k q⟩
  · exact HJ4.out.hu.set 14 _ rfl
  · exact HJ4.out.hm.only (only1 w3 b _ _) (fun j hj q => ru_mem HJ4.out.hm HJ4.out.hu (q ▸ hj))
  · exact (HJ4.out.ho.mono fun j _ q => .inr q).trans' (only1 w3 b _ _) fun i _ q => .inl q
/-- whatever comes of it -/
theorem k_rec (w : World) (b q r : Nat) (v : UV) (mv : Value) (hu : Ru w b q r v mv) (S : Nat → Prop) (n : Nat) (f : Nat → Int) (hm : RMem w S q 0 n f) (ok : VOk v n) (d k a : Int) (d0 : 0 ≤ d) (d1 : d < 8) (k0 : 0 ≤ k) (k1 : k < 8) (a0 : 0 ≤ a) (a1 : a < 18446744073709551616) :
    Calls Tryz.prog 54 #[.pointer (some ⟨b, 0, none⟩), .int .i64 d, .int .i64 k, .int .u64 a] w fun e w' => e = .returned (.tuple #[]) ∧ ∃ S', Ru w' b q r (rcV v) mv ∧ RMem w' S' q 0 n (rcF v f d k a) ∧ Only (fun k => k = b ∨ S k) w w' ∧ ∀ k, S' k → S k ∨ w.heap.size ≤ k := by
  cases e : rcB v
  · refine (k_blocked_lost w b q r v mv hu d k a (by by_cases q : v.there = true; simp [rcB, q] at e; exact .inr e; exact .inl (by simpa using q))).mono ?_
    rintro x w' ⟨rfl, h1, h2⟩
    have hm' := hm.only h2 (fun j hj q => ru_mem hm hu (q ▸ hj))
    refine ⟨rfl, S, ?_, ?_, h2.mono fun _ _ q => .inl q, fun _ q => .inl q⟩
    · unfold rcV; rw [e]; exact h1
    · unfold rcF; rw [e]; exact hm'
  · simp [rcB] at e
    refine (k_blocked w b q r v mv hu S n f hm d k a d0 d1 k0 k1 a0 a1 e.1 e.2 ok.first (ok.ring e.1)).mono ?_
    rintro x w' ⟨rfl, S', h1, h2, h3, h4⟩
    have e' : rcB v = true := by simp [rcB, e]
    refine ⟨rfl, S', ?_, ?_, h3, h4⟩
    · unfold rcV; rw [e']; exact h1
    · unfold rcF; rw [e']; exact h2
end Go.Proofs.YtfoafgbhelgjcaaGreat
namespace Go.Proofs.YtfoafgbhelgjcaaGreat
open Go.RowKit
open C (Only hid Mem Still ret_int ret_bool put byt nu RMem hasB)
set_option linter.unusedVariables false
set_option maxRecDepth 100000

theorem k_Next_no (w : World) (b q r : Nat) (v : UV) (mv : Value) (hu : Ru w b q r v mv) (h : v.count = 0) : Calls Tryz.prog 28 #[.pointer (some ⟨b, 0, none⟩)] w fun e w' => e = .returned (.tuple #[.agg #[.int .i64 0, .int .i64 0, .int .u64 0], .bool false]) ∧ Below w.heap.size w w' := by
  have c1 : w.cell? ⟨b, 14, none⟩ = some (.int .i64 v.count) := hu.c 14
  have c2 : w.cell? ⟨b, 12, none⟩ = some (.bool v.there) := hu.c 12
  rw [h] at c1
  have hlt := hu.lt
  clear hu
  go_enter Tryz.func28, Tryz.ntmps28
  cases ht : v.there
  · rw [ht] at c2
    go_wp2
    go_returns
    exact ⟨rfl, ((Below.refl _ _).alloc (Nat.le_refl _) _)⟩
  · rw [ht] at c2
    go_wp2
    go_returns
    exact ⟨rfl, ((Below.refl _ _).alloc (Nat.le_refl _) _)⟩
theorem k_Next (w : World) (b q r : Nat) (v : UV) (mv : Value) (hu : Ru w b q r v mv) (S : Nat → Prop) (n : Nat) (f : Nat → Int) (hm : RMem w S q 0 n f) (ht : v.there = true) (hc0 : 0 < v.count) (hc : v.count < 256) (hf : v.first < 256) (ha : v.addr + 4096 ≤ 4096 * n) :
    Calls Tryz.prog 28 #[.pointer (some ⟨b, 0, none⟩)] w fun e w' => e = .returned (.tuple #[.agg #[.int .i64 (rdn f (v.at 0) 4), .int .i64 (rdn f (v.at 0 + 4) 4), .int .u64 (rdn f (v.at 0 + 8) 8)], .bool true]) ∧ Ru w' b q r ((v.setFirst ((v.first + 1) % 256)).setCount (v.count - 1)) mv ∧ Only (· = b) w w' := by
  have n1 := hm.nums.2.2.2
  have q1 := rdn4 hm.byt (v.at 0)
  have q2 := rdn4 hm.byt (v.at 0 + 4)
  have q3 := rdn8 hm.byt (v.at 0 + 8)
  have c1 : w.cell? ⟨b, 12, none⟩ = some (.bool v.there) := hu.c 12
  have c2 : w.cell? ⟨b, 14, none⟩ = some (.int .i64 v.count) := hu.c 14
  have hz : ((v.count : Int) == 0) = false := by simp; omega
  rw [ht] at c1
  have hlt := hu.lt
  have HU := hid hu
  have HM := hid hm
  have hat : v.at 0 + 16 ≤ 4096 * n := by unfold UV.at; omega
  have T1 : Hid True := trivial
  have T2 : Hid True := trivial
  have HA : Hid ((v.addr : Int) + 16 * (v.first : Int) = ((v.at 0 : Nat) : Int)) := by show _ = _; unfold UV.at; omega
  have R1 : nu (fun j => f (v.at 0 + j)) 4 = rdn f (v.at 0) 4 := rfl
  have R2 : nu (fun j => f (v.at 0 + 4 + j)) 4 = rdn f (v.at 0 + 4) 4 := rfl
  have R3 : nu (fun j => f (v.at 0 + 8 + j)) 8 = rdn f (v.at 0 + 8) 8 := rfl
  have HRR := hid (And.intro R1 (And.intro R2 R3))
  clear hu hm R1 R2 R3
  generalize rdn f (v.at 0) 4 = x1 at *
  generalize rdn f (v.at 0 + 4) 4 = x2 at *
  generalize rdn f (v.at 0 + 8) 8 = x3 at *
  go_enter Tryz.func28, Tryz.ntmps28
  go_wp2_with fail
  obtain ⟨wa, hwa⟩ : ∃ wa, w.alloc (.cells #[.int .i64 0, .int .i64 0, .int .u64 0] 79) = wa := ⟨_, rfl⟩
  have HBa : Hid (Below w.heap.size w wa) := hwa ▸ (Below.refl _ _).alloc (Nat.le_refl _) _
  have HB0 : Hid (wa.heap[w.heap.size]? = some (.cells #[.int .i64 0, .int .i64 0, .int .u64 0] 79 (0, 0))) := hwa ▸ heap_alloc_new w _
  rw [hwa]
  clear c1 c2 hwa
  have c1 : wa.cell? ⟨b, 11, none⟩ = some (.int .u64 v.addr) := (HU.out.below HBa.out).c 11
  have c2 : wa.cell? ⟨b, 13, none⟩ = some (.int .i64 v.first) := (HU.out.below HBa.out).c 13
  go_quiet (fail)
  rw [HA.out]
  clear c1 c2
  obtain ⟨wb, hwb⟩ : ∃ wb, wa.drewN nq = wb := ⟨_, rfl⟩
  have HB1 : Hid (Below w.heap.size w wb) := hwb ▸ below_dn HBa.out nq
  have hb0 : wb.heap[w.heap.size]? = some (.cells #[.int .i64 0, .int .i64 0, .int .u64 0] 79 (0, 0)) := by rw [← hwb]; exact HB0.out
  clear HB0
  have HB0 := hid hb0
  clear hb0
  rw [hwb]
  clear hwb HBa
  have k1 : wb.cell? ⟨b, 0, none⟩ = some (.pointer (some ⟨q, 0, none⟩)) := (HU.out.below HB1.out).c 0
  go_wp2_with (first
    | (have t := T1; go_at_call 61; refine (C.q_Read _ S q 0 n f (HM.out.below HB1.out) (v.at 0) 4 (by omega) (by omega) _ (by omega)).mono ?_; rw [HRR.out.1]; clear t T1; rintro e w2 ⟨rfl, hs2⟩; have hb2 := hs2.below w.heap.size; have HB2 := hid (HB1.out.trans hb2); have hb0 := ((hs2.below wb.heap.size).block w.heap.size (lt_of_block HB0.out)).trans HB0.out; clear HB0 hb2 hs2; have HB0 := hid hb0; clear hb0; have k2 : w2.cell? ⟨b, 0, none⟩ = some (.pointer (some ⟨q, 0, none⟩)) := (HU.out.below HB2.out).c 0)
    | (have t := T2; go_at_call 61; refine (C.q_Read _ S q 0 n f (HM.out.below HB2.out) (v.at 0 + 4) 4 (by omega) (by omega) _ (by omega)).mono ?_; rw [HRR.out.2.1]; clear t T2; rintro e w3 ⟨rfl, hs2⟩; have hb2 := hs2.below w.heap.size; have HB3 := hid (HB2.out.trans hb2); have hb0 := ((hs2.below w2.heap.size).block w.heap.size (lt_of_block HB0.out)).trans HB0.out; clear HB0 hb2 hs2; have HB0 := hid hb0; clear hb0; have k3 : w3.cell? ⟨b, 0, none⟩ = some (.pointer (some ⟨q, 0, none⟩)) := (HU.out.below HB3.out).c 0))
  go_at_call 61
  refine (C.q_Read _ S q 0 n f (HM.out.below HB3.out) (v.at 0 + 8) 8 (by omega) (by omega) _ (by omega)).mono ?_
  rw [HRR.out.2.2]
  rintro e w4 ⟨rfl, hs2⟩
  have HB4 := hid (HB3.out.trans (hs2.below w.heap.size))
  have hb0 := ((hs2.below w3.heap.size).block w.heap.size (lt_of_block HB0.out)).trans HB0.out
  clear HB0 hs2
  have HU4 := hid (HU.out.below HB4.out)
  have k4 : w4.cell? ⟨b, 13, none⟩ = some (.int .i64 v.first) := HU4.out.c 13
  have k5 : w4.cell? ⟨b, 14, none⟩ = some (.int .i64 v.count) := HU4.out.c 14
  have kf := HU4.out.z
  have y0 : w4.cell? ⟨w.heap.size, 0, none⟩ = some (.int .i64 0) := by (rw [cell_of_row w4 _ 0 _ _ _ hb0]; rfl)
  have y1 : w4.cell? ⟨w.heap.size, 1, none⟩ = some (.int .i64 0) := by (rw [cell_of_row w4 _ 1 _ _ _ hb0]; rfl)
  have y2 : w4.cell? ⟨w.heap.size, 2, none⟩ = some (.int .u64 0) := by (rw [cell_of_row w4 _ 2 _ _ _ hb0]; rfl)
  have yf : ∀ j, w4.frozen? ⟨w.heap.size, j, none⟩ = false := fun j => frozen_of_row w4 _ j _ _ hb0
  have hne : (b = w.heap.size) = False := by (simp; omega)
  have hne' : (w.heap.size = b) = False := by (simp; omega)
  go_wp2
  have e1 : ((v.first : Int) + 1) % 256 = (((v.first + 1) % 256 : Nat) : Int) := by omega
  have e2 : (v.count : Int) - 1 = ((v.count - 1 : Nat) : Int) := by omega
  rw [e1, e2]
  have hb5 := ((only1 w4 b 13 (.int .i64 (((v.first + 1) % 256 : Nat) : Int))).trans (only1 _ b 14 (.int .i64 ((v.count - 1 : Nat) : Int)))).old hb0 (by omega)
  have hu5 := (HU4.out.set (v' := v.setFirst ((v.first + 1) % 256)) (mv' := mv) 13 (.int .i64 (((v.first + 1) % 256 : Nat) : Int)) rfl).set (v' := (v.setFirst ((v.first + 1) % 256)).setCount (v.count - 1)) (mv' := mv) 14 (.int .i64 ((v.count - 1 : Nat) : Int)) rfl
  have ho5 := (only1 w4 b 13 (.int .i64 (((v.first + 1) % 256 : Nat) : Int))).trans (only1 _ b 14 (.int .i64 ((v.count - 1 : Nat) : Int)))
  clear kf k4 k5 y0 y1 y2 yf
  generalize (w4.setCell ⟨b, 13, none⟩ (.int .i64 (((v.first + 1) % 256 : Nat) : Int))).setCell ⟨b, 14, none⟩ (.int .i64 ((v.count - 1 : Nat) : Int)) = w5 at *
  have h6 := set3 hb5 (.int .i64 x1) (.int .i64 x2) (.int .u64 x3)
  have ho6 := ((Only.refl (S := (· = w.heap.size)) w5).setCell (p := ⟨w.heap.size, 0, none⟩) (.inl rfl) (.int .i64 x1)).setCell (p := ⟨w.heap.size, 1, none⟩) (.inl rfl) (.int .i64 x2)
  have ho6 := ho6.setCell (p := ⟨w.heap.size, 2, none⟩) (.inl rfl) (.int .u64 x3)
  generalize ((w5.setCell ⟨w.heap.size, 0, none⟩ (.int .i64 x1)).setCell ⟨w.heap.size, 1, none⟩ (.int .i64 x2)).setCell ⟨w.heap.size, 2, none⟩ (.int .u64 x3) = w6 at *
  have y0 : w6.cell? ⟨w.heap.size, 0, none⟩ = some (.int .i64 x1) := by rw [cell_of_row w6 _ 0 _ _ _ h6]; rfl
  have y1 : w6.cell? ⟨w.heap.size, 1, none⟩ = some (.int .i64 x2) := by rw [cell_of_row w6 _ 1 _ _ _ h6]; rfl
  have y2 : w6.cell? ⟨w.heap.size, 2, none⟩ = some (.int .u64 x3) := by rw [cell_of_row w6 _ 2 _ _ _ h6]; rfl
  refine bodyPost_ret (by simp [results, Tryz.results28, go_sem, y0, y1, y2]; rfl) rfl ?_
  refine ⟨rfl, hu5.only ho6 (by omega), ?_⟩
  exact (Only.ofBelow HB4.out |>.trans ho5).trans' (ho6.mono (T := fun k => w.heap.size ≤ k) fun k _ q => by omega) fun i hi q => by omega
end Go.Proofs.YtfoafgbhelgjcaaGreat
