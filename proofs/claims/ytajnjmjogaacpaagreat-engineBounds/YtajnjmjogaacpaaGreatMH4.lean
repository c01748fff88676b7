/- An access: which block comes, or where it comes to. -/
import Derived.Test.YtajnjmjogaacpaaGreatIG
import Derived.Great.BuildSlice
import Derived.Test.YtajnjmjogaacpaaGreatCPF
import Derived.Test.YtajnjmjogaacpaaGreatMH2
import Derived.Test.YtajnjmjogaacpaaGreatMC3
namespace Go.Proofs.YtajnjmjogaacpaaGreat
open Go.RowKit
open C (Only hid Mem Still ret_int ret_bool put byt nu WB WB.cell Calls.wb wp_region_wb hasB gst rdm)
set_option linter.unusedVariables false
set_option maxRecDepth 100000

theorem m_Access_no (w : World) (u : Nat) (d a s : Int) (wt : Bool) (hd : isDev d = false) : Calls Tryz.prog 12 #[.pointer (some ⟨u, 0, none⟩), .int .i64 d, .int .u64 a, .int .i64 s, .bool wt] w fun e w' => e = .returned (.tuple #[.int .u64 0, .bool false]) ∧ w' = w := by
  go_enter Tryz.func12, Tryz.ntmps12
  go_wp2_with (first
    | (go_at_call 22; refine (m_isDevice _ d false hd).mono ?_; rintro e w2 ⟨rfl, hw2⟩; obtain rfl := hw2.symm))

  go_ret2
  exact ⟨rfl, rfl⟩
/-- the record under way: its block, the bytes beside it as they were -/
def Rk (w : World) (r : Nat) (d k a : Int) : Prop := w.heap[r]? = some (.cells #[.int .i64 d, .int .i64 k, .int .u64 a] 57 (0, 0))
section
variable {w w' : World} {r : Nat} {d k a : Int}
theorem Rk.lt (h : Rk w r d k a) : r < w.heap.size := lt_of_block h
theorem Rk.c0 (h : Rk w r d k a) : w.cell? ⟨r, 0, none⟩ = some (.int .i64 d) := by rw [cell_of_row w r 0 _ _ _ h]; rfl
theorem Rk.c1 (h : Rk w r d k a) : w.cell? ⟨r, 1, none⟩ = some (.int .i64 k) := by rw [cell_of_row w r 1 _ _ _ h]; rfl
theorem Rk.c2 (h : Rk w r d k a) : w.cell? ⟨r, 2, none⟩ = some (.int .u64 a) := by rw [cell_of_row w r 2 _ _ _ h]; rfl
theorem Rk.z (h : Rk w r d k a) (j : Nat) : w.frozen? ⟨r, j, none⟩ = false := frozen_of_row w r j _ _ h
theorem Rk.below (h : Rk w r d k a) (hb : Below w.heap.size w w') : Rk w' r d k a := (hb.block r h.lt).trans h
theorem Rk.set (h : Rk w r d k a) (q : Int) : Rk (w.setCell ⟨r, 1, none⟩ (.int .i64 q)) r d q a := by
  unfold Rk
  rw [setCell_eq_setRow w r 1 _ _ (0, 0) _ h]
  exact setRow_heap w r _ _ _ _ h
end
theorem ac_new (w : World) (d a s : Int) (wt : Bool) (o : Obj) (n : Nat) : Ac (((w.alloc (.cells #[.int .i64 d, .int .u64 a, .int .i64 s, .bool wt, .int .u64 0] 112)).alloc o).drewN n) w.heap.size d a s wt 0 :=
  ((Below.refl (w.alloc (.cells #[.int .i64 d, .int .u64 a, .int .i64 s, .bool wt, .int .u64 0] 112)).heap.size _).alloc (Nat.le_refl _) o).block _ (by simp) |>.trans (heap_alloc_new w _)
theorem rk_new (w : World) (o : Obj) (d a : Int) (n : Nat) : Rk (((w.alloc o).alloc (.cells #[.int .i64 d, .int .i64 0, .int .u64 a] 57)).drewN n) (w.heap.size + 1) d 0 a := by
  have e : (w.alloc o).heap.size = w.heap.size + 1 := by simp
  rw [← e]
  exact heap_alloc_new (w.alloc o) _
theorem cell_new (w : World) (b k : Nat) (cs : Array Value) (t : TypeId) (h : w.heap.size = b) : (w.alloc (.cells cs t)).cell? ⟨b, k, none⟩ = cs[k]? := by
  subst h
  exact cell_of_row _ _ k cs t (0, 0) (heap_alloc_new w _)
theorem bl_new (w : World) (o o' : Obj) (n : Nat) : Below w.heap.size w (((w.alloc o).alloc o').drewN n) := below_dn (((Below.refl _ _).alloc (Nat.le_refl _) _).alloc (by simp) _) n
theorem bl_set {B : Nat} {w0 w : World} (h : Below B w0 w) {r : Nat} (hr : B ≤ r) (hB : B ≤ w.heap.size) (k : Int) (o : Obj) : Below B w0 ((w.setCell ⟨r, 1, none⟩ (.int .i64 k)).alloc o) := (h.setCell (p := ⟨r, 1, none⟩) hr _).alloc (by simpa using hB) _
set_option maxHeartbeats 2000000 in
theorem m_Access_size (w : World) (u : Nat) (d a s : Int) (wt : Bool) (hd : isDev d = true) (a0 : 0 ≤ a) (a1 : a < 18446744073709551616) (hw : whole a s = false) (R : World → Prop)
    (hr : ∀ w1, Below w.heap.size w w1 → Calls Tryz.prog 27 #[.pointer (some ⟨u, 0, none⟩), .agg #[.int .i64 d, .int .i64 4, .int .u64 a]] w1 fun e w' => e = .returned (.tuple #[]) ∧ R w') :
    Calls Tryz.prog 12 #[.pointer (some ⟨u, 0, none⟩), .int .i64 d, .int .u64 a, .int .i64 s, .bool wt] w fun e w' => e = .returned (.tuple #[.int .u64 0, .bool false]) ∧ R w' := by
  have HR := hid hr
  clear hr
  have T1 : Hid True := trivial
  have T2 : Hid True := trivial
  have T3 : Hid True := trivial
  go_enter Tryz.func12, Tryz.ntmps12
  go_wp2_with (first
    | (go_at_call 22; refine (m_isDevice _ d true hd).mono ?_; rintro e w2 ⟨rfl, hw2⟩; obtain rfl := hw2.symm)
    | (go_at_call 24; refine (m_isWhole _ _ a s a0 a1 (by simp) (by simp)).mono ?_; rw [hw]; rintro e w3 ⟨rfl, nq, hw3⟩; have HB3 : Hid (Below w.heap.size w w3) := hw3 ▸ bl_new w _ _ nq; have HK3 : Hid (Rk w3 (w.heap.size + 1) d 0 a) := hw3 ▸ rk_new w _ d a nq; clear hw3; have k0 := HK3.out.c0; have k1 := HK3.out.c1; have k2 := HK3.out.c2; have kz := HK3.out.z; have kl := HK3.out.lt)
    | (have t := T1; go_at_call 25; refine (m_Or _ _ _ 4 1 ?_ ?_ (by decide)).mono ?_; (exact (cell_new _ _ 0 _ _ (by simp)).trans rfl); (exact (cell_new _ _ 1 _ _ (by simp)).trans rfl); clear t T1; rw [show orI 4 1 = 4 from rfl]; rintro e w4 ⟨rfl, hw4⟩; have HB4 : Hid (Below w.heap.size w w4) := (by rw [hw4]; exact bl_set HB3.out (by omega) HB3.out.size 4 _); have HK4 : Hid (Rk w4 (w.heap.size + 1) d 4 a) := (by rw [hw4]; exact (HK3.out.set 4).below ((Below.refl _ _).alloc (Nat.le_refl _) _)); clear hw4 k0 k1 k2 kz kl; have k0 := HK4.out.c0; have k1 := HK4.out.c1; have k2 := HK4.out.c2; have kz := HK4.out.z; have kl := HK4.out.lt)
    | (have t := T2; go_at_call 25; refine (m_Or _ _ _ 4 2 ?_ ?_ (by decide)).mono ?_; (exact (cell_new _ _ 0 _ _ (by simp)).trans rfl); (exact (cell_new _ _ 1 _ _ (by simp)).trans rfl); clear t T2; rw [show orI 4 2 = 4 from rfl]; rintro e w5 ⟨rfl, hw5⟩; have HB5 : Hid (Below w.heap.size w w5) := (by rw [hw5]; exact bl_set HB4.out (by omega) HB4.out.size 4 _); have HK5 : Hid (Rk w5 (w.heap.size + 1) d 4 a) := (by rw [hw5]; exact (HK4.out.set 4).below ((Below.refl _ _).alloc (Nat.le_refl _) _)); clear hw5 k0 k1 k2 kz kl; have k0 := HK5.out.c0; have k1 := HK5.out.c1; have k2 := HK5.out.c2; have kz := HK5.out.z; have kl := HK5.out.lt)
    | (have t := T3; go_at_call 25; refine (m_Or _ _ _ 4 3 ?_ ?_ (by decide)).mono ?_; (exact (cell_new _ _ 0 _ _ (by simp)).trans rfl); (exact (cell_new _ _ 1 _ _ (by simp)).trans rfl); clear t T3; rw [show orI 4 3 = 4 from rfl]; rintro e w6 ⟨rfl, hw6⟩; have HB6 : Hid (Below w.heap.size w w6) := (by rw [hw6]; exact bl_set HB5.out (by omega) HB5.out.size 4 _); have HK6 : Hid (Rk w6 (w.heap.size + 1) d 4 a) := (by rw [hw6]; exact (HK5.out.set 4).below ((Below.refl _ _).alloc (Nat.le_refl _) _)); clear hw6 k0 k1 k2 kz kl; have k0 := HK6.out.c0; have k1 := HK6.out.c1; have k2 := HK6.out.c2; have kz := HK6.out.z; have kl := HK6.out.lt)
    | (go_at_call 27; refine (HR.out _ (HB6.out.setCell (p := ⟨w.heap.size + 1, 1, none⟩) (Nat.le_succ _) _)).mono ?_; rintro e w9 ⟨rfl, hr9⟩; have HR9 := hid hr9; clear hr9))
  go_ret2
  exact ⟨rfl, HR9.out⟩
set_option maxHeartbeats 2000000 in
theorem m_Access_none (w : World) (u : Nat) (v : UV) (hu : Iu w u v) (d a s : Int) (wt : Bool) (hd : isDev d = true) (a0 : 0 ≤ a) (a1 : a < 18446744073709551616) (hw : whole a s = true) (h0 : v.root d.toNat = 0) (R : World → Prop)
    (hr : ∀ w1, Below w.heap.size w w1 → Calls Tryz.prog 27 #[.pointer (some ⟨u, 0, none⟩), .agg #[.int .i64 d, .int .i64 1, .int .u64 a]] w1 fun e w' => e = .returned (.tuple #[]) ∧ R w') :
    Calls Tryz.prog 12 #[.pointer (some ⟨u, 0, none⟩), .int .i64 d, .int .u64 a, .int .i64 s, .bool wt] w fun e w' => e = .returned (.tuple #[.int .u64 0, .bool false]) ∧ R w' := by
  obtain ⟨q0, q1⟩ := dev_cases hd
  have HR := hid hr
  have HU := hid hu
  clear hr hu
  have T1 : Hid True := trivial
  have T2 : Hid True := trivial
  have T3 : Hid True := trivial
  go_enter Tryz.func12, Tryz.ntmps12
  go_wp2_with (first
    | (go_at_call 22; refine (m_isDevice _ d true hd).mono ?_; rintro e w2 ⟨rfl, hw2⟩; obtain rfl := hw2.symm)
    | (go_at_call 24; refine (m_isWhole _ _ a s a0 a1 (by simp) (by simp)).mono ?_; rw [hw]; rintro e w3 ⟨rfl, nq, hw3⟩; have HB3 : Hid (Below w.heap.size w w3) := hw3 ▸ bl_new w _ _ nq; have HK3 : Hid (Rk w3 (w.heap.size + 1) d 0 a) := hw3 ▸ rk_new w _ d a nq; have ku := (HU.out.below HB3.out).cr d.toNat (by omega); rw [h0] at ku; clear hw3; have k0 := HK3.out.c0; have k1 := HK3.out.c1; have k2 := HK3.out.c2; have kz := HK3.out.z; have kl := HK3.out.lt)
    | (have t := T1; go_at_call 25; refine (m_Or _ _ _ 0 1 ?_ ?_ (by decide)).mono ?_; (exact (cell_new _ _ 0 _ _ (by simp)).trans rfl); (exact (cell_new _ _ 1 _ _ (by simp)).trans rfl); clear t T1; rw [show orI 0 1 = 1 from rfl]; rintro e w4 ⟨rfl, hw4⟩; have HB4 : Hid (Below w.heap.size w w4) := (by rw [hw4]; exact HB3.out.alloc HB3.out.size _); have HK4 : Hid (Rk w4 (w.heap.size + 1) d 0 a) := (by rw [hw4]; exact HK3.out.below ((Below.refl _ _).alloc (Nat.le_refl _) _)); clear hw4 k0 k1 k2 kz kl; have k0 := HK4.out.c0; have k1 := HK4.out.c1; have k2 := HK4.out.c2; have kz := HK4.out.z; have kl := HK4.out.lt)
    | (have t := T2; go_at_call 25; refine (m_Or _ _ _ 1 2 ?_ ?_ (by decide)).mono ?_; (exact (cell_new _ _ 0 _ _ (by simp)).trans rfl); (exact (cell_new _ _ 1 _ _ (by simp)).trans rfl); clear t T2; rw [show orI 1 2 = 1 from rfl]; rintro e w5 ⟨rfl, hw5⟩; have HB5 : Hid (Below w.heap.size w w5) := (by rw [hw5]; exact bl_set HB4.out (by omega) HB4.out.size 1 _); have HK5 : Hid (Rk w5 (w.heap.size + 1) d 1 a) := (by rw [hw5]; exact (HK4.out.set 1).below ((Below.refl _ _).alloc (Nat.le_refl _) _)); clear hw5 k0 k1 k2 kz kl; have k0 := HK5.out.c0; have k1 := HK5.out.c1; have k2 := HK5.out.c2; have kz := HK5.out.z; have kl := HK5.out.lt)
    | (have t := T3; go_at_call 25; refine (m_Or _ _ _ 1 3 ?_ ?_ (by decide)).mono ?_; (exact (cell_new _ _ 0 _ _ (by simp)).trans rfl); (exact (cell_new _ _ 1 _ _ (by simp)).trans rfl); clear t T3; rw [show orI 1 3 = 1 from rfl]; rintro e w6 ⟨rfl, hw6⟩; have HB6 : Hid (Below w.heap.size w w6) := (by rw [hw6]; exact bl_set HB5.out (by omega) HB5.out.size 1 _); have HK6 : Hid (Rk w6 (w.heap.size + 1) d 1 a) := (by rw [hw6]; exact (HK5.out.set 1).below ((Below.refl _ _).alloc (Nat.le_refl _) _)); clear hw6 k0 k1 k2 kz kl; have k0 := HK6.out.c0; have k1 := HK6.out.c1; have k2 := HK6.out.c2; have kz := HK6.out.z; have kl := HK6.out.lt)
    | (go_at_call 27; refine (HR.out _ (HB6.out.setCell (p := ⟨w.heap.size + 1, 1, none⟩) (Nat.le_succ _) _)).mono ?_; rintro e w9 ⟨rfl, hr9⟩; have HR9 := hid hr9; clear hr9))
  go_ret2
  exact ⟨rfl, HR9.out⟩
end Go.Proofs.YtajnjmjogaacpaaGreat
namespace Go.Proofs.YtajnjmjogaacpaaGreat
open Go.RowKit
open C (Only hid Mem Still ret_int ret_bool put byt nu WB WB.cell Calls.wb wp_region_wb hasB gst rdm)
set_option linter.unusedVariables false
set_option maxRecDepth 100000

theorem iu_ft {w : World} {u : Nat} {v : UV} {t g room : Nat} {L : List E.TV} (h : Iu w u v) (ht : E.TM w t g room L) : ¬ E.Ft t g u := by
  obtain ⟨Z, hZ, -, -⟩ := ht.row
  rintro (rfl | rfl)
  · have := h.symm.trans ht.top; simp at this
  · have := Eq.trans (Eq.symm h) hZ; simp at this
theorem mem_ft {w : World} {S : Nat → Prop} {p n : Nat} {f : Nat → Int} {t g room : Nat} {L : List E.TV} (h : Mem w S p 0 n f) (ht : E.TM w t g room L) (k : Nat) (hk : S k) : ¬ E.Ft t g k := by
  obtain ⟨Z, hZ, -, -⟩ := ht.row
  rintro (rfl | rfl)
  · exact h.typ ht.top (by decide) (by decide) (by decide) hk
  · exact h.typ hZ (by decide) (by decide) (by decide) hk
/-- behind find -/
structure FK (w : World) (u : Nat) (v : UV) (S : Nat → Prop) (n : Nat) (f : Nat → Int) (g room : Nat) (L : List E.TV) (d k a : Int) (w' : World) : Prop where
  hu : Iu w' u v
  hm : Mem w' S v.m 0 n f
  ht : E.TM w' v.t g room L
  ho : Only (E.Ft v.t g) w w'
  k : Rk w' (w.heap.size + 1) d k a
  lt : u < w.heap.size
structure FJ (w : World) (u : Nat) (v : UV) (S : Nat → Prop) (n : Nat) (f : Nat → Int) (g room : Nat) (L : List E.TV) (d a s : Int) (wt : Bool) (p : Int) (w' : World) : Prop where
  hu : Iu w' u v
  hm : Mem w' S v.m 0 n f
  ht : E.TM w' v.t g room L
  ho : Only (E.Ft v.t g) w w'
  k : Rk w' (w.heap.size + 1) d 0 a
  a : Ac w' w.heap.size d a s wt p
  lt : u < w.heap.size
section
variable {w : World} {u : Nat} {v : UV} {S : Nat → Prop} {n : Nat} {f : Nat → Int} {g room : Nat} {L L' : List E.TV} {d k a s : Int} {wt : Bool} {p : Int} {w3 w4 w' : World}
theorem fj (hu : Iu w u v) (hm : Mem w S v.m 0 n f) (ht : E.TM w v.t g room L) (hb : Below w.heap.size w w3) (hk : Rk w3 (w.heap.size + 1) d 0 a) (ho : Only (fun k => k = w.heap.size ∨ E.Ft v.t g k) w3 w4) (hA : Ac w4 w.heap.size d a s wt p) (hT : E.TM w4 v.t g room L') : FJ w u v S n f g room L' d a s wt p w4 where
  hu := (hu.below hb).only ho (fun q => q.elim (fun z => by have := hu.lt; omega) (iu_ft hu ht))
  hm := (hm.below hb).only ho (fun k hk q => q.elim (fun z => by have := hm.lt hk; omega) (mem_ft hm ht k hk))
  ht := hT
  ho := (Only.ofBelow hb).trans' ho fun i hi q => q.elim (fun z => absurd z (by omega)) id
  k := ho.old hk (fun q => q.elim (fun z => by omega) (fun z => by have := ht.lt z; omega))
  a := hA
  lt := hu.lt
theorem FJ.fk (h : FJ w u v S n f g room L d a s wt p w') : FK w u v S n f g room L d 0 a w' := ⟨h.hu, h.hm, h.ht, h.ho, h.k, h.lt⟩
theorem FJ.below {w2 : World} (h : FJ w u v S n f g room L d a s wt p w') (hb : Below w'.heap.size w' w2) : FJ w u v S n f g room L d a s wt p w2 := ⟨h.hu.below hb, h.hm.below hb, h.ht.below hb, h.ho.trans (Only.ofBelow hb), h.k.below hb, h.a.below hb, h.lt⟩
theorem FK.alloc (h : FK w u v S n f g room L d k a w') (o : Obj) : FK w u v S n f g room L d k a (w'.alloc o) :=
  have hb := (Below.refl w'.heap.size w').alloc (Nat.le_refl _) o
  ⟨h.hu.below hb, h.hm.below hb, h.ht.below hb, h.ho.alloc o, h.k.below hb, h.lt⟩
theorem FK.set (h : FK w u v S n f g room L d k a w') (q : Int) : FK w u v S n f g room L d q a (w'.setCell ⟨w.heap.size + 1, 1, none⟩ (.int .i64 q)) :=
  have ho := only1 w' (w.heap.size + 1) 1 (.int .i64 q)
  ⟨h.hu.only ho (by have := h.lt; omega), h.hm.only ho (fun k hk z => h.hm.typ h.k (by decide) (by decide) (by decide) (z ▸ hk)),
   h.ht.only ho (fun k hk z => by
     obtain ⟨Z, hZ, -, -⟩ := h.ht.row
     have hk' := h.k
     rcases hk with rfl | rfl
     · rw [← z] at hk'; have := hk'.symm.trans h.ht.top; simp at this
     · rw [← z] at hk'; have := Eq.trans (Eq.symm hk') hZ; simp at this), h.ho.trans' ho (fun i hi z => by omega), h.k.set q, h.lt⟩
end
set_option maxHeartbeats 2000000 in
theorem m_Access_page (w : World) (u : Nat) (v : UV) (hu : Iu w u v) (S : Nat → Prop) (n : Nat) (f : Nat → Int) (hm : Mem w S v.m 0 n f) (g room : Nat) (L : List E.TV) (ht : E.TM w v.t g room L) (d a s : Int) (wt : Bool) (hd : isDev d = true) (a0 : 0 ≤ a) (a1 : a < 18446744073709551616) (s0 : -9223372036854775808 ≤ s) (s1 : s ≤ 9223372036854775807) (hw : whole a s = true) (h0 : (v.root d.toNat == 0) = false) (r0 : 0 ≤ v.root d.toNat) (r1 : v.root d.toNat < 18446744073709551616) (hf : fnd n f (v.root d.toNat) room L d a wt = none) (R : World → Prop)
    (hr : ∀ w1, Iu w1 u v → Mem w1 S v.m 0 n f → E.TM w1 v.t g room L → Only (E.Ft v.t g) w w1 → Calls Tryz.prog 27 #[.pointer (some ⟨u, 0, none⟩), .agg #[.int .i64 d, .int .i64 2, .int .u64 a]] w1 fun e w' => e = .returned (.tuple #[]) ∧ R w') :
    Calls Tryz.prog 12 #[.pointer (some ⟨u, 0, none⟩), .int .i64 d, .int .u64 a, .int .i64 s, .bool wt] w fun e w' => e = .returned (.tuple #[.int .u64 0, .bool false]) ∧ R w' := by
  obtain ⟨q0, q1⟩ := dev_cases hd
  have HU := hid hu
  have HM := hid hm
  have HT := hid ht
  clear hu hm ht
  have HR := hid hr
  clear hr
  have T2 : Hid True := trivial
  have T3 : Hid True := trivial
  go_enter Tryz.func12, Tryz.ntmps12
  go_wp2_with (first
    | (go_at_call 22; refine (m_isDevice _ d true hd).mono ?_; rintro e w2 ⟨rfl, hw2⟩; obtain rfl := hw2.symm)
    | (go_at_call 24; refine (m_isWhole _ _ a s a0 a1 (by simp) (by simp)).mono ?_; rw [hw]; rintro e w3 ⟨rfl, nq, hw3⟩; have HB3 : Hid (Below w.heap.size w w3) := hw3 ▸ bl_new w _ _ nq; have HK3 : Hid (Rk w3 (w.heap.size + 1) d 0 a) := hw3 ▸ rk_new w _ d a nq; have HA3 : Hid (Ac w3 w.heap.size d a s wt 0) := hw3 ▸ ac_new w d a s wt _ nq; clear hw3; have ku := (HU.out.below HB3.out).cr d.toNat (by omega))
    | (go_at_call 26; refine (m_find w3 u w.heap.size v (HU.out.below HB3.out) S n f (HM.out.below HB3.out) g room L (HT.out.below HB3.out) d a s wt a0 a1 HA3.out q0 q1 r0 r1).mono ?_; rw [hf]; rintro e w4 ⟨rfl, h1, h2, ho⟩; obtain ⟨hA, hT⟩ := h2 rfl; clear h1 h2; have HJ : Hid (FJ w u v S n f g room L d a s wt 0 w4) := fj HU.out HM.out HT.out HB3.out HK3.out ho hA hT; clear ho hA hT HB3 HK3 HA3 ku; have HK4 := hid HJ.out.k; have k0 := HK4.out.c0; have k1 := HK4.out.c1; have k2 := HK4.out.c2; have kz := HK4.out.z; have kl := HK4.out.lt)
    | (have t := T2; go_at_call 25; refine (m_Or _ _ _ 0 2 ?_ ?_ (by decide)).mono ?_; (exact (cell_new _ _ 0 _ _ (by simp)).trans rfl); (exact (cell_new _ _ 1 _ _ (by simp)).trans rfl); clear t T2; rw [show orI 0 2 = 2 from rfl]; rintro e w5 ⟨rfl, hw5⟩; have HJ5 : Hid (FK w u v S n f g room L d 0 a w5) := (by rw [hw5]; exact HJ.out.fk.alloc _); clear hw5 k0 k1 k2 kz kl; have HK5 := hid HJ5.out.k; have k0 := HK5.out.c0; have k1 := HK5.out.c1; have k2 := HK5.out.c2; have kz := HK5.out.z; have kl := HK5.out.lt)
    | (have t := T3; go_at_call 25; refine (m_Or _ _ _ 2 3 ?_ ?_ (by decide)).mono ?_; (exact (cell_new _ _ 0 _ _ (by simp)).trans rfl); (exact (cell_new _ _ 1 _ _ (by simp)).trans rfl); clear t T3; rw [show orI 2 3 = 2 from rfl]; rintro e w6 ⟨rfl, hw6⟩; have HJ6 : Hid (FK w u v S n f g room L d 2 a w6) := (by rw [hw6]; exact (HJ5.out.set 2).alloc _); clear hw6 k0 k1 k2 kz kl; have HK6 := hid HJ6.out.k; have k0 := HK6.out.c0; have k1 := HK6.out.c1; have k2 := HK6.out.c2; have kz := HK6.out.z; have kl := HK6.out.lt)
    | (go_at_call 27; refine (HR.out _ (HJ6.out.set 2).hu (HJ6.out.set 2).hm (HJ6.out.set 2).ht (HJ6.out.set 2).ho).mono ?_; rintro e w9 ⟨rfl, hr9⟩; have HR9 := hid hr9; clear hr9))
  go_ret2
  exact ⟨rfl, HR9.out⟩
set_option maxHeartbeats 2000000 in
theorem m_Access_bus (w : World) (u : Nat) (v : UV) (hu : Iu w u v) (S : Nat → Prop) (n : Nat) (f : Nat → Int) (hm : Mem w S v.m 0 n f) (g room : Nat) (L : List E.TV) (ht : E.TM w v.t g room L) (d a s : Int) (wt : Bool) (hd : isDev d = true) (a0 : 0 ≤ a) (a1 : a < 18446744073709551616) (s0 : -9223372036854775808 ≤ s) (s1 : s ≤ 9223372036854775807) (hw : whole a s = true) (h0 : (v.root d.toNat == 0) = false) (r0 : 0 ≤ v.root d.toNat) (r1 : v.root d.toNat < 18446744073709551616) (p : Int) (L' : List E.TV) (hf : fnd n f (v.root d.toNat) room L d a wt = some (p, L')) (p0 : 0 ≤ p) (p1 : p < 18446744073709551616) (hh : hasB 0 n p s = false) (R : World → Prop)
    (hr : ∀ w1, Iu w1 u v → Mem w1 S v.m 0 n f → E.TM w1 v.t g room L' → Only (E.Ft v.t g) w w1 → Calls Tryz.prog 27 #[.pointer (some ⟨u, 0, none⟩), .agg #[.int .i64 d, .int .i64 3, .int .u64 a]] w1 fun e w' => e = .returned (.tuple #[]) ∧ R w') :
    Calls Tryz.prog 12 #[.pointer (some ⟨u, 0, none⟩), .int .i64 d, .int .u64 a, .int .i64 s, .bool wt] w fun e w' => e = .returned (.tuple #[.int .u64 0, .bool false]) ∧ R w' := by
  obtain ⟨q0, q1⟩ := dev_cases hd
  have HU := hid hu
  have HM := hid hm
  have HT := hid ht
  clear hu hm ht
  have HR := hid hr
  clear hr
  have T3 : Hid True := trivial
  go_enter Tryz.func12, Tryz.ntmps12
  go_wp2_with (first
    | (go_at_call 22; refine (m_isDevice _ d true hd).mono ?_; rintro e w2 ⟨rfl, hw2⟩; obtain rfl := hw2.symm)
    | (go_at_call 24; refine (m_isWhole _ _ a s a0 a1 (by simp) (by simp)).mono ?_; rw [hw]; rintro e w3 ⟨rfl, nq, hw3⟩; have HB3 : Hid (Below w.heap.size w w3) := hw3 ▸ bl_new w _ _ nq; have HK3 : Hid (Rk w3 (w.heap.size + 1) d 0 a) := hw3 ▸ rk_new w _ d a nq; have HA3 : Hid (Ac w3 w.heap.size d a s wt 0) := hw3 ▸ ac_new w d a s wt _ nq; clear hw3; have ku := (HU.out.below HB3.out).cr d.toNat (by omega))
    | (go_at_call 26; refine (m_find w3 u w.heap.size v (HU.out.below HB3.out) S n f (HM.out.below HB3.out) g room L (HT.out.below HB3.out) d a s wt a0 a1 HA3.out q0 q1 r0 r1).mono ?_; rw [hf]; rintro e w4 ⟨rfl, h1, h2, ho⟩; obtain ⟨hA, hT⟩ := h1 p L' rfl; clear h1 h2; have HJ : Hid (FJ w u v S n f g room L' d a s wt p w4) := fj HU.out HM.out HT.out HB3.out HK3.out ho hA hT; clear ho hA hT HB3 HK3 HA3 ku; have HK4 := hid HJ.out.k; have k0 := HK4.out.c0; have k1 := HK4.out.c1; have k2 := HK4.out.c2; have kz := HK4.out.z; have kl := HK4.out.lt))
  have kh0 : ∀ t : WB w4, t.w.cell? ⟨w.heap.size, 4, none⟩ = some (.int .u64 p) := fun t => t.cell HJ.out.a.lt HJ.out.a.c4
  have kh1 : ∀ t : WB w4, t.w.cell? ⟨w.heap.size, 2, none⟩ = some (.int .i64 s) := fun t => t.cell HJ.out.a.lt HJ.out.a.c2
  have kh2 : ∀ t : WB w4, t.w.cell? ⟨u, 1, none⟩ = some (.pointer (some ⟨v.m, 0, none⟩)) := fun t => t.cell HJ.out.hu.lt HJ.out.hu.c1
  refine wp_region_wb (by kernel_rfl) (by kernel_rfl) ?_
  repeat
    first
      | (refine wpQuiet_step (fun K hK => ?_)
         go_simp
         first
           | (refine hK _ ?_; clear hK K)
           | (refine ⟨_, fun _ => rfl, hK _ ?_⟩; clear hK K)
           | (refine ⟨.bool false, fun t => ?_, hK _ ?_⟩
              · (go_at_call 21; exact Calls.wb t ((C.c_HasM t.w S v.m 0 n f (HJ.out.hm.below t.h) p s p0 p1 s0 s1 false hh).mono fun _ _ q => ⟨q.1, q.2.below _⟩))
              clear hK K))
  refine wpQuiet_nil ?_
  intro _ ht
  obtain ⟨t, rfl⟩ := ht
  have HJt := hid (HJ.out.below t.h)
  clear kh0 kh1 kh2 HJ HK4 k0 k1 k2 kz kl
  obtain ⟨w5, hw5⟩ : ∃ w5, t.w = w5 := ⟨_, rfl⟩
  rw [hw5] at HJt
  rw [hw5]
  clear hw5 t
  have HK5 := hid HJt.out.k
  have k0 := HK5.out.c0
  have k1 := HK5.out.c1
  have k2 := HK5.out.c2
  have kz := HK5.out.z
  have kl := HK5.out.lt
  go_wp2_with (first
    | (have t := T3; go_at_call 25; refine (m_Or _ _ _ 0 3 ?_ ?_ (by decide)).mono ?_; (exact (cell_new _ _ 0 _ _ (by simp)).trans rfl); (exact (cell_new _ _ 1 _ _ (by simp)).trans rfl); clear t T3; rw [show orI 0 3 = 3 from rfl]; rintro e w6 ⟨rfl, hw6⟩; have HJ6 : Hid (FK w u v S n f g room L' d 0 a w6) := (by rw [hw6]; exact HJt.out.fk.alloc _); clear hw6 k0 k1 k2 kz kl; have HK6 := hid HJ6.out.k; have k0 := HK6.out.c0; have k1 := HK6.out.c1; have k2 := HK6.out.c2; have kz := HK6.out.z; have kl := HK6.out.lt)
    | (go_at_call 27; refine (HR.out _ (HJ6.out.set 3).hu (HJ6.out.set 3).hm (HJ6.out.set 3).ht (HJ6.out.set 3).ho).mono ?_; rintro e w9 ⟨rfl, hr9⟩; have HR9 := hid hr9; clear hr9))
  go_ret2
  exact ⟨rfl, HR9.out⟩
set_option maxHeartbeats 2000000 in
theorem m_Access_ok (w : World) (u : Nat) (v : UV) (hu : Iu w u v) (S : Nat → Prop) (n : Nat) (f : Nat → Int) (hm : Mem w S v.m 0 n f) (g room : Nat) (L : List E.TV) (ht : E.TM w v.t g room L) (d a s : Int) (wt : Bool) (hd : isDev d = true) (a0 : 0 ≤ a) (a1 : a < 18446744073709551616) (s0 : -9223372036854775808 ≤ s) (s1 : s ≤ 9223372036854775807) (hw : whole a s = true) (h0 : (v.root d.toNat == 0) = false) (r0 : 0 ≤ v.root d.toNat) (r1 : v.root d.toNat < 18446744073709551616) (p : Int) (L' : List E.TV) (hf : fnd n f (v.root d.toNat) room L d a wt = some (p, L')) (p0 : 0 ≤ p) (p1 : p < 18446744073709551616) (hh : hasB 0 n p s = true) :
    Calls Tryz.prog 12 #[.pointer (some ⟨u, 0, none⟩), .int .i64 d, .int .u64 a, .int .i64 s, .bool wt] w fun e w' => e = .returned (.tuple #[.int .u64 p, .bool true]) ∧ Iu w' u v ∧ Mem w' S v.m 0 n f ∧ E.TM w' v.t g room L' ∧ Only (E.Ft v.t g) w w' := by
  obtain ⟨q0, q1⟩ := dev_cases hd
  have HU := hid hu
  have HM := hid hm
  have HT := hid ht
  clear hu hm ht
  go_enter Tryz.func12, Tryz.ntmps12
  go_wp2_with (first
    | (go_at_call 22; refine (m_isDevice _ d true hd).mono ?_; rintro e w2 ⟨rfl, hw2⟩; obtain rfl := hw2.symm)
    | (go_at_call 24; refine (m_isWhole _ _ a s a0 a1 (by simp) (by simp)).mono ?_; rw [hw]; rintro e w3 ⟨rfl, nq, hw3⟩; have HB3 : Hid (Below w.heap.size w w3) := hw3 ▸ bl_new w _ _ nq; have HK3 : Hid (Rk w3 (w.heap.size + 1) d 0 a) := hw3 ▸ rk_new w _ d a nq; have HA3 : Hid (Ac w3 w.heap.size d a s wt 0) := hw3 ▸ ac_new w d a s wt _ nq; clear hw3; have ku := (HU.out.below HB3.out).cr d.toNat (by omega))
    | (go_at_call 26; refine (m_find w3 u w.heap.size v (HU.out.below HB3.out) S n f (HM.out.below HB3.out) g room L (HT.out.below HB3.out) d a s wt a0 a1 HA3.out q0 q1 r0 r1).mono ?_; rw [hf]; rintro e w4 ⟨rfl, h1, h2, ho⟩; obtain ⟨hA, hT⟩ := h1 p L' rfl; clear h1 h2; have HJ : Hid (FJ w u v S n f g room L' d a s wt p w4) := fj HU.out HM.out HT.out HB3.out HK3.out ho hA hT; clear ho hA hT HB3 HK3 HA3 ku; have HK4 := hid HJ.out.k; have k0 := HK4.out.c0; have k1 := HK4.out.c1; have k2 := HK4.out.c2; have kz := HK4.out.z; have kl := HK4.out.lt))
  have kh0 : ∀ t : WB w4, t.w.cell? ⟨w.heap.size, 4, none⟩ = some (.int .u64 p) := fun t => t.cell HJ.out.a.lt HJ.out.a.c4
  have kh1 : ∀ t : WB w4, t.w.cell? ⟨w.heap.size, 2, none⟩ = some (.int .i64 s) := fun t => t.cell HJ.out.a.lt HJ.out.a.c2
  have kh2 : ∀ t : WB w4, t.w.cell? ⟨u, 1, none⟩ = some (.pointer (some ⟨v.m, 0, none⟩)) := fun t => t.cell HJ.out.hu.lt HJ.out.hu.c1
  refine wp_region_wb (by kernel_rfl) (by kernel_rfl) ?_
  repeat
    first
      | (refine wpQuiet_step (fun K hK => ?_)
         go_simp
         first
           | (refine hK _ ?_; clear hK K)
           | (refine ⟨_, fun _ => rfl, hK _ ?_⟩; clear hK K)
           | (refine ⟨.bool true, fun t => ?_, hK _ ?_⟩
              · (go_at_call 21; exact Calls.wb t ((C.c_HasM t.w S v.m 0 n f (HJ.out.hm.below t.h) p s p0 p1 s0 s1 true hh).mono fun _ _ q => ⟨q.1, q.2.below _⟩))
              clear hK K))
  refine wpQuiet_nil ?_
  intro _ ht
  obtain ⟨t, rfl⟩ := ht
  have HJt := hid (HJ.out.below t.h)
  clear kh0 kh1 kh2 HJ HK4 k0 k1 k2 kz kl
  obtain ⟨w5, hw5⟩ : ∃ w5, t.w = w5 := ⟨_, rfl⟩
  rw [hw5] at HJt
  rw [hw5]
  clear hw5 t
  have kp := HJt.out.a.c4
  go_wp2
  go_ret2
  exact ⟨rfl, HJt.out.hu, HJt.out.hm, HJt.out.ht, HJt.out.ho⟩
end Go.Proofs.YtajnjmjogaacpaaGreat
namespace Go.Proofs.YtajnjmjogaacpaaGreat
open Go.RowKit
open C (Only hid Mem Still ret_int ret_bool put byt nu WB WB.cell Calls.wb wp_region_wb hasB gst rdm)
set_option linter.unusedVariables false
set_option maxRecDepth 100000

theorem m_Message_no (w : World) (u : Nat) (d a i : Int) (hd : isDev d = false) : Calls Tryz.prog 125 #[.pointer (some ⟨u, 0, none⟩), .int .i64 d, .int .u64 a, .int .u64 i] w fun e w' => e = .returned (.tuple #[.agg #[.int .i64 0, .int .i64 0], .bool false]) ∧ Below w.heap.size w w' := by
  go_enter Tryz.func125, Tryz.ntmps125
  go_wp2_with (first
    | (go_at_call 22; refine (m_isDevice _ d false hd).mono ?_; rintro e w2 ⟨rfl, hw2⟩; obtain rfl := hw2.symm))
  go_returns
  exact ⟨rfl, (Below.refl _ _).alloc (Nat.le_refl _) _⟩
theorem m_Message_go (w : World) (u : Nat) (v : UV) (hu : Iu w u v) (d i : Int) (hd : isDev d = true) (i0 : 0 ≤ i) (i1 : i < 32) (hg : (v.mg (d.toNat * 32 + i.toNat) != 0) = true) : Calls Tryz.prog 125 #[.pointer (some ⟨u, 0, none⟩), .int .i64 d, .int .u64 4276092928, .int .u64 i] w fun e w' => e = .returned (.tuple #[.agg #[.int .i64 (v.mg (d.toNat * 32 + i.toNat)), .int .i64 (v.mi (d.toNat * 32 + i.toNat))], .bool true]) ∧ Below w.heap.size w w' := by
  obtain ⟨q0, q1⟩ := dev_cases hd
  have c1 := hu.cg d.toNat i.toNat (by omega) (by omega)
  have c2 := hu.ci d.toNat i.toNat (by omega) (by omega)
  have hlt := hu.lt
  go_enter Tryz.func125, Tryz.ntmps125
  go_wp2_with (first
    | (go_at_call 22; refine (m_isDevice _ d true hd).mono ?_; rintro e w2 ⟨rfl, hw2⟩; obtain rfl := hw2.symm))
  go_returns
  exact ⟨rfl, (Below.refl _ _).alloc (Nat.le_refl _) _⟩
theorem set2 {w : World} {b : Nat} {ty : TypeId} {a0 a1 : Value} (h : w.heap[b]? = some (.cells #[a0, a1] ty (0, 0))) (x y : Value) : ((w.setCell ⟨b, 0, none⟩ x).setCell ⟨b, 1, none⟩ y).heap[b]? = some (.cells #[x, y] ty (0, 0)) := by
  have s1 : (w.setCell ⟨b, 0, none⟩ x).heap[b]? = some (.cells #[x, a1] ty (0, 0)) := by rw [setCell_eq_setRow w b 0 _ _ (0, 0) x h]; exact setRow_heap w b _ _ _ _ h
  rw [setCell_eq_setRow _ b 1 _ _ (0, 0) y s1]
  exact setRow_heap _ b _ _ _ _ s1
/-- whether a message goes somewhere -/
def goes (v : UV) (d a i : Int) : Bool := decide (a = 4276092928) && decide (i < 32) && (v.mg (d.toNat * 32 + i.toNat) != 0)
theorem m_Message_bad (w : World) (u : Nat) (v : UV) (hu : Iu w u v) (d a i : Int) (hd : isDev d = true) (a0 : 0 ≤ a) (a1 : a < 18446744073709551616) (i0 : 0 ≤ i) (hg : goes v d a i = false) (R : World → Prop) (T : Nat → Prop) (hT : ∀ k, T k → k < w.heap.size)
    (hr : ∀ w1, Below w.heap.size w w1 → w.heap.size < w1.heap.size → Calls Tryz.prog 27 #[.pointer (some ⟨u, 0, none⟩), .agg #[.int .i64 d, .int .i64 5, .int .u64 a]] w1 fun e w' => e = .returned (.tuple #[]) ∧ R w' ∧ Only T w1 w') :
    Calls Tryz.prog 125 #[.pointer (some ⟨u, 0, none⟩), .int .i64 d, .int .u64 a, .int .u64 i] w fun e w' => e = .returned (.tuple #[.agg #[.int .i64 0, .int .i64 0], .bool false]) ∧ ∃ w1, R w1 ∧ Only (· = w.heap.size) w1 w' := by
  obtain ⟨q0, q1⟩ := dev_cases hd
  have hlt := hu.lt
  have HR := hid hr
  have HT := hid hT
  have HU := hid hu
  clear hr hT hu
  have key : ∀ Q : Prop, ((a == 4276092928) = false → Q) → (a = 4276092928 → (i < 32) = False → Q) → (a = 4276092928 → i < 32 → (v.mg (d.toNat * 32 + i.toNat) != 0) = false → Q) → Q := fun Q h1 h2 h3 => by
    by_cases e1 : a = 4276092928
    · by_cases e2 : i < 32
      · exact h3 e1 e2 (by simpa [goes, e1, e2] using hg)
      · exact h2 e1 (by simpa using e2)
    · exact h1 (by simpa using e1)
  clear hg
  refine key _ (fun k1 => ?_) (fun k1 k2 => ?_) (fun k1 k2 k3 => ?_)
  · clear key
    go_enter Tryz.func125, Tryz.ntmps125
    go_wp2_with (first
      | (go_at_call 22; refine (m_isDevice _ d true hd).mono ?_; rintro e w2 ⟨rfl, hw2⟩; obtain rfl := hw2.symm)
      | (go_at_call 27; refine (HR.out _ ((Below.refl _ _).alloc (Nat.le_refl _) _) (by simp)).mono ?_; rintro e w9 ⟨rfl, hr9, ho9⟩; have hb9 := ho9.old (heap_alloc_new w _) (fun q => by have := HT.out _ q; omega); have y0 : w9.cell? ⟨w.heap.size, 0, none⟩ = some (.int .i64 0) := (by rw [cell_of_row w9 _ 0 _ _ _ hb9]; rfl); have y1 : w9.cell? ⟨w.heap.size, 1, none⟩ = some (.int .i64 0) := (by rw [cell_of_row w9 _ 1 _ _ _ hb9]; rfl); have yf : ∀ j, w9.frozen? ⟨w.heap.size, j, none⟩ = false := (fun j => frozen_of_row w9 _ j _ _ hb9); have HR9 := hid hr9; have HB9 := hid hb9; clear hr9 ho9 hb9))
    have ho6 := (only1 w9 w.heap.size 0 (.int .i64 0)).trans (only1 _ w.heap.size 1 (.int .i64 0))
    have h6 := set2 HB9.out (.int .i64 0) (.int .i64 0)
    generalize (w9.setCell ⟨w.heap.size, 0, none⟩ (.int .i64 0)).setCell ⟨w.heap.size, 1, none⟩ (.int .i64 0) = w6 at *
    clear y0 y1 yf
    have y0 : w6.cell? ⟨w.heap.size, 0, none⟩ = some (.int .i64 0) := by rw [cell_of_row w6 _ 0 _ _ _ h6]; rfl
    have y1 : w6.cell? ⟨w.heap.size, 1, none⟩ = some (.int .i64 0) := by rw [cell_of_row w6 _ 1 _ _ _ h6]; rfl
    refine bodyPost_ret (by simp [results, Tryz.results125, go_sem, y0, y1]; rfl) rfl ?_
    exact ⟨rfl, w9, HR9.out, ho6⟩
  · clear key
    subst k1
    go_enter Tryz.func125, Tryz.ntmps125
    go_wp2_with (first
      | (go_at_call 22; refine (m_isDevice _ d true hd).mono ?_; rintro e w2 ⟨rfl, hw2⟩; obtain rfl := hw2.symm)
      | (go_at_call 27; refine (HR.out _ ((Below.refl _ _).alloc (Nat.le_refl _) _) (by simp)).mono ?_; rintro e w9 ⟨rfl, hr9, ho9⟩; have hb9 := ho9.old (heap_alloc_new w _) (fun q => by have := HT.out _ q; omega); have y0 : w9.cell? ⟨w.heap.size, 0, none⟩ = some (.int .i64 0) := (by rw [cell_of_row w9 _ 0 _ _ _ hb9]; rfl); have y1 : w9.cell? ⟨w.heap.size, 1, none⟩ = some (.int .i64 0) := (by rw [cell_of_row w9 _ 1 _ _ _ hb9]; rfl); have yf : ∀ j, w9.frozen? ⟨w.heap.size, j, none⟩ = false := (fun j => frozen_of_row w9 _ j _ _ hb9); have HR9 := hid hr9; have HB9 := hid hb9; clear hr9 ho9 hb9))
    have ho6 := (only1 w9 w.heap.size 0 (.int .i64 0)).trans (only1 _ w.heap.size 1 (.int .i64 0))
    have h6 := set2 HB9.out (.int .i64 0) (.int .i64 0)
    generalize (w9.setCell ⟨w.heap.size, 0, none⟩ (.int .i64 0)).setCell ⟨w.heap.size, 1, none⟩ (.int .i64 0) = w6 at *
    clear y0 y1 yf
    have y0 : w6.cell? ⟨w.heap.size, 0, none⟩ = some (.int .i64 0) := by rw [cell_of_row w6 _ 0 _ _ _ h6]; rfl
    have y1 : w6.cell? ⟨w.heap.size, 1, none⟩ = some (.int .i64 0) := by rw [cell_of_row w6 _ 1 _ _ _ h6]; rfl
    refine bodyPost_ret (by simp [results, Tryz.results125, go_sem, y0, y1]; rfl) rfl ?_
    exact ⟨rfl, w9, HR9.out, ho6⟩
  · clear key
    subst k1
    have c1 := HU.out.cg d.toNat i.toNat (by omega) (by omega)
    go_enter Tryz.func125, Tryz.ntmps125
    go_wp2_with (first
      | (go_at_call 22; refine (m_isDevice _ d true hd).mono ?_; rintro e w2 ⟨rfl, hw2⟩; obtain rfl := hw2.symm)
      | (go_at_call 27; refine (HR.out _ ((Below.refl _ _).alloc (Nat.le_refl _) _) (by simp)).mono ?_; rintro e w9 ⟨rfl, hr9, ho9⟩; have hb9 := ho9.old (heap_alloc_new w _) (fun q => by have := HT.out _ q; omega); have y0 : w9.cell? ⟨w.heap.size, 0, none⟩ = some (.int .i64 0) := (by rw [cell_of_row w9 _ 0 _ _ _ hb9]; rfl); have y1 : w9.cell? ⟨w.heap.size, 1, none⟩ = some (.int .i64 0) := (by rw [cell_of_row w9 _ 1 _ _ _ hb9]; rfl); have yf : ∀ j, w9.frozen? ⟨w.heap.size, j, none⟩ = false := (fun j => frozen_of_row w9 _ j _ _ hb9); have HR9 := hid hr9; have HB9 := hid hb9; clear hr9 ho9 hb9))
    have ho6 := (only1 w9 w.heap.size 0 (.int .i64 0)).trans (only1 _ w.heap.size 1 (.int .i64 0))
    have h6 := set2 HB9.out (.int .i64 0) (.int .i64 0)
    generalize (w9.setCell ⟨w.heap.size, 0, none⟩ (.int .i64 0)).setCell ⟨w.heap.size, 1, none⟩ (.int .i64 0) = w6 at *
    clear y0 y1 yf
    have y0 : w6.cell? ⟨w.heap.size, 0, none⟩ = some (.int .i64 0) := by rw [cell_of_row w6 _ 0 _ _ _ h6]; rfl
    have y1 : w6.cell? ⟨w.heap.size, 1, none⟩ = some (.int .i64 0) := by rw [cell_of_row w6 _ 1 _ _ _ h6]; rfl
    refine bodyPost_ret (by simp [results, Tryz.results125, go_sem, y0, y1]; rfl) rfl ?_
    exact ⟨rfl, w9, HR9.out, ho6⟩
end Go.Proofs.YtajnjmjogaacpaaGreat
namespace Go.Proofs.YtajnjmjogaacpaaGreat
open Go.RowKit
open C (Only hid Mem Still ret_int ret_bool put byt nu WB WB.cell Calls.wb wp_region_wb hasB gst rdm)
set_option linter.unusedVariables false
set_option maxRecDepth 100000

/-- an IOMMU that is new -/
def v0 (t m : Nat) : UV := ⟨t, m, fun _ => 0, fun _ => 0, fun _ => 0, false, 0, 0, 0, false⟩
theorem built_u (t m : Nat) : Tryz.prog.built 80 [(0, .pointer (some ⟨t, 0, none⟩)), (1, .pointer (some ⟨m, 0, none⟩))] = some (v0 t m).ca := by kernel_rfl
theorem wpL_build {P : Program} {ops : Array Oper} {rest : List Oper} {d : Option Nat} {t tt : TypeId} {L : List (Nat × Operand)} {pos : String} {after : Array Edge} {a : Act} {w : World} {Q : Exit → Act → World → Prop} (X : List (Nat × Value)) (cells : Array Value)
    (hX : (L.map fun p => (p.1, a.eval p.2)) = X) (hf : P.built t X = some cells) (h : wpList P ops Q rest (a.put d (.agg cells)) w) : wpList P ops Q ({ dst := d, op := Op.build t L.toArray, type := tt, pos := pos, after := after, guard := none } :: rest) a w :=
  wpList_buildTo rfl t L.toArray rfl d rfl cells (by rw [List.map_toArray]; rw [← hX] at hf; exact hf) h
theorem m_New (w : World) (m room : Nat) (h0 : 0 < room) (h1 : room ≤ 64) (r : Int) (hr : r = room) : Calls Tryz.prog 19 #[.pointer (some ⟨m, 0, none⟩), .int .i64 r] w fun e w' => ∃ u t g, e = .returned (.tuple #[.pointer (some ⟨u, 0, none⟩), .int .i64 0]) ∧ Iu w' u (v0 t m) ∧ E.TM w' t g room [] ∧ Below w.heap.size w w' ∧ w.heap.size ≤ u ∧ ∀ k, E.Ft t g k → w.heap.size ≤ k := by
  subst hr
  go_enter Tryz.func19, Tryz.ntmps19
  go_wp2_with (first
    | (go_at_call 36; refine (E.c_New _ room h0 h1 _ rfl).mono ?_; rintro e w1 ⟨t, g, rfl, ht, hb, hf⟩; have HT := hid ht; have HB := hid hb; have HF := hid hf; clear ht hb hf; have hbu := built_u t m; obtain ⟨cc, hcc⟩ : ∃ cc, (v0 t m).ca = cc := ⟨_, rfl⟩; rw [hcc] at hbu; have HCC := hid hcc; have HBU := hid hbu; clear hbu hcc)
    | ((with_reducible refine wpL_build (d := some 18) [(0, .pointer (some ⟨t, 0, none⟩)), (1, .pointer (some ⟨m, 0, none⟩))] cc ?_ HBU.out ?_); rfl))
  go_ret2
  refine ⟨_, t, g, rfl, ?_, HT.out.below ((Below.refl _ _).alloc (Nat.le_refl _) _), HB.out.alloc HB.out.size _, HB.out.size, HF.out⟩
  unfold Iu
  rw [HCC.out]
  exact heap_alloc_new w1 _
end Go.Proofs.YtajnjmjogaacpaaGreat
namespace Go.Proofs.YtajnjmjogaacpaaGreat
open Go.RowKit
open C (Only hid Mem Still ret_int ret_bool put byt nu WB WB.cell Calls.wb wp_region_wb hasB gst rdm)
set_option linter.unusedVariables false
set_option maxRecDepth 100000

/-- numbers within their bounds -/
structure VOk (v : UV) (n : Nat) : Prop where
  root : ∀ j, 0 ≤ v.root j ∧ v.root j < 18446744073709551616
  first : v.first < 256
  count : v.count ≤ 255
  ring : v.there = true → v.addr + 4096 ≤ 4096 * n
  none : v.there = false → v.count = 0
def US (w : World) (F : Nat → Prop) (u : Nat) (v : UV) (n : Nat) (f : Nat → Int) (room : Nat) (L : List E.TV) : Prop :=
  ∃ S g, Iu w u v ∧ Mem w S v.m 0 n f ∧ E.TM w v.t g room L ∧ (∀ k, F k ↔ (k = u ∨ E.Ft v.t g k ∨ S k)) ∧ VOk v n
/-- what one call may turn -/
def Tn (w : World) (F : Nat → Prop) (w' : World) (F' : Nat → Prop) : Prop := Only F w w' ∧ ∀ k, F' k → F k ∨ w.heap.size ≤ k
theorem Tn.trans {w w' w'' : World} {F F' F'' : Nat → Prop} (h : Tn w F w' F') (k : Tn w' F' w'' F'') : Tn w F w'' F'' :=
  ⟨h.1.trans' k.1 fun i hi q => (h.2 i q).resolve_right (by omega), fun i q => (k.2 i q).elim (h.2 i) fun z => .inr (Nat.le_trans h.1.size z)⟩
theorem Tn.refl (w : World) (F : Nat → Prop) : Tn w F w F := ⟨Only.refl w, fun _ q => .inl q⟩
theorem Tn.ofBelow {w w' : World} {F : Nat → Prop} (h : Below w.heap.size w w') : Tn w F w' F := ⟨Only.ofBelow h, fun _ q => .inl q⟩
section
variable {w w' : World} {F : Nat → Prop} {u : Nat} {v : UV} {n : Nat} {f : Nat → Int} {room : Nat} {L : List E.TV}
theorem US.lt (h : US w F u v n f room L) {k : Nat} (hk : F k) : k < w.heap.size := by
  obtain ⟨S, g, h1, h2, h3, h4, -⟩ := h
  rcases (h4 k).1 hk with rfl | q | q
  · exact h1.lt
  · exact h3.lt q
  · exact h2.lt q
theorem US.only (h : US w F u v n f room L) {T : Nat → Prop} (ho : Only T w w') (hd : ∀ k, F k → ¬ T k) : US w' F u v n f room L := by
  obtain ⟨S, g, h1, h2, h3, h4, h5⟩ := h
  exact ⟨S, g, h1.only ho (hd u ((h4 u).2 (.inl rfl))), h2.only ho (fun k hk => hd k ((h4 k).2 (.inr (.inr hk)))), h3.only ho (fun k hk => hd k ((h4 k).2 (.inr (.inl hk)))), h4, h5⟩
theorem US.below (h : US w F u v n f room L) (hb : Below w.heap.size w w') : US w' F u v n f room L := h.only (T := fun _ => False) (Only.ofBelow hb) fun _ _ q => q
theorem US.ok (h : US w F u v n f room L) : VOk v n := by obtain ⟨S, g, -, -, -, -, h5⟩ := h; exact h5
theorem US.byt (h : US w F u v n f room L) : ∀ j, 0 ≤ f j ∧ f j < 256 := by obtain ⟨S, g, -, h2, -, -, -⟩ := h; exact h2.byt
theorem US.r0 (h : US w F u v n f room L) : 0 < room ∧ room ≤ 64 ∧ L.length ≤ room := by obtain ⟨S, g, -, -, h3, -, -⟩ := h; exact ⟨h3.r0, h3.r1, h3.len⟩
end
/-- a record: where it goes -/
def rcB (v : UV) : Bool := v.there && decide (v.count < 255)
def rcV (v : UV) : UV := bif rcB v then v.setCount (v.count + 1) else v.setLost true
def rcF (v : UV) (f : Nat → Int) (d k a : Int) : Nat → Int := bif rcB v then rcf f (v.at v.count) d k a else f
theorem rcV_m (v : UV) : (rcV v).m = v.m := by unfold rcV; cases rcB v <;> rfl
theorem rcV_t (v : UV) : (rcV v).t = v.t := by unfold rcV; cases rcB v <;> rfl
theorem rcV_root (v : UV) : (rcV v).root = v.root := by unfold rcV; cases rcB v <;> rfl
theorem rcV_ok {v : UV} {n : Nat} (h : VOk v n) : VOk (rcV v) n := by
  unfold rcV
  cases e : rcB v
  · exact ⟨h.root, h.first, h.count, h.ring, h.none⟩
  · simp [rcB] at e
    exact ⟨h.root, h.first, by show v.count + 1 ≤ 255; omega, h.ring, fun q => by have q : v.there = false := q; rw [e.1] at q; cases q⟩
theorem iu_mem {w : World} {S : Nat → Prop} {p n : Nat} {f : Nat → Int} {u : Nat} {v : UV} (h : Mem w S p 0 n f) (hu : Iu w u v) : ¬ S u := h.typ hu (by decide) (by decide) (by decide)
theorem m_rec (w : World) (u : Nat) (v : UV) (hu : Iu w u v) (S : Nat → Prop) (n : Nat) (f : Nat → Int) (hm : Mem w S v.m 0 n f) (g room : Nat) (L : List E.TV) (ht : E.TM w v.t g room L) (ok : VOk v n) (d k a : Int) (d0 : 0 ≤ d) (d1 : d < 8) (k0 : 0 ≤ k) (k1 : k < 8) (a0 : 0 ≤ a) (a1 : a < 18446744073709551616) :
    Calls Tryz.prog 27 #[.pointer (some ⟨u, 0, none⟩), .agg #[.int .i64 d, .int .i64 k, .int .u64 a]] w fun e w' => e = .returned (.tuple #[]) ∧ ∃ S', Iu w' u (rcV v) ∧ Mem w' S' v.m 0 n (rcF v f d k a) ∧ E.TM w' v.t g room L ∧ Only (fun k => k = u ∨ S k) w w' ∧ ∀ k, S' k → S k ∨ w.heap.size ≤ k := by
  have hx : ∀ k, E.Ft v.t g k → ¬ (k = u ∨ S k) := fun k hk q => q.elim (fun z => iu_ft hu ht (z ▸ hk)) (fun z => mem_ft hm ht k z hk)
  cases e : rcB v
  · refine (m_record_lost w u v hu d k a (by by_cases q : v.there = true; simp [rcB, q] at e; exact .inr e; exact .inl (by simpa using q))).mono ?_
    rintro r w' ⟨rfl, h1, h2⟩
    have hm' := hm.only h2 (fun j hj q => iu_mem hm hu (q ▸ hj))
    refine ⟨rfl, S, ?_, ?_, ht.only h2 (fun j hj q => hx j hj (.inl q)), h2.mono fun _ _ q => .inl q, fun _ q => .inl q⟩
    · unfold rcV; rw [e]; exact h1
    · unfold rcF; rw [e]; exact hm'
  · simp [rcB] at e
    refine (m_record w u v hu S n f hm d k a d0 d1 k0 k1 a0 a1 e.1 e.2 ok.first (ok.ring e.1)).mono ?_
    rintro r w' ⟨rfl, S', h1, h2, h3, h4⟩
    have e' : rcB v = true := by simp [rcB, e]
    refine ⟨rfl, S', ?_, ?_, ht.only h3 hx, h3, h4⟩
    · unfold rcV; rw [e']; exact h1
    · unfold rcF; rw [e']; exact h2
/-- which block comes (0: none), where it comes to, what the TLB then holds -/
def acF (n : Nat) (f : Nat → Int) (v : UV) (room : Nat) (L : List E.TV) (d a s : Int) (wt : Bool) : Int × Int × List E.TV :=
  if whole a s = false then (4, 0, L) else if v.root d.toNat = 0 then (1, 0, L) else
  match fnd n f (v.root d.toNat) room L d a wt with
  | none => (2, 0, L)
  | some (p, L') => if hasB 0 n p s = true then (0, p, L') else (3, 0, L')
theorem plf_b (x a : Int) : 0 ≤ plf x a ∧ plf x a < 18446744073709551616 := by unfold plf; rw [wrap_u64]; omega
theorem fnd_b {n : Nat} {f : Nat → Int} {root : Int} {room : Nat} {L : List E.TV} {d a : Int} {wt : Bool} {p : Int} {L' : List E.TV} (h : fnd n f root room L d a wt = some (p, L')) : 0 ≤ p ∧ p < 18446744073709551616 := by
  unfold fnd at h
  revert h
  repeat' split
  all_goals intro h; cases h <;> exact plf_b _ _
def bkV (v : UV) (k : Int) : UV := if k = 0 then v else rcV v
def bkF (v : UV) (f : Nat → Int) (d k a : Int) : Nat → Int := if k = 0 then f else rcF v f d k a
set_option maxHeartbeats 1000000 in
theorem s_Access (w : World) (F : Nat → Prop) (u : Nat) (v : UV) (n : Nat) (f : Nat → Int) (room : Nat) (L : List E.TV) (h : US w F u v n f room L) (d a s : Int) (wt : Bool) (hd : isDev d = true) (a0 : 0 ≤ a) (a1 : a < 18446744073709551616) (s0 : -9223372036854775808 ≤ s) (s1 : s ≤ 9223372036854775807) (k p : Int) (L' : List E.TV) (hk : acF n f v room L d a s wt = (k, p, L')) :
    Calls Tryz.prog 12 #[.pointer (some ⟨u, 0, none⟩), .int .i64 d, .int .u64 a, .int .i64 s, .bool wt] w fun e w' => e = .returned (.tuple #[.int .u64 p, .bool (decide (k = 0))]) ∧ ∃ F', US w' F' u (bkV v k) n (bkF v f d k a) room L' ∧ Tn w F w' F' := by
  obtain ⟨S, g, h1, h2, h3, h4, h5⟩ := h
  obtain ⟨q0, q1⟩ := dev_cases hd
  have key : ∀ (c : Int) (LL : List E.TV) (w1 w' : World), c ≠ 0 → Only (E.Ft v.t g) w w1 → (∃ S', Iu w' u (rcV v) ∧ Mem w' S' v.m 0 n (rcF v f d c a) ∧ E.TM w' v.t g room LL ∧ Only (fun k => k = u ∨ S k) w1 w' ∧ ∀ k, S' k → S k ∨ w1.heap.size ≤ k) → ∃ F', US w' F' u (bkV v c) n (bkF v f d c a) room LL ∧ Tn w F w' F' := by
    rintro c LL w1 w' hc ho ⟨S', i1, i2, i3, i4, i5⟩
    refine ⟨fun k => k = u ∨ E.Ft v.t g k ∨ S' k, ⟨S', g, ?_, ?_, ?_, fun k => ?_, ?_⟩, ?_, ?_⟩
    · unfold bkV; rw [if_neg hc]; exact i1
    · unfold bkV bkF; rw [if_neg hc, if_neg hc, rcV_m]; exact i2
    · unfold bkV; rw [if_neg hc, rcV_t]; exact i3
    · unfold bkV; rw [if_neg hc, rcV_t]
    · unfold bkV; rw [if_neg hc]; exact rcV_ok h5
    · exact (ho.mono fun k _ q => (h4 k).2 (.inr (.inl q))).trans' i4 fun k _ q => (h4 k).2 (q.elim .inl fun z => .inr (.inr z))
    · intro k q
      rcases q with q | q | q
      · exact .inl ((h4 k).2 (.inl q))
      · exact .inl ((h4 k).2 (.inr (.inl q)))
      · exact (i5 k q).elim (fun z => .inl ((h4 k).2 (.inr (.inr z)))) fun z => .inr (Nat.le_trans ho.size z)
  unfold acF at hk
  cases e1 : whole a s
  · rw [if_pos e1] at hk
    cases hk
    refine (m_Access_size w u d a s wt hd a0 a1 e1 _ (fun w1 hb => m_rec w1 u v (h1.below hb) S n f (h2.below hb) g room L (h3.below hb) h5 d 4 a q0 q1 (by decide) (by decide) a0 a1 |>.mono fun _ w' hh => ⟨hh.1, key 4 L w1 w' (by decide) (Only.ofBelow hb) hh.2⟩)).mono ?_
    rintro e w' ⟨rfl, hr⟩
    exact ⟨rfl, hr⟩
  · rw [if_neg (by rw [e1]; decide)] at hk
    by_cases e2 : v.root d.toNat = 0
    · rw [if_pos e2] at hk
      cases hk
      refine (m_Access_none w u v h1 d a s wt hd a0 a1 e1 e2 _ (fun w1 hb => m_rec w1 u v (h1.below hb) S n f (h2.below hb) g room L (h3.below hb) h5 d 1 a q0 q1 (by decide) (by decide) a0 a1 |>.mono fun _ w' hh => ⟨hh.1, key 1 L w1 w' (by decide) (Only.ofBelow hb) hh.2⟩)).mono ?_
      rintro e w' ⟨rfl, hr⟩
      exact ⟨rfl, hr⟩
    · rw [if_neg e2] at hk
      have e2' : (v.root d.toNat == 0) = false := by simpa using e2
      have r0 := (h5.root d.toNat).1
      have r1 := (h5.root d.toNat).2
      cases e3 : fnd n f (v.root d.toNat) room L d a wt with
      | none =>
        rw [e3] at hk
        cases hk
        refine (m_Access_page w u v h1 S n f h2 g room L h3 d a s wt hd a0 a1 s0 s1 e1 e2' r0 r1 e3 _ (fun w1 i1 i2 i3 i4 => m_rec w1 u v i1 S n f i2 g room L i3 h5 d 2 a q0 q1 (by decide) (by decide) a0 a1 |>.mono fun _ w' hh => ⟨hh.1, key 2 L w1 w' (by decide) i4 hh.2⟩)).mono ?_
        rintro e w' ⟨rfl, hr⟩
        exact ⟨rfl, hr⟩
      | some q =>
        obtain ⟨pp, LL⟩ := q
        rw [e3] at hk
        have hb := fnd_b e3
        cases e4 : hasB 0 n pp s
        · simp only [e4] at hk
          cases hk
          refine (m_Access_bus w u v h1 S n f h2 g room L h3 d a s wt hd a0 a1 s0 s1 e1 e2' r0 r1 pp _ e3 hb.1 hb.2 e4 _ (fun w1 i1 i2 i3 i4 => m_rec w1 u v i1 S n f i2 g room _ i3 h5 d 3 a q0 q1 (by decide) (by decide) a0 a1 |>.mono fun _ w' hh => ⟨hh.1, key 3 _ w1 w' (by decide) i4 hh.2⟩)).mono ?_
          rintro e w' ⟨rfl, hr⟩
          exact ⟨rfl, hr⟩
        · simp only [e4] at hk
          cases hk
          refine (m_Access_ok w u v h1 S n f h2 g room L h3 d a s wt hd a0 a1 s0 s1 e1 e2' r0 r1 _ _ e3 hb.1 hb.2 e4).mono ?_
          rintro e w' ⟨rfl, i1, i2, i3, i4⟩
          exact ⟨rfl, F, ⟨S, g, i1, i2, i3, h4, h5⟩, i4.mono fun k _ q => (h4 k).2 (.inr (.inl q)), fun _ q => .inl q⟩
end Go.Proofs.YtajnjmjogaacpaaGreat
namespace Go.Proofs.YtajnjmjogaacpaaGreat
open Go.RowKit
open C (Only hid Mem Still ret_int ret_bool put byt nu WB WB.cell Calls.wb wp_region_wb hasB gst rdm)
set_option linter.unusedVariables false
set_option maxRecDepth 100000

section
variable {w w' : World} {F : Nat → Prop} {u : Nat} {v v' : UV} {n : Nat} {f : Nat → Int} {room : Nat} {L : List E.TV}
theorem US.iu (h : US w F u v n f room L) : Iu w u v := by obtain ⟨S, g, h1, -, -, -, -⟩ := h; exact h1
theorem US.fu (h : US w F u v n f room L) : F u := by obtain ⟨S, g, -, -, -, h4, -⟩ := h; exact (h4 u).2 (.inl rfl)
theorem US.nums (h : US w F u v n f room L) : 0 < n ∧ n ≤ 1024 := by obtain ⟨S, g, -, h2, -, -, -⟩ := h; exact h2.nums.2.2
theorem US.upd (h : US w F u v n f room L) (h1 : Iu w' u v') (ho : Only (· = u) w w') (et : v'.t = v.t) (em : v'.m = v.m) (ok : VOk v' n) : US w' F u v' n f room L ∧ Tn w F w' F := by
  have hu := h.fu
  obtain ⟨S, g, i1, i2, i3, i4, -⟩ := h
  refine ⟨⟨S, g, h1, ?_, ?_, ?_, ok⟩, ho.mono fun k _ q => by subst q; exact hu, fun _ q => .inl q⟩
  · rw [em]; exact i2.only ho fun k hk q => iu_mem i2 i1 (q ▸ hk)
  · rw [et]; exact i3.only ho fun k hk q => iu_ft i1 i3 (q ▸ hk)
  · rw [et]; exact i4
end
section
variable (w : World) (F : Nat → Prop) (u : Nat) (v : UV) (n : Nat) (f : Nat → Int) (room : Nat) (L : List E.TV) (h : US w F u v n f room L)
include h
theorem s_Set (d r : Int) (hd : isDev d = true) (hr : (r == 0) = false) (r0 : 0 ≤ r) (r1 : r < 18446744073709551616) : Calls Tryz.prog 7 #[.pointer (some ⟨u, 0, none⟩), .int .i64 d, .int .u64 r] w fun e w' => e = .returned (.int .i64 0) ∧ US w' F u (v.setRoot d.toNat r) n f room L ∧ Tn w F w' F := by
  refine (m_Set w u v h.iu d r hd hr).mono ?_
  rintro e w' ⟨rfl, h1, ho⟩
  have ok := h.ok
  exact ⟨rfl, h.upd h1 ho rfl rfl ⟨fun j => by show 0 ≤ upd v.root d.toNat r j ∧ upd v.root d.toNat r j < _; unfold Go.Proofs.YtajnjmjogaacpaaGreat.upd; split; exact ⟨r0, r1⟩; exact ok.root j, ok.first, ok.count, ok.ring, ok.none⟩⟩
/-- whatever is given -/
theorem s_SetAny (d r : Int) (r0 : 0 ≤ r) (r1 : r < 18446744073709551616) : Calls Tryz.prog 7 #[.pointer (some ⟨u, 0, none⟩), .int .i64 d, .int .u64 r] w fun e w' => ∃ c v', e = .returned (.int .i64 c) ∧ US w' F u v' n f room L ∧ Tn w F w' F ∧ (v' = v ∨ (isDev d = true ∧ v' = v.setRoot d.toNat r)) := by
  cases hd : isDev d
  · refine (m_Set_bad w u d r (.inl hd)).mono ?_
    rintro e w' ⟨rfl, rfl⟩
    exact ⟨1, v, rfl, h, Tn.refl _ _, .inl rfl⟩
  · cases hr : (r == 0)
    · refine (s_Set w F u v n f room L h d r hd hr r0 r1).mono ?_
      rintro e w' ⟨rfl, h1, h2⟩
      exact ⟨0, _, rfl, h1, h2, .inr ⟨rfl, rfl⟩⟩
    · refine (m_Set_bad w u d r (.inr (by simpa using hr))).mono ?_
      rintro e w' ⟨rfl, rfl⟩
      exact ⟨1, v, rfl, h, Tn.refl _ _, .inl rfl⟩
theorem s_Ring (a : Nat) (ha : a % 4096 = 0) (hl : a + 4096 ≤ 4096 * n) (i : Int) (hi : i = a) : Calls Tryz.prog 6 #[.pointer (some ⟨u, 0, none⟩), .int .u64 i] w fun e w' => e = .returned (.int .i64 0) ∧ US w' F u (v.setRing a) n f room L ∧ Tn w F w' F := by
  have h' := h
  obtain ⟨S, g, i1, i2, i3, i4, -⟩ := h'
  refine (m_Ring w u v i1 S n f i2 a ha hl i hi).mono ?_
  rintro e w' ⟨rfl, h1, ho⟩
  have ok := h.ok
  exact ⟨rfl, h.upd h1 ho rfl rfl ⟨ok.root, by show 0 < 256; decide, by show 0 ≤ 255; decide, fun _ => hl, fun q => rfl⟩⟩
theorem s_Next_no (hc : v.count = 0) : Calls Tryz.prog 13 #[.pointer (some ⟨u, 0, none⟩)] w fun e w' => e = .returned (.tuple #[.agg #[.int .i64 0, .int .i64 0, .int .u64 0], .bool false]) ∧ Below w.heap.size w w' := m_Next_no w u v h.iu hc
/-- behind the next record -/
def nxV (v : UV) : UV := (v.setFirst ((v.first + 1) % 256)).setCount (v.count - 1)
theorem s_Next (hc : 0 < v.count) : Calls Tryz.prog 13 #[.pointer (some ⟨u, 0, none⟩)] w fun e w' => e = .returned (.tuple #[.agg #[.int .i64 (rdn f (v.at 0) 4), .int .i64 (rdn f (v.at 0 + 4) 4), .int .u64 (rdn f (v.at 0 + 8) 8)], .bool true]) ∧ US w' F u (nxV v) n f room L ∧ Tn w F w' F := by
  have h' := h
  have ok := h.ok
  obtain ⟨S, g, i1, i2, i3, i4, -⟩ := h'
  have ht : v.there = true := by cases e : v.there; have := ok.none e; omega; rfl
  refine (m_Next w u v i1 S n f i2 hc (by have := ok.count; omega) ok.first (ok.ring ht)).mono ?_
  rintro e w' ⟨rfl, h1, ho⟩
  refine ⟨rfl, h.upd h1 ho rfl rfl ⟨ok.root, ?_, ?_, ok.ring, fun q => ?_⟩⟩
  · show (v.first + 1) % 256 < 256; omega
  · show v.count - 1 ≤ 255; have := ok.count; omega
  · have q : v.there = false := q; rw [ht] at q; cases q
set_option maxHeartbeats 1000000 in
theorem s_Message_bad (d a i : Int) (hd : isDev d = true) (a0 : 0 ≤ a) (a1 : a < 18446744073709551616) (i0 : 0 ≤ i) (hg : goes v d a i = false) :
    Calls Tryz.prog 125 #[.pointer (some ⟨u, 0, none⟩), .int .i64 d, .int .u64 a, .int .u64 i] w fun e w' => e = .returned (.tuple #[.agg #[.int .i64 0, .int .i64 0], .bool false]) ∧ ∃ F', US w' F' u (rcV v) n (rcF v f d 5 a) room L ∧ Tn w F w' F' := by
  have hF : ∀ k, F k → k < w.heap.size := fun k => h.lt
  obtain ⟨S, g, h1, h2, h3, h4, h5⟩ := h
  obtain ⟨q0, q1⟩ := dev_cases hd
  refine (m_Message_bad w u v h1 d a i hd a0 a1 i0 hg (fun w' => ∃ F', US w' F' u (rcV v) n (rcF v f d 5 a) room L ∧ Tn w F w' F' ∧ ¬ F' w.heap.size) F hF (fun w1 hb hl => (m_rec w1 u v (h1.below hb) S n f (h2.below hb) g room L (h3.below hb) h5 d 5 a q0 q1 (by decide) (by decide) a0 a1).mono ?_)).mono ?_
  · rintro e w' ⟨rfl, S', i1, i2, i3, i4, i5⟩
    have hT : Only F w1 w' := i4.mono fun k _ q => (h4 k).2 (q.elim .inl fun z => .inr (.inr z))
    refine ⟨rfl, ⟨fun k => k = u ∨ E.Ft v.t g k ∨ S' k, ⟨S', g, i1, ?_, ?_, fun k => ?_, rcV_ok h5⟩, ⟨(Only.ofBelow hb).trans hT, ?_⟩, ?_⟩, hT⟩
    · rw [rcV_m]; exact i2
    · rw [rcV_t]; exact i3
    · rw [rcV_t]
    · intro k q
      rcases q with q | q | q
      · exact .inl ((h4 k).2 (.inl q))
      · exact .inl ((h4 k).2 (.inr (.inl q)))
      · exact (i5 k q).elim (fun z => .inl ((h4 k).2 (.inr (.inr z)))) fun z => .inr (Nat.le_trans hb.size z)
    · rintro (q | q | q)
      · have := h1.lt; omega
      · have := h3.lt q; omega
      · rcases i5 _ q with z | z
        · have := h2.lt z; omega
        · omega
  · rintro e w' ⟨rfl, w1, ⟨F', k1, k2, k3⟩, ho⟩
    refine ⟨rfl, F', k1.only ho (fun k hk q => k3 (q ▸ hk)), k2.1.trans' (ho.mono (T := fun k => w.heap.size ≤ k) fun k _ q => by omega) (fun k hk q => by omega), k2.2⟩
end
end Go.Proofs.YtajnjmjogaacpaaGreat
namespace Go.Proofs.YtajnjmjogaacpaaGreat
open Go.RowKit
open C (Only hid Mem Still ret_int ret_bool put byt nu hasB)
set_option linter.unusedVariables false
set_option maxRecDepth 100000

/-- the state of an IOMMU over its memory -/
structure Us where
  v : UV
  f : Nat → Int
  L : List E.TV
def gU (u : Nat) : Value := .iface 29 (.pointer (some ⟨u, 0, none⟩))
def UG (u n room m t : Nat) (dev : Int) : Gate where
  σ := Us
  R w F s := US w F u s.v n s.f room s.L ∧ s.v.m = m ∧ s.v.t = t
  acc s a wt := ((acF n s.f s.v room s.L dev a 8 wt).2.1, decide ((acF n s.f s.v room s.L dev a 8 wt).1 = 0), ⟨bkV s.v (acF n s.f s.v room s.L dev a 8 wt).1, bkF s.v s.f dev (acF n s.f s.v room s.L dev a 8 wt).1 a, (acF n s.f s.v room s.L dev a 8 wt).2.2⟩)
  vld s p := hasB 0 n p 8 = true
  rd s p := nu (fun j => s.f ((p - 0).toNat + j)) 8
  st s p x := ⟨s.v, put s.f (p - 0).toNat 8 (byt x), s.L⟩
  msg s a d := bif goes s.v dev a d then (s.v.mg (dev.toNat * 32 + d.toNat), s.v.mi (dev.toNat * 32 + d.toNat), true, s) else (0, 0, false, ⟨rcV s.v, rcF s.v s.f dev 5 a, s.L⟩)
theorem us_sep {w : World} {F : Nat → Prop} {u : Nat} {v : UV} {n : Nat} {f : Nat → Int} {room : Nat} {L : List E.TV} (h : US w F u v n f room L) (k : Nat) (hk : F k) : ∃ c t fr, w.heap[k]? = some (.cells c t fr) ∧ (t = 80 ∨ t = 167 ∨ t = 149 ∨ t = 120 ∨ t = 121 ∨ t = 123) := by
  obtain ⟨S, g, h1, h2, h3, h4, -⟩ := h
  rcases (h4 k).1 hk with rfl | y | y
  · exact ⟨_, _, _, h1, .inl rfl⟩
  · obtain ⟨Z, hZ, -, -⟩ := h3.row
    rcases y with rfl | rfl
    · exact ⟨_, _, _, h3.top, .inr (.inl rfl)⟩
    · exact ⟨_, _, _, hZ, .inr (.inr (.inl rfl))⟩
  · obtain ⟨c, t, fr, q, z⟩ := mem_sep h2 k y
    exact ⟨c, t, fr, q, .inr (.inr (.inr z))⟩
theorem us_Write {w : World} {F : Nat → Prop} {u : Nat} {v : UV} {n : Nat} {f : Nat → Int} {room : Nat} {L : List E.TV} (h : US w F u v n f room L) (p x : Int) (hp : hasB 0 n p 8 = true) (x0 : 0 ≤ x) (x1 : x < 18446744073709551616) :
    Calls Tryz.prog 45 #[.pointer (some ⟨v.m, 0, none⟩), .int .u64 p, .int .i64 8, .int .u64 x] w fun e w' => e = .returned (.bool true) ∧ ∃ F', US w' F' u v n (put f (p - 0).toNat 8 (byt x)) room L ∧ Tn w F w' F' := by
  obtain ⟨S, g, h1, h2, h3, h4, h5⟩ := h
  obtain ⟨q1, q2⟩ := has_off hp
  refine (C.c_Write w S v.m 0 n f h2 (p - 0).toNat 8 q1 (by decide) p q2 x x0 x1).mono ?_
  rintro e w' ⟨S', rfl, i1, i2, i3⟩
  have nu' : ¬ S u := iu_mem h2 h1
  have nt : ∀ k, E.Ft v.t g k → ¬ S k := fun k hk z => by
    obtain ⟨Z, hZ, -, -⟩ := h3.row
    rcases hk with rfl | rfl
    · exact h2.typ h3.top (by decide) (by decide) (by decide) z
    · exact h2.typ hZ (by decide) (by decide) (by decide) z
  refine ⟨rfl, fun k => k = u ∨ E.Ft v.t g k ∨ S' k, ⟨S', g, h1.only i2 nu', i1, h3.only i2 nt, fun k => Iff.rfl, h5⟩, i2.mono fun k _ z => (h4 k).2 (.inr (.inr z)), fun k z => ?_⟩
  rcases z with z | z | z
  · exact .inl ((h4 k).2 (.inl z))
  · exact .inl ((h4 k).2 (.inr (.inl z)))
  · exact (i3 k z).imp (fun y => (h4 k).2 (.inr (.inr y))) id
theorem us_mem {w : World} {F : Nat → Prop} {u : Nat} {v : UV} {n : Nat} {f : Nat → Int} {room : Nat} {L : List E.TV} (h : US w F u v n f room L) : ∃ S, Mem w S v.m 0 n f := by obtain ⟨S, g, h1, h2, -⟩ := h; exact ⟨S, h2⟩
theorem acF_0 {n : Nat} {f : Nat → Int} {v : UV} {room : Nat} {L : List E.TV} {d a s : Int} {wt : Bool} (h : (acF n f v room L d a s wt).1 = 0) : hasB 0 n (acF n f v room L d a s wt).2.1 s = true := by
  revert h
  unfold acF
  split
  · intro h; cases h
  · split
    · intro h; cases h
    · split
      · intro h; cases h
      · split
        · next z => intro _; exact z
        · intro h; cases h
theorem bk_m (v : UV) (k : Int) : (bkV v k).m = v.m := by unfold bkV; split; rfl; exact rcV_m v
theorem bk_t (v : UV) (k : Int) : (bkV v k).t = v.t := by unfold bkV; split; rfl; exact rcV_t v
theorem ug_cA (u : Nat) (args : Array Value) (w : World) : (callMethod (gU u) "Access" args).run Tryz.prog w = .ok (.enter 12 (#[.pointer (some ⟨u, 0, none⟩)] ++ args)) w := by
  rfl
theorem ug_cM (u : Nat) (args : Array Value) (w : World) : (callMethod (gU u) "Message" args).run Tryz.prog w = .ok (.enter 125 (#[.pointer (some ⟨u, 0, none⟩)] ++ args)) w := by
  rfl
theorem ugC (u n room m t : Nat) (dev : Int) (hd : isDev dev = true) : GateC (UG u n room m t dev) 29 (.pointer (some ⟨u, 0, none⟩)) m dev 12 125 (.pointer (some ⟨u, 0, none⟩)) where
  cA := ug_cA u
  cM := ug_cM u
  sep w F s h k hk := by
    obtain ⟨c, t, f, q, z⟩ := us_sep h.1 k hk
    exact ⟨c, t, f, q, by rcases z with rfl | rfl | rfl | rfl | rfl | rfl <;> decide⟩
  only w F s h w' T ho hd := ⟨h.1.only ho hd, h.2⟩
  A w F s h a wt a0 a1 := (s_Access w F u s.v n s.f room s.L h.1 dev a 8 wt hd a0 a1 (by decide) (by decide) _ _ _ rfl).mono (by
    rintro e w' ⟨rfl, F', h1, h2⟩
    exact ⟨rfl, F', ⟨h1, (bk_m _ _).trans h.2.1, (bk_t _ _).trans h.2.2⟩, h2⟩)
  ok s a wt h := acF_0 (of_decide_eq_true h)
  kp s a wt p h := h
  Rd w F s h p hp := by
    obtain ⟨h1, h2⟩ := has_off hp
    obtain ⟨S, hm⟩ := us_mem h.1
    rw [h.2.1] at hm
    exact C.c_Read w S m 0 n s.f hm (p - 0).toNat 8 h1 (by decide) p h2
  rb w F s h p := C.nu_lt (fun j => s.f ((p - 0).toNat + j)) (fun j => h.1.byt _) 8
  W w F s h p x hp x0 x1 := by
    have := us_Write h.1 p x hp x0 x1
    rw [h.2.1] at this
    refine this.mono ?_
    rintro e w' ⟨rfl, F', h1, h2⟩
    exact ⟨rfl, F', ⟨h1, h.2⟩, h2⟩
  M w F s h a d a0 a1 d0 d1 := by
    cases hg : goes s.v dev a d
    · have e1 : (UG u n room m t dev).msg s a d = (0, 0, false, ⟨rcV s.v, rcF s.v s.f dev 5 a, s.L⟩) := by show (bif goes s.v dev a d then _ else _) = _; rw [hg]; rfl
      rw [e1]
      refine (s_Message_bad w F u s.v n s.f room s.L h.1 dev a d hd a0 a1 d0 hg).mono ?_
      rintro e w' ⟨rfl, F', h1, h2⟩
      exact ⟨rfl, F', ⟨h1, (rcV_m _).trans h.2.1, (rcV_t _).trans h.2.2⟩, h2⟩
    · have e1 : (UG u n room m t dev).msg s a d = (s.v.mg (dev.toNat * 32 + d.toNat), s.v.mi (dev.toNat * 32 + d.toNat), true, s) := by show (bif goes s.v dev a d then _ else _) = _; rw [hg]; rfl
      rw [e1]
      simp only [goes, Bool.and_eq_true, decide_eq_true_eq] at hg
      obtain ⟨⟨rfl, g2⟩, g3⟩ := hg
      refine (m_Message_go w u s.v h.1.iu dev d hd d0 g2 g3).mono ?_
      rintro e w' ⟨rfl, hb⟩
      exact ⟨rfl, F, ⟨h.1.below hb, h.2⟩, .ofBelow hb⟩
end Go.Proofs.YtajnjmjogaacpaaGreat
namespace Go.Proofs.YtajnjmjogaacpaaGreat
open Go.RowKit
open C (Only hid Mem Still ret_int ret_bool put byt nu WB WB.cell Calls.wb wp_region_wb hasB gst rdm Cl fcl RMem Tw)
set_option linter.unusedVariables false
set_option maxRecDepth 100000

theorem setFour {w : World} {b : Nat} {ty : TypeId} {a0 a1 a2 a3 : Value} (h : w.heap[b]? = some (.cells #[a0, a1, a2, a3] ty (0, 0))) (x y z t : Value) : ((((w.setCell ⟨b, 0, none⟩ x).setCell ⟨b, 1, none⟩ y).setCell ⟨b, 2, none⟩ z).setCell ⟨b, 3, none⟩ t).heap[b]? = some (.cells #[x, y, z, t] ty (0, 0)) := by
  have s1 : (w.setCell ⟨b, 0, none⟩ x).heap[b]? = some (.cells #[x, a1, a2, a3] ty (0, 0)) := by rw [setCell_eq_setRow w b 0 _ _ (0, 0) x h]; exact setRow_heap w b _ _ _ _ h
  have s2 : ((w.setCell ⟨b, 0, none⟩ x).setCell ⟨b, 1, none⟩ y).heap[b]? = some (.cells #[x, y, a2, a3] ty (0, 0)) := by rw [setCell_eq_setRow _ b 1 _ _ (0, 0) y s1]; exact setRow_heap _ b _ _ _ _ s1
  have s3 : (((w.setCell ⟨b, 0, none⟩ x).setCell ⟨b, 1, none⟩ y).setCell ⟨b, 2, none⟩ z).heap[b]? = some (.cells #[x, y, z, a3] ty (0, 0)) := by rw [setCell_eq_setRow _ b 2 _ _ (0, 0) z s2]; exact setRow_heap _ b _ _ _ _ s2
  rw [setCell_eq_setRow _ b 3 _ _ (0, 0) t s3]
  exact setRow_heap _ b _ _ _ _ s3
theorem r5_New (w : World) (room : Nat) (h0 : 0 < room) (h1 : room ≤ 64) : Calls Tryz.prog 37 #[.int .i64 room] w fun e w' => ∃ p, e = .returned (.tuple #[.pointer (some ⟨p, 0, none⟩), .int .i64 0]) ∧ Below w.heap.size w w' := by
  have e1 : ((room : Int) < 1) = False := by simp; omega
  have e2 : (64 < (room : Int)) = False := by simp; omega
  go_enter Tryz.func37, Tryz.ntmps37
  go_wp2
  go_ret2
  exact ⟨_, rfl, (Below.refl _ _).alloc (Nat.le_refl _) _⟩
theorem r7_New (w : World) (q room : Nat) (h0 : 0 < room) (h1 : room ≤ 64) : Calls Tryz.prog 20 #[.pointer (some ⟨q, 0, none⟩), .int .i64 room] w fun e w' => ∃ p, e = .returned (.tuple #[.pointer (some ⟨p, 0, none⟩), .int .i64 0]) ∧ Below w.heap.size w w' := by
  go_enter Tryz.func20, Tryz.ntmps20
  go_wp2_with ((go_at_call 37; refine (r5_New _ room h0 h1).mono ?_; rintro e w1 ⟨p, rfl, hb⟩))
  go_ret2
  exact ⟨_, rfl, hb.alloc hb.size _⟩
set_option maxHeartbeats 1000000 in
theorem l_New (w : World) (room : Nat) (h0 : 0 < room) (h1 : room ≤ 64) (ad : Option Addr) (la cap ab ao : Nat) (X : Nat → Int × Int) (hX : Cl w ad la cap ab ao X) :
    Calls Tryz.prog 5 #[.int .i64 room, .slice ad la cap] w fun e w' => ∃ u t m x q F T, e = .returned (.tuple #[.agg #[.pointer (some ⟨u, 0, none⟩), .pointer (some ⟨x, 0, none⟩), .pointer (some ⟨m, 0, none⟩), .pointer (some ⟨q, 0, none⟩)], .bool true]) ∧ US w' F u (v0 t m) 8 (fcl 8 X la) room [] ∧ RMem w' T q 0 8 (fcl 8 X la) ∧ (∀ k, F k → ¬ T k) ∧ Below w.heap.size w w' ∧ ∀ k, F k ∨ T k → w.heap.size ≤ k := by
  have HX := hid hX
  clear hX
  go_enter Tryz.func5, Tryz.ntmps5
  go_wp2_with (first
    | (go_at_call 18; refine (C.c_Memory _ 8 (by decide) (by decide) ad la cap ab ao X (HX.out.below ((Below.refl _ _).alloc (Nat.le_refl _) _))).mono ?_; rintro e w1 ⟨m, q, U, rfl, ht, hb, hu⟩; have HT := hid ht; have P0 := hid ((hb.block w.heap.size (by simp)).trans (heap_alloc_new w _)); have HB := hid (((Below.refl w.heap.size w).alloc (Nat.le_refl _) _).trans (hb.mono (by simp))); have HU : Hid (∀ k, U k → w.heap.size < k) := (fun k hk => by have := hu k hk; simp at this; omega); clear ht hb hu)
    | (go_at_call 19; refine (m_New _ m room h0 h1 _ rfl).mono ?_; rintro e w2 ⟨u, t, g, rfl, i1, i2, i3, i4, i5⟩; have I1 := hid i1; have I2 := hid i2; have I3 : Hid (Below w1.heap.size w1 w2) := ((Below.refl _ _).alloc (Nat.le_refl _) _).trans (i3.mono (by simp)); have P1 := hid ((i3.block w1.heap.size (by simp)).trans (heap_alloc_new w1 _)); have I4 : Hid (w1.heap.size < u ∧ ∀ k, E.Ft t g k → w1.heap.size < k) := ⟨by simp at i4; omega, fun k hk => by have := i5 k hk; simp at this; omega⟩; have y0 : w2.cell? ⟨w1.heap.size, 0, none⟩ = some (.pointer (some ⟨m, 0, none⟩)) := (by rw [cell_of_row w2 _ 0 _ _ _ P1.out]; rfl); have y1 : w2.cell? ⟨w1.heap.size, 1, none⟩ = some (.pointer (some ⟨q, 0, none⟩)) := (by rw [cell_of_row w2 _ 1 _ _ _ P1.out]; rfl); clear i1 i2 i3 i4 i5)
    | (go_at_call 20; refine (r7_New _ q room h0 h1).mono ?_; rintro e w3 ⟨x, rfl, hb3⟩; have HB3 := hid hb3; have z0 : w3.cell? ⟨w1.heap.size, 0, none⟩ = some (.pointer (some ⟨m, 0, none⟩)) := (by rw [cell_of_row w3 _ 0 _ _ _ ((hb3.block _ (lt_of_block P1.out)).trans P1.out)]; rfl); have z1 : w3.cell? ⟨w1.heap.size, 1, none⟩ = some (.pointer (some ⟨q, 0, none⟩)) := (by rw [cell_of_row w3 _ 1 _ _ _ ((hb3.block _ (lt_of_block P1.out)).trans P1.out)]; rfl); have p3 := ((I3.out.trans (hb3.mono I3.out.size)).block _ (lt_of_block P0.out)).trans P0.out; have P3 := hid p3; have c0 : w3.cell? ⟨w.heap.size, 0, none⟩ = some (.pointer none) := (by rw [cell_of_row w3 _ 0 _ _ _ p3]; rfl); have c1 : w3.cell? ⟨w.heap.size, 1, none⟩ = some (.pointer none) := (by rw [cell_of_row w3 _ 1 _ _ _ p3]; rfl); have c2 : w3.cell? ⟨w.heap.size, 2, none⟩ = some (.pointer none) := (by rw [cell_of_row w3 _ 2 _ _ _ p3]; rfl); have c3 : w3.cell? ⟨w.heap.size, 3, none⟩ = some (.pointer none) := (by rw [cell_of_row w3 _ 3 _ _ _ p3]; rfl); have cf : ∀ j, w3.frozen? ⟨w.heap.size, j, none⟩ = false := (fun j => frozen_of_row w3 _ j _ _ p3); clear hb3 p3))
  have ho6 := (((only1 w3 w.heap.size 0 (.pointer (some ⟨u, 0, none⟩))).trans (only1 _ w.heap.size 1 (.pointer (some ⟨x, 0, none⟩)))).trans (only1 _ w.heap.size 2 (.pointer (some ⟨m, 0, none⟩)))).trans (only1 _ w.heap.size 3 (.pointer (some ⟨q, 0, none⟩)))
  have h6 := setFour P3.out (.pointer (some ⟨u, 0, none⟩)) (.pointer (some ⟨x, 0, none⟩)) (.pointer (some ⟨m, 0, none⟩)) (.pointer (some ⟨q, 0, none⟩))
  generalize (((w3.setCell ⟨w.heap.size, 0, none⟩ (.pointer (some ⟨u, 0, none⟩))).setCell ⟨w.heap.size, 1, none⟩ (.pointer (some ⟨x, 0, none⟩))).setCell ⟨w.heap.size, 2, none⟩ (.pointer (some ⟨m, 0, none⟩))).setCell ⟨w.heap.size, 3, none⟩ (.pointer (some ⟨q, 0, none⟩)) = w6 at *
  clear y0 y1 c0 c1 c2 c3 cf z0 z1
  have y0 : w6.cell? ⟨w.heap.size, 0, none⟩ = some (.pointer (some ⟨u, 0, none⟩)) := by rw [cell_of_row w6 _ 0 _ _ _ h6]; rfl
  have y1 : w6.cell? ⟨w.heap.size, 1, none⟩ = some (.pointer (some ⟨x, 0, none⟩)) := by rw [cell_of_row w6 _ 1 _ _ _ h6]; rfl
  have y2 : w6.cell? ⟨w.heap.size, 2, none⟩ = some (.pointer (some ⟨m, 0, none⟩)) := by rw [cell_of_row w6 _ 2 _ _ _ h6]; rfl
  have y3 : w6.cell? ⟨w.heap.size, 3, none⟩ = some (.pointer (some ⟨q, 0, none⟩)) := by rw [cell_of_row w6 _ 3 _ _ _ h6]; rfl
  refine bodyPost_ret (by simp [results, Tryz.results5, go_sem, y0, y1, y2, y3]; rfl) rfl ?_
  obtain ⟨SS, TT, m1, m2, m3, m4⟩ := HT.out
  have B13 : Below w1.heap.size w1 w3 := I3.out.trans (HB3.out.mono I3.out.size)
  have sz : w.heap.size < w1.heap.size := lt_of_block P0.out
  have N1 : Mem w6 SS m 0 8 (fcl 8 X la) := (m1.below B13).only ho6 (fun k hk e => by have := HU.out k ((m3 k).2 (.inl hk)); omega)
  have N2 : RMem w6 TT q 0 8 (fcl 8 X la) := C.RMem.only (m2.below B13) ho6 (fun k hk e => by have := HU.out k ((m3 k).2 (.inr hk)); omega)
  have N3 : Iu w6 u (v0 t m) := (I1.out.below HB3.out).only ho6 (by have := I4.out.1; omega)
  have N4 : E.TM w6 t g room [] := (I2.out.below HB3.out).only ho6 (fun k hk e => by have := I4.out.2 k hk; omega)
  refine ⟨u, t, m, x, q, fun k => k = u ∨ E.Ft t g k ∨ SS k, TT, rfl, ⟨SS, g, N3, N1, N4, fun k => Iff.rfl, ⟨fun j => ⟨by show (0 : Int) ≤ 0; decide, by show (0 : Int) < _; decide⟩, by show 0 < 256; decide, by show 0 ≤ 255; decide, (fun q => by cases q), fun _ => rfl⟩⟩, N2, ?_, ?_, ?_⟩
  · intro k hk ht
    have := m2.lt ht
    rcases hk with e | e | e
    · have := I4.out.1; omega
    · have := I4.out.2 k e; omega
    · exact m4 k e ht
  · exact (HB.out.trans (B13.mono HB.out.size)).trans ((ho6.below w.heap.size (Nat.le_trans HB.out.size B13.size) fun k e => by omega))
  · intro k hk
    rcases hk with (e | e | e) | e
    · have := I4.out.1; omega
    · have := I4.out.2 k e; omega
    · have := HU.out k ((m3 k).2 (.inl e)); omega
    · have := HU.out k ((m3 k).2 (.inr e)); omega
theorem cl0 (w : World) : Cl w none 0 0 0 0 (fun _ => (0, 0)) := ⟨Nat.le_refl _, by decide, fun h => absurd h (by decide), fun i h => absurd h (by omega), fun i h => absurd h (by omega)⟩
end Go.Proofs.YtajnjmjogaacpaaGreat
namespace Go.Proofs.YtajnjmjogaacpaaGreat
open Go.RowKit
open C (Only hid Mem Still ret_int ret_bool put byt nu)
set_option linter.unusedVariables false

theorem rdn_out (f : Nat → Int) (off m : Nat) (g : Nat → Int) (p k : Nat) (h : p + k ≤ off ∨ off + m ≤ p) : rdn (put f off m g) p k = rdn f p k := by
  unfold rdn
  exact C.nu_congr k fun j hj => C.put_out _ _ _ _ _ (by omega)
theorem rdn_in (f : Nat → Int) (off m : Nat) (x : Int) (x0 : 0 ≤ x) : rdn (put f off m (byt x)) off m = x % 256 ^ m := by
  unfold rdn
  rw [← C.nu_byt x x0 m]
  exact C.nu_congr m fun j hj => C.put_in _ _ _ _ _ hj
/-- record i, counted from the first that was not told -/
def rd3 (f : Nat → Int) (p : Nat) : Int × Int × Int := (rdn f p 4, rdn f (p + 4) 4, rdn f (p + 8) 8)
/-- those that were not told are G told, G (told + 1) .. -/
def RL (v : UV) (f : Nat → Int) (G : Nat → Int × Int × Int) (told : Nat) : Prop := ∀ i, i < v.count → rd3 f (v.at i) = G (told + i)
theorem rd3_rcf (f : Nat → Int) (p : Nat) (d k a : Int) (d0 : 0 ≤ d) (d1 : d < 4294967296) (k0 : 0 ≤ k) (k1 : k < 4294967296) (a0 : 0 ≤ a) (a1 : a < 18446744073709551616) : rd3 (rcf f p d k a) p = (d, k, a) := by
  unfold rd3 rcf
  rw [rdn_out _ _ _ _ p 4 (by omega), rdn_out _ _ _ _ p 4 (by omega), rdn_in _ _ _ _ d0, rdn_out _ _ _ _ (p + 4) 4 (by omega), rdn_in _ _ _ _ k0, rdn_in _ _ _ _ a0]
  have e1 : d % 256 ^ 4 = d := by rw [show (256 : Int) ^ 4 = 4294967296 from rfl]; omega
  have e2 : k % 256 ^ 4 = k := by rw [show (256 : Int) ^ 4 = 4294967296 from rfl]; omega
  have e3 : a % 256 ^ 8 = a := by rw [show (256 : Int) ^ 8 = 18446744073709551616 from rfl]; omega
  rw [e1, e2, e3]
theorem rd3_other (f : Nat → Int) (p q : Nat) (d k a : Int) (h : q + 16 ≤ p ∨ p + 16 ≤ q) : rd3 (rcf f p d k a) q = rd3 f q := by
  unfold rd3 rcf
  rw [rdn_out _ _ _ _ q 4 (by omega), rdn_out _ _ _ _ q 4 (by omega), rdn_out _ _ _ _ q 4 (by omega), rdn_out _ _ _ _ (q + 4) 4 (by omega), rdn_out _ _ _ _ (q + 4) 4 (by omega), rdn_out _ _ _ _ (q + 4) 4 (by omega), rdn_out _ _ _ _ (q + 8) 8 (by omega), rdn_out _ _ _ _ (q + 8) 8 (by omega), rdn_out _ _ _ _ (q + 8) 8 (by omega)]
theorem RL.rec {v : UV} {f : Nat → Int} {G : Nat → Int × Int × Int} {told n : Nat} (h : RL v f G told) (ok : VOk v n) (d k a : Int) (d0 : 0 ≤ d) (d1 : d < 8) (k0 : 0 ≤ k) (k1 : k < 8) (a0 : 0 ≤ a) (a1 : a < 18446744073709551616) (hG : rcB v = true → G (told + v.count) = (d, k, a)) : RL (rcV v) (rcF v f d k a) G told := by
  unfold rcV rcF
  cases e : rcB v
  · exact h
  · have hG := hG e
    simp [rcB] at e
    have hf := ok.first
    intro i hi
    have hi : i < v.count + 1 := hi
    show rd3 (rcf f (v.at v.count) d k a) (v.at i) = _
    by_cases q : i = v.count
    · subst q
      rw [rd3_rcf _ _ _ _ _ d0 (by omega) k0 (by omega) a0 a1, hG]
    · rw [rd3_other _ _ _ _ _ _ (by unfold UV.at; omega)]
      exact h i (by omega)
theorem RL.next {v : UV} {f : Nat → Int} {G : Nat → Int × Int × Int} {told : Nat} (h : RL v f G told) (hc : 0 < v.count) : RL (nxV v) f G (told + 1) := by
  intro i hi
  have hi : i < v.count - 1 := hi
  have := h (i + 1) (by omega)
  rw [show (nxV v).at i = v.at (i + 1) from by unfold UV.at nxV UV.setFirst UV.setCount; simp only; omega, this]
  congr 1
  omega
/-- the next record, by its number -/
theorem s_NextG (w : World) (F : Nat → Prop) (u : Nat) (v : UV) (n : Nat) (f : Nat → Int) (room : Nat) (L : List E.TV) (h : US w F u v n f room L) (G : Nat → Int × Int × Int) (told : Nat) (hR : RL v f G told) (hc : 0 < v.count) (d k a : Int) (hG : G told = (d, k, a)) : Calls Tryz.prog 13 #[.pointer (some ⟨u, 0, none⟩)] w fun e w' => e = .returned (.tuple #[.agg #[.int .i64 d, .int .i64 k, .int .u64 a], .bool true]) ∧ US w' F u (nxV v) n f room L ∧ Tn w F w' F ∧ RL (nxV v) f G (told + 1) := by
  have := hR 0 hc
  rw [Nat.add_zero, hG] at this
  simp only [rd3, Prod.mk.injEq] at this
  refine (s_Next w F u v n f room L h hc).mono ?_
  rintro e w' ⟨rfl, h1, h2⟩
  rw [this.1, this.2.1, this.2.2]
  exact ⟨rfl, h1, h2, hR.next hc⟩
end Go.Proofs.YtajnjmjogaacpaaGreat
