/- A queue and two memories, a law's own: each call upon them. -/
import Derived.Test.YtgebjfkmiaobgaaMH2
import Derived.Test.YtgebjfkmiaobgaaCPF
import Derived.Test.YtgebjfkmiaobgaaCPFB
import Derived.Test.YtgebjfkmiaobgaaMC3
import Derived.Test.YtgebjfkmiaobgaaMC5
namespace Go.Proofs.Ytgebjfkmiaobgaa
open Go.RowKit
open C (Only hid Still ret_int ret_bool Mem RMem okN rdF wrF hasB nu put byt TB Tw TwB)
set_option linter.unusedVariables false
set_option maxRecDepth 100000

theorem okN_off {bs : Int} {n : Nat} {a : Int} {z : Nat} (h : okN bs n a z = true) : (a - bs).toNat + z ≤ 4096 * n ∧ bs ≤ a := by
  unfold okN at h
  obtain ⟨off, len, h1, h2, h3⟩ := C.hasB_off (Bool.and_eq_true_iff.1 h).2
  omega
theorem rd_same {bs : Int} {n : Nat} (f : Nat → Int) (a : Int) (z : Nat) (v : Int) (v0 : 0 ≤ v) (h : okN bs n a z = true) : rdF bs n (wrF bs n f a z v) a z = v % 256 ^ z := by
  unfold rdF wrF
  rw [if_pos h, if_pos h, Int.toNat_natCast, C.nu_congr z (c := byt v) fun j hj => C.put_in _ _ _ _ _ hj]
  exact C.nu_byt v v0 z
theorem rd_other {bs : Int} {n : Nat} (f : Nat → Int) (a a' : Int) (z z' : Nat) (v : Int) (h : a + z ≤ a' ∨ a' + z' ≤ a) : rdF bs n (wrF bs n f a' z' v) a z = rdF bs n f a z := by
  by_cases k : okN bs n a z = true
  · unfold rdF
    rw [if_pos k, if_pos k]
    unfold wrF
    by_cases k' : okN bs n a' z' = true
    · rw [if_pos k', Int.toNat_natCast, Int.toNat_natCast]
      have h1 := okN_off k
      have h2 := okN_off k'
      exact C.nu_congr z fun j hj => C.put_out _ _ _ _ _ (by omega)
    · rw [if_neg k']
  · unfold rdF
    rw [if_neg k, if_neg k]
theorem rmem_typ {w : World} {T : Nat → Prop} {r : Nat} {bs : Int} {n : Nat} {h : Nat → Int} (hr : RMem w T r bs n h) {b : Nat} {c : Array Value} {t : TypeId} {fr : Nat × Nat} (hb : w.heap[b]? = some (.cells c t fr)) (h1 : t ≠ 102) (h2 : t ≠ 23) (h3 : t ≠ 5) : ¬ T b := by
  obtain ⟨g, hs, hq, _, hT⟩ := hr
  intro q
  rcases (hT b).1 q with rfl | rfl | ⟨i, c', hi⟩
  · have := hq.top; rw [hb] at this; simp at this; exact h1 this.2.1
  · have := hq.tab; rw [hb] at this; simp at this; exact h2 this.2.1
  · obtain ⟨_, cur, hc, _⟩ := hq.full i b c' hi; rw [hb] at hc; simp at hc; exact h3 hc.2.1
def tyQ (t : TypeId) : Bool := t == 112 || t == 118 || t == 129 || t == 102 || t == 23 || t == 5 || t == 82
/-- what is none of these stays -/
def Kq (w w' : World) : Prop := ∀ (k : Nat) (c : Array Value) (t : TypeId) (fr : Nat × Nat), w.heap[k]? = some (.cells c t fr) → tyQ t = false → w'.heap[k]? = some (.cells c t fr)
theorem Kq.trans {a b c : World} (h : Kq a b) (k : Kq b c) : Kq a c := fun i c t fr hi ht => k i c t fr (h i c t fr hi ht) ht
theorem Kq.refl (a : World) : Kq a a := fun _ _ _ _ h _ => h
theorem Kq.below {a b : World} (h : Below a.heap.size a b) : Kq a b := fun i c t fr hi ht => (h.block i (lt_of_block hi)).trans hi
theorem Kq.still {a b : World} (h : Still a b) : Kq a b := .below (h.below _)
theorem Kq.only {a b : World} {S : Nat → Prop} (h : Only S a b) (hs : ∀ k, S k → ∃ c t fr, a.heap[k]? = some (.cells c t fr) ∧ tyQ t = true) : Kq a b := fun i c t fr hi ht => h.old hi fun e => by
  obtain ⟨c', t', fr', h1, h2⟩ := hs i e
  rw [hi] at h1
  cases h1
  rw [ht] at h2; cases h2
theorem Kq.cell {a b : World} (h : Kq a b) {k o : Nat} {c : Array Value} {t : TypeId} (hk : a.heap[k]? = some (.cells c t (0, 0))) (ht : tyQ t = false) {x : Value} (hx : c[o]? = some x) : b.cell? ⟨k, o, none⟩ = some x := by
  rw [cell_of_row b k o _ _ _ (h k _ _ _ hk ht)]; exact hx
theorem Kq.tb {a b : World} (h : Kq a b) {k p r : Nat} (hk : TB a k p r) : TB b k p r := h k _ _ _ hk rfl
theorem mem_ty {w : World} {S : Nat → Prop} {m : Nat} {bs : Int} {n : Nat} {f : Nat → Int} (h : Mem w S m bs n f) (k : Nat) (hk : S k) : ∃ c t fr, w.heap[k]? = some (.cells c t fr) ∧ tyQ t = true := by
  obtain ⟨c, t, fr, h1, h2⟩ := mem_sep h k hk
  exact ⟨c, t, fr, h1, by rcases h2 with rfl | rfl | rfl <;> decide⟩
theorem rmem_ty {w : World} {T : Nat → Prop} {r : Nat} {bs : Int} {n : Nat} {h : Nat → Int} (hr : RMem w T r bs n h) (k : Nat) (hk : T k) : ∃ c t fr, w.heap[k]? = some (.cells c t fr) ∧ tyQ t = true := by
  obtain ⟨g, hs, hq, _, hT⟩ := hr
  rcases (hT k).1 hk with rfl | rfl | ⟨i, c', hi⟩
  · exact ⟨_, _, _, hq.top, by decide⟩
  · exact ⟨_, _, _, hq.tab, by decide⟩
  · obtain ⟨_, cur, hc, _⟩ := hq.full i k c' hi
    exact ⟨_, _, _, hc, by decide⟩
/-- a queue, two memories, the law's pair of them -/
structure LQ (W w : World) (b q p r : Nat) (v : QV) (bs : Int) (n : Nat) (f h : Nat → Int) : Prop where
  qb : Qb w q v
  ok : QOk v
  tb : TB w b p r
  mm : ∃ S T, Mem w S p bs n f ∧ RMem w T r bs n h ∧ (∀ k, S k → ¬ T k) ∧ (∀ k, S k → W.heap.size ≤ k) ∧ ∀ k, T k → W.heap.size ≤ k
  new : Below W.heap.size W w
  qn : W.heap.size ≤ q
  bn : W.heap.size ≤ b
section
variable {W w w' : World} {b q p r : Nat} {v v' : QV} {bs : Int} {n : Nat} {f h f' h' : Nat → Int}
theorem LQ.below (H : LQ W w b q p r v bs n f h) (hb : Below w.heap.size w w') : LQ W w' b q p r v bs n f h := by
  obtain ⟨S, T, h1, h2, h3, h4, h5⟩ := H.mm
  exact ⟨H.qb.below hb, H.ok, H.tb.below hb, ⟨S, T, h1.below hb, h2.below hb, h3, h4, h5⟩, H.new.trans (hb.mono H.new.size), H.qn, H.bn⟩
theorem LQ.c0 (H : LQ W w b q p r v bs n f h) : w.cell? ⟨b, 0, none⟩ = some (.pointer (some ⟨p, 0, none⟩)) := H.tb.c0
theorem LQ.c1 (H : LQ W w b q p r v bs n f h) : w.cell? ⟨b, 1, none⟩ = some (.pointer (some ⟨r, 0, none⟩)) := H.tb.c1
theorem LQ.tq (H : LQ W w b q p r v bs n f h) : b ≠ q := fun e => by
  have h1 := H.tb
  have h2 := H.qb
  unfold TB at h1
  unfold Qb at h2
  rw [e, h2] at h1
  cases h1
/-- the queue turned -/
theorem LQ.own (H : LQ W w b q p r v bs n f h) (ho : Only (· = q) w w') (hq : Qb w' q v') (hk : QOk v') : LQ W w' b q p r v' bs n f h := by
  obtain ⟨S, T, h1, h2, h3, h4, h5⟩ := H.mm
  have hS : ¬ S q := fun e => h1.typ H.qb (by decide) (by decide) (by decide) e
  have hT : ¬ T q := rmem_typ h2 H.qb (by decide) (by decide) (by decide)
  refine ⟨hq, hk, ho.old H.tb (H.tq), ⟨S, T, h1.only ho fun k hk e => hS (e ▸ hk), h2.only ho fun k hk e => hT (e ▸ hk), h3, h4, h5⟩, ?_, H.qn, H.bn⟩
  exact ((Only.ofBelow (S := fun _ => False) H.new).trans' ho fun i hi e => absurd H.qn (by omega)).below _ (Nat.le_refl _) fun k e => e.elim
theorem LQ.kq (H : LQ W w b q p r v bs n f h) (ho : Only (· = q) w w') : Kq w w' := Kq.only ho fun k hk => hk ▸ ⟨_, _, _, H.qb, by decide⟩
/-- the program's memory turned, or the queue -/
theorem LQ.turn (H : LQ W w b q p r v bs n f h) {S S' T : Nat → Prop} (hm : Mem w S p bs n f) (hr : RMem w T r bs n h) (hst : ∀ k, S k → ¬ T k) (hS : ∀ k, S k → W.heap.size ≤ k) (hT : ∀ k, T k → W.heap.size ≤ k)
    (ht : Tx w (fun k => S k ∨ k = q) w' (fun k => S' k ∨ k = q)) (hq : Qb w' q v') (hk : QOk v') (hm' : Mem w' S' p bs n f') : LQ W w' b q p r v' bs n f' h := by
  have nT : ∀ k, T k → ¬ (S k ∨ k = q) := fun k hk e => e.elim (fun z => hst k z hk) fun z => rmem_typ hr H.qb (by decide) (by decide) (by decide) (z ▸ hk)
  have nb : ¬ (S b ∨ b = q) := fun e => e.elim (fun z => hm.typ H.tb (by decide) (by decide) (by decide) z) H.tq
  refine ⟨hq, hk, ht.1.old H.tb nb, ⟨S', T, hm', hr.only ht.1 nT, ?_, ?_, hT⟩, ?_, H.qn, H.bn⟩
  · intro k hk hkT
    rcases ht.2 k (.inl hk) with z | z
    · exact nT k hkT z
    · have := hr.lt hkT; omega
  · intro k hk
    rcases ht.2 k (.inl hk) with (z | z) | z
    · exact hS k z
    · rw [z]; exact H.qn
    · exact Nat.le_trans H.new.size z
  · exact ((Only.ofBelow (S := fun _ => False) H.new).trans' ht.1 fun i hi e => e.elim (fun z => absurd (hS i z) (by omega)) fun z => absurd H.qn (by omega)).below _ (Nat.le_refl _) fun k e => e.elim
theorem l_Setup (H : LQ W w b q p r v bs n f h) (z d a u : Int) (z0 : -9223372036854775808 ≤ z) (z1 : z ≤ 9223372036854775807) (d0 : 0 ≤ d) (d1 : d < 18446744073709551616) (a0 : 0 ≤ a) (a1 : a < 18446744073709551616) (u0 : 0 ≤ u) (u1 : u < 18446744073709551616) :
    Calls Try.prog 21 #[.pointer (some ⟨q, 0, none⟩), .int .i64 z, .int .u64 d, .int .u64 a, .int .u64 u] w fun e w' => e = .returned (.int .i64 (bif okS v z d a u then 0 else 1)) ∧ LQ W w' b q p r (v.set z d a u) bs n f h ∧ Kq w w' :=
  (k_Setup w q v H.qb z d a u z0 z1 d0 d1 a0 a1 u0 u1).mono fun e w' ⟨h1, h2, h3⟩ => ⟨h1, H.own h3 h2 (H.ok.set z d a u d0 a0 u0), H.kq h3⟩
theorem l_Reset (H : LQ W w b q p r v bs n f h) : Calls Try.prog 23 #[.pointer (some ⟨q, 0, none⟩)] w fun e w' => e = .returned (.tuple #[]) ∧ LQ W w' b q p r q0 bs n f h ∧ Kq w w' :=
  (k_Reset w q v H.qb).mono fun e w' ⟨h1, h2, h3⟩ => ⟨h1, H.own h3 h2 q0_ok, H.kq h3⟩
theorem l_Ready (H : LQ W w b q p r v bs n f h) : Calls Try.prog 25 #[.pointer (some ⟨q, 0, none⟩)] w fun e w' => e = .returned (.bool (v.sz != 0)) ∧ w' = w := k_Ready w q v H.qb
theorem l_Dead (H : LQ W w b q p r v bs n f h) : Calls Try.prog 26 #[.pointer (some ⟨q, 0, none⟩)] w fun e w' => e = .returned (.bool v.dead) ∧ w' = w := k_Dead w q v H.qb
theorem l_Quiet (H : LQ W w b q p r v bs n f h) : Calls Try.prog 27 #[.pointer (some ⟨q, 0, none⟩), gR p] w fun e w' => e = .returned (.bool (quF (RmG p bs n) f v)) ∧ LQ W w' b q p r v bs n f h ∧ Kq w w' := by
  obtain ⟨S, T, h1, h2, h3, h4, h5⟩ := H.mm
  exact (k_Quiet (rmC p bs n) w S f h1 q v H.qb H.ok).mono fun e w' ⟨k1, k2⟩ => ⟨k1, H.below k2, .below k2⟩
theorem l_Next (H : LQ W w b q p r v bs n f h) (m : Nat) (hm : v.sz = m) : Calls Try.prog 14 #[.pointer (some ⟨q, 0, none⟩), gR p] w fun e w' => ∃ vr vw, e = .returned (.tuple #[.agg (cc (nxF (RmG p bs n) f v m).h vr vw), .bool (nxF (RmG p bs n) f v m).good, .int .i64 (nxF (RmG p bs n) f v m).e]) ∧ LQ W w' b q p r (nxF (RmG p bs n) f v m).v bs n f h ∧ Sg w' w.heap.size vr (nxF (RmG p bs n) f v m).R ∧ Sg w' w.heap.size vw (nxF (RmG p bs n) f v m).W ∧ (∀ k, Ug vr k → ¬ Ug vw k) ∧ Only (· = q) w w' ∧ Kq w w' := by
  obtain ⟨S, T, h1, h2, h3, h4, h5⟩ := H.mm
  exact (k_Next (rmC p bs n) w S f h1 q v H.qb H.ok m hm).mono fun e w' ⟨vr, vw, k1, k2, k3, k4, k5, k6⟩ => ⟨vr, vw, k1, H.own k3 k2 (nxF_ok H.ok m), k4, k5, k6, k3, H.kq k3⟩
theorem l_Push (H : LQ W w b q p r v bs n f h) (hd x X : Int) (hX : X = hd % 18446744073709551616) (x0 : 0 ≤ x) (x1 : x < 18446744073709551616) : Calls Try.prog 17 #[.pointer (some ⟨q, 0, none⟩), gR p, .int .i64 hd, .int .u64 x] w fun e w' => e = .returned (.int .i64 (puF (RmG p bs n) f v X x).1) ∧ LQ W w' b q p r (puF (RmG p bs n) f v X x).2.1 bs n (puF (RmG p bs n) f v X x).2.2 h ∧ Kq w w' := by
  obtain ⟨S, T, h1, h2, h3, h4, h5⟩ := H.mm
  exact (k_Push (rmC p bs n) w S f h1 q v H.qb H.ok hd x X hX x0 x1).mono fun e w' ⟨k1, k2, S', k3, k4⟩ => ⟨k1, H.turn h1 h2 h3 h4 h5 k4 k2 (puF_ok H.ok X x) k3, Kq.only k4.1 fun k hk => hk.elim (mem_ty h1 k) fun z => z ▸ ⟨_, _, _, H.qb, by decide⟩⟩
theorem l_MWrite (H : LQ W w b q p r v bs n f h) (a z x : Int) (a0 : 0 ≤ a) (a1 : a < 18446744073709551616) (z0 : -9223372036854775808 ≤ z) (z1 : z ≤ 9223372036854775807) (x0 : 0 ≤ x) (x1 : x < 18446744073709551616) : Calls Try.prog 33 #[.pointer (some ⟨p, 0, none⟩), .int .u64 a, .int .i64 z, .int .u64 x] w fun e w' => e = .returned (.bool (okN bs n a z)) ∧ LQ W w' b q p r v bs n (wrF bs n f a z x) h ∧ Kq w w' := by
  obtain ⟨S, T, h1, h2, h3, h4, h5⟩ := H.mm
  refine (C.c_WriteA w S p bs n f h1 a z x a0 a1 z0 z1 x0 x1).mono fun e w' ⟨S', k1, k2, k3, k4⟩ => ⟨k1, ?_, Kq.only k3 (mem_ty h1)⟩
  have ht : Tx w (fun k => S k ∨ k = q) w' (fun k => S' k ∨ k = q) := ⟨k3.mono fun k _ e => .inl e, fun k hk => hk.elim (fun z => (k4 k z).imp .inl id) fun z => .inl (.inr z)⟩
  exact H.turn h1 h2 h3 h4 h5 ht (H.qb.only k3 fun e => h1.typ H.qb (by decide) (by decide) (by decide) e) H.ok k2
theorem l_MRead (H : LQ W w b q p r v bs n f h) (a z : Int) (a0 : 0 ≤ a) (a1 : a < 18446744073709551616) (z0 : -9223372036854775808 ≤ z) (z1 : z ≤ 9223372036854775807) : Calls Try.prog 32 #[.pointer (some ⟨p, 0, none⟩), .int .u64 a, .int .i64 z] w fun e w' => e = .returned (.tuple #[.int .u64 (rdF bs n f a z), .bool (okN bs n a z)]) ∧ LQ W w' b q p r v bs n f h ∧ Kq w w' := by
  obtain ⟨S, T, h1, h2, h3, h4, h5⟩ := H.mm
  exact (C.c_ReadA w S p bs n f h1 a z a0 a1 z0 z1).mono fun e w' ⟨k1, k2⟩ => ⟨k1, H.below k2, .below k2⟩
theorem l_WWrite (H : LQ W w b q p r v bs n f h) (a z x : Int) (a0 : 0 ≤ a) (a1 : a < 18446744073709551616) (z0 : -9223372036854775808 ≤ z) (z1 : z ≤ 9223372036854775807) (x0 : 0 ≤ x) (x1 : x < 18446744073709551616) : Calls Try.prog 48 #[.pointer (some ⟨r, 0, none⟩), .int .u64 a, .int .i64 z, .int .u64 x] w fun e w' => e = .returned (.bool (okN bs n a z)) ∧ LQ W w' b q p r v bs n f (wrF bs n h a z x) ∧ Kq w w' := by
  obtain ⟨S, T, h1, h2, h3, h4, h5⟩ := H.mm
  refine (C.q_WriteA w T r bs n h h2 a z x a0 a1 z0 z1 x0 x1).mono fun e w' ⟨T', k1, k2, k3, k4⟩ => ⟨k1, ?_, Kq.only k3 (rmem_ty h2)⟩
  have nq : ¬ T q := rmem_typ h2 H.qb (by decide) (by decide) (by decide)
  have nb : ¬ T b := rmem_typ h2 H.tb (by decide) (by decide) (by decide)
  refine ⟨H.qb.only k3 nq, H.ok, k3.old H.tb nb, ⟨S, T', h1.only k3 h3, k2, fun k hk hT => ?_, h4, fun k hk => ?_⟩, ?_, H.qn, H.bn⟩
  · rcases k4 k hT with z | z
    · exact h3 k hk z
    · have := h1.lt hk; omega
  · rcases k4 k hk with z | z
    · exact h5 k z
    · exact Nat.le_trans H.new.size z
  · exact ((Only.ofBelow (S := fun _ => False) H.new).trans' k3 fun i hi e => absurd (h5 i e) (by omega)).below _ (Nat.le_refl _) fun k e => e.elim
theorem l_WHas (H : LQ W w b q p r v bs n f h) (a z : Int) (a0 : 0 ≤ a) (a1 : a < 18446744073709551616) (z0 : -9223372036854775808 ≤ z) (z1 : z ≤ 9223372036854775807) : Calls Try.prog 31 #[.pointer (some ⟨r, 0, none⟩), .int .u64 a, .int .i64 z] w fun e w' => e = .returned (.bool (hasB bs n a z)) ∧ Still w w' := by
  obtain ⟨S, T, h1, h2, h3, h4, h5⟩ := H.mm
  exact C.q_HasM w T r bs n h h2 a z a0 a1 z0 z1
theorem l_Same (H : LQ W w b q p r v bs n f f) : Calls Try.prog 29 #[.agg #[.pointer (some ⟨p, 0, none⟩), .pointer (some ⟨r, 0, none⟩)]] w fun e w' => e = .returned (.bool true) ∧ LQ W w' b q p r v bs n f f ∧ Kq w w' := by
  obtain ⟨S, T, h1, h2, h3, h4, h5⟩ := H.mm
  exact (C.c_Same w S T p r bs n f h1 h2).mono fun e w' ⟨k1, k2⟩ => ⟨k1, H.below k2, .below k2⟩
set_option maxHeartbeats 1000000 in
theorem l_Write (H : LQ W w b q p r v bs n f h) (a z x : Int) (a0 : 0 ≤ a) (a1 : a < 18446744073709551616) (z0 : -9223372036854775808 ≤ z) (z1 : z ≤ 9223372036854775807) (x0 : 0 ≤ x) (x1 : x < 18446744073709551616) : Calls Try.prog 19 #[.agg #[.pointer (some ⟨p, 0, none⟩), .pointer (some ⟨r, 0, none⟩)], .int .u64 a, .int .i64 z, .int .u64 x] w fun e w' => e = .returned (.tuple #[]) ∧ LQ W w' b q p r v bs n (wrF bs n f a z x) (wrF bs n h a z x) ∧ Kq w w' := by
  have H0 := hid H
  clear H
  go_enter Try.func19, Try.ntmps19
  go_upto_region 1 with fail
  obtain ⟨wa, hwa⟩ : ∃ wa, wa = w.alloc (.cells #[.pointer (some ⟨p, 0, none⟩), .pointer (some ⟨r, 0, none⟩)] 28) := ⟨_, rfl⟩
  have HB : Hid (Below w.heap.size w wa) := hwa ▸ (Below.refl _ _).alloc (Nat.le_refl _) _
  have HA := hid (H0.out.below HB.out)
  have HT : Hid (TB wa w.heap.size p r) := hwa ▸ TB.new w p r
  have d0 := HT.out.c0
  have hM := l_MWrite HA.out a z x a0 a1 z0 z1 x0 x1
  have HX : Hid (∀ w2, LQ W w2 b q p r v bs n (wrF bs n f a z x) h → Calls Try.prog 48 #[.pointer (some ⟨r, 0, none⟩), .int .u64 a, .int .i64 z, .int .u64 x] w2 fun e w' => e = .returned (.bool (okN bs n a z)) ∧ LQ W w' b q p r v bs n (wrF bs n f a z x) (wrF bs n h a z x) ∧ Kq w2 w') := fun w2 h2 => l_WWrite h2 a z x a0 a1 z0 z1 x0 x1
  rw [← hwa]
  clear hwa
  go_wp2_with (first
    | (go_at_call 33; refine hM.mono ?_; rintro e w2 ⟨rfl, k5, k6⟩; have d1 := (k6.tb HT.out).c1; have K2 := hid ((Kq.below HB.out).trans k6); have hX := HX.out w2 k5; clear k5 k6)
    | (go_at_call 48; refine hX.mono ?_; rintro e w3 ⟨rfl, k7, k8⟩; have H3 := hid k7; have K3 := hid (K2.out.trans k8); clear k7 k8))
  go_end0
  exact ⟨rfl, H3.out, K3.out⟩
end
end Go.Proofs.Ytgebjfkmiaobgaa
namespace Go.Proofs.Ytgebjfkmiaobgaa
open Go.RowKit
open C (Only hid Still ret_int ret_bool Mem RMem okN rdF wrF hasB nu put byt TB Tw TwB)
set_option linter.unusedVariables false
set_option maxRecDepth 100000

theorem cl_nil (w : World) : C.Cl w none 0 0 0 0 (fun _ => (0, 0)) where
  len := Nat.le_refl _
  cap := by decide
  at0 := fun h => absurd h (by decide)
  cell := fun i hi => absurd hi (by omega)
  num := fun i hi => absurd hi (by omega)
def f0 : Nat → Int := fun _ => 0
theorem l_Memory (w : World) (bs : Int) (b0 : 0 ≤ bs) (b1 : bs ≤ 1099511627776) (bm : bs % 4096 = 0) (n : Nat) (n0 : 0 < n) (n1 : n ≤ 1024) (N : Int) (hN : N = n) : Calls Try.prog 10 #[.int .u64 bs, .int .i64 N, .slice none 0 0] w fun e w' => ∃ p r U, e = .returned (.tuple #[.agg #[.pointer (some ⟨p, 0, none⟩), .pointer (some ⟨r, 0, none⟩)], .bool true]) ∧ TwB w' U p r bs n f0 ∧ Below w.heap.size w w' ∧ ∀ k, U k → w.heap.size ≤ k := by
  rw [hN]
  exact C.c_MemoryB w bs b0 b1 bm n n0 n1 none 0 0 0 0 _ (cl_nil w)
/-- the queue is made behind the memories -/
theorem LQ.lay {W w0 w1 w2 : World} {p r n : Nat} {bs : Int} {U : Nat → Prop} {f : Nat → Int} (h0 : Below W.heap.size W w0) (ht : TwB w1 U p r bs n f) (hb : Below w0.heap.size w0 w1) (hu : ∀ k, U k → w0.heap.size ≤ k) (f1 : Qb w2 (w1.alloc (.cells #[.pointer (some ⟨p, 0, none⟩), .pointer (some ⟨r, 0, none⟩)] 28)).heap.size q0) (f2 : Below (w1.alloc (.cells #[.pointer (some ⟨p, 0, none⟩), .pointer (some ⟨r, 0, none⟩)] 28)).heap.size (w1.alloc (.cells #[.pointer (some ⟨p, 0, none⟩), .pointer (some ⟨r, 0, none⟩)] 28)) w2) :
    LQ W w2 w1.heap.size (w1.heap.size + 1) p r q0 bs n f f := by
  obtain ⟨S, T, k1, k2, k3, k4⟩ := ht
  have e1 : (w1.alloc (.cells #[.pointer (some ⟨p, 0, none⟩), .pointer (some ⟨r, 0, none⟩)] 28)).heap.size = w1.heap.size + 1 := by simp
  have ba : Below w1.heap.size w1 (w1.alloc (.cells #[.pointer (some ⟨p, 0, none⟩), .pointer (some ⟨r, 0, none⟩)] 28)) := (Below.refl _ _).alloc (Nat.le_refl _) _
  have b2 : Below w1.heap.size w1 w2 := ba.trans (f2.mono ba.size)
  have b3 : Below w0.heap.size w0 w2 := hb.trans (b2.mono hb.size)
  have s0 := h0.size
  have s1 := hb.size
  rw [e1] at f1
  exact ⟨f1, q0_ok, (TB.new w1 p r).below f2, ⟨S, T, k1.below b2, k2.below b2, k4, fun k hk => Nat.le_trans s0 (hu k ((k3 k).2 (.inl hk))), fun k hk => Nat.le_trans s0 (hu k ((k3 k).2 (.inr hk)))⟩, h0.trans (b3.mono s0), by omega, by omega⟩
/-- a descriptor's bytes are written -/
def putD (bs : Int) (n : Nat) (f : Nat → Int) (at0 a l fl nx : Int) : Nat → Int := wrF bs n (wrF bs n (wrF bs n (wrF bs n f at0 8 a) (at0 + 8) 4 l) (at0 + 12) 2 fl) (at0 + 14) 2 nx
def u64m (x : Int) : Int := x % 18446744073709551616
section
variable {W w w' : World} {b q p r : Nat} {v v' : QV} {bs : Int} {n : Nat} {f h f' h' : Nat → Int}
set_option maxHeartbeats 1000000 in
theorem l_Put (H : LQ W w b q p r v bs n f h) (base i a l fl nx at0 : Int) (b0 : 0 ≤ base) (b1 : base ≤ 1099511627776) (i0 : -9223372036854775808 ≤ i) (i1 : i ≤ 9223372036854775807) (a0 : 0 ≤ a) (a1 : a < 18446744073709551616) (l0 : 0 ≤ l) (l1 : l < 18446744073709551616) (hat : at0 = base + 256 + 16 * (i % 64)) :
    Calls Try.prog 20 #[.agg #[.pointer (some ⟨p, 0, none⟩), .pointer (some ⟨r, 0, none⟩)], .int .u64 base, .int .i64 i, .int .u64 a, .int .u64 l, .int .i64 fl, .int .i64 nx] w fun e w' => e = .returned (.tuple #[]) ∧ LQ W w' b q p r v bs n (putD bs n f at0 a l (u64m fl) (u64m nx)) (putD bs n h at0 a l (u64m fl) (u64m nx)) ∧ Kq w w' := by
  have hP := fun w => C.c_Place i 64 (by decide) (by decide) i0 i1 w
  have m0 : 0 ≤ i % 64 := by omega
  have m1 : i % 64 < 64 := by omega
  obtain ⟨m, hm⟩ : ∃ m, i % 64 = m := ⟨_, rfl⟩
  rw [hm] at hP m0 m1 hat
  have e1 : IntKind.u64.wrap (base + 256) = base + 256 := by rw [IntKind.wrap_u64]; omega
  have e2 : IntKind.i64.wrap (16 * m) = 16 * m := by rw [IntKind.wrap_i64]; omega
  have e3 : IntKind.u64.wrap (16 * m) = 16 * m := by rw [IntKind.wrap_u64]; omega
  have e4 : IntKind.u64.wrap (base + 256 + 16 * m) = at0 := by rw [IntKind.wrap_u64]; omega
  have t0 : 0 ≤ at0 := by omega
  have t1 : at0 < 1099511640000 := by omega
  have e5 : IntKind.u64.wrap (at0 + 8) = at0 + 8 := by rw [IntKind.wrap_u64]; omega
  have e6 : IntKind.u64.wrap (at0 + 12) = at0 + 12 := by rw [IntKind.wrap_u64]; omega
  have e7 : IntKind.u64.wrap (at0 + 14) = at0 + 14 := by rw [IntKind.wrap_u64]; omega
  have e8 : IntKind.u64.wrap fl = u64m fl := by rw [IntKind.wrap_u64]; rfl
  have e9 : IntKind.u64.wrap nx = u64m nx := by rw [IntKind.wrap_u64]; rfl
  have q1 : 0 ≤ u64m fl ∧ u64m fl < 18446744073709551616 := by unfold u64m; omega
  have q2 : 0 ≤ u64m nx ∧ u64m nx < 18446744073709551616 := by unfold u64m; omega
  have H1 : Hid (∀ w1, LQ W w1 b q p r v bs n f h → Calls Try.prog 19 #[.agg #[.pointer (some ⟨p, 0, none⟩), .pointer (some ⟨r, 0, none⟩)], .int .u64 at0, .int .i64 8, .int .u64 a] w1 fun e w' => e = .returned (.tuple #[]) ∧ LQ W w' b q p r v bs n (wrF bs n f at0 8 a) (wrF bs n h at0 8 a) ∧ Kq w1 w') := fun w1 h1 => l_Write h1 at0 8 a t0 (by omega) (by decide) (by decide) a0 a1
  have H2 : Hid (∀ w1, LQ W w1 b q p r v bs n (wrF bs n f at0 8 a) (wrF bs n h at0 8 a) → Calls Try.prog 19 #[.agg #[.pointer (some ⟨p, 0, none⟩), .pointer (some ⟨r, 0, none⟩)], .int .u64 (at0 + 8), .int .i64 4, .int .u64 l] w1 fun e w' => e = .returned (.tuple #[]) ∧ LQ W w' b q p r v bs n (wrF bs n (wrF bs n f at0 8 a) (at0 + 8) 4 l) (wrF bs n (wrF bs n h at0 8 a) (at0 + 8) 4 l) ∧ Kq w1 w') := fun w1 h1 => l_Write h1 (at0 + 8) 4 l (by omega) (by omega) (by decide) (by decide) l0 l1
  have H3 : Hid (∀ w1, LQ W w1 b q p r v bs n (wrF bs n (wrF bs n f at0 8 a) (at0 + 8) 4 l) (wrF bs n (wrF bs n h at0 8 a) (at0 + 8) 4 l) → Calls Try.prog 19 #[.agg #[.pointer (some ⟨p, 0, none⟩), .pointer (some ⟨r, 0, none⟩)], .int .u64 (at0 + 12), .int .i64 2, .int .u64 (u64m fl)] w1 fun e w' => e = .returned (.tuple #[]) ∧ LQ W w' b q p r v bs n (wrF bs n (wrF bs n (wrF bs n f at0 8 a) (at0 + 8) 4 l) (at0 + 12) 2 (u64m fl)) (wrF bs n (wrF bs n (wrF bs n h at0 8 a) (at0 + 8) 4 l) (at0 + 12) 2 (u64m fl)) ∧ Kq w1 w') := fun w1 h1 => l_Write h1 (at0 + 12) 2 (u64m fl) (by omega) (by omega) (by decide) (by decide) q1.1 q1.2
  have H4 : Hid (∀ w1, LQ W w1 b q p r v bs n (wrF bs n (wrF bs n (wrF bs n f at0 8 a) (at0 + 8) 4 l) (at0 + 12) 2 (u64m fl)) (wrF bs n (wrF bs n (wrF bs n h at0 8 a) (at0 + 8) 4 l) (at0 + 12) 2 (u64m fl)) → Calls Try.prog 19 #[.agg #[.pointer (some ⟨p, 0, none⟩), .pointer (some ⟨r, 0, none⟩)], .int .u64 (at0 + 14), .int .i64 2, .int .u64 (u64m nx)] w1 fun e w' => e = .returned (.tuple #[]) ∧ LQ W w' b q p r v bs n (putD bs n f at0 a l (u64m fl) (u64m nx)) (putD bs n h at0 a l (u64m fl) (u64m nx)) ∧ Kq w1 w') := fun w1 h1 => l_Write h1 (at0 + 14) 2 (u64m nx) (by omega) (by omega) (by decide) (by decide) q2.1 q2.2
  generalize putD bs n f at0 a l (u64m fl) (u64m nx) = f4 at *
  generalize putD bs n h at0 a l (u64m fl) (u64m nx) = h4 at *
  generalize wrF bs n (wrF bs n (wrF bs n f at0 8 a) (at0 + 8) 4 l) (at0 + 12) 2 (u64m fl) = f3 at *
  generalize wrF bs n (wrF bs n (wrF bs n h at0 8 a) (at0 + 8) 4 l) (at0 + 12) 2 (u64m fl) = h3 at *
  generalize wrF bs n (wrF bs n f at0 8 a) (at0 + 8) 4 l = f2 at *
  generalize wrF bs n (wrF bs n h at0 8 a) (at0 + 8) 4 l = h2 at *
  generalize wrF bs n f at0 8 a = f1 at *
  generalize wrF bs n h at0 8 a = h1 at *
  generalize u64m fl = FL at *
  generalize u64m nx = NX at *
  have H0 := hid H
  clear H hat hm
  go_enter Try.func20, Try.ntmps20
  go_upto_region 1 with fail
  obtain ⟨wa, hwa⟩ : ∃ wa, wa = w.alloc (.cells #[.pointer (some ⟨p, 0, none⟩), .pointer (some ⟨r, 0, none⟩)] 28) := ⟨_, rfl⟩
  have HBx : Hid (Below w.heap.size w wa) := hwa ▸ (Below.refl _ _).alloc (Nat.le_refl _) _
  have HA := hid (H0.out.below HBx.out)
  have HT : Hid (TB wa w.heap.size p r) := hwa ▸ TB.new w p r
  rw [← hwa]
  clear hwa
  have HK : Hid (Kq w wa) := .below HBx.out
  have d0 := HT.out.c0
  have d1 := HT.out.c1
  have hW := H1.out wa HA.out
  go_wp2_with (first
    | (go_at_call 13; refine (hP _).mono ?_; rintro e w' ⟨rfl, hw⟩; obtain rfl := hw.symm)
    | (go_at_call 19; (with_reducible refine hW.mono ?_); rintro e w2 ⟨rfl, k5, k6⟩; have HT := hid (k6.tb HT.out); have d0 := HT.out.c0; have d1 := HT.out.c1; have HK := hid (HK.out.trans k6); have hW2 := H2.out w2 k5; clear k5 k6 hW)
    | (go_at_call 19; (with_reducible refine hW2.mono ?_); rintro e w3 ⟨rfl, k5, k6⟩; have HT := hid (k6.tb HT.out); have d0 := HT.out.c0; have d1 := HT.out.c1; have HK := hid (HK.out.trans k6); have hW3 := H3.out w3 k5; clear k5 k6 hW2)
    | (go_at_call 19; (with_reducible refine hW3.mono ?_); rintro e w4 ⟨rfl, k5, k6⟩; have HT := hid (k6.tb HT.out); have d0 := HT.out.c0; have d1 := HT.out.c1; have HK := hid (HK.out.trans k6); have hW4 := H4.out w4 k5; clear k5 k6 hW3)
    | (go_at_call 19; (with_reducible refine hW4.mono ?_); rintro e w5 ⟨rfl, k5, k6⟩; have HK := hid (HK.out.trans k6); have HE := hid k5; clear k5 k6 hW4))
  go_end0
  exact ⟨rfl, HE.out, HK.out⟩
end
end Go.Proofs.Ytgebjfkmiaobgaa
namespace Go.Proofs.Ytgebjfkmiaobgaa
open Go.RowKit
open C (Only hid Still ret_int ret_bool Mem RMem okN rdF wrF hasB nu put byt TB Tw TwB)
set_option linter.unusedVariables false
set_option maxRecDepth 100000

theorem stood_seg : Try.prog.stoodInHeld 61 = false := by kernel_rfl
theorem run_eqS (a l : Int) (w : World) : (Op.equalIn 10000 61 (.agg #[.int .u64 a, .int .i64 l]) (.agg #[.int .u64 a, .int .i64 l])).run Try.prog w = .ok true w := by
  rw [run_equalIn_struct w 9999 61 _ _ u_seg stood_seg]
  go_simp
theorem Sg.at {w : World} {B : Nat} {v : Value} {L : List (Int × Int)} (h : Sg w B v L) (hl : 0 < L.length) : ∃ g cp, v = .slice (some ⟨g, 0, none⟩) L.length cp ∧ L.length ≤ cp ∧ B ≤ g ∧ g < w.heap.size ∧ ∀ i x, L[i]? = some x → w.cell? ⟨g, i * 2, none⟩ = some (.int .u64 x.1) ∧ w.cell? ⟨g, i * 2 + 1, none⟩ = some (.int .i64 x.2) := by
  rcases h.own.2 with ⟨h1, h2⟩ | ⟨g, cap, cur, rfl, h2, h3, h4, h5, h6, h7⟩
  · rw [h2] at hl; exact absurd hl (by decide)
  · refine ⟨g, cap, rfl, h4, h.ge g rfl, lt_of_block h3, fun i x hx => ?_⟩
    obtain ⟨e1, e2⟩ := sgs_at L i x hx
    have il : i < L.length := (List.getElem?_eq_some_iff.1 hx).1
    have cell : ∀ o u, (sgs L)[o]? = some u → o < L.length * 2 → w.cell? ⟨g, o, none⟩ = some u := fun o u ho hl => by
      rw [cell_of_row w g o _ _ _ h3]
      rw [← h7, List.getElem?_take, if_pos (by omega)] at ho
      simpa using ho
    exact ⟨cell _ _ e1 (by omega), cell _ _ e2 (by omega)⟩
def vA : QV := ⟨2, 256, 2048, 2304, 0, 0, false⟩
def fA : Nat → Int := wrF 0 1 (putD 0 1 f0 256 1024 8 (u64m 0) (u64m 0)) 2050 2 1
theorem aw_set : q0.set 2 256 2048 2304 = vA ∧ okS q0 2 256 2048 2304 = true := ⟨rfl, rfl⟩
theorem aw_next (p : Nat) : nxF (RmG p 0 1) fA vA 2 = ⟨0, true, 0, [(1024, 8)], [], vA.take⟩ := by kernel_rfl
theorem aw_push (p : Nat) : (puF (RmG p 0 1) fA vA.take 0 5).1 = 0 := by kernel_rfl
set_option maxHeartbeats 2000000 in
theorem l_awake (w : World) : Calls Try.prog 30 #[] w fun e w' => e = .returned (.bool true) ∧ Below w.heap.size w w' := by
  have hM := l_Memory w 0 (by decide) (by decide) (by decide) 1 (by decide) (by decide) 1 rfl
  go_enter Try.func30, Try.ntmps30
  go_upto_region 3 with (first
    | (go_at_call 10; refine hM.mono ?_; rintro e w1 ⟨p, r, U, rfl, h1, h2, h3⟩; have HT := hid h1; have HB := hid h2; have HU := hid h3; clear h1 h2 h3)
    | (go_at_call 11; refine (k_New _).mono ?_; rintro e w2 ⟨rfl, h1, h2⟩; have HL := hid (LQ.lay (.refl _ _) HT.out HB.out HU.out h1 h2); clear h1 h2))
  have e1 : (w1.alloc (.cells #[.pointer (some ⟨p, 0, none⟩), .pointer (some ⟨r, 0, none⟩)] 28)).heap.size = w1.heap.size + 1 := by simp
  clear HT HB HU
  have hS := l_Setup HL.out 2 256 2048 2304 (by decide) (by decide) (by decide) (by decide) (by decide) (by decide) (by decide) (by decide)
  rw [aw_set.1, aw_set.2] at hS
  go_upto_region 5 with (go_at_call 21; (refine hS.mono ?_); rintro e w3 ⟨rfl, h1, h2⟩; have HL3 := hid h1; clear h1 h2 hS)
  have c0 := HL3.out.c0
  have c1 := HL3.out.c1
  have hP := l_Put HL3.out 0 0 1024 8 0 0 256 (by decide) (by decide) (by decide) (by decide) (by decide) (by decide) (by decide) (by decide) rfl
  go_upto_region 6 with (go_at_call 20; (refine hP.mono ?_); rintro e w4 ⟨rfl, h1, h2⟩; have HL4 := hid h1; clear h1 h2 hP c0 c1)
  have c0 := HL4.out.c0
  have c1 := HL4.out.c1
  have hW := l_Write HL4.out 2050 2 1 (by decide) (by decide) (by decide) (by decide) (by decide) (by decide)
  go_upto_region 7 with (go_at_call 19; (refine hW.mono ?_); rintro e w5 ⟨rfl, h1, h2⟩; have HL5 := hid h1; clear h1 h2 hW c0 c1)
  have HL6 : Hid (LQ w w5 w1.heap.size (w1.heap.size + 1) p r vA 0 1 fA fA) := HL5.out
  have c0 := HL6.out.c0
  have hN := l_Next HL6.out 2 rfl
  rw [aw_next] at hN
  go_upto_region 8 with (first
    | (go_at_call 14; (refine hN.mono ?_); rintro e w6 ⟨vr, vw, rfl, h1, h2, h3, h4, h5, h6⟩; have HL7 := hid h1; have S1 := hid h2; have S2 := hid h3; clear h1 h2 h3 h4 h5 h6 hN c0; have HN6 : Hid ((w6.alloc (.cells #[.int .i64 0, .slice none 0 0, .slice none 0 0] 42)).heap[w6.heap.size]? = some (.cells (cc 0 (.slice none 0 0) (.slice none 0 0)) 42 (0, 0))) := heap_alloc_new w6 _)
    | ((with_reducible refine wpL_stC w6.heap.size 0 vr vw S1.out.s S2.out.s ?_ ?_ HN6.out ?_); rfl; rfl))
  obtain ⟨w7, hw7⟩ : ∃ w7, w7 = (w6.alloc (.cells #[.int .i64 0, .slice none 0 0, .slice none 0 0] 42)).setRow w6.heap.size (cc 0 vr vw) := ⟨_, rfl⟩
  have HB7 : Hid (Below w6.heap.size w6 w7) := hw7 ▸ below_row ((Below.refl _ _).alloc (Nat.le_refl _) _) (Nat.le_refl _) _
  have HC7 : Hid (w7.heap[w6.heap.size]? = some (.cells (cc 0 vr vw) 42 (0, 0))) := hw7 ▸ setRow_heap _ w6.heap.size _ _ _ _ HN6.out
  rw [← hw7]
  clear hw7
  have HL8 := hid (HL7.out.below HB7.out)
  obtain ⟨g, cp, rfl, g1, g2, g3, g4⟩ := (S1.out.below HB7.out).at (by decide)
  obtain ⟨d0, d1⟩ := g4 0 (1024, 8) rfl
  have x1 : w7.cell? ⟨w6.heap.size, 1, none⟩ = some (.slice (some ⟨g, 0, none⟩) 1 cp) := cell_of_row w7 _ 1 _ _ _ HC7.out
  have c0 := HL8.out.c0
  have hE := run_eqS 1024 8
  have hU := l_Push HL8.out 0 5 0 rfl (by decide) (by decide)
  rw [aw_push] at hU
  have hcp : 1 ≤ cp := g1
  clear g4 S1 S2
  go_wp2_with (go_at_call 17; (refine hU.mono ?_); rintro e w9 ⟨rfl, h1, h2⟩; have HL9 := hid h1; clear h1 h2 hU c0)
  go_ret
  exact ⟨rfl, HL9.out.new⟩
end Go.Proofs.Ytgebjfkmiaobgaa
namespace Go.Proofs.Ytgebjfkmiaobgaa
open Go.RowKit
open C (Only hid Still ret_int ret_bool Mem RMem okN rdF wrF hasB nu put byt TB Tw TwB)
set_option linter.unusedVariables false
set_option maxRecDepth 100000

theorem bit0 (x : Int) (x0 : 0 ≤ x) (x1 : x < 65536) : (bits BinOp.and IntKind.u16 x 1 != 0) = (x % 2 == 1) := by
  obtain ⟨n, rfl⟩ : ∃ n : Nat, x = n := ⟨x.toNat, by omega⟩
  have h := u16_and_nat n 1 (by omega) (by decide)
  rw [show ((1 : Nat) : Int) = 1 from rfl] at h
  rw [h, Nat.and_one_is_mod]
  rcases Nat.mod_two_eq_zero_or_one n with e | e <;> simp [e] <;> omega
theorem qu_after (p : Nat) (n : Nat) (f : Nat → Int) (a x : Int) (x0 : 0 ≤ x) (v : QV) (hz : v.sz ≠ 0) (ha : v.a = a) : quF (RmG p 0 n) (wrF 0 n f a 2 x) v = (okN 0 n a 2 && x % 2 == 1) := by
  unfold quF
  have h1 : (v.sz != 0) = true := by simp [hz]
  rw [h1, ha, Bool.true_and]
  show (okN 0 n a 2 && bits BinOp.and IntKind.u16 (rdF 0 n (wrF 0 n f a 2 x) a 2) 1 != 0) = _
  cases e : okN 0 n a 2
  · rfl
  · have := rd_same (bs := 0) (n := n) f a 2 x x0 e
    rw [show ((2 : Nat) : Int) = 2 from rfl] at this
    rw [this, bit0 _ (by omega) (by omega)]
    rw [show (256 : Int) ^ 2 = 65536 by decide]
    have : x % 65536 % 2 = x % 2 := by omega
    rw [this]
set_option maxHeartbeats 4000000 in
theorem w_VirtqQuiet (W : World) (fl : Int) (l0 : 0 ≤ fl) (l1 : fl < 18446744073709551616) (at0 : Int) (a0 : 0 ≤ at0) (a1 : at0 < 18446744073709551616) :
    Calls Try.prog 8 #[.int .u64 fl, .int .u64 at0] W fun e w' => e = .returned (.bool true) ∧ Below W.heap.size W w' := by
  have hM := l_Memory W 0 (by decide) (by decide) (by decide) 1 (by decide) (by decide) 1 rfl
  have t1 : at0.tmod 4200 = at0 % 4200 := Int.tmod_eq_emod_of_nonneg a0
  obtain ⟨a, ha⟩ : ∃ a, at0 % 4200 / 2 * 2 = a := ⟨_, rfl⟩
  have b0 : 0 ≤ a := by omega
  have b1 : a < 4200 := by omega
  have bm : a % 2 = 0 := by omega
  have t2 : (at0 % 4200).tdiv 2 = at0 % 4200 / 2 := Int.tdiv_eq_ediv_of_nonneg (by omega)
  have t3 : IntKind.u64.wrap (at0 % 4200 / 2 * 2) = a := by rw [IntKind.wrap_u64, ← ha]; omega
  have t4 : fl.tmod 2 = fl % 2 := Int.tmod_eq_emod_of_nonneg l0
  go_enter Try.func8, Try.ntmps8
  go_upto_region 3 with (first
    | (go_at_call 10; refine hM.mono ?_; rintro e w1 ⟨p, r, U, rfl, h1, h2, h3⟩; have HT := hid h1; have HB := hid h2; have HU := hid h3; clear h1 h2 h3)
    | (go_at_call 11; refine (k_New _).mono ?_; rintro e w2 ⟨rfl, h1, h2⟩; have HL := hid (LQ.lay (.refl _ _) HT.out HB.out HU.out h1 h2); clear h1 h2))
  have e1 : (w1.alloc (.cells #[.pointer (some ⟨p, 0, none⟩), .pointer (some ⟨r, 0, none⟩)] 28)).heap.size = w1.heap.size + 1 := by simp
  clear HT HB HU hM
  have c0 := HL.out.c0
  have hQ := l_Quiet HL.out
  go_upto_region 5 with (go_at_call 27; (refine hQ.mono ?_); rintro e w3 ⟨rfl, h1, h2⟩; have HL3 := hid h1; clear h1 h2 hQ c0)
  have hS := l_Setup HL3.out 4 0 a 0 (by decide) (by decide) (by decide) (by decide) b0 (by omega) (by decide) (by decide)
  have hok : okS q0 4 0 a 0 = true := by
    have : isPl a 2 = true := by unfold isPl; simp [bm]; omega
    unfold okS
    rw [this]
    rfl
  have hv : q0.set 4 0 a 0 = ⟨4, 0, a, 0, 0, 0, false⟩ := by unfold QV.set; rw [hok]; rfl
  rw [hok, hv] at hS
  clear hok hv
  have HA := hid ha
  clear ha
  go_upto_region 8 with (go_at_call 21; (refine hS.mono ?_); rintro e w4 ⟨rfl, h1, h2⟩; have HL4 := hid h1; clear h1 h2 hS)
  have c0 := HL4.out.c0
  have hW := l_MWrite HL4.out a 2 fl b0 (by omega) (by decide) (by decide) l0 l1
  go_upto_region 9 with (go_at_call 33; (refine hW.mono ?_); rintro e w5 ⟨rfl, h1, h2⟩; have HL5 := hid h1; clear h1 h2 hW c0)
  have c0 := HL5.out.c0
  have hQ := l_Quiet HL5.out
  rw [qu_after p 1 f0 a fl l0 _ (show (4 : Int) ≠ 0 by decide) rfl] at hQ
  have HAw := hid l_awake
  cases ok : okN 0 1 a 2
  · rw [ok] at hQ
    go_wp2_with (first
      | (go_at_call 27; (refine hQ.mono ?_); rintro e w6 ⟨rfl, h1, h2⟩; have HL6 := hid h1; clear h1 h2 hQ c0)
      | (go_at_call 30; (refine (HAw.out _).mono ?_); rintro e w7 ⟨rfl, h1⟩; have B7 := hid h1; clear h1))
    go_ret
    exact ⟨rfl, HL6.out.new.trans (B7.out.mono HL6.out.new.size)⟩
  · rw [ok, Bool.true_and] at hQ
    generalize hx : (fl % 2 == 1) = X at *
    cases X
    all_goals
      go_wp2_with (first
        | (go_at_call 27; (refine hQ.mono ?_); rintro e w6 ⟨rfl, h1, h2⟩; have HL6 := hid h1; clear h1 h2 hQ c0)
        | (go_at_call 30; (refine (HAw.out _).mono ?_); rintro e w7 ⟨rfl, h1⟩; have B7 := hid h1; clear h1))
      go_ret
      exact ⟨rfl, HL6.out.new.trans (B7.out.mono HL6.out.new.size)⟩
end Go.Proofs.Ytgebjfkmiaobgaa
