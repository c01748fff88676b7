/- A record that is written. -/
import Derived.Test.YtmdconecigenfaaGreatIC
import Derived.Test.YtmdconecigenfaaGreatMC4
import Derived.Test.YtmdconecigenfaaGreatMC3
namespace Go.Proofs.YtmdconecigenfaaGreat
open Go.RowKit
open C (Only hid Mem Still ret_int ret_bool put byt nu WB WB.cell Calls.wb wp_region_wb)
set_option linter.unusedVariables false
set_option maxRecDepth 100000

/-- the memory behind a record -/
def rcf (f : Nat → Int) (p : Nat) (d k a : Int) : Nat → Int := put (put (put f p 4 (byt d)) (p + 4) 4 (byt k)) (p + 8) 8 (byt a)
/-- a record under way -/
structure RJ (w0 : World) (S0 : Nat → Prop) (u : Nat) (v : UV) (n rb : Nat) (d k a : Int) (w : World) (S : Nat → Prop) (f : Nat → Int) : Prop where
  hu : Iu w u v
  hm : Mem w S v.m 0 n f
  ho : Only S0 w0 w
  hs : ∀ k, S k → S0 k ∨ w0.heap.size ≤ k
  hr : w.heap[rb]? = some (.cells #[.int .i64 d, .int .i64 k, .int .u64 a] 86 (0, 0))
theorem RJ.step {w0 : World} {S0 : Nat → Prop} {u : Nat} {v : UV} {n rb : Nat} {d k a : Int} {w w' : World} {S S' : Nat → Prop} {f f' : Nat → Int} (h : RJ w0 S0 u v n rb d k a w S f) (hm : Mem w' S' v.m 0 n f') (ho : Only S w w') (hs : ∀ k, S' k → S k ∨ w.heap.size ≤ k) : RJ w0 S0 u v n rb d k a w' S' f' where
  hu := h.hu.only ho (h.hm.typ h.hu (by decide) (by decide) (by decide))
  hm := hm
  ho := h.ho.trans' ho fun i hi q => (h.hs i q).resolve_right (by omega)
  hs := fun k q => (hs k q).elim (fun z => h.hs k z) fun z => .inr (Nat.le_trans h.ho.size z)
  hr := ho.old h.hr (h.hm.typ h.hr (by decide) (by decide) (by decide))
theorem RJ.dn {w0 : World} {S0 : Nat → Prop} {u : Nat} {v : UV} {n rb : Nat} {d k a : Int} {w : World} {S : Nat → Prop} {f : Nat → Int} (h : RJ w0 S0 u v n rb d k a w S f) (m : Nat) : RJ w0 S0 u v n rb d k a (w.drewN m) S f :=
  h.step (h.hm.below (below_dn (Below.refl _ _) m)) (Only.ofBelow (below_dn (Below.refl _ _) m)) fun k q => .inl q
theorem m_record (w : World) (u : Nat) (v : UV) (hu : Iu w u v) (S : Nat → Prop) (n : Nat) (f : Nat → Int) (hm : Mem w S v.m 0 n f) (d k a : Int) (d0 : 0 ≤ d) (d1 : d < 8) (k0 : 0 ≤ k) (k1 : k < 8) (a0 : 0 ≤ a) (a1 : a < 18446744073709551616) (h : v.there = true) (hc : v.count < 255) (hf : v.first < 256) (ha : v.addr + 4096 ≤ 4096 * n) :
    Calls Tryz.prog 48 #[.pointer (some ⟨u, 0, none⟩), .agg #[.int .i64 d, .int .i64 k, .int .u64 a]] w fun e w' => e = .returned (.tuple #[]) ∧ ∃ S', Iu w' u (v.setCount (v.count + 1)) ∧ Mem w' S' v.m 0 n (rcf f (v.at v.count) d k a) ∧ Only (fun k => k = u ∨ S k) w w' ∧ ∀ k, S' k → S k ∨ w.heap.size ≤ k := by
  have hnS : ∀ {w1 : World} {S1 : Nat → Prop} {f1 : Nat → Int}, Iu w1 u v → Mem w1 S1 v.m 0 n f1 → ¬ S1 u := fun h1 h2 => h2.typ h1 (by decide) (by decide) (by decide)
  have n1 := hm.nums.2.2.2
  have c1 := hu.c522
  have c2 := hu.c525
  have hlt := hu.lt
  have HU := hid hu
  have HM := hid hm
  rw [h] at c1
  have hcc : (255 ≤ (v.count : Int)) = False := by simp; omega
  have hat : v.at v.count + 16 ≤ 4096 * n := by unfold UV.at; omega
  have HA : Hid (((v.addr + (v.first + v.count) % 256 * 16 : Nat) : Int) = ((v.at v.count : Nat) : Int)) := rfl
  clear hu hm
  go_enter Tryz.func48, Tryz.ntmps48
  go_wp2_with fail
  obtain ⟨wa, hwa⟩ : ∃ wa, w.alloc (.cells #[.int .i64 d, .int .i64 k, .int .u64 a] 86) = wa := ⟨_, rfl⟩
  have HBa : Hid (Below w.heap.size w wa) := hwa ▸ (Below.refl _ _).alloc (Nat.le_refl _) _
  have r0 : wa.cell? ⟨w.heap.size, 0, none⟩ = some (.int .i64 d) := by rw [← hwa]; simp
  have r1 : wa.cell? ⟨w.heap.size, 1, none⟩ = some (.int .i64 k) := by rw [← hwa]; simp
  have r2 : wa.cell? ⟨w.heap.size, 2, none⟩ = some (.int .u64 a) := by rw [← hwa]; simp
  have hsz : w.heap.size < wa.heap.size := by rw [← hwa]; simp
  obtain ⟨rb, hrb⟩ : ∃ rb, w.heap.size = rb := ⟨_, rfl⟩
  rw [hwa, hrb]
  rw [hrb] at r0 r1 r2
  have HUa := hid (HU.out.below HBa.out)
  have c1 : ∀ x : WB wa, x.w.cell? ⟨u, 522, none⟩ = some (.bool true) := fun x => x.cell HUa.out.lt (h ▸ HUa.out.c522)
  have c2 : ∀ x : WB wa, x.w.cell? ⟨u, 523, none⟩ = some (.int .u64 v.addr) := fun x => x.cell HUa.out.lt HUa.out.c523
  have c3 : ∀ x : WB wa, x.w.cell? ⟨u, 524, none⟩ = some (.int .i64 v.first) := fun x => x.cell HUa.out.lt HUa.out.c524
  have c4 : ∀ x : WB wa, x.w.cell? ⟨u, 525, none⟩ = some (.int .i64 v.count) := fun x => x.cell HUa.out.lt HUa.out.c525
  refine wp_region_wb (by kernel_rfl) (by kernel_rfl) ?_
  repeat
    first
      | (refine wpQuiet_step (fun K hK => ?_)
         go_simp
         first
           | (refine hK _ ?_; clear hK K)
           | (refine ⟨_, fun _ => rfl, hK _ ?_⟩; clear hK K)
           | (refine ⟨.int .u64 ((v.at v.count : Nat) : Int), fun x => ?_, hK _ ?_⟩
              · (go_at_call 49; exact Calls.wb x (HA.out ▸ m_at x.w true v.addr v.first v.count v.count (by omega) hf (by omega) _ rfl))
              clear hK K))
  refine wpQuiet_nil ?_
  intro _ hx
  obtain ⟨x, rfl⟩ := hx
  have HJ0 : Hid (RJ w S u v n rb d k a x.w S f) := ⟨HUa.out.below x.h, (HM.out.below HBa.out).below x.h, Only.ofBelow (HBa.out.trans (x.h.mono HBa.out.size)), fun k q => .inl q, (x.h.block rb (by rw [← hrb]; exact hsz)).trans (by rw [← hrb, ← hwa]; exact heap_alloc_new w _)⟩
  clear c1 c2 c3 c4 r0 r1 r2 HUa HBa HU HM hwa
  obtain ⟨wb, hwb⟩ : ∃ wb, x.w = wb := ⟨_, rfl⟩
  rw [hwb] at HJ0
  rw [hwb]
  clear hwb x
  have c1 := HJ0.out.hu.c1
  have r0 : wb.cell? ⟨rb, 0, none⟩ = some (.int .i64 d) := by rw [cell_of_row wb rb 0 _ _ _ HJ0.out.hr]; rfl
  go_wp2_with fail
  refine wp_region_last_lit (by simp) (by kernel_rfl) (by kernel_rfl) (by kernel_rfl) ?_
  simp only [List.dropLast, List.getLast]
  repeat (go_big_quiet_step (fail))
  refine wpQuiet_nil ?_
  intro _ hwq
  obtain ⟨nq, hwq⟩ := hwq
  subst hwq
  go_wp2_with ((go_at_call 81; refine (C.c_Write _ S v.m 0 n f (HJ0.out.dn nq).hm (v.at v.count) 4 (by omega) (by omega) _ (by omega) d d0 (by omega)).mono ?_; rintro e w1 ⟨S1, rfl, hm1, ho1, hs1⟩; have HJ1 := hid ((HJ0.out.dn nq).step hm1 ho1 hs1); clear hm1 ho1 hs1 HJ0 c1 r0; have c1 := HJ1.out.hu.c1; have r1 : w1.cell? ⟨rb, 1, none⟩ = some (.int .i64 k) := by (rw [cell_of_row w1 rb 1 _ _ _ HJ1.out.hr]; rfl)))
  refine wp_region_last_lit (by simp) (by kernel_rfl) (by kernel_rfl) (by kernel_rfl) ?_
  simp only [List.dropLast, List.getLast]
  repeat (go_big_quiet_step (fail))
  refine wpQuiet_nil ?_
  intro _ hwq
  obtain ⟨nq, hwq⟩ := hwq
  subst hwq
  obtain ⟨nq1, hnq1⟩ : ∃ nq1 : Nat, nq1 = nq := ⟨_, rfl⟩
  go_wp2_with ((go_at_call 81; refine (C.c_Write _ S1 v.m 0 n _ (HJ1.out.dn nq).hm (v.at v.count + 4) 4 (by omega) (by omega) _ (by omega) k k0 (by omega)).mono ?_; rintro e w2 ⟨S2, rfl, hm1, ho1, hs1⟩; have HJ2 := hid ((HJ1.out.dn nq).step hm1 ho1 hs1); clear hm1 ho1 hs1 HJ1 c1 r1; have c1 := HJ2.out.hu.c1; have r1 : w2.cell? ⟨rb, 2, none⟩ = some (.int .u64 a) := by (rw [cell_of_row w2 rb 2 _ _ _ HJ2.out.hr]; rfl)))
  clear hnq1 nq1
  refine wp_region_last_lit (by simp) (by kernel_rfl) (by kernel_rfl) (by kernel_rfl) ?_
  simp only [List.dropLast, List.getLast]
  repeat (go_big_quiet_step (fail))
  refine wpQuiet_nil ?_
  intro _ hwq
  obtain ⟨nq, hwq⟩ := hwq
  subst hwq
  go_wp2_with ((go_at_call 81; refine (C.c_Write _ S2 v.m 0 n _ (HJ2.out.dn nq).hm (v.at v.count + 8) 8 (by omega) (by omega) _ (by omega) a a0 a1).mono ?_; rintro e w3 ⟨S3, rfl, hm1, ho1, hs1⟩; have HJ3 := hid ((HJ2.out.dn nq).step hm1 ho1 hs1); clear hm1 ho1 hs1 HJ2 c1 r1; have c1 := HJ3.out.hu.c525; have f1 := HJ3.out.hu.z 525))
  refine bodyPost_end (results_none Tryz.results48 _ _ _) rfl ⟨rfl, S3, ?_, ?_, ?_, fun k q => HJ3.out.hs k q⟩
  · exact HJ3.out.hu.sc (v.count + 1)
  · exact HJ3.out.hm.only (only1 w3 u _ _) (fun j hj q => hnS HJ3.out.hu HJ3.out.hm (q ▸ hj))
  · exact (HJ3.out.ho.mono fun j _ q => .inr q).trans' (only1 w3 u _ _) fun i _ q => .inl q
end Go.Proofs.YtmdconecigenfaaGreat
namespace Go.Proofs.YtmdconecigenfaaGreat
open Go.RowKit
open C (Only hid Mem Still ret_int ret_bool put byt nu WB WB.cell Calls.wb wp_region_wb hasB)
set_option linter.unusedVariables false
set_option maxRecDepth 100000

theorem m_Ring (w : World) (u : Nat) (v : UV) (hu : Iu w u v) (S : Nat → Prop) (n : Nat) (f : Nat → Int) (hm : Mem w S v.m 0 n f) (a : Nat) (ha : a % 4096 = 0) (hl : a + 4096 ≤ 4096 * n) (i : Int) (hi : i = a) :
    Calls Tryz.prog 17 #[.pointer (some ⟨u, 0, none⟩), .int .u64 i] w fun e w' => e = .returned (.int .i64 0) ∧ Iu w' u (v.setRing a) ∧ Only (· = u) w w' := by
  subst hi
  have n1 := hm.nums.2.2.2
  have c1 := hu.c1
  have HU := hid hu
  have HM := hid hm
  have hz : ((a : Int) % 4096 != 0) = false := by simp; omega
  have hb : hasB 0 n a 4096 = true := by simp [hasB]; omega
  clear hu hm
  go_enter Tryz.func17, Tryz.ntmps17
  go_wp2_with ((go_at_call 42; refine (C.c_HasM _ S v.m 0 n f HM.out a 4096 (by omega) (by omega) (by decide) (by decide) true hb).mono ?_; rintro e w1 ⟨rfl, hs1⟩; have HU1 := hid (HU.out.below (hs1.below _)); have HO1 := hid (hs1.only (S := (· = u))); have f1 := HU1.out.z; have c2 := HU1.out.c522; have c3 := HU1.out.c523; have c4 := HU1.out.c524; have c5 := HU1.out.c525; clear hs1))
  go_ret
  exact ⟨rfl, HU1.out.ring a, (((HO1.out.trans (only1 _ u _ _)).trans (only1 _ u _ _)).trans (only1 _ u _ _)).trans (only1 _ u _ _)⟩
theorem m_Next_no (w : World) (u : Nat) (v : UV) (hu : Iu w u v) (h : v.count = 0) : Calls Tryz.prog 23 #[.pointer (some ⟨u, 0, none⟩)] w fun e w' => e = .returned (.tuple #[.agg #[.int .i64 0, .int .i64 0, .int .u64 0], .bool false]) ∧ Below w.heap.size w w' := by
  have c1 := hu.c525
  rw [h] at c1
  have hlt := hu.lt
  clear hu
  go_enter Tryz.func23, Tryz.ntmps23
  go_wp2
  go_returns
  exact ⟨rfl, (Below.refl _ _).alloc (Nat.le_refl _) _⟩
theorem set3 {w : World} {b : Nat} {ty : TypeId} {a0 a1 a2 : Value} (h : w.heap[b]? = some (.cells #[a0, a1, a2] ty (0, 0))) (x y z : Value) : (((w.setCell ⟨b, 0, none⟩ x).setCell ⟨b, 1, none⟩ y).setCell ⟨b, 2, none⟩ z).heap[b]? = some (.cells #[x, y, z] ty (0, 0)) := by
  have s1 : (w.setCell ⟨b, 0, none⟩ x).heap[b]? = some (.cells #[x, a1, a2] ty (0, 0)) := by rw [setCell_eq_setRow w b 0 _ _ (0, 0) x h]; exact setRow_heap w b _ _ _ _ h
  have s2 : ((w.setCell ⟨b, 0, none⟩ x).setCell ⟨b, 1, none⟩ y).heap[b]? = some (.cells #[x, y, a2] ty (0, 0)) := by rw [setCell_eq_setRow _ b 1 _ _ (0, 0) y s1]; exact setRow_heap _ b _ _ _ _ s1
  rw [setCell_eq_setRow _ b 2 _ _ (0, 0) z s2]
  exact setRow_heap _ b _ _ _ _ s2
/-- what the memory says at a place -/
def rdn (f : Nat → Int) (p k : Nat) : Int := nu (fun j => f (p + j)) k
theorem rdn4 {f : Nat → Int} (hf : ∀ j, 0 ≤ f j ∧ f j < 256) (p : Nat) : 0 ≤ rdn f p 4 ∧ rdn f p 4 < 4294967296 := C.nu_lt _ (fun j => hf _) 4
theorem rdn8 {f : Nat → Int} (hf : ∀ j, 0 ≤ f j ∧ f j < 256) (p : Nat) : 0 ≤ rdn f p 8 ∧ rdn f p 8 < 18446744073709551616 := C.nu_lt _ (fun j => hf _) 8
theorem m_Next (w : World) (u : Nat) (v : UV) (hu : Iu w u v) (S : Nat → Prop) (n : Nat) (f : Nat → Int) (hm : Mem w S v.m 0 n f) (hc0 : 0 < v.count) (hc : v.count < 256) (hf : v.first < 256) (ha : v.addr + 4096 ≤ 4096 * n) :
    Calls Tryz.prog 23 #[.pointer (some ⟨u, 0, none⟩)] w fun e w' => e = .returned (.tuple #[.agg #[.int .i64 (rdn f (v.at 0) 4), .int .i64 (rdn f (v.at 0 + 4) 4), .int .u64 (rdn f (v.at 0 + 8) 8)], .bool true]) ∧ Iu w' u ((v.setFirst ((v.first + 1) % 256)).setCount (v.count - 1)) ∧ Only (· = u) w w' := by
  have n1 := hm.nums.2.2.2
  have q1 := rdn4 hm.byt (v.at 0)
  have q2 := rdn4 hm.byt (v.at 0 + 4)
  have q3 := rdn8 hm.byt (v.at 0 + 8)
  have c1 := hu.c1
  have c2 := hu.c522
  have c3 := hu.c523
  have c4 := hu.c524
  have c5 := hu.c525
  have hz : ((v.count : Int) == 0) = false := by simp; omega
  have hlt := hu.lt
  have HU := hid hu
  have HM := hid hm
  have hat : v.at 0 + 16 ≤ 4096 * n := by unfold UV.at; omega
  have T1 : Hid True := trivial
  have T2 : Hid True := trivial
  have HA : Hid (((v.addr + (v.first + 0) % 256 * 16 : Nat) : Int) = ((v.at 0 : Nat) : Int)) := rfl
  have R1 : nu (fun j => f (v.at 0 + j)) 4 = rdn f (v.at 0) 4 := rfl
  have R2 : nu (fun j => f (v.at 0 + 4 + j)) 4 = rdn f (v.at 0 + 4) 4 := rfl
  have R3 : nu (fun j => f (v.at 0 + 8 + j)) 8 = rdn f (v.at 0 + 8) 8 := rfl
  have HRR := hid (And.intro R1 (And.intro R2 R3))
  clear hu hm R1 R2 R3
  generalize rdn f (v.at 0) 4 = x1 at *
  generalize rdn f (v.at 0 + 4) 4 = x2 at *
  generalize rdn f (v.at 0 + 8) 8 = x3 at *
  go_enter Tryz.func23, Tryz.ntmps23
  go_wp2_with (first
    | (go_at_call 49; refine (HA.out ▸ m_at _ v.there v.addr v.first v.count 0 (by omega) hf (by decide) 0 rfl).mono ?_; rintro e w1 ⟨rfl, hb1⟩; have HB1 := hid (((Below.refl w.heap.size w).alloc (Nat.le_refl _) _).trans (hb1.mono (by simp))); have hb0 : w1.heap[w.heap.size]? = _ := (hb1.block w.heap.size (by simp)).trans (heap_alloc_new w _); have HB0 := hid hb0; clear hb1 hb0; have k1 := (HU.out.below HB1.out).c1)
    | (have t := T1; go_at_call 29; refine (C.c_Read _ S v.m 0 n f (HM.out.below HB1.out) (v.at 0) 4 (by omega) (by omega) _ (by omega)).mono ?_; rw [HRR.out.1]; clear t T1; rintro e w2 ⟨rfl, hb2⟩; have HB2 := hid (HB1.out.trans (hb2.mono HB1.out.size)); have hb0 := (hb2.block w.heap.size (lt_of_block HB0.out)).trans HB0.out; clear HB0 hb2; have HB0 := hid hb0; clear hb0; have k2 := (HU.out.below HB2.out).c1)
    | (have t := T2; go_at_call 29; refine (C.c_Read _ S v.m 0 n f (HM.out.below HB2.out) (v.at 0 + 4) 4 (by omega) (by omega) _ (by omega)).mono ?_; rw [HRR.out.2.1]; clear t T2; rintro e w3 ⟨rfl, hb2⟩; have HB3 := hid (HB2.out.trans (hb2.mono HB2.out.size)); have hb0 := (hb2.block w.heap.size (lt_of_block HB0.out)).trans HB0.out; clear HB0 hb2; have HB0 := hid hb0; clear hb0; have k3 := (HU.out.below HB3.out).c1))
  go_at_call 29
  refine (C.c_Read _ S v.m 0 n f (HM.out.below HB3.out) (v.at 0 + 8) 8 (by omega) (by omega) _ (by omega)).mono ?_
  rw [HRR.out.2.2]
  rintro e w4 ⟨rfl, hb2⟩
  have HB4 := hid (HB3.out.trans (hb2.mono HB3.out.size))
  have hb0 := (hb2.block w.heap.size (lt_of_block HB0.out)).trans HB0.out
  clear HB0 hb2
  have HU4 := hid (HU.out.below HB4.out)
  have k4 := HU4.out.c524
  have k5 := HU4.out.c525
  have kf := HU4.out.z
  have y0 : w4.cell? ⟨w.heap.size, 0, none⟩ = some (.int .i64 0) := by (rw [cell_of_row w4 _ 0 _ _ _ hb0]; rfl)
  have y1 : w4.cell? ⟨w.heap.size, 1, none⟩ = some (.int .i64 0) := by (rw [cell_of_row w4 _ 1 _ _ _ hb0]; rfl)
  have y2 : w4.cell? ⟨w.heap.size, 2, none⟩ = some (.int .u64 0) := by (rw [cell_of_row w4 _ 2 _ _ _ hb0]; rfl)
  have yf : ∀ j, w4.frozen? ⟨w.heap.size, j, none⟩ = false := fun j => frozen_of_row w4 _ j _ _ hb0
  have hne : (u = w.heap.size) = False := by (simp; omega)
  have hne' : (w.heap.size = u) = False := by (simp; omega)
  go_wp2
  have e1 : ((v.first : Int) + 1) % 256 = (((v.first + 1) % 256 : Nat) : Int) := by omega
  have e2 : (v.count : Int) - 1 = ((v.count - 1 : Nat) : Int) := by omega
  rw [e1, e2]
  have hb5 := ((only1 w4 u 524 (.int .i64 (((v.first + 1) % 256 : Nat) : Int))).trans (only1 _ u 525 (.int .i64 ((v.count - 1 : Nat) : Int)))).old hb0 (by omega)
  have hu5 := (HU4.out.sf ((v.first + 1) % 256)).sc (v.count - 1)
  have ho5 := (only1 w4 u 524 (.int .i64 (((v.first + 1) % 256 : Nat) : Int))).trans (only1 _ u 525 (.int .i64 ((v.count - 1 : Nat) : Int)))
  clear kf k4 k5 y0 y1 y2 yf
  generalize (w4.setCell ⟨u, 524, none⟩ (.int .i64 (((v.first + 1) % 256 : Nat) : Int))).setCell ⟨u, 525, none⟩ (.int .i64 ((v.count - 1 : Nat) : Int)) = w5 at *
  have h6 := set3 hb5 (.int .i64 x1) (.int .i64 x2) (.int .u64 x3)
  have ho6 := ((Only.refl (S := (· = w.heap.size)) w5).setCell (p := ⟨w.heap.size, 0, none⟩) (.inl rfl) (.int .i64 x1)).setCell (p := ⟨w.heap.size, 1, none⟩) (.inl rfl) (.int .i64 x2)
  have ho6 := ho6.setCell (p := ⟨w.heap.size, 2, none⟩) (.inl rfl) (.int .u64 x3)
  generalize ((w5.setCell ⟨w.heap.size, 0, none⟩ (.int .i64 x1)).setCell ⟨w.heap.size, 1, none⟩ (.int .i64 x2)).setCell ⟨w.heap.size, 2, none⟩ (.int .u64 x3) = w6 at *
  have y0 : w6.cell? ⟨w.heap.size, 0, none⟩ = some (.int .i64 x1) := by rw [cell_of_row w6 _ 0 _ _ _ h6]; rfl
  have y1 : w6.cell? ⟨w.heap.size, 1, none⟩ = some (.int .i64 x2) := by rw [cell_of_row w6 _ 1 _ _ _ h6]; rfl
  have y2 : w6.cell? ⟨w.heap.size, 2, none⟩ = some (.int .u64 x3) := by rw [cell_of_row w6 _ 2 _ _ _ h6]; rfl
  refine bodyPost_ret (by simp [results, Tryz.results23, go_sem, y0, y1, y2]; rfl) rfl ?_
  refine ⟨rfl, hu5.only ho6 (by omega), ?_⟩
  exact (Only.ofBelow HB4.out |>.trans ho5).trans' (ho6.mono (T := fun k => w.heap.size ≤ k) fun k _ q => by omega) fun i hi q => by omega
end Go.Proofs.YtmdconecigenfaaGreat
namespace Go.Proofs.YtmdconecigenfaaGreat
open Go.RowKit
open C (Only hid Mem Still ret_int ret_bool put byt nu WB WB.cell Calls.wb wp_region_wb hasB gst rdm)
set_option linter.unusedVariables false
set_option maxRecDepth 100000

def orI (k c : Int) : Int := if k = 0 then c else k
theorem m_Or (w : World) (b n : Nat) (k c : Int) (h0 : w.cell? ⟨b, 0, none⟩ = some (.int .i64 k)) (h1 : w.cell? ⟨b, 1, none⟩ = some (.int .i64 c)) (hc : (c != 0) = true) : Calls Tryz.prog 46 #[.slice (some ⟨b, 0, none⟩) 2 n] w fun e w' => e = .returned (.int .i64 (orI k c)) ∧ w' = w := by
  by_cases hk : k = 0
  · subst hk
    go_enter Tryz.func46, Tryz.ntmps46
    go_wp2
    go_loop [8] (fun t => t = .int .i64 0 ∨ t = .int .i64 1) (fun t => 2 - (intOf t).toNat)
    case atStart => exact .inl rfl
    case round =>
      rcases hrel with rfl | rfl
      · go_wp2
        go_round
        case rel => exact .inr (by go_num)
        case measure => simp [intOf]
      · go_wp2
        go_ret
        exact ⟨rfl, rfl⟩
  · have hk' : (k != 0) = true := by simpa using hk
    go_enter Tryz.func46, Tryz.ntmps46
    go_wp2
    go_loop [8] (fun t => t = .int .i64 0) (fun t => 2 - (intOf t).toNat)
    case atStart => rfl
    case round =>
      subst hrel
      go_wp2
      go_ret
      exact ⟨ret_int (by simp [orI, hk]), rfl⟩
/-- a device's access, as it stands in memory -/
def Ac (w : World) (b : Nat) (d a s : Int) (wr : Bool) (p : Int) : Prop := w.heap[b]? = some (.cells #[.int .i64 d, .int .u64 a, .int .i64 s, .bool wr, .int .u64 p] 149 (0, 0))
section
variable {w w' : World} {b : Nat} {d a s : Int} {wr : Bool} {p : Int}
theorem Ac.lt (h : Ac w b d a s wr p) : b < w.heap.size := lt_of_block h
theorem Ac.c0 (h : Ac w b d a s wr p) : w.cell? ⟨b, 0, none⟩ = some (.int .i64 d) := by rw [cell_of_row w b 0 _ _ _ h]; rfl
theorem Ac.c1 (h : Ac w b d a s wr p) : w.cell? ⟨b, 1, none⟩ = some (.int .u64 a) := by rw [cell_of_row w b 1 _ _ _ h]; rfl
theorem Ac.c2 (h : Ac w b d a s wr p) : w.cell? ⟨b, 2, none⟩ = some (.int .i64 s) := by rw [cell_of_row w b 2 _ _ _ h]; rfl
theorem Ac.c3 (h : Ac w b d a s wr p) : w.cell? ⟨b, 3, none⟩ = some (.bool wr) := by rw [cell_of_row w b 3 _ _ _ h]; rfl
theorem Ac.c4 (h : Ac w b d a s wr p) : w.cell? ⟨b, 4, none⟩ = some (.int .u64 p) := by rw [cell_of_row w b 4 _ _ _ h]; rfl
theorem Ac.z (h : Ac w b d a s wr p) (j : Nat) : w.frozen? ⟨b, j, none⟩ = false := frozen_of_row w b j _ _ h
theorem Ac.below (h : Ac w b d a s wr p) (hb : Below w.heap.size w w') : Ac w' b d a s wr p := (hb.block b h.lt).trans h
theorem Ac.only (h : Ac w b d a s wr p) {T : Nat → Prop} (ho : Only T w w') (hb : ¬ T b) : Ac w' b d a s wr p := ho.old h hb
theorem Ac.set (h : Ac w b d a s wr p) (q : Int) : Ac (w.setCell ⟨b, 4, none⟩ (.int .u64 q)) b d a s wr q := by
  unfold Ac
  rw [setCell_eq_setRow w b 4 _ _ (0, 0) _ h]
  exact setRow_heap w b _ _ _ _ h
end
/-- whether an entry allows it -/
def alw (e : E.TV) (wr : Bool) : Bool := !(bits .and .i64 e.r (art wr) == 0)
/-- where an address comes to by the page's frame -/
def plf (fr a : Int) : Int := IntKind.u64.wrap (IntKind.u64.wrap (fr * 4096) + a % 4096)
end Go.Proofs.YtmdconecigenfaaGreat
