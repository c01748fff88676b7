/- The document's IOMMU: an access. -/
import Derived.Test.YtmdconecigenfaaGreatKE
import Derived.Test.YtmdconecigenfaaGreatCPRQ
import Derived.Deep.DeepCutAuto
namespace Go.Proofs.YtmdconecigenfaaGreat
open Go.RowKit
open C (Only hid Mem Still ret_int ret_bool put byt nu RMem hasB WB WB.cell Calls.wb wp_region_wb gst rdm)
set_option linter.unusedVariables false
set_option maxRecDepth 100000

/-- what the document's IOMMU is behind a call -/
def DQ (w w' : World) (b q r : Nat) (v' : UV) (mv : Value) (S : Nat → Prop) (n : Nat) (f' : Nat → Int) (room : Nat) (vv : Value) (L' : List E.TV) : Prop :=
  ∃ S' vv', Ru w' b q r v' mv ∧ RMem w' S' q 0 n f' ∧ E.RM w' r room vv' L' ∧ Only (fun j => j = b ∨ S j ∨ j = r) w w' ∧ (∀ j, S' j → S j ∨ w.heap.size ≤ j) ∧ (∀ j, vv'.ownBlock = some j → vv.ownBlock = some j ∨ w.heap.size ≤ j)
theorem rm_u {w : World} {b q r : Nat} {v : UV} {mv : Value} {room : Nat} {vv : Value} {L : List E.TV} (hu : Ru w b q r v mv) (hr : E.RM w r room vv L) : r ≠ b ∧ ∀ k, vv.ownBlock = some k → k ≠ b := by
  unfold Ru at hu
  refine ⟨fun e => ?_, fun k hk e => ?_⟩
  · subst e; rw [hr.top] at hu; simp at hu
  · obtain ⟨cur, hc⟩ := hr.es.block hk
    subst e; rw [hc] at hu; simp at hu
theorem rm_s {w : World} {q r : Nat} {S : Nat → Prop} {n : Nat} {f : Nat → Int} {room : Nat} {vv : Value} {L : List E.TV} (hm : RMem w S q 0 n f) (hr : E.RM w r room vv L) : ¬ S r ∧ ∀ k, vv.ownBlock = some k → ¬ S k := by
  refine ⟨rmem_typ hm hr.top (by decide) (by decide) (by decide), fun k hk => ?_⟩
  obtain ⟨cur, hc⟩ := hr.es.block hk
  exact rmem_typ hm hc (by decide) (by decide) (by decide)
theorem k_recD (w w1 : World) (b q r : Nat) (v : UV) (mv : Value) (S : Nat → Prop) (n : Nat) (f : Nat → Int) (room : Nat) (vv vv1 : Value) (L1 : List E.TV) (ho : Only (· = r) w w1) (hu : Ru w1 b q r v mv) (hm : RMem w1 S q 0 n f) (hr : E.RM w1 r room vv1 L1) (hv : ∀ j, vv1.ownBlock = some j → vv.ownBlock = some j ∨ w.heap.size ≤ j) (ok : VOk v n) (d c a : Int) (d0 : 0 ≤ d) (d1 : d < 8) (c0 : 0 ≤ c) (c1 : c < 8) (a0 : 0 ≤ a) (a1 : a < 18446744073709551616) :
    Calls Tryz.prog 96 #[.pointer (some ⟨b, 0, none⟩), .int .i64 d, .int .i64 c, .int .u64 a] w1 fun e w' => e = .returned (.tuple #[]) ∧ DQ w w' b q r (rcV v) mv S n (rcF v f d c a) room vv L1 := by
  refine (k_rec w1 b q r v mv hu S n f hm ok d c a d0 d1 c0 c1 a0 a1).mono ?_
  rintro e w' ⟨rfl, S', i1, i2, i3, i4⟩
  obtain ⟨t1, t2⟩ := rm_u hu hr
  obtain ⟨t3, t4⟩ := rm_s hm hr
  refine ⟨rfl, S', vv1, i1, i2, hr.only i3 (fun z => z.elim t1 t3) (fun k hk z => z.elim (t2 k hk) (t4 k hk)), ?_, fun j hj => (i4 j hj).imp id fun z => Nat.le_trans ho.size z, hv⟩
  exact (ho.mono fun k _ z => .inr (.inr z)).trans (i3.mono fun k _ z => z.elim .inl fun y => .inr (.inl y))
theorem k_Access_no (w : World) (b : Nat) (d a s : Int) (wt : Bool) (hd : isDev d = false) : Calls Tryz.prog 62 #[.pointer (some ⟨b, 0, none⟩), .int .i64 d, .int .u64 a, .int .i64 s, .bool wt] w fun e w' => e = .returned (.tuple #[.int .u64 0, .bool false]) ∧ w' = w := by
  go_enter Tryz.func62, Tryz.ntmps62
  go_wp2_with ((go_at_call 95; refine (k_none _ d false hd).mono ?_; rintro e w2 ⟨rfl, hw2⟩; obtain rfl := hw2.symm))
  go_ret2
  exact ⟨rfl, rfl⟩
theorem ret_bv {x y : Bool} (h : x = y) : Value.bool x = Value.bool y := by rw [h]
set_option maxHeartbeats 2000000 in
theorem k_Access_size (w : World) (b q r : Nat) (v : UV) (mv : Value) (hu : Ru w b q r v mv) (S : Nat → Prop) (n : Nat) (f : Nat → Int) (hm : RMem w S q 0 n f) (room : Nat) (vv : Value) (L : List E.TV) (hr : E.RM w r room vv L) (ok : VOk v n) (d a s : Int) (wt : Bool) (hd : isDev d = true) (a0 : 0 ≤ a) (a1 : a < 18446744073709551616) (s0 : -9223372036854775808 ≤ s) (s1 : s ≤ 9223372036854775807) (hw : whole a s = false) :
    Calls Tryz.prog 62 #[.pointer (some ⟨b, 0, none⟩), .int .i64 d, .int .u64 a, .int .i64 s, .bool wt] w fun e w' => e = .returned (.tuple #[.int .u64 0, .bool false]) ∧ DQ w w' b q r (rcV v) mv S n (rcF v f d 4 a) room vv L := by
  obtain ⟨q0, q1⟩ := dev_cases hd
  have HD : Hid (Ru w b q r v mv ∧ RMem w S q 0 n f ∧ E.RM w r room vv L) := ⟨hu, hm, hr⟩
  have hlt := hu.lt
  clear hu hm hr
  cases wt
  all_goals
    go_enter Tryz.func62, Tryz.ntmps62
    go_upto_region 8 with ((go_at_call 95; refine (k_none _ d true hd).mono ?_; rintro e w2 ⟨rfl, hw2⟩; obtain rfl := hw2.symm))
    go_cut [43] from 23 (fun t wc => t = .bool (!whole a s) ∧ w = wc)
    case first =>
      have hs : s = 1 ∨ s = 2 ∨ s = 4 ∨ s = 8 ∨ ¬ (s = 1 ∨ s = 2 ∨ s = 4 ∨ s = 8) := by omega
      clear hw
      rcases hs with rfl | rfl | rfl | rfl | hs
      iterate 4
        · go_wp2_with fail
          go_meet
          case rel => exact ⟨ret_bv (by first | (simp [whole]; done) | (simp [whole]; rfl)), rfl⟩
      · have n1 : (s == 1) = false := by simp; omega
        have n2 : (s == 2) = false := by simp; omega
        have n4 : (s == 4) = false := by simp; omega
        have n8 : (s == 8) = false := by simp; omega
        go_wp2_with fail
        go_meet
        case rel => exact ⟨ret_bv (by simp [whole, hs]), rfl⟩
    case rest =>
      obtain ⟨rfl, rfl⟩ := hcut
      rw [hw]
      go_wp2_with ((go_at_call 96; refine (k_recD w _ b q r v mv S n f room vv vv L (Only.refl _) HD.out.1 HD.out.2.1 HD.out.2.2 (fun j h => .inl h) ok d 4 a q0 q1 (by decide) (by decide) a0 a1).mono ?_; rintro e w3 ⟨rfl, hq⟩; have HQ := hid hq; clear hq))
      go_ret2
      exact ⟨rfl, HQ.out⟩
set_option maxHeartbeats 2000000 in
theorem k_Access_none (w : World) (b q r : Nat) (v : UV) (mv : Value) (hu : Ru w b q r v mv) (S : Nat → Prop) (n : Nat) (f : Nat → Int) (hm : RMem w S q 0 n f) (room : Nat) (vv : Value) (L : List E.TV) (hr : E.RM w r room vv L) (ok : VOk v n) (d a s : Int) (wt : Bool) (hd : isDev d = true) (a0 : 0 ≤ a) (a1 : a < 18446744073709551616) (s0 : -9223372036854775808 ≤ s) (s1 : s ≤ 9223372036854775807) (hw : whole a s = true) (hz : v.root d.toNat = 0) :
    Calls Tryz.prog 62 #[.pointer (some ⟨b, 0, none⟩), .int .i64 d, .int .u64 a, .int .i64 s, .bool wt] w fun e w' => e = .returned (.tuple #[.int .u64 0, .bool false]) ∧ DQ w w' b q r (rcV v) mv S n (rcF v f d 1 a) room vv L := by
  obtain ⟨q0, q1⟩ := dev_cases hd
  have HD : Hid (Ru w b q r v mv ∧ RMem w S q 0 n f ∧ E.RM w r room vv L) := ⟨hu, hm, hr⟩
  have hlt := hu.lt
  have c1 := hu.cr d.toNat (by omega)
  rw [hz] at c1
  clear hu hm hr hz
  cases wt
  all_goals
    go_enter Tryz.func62, Tryz.ntmps62
    go_upto_region 8 with ((go_at_call 95; refine (k_none _ d true hd).mono ?_; rintro e w2 ⟨rfl, hw2⟩; obtain rfl := hw2.symm))
    go_cut [43] from 23 (fun t wc => t = .bool (!whole a s) ∧ w = wc)
    case first =>
      have hs : s = 1 ∨ s = 2 ∨ s = 4 ∨ s = 8 ∨ ¬ (s = 1 ∨ s = 2 ∨ s = 4 ∨ s = 8) := by omega
      clear hw
      rcases hs with rfl | rfl | rfl | rfl | hs
      iterate 4
        · go_wp2_with fail
          go_meet
          case rel => exact ⟨ret_bv (by first | (simp [whole]; done) | (simp [whole]; rfl)), rfl⟩
      · have n1 : (s == 1) = false := by simp; omega
        have n2 : (s == 2) = false := by simp; omega
        have n4 : (s == 4) = false := by simp; omega
        have n8 : (s == 8) = false := by simp; omega
        go_wp2_with fail
        go_meet
        case rel => exact ⟨ret_bv (by simp [whole, hs]), rfl⟩
    case rest =>
      obtain ⟨rfl, rfl⟩ := hcut
      rw [hw]
      go_wp2_with ((go_at_call 96; refine (k_recD w _ b q r v mv S n f room vv vv L (Only.refl _) HD.out.1 HD.out.2.1 HD.out.2.2 (fun j h => .inl h) ok d 1 a q0 q1 (by decide) (by decide) a0 a1).mono ?_; rintro e w3 ⟨rfl, hq⟩; have HQ := hid hq; clear hq))
      go_ret2
      exact ⟨rfl, HQ.out⟩
end Go.Proofs.YtmdconecigenfaaGreat
