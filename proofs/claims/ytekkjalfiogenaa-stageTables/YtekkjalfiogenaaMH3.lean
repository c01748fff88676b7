/- A space's view: what its tables say is found by the walk. -/
import Derived.Test.YtekkjalfiogenaaMH2
import Derived.Test.YtekkjalfiogenaaMC1
import Derived.Test.YtekkjalfiogenaaHQ
import Derived.Test.YtekkjalfiogenaaMC5
import Derived.Deep.Cut
import Derived.RangeFuncNested
import Derived.RangeFuncBound
import Derived.RangeFuncCalls
import Derived.RangeFuncLeaves
import Derived.Shelf.Abstract
import Derived.Shelf.RegionOpen
import Derived.WalkKit
import Derived.OwnWalkIn
import Derived.TacticsInMore
import Derived.LoopNIn
import Derived.LoopIn
import Derived.Lib.QuietBelowIn
import Derived.OrdersIn
import Derived.Laws.AppendOwn
import Derived.Deep.DeepCutAuto
import Derived.Deep.CutBlock
import Derived.Laws.ResultCell
import Derived.Laws.Rows
import Derived.Maps.AppendAt
namespace Go.Proofs.Ytekkjalfiogenaa
open Go.RowKit
open C (Only hid Mem Still ret_bool ret_int put byt rd8 lo)
set_option linter.unusedVariables false
set_option maxRecDepth 100000

/-- a space's own block -/
def spc (m : Nat) (root : Int) (p : Nat) (vm : Int) (u : Value) : Array Value := #[.pointer (some ⟨m, 0, none⟩), .int .u64 root, .pointer (some ⟨p, 0, none⟩), .int .i64 vm, u]
def Sq (w : World) (q : Nat) (s : SV) (v : PV) (p : Nat) (vm : Int) (u : Value) : Prop := w.heap[q]? = some (.cells (spc v.m (v.b / 4096 + s.r) p vm u) 60 (0, 0))
section
variable {w w' : World} {q : Nat} {s : SV} {v : PV} {p : Nat} {vm : Int} {u : Value}
theorem Sq.only (h : Sq w q s v p vm u) {T : Nat → Prop} (ho : Only T w w') (hd : ¬ T q) : Sq w' q s v p vm u := ho.old h hd
theorem Sq.below (h : Sq w q s v p vm u) (hb : Below w.heap.size w w') : Sq w' q s v p vm u := h.only (T := fun _ => False) (.ofBelow hb) fun z => z
theorem Sq.c0 (h : Sq w q s v p vm u) : w.cell? ⟨q, 0, none⟩ = some (.pointer (some ⟨v.m, 0, none⟩)) := cell_of_row w q 0 _ _ _ h
theorem Sq.c1 (h : Sq w q s v p vm u) : w.cell? ⟨q, 1, none⟩ = some (.int .u64 (v.b / 4096 + s.r)) := cell_of_row w q 1 _ _ _ h
theorem Sq.c2 (h : Sq w q s v p vm u) : w.cell? ⟨q, 2, none⟩ = some (.pointer (some ⟨p, 0, none⟩)) := cell_of_row w q 2 _ _ _ h
theorem Sq.c3 (h : Sq w q s v p vm u) : w.cell? ⟨q, 3, none⟩ = some (.int .i64 vm) := cell_of_row w q 3 _ _ _ h
theorem Sq.c4 (h : Sq w q s v p vm u) : w.cell? ⟨q, 4, none⟩ = some u := cell_of_row w q 4 _ _ _ h
theorem Sq.fz (h : Sq w q s v p vm u) (j : Nat) : w.frozen? ⟨q, j, none⟩ = false := frozen_of_row _ _ j _ _ h
end
theorem c_BaseM (w : World) (S : Nat → Prop) (p : Nat) (base : Int) (n : Nat) (f : Nat → Int) (h : Mem w S p base n f) : Calls Try.prog 94 #[.pointer (some ⟨p, 0, none⟩)] w fun e w' => e = .returned (.int .u64 base) ∧ w' = w := by
  obtain ⟨g, hs, hr, rfl, _⟩ := h
  exact C.c_Base w p g base hs f hr
theorem c_FramesM (w : World) (S : Nat → Prop) (p : Nat) (base : Int) (n : Nat) (f : Nat → Int) (h : Mem w S p base n f) : Calls Try.prog 52 #[.pointer (some ⟨p, 0, none⟩)] w fun e w' => e = .returned (.int .i64 n) ∧ w' = w := by
  obtain ⟨g, hs, hr, rfl, _⟩ := h
  exact C.c_Frames w p g base hs f hr
theorem t_load (w : World) (q m : Nat) (a y : Int) (c0 : w.cell? ⟨q, 0, none⟩ = some (.pointer (some ⟨m, 0, none⟩))) (hR : Calls Try.prog 87 #[.pointer (some ⟨m, 0, none⟩), .int .u64 a, .int .i64 8] w fun e w' => e = .returned (.tuple #[.int .u64 y, .bool true]) ∧ Below w.heap.size w w') : Calls Try.prog 89 #[.pointer (some ⟨q, 0, none⟩), .int .u64 a] w fun r w' => r = .returned (.int .u64 y) ∧ Below w.heap.size w w' := by
  go_enter Try.func89, Try.ntmps89
  go_wp2_with (go_at_call 87; refine hR.mono ?_; rintro r w1 ⟨rfl, hb⟩; have HB := hid hb; clear hb)
  go_ret
  exact ⟨rfl, HB.out⟩
theorem t_store (w : World) (q m : Nat) (a e : Int) (Q : World → Prop) (c0 : w.cell? ⟨q, 0, none⟩ = some (.pointer (some ⟨m, 0, none⟩))) (hR : Calls Try.prog 65 #[.pointer (some ⟨m, 0, none⟩), .int .u64 a, .int .i64 8, .int .u64 e] w fun r w' => r = .returned (.bool true) ∧ Q w') : Calls Try.prog 56 #[.pointer (some ⟨q, 0, none⟩), .int .u64 a, .int .u64 e] w fun r w' => r = .returned (.tuple #[]) ∧ Q w' := by
  go_enter Try.func56, Try.ntmps56
  go_wp2_with (go_at_call 65; refine hR.mono ?_; rintro r w1 ⟨rfl, hb⟩; have HB := hid hb; clear hb)
  go_end0
  exact ⟨rfl, HB.out⟩
/-- where a page's entry stands, and how many tables are wanting -/
def dnO (s : SV) (p : Nat) : Nat := if s.k1 (p / 262144) = 0 then 4096 * s.r + 8 * (p / 262144) else if s.k0 (p / 512) = 0 then 4096 * s.k1 (p / 262144) + 8 * (p / 512 % 512) else 4096 * s.k0 (p / 512) + 8 * (p % 512)
def dnL (s : SV) (p : Nat) : Nat := if s.k1 (p / 262144) = 0 then 2 else if s.k0 (p / 512) = 0 then 1 else 0
section
variable (w : World) (q : Nat) (S : Nat → Prop) (s : SV) (v : PV) (f : Nat → Int) (pl : Nat) (vm : Int) (u : Value) (hq : Sq w q s v pl vm u) (hm : Mem w S v.m v.b v.n f)
include hq hm
theorem c_load (off : Nat) (hl : off + 8 ≤ 4096 * v.n) (a : Int) (ha : a = v.b + off) : Calls Try.prog 89 #[.pointer (some ⟨q, 0, none⟩), .int .u64 a] w fun r w' => r = .returned (.int .u64 (rd8 f off)) ∧ Below w.heap.size w w' :=
  t_load w q v.m a (rd8 f off) hq.c0 (C.c_Read w S v.m v.b v.n f hm off 8 hl (by decide) a ha)
theorem c_store (off : Nat) (hl : off + 8 ≤ 4096 * v.n) (a : Int) (ha : a = v.b + off) (e : Int) (e0 : 0 ≤ e) (e1 : e < 18446744073709551616) : Calls Try.prog 56 #[.pointer (some ⟨q, 0, none⟩), .int .u64 a, .int .u64 e] w fun r w' => r = .returned (.tuple #[]) ∧ ∃ S', Mem w' S' v.m v.b v.n (w8 f off e) ∧ Only S w w' ∧ ∀ k, S' k → S k ∨ w.heap.size ≤ k :=
  t_store w q v.m a e (fun w' => ∃ S', Mem w' S' v.m v.b v.n (w8 f off e) ∧ Only S w w' ∧ ∀ k, S' k → S k ∨ w.heap.size ≤ k) hq.c0 ((C.c_Write w S v.m v.b v.n f hm off 8 hl (by decide) a ha e e0 e1).mono fun r w' ⟨S', h1, h2⟩ => ⟨h1, S', h2⟩)
theorem c_pageOf (t : Nat) (ht : t ≤ 1024) : Calls Try.prog 61 #[.pointer (some ⟨q, 0, none⟩), .int .i64 t] w fun r w' => r = .returned (.int .u64 (v.b / 4096 + t)) ∧ w' = w := by
  have c0 := hq.c0
  obtain ⟨b0, b1, -, -⟩ := hm.nums
  have hR := c_BaseM w S v.m v.b v.n f hm
  clear hq hm
  go_enter Try.func61, Try.ntmps61
  go_wp2_with (go_at_call 94; refine hR.mono ?_; rintro r w1 ⟨rfl, hw⟩; obtain rfl := hw.symm)
  go_ret
  exact ⟨ret_int (by go_num), rfl⟩
theorem c_frameOf (t : Nat) (ht : t ≤ 1024) (x : Int) (hx : x = v.b / 4096 + t) : Calls Try.prog 62 #[.pointer (some ⟨q, 0, none⟩), .int .u64 x] w fun r w' => r = .returned (.int .i64 t) ∧ w' = w := by
  subst hx
  have c0 := hq.c0
  obtain ⟨b0, b1, -, -⟩ := hm.nums
  have hR := c_BaseM w S v.m v.b v.n f hm
  clear hq hm
  go_enter Try.func62, Try.ntmps62
  go_wp2_with (go_at_call 94; refine hR.mono ?_; rintro r w1 ⟨rfl, hw⟩; obtain rfl := hw.symm)
  go_ret
  exact ⟨ret_int (by go_num), rfl⟩
variable (hi : Inv s v f)
include hi
theorem c_down (p : Nat) (hp : p < 134217728) : Calls Try.prog 54 #[.pointer (some ⟨q, 0, none⟩), .int .u64 p] w fun r w' => r = .returned (.tuple #[.int .u64 (v.b + (dnO s p : Nat)), .int .i64 (dnL s p : Nat)]) ∧ Below w.heap.size w w' := by
  have c1 := hq.c1
  have HQ := hid hq
  have HM := hid hm
  have HI := hid hi
  have i2 := c_index2 (p : Int) (by omega) (by omega)
  have i1 := c_index1 (p : Int) (by omega) (by omega)
  have i0 := c_index0 (p : Int) (by omega) (by omega)
  have bm := hi.ba.bm
  have b0 := hi.ba.b0
  have b1 := hi.ba.b1
  have n2 := hi.ba.n2
  have rl := hi.rlt
  obtain ⟨o0, h0⟩ : ∃ o0 : Nat, o0 = 4096 * s.r + 8 * (p / 262144) := ⟨_, rfl⟩
  have ea := c_entryAt (v.b / 4096 + s.r) ((p : Int) / 262144 % 512) (by omega) (by omega) (by omega) (by omega) (v.b + (o0 : Int)) (by omega)
  have H0 := hid h0
  clear h0
  clear hq hm hi
  go_enter Try.func54, Try.ntmps54
  go_wp2_with fail
  go_quiet (first
    | (go_at_call 59; exact Calls.quiet_of_same (i2 _))
    | (go_at_call 58; exact Calls.quiet_of_same (ea _)))
  go_wp2_with fail
  have LD : Hid (∀ (w1 : World) (off : Nat), Below w.heap.size w w1 → off + 8 ≤ 4096 * v.n → ∀ a : Int, a = v.b + off → Calls Try.prog 89 #[.pointer (some ⟨q, 0, none⟩), .int .u64 a] w1 fun r w' => r = .returned (.int .u64 (rd8 f off)) ∧ Below w1.heap.size w1 w') := fun w1 off hb hl a ha => c_load w1 q S s v f pl vm u (HQ.out.below hb) (HM.out.below hb) off hl a ha
  have ko : p / 262144 < 512 := by omega
  go_loopw [4, 5, 6] (fun a l e wr => ∃ k o : Nat, a = .int .u64 (v.b + o) ∧ l = .int .i64 k ∧ Hid (k = 2 ∧ o = 4096 * s.r + 8 * (p / 262144) ∨ k = 1 ∧ s.k1 (p / 262144) ≠ 0 ∧ o = 4096 * s.k1 (p / 262144) + 8 * (p / 512 % 512) ∨ k = 0 ∧ s.k1 (p / 262144) ≠ 0 ∧ s.k0 (p / 512) ≠ 0 ∧ o = 4096 * s.k0 (p / 512) + 8 * (p % 512)) ∧ Hid (Below w.heap.size w wr)) (fun a l e _ => (intOf l).toNat)
  case atStart => exact ⟨2, o0, rfl, rfl, .inl ⟨rfl, H0.out⟩, below_dn (Below.refl _ _) _⟩
  case round =>
    obtain ⟨k, o, rfl, rfl, hk, hb⟩ := hrel
    have hk' := hk.out
    clear hk
    rcases hk' with ⟨rfl, ho⟩ | ⟨rfl, h1, ho⟩ | ⟨rfl, h1, h2, ho⟩
    · have e := HI.out.e2 _ ko
      have tb := tE_b (t := s.k1 (p / 262144)) b0 b1 (by
        rcases Nat.eq_zero_or_pos (s.k1 (p / 262144)) with z | z
        · omega
        · have := (HI.out.k1lt (i := p / 262144) (by omega)).1; omega)
      have hl := LD.out wr o hb.out (by omega) _ rfl
      rw [ho, e, ← ho] at hl
      have HO := hid ho
      clear ho
      have it := c_isTable _ tb.1 tb.2
      rw [isT_t _ _ b0] at it
      by_cases hz : s.k1 (p / 262144) = 0
      · have ed : dnO s p = o ∧ dnL s p = 2 := by rw [HO.out]; unfold dnO dnL; rw [if_pos hz, if_pos hz]; exact ⟨rfl, rfl⟩
        have ED := hid ed
        clear ed
        rw [hz] at hl it
        rw [show decide ((0 : Nat) ≠ 0) = false from rfl] at it
        go_wp2_with (first
          | (go_at_call 89; refine hl.mono ?_; rintro r w1 ⟨rfl, hb1⟩; have HB1 := hid hb1; clear hb1)
          | (go_at_call 69; refine (it _).mono ?_; rintro r w2 ⟨rfl, hw⟩; obtain rfl := hw.symm))
        go_ret2
        exact ⟨by rw [ED.out.1, ED.out.2]; rfl, hb.out.trans (HB1.out.mono hb.out.size)⟩
      · have nm := c_number _ tb.1 tb.2
        rw [num_t _ _ hz] at nm
        have hlt := (HI.out.k1lt hz).1
        obtain ⟨o1, h1⟩ : ∃ o1 : Nat, o1 = 4096 * s.k1 (p / 262144) + 8 * (p / 512 % 512) := ⟨_, rfl⟩
        have ea1 := c_entryAt (v.b / 4096 + s.k1 (p / 262144)) ((p : Int) / 512 % 512) (by omega) (by omega) (by omega) (by omega) (v.b + (o1 : Int)) (by omega)
        have HO1 := hid h1
        clear h1
        rw [decide_eq_true hz] at it
        go_wp2_with (first
          | (go_at_call 89; refine hl.mono ?_; rintro r w1 ⟨rfl, hb1⟩; have HB1 := hid hb1; clear hb1)
          | (go_at_call 69; refine (it _).mono ?_; rintro r w2 ⟨rfl, hw⟩; obtain rfl := hw.symm)
          | (go_at_call 63; refine (nm _).mono ?_; rintro r w2 ⟨rfl, hw⟩; obtain rfl := hw.symm)
          | (go_at_call 59; refine (i1 _).mono ?_; rintro r w2 ⟨rfl, hw⟩; obtain rfl := hw.symm)
          | (go_at_call 58; refine (ea1 _).mono ?_; rintro r w2 ⟨rfl, hw⟩; obtain rfl := hw.symm))
        go_roundw
        case rel => exact ⟨1, o1, rfl, rfl, .inr (.inl ⟨rfl, hz, HO1.out⟩), hb.out.trans (HB1.out.mono hb.out.size)⟩
        case measure => first | (simp [intOf]; done) | (simp [intOf]; omega)
    · have e := HI.out.e1 _ (p / 512 % 512) h1 (by omega)
      rw [show 512 * (p / 262144) + p / 512 % 512 = p / 512 by omega] at e
      have hk1 := (HI.out.k1lt h1).1
      have tb := tE_b (t := s.k0 (p / 512)) b0 b1 (by
        rcases Nat.eq_zero_or_pos (s.k0 (p / 512)) with z | z
        · omega
        · have := (HI.out.k0lt (q := p / 512) (by omega)).1; omega)
      have hl := LD.out wr o hb.out (by omega) _ rfl
      rw [ho, e, ← ho] at hl
      have HO := hid ho
      clear ho
      have it := c_isTable _ tb.1 tb.2
      rw [isT_t _ _ b0] at it
      by_cases hz : s.k0 (p / 512) = 0
      · have ed : dnO s p = o ∧ dnL s p = 1 := by rw [HO.out]; unfold dnO dnL; rw [if_neg h1, if_neg h1, if_pos hz, if_pos hz]; exact ⟨rfl, rfl⟩
        have ED := hid ed
        clear ed
        rw [hz] at hl it
        rw [show decide ((0 : Nat) ≠ 0) = false from rfl] at it
        go_wp2_with (first
          | (go_at_call 89; refine hl.mono ?_; rintro r w1 ⟨rfl, hb1⟩; have HB1 := hid hb1; clear hb1)
          | (go_at_call 69; refine (it _).mono ?_; rintro r w2 ⟨rfl, hw⟩; obtain rfl := hw.symm))
        go_ret2
        exact ⟨by rw [ED.out.1, ED.out.2]; rfl, hb.out.trans (HB1.out.mono hb.out.size)⟩
      · have nm := c_number _ tb.1 tb.2
        rw [num_t _ _ hz] at nm
        have hlt := (HI.out.k0lt hz).1
        obtain ⟨o1, h1'⟩ : ∃ o1 : Nat, o1 = 4096 * s.k0 (p / 512) + 8 * (p % 512) := ⟨_, rfl⟩
        have ea1 := c_entryAt (v.b / 4096 + s.k0 (p / 512)) ((p : Int) % 512) (by omega) (by omega) (by omega) (by omega) (v.b + (o1 : Int)) (by omega)
        have HO1 := hid h1'
        clear h1'
        rw [decide_eq_true hz] at it
        go_wp2_with (first
          | (go_at_call 89; refine hl.mono ?_; rintro r w1 ⟨rfl, hb1⟩; have HB1 := hid hb1; clear hb1)
          | (go_at_call 69; refine (it _).mono ?_; rintro r w2 ⟨rfl, hw⟩; obtain rfl := hw.symm)
          | (go_at_call 63; refine (nm _).mono ?_; rintro r w2 ⟨rfl, hw⟩; obtain rfl := hw.symm)
          | (go_at_call 59; refine (i0 _).mono ?_; rintro r w2 ⟨rfl, hw⟩; obtain rfl := hw.symm)
          | (go_at_call 58; refine (ea1 _).mono ?_; rintro r w2 ⟨rfl, hw⟩; obtain rfl := hw.symm))
        go_roundw
        case rel => exact ⟨0, o1, rfl, rfl, .inr (.inr ⟨rfl, h1, hz, HO1.out⟩), hb.out.trans (HB1.out.mono hb.out.size)⟩
        case measure => first | (simp [intOf]; done) | (simp [intOf]; omega)
    · have ed : dnO s p = o ∧ dnL s p = 0 := by rw [ho]; unfold dnO dnL; rw [if_neg h1, if_neg h1, if_neg h2, if_neg h2]; exact ⟨rfl, rfl⟩
      have ED := hid ed
      clear ed ho
      go_wp2_with fail
      go_ret2
      exact ⟨by rw [ED.out.1, ED.out.2]; rfl, hb.out⟩
end
end Go.Proofs.Ytekkjalfiogenaa
namespace Go.Proofs.Ytekkjalfiogenaa
open Go.RowKit
open C (Only hid)
set_option linter.unusedVariables false
set_option maxRecDepth 100000

/-- no two operations have one slot -/
def ndB (ops : Array Oper) : Bool := (List.range ops.size).all fun j => (List.range ops.size).all fun k => j == k || (match ops[j]?, ops[k]? with | some o, some p => o.dst.isNone || o.dst != p.dst | _, _ => true)
theorem ndB_spec {ops : Array Oper} (h : ndB ops = true) {j k : Nat} {o p : Oper} {d : Nat} (hj : ops[j]? = some o) (hk : ops[k]? = some p) (ho : o.dst = some d) (hp : p.dst = some d) : j = k := by
  unfold ndB at h
  have hjl : j < ops.size := (Array.getElem?_eq_some_iff.1 hj).1
  have hkl : k < ops.size := (Array.getElem?_eq_some_iff.1 hk).1
  have := List.all_eq_true.1 (List.all_eq_true.1 h j (by simpa using hjl)) k (by simpa using hkl)
  simp only [hj, hk, ho, hp] at this
  simpa using this
structure FrQ (ops : Array Oper) (vt : Nat → Value) (t0 : Array Value) (listed : Array Bool) (a : Act) : Prop where
  df : a.defers = []
  sz : a.tmps.size = t0.size
  ls : listed.size = ops.size
  keep : ∀ d, (ops.toList.all fun o => o.dst != some d) = true → a.tmps[d]? = t0[d]?
  val : ∀ j o d, ops[j]? = some o → o.dst = some d → listed.getD j false = true → a.tmps[d]? = some (vt d)
section
variable {ops : Array Oper} {vt : Nat → Value} {t0 : Array Value} {listed : Array Bool} {a : Act}
theorem FrQ.start (hs : listed = Array.replicate ops.size false) : FrQ ops vt t0 listed ⟨t0, []⟩ := by
  subst hs
  refine ⟨rfl, rfl, by simp, fun _ _ => rfl, fun j o d hj _ hl => ?_⟩
  have hjl : j < ops.size := (Array.getElem?_eq_some_iff.1 hj).1
  simp [hjl] at hl
theorem getD_set (l : Array Bool) (j k : Nat) (hj : j < l.size) : (l.setIfInBounds j true).getD k false = if k = j then true else l.getD k false := by
  by_cases e : k = j
  · subst e; simp [hj]
  · rw [if_neg e]
    simp only [Array.getD_eq_getD_getElem?, Array.getElem?_setIfInBounds]
    rw [if_neg (fun q => e q.symm)]
theorem FrQ.put (h : FrQ ops vt t0 listed a) (hn : ndB ops = true) {j : Nat} {o : Oper} {d : Nat} {v : Value} (ho : ops[j]? = some o) (hd : o.dst = some d) (hv : v = vt d) (hdl : d < t0.size) : FrQ ops vt t0 (listed.setIfInBounds j true) (a.put o.dst v) := by
  have hjl : j < listed.size := by rw [h.ls]; exact (Array.getElem?_eq_some_iff.1 ho).1
  subst hv
  rw [hd]
  refine ⟨h.df, by simp [Act.put, h.sz], by simp [h.ls], fun k hk => ?_, fun i p k hi hp hl => ?_⟩
  · have : k ≠ d := fun q => by
      subst q
      have := List.all_eq_true.1 hk o (by have := Array.mem_of_getElem? ho; exact Array.mem_toList_iff.2 this)
      simp [hd] at this
    simp only [Act.put, Array.getElem?_setIfInBounds]
    rw [if_neg (fun q => this q.symm)]
    exact h.keep k hk
  · rw [getD_set _ _ _ hjl] at hl
    simp only [Act.put, Array.getElem?_setIfInBounds]
    by_cases e : d = k
    · subst e
      rw [if_pos rfl, if_pos (by rw [h.sz]; exact hdl)]
    · rw [if_neg e]
      have : i ≠ j := fun q => by subst q; rw [ho] at hi; cases hi; rw [hd] at hp; exact e (Option.some.inj hp)
      rw [if_neg this] at hl
      exact h.val i p k hi hp hl
theorem FrQ.skip (h : FrQ ops vt t0 listed a) {j : Nat} {o : Oper} (ho : ops[j]? = some o) (hd : o.dst = none) (v : Value) : FrQ ops vt t0 (listed.setIfInBounds j true) (a.put o.dst v) := by
  have hjl : j < listed.size := by rw [h.ls]; exact (Array.getElem?_eq_some_iff.1 ho).1
  rw [hd]
  refine ⟨h.df, h.sz, by simp [h.ls], h.keep, fun i p k hi hp hl => ?_⟩
  rw [getD_set _ _ _ hjl] at hl
  have : i ≠ j := fun q => by subst q; rw [ho] at hi; cases hi; rw [hd] at hp; cases hp
  rw [if_neg this] at hl
  exact h.val i p k hi hp hl
theorem FrQ.ev (h : FrQ ops vt t0 listed a) {i : Nat} {o : Oper} {d : Nat} (hi : ops[i]? = some o) (hd : o.dst = some d) (hl : listed.getD i false = true) : a.tmps[d]?.getD undef = vt d := by
  simp only [h.val i o d hi hd hl, Option.getD_some]
theorem FrQ.base (h : FrQ ops vt t0 listed a) (d : Nat) (hd : (ops.toList.all fun o => o.dst != some d) = true) {v : Value} (hv : t0[d]? = some v) : a.tmps[d]?.getD undef = v := by
  simp only [h.keep d hd, hv, Option.getD_some]
end
/-- what an operation waits for has been done -/
theorem he_all {listed : Array Bool} {after : Array Edge} (he : ∀ e ∈ after, Region.binds .any e = true → listed.getD e.on false = true) (n : Nat) (hc : ((List.range n).all fun i => after.any fun e => e.on == i && Region.binds .any e) = true) (i : Nat) (hi : i < n) : listed.getD i false = true := by
  have := List.all_eq_true.1 hc i (by simpa using hi)
  obtain ⟨e, h1, h2⟩ := Array.any_eq_true'.1 this
  simp only [Bool.and_eq_true, beq_iff_eq] at h2
  rw [← h2.1]
  exact he e h1 h2.2
theorem wp_q {P : Program} {ops : Array Oper} {Q : Exit → Act → World → Prop} {i : Nat} {o : Oper} {K : Act → World → Prop} {a : Act} {w w' : World} {v : Value} (ho : ops[i]? = some o) (hg : o.guard = none) (hr : (execOp a.eval o).run P w = .ok (.value v) w') (h : K (a.put o.dst v) w') : wpOp P ops Q i K a w := by
  refine wpOp_step ho fun K' hK => ?_
  rw [if_pos (by simp [Region.wanted, hg])]
  unfold Oper.wp
  rw [hr]
  exact hK _ _ h
theorem wp_s {P : Program} {ops : Array Oper} {Q : Exit → Act → World → Prop} {i : Nat} {o : Oper} {K : Act → World → Prop} {a : Act} {w w' : World} (ho : ops[i]? = some o) (hg : o.guard = none) (hr : (execOp a.eval o).run P w = .ok .skip w') (h : K (a.put o.dst undef) w') : wpOp P ops Q i K a w := by
  refine wpOp_step ho fun K' hK => ?_
  rw [if_pos (by simp [Region.wanted, hg])]
  unfold Oper.wp
  rw [hr]
  exact hK _ _ h
theorem wpAny_fq {P : Program} {ops : Array Oper} {Q : Exit → Act → World → Prop} {t0 : Array Value} {w : World} (vt : Nat → Value) (V : Array Bool → World → Prop)
    (step : ∀ listed a w, FrQ ops vt t0 listed a ∧ V listed w → ∀ i ∈ Region.ready .any ops listed, wpOp P ops Q i (fun a' w' => FrQ ops vt t0 (listed.setIfInBounds i true) a' ∧ V (listed.setIfInBounds i true) w') a w)
    (fin : ∀ listed a w, FrQ ops vt t0 listed a ∧ V listed w → Region.ready .any ops listed = [] → Q .normal a w) (start : V (Array.replicate ops.size false) w) :
    wpAny P .any ops Q ops.size (Array.replicate ops.size false) ⟨t0, []⟩ w :=
  C.wpAny_inv (fun listed fr wr => FrQ ops vt t0 listed fr ∧ V listed wr) step fin _ _ _ _ (by simp) ⟨FrQ.start rfl, start⟩
theorem getD_tf {l : Array Bool} {j : Nat} (hj : j < l.size) (h : l.getD j true = false) : l.getD j false = false := by simp [hj] at h ⊢; exact h
theorem allDone {ops : Array Oper} {listed : Array Bool} (hr : Region.ready .any ops listed = []) (hs : listed.size = ops.size) (hc : ((List.range ops.size).all fun j => (match ops[j]? with | some o => o.after.all fun e => decide (e.on < j) | none => true)) = true) : ∀ j, j < ops.size → listed.getD j false = true := by
  intro j
  induction j using Nat.strongRecOn with
  | _ j ih =>
    intro hj
    have h1 := List.all_eq_true.1 hc j (by simpa using hj)
    cases z : listed.getD j false with
    | true => rfl
    | false =>
      exfalso
      have hjo : ops[j]? = some ops[j] := by simp [hj]
      rw [hjo] at h1
      have : j ∈ Region.ready .any ops listed := by
        refine mem_ready.2 ⟨?_, ops[j], hjo, fun e he _ => ?_⟩
        · have hjl : j < listed.size := by rw [hs]; exact hj
          simp [hjl] at z ⊢
          exact z
        · have := Array.all_eq_true_iff_forall_mem.1 h1 e he
          have hlt : e.on < j := by simpa using this
          exact ih e.on hlt (Nat.lt_trans hlt hj)
      rw [hr] at this
      cases this
def fillF (vt : Nat → Value) (t : Array Value) (o : Oper) : Array Value := match o.dst with | some d => t.setIfInBounds d (vt d) | none => t
theorem fillF_size (vt : Nat → Value) (t : Array Value) (o : Oper) : (fillF vt t o).size = t.size := by unfold fillF; split <;> simp
theorem fill_get (vt : Nat → Value) (d : Nat) : ∀ (l : List Oper) (t : Array Value), d < t.size → (l.foldl (fillF vt) t)[d]? = if (l.any fun o => o.dst == some d) = true then some (vt d) else t[d]?
  | [], t, hd => by simp
  | o :: l, t, hd => by
    rw [List.foldl_cons, fill_get vt d l _ (by rw [fillF_size]; exact hd), List.any_cons]
    by_cases h1 : (l.any fun o => o.dst == some d) = true
    · rw [if_pos h1, if_pos (by rw [h1, Bool.or_true])]
    · rw [if_neg h1]
      unfold fillF
      cases ho : o.dst with
      | none => rw [if_neg (by simpa using h1)]
      | some e =>
        by_cases e1 : e = d
        · subst e1
          rw [if_pos (by simp)]
          simp [hd]
        · rw [if_neg (by simp [e1]; simpa using h1)]
          simp only [Array.getElem?_setIfInBounds, if_neg e1]
theorem fill_size (vt : Nat → Value) : ∀ (l : List Oper) (t : Array Value), (l.foldl (fillF vt) t).size = t.size
  | [], t => rfl
  | o :: l, t => by rw [List.foldl_cons, fill_size vt l, fillF_size]
theorem FrQ.full {ops : Array Oper} {vt : Nat → Value} {t0 : Array Value} {listed : Array Bool} {a : Act} (h : FrQ ops vt t0 listed a) (hl : ∀ j, j < ops.size → listed.getD j false = true) : a = ⟨ops.toList.foldl (fillF vt) t0, []⟩ := by
  obtain ⟨t, df⟩ := a
  obtain rfl : df = [] := h.df
  have hs : t.size = t0.size := h.sz
  congr 1
  apply Array.ext_getElem?
  intro d
  by_cases hd : d < t0.size
  · rw [fill_get vt d _ _ hd]
    by_cases h1 : (ops.toList.any fun o => o.dst == some d) = true
    · rw [if_pos h1]
      obtain ⟨o, ho, hod⟩ := List.any_eq_true.1 h1
      obtain ⟨j, hj, hjo⟩ := List.getElem_of_mem ho
      have hjl : j < ops.size := by simpa using hj
      exact h.val j o d (by rw [← hjo]; simp [hjl]) (by simpa using hod) (hl j hjl)
    · rw [if_neg h1]
      refine h.keep d (List.all_eq_true.2 fun o ho => ?_)
      have : ¬ (o.dst == some d) = true := fun z => h1 (List.any_eq_true.2 ⟨o, ho, z⟩)
      simpa [bne] using this
  · rw [Array.getElem?_eq_none (by show t.size ≤ d; omega), Array.getElem?_eq_none (by rw [fill_size]; omega)]
/-- a call, then another one: as far as both are done -/
structure VP (w0 : World) (Md Fn : World → Prop) (z y : Nat) (listed : Array Bool) (w : World) : Prop where
  c0 : listed.getD z false = false → w = w0
  c1 : listed.getD z false = true → listed.getD y false = false → Md w
  c2 : listed.getD y false = true → Fn w ∧ listed.getD z false = true
section
variable {w0 w w' : World} {Md Fn : World → Prop} {z y : Nat} {listed : Array Bool}
theorem VP.q (h : VP w0 Md Fn z y listed w) {j : Nat} (hj : j < listed.size) (n1 : z ≠ j) (n2 : y ≠ j) : VP w0 Md Fn z y (listed.setIfInBounds j true) w :=
  ⟨fun a => h.c0 (by rwa [getD_set _ _ _ hj, if_neg n1] at a), fun a b => h.c1 (by rwa [getD_set _ _ _ hj, if_neg n1] at a) (by rwa [getD_set _ _ _ hj, if_neg n2] at b), fun a => by
    rw [getD_set _ _ _ hj, if_neg n2] at a
    rw [getD_set _ _ _ hj, if_neg n1]
    exact h.c2 a⟩
theorem VP.atz (h : VP w0 Md Fn z y listed w) (hl : listed.getD z false = false) : w = w0 ∧ listed.getD y false = false :=
  ⟨h.c0 hl, by cases e : listed.getD y false; rfl; have := (h.c2 e).2; rw [hl] at this; cases this⟩
theorem VP.doz (hj : z < listed.size) (hzy : y ≠ z) (hy : listed.getD y false = false) (hm : Md w') : VP w0 Md Fn z y (listed.setIfInBounds z true) w' :=
  ⟨fun a => (by rw [getD_set _ _ _ hj, if_pos rfl] at a; cases a), fun _ _ => hm, fun a => (by rw [getD_set _ _ _ hj, if_neg hzy, hy] at a; cases a)⟩
theorem VP.doy (hj : y < listed.size) (hzy : z ≠ y) (hz : listed.getD z false = true) (hm : Fn w') : VP w0 Md Fn z y (listed.setIfInBounds y true) w' :=
  ⟨fun a => (by rw [getD_set _ _ _ hj, if_neg hzy, hz] at a; cases a), fun _ a => (by rw [getD_set _ _ _ hj, if_pos rfl] at a; cases a), fun _ => ⟨hm, by rw [getD_set _ _ _ hj, if_neg hzy]; exact hz⟩⟩
end
/-- a call of three arguments as a step -/
theorem wp_c3 {P : Program} {ops : Array Oper} {Q : Exit → Act → World → Prop} {i : Nat} {o : Oper} {K : Act → World → Prop} {a : Act} {w : World} (ho : ops[i]? = some o) (hg : o.guard = none) (f : FuncId) (x y z : Operand) (ts : Array TypeId) (hop : o.op = .call { callee := .value (.func f), args := #[x, y, z], argTypes := ts }) (vx vy vz : Value) (hx : a.eval x = vx) (hy : a.eval y = vy) (hz : a.eval z = vz) (hnf : (callFunc f #[vx, vy, vz]).run P w = .ok (.enter f #[vx, vy, vz]) w) {R : Ending → World → Prop} (hc : Calls P f #[vx, vy, vz] w R)
    (h : ∀ e w', R e w' → ∃ v, e = .returned v ∧ K (a.put o.dst v) w') : wpOp P ops Q i K a w := by
  refine wpOp_step ho fun K' hK => ?_
  exact C.step_call3 (by simp [Region.wanted, hg]) f x y z ts hop vx vy vz hx hy hz hnf hc fun e w' hR => by
    obtain ⟨v, hv, hk⟩ := h e w' hR
    exact ⟨v, hv, hK _ _ hk⟩
theorem FrQ.swap {ops : Array Oper} {vt vt' : Nat → Value} {t0 : Array Value} {listed : Array Bool} {a : Act} (h : FrQ ops vt t0 listed a) (hv : ∀ j o d, ops[j]? = some o → o.dst = some d → listed.getD j false = true → vt d = vt' d) : FrQ ops vt' t0 listed a :=
  ⟨h.df, h.sz, h.ls, h.keep, fun j o d h1 h2 h3 => by rw [← hv j o d h1 h2 h3]; exact h.val j o d h1 h2 h3⟩
/-- a value that is told only when it is made -/
theorem wpAny_fx {α : Type} {P : Program} {ops : Array Oper} {Q : Exit → Act → World → Prop} {t0 : Array Value} {w : World} (vt : α → Nat → Value) (V : α → Array Bool → World → Prop)
    (step : ∀ listed a w x, FrQ ops (vt x) t0 listed a → V x listed w → ∀ i ∈ Region.ready .any ops listed, wpOp P ops Q i (fun a' w' => ∃ y, FrQ ops (vt y) t0 (listed.setIfInBounds i true) a' ∧ V y (listed.setIfInBounds i true) w') a w)
    (fin : ∀ listed a w x, FrQ ops (vt x) t0 listed a → V x listed w → Region.ready .any ops listed = [] → Q .normal a w) (x0 : α) (start : V x0 (Array.replicate ops.size false) w) :
    wpAny P .any ops Q ops.size (Array.replicate ops.size false) ⟨t0, []⟩ w :=
  C.wpAny_inv (fun listed fr wr => ∃ x, FrQ ops (vt x) t0 listed fr ∧ V x listed wr) (fun l a w ⟨x, h1, h2⟩ i hi => step l a w x h1 h2 i hi) (fun l a w ⟨x, h1, h2⟩ hr => fin l a w x h1 h2 hr) _ _ _ _ (by simp) ⟨x0, FrQ.start rfl, start⟩
theorem wp_c1 {P : Program} {ops : Array Oper} {Q : Exit → Act → World → Prop} {i : Nat} {o : Oper} {K : Act → World → Prop} {a : Act} {w : World} (ho : ops[i]? = some o) (hg : o.guard = none) (f : FuncId) (x : Operand) (ts : Array TypeId) (hop : o.op = .call { callee := .value (.func f), args := #[x], argTypes := ts }) (vx : Value) (hx : a.eval x = vx) (hnf : (callFunc f #[vx]).run P w = .ok (.enter f #[vx]) w) {R : Ending → World → Prop} (hc : Calls P f #[vx] w R)
    (h : ∀ e w', R e w' → ∃ v, e = .returned v ∧ K (a.put o.dst v) w') : wpOp P ops Q i K a w := by
  refine wpOp_step ho fun K' hK => ?_
  rw [if_pos (by simp [Region.wanted, hg])]
  have he : (execOp a.eval o).run P w = .ok (.enter f #[vx]) w := by
    have hf : a.eval (.func f) = .func (.func f) #[] #[] := rfl
    simp [execOp, hop, resolve, invoke, Deferred.ofValue, hf, hx, hnf]
  unfold Oper.wp
  rw [he, Oper.upon_enter]
  refine hc.mono fun e w' hR => ?_
  obtain ⟨v, rfl, hk⟩ := h e w' hR
  exact hK _ _ hk
/-- a call of 2 arguments as a step -/
theorem wp_c2 {P : Program} {ops : Array Oper} {Q : Exit → Act → World → Prop} {i : Nat} {o : Oper} {K : Act → World → Prop} {a : Act} {w : World} (ho : ops[i]? = some o) (hg : o.guard = none) (f : FuncId) (x y : Operand) (ts : Array TypeId) (hop : o.op = .call { callee := .value (.func f), args := #[x, y], argTypes := ts }) (vx vy : Value) (hx : a.eval x = vx) (hy : a.eval y = vy) (hnf : (callFunc f #[vx, vy]).run P w = .ok (.enter f #[vx, vy]) w) {R : Ending → World → Prop} (hc : Calls P f #[vx, vy] w R)
    (h : ∀ e w', R e w' → ∃ v, e = .returned v ∧ K (a.put o.dst v) w') : wpOp P ops Q i K a w := by
  refine wpOp_step ho fun K' hK => ?_
  rw [if_pos (by simp [Region.wanted, hg])]
  have he : (execOp a.eval o).run P w = .ok (.enter f #[vx, vy]) w := by
    have hf : a.eval (.func f) = .func (.func f) #[] #[] := rfl
    simp [execOp, hop, resolve, invoke, Deferred.ofValue, hf, hx, hy, hnf]
  unfold Oper.wp
  rw [he, Oper.upon_enter]
  refine hc.mono fun e w' hR => ?_
  obtain ⟨v, rfl, hk⟩ := h e w' hR
  exact hK _ _ hk
/-- what holds in the three worlds holds at each step -/
theorem VP.all {w0 w : World} {Md Fn : World → Prop} {z y : Nat} {listed : Array Bool} (h : VP w0 Md Fn z y listed w) {K : World → Prop} (k0 : K w0) (k1 : ∀ w, Md w → K w) (k2 : ∀ w, Fn w → K w) : K w := by
  cases ey : listed.getD y false
  · cases ez : listed.getD z false
    · rw [h.c0 ez]; exact k0
    · exact k1 _ (h.c1 ez ey)
  · exact k2 _ (h.c2 ey).1
end Go.Proofs.Ytekkjalfiogenaa
namespace Go.Proofs.Ytekkjalfiogenaa
open Go.RowKit Go.Shelf Go.Sort
open C (Only hid)
set_option linter.unusedVariables false
attribute [local go_sem] Oper.semAt_some

/-- what is handed on, as far as entry k -/
def lst (E : Nat → Int) (pr : Int → Bool) (k : Nat) : List (Nat × Int) := ((List.range k).filter fun i => pr (E i)).map fun i => (i, E i)
theorem lst_yes (E : Nat → Int) (pr : Int → Bool) (k : Nat) (h : pr (E k) = true) : lst E pr (k + 1) = lst E pr k ++ [(k, E k)] := by simp [lst, List.range_succ, h]
theorem lst_no (E : Nat → Int) (pr : Int → Bool) (k : Nat) (h : pr (E k) = false) : lst E pr (k + 1) = lst E pr k := by simp [lst, List.range_succ, h]
theorem lst_len (E : Nat → Int) (pr : Int → Bool) (k : Nat) : (lst E pr k).length ≤ k := by
  have := List.length_filter_le (fun i => pr (E i)) (List.range k)
  simpa [lst] using this
/-- what a round keeps: what lay below n₀, and every box but Ba -/
def Kb (n₀ Ba : Nat) (W W' : World) : Prop := Below n₀ W W' ∧ ∀ B t u, Boxed W B t u → Ba ≠ B → t ≠ 41 → Boxed W' B t u
theorem Kb.refl (n₀ Ba : Nat) (W : World) : Kb n₀ Ba W W := ⟨Below.refl _ _, fun _ _ _ h _ _ => h⟩
theorem Kb.trans {n₀ Ba : Nat} {A B C : World} (h : Kb n₀ Ba A B) (k : Kb n₀ Ba B C) : Kb n₀ Ba A C := ⟨h.1.trans k.1, fun b t u x y z => k.2 b t u (h.2 b t u x y z) y z⟩
theorem Kb.below {n₀ Ba : Nat} {A B : World} (hn : n₀ ≤ A.heap.size) (h : Below A.heap.size A B) : Kb n₀ Ba A B := ⟨h.mono hn, fun b t u x _ _ => (h.block b x.lt).trans x⟩
theorem Kb.put {n₀ Ba : Nat} {w : World} (hn : n₀ ≤ w.heap.size) (W : World) (l : Nat) (o o' : Obj) (hl : w.heap.size ≤ l) (ho : W.heap[l]? = some o) (hc : o.isCells = false) (hw : o.isWalk = false) : Kb n₀ Ba W (W.putObj l o') := by
  refine ⟨belowK_b (w := w) hn W l o o' hl ho hc hw, fun B t u h _ _ => h.kept (grownBy_putObj' _ l o') fun e => ?_⟩
  cases e
  have := (show W.heap[l]? = _ from h).symm.trans ho
  cases this
  cases hc
theorem grown_none {w w' : World} (h : Below w.heap.size w w') : w.grownBy w' none := ⟨h.os, h.tape, h.output, h.size, fun k hk _ => h.block k hk⟩
set_option maxRecDepth 100000 in
set_option maxHeartbeats 4000000 in
theorem e_entries1 (F : Fence) (n : Nat) (hfn : ∀ f, F.fn f) (hro : F.round = none) (hn : 1 ≤ n) (l B1 B2 B3 n₀ q fb : Nat) (t : Int) (E : Nat → Int) (pr : Int → Bool) (J Jx : List (Nat × Int) → World → Prop) (W : World) (hJ : AbidesFrom W.heap.size J)
    (hn0 : n₀ ≤ W.heap.size) (Ba : Nat) (b1 : Ba ≠ B1) (b2 : Ba ≠ B2) (b3 : Ba ≠ B3) (c1 : Boxed W B1 139 (.pointer (some ⟨q, 0, none⟩))) (c2 : Boxed W B2 22 (.int .u64 t)) (c3 : Boxed W B3 147 (.func (.func fb) #[] #[])) (e0 : ∀ i, 0 ≤ E i) (e1 : ∀ i, E i < 18446744073709551616)
    (hA : ∀ i W', i < 512 → CallsIn F (n - 1) Try.prog 58 #[.int .u64 t, .int .u64 (i : Nat)] W' fun e w' => e = .returned (.int .u64 (t * 4096 + i * 8)) ∧ Below W'.heap.size W' w')
    (hL : ∀ i W', i < 512 → Below n₀ W W' → CallsIn F (n - 1) Try.prog 89 #[.pointer (some ⟨q, 0, none⟩), .int .u64 (t * 4096 + (i : Nat) * 8)] W' fun e w' => e = .returned (.int .u64 (E i)) ∧ Below W'.heap.size W' w')
    (hfb : ∀ args w, (callFunc fb args).run Try.prog w = .ok (.enter fb args) w)
    (hP : ∀ i W', CallsIn F (n - 1) Try.prog fb #[.int .u64 (E i)] W' fun e w' => e = .returned (.bool (pr (E i))) ∧ w' = W')
    (hY : ∀ pre x W1, J pre W1 → pre.length < 512 → x.1 < 512 ∧ x.2 = E x.1 ∧ pr x.2 = true → YieldAt F (n - 1) Try.prog l #[.int .u64 (x.1 : Int), .int .u64 x.2] W1 fun e W' => (e = .returned (.bool true) ∧ J (pre ++ [x]) W' ∧ Kb n₀ Ba W1 W') ∨ (e = .returned (.bool false) ∧ Jx (pre ++ [x]) W'))
    (h0 : J [] W) : CallsIn F n Try.prog 99 #[.func (.yield l) #[] #[], .pointer (some ⟨B1, 0, none⟩), .pointer (some ⟨B2, 0, none⟩), .pointer (some ⟨B3, 0, none⟩)] W fun e W' => (∃ v, e = .returned v) ∧ ((∃ xs, xs = lst E pr 512 ∧ J xs W') ∨ (∃ pre, (∃ k, k ≤ 512 ∧ pre = lst E pr k) ∧ Jx pre W')) := by
  refine callsIn_of_wp Try.func99 rfl (hfn _) ?_ hro
  simp only [Try.ntmps99, List.size_toArray, List.length_cons, List.length_nil, Nat.reduceAdd, Nat.reduceSub, Array.replicate_succ, Array.replicate_zero, List.push_toArray, List.append_toArray, List.nil_append, List.cons_append]
  gi_wp2
  gi_loopw [7] (fun i wr => ∃ k : Nat, k ≤ 512 ∧ i = .int .u64 k ∧ J (lst E pr k) wr ∧ Kb n₀ Ba W wr) (fun i _ => 512 - (intOf i).toNat)
  case atStart => exact ⟨0, Nat.zero_le _, rfl, h0, Kb.refl _ _ _⟩
  case round =>
    obtain ⟨k, hk, rfl, hJs, hnx⟩ := hrel
    by_cases hlt : k < 512
    · have d1 := (hnx.2 _ _ _ c1 b1 (by decide)).cell
      have d2 := (hnx.2 _ _ _ c2 b2 (by decide)).cell
      have d3 := (hnx.2 _ _ _ c3 b3 (by decide)).cell
      have hk2 : (k : Int) < 512 := by omega
      gi_wp2
      have k1 := cell_regrown d1
      have k2 := cell_regrown d2
      have cA : ∀ d os, CallsIn F (n - 1) Try.prog 58 #[.int .u64 t, .int .u64 k] (grow (redrawn wr d) os) fun e w'' => e = .returned (.int .u64 (t * 4096 + k * 8)) ∧ ∃ p : Regrown, w'' = grow (redrawn wr p.d) p.os := fun d os => CallsIn.regrown_of (hA k _ hlt)
      have cL : ∀ d os, CallsIn F (n - 1) Try.prog 89 #[.pointer (some ⟨q, 0, none⟩), .int .u64 (t * 4096 + k * 8)] (grow (redrawn wr d) os) fun e w'' => e = .returned (.int .u64 (E k)) ∧ ∃ p : Regrown, w'' = grow (redrawn wr p.d) p.os := fun d os => CallsIn.regrown_of (hL k _ hlt (hnx.1.trans ((below_regrown wr d os).mono (Nat.le_trans hn0 hnx.1.size))))
      refine wpIn_region_quiet_below hro (by kernel_rfl) (by kernel_rfl) ?_
      repeat (quiet_step_in (first | exact ⟨hn, cA _ _⟩ | exact ⟨hn, cL _ _⟩ | exact cA _ _ | exact cL _ _))
      refine wpQuietIn_nil ?_
      intro _ hw'
      obtain ⟨⟨dq, osq⟩, hw''⟩ := hw'
      subst hw''
      have hb2 := below_regrown wr dq osq
      have hJ2 := hJ _ _ _ none hJs (grown_none hb2) (fun r e => by cases e)
      have hnx2 : Kb n₀ Ba W (grow (redrawn wr dq) osq) := hnx.trans (Kb.below (Nat.le_trans hn0 hnx.1.size) hb2)
      have d3' := (hnx2.2 _ _ _ c3 b3 (by decide)).cell
      clear k1 k2 cA cL d1 d2 d3 hJs hnx hb2
      generalize grow (redrawn wr dq) osq = W2 at *
      have hp := hP k W2
      cases ep : pr (E k) <;> rw [ep] at hp
      · gi_wp2_with (refine hp.mono ?_; rintro e w' ⟨rfl, hw⟩; subst hw)
        refine ⟨⟨k + 1, hlt, by push_cast; rfl, by rw [lst_no _ _ _ ep]; exact hJ2, hnx2⟩, ?_⟩
        simp [intOf]; omega
      · obtain ⟨fn, tmps, assign, body, hy, hR⟩ := hY _ (k, E k) W2 hJ2 (Nat.lt_of_le_of_lt (lst_len _ _ _) hlt) ⟨hlt, rfl, ep⟩
        gi_wp2_with (first | (refine hp.mono ?_; rintro e w' ⟨rfl, hw⟩; subst hw) | refine hR.mono ?_)
        rintro e w' (⟨rfl, hJ3, hb3⟩ | ⟨rfl, hx⟩)
        · gi_wp2
          refine ⟨⟨k + 1, hlt, by push_cast; rfl, by rw [lst_yes _ _ _ ep]; exact hJ3, hnx2.trans hb3⟩, ?_⟩
          simp [intOf]; omega
        · gi_wp2
          refine bodyPost_ret (results_none rfl _ _ _) rfl ?_
          exact ⟨⟨_, rfl⟩, .inr ⟨_, ⟨k + 1, hlt, (lst_yes _ _ _ ep).symm⟩, hx⟩⟩
    · obtain rfl : k = 512 := by omega
      gi_wp2
      go_end0
      exact ⟨⟨_, rfl⟩, .inl ⟨_, rfl, hJs⟩⟩
/-- what a loop is handed: a place in the table, and what stands there -/
abbrev Ent (E : Nat → Int) (pr : Int → Bool) := { x : Nat × Int // x.1 < 512 ∧ x.2 = E x.1 ∧ pr x.2 = true }
set_option maxRecDepth 100000 in
theorem e_stops (F : Fence) (n : Nat) (hfn : ∀ f, F.fn f) (hro : F.round = none) (hn : 1 ≤ n) (B1 B2 B3 n₀ q fb : Nat) (t : Int) (E : Nat → Int) (pr : Int → Bool) (w : World)
    (hn0 : n₀ ≤ w.heap.size) (Ba : Nat) (b1 : Ba ≠ B1) (b2 : Ba ≠ B2) (b3 : Ba ≠ B3) (c1 : Boxed w B1 139 (.pointer (some ⟨q, 0, none⟩))) (c2 : Boxed w B2 22 (.int .u64 t)) (c3 : Boxed w B3 147 (.func (.func fb) #[] #[])) (e0 : ∀ i, 0 ≤ E i) (e1 : ∀ i, E i < 18446744073709551616)
    (hA : ∀ i W', i < 512 → CallsIn F (n - 1) Try.prog 58 #[.int .u64 t, .int .u64 (i : Nat)] W' fun e w' => e = .returned (.int .u64 (t * 4096 + i * 8)) ∧ Below W'.heap.size W' w')
    (hL : ∀ i W', i < 512 → Below n₀ w W' → CallsIn F (n - 1) Try.prog 89 #[.pointer (some ⟨q, 0, none⟩), .int .u64 (t * 4096 + (i : Nat) * 8)] W' fun e w' => e = .returned (.int .u64 (E i)) ∧ Below W'.heap.size W' w')
    (hfb : ∀ args w, (callFunc fb args).run Try.prog w = .ok (.enter fb args) w)
    (hP : ∀ i W', CallsIn F (n - 1) Try.prog fb #[.int .u64 (E i)] W' fun e w' => e = .returned (.bool (pr (E i))) ∧ w' = W') :
    SeqStopsK F n Try.prog 99 #[.pointer (some ⟨B1, 0, none⟩), .pointer (some ⟨B2, 0, none⟩), .pointer (some ⟨B3, 0, none⟩)] (fun x : Ent E pr => #[Value.int .u64 (x.1.1 : Int), .int .u64 x.1.2]) (Kb n₀ Ba) (fun xs => xs.map Subtype.val = lst E pr 512) (fun pre => ∃ k, k ≤ 512 ∧ pre.map Subtype.val = lst E pr k) 512 w := by
  intro l J Jx W hW hJ hJx hY h0
  have hb := hW.mono hn0
  refine (e_entries1 F n hfn hro hn l B1 B2 B3 n₀ q fb t E pr (fun pre W' => ∃ ys : List (Ent E pr), ys.map Subtype.val = pre ∧ J ys W') (fun pre W' => ∃ ys : List (Ent E pr), ys.map Subtype.val = pre ∧ Jx ys W') W ?_ (Nat.le_trans hn0 hW.size) Ba b1 b2 b3 ((hW.block _ c1.lt).trans c1) ((hW.block _ c2.lt).trans c2) ((hW.block _ c3.lt).trans c3) e0 e1 hA (fun i W' hi h => hL i W' hi (hb.trans h)) hfb hP ?_ ⟨[], rfl, h0⟩).mono ?_
  · rintro s A B row ⟨ys, e, hs⟩ hg hr
    exact ⟨ys, e, hJ ys A B row hs hg hr⟩
  · rintro pre x W1 ⟨ys, rfl, hs⟩ hlen hx
    refine (hY ys ⟨x, hx⟩ W1 hs (by simpa using hlen)).mono ?_
    rintro e W' (⟨rfl, h1, h2⟩ | ⟨rfl, h1⟩)
    · exact .inl ⟨rfl, ⟨_, by simp, h1⟩, h2⟩
    · exact .inr ⟨rfl, ⟨_, by simp, h1⟩⟩
  · rintro e W' ⟨hv, ⟨xs, rfl, ys, h1, h2⟩ | ⟨pre, ⟨k, hk, rfl⟩, ys, h1, h2⟩⟩
    · exact ⟨hv, .inl ⟨ys, h1, h2⟩⟩
    · exact ⟨hv, .inr ⟨ys, ⟨k, hk, h1⟩, h2⟩⟩
end Go.Proofs.Ytekkjalfiogenaa
namespace Go.Proofs.Ytekkjalfiogenaa
open Go.RowKit
open C (Only hid)
set_option linter.unusedVariables false
set_option maxRecDepth 100000

theorem wpAnyIn_inv {F : Fence} {n : Nat} {P : Program} {md : Region.Mode} {ops : Array Oper} {Q : Exit → Act → World → Prop} (J : Array Bool → Act → World → Prop)
    (step : ∀ listed a w, J listed a w → ∀ i ∈ Region.ready md ops listed, wpOpIn F n P ops Q i (J (listed.setIfInBounds i true)) a w)
    (fin : ∀ listed a w, J listed a w → Region.ready md ops listed = [] → Q .normal a w) :
    ∀ (fuel : Nat) (listed : Array Bool) (a : Act) (w : World), listed.toList.count false ≤ fuel → J listed a w → wpAnyIn F n P md ops Q fuel listed a w := by
  intro fuel
  have key : ∀ (listed : Array Bool) (i : Nat), i ∈ Region.ready md ops listed → (listed.setIfInBounds i true).toList.count false + 1 = listed.toList.count false := by
    intro listed i hi
    have h0 := (mem_ready.1 hi).1
    have hlt : i < listed.size := by
      rcases Nat.lt_or_ge i listed.size with h | h
      · exact h
      · simp [Array.getElem?_eq_none h] at h0
    have hv : listed.toList[i]'(by simpa using hlt) = false := by simpa [hlt] using h0
    have hpos : 0 < listed.toList.count false := List.count_pos_iff.2 (by rw [← hv]; exact List.getElem_mem _)
    rw [Array.toList_setIfInBounds, List.count_set (by simpa using hlt), hv]
    have : ∀ c : Nat, 0 < c → c - (if (false == false) = true then 1 else 0) + (if (true == false) = true then 1 else 0) + 1 = c := by intro c hc; simp; omega
    exact this _ hpos
  induction fuel with
  | zero =>
    intro listed a w hc hJ
    have hr : Region.ready md ops listed = [] := by
      cases h : Region.ready md ops listed with
      | nil => rfl
      | cons i r => have := key listed i (by rw [h]; simp); omega
    exact ⟨hr, fin _ _ _ hJ hr⟩
  | succ fuel ih =>
    intro listed a w hc hJ
    refine ⟨fun h => fin _ _ _ hJ h, fun i hi => ?_⟩
    have := key listed i hi
    exact wpOpIn_mono (fun a' w' h' => ih _ a' w' (by omega) h') (step _ _ _ hJ i hi)
section
variable {F : Fence} {n : Nat} {P : Program} {ops : Array Oper} {Q : Exit → Act → World → Prop} {i : Nat} {o : Oper} {K : Act → World → Prop} {a : Act} {w w' : World}
theorem wpIn_q {v : Value} (hfn : ∀ f, F.fn f) (ho : ops[i]? = some o) (hg : o.guard = none) (hdf : ∀ c, o.op ≠ .defer c) (hr : (execOp a.eval o).run P w = .ok (.value v) w') (h : K (a.put o.dst v) w') : wpOpIn F n P ops Q i K a w := by
  refine wpOpIn_step ho fun K' hK => ?_
  rw [if_pos (by simp [Region.wanted, hg])]
  unfold Oper.wpIn
  rw [Oper.semAt_plain F _ o hdf, hr]
  exact ⟨fun f _ => hfn f, hK _ _ h⟩
theorem wpIn_s (hfn : ∀ f, F.fn f) (ho : ops[i]? = some o) (hg : o.guard = none) (hdf : ∀ c, o.op ≠ .defer c) (hr : (execOp a.eval o).run P w = .ok .skip w') (h : K (a.put o.dst undef) w') : wpOpIn F n P ops Q i K a w := by
  refine wpOpIn_step ho fun K' hK => ?_
  rw [if_pos (by simp [Region.wanted, hg])]
  unfold Oper.wpIn
  rw [Oper.semAt_plain F _ o hdf, hr]
  exact ⟨fun f _ => hfn f, hK _ _ h⟩
/-- a call as a step: whatever its arguments -/
theorem wpIn_c (hfn : ∀ f, F.fn f) (hn : 1 ≤ n) (ho : ops[i]? = some o) (hg : o.guard = none) (hdf : ∀ c, o.op ≠ .defer c) (f : FuncId) (vs : Array Value) (he : (execOp a.eval o).run P w = .ok (.enter f vs) w) {R : Ending → World → Prop} (hc : CallsIn F (n - 1) P f vs w R)
    (h : ∀ e w', R e w' → ∃ v, e = .returned v ∧ K (a.put o.dst v) w') : wpOpIn F n P ops Q i K a w := by
  refine wpOpIn_step ho fun K' hK => ?_
  rw [if_pos (by simp [Region.wanted, hg])]
  unfold Oper.wpIn
  rw [Oper.semAt_plain F _ o hdf, he]
  refine ⟨fun f _ => hfn f, fun _ => hn, hc.mono fun e w' hR => ?_⟩
  obtain ⟨v, rfl, hk⟩ := h e w' hR
  exact hK _ _ hk
theorem ex_c1 (f : FuncId) (x : Operand) (ts : Array TypeId) (hop : o.op = .call { callee := .value (.func f), args := #[x], argTypes := ts }) (vx : Value) (hx : a.eval x = vx) (hnf : (callFunc f #[vx]).run P w = .ok (.enter f #[vx]) w) : (execOp a.eval o).run P w = .ok (.enter f #[vx]) w := by
  have hf : a.eval (.func f) = .func (.func f) #[] #[] := rfl
  simp [execOp, hop, resolve, invoke, Deferred.ofValue, hf, hx, hnf]
theorem ex_c3 (f : FuncId) (x y z : Operand) (ts : Array TypeId) (hop : o.op = .call { callee := .value (.func f), args := #[x, y, z], argTypes := ts }) (vx vy vz : Value) (hx : a.eval x = vx) (hy : a.eval y = vy) (hz : a.eval z = vz) (hnf : (callFunc f #[vx, vy, vz]).run P w = .ok (.enter f #[vx, vy, vz]) w) : (execOp a.eval o).run P w = .ok (.enter f #[vx, vy, vz]) w := by
  have hf : a.eval (.func f) = .func (.func f) #[] #[] := rfl
  simp [execOp, hop, resolve, invoke, Deferred.ofValue, hf, hx, hy, hz, hnf]
theorem wpAnyIn_fx {α : Type} {t0 : Array Value} (vt : α → Nat → Value) (V : α → Array Bool → World → Prop)
    (step : ∀ listed a w x, FrQ ops (vt x) t0 listed a → V x listed w → ∀ i ∈ Region.ready .any ops listed, wpOpIn F n P ops Q i (fun a' w' => ∃ y, FrQ ops (vt y) t0 (listed.setIfInBounds i true) a' ∧ V y (listed.setIfInBounds i true) w') a w)
    (fin : ∀ listed a w x, FrQ ops (vt x) t0 listed a → V x listed w → Region.ready .any ops listed = [] → Q .normal a w) (x0 : α) (start : V x0 (Array.replicate ops.size false) w) :
    wpAnyIn F n P .any ops Q ops.size (Array.replicate ops.size false) ⟨t0, []⟩ w :=
  wpAnyIn_inv (fun listed fr wr => ∃ x, FrQ ops (vt x) t0 listed fr ∧ V x listed wr) (fun l a w ⟨x, h1, h2⟩ i hi => step l a w x h1 h2 i hi) (fun l a w ⟨x, h1, h2⟩ hr => fin l a w x h1 h2 hr) _ _ _ _ (by simp) ⟨x0, FrQ.start rfl, start⟩
end
end Go.Proofs.Ytekkjalfiogenaa
namespace Go.Proofs.Ytekkjalfiogenaa
open Go.RowKit
open C (Only hid Mem Still ret_bool ret_int put byt rd8 lo)
set_option linter.unusedVariables false
set_option maxRecDepth 100000

section
variable {P : Program} (w : World) {o : Oper} {a : Act} {Q : Exit → Act → World → Prop} (s x : Operand) (t : TypeId)
    (ho : o.op = .call { callee := .builtin .append, args := #[s, x], argTypes := #[t, t] })
    (e : TypeId) (i : TypeInfo) (z : Value) (size bytes : Nat) (ht : P.underlying t = some (.slice e)) (hi : P.info? e = some i) (hz : i.zero = some z)
    (hsize : i.size = size) (hby : i.bytes = bytes) (hzs : z.cells.size = size) (hsz : 0 < size)
    (v : Value) (n : Nat) (xs : List Value) (hs : a.eval s = v) (hown : w.ownsRow 0 e size v n xs)
    (ad : Addr) (m c : Nat) (news : List Value) (hx : a.eval x = .slice (some ad) m c) (hl : news.length = m * size) (hnews : ∀ j u, news[j]? = some u → w.cell? (ad.add j) = some u) (h1 : ∀ u ∈ news, u.oneCell' = true)
    (h63 : n + m ≤ maxLen) (hbytes : (n + m) * bytes ≤ 140737488355328)
include ho ht hi hz hsize hby hzs hsz hs hown hx hl hnews h1 h63 hbytes
/-- append: the list's block is the elder one or a new one -/
theorem wp_append_blk {K : Act → World → Prop} (h : ∀ v' w', w'.ownsRow 0 e size v' (n + m) (xs ++ news) → w.grownBy w' v.ownBlock → (∀ k, v'.ownBlock = some k → v.ownBlock = some k ∨ w.heap.size ≤ k) → K (a.put o.dst v') w') : o.wp P a w K Q := by
  obtain ⟨v', w', hr, h2, h3, h4⟩ := run_append_own (P := P) w 0 t o.type e i z size bytes ht hi hz hsize hby hzs hsz v n xs hown ad m c news hl hnews h1 h63 hbytes (Nat.zero_le _)
  have hb : ∀ k, v'.ownBlock = some k → v.ownBlock = some k ∨ w.heap.size ≤ k := by
    rcases hown.2 with ⟨rfl, rfl⟩ | ⟨g, cap, cur, rfl, hbg, hg, hnc, hcm, hcs, htake⟩
    · obtain ⟨v2, w2, hr2, h22, -, -⟩ := run_append_own (P := P) w w.heap.size t o.type e i z size bytes ht hi hz hsize hby hzs hsz (.slice none 0 0) 0 xs ⟨hown.1, .inl ⟨rfl, rfl⟩⟩ ad m c news hl hnews h1 h63 hbytes (Nat.le_refl _)
      rw [hr] at hr2
      injection hr2 with e1 e2
      subst e1
      exact fun k hk => .inr (h22.lt k hk).1
    · subst hsize
      by_cases hroom : n + m ≤ cap
      · have hfit : n * i.size + news.length ≤ cur.size := by rw [hl, hcs, ← Nat.add_mul]; exact Nat.mul_le_mul_right _ hroom
        have hr2 := run_append_room (P := P) w t o.type e i ht hi g n cap cur hg ad m c news hl hnews h1 hroom hfit
        rw [hr] at hr2
        injection hr2 with e1 e2
        subst e1
        exact fun k hk => .inl hk
      · have holds : ∀ j u, xs[j]? = some u → w.cell? ((⟨g, 0, none⟩ : Addr).add j) = some u := hown.cells (g := g) rfl
        have hr2 := run_append_grow (P := P) w t o.type e i z ht hi hz ⟨g, 0, none⟩ n cap xs hown.1 holds ad m c news hl hnews (by omega) (by simp only [maxLen] at h63; omega) (growslice_fits (by omega) (by rw [hby]; exact hbytes))
        rw [hr] at hr2
        injection hr2 with e1 e2
        subst e1
        exact fun k hk => .inr (by simp [Value.ownBlock] at hk; omega)
  unfold Oper.wp execOp
  simp only [ho, resolve, invoke, builtin, Sem.run_bind, Sem.run_pure, Result.andThen_ok, List.map_toArray, List.map_cons, List.map_nil, hs, hx, hr]
  exact h v' w' h2 h3 hb
theorem wpList_append_blk {ops : Array Oper} {rest : List Oper} (hgd : o.guard = none) (h : ∀ v' w', w'.ownsRow 0 e size v' (n + m) (xs ++ news) → w.grownBy w' v.ownBlock → (∀ k, v'.ownBlock = some k → v.ownBlock = some k ∨ w.heap.size ≤ k) → wpList P ops Q rest (a.put o.dst v') w') : wpList P ops Q (o :: rest) a w :=
  wpList_plain hgd fun _ hK => wp_append_blk w s x t ho e i z size bytes ht hi hz hsize hby hzs hsz v n xs hs hown ad m c news hx hl hnews h1 h63 hbytes fun v' w' h2 h3 h4 => hK _ _ (h v' w' h2 h3 h4)
theorem step_append_blk {ops : Array Oper} {K : Act → World → Prop} {E : Prop} (hgd : o.guard = none) (h : ∀ v' w', w'.ownsRow 0 e size v' (n + m) (xs ++ news) → w.grownBy w' v.ownBlock → (∀ k, v'.ownBlock = some k → v.ownBlock = some k ∨ w.heap.size ≤ k) → K (a.put o.dst v') w') :
    if Region.wanted o (yielded ops a.tmps) = true then Oper.wp P o a w K Q else E := by
  have hw : Region.wanted o (yielded ops a.tmps) = true := by simp [Region.wanted, hgd]
  rw [if_pos hw]
  exact wp_append_blk w s x t ho e i z size bytes ht hi hz hsize hby hzs hsz v n xs hs hown ad m c news hx hl hnews h1 h63 hbytes h
end
/-- the block of a list -/
def Ug (u : Value) (k : Nat) : Prop := u.ownBlock = some k
/-- numbers as cells -/
def lsv (l : List Nat) : List Value := l.map fun (t : Nat) => Value.int .i64 (t : Int)
theorem grown_ug {w w' : World} {u : Value} (hg : w.grownBy w' u.ownBlock) : Only (Ug u) w w' := ⟨hg.os, hg.tape, hg.output, hg.size, fun k hk hs => hg.block k hk fun e => hs e.symm⟩
theorem own_only {w w' : World} {e : TypeId} {size : Nat} {u : Value} {n : Nat} {xs : List Value} (h : w.ownsRow 0 e size u n xs) {T : Nat → Prop} (ho : Only T w w') (hd : ∀ k, Ug u k → ¬ T k) : w'.ownsRow 0 e size u n xs := by
  refine ⟨h.1, ?_⟩
  rcases h.2 with z | ⟨g, cap, cur, h1, h2, h3, h4⟩
  · exact .inl z
  · exact .inr ⟨g, cap, cur, h1, h2, ho.old h3 (hd g (by rw [h1]; rfl)), h4⟩
theorem own_below {w w' : World} {e : TypeId} {size : Nat} {u : Value} {n : Nat} {xs : List Value} (h : w.ownsRow 0 e size u n xs) (hb : Below w.heap.size w w') : w'.ownsRow 0 e size u n xs := own_only h (T := fun _ => False) (.ofBelow hb) fun _ _ z => z
theorem own_typ {w : World} {e : TypeId} {size : Nat} {u : Value} {n : Nat} {xs : List Value} (h : w.ownsRow 0 e size u n xs) {k : Nat} (hk : Ug u k) : ∃ cur, w.heap[k]? = some (.cells cur e (0, 0)) := by
  rcases h.2 with ⟨z, -⟩ | ⟨g, cap, cur, h1, h2, h3, h4⟩
  · rw [z] at hk; cases hk
  · rw [h1] at hk
    have : g = k := by simpa [Ug, Value.ownBlock] using hk
    exact ⟨cur, this ▸ h3⟩
theorem own_form {w : World} {e : TypeId} {u : Value} {n : Nat} {xs : List Value} (h : w.ownsRow 0 e 1 u n xs) : ∃ ad c, u = .slice ad n c := by
  rcases h.2 with ⟨h1, h2⟩ | ⟨g, cap, cur, h1, h2⟩
  · exact ⟨none, 0, by rw [h1, h2]⟩
  · exact ⟨_, cap, h1⟩
section
variable {w w' : World} {p : Nat} {F : Nat → Prop} {v : PV} {f : Nat → Int}
/-- a pool's memory taken out, and put back when it has turned -/
theorem Pool.open (h : Pool w F p v f) : ∃ S, Mem w S v.m v.b v.n f ∧ (∀ k, S k → F k) ∧ ∀ w' S' f', Mem w' S' v.m v.b v.n f' → Only S w w' → (∀ k, S' k → S k ∨ w.heap.size ≤ k) → ∃ F', Pool w' F' p v f' ∧ Only F w w' ∧ ∀ k, F' k → F k ∨ w.heap.size ≤ k := by
  obtain ⟨g, d, k, B, S, hp, ok, hF⟩ := h
  refine ⟨S, hp.mem, fun x hx => (hF x).2 (.inr (.inr (.inr hx))), fun w' S' f' hm ho hS => ?_⟩
  refine ⟨fun x => x = p ∨ x = g ∨ B x ∨ S' x, ⟨g, d, k, B, S', ⟨ho.old hp.top hp.pS, ho.old hp.tab hp.gS, hp.bits.only ho fun x hx => (hp.BS x hx).1, hm⟩, ok, fun x => Iff.rfl⟩, ho.mono fun x _ hx => (hF x).2 (.inr (.inr (.inr hx))), ?_⟩
  rintro x (z | z | z | z)
  · exact .inl ((hF x).2 (.inl z))
  · exact .inl ((hF x).2 (.inr (.inl z)))
  · exact .inl ((hF x).2 (.inr (.inr (.inl z))))
  · exact (hS x z).imp (fun y => (hF x).2 (.inr (.inr (.inr y)))) id
theorem mem_ty2 {w : World} {S : Nat → Prop} {p : Nat} {bs : Int} {n : Nat} {f : Nat → Int} (h : Mem w S p bs n f) {x : Nat} (hx : S x) : ∃ c t, w.heap[x]? = some (.cells c t (0, 0)) ∧ (t = 163 ∨ t = 176 ∨ t = 184) := by
  obtain ⟨g, hs, hr, rfl, hS⟩ := h
  rcases (hS x).1 hx with rfl | rfl | ⟨i, hi⟩
  · exact ⟨_, _, hr.top, .inl rfl⟩
  · exact ⟨_, _, hr.tab, .inr (.inl rfl)⟩
  · exact ⟨_, _, hr.full i x hi, .inr (.inr rfl)⟩
def tyF (t : Nat) : Bool := t == 120 || t == 107 || t == 22 || t == 163 || t == 176 || t == 184
theorem Pool.ty (h : Pool w F p v f) {x : Nat} (hx : F x) : ∃ c t, w.heap[x]? = some (.cells c t (0, 0)) ∧ tyF t = true := by
  obtain ⟨g, d, k, B, S, hp, ok, hF⟩ := h
  rcases (hF x).1 hx with rfl | rfl | y | y
  · exact ⟨_, _, hp.top, rfl⟩
  · exact ⟨_, _, hp.tab, rfl⟩
  · obtain ⟨cur, y⟩ := hp.bits.typ y; exact ⟨_, _, y, rfl⟩
  · obtain ⟨c, t, h1, h2⟩ := mem_ty2 hp.mem y
    refine ⟨c, t, h1, ?_⟩
    rcases h2 with rfl | rfl | rfl <;> rfl
theorem Pool.ne (h : Pool w F p v f) {x : Nat} {c : Array Value} {t : Nat} (hx : w.heap[x]? = some (.cells c t (0, 0))) (ht : tyF t = false) : ¬ F x := fun z => by
  obtain ⟨c', t', h1, h2⟩ := h.ty z
  rw [hx] at h1
  simp at h1
  rw [← h1.2, ht] at h2
  cases h2
end
theorem info_intS : (Try.prog.info? 3).map (fun i => (i.zero, i.size, i.bytes)) = some (some (.int .i64 0), 1, 8) := by kernel_rfl
theorem u_sintS : Try.prog.underlying 58 = some (.slice 3) := by kernel_rfl
end Go.Proofs.Ytekkjalfiogenaa
namespace Go.Proofs.Ytekkjalfiogenaa
open Go.RowKit
open C (Only hid Mem Still ret_bool ret_int put byt rd8 lo)
set_option linter.unusedVariables false
set_option maxRecDepth 100000

theorem t_pageOf (w : World) (q m : Nat) (b : Int) (b0 : 0 ≤ b) (b1 : b ≤ 4503599627370496) (c0 : w.cell? ⟨q, 0, none⟩ = some (.pointer (some ⟨m, 0, none⟩))) (hR : Calls Try.prog 94 #[.pointer (some ⟨m, 0, none⟩)] w fun e w' => e = .returned (.int .u64 b) ∧ w' = w) (t : Nat) (ht : t ≤ 1024) : Calls Try.prog 61 #[.pointer (some ⟨q, 0, none⟩), .int .i64 t] w fun r w' => r = .returned (.int .u64 (b / 4096 + t)) ∧ w' = w := by
  go_enter Try.func61, Try.ntmps61
  go_wp2_with (go_at_call 94; refine hR.mono ?_; rintro r w1 ⟨rfl, hw⟩; obtain rfl := hw.symm)
  go_ret
  exact ⟨ret_int (by go_num), rfl⟩
theorem tk_free (v : PV) (x : Int) (hx : may x = true) (hc : 0 < cnt v.o 0 v.n) : tk v x = (((ff v.o v.n : Nat) : Int), 0, v.own (ff v.o v.n) x) := by
  unfold tk
  rw [hx]
  simp [(cnt_pos hc).1]
theorem lsv_len (l : List Nat) : (lsv l).length = l.length := by simp [lsv]
theorem lsv_add (l : List Nat) (t : Nat) : lsv (l ++ [t]) = lsv l ++ [.int .i64 (t : Int)] := by simp [lsv]
theorem one_cell (w : World) (V : Value) (t : TypeId) (i : Nat) (u : Value) (h : [V][i]? = some u) : (w.alloc (.cells #[V] t)).cell? ((⟨w.heap.size, 0, none⟩ : Addr).add i) = some u := by
  obtain rfl : i = 0 := by
    rcases Nat.eq_zero_or_pos i with z | z
    · exact z
    · rw [List.getElem?_eq_none (by simp; omega)] at h; cases h
  rw [C.addr_add]
  have : (w.alloc (.cells #[V] t)).cell? ⟨w.heap.size, 0, none⟩ = some V := cell_of_row _ _ 0 _ _ _ (heap_alloc_new w _)
  simp at h
  subst h
  exact this
theorem spc_set (m : Nat) (root : Int) (p : Nat) (vm : Int) (u u' : Value) : (spc m root p vm u).setIfInBounds 4 u' = spc m root p vm u' := rfl
set_option maxHeartbeats 1000000 in
theorem x_addTable (w : World) (q p : Nat) (root vm : Int) (u : Value) (l : List Nat) (F : Nat → Prop) (v : PV) (f : Nat → Int) (hp : Pool w F p v f) (hq : w.heap[q]? = some (.cells (spc v.m root p vm u) 60 (0, 0))) (hl : w.ownsRow 0 3 1 u l.length (lsv l)) (hll : l.length ≤ 1024) (hc : 0 < cnt v.o 0 v.n) :
    Calls Try.prog 55 #[.pointer (some ⟨q, 0, none⟩)] w fun r w' => r = .returned (.int .u64 (v.b / 4096 + (ff v.o v.n : Nat))) ∧ ∃ F' u', Pool w' F' p (v.own (ff v.o v.n) (-1)) (clr f (ff v.o v.n)) ∧ w'.heap[q]? = some (.cells (spc v.m root p vm u') 60 (0, 0)) ∧ w'.ownsRow 0 3 1 u' (l ++ [ff v.o v.n]).length (lsv (l ++ [ff v.o v.n])) ∧ Only (fun k => F k ∨ k = q ∨ Ug u k) w w' ∧ (∀ k, F' k → F k ∨ w.heap.size ≤ k) ∧ ∀ k, Ug u' k → Ug u k ∨ w.heap.size ≤ k := by
  obtain ⟨i0, hi0, hz0, hz1, hz2⟩ := info_parts info_intS
  have htk := tk_free v (-1) rfl hc
  have hpos := (cnt_pos hc).1
  have hn := hp.ok.n1
  have hT := x_Take w F p v f hp (-1)
  rw [htk] at hT
  have nq := hp.ne hq rfl
  have nu : ∀ k, Ug u k → ¬ F k ∧ k ≠ q := fun k hk => by
    obtain ⟨cur, hk'⟩ := own_typ hl hk
    exact ⟨hp.ne hk' rfl, fun e => by subst e; rw [hq] at hk'; simp at hk'⟩
  have c2 : w.cell? ⟨q, 2, none⟩ = some (.pointer (some ⟨p, 0, none⟩)) := cell_of_row w q 2 _ _ _ hq
  obtain ⟨ad, cp, rfl⟩ := own_form hl
  generalize ht : ff v.o v.n = t at *
  have hlt := lt_of_block hq
  have HQ := hid hq
  have HL := hid hl
  have HP := hid hp
  have NQ := hid nq
  have NU := hid nu
  have HT := hid ht
  clear hq hl hp nq nu ht htk hc
  go_enter Try.func55, Try.ntmps55
  go_upto_region 2 with (go_at_call 20; refine hT.mono ?_; rintro r w1 ⟨rfl, hp1, ho1⟩; have HP1 := hid hp1; have HO1 := hid ho1; clear hp1 ho1)
  have q1 := HO1.out.old HQ.out NQ.out
  have d0 : w1.cell? ⟨q, 0, none⟩ = some (.pointer (some ⟨v.m, 0, none⟩)) := cell_of_row w1 q 0 _ _ _ q1
  obtain ⟨S, hm, hSF, hback⟩ := HP1.out.open
  have hC := C.c_Clear w1 S v.m v.b v.n f hm t hpos
  have HSF := hid hSF
  have HBK := hid hback
  have HQ1 := hid q1
  have HL1 := hid (own_only HL.out HO1.out fun k hk => (NU.out k hk).1)
  clear hm hSF hback q1
  go_upto_region 3 with (go_at_call 93; refine hC.mono ?_; rintro r w2 ⟨S2, rfl, hm2, ho2, hs2⟩; have HM2 := hid hm2; have HO2 := hid ho2; have HS2 := hid hs2; clear hm2 ho2 hs2)
  obtain ⟨F2, hp2, ho2F, hF2⟩ := HBK.out w2 S2 _ HM2.out HO2.out fun k hk => .inl (HS2.out k hk)
  have q2 := ho2F.old HQ1.out NQ.out
  have l2 := own_only HL1.out ho2F fun k hk => (NU.out k hk).1
  have e4 : w2.cell? ⟨q, 4, none⟩ = some (.slice ad l.length cp) := cell_of_row w2 q 4 _ _ _ q2
  have z4 : w2.frozen? ⟨q, 4, none⟩ = false := frozen_of_row w2 q 4 _ _ q2
  have hlt2 := lt_of_block q2
  have HQ2 := hid q2
  have HL2 := hid l2
  have HP2 := hid hp2
  have HF2 := hid hF2
  have HOW : Hid (Only F w w2) := HO1.out.trans ho2F
  have HD : Hid (∀ x, Below w2.heap.size w2 (w2.alloc x)) := fun x => (Below.refl _ _).alloc (Nat.le_refl _) x
  have HN := hid (one_cell w2 (.int .i64 (t : Int)) 3)
  have HZ : Hid (∀ w3, (w2.alloc (.cells #[.int .i64 (t : Int)] 3)).grownBy w3 (Value.slice ad l.length cp).ownBlock → w3.heap[q]? = w2.heap[q]? ∧ Only (Ug (.slice ad l.length cp)) w2 w3) := fun w3 hg => by
    have ho : Only (Ug (.slice ad l.length cp)) w2 w3 := (Only.ofBelow (HD.out _)).trans (grown_ug hg)
    exact ⟨ho.block q hlt2 fun e => (NU.out q e).2 rfl, ho⟩
  clear q2 l2 hp2 ho2F hF2 hC hT
  go_upto_region 4 with (at_builtin; refine wpList_append_blk _ (.tmp 24) (.tmp 26) 58 rfl 3 i0 (.int .i64 0) 1 8 u_sintS hi0 hz0 hz1 hz2 rfl (by decide) (.slice ad l.length cp) l.length (lsv l) rfl (own_below HL2.out (HD.out _)) ⟨w2.heap.size, 0, none⟩ 1 1 [.int .i64 (t : Int)] rfl rfl HN.out (by intro u hu; simp at hu; subst hu; rfl) (show l.length + 1 ≤ 9223372036854775807 by omega) (by omega) rfl ?_; intro u' w3 hown hgrow hblk; obtain ⟨ad2, cp2, rfl⟩ := own_form hown; have HO3 := hid hown; have HG3 := hid (HZ.out w3 hgrow); have HB3 := hid hblk; have y4 : w3.cell? ⟨q, 4, none⟩ = some (.slice ad l.length cp) := (World.cell?_of_block (w := w2) HG3.out.1).trans e4; have y8 : w3.frozen? ⟨q, 4, none⟩ = false := (World.frozen?_of_block (w := w2) HG3.out.1).trans z4; clear hown hgrow hblk)
  have q3 := HG3.out.1.trans HQ2.out
  have hu3 : ∀ k, Ug (.slice ad2 (l.length + 1) cp2) k → k ≠ q := fun k hk e => by
    subst e
    obtain ⟨cur, hk'⟩ := own_typ HO3.out hk
    rw [q3] at hk'
    simp at hk'
  have Ho4 : Hid (Only (fun k => k = q ∨ Ug (.slice ad l.length cp) k) w2 (w3.setCell ⟨q, 4, none⟩ (.slice ad2 (l.length + 1) cp2))) := (HG3.out.2.mono fun k _ hk => .inr hk).setCell (.inl (.inl rfl)) _
  have Hq4 : Hid ((w3.setCell ⟨q, 4, none⟩ (.slice ad2 (l.length + 1) cp2)).heap[q]? = some (.cells (spc v.m root p vm (.slice ad2 (l.length + 1) cp2)) 60 (0, 0))) := setRowB w3 q 4 _ _ _ _ q3 (spc_set v.m root p vm _ _)
  have Hl4 : Hid ((w3.setCell ⟨q, 4, none⟩ (.slice ad2 (l.length + 1) cp2)).ownsRow 0 3 1 (.slice ad2 (l.length + 1) cp2) (l.length + 1) (lsv l ++ [.int .i64 (t : Int)])) := own_only HO3.out (T := (· = q)) (only_c _ _ _ _) fun k hk e => hu3 k hk e
  have nF2 : ∀ k, F2 k → ¬ (k = q ∨ Ug (.slice ad l.length cp) k) := fun k hk e => by
    rcases e with e | e
    · subst e; exact HP2.out.ne HQ2.out rfl hk
    · obtain ⟨cur, hk'⟩ := own_typ HL2.out e
      exact HP2.out.ne hk' rfl hk
  have Hp4 : Hid (Pool (w3.setCell ⟨q, 4, none⟩ (.slice ad2 (l.length + 1) cp2)) F2 p (v.own t (-1)) (clr f t)) := HP2.out.only Ho4.out nF2
  have g0 : (w3.setCell ⟨q, 4, none⟩ (.slice ad2 (l.length + 1) cp2)).cell? ⟨q, 0, none⟩ = some (.pointer (some ⟨v.m, 0, none⟩)) := cell_of_row _ q 0 _ _ _ Hq4.out
  obtain ⟨S4, hm4, -, -⟩ := Hp4.out.open
  have hB := c_BaseM _ S4 v.m v.b v.n _ hm4
  obtain ⟨b0, b1, -, -⟩ := hm4.nums
  have hPg := t_pageOf _ q v.m v.b b0 b1 g0 hB t (by omega)
  have HUB : Hid (∀ k, Ug (.slice ad2 (l.length + 1) cp2) k → Ug (.slice ad l.length cp) k ∨ w.heap.size ≤ k) := fun k hk => (HB3.out k hk).imp id fun z => by
    have := HOW.out.size
    have e : (w2.alloc (.cells #[.int .i64 (t : Int)] 3)).heap.size = w2.heap.size + 1 := by simp
    omega
  have HFF : Hid (∀ k, F2 k → F k ∨ w.heap.size ≤ k) := fun k hk => (HF2.out k hk).imp id fun z => by have := HO1.out.size; omega
  have HON : Hid (Only (fun k => F k ∨ k = q ∨ Ug (.slice ad l.length cp) k) w (w3.setCell ⟨q, 4, none⟩ (.slice ad2 (l.length + 1) cp2))) := (HOW.out.mono fun k _ hk => .inl hk).trans (Ho4.out.mono fun k _ hk => .inr hk)
  obtain ⟨w4, hw4⟩ : ∃ w4, w4 = w3.setCell ⟨q, 4, none⟩ (.slice ad2 (l.length + 1) cp2) := ⟨_, rfl⟩
  rw [← hw4] at Hq4 Hl4 Hp4 hPg HON ⊢
  clear hw4 q3 hu3 Ho4 g0 hm4 hB y4 y8 nF2 HG3 HO3 HB3
  go_wp2_with (go_at_call 61; refine hPg.mono ?_; rintro r w5 ⟨rfl, hw⟩; obtain rfl := hw.symm)
  go_ret
  exact ⟨rfl, F2, _, Hp4.out, Hq4.out, by rw [lsv_add]; simpa using Hl4.out, HON.out, HFF.out, HUB.out⟩
end Go.Proofs.Ytekkjalfiogenaa
namespace Go.Proofs.Ytekkjalfiogenaa
open Go.RowKit
open C (Only hid Mem Still ret_bool ret_int put byt rd8 lo)
set_option linter.unusedVariables false
set_option maxRecDepth 100000

/-- where a mapped page's entry stands -/
def lfO (s : SV) (p : Nat) : Nat := 4096 * s.k0 (p / 512) + 8 * (p % 512)
theorem dn_of (s : SV) (p : Nat) (h1 : s.k1 (p / 262144) ≠ 0) (h0 : s.k0 (p / 512) ≠ 0) : dnO s p = lfO s p ∧ dnL s p = 0 := by
  unfold dnO dnL lfO; rw [if_neg h1, if_neg h1, if_neg h0, if_neg h0]; exact ⟨rfl, rfl⟩
theorem t_leaf_out (w : World) (q : Nat) (page : Int) (hp : ¬ page < 134217728) : Calls Try.prog 45 #[.pointer (some ⟨q, 0, none⟩), .int .u64 page] w fun r w' => r = .returned (.tuple #[.int .u64 0, .int .u64 0, .bool false]) ∧ w' = w := by
  have h := c_isPage page
  rw [decide_eq_false hp] at h
  go_enter Try.func45, Try.ntmps45
  go_wp2_with (go_at_call 51; refine (h _).mono ?_; rintro r w1 ⟨rfl, hw⟩; obtain rfl := hw.symm)
  go_ret3
  exact ⟨rfl, rfl⟩
theorem t_leaf_high (w : World) (q : Nat) (page a : Int) (lv : Nat) (hl : 0 < lv) (hp : page < 134217728) (hd : Calls Try.prog 54 #[.pointer (some ⟨q, 0, none⟩), .int .u64 page] w fun r w' => r = .returned (.tuple #[.int .u64 a, .int .i64 lv]) ∧ Below w.heap.size w w') : Calls Try.prog 45 #[.pointer (some ⟨q, 0, none⟩), .int .u64 page] w fun r w' => r = .returned (.tuple #[.int .u64 0, .int .u64 0, .bool false]) ∧ Below w.heap.size w w' := by
  have h := c_isPage page
  rw [decide_eq_true hp] at h
  clear hp
  go_enter Try.func45, Try.ntmps45
  go_wp2_with (first
    | (go_at_call 51; refine (h _).mono ?_; rintro r w1 ⟨rfl, hw⟩; obtain rfl := hw.symm)
    | (go_at_call 54; refine hd.mono ?_; rintro r w1 ⟨rfl, hb⟩; have HB := hid hb; clear hb))
  go_ret3
  exact ⟨rfl, HB.out⟩
theorem t_leaf_low (w : World) (q : Nat) (page a e : Int) (e0 : 0 ≤ e) (e1 : e < 18446744073709551616) (b : Bool) (hb : isL e = b) (hp : page < 134217728) (hd : Calls Try.prog 54 #[.pointer (some ⟨q, 0, none⟩), .int .u64 page] w fun r w' => r = .returned (.tuple #[.int .u64 a, .int .i64 0]) ∧ Below w.heap.size w w')
    (hl : ∀ w1, Below w.heap.size w w1 → Calls Try.prog 89 #[.pointer (some ⟨q, 0, none⟩), .int .u64 a] w1 fun r w' => r = .returned (.int .u64 e) ∧ Below w1.heap.size w1 w') : Calls Try.prog 45 #[.pointer (some ⟨q, 0, none⟩), .int .u64 page] w fun r w' => r = .returned (.tuple #[.int .u64 a, .int .u64 e, .bool b]) ∧ Below w.heap.size w w' := by
  have h := c_isPage page
  rw [decide_eq_true hp] at h
  have hi := c_isLeaf e e0 e1
  rw [hb] at hi
  have HL := hid hl
  clear hp hl hb e0 e1
  go_enter Try.func45, Try.ntmps45
  go_wp2_with (first
    | (go_at_call 51; refine (h _).mono ?_; rintro r w1 ⟨rfl, hw⟩; obtain rfl := hw.symm)
    | (go_at_call 54; refine hd.mono ?_; rintro r w1 ⟨rfl, hb⟩; have HB := hid hb; have hl1 := HL.out w1 hb; clear hb)
    | (go_at_call 89; refine hl1.mono ?_; rintro r w2 ⟨rfl, hb⟩; have HB2 := hid hb; clear hb)
    | (go_at_call 70; refine (hi _).mono ?_; rintro r w1 ⟨rfl, hw⟩; obtain rfl := hw.symm))
  go_ret3
  exact ⟨rfl, HB.out.trans (HB2.out.mono HB.out.size)⟩
section
variable (w : World) (q : Nat) (S : Nat → Prop) (s : SV) (v : PV) (f : Nat → Int) (pl : Nat) (vm : Int) (u : Value) (hq : Sq w q s v pl vm u) (hm : Mem w S v.m v.b v.n f) (hi : Inv s v f)
include hq hm hi
theorem c_leaf_yes (p : Nat) (hp : s.pp p ≠ 0) : Calls Try.prog 45 #[.pointer (some ⟨q, 0, none⟩), .int .u64 p] w fun r w' => r = .returned (.tuple #[.int .u64 (v.b + (lfO s p : Nat)), .int .u64 (lE v.b (s.pf p) (s.pp p)), .bool true]) ∧ Below w.heap.size w w' := by
  obtain ⟨h0, hk, hf, -⟩ := hi.ap p hp
  have h1 := (hi.a0 _ h0).1
  have hlt := hi.pplt hp
  have hk0 := (hi.k0lt h0).1
  have n2 := hi.ba.n2
  rw [show p / 512 / 512 = p / 262144 by omega] at h1
  have hd := c_down w q S s v f pl vm u hq hm hi p hlt
  rw [(dn_of s p h1 h0).1, (dn_of s p h1 h0).2] at hd
  have e := hi.e0 _ (p % 512) h0 (by omega)
  rw [show 512 * (p / 512) + p % 512 = p by omega] at e
  have b := lE_b (t := s.pf p) (pm := s.pp p) hi.ba.b0 hi.ba.b1 (by omega) (.inr hk)
  refine t_leaf_low w q p _ (lE v.b (s.pf p) (s.pp p)) b.1 b.2 true (by rw [isL_l _ _ _ hi.ba.b0 (.inr hk)]; exact decide_eq_true hp) (by omega) hd fun w1 hb => ?_
  have := c_load w1 q S s v f pl vm u (hq.below hb) (hm.below hb) (lfO s p) (by unfold lfO; omega) _ rfl
  unfold lfO at this ⊢
  rw [e] at this
  exact this
theorem c_leaf_no (page : Int) (p0 : 0 ≤ page) (hp : s.pp page.toNat = 0) : Calls Try.prog 45 #[.pointer (some ⟨q, 0, none⟩), .int .u64 page] w fun r w' => (∃ x y, r = .returned (.tuple #[.int .u64 x, .int .u64 y, .bool false])) ∧ Below w.heap.size w w' := by
  by_cases hlt : page < 134217728
  · obtain ⟨p, rfl⟩ := Int.eq_ofNat_of_zero_le p0
    have hp' : s.pp p = 0 := hp
    have hd := c_down w q S s v f pl vm u hq hm hi p (by omega)
    rcases Nat.eq_zero_or_pos (dnL s p) with z | z
    · have h1 : s.k1 (p / 262144) ≠ 0 := fun e => by unfold dnL at z; rw [if_pos e] at z; cases z
      have h0 : s.k0 (p / 512) ≠ 0 := fun e => by unfold dnL at z; rw [if_neg h1, if_pos e] at z; cases z
      have hk0 := (hi.k0lt h0).1
      rw [(dn_of s p h1 h0).1, (dn_of s p h1 h0).2] at hd
      have e := hi.e0 _ (p % 512) h0 (by omega)
      rw [show 512 * (p / 512) + p % 512 = p by omega, hp'] at e
      have e' : lE v.b (s.pf p) 0 = 0 := rfl
      rw [e'] at e
      refine (t_leaf_low w q p _ 0 (by decide) (by decide) false rfl hlt hd fun w1 hb => ?_).mono fun r w' h => ⟨⟨_, _, h.1⟩, h.2⟩
      have := c_load w1 q S s v f pl vm u (hq.below hb) (hm.below hb) (lfO s p) (by unfold lfO; omega) _ rfl
      unfold lfO at this ⊢
      rw [e] at this
      exact this
    · exact (t_leaf_high w q p _ (dnL s p) z hlt hd).mono fun r w' h => ⟨⟨_, _, h.1⟩, h.2⟩
  · exact (t_leaf_out w q page hlt).mono fun r w' h => ⟨⟨_, _, h.1⟩, h.2 ▸ Below.refl _ _⟩
end
theorem u_page : Try.prog.underlying 41 = some (.struct (Try.prog.fieldsOf 41)) := by kernel_rfl
theorem s_page : (Try.prog.info? 41).map (·.size) = some 3 := by kernel_rfl
theorem set3 (w : World) (g : Nat) (a b c x y z : Value) (t : TypeId) (h : w.heap[g]? = some (.cells #[a, b, c] t (0, 0))) : (((w.setCell ⟨g, 0, none⟩ x).setCell ⟨g, 1, none⟩ y).setCell ⟨g, 2, none⟩ z).heap[g]? = some (.cells #[x, y, z] t (0, 0)) := by
  have h1 := setRowB w g 0 _ _ _ x h rfl
  have h2 := setRowB _ g 1 _ _ _ y h1 rfl
  exact setRowB _ g 2 _ _ _ z h2 rfl
theorem below3 {w wb : World} (h : Below w.heap.size w wb) (x y z : Value) : Below w.heap.size w (((wb.setCell ⟨w.heap.size, 0, none⟩ x).setCell ⟨w.heap.size, 1, none⟩ y).setCell ⟨w.heap.size, 2, none⟩ z) :=
  ((h.setCell (p := ⟨w.heap.size, 0, none⟩) (Nat.le_refl _) x).setCell (p := ⟨w.heap.size, 1, none⟩) (Nat.le_refl _) y).setCell (p := ⟨w.heap.size, 2, none⟩) (Nat.le_refl _) z
theorem results_pair {P : Program} {fn : Func} {p u : Tmp} {ty : TypeId} (h : fn.results = #[.cell p ty, .tmp u]) (tmps : Array Value) (w : World) (g : Nat) (t : TypeId) (cs : Array Value) (fr : Nat × Nat) (d : TypeDesc)
    (hp : tmps.getD p undef = .pointer (some ⟨g, 0, none⟩)) (hg : w.heap[g]? = some (.cells cs t fr))
    (hu : P.underlying ty = some d) (hd : (match d with | .struct _ | .array _ _ => true | _ => false) = true) (hi : (P.info? ty).map (·.size) = some cs.size) (x : Value) (hx : tmps.getD u undef = x) :
    (results fn tmps).run P w = .ok (.tuple #[.agg cs, x]) w := by
  rw [results_cell_tmp h, hp, hx]
  simp [asAddr, run_loadVar_row w g t ty cs fr d hg hu hd hi, Result.andThen]
/-- a page as it is told -/
def pgv (page : Int) (fr pm : Nat) : Value := .agg #[.int .u64 page, .int .i64 fr, .int .i64 pm]
set_option maxHeartbeats 1000000 in
theorem c_told (w : World) (q : Nat) (page e : Int) (fr pm : Nat) (hn : ∀ w', Calls Try.prog 63 #[.int .u64 e] w' fun r w2 => r = .returned (.int .u64 (e / 1024)) ∧ w2 = w') (hpm : ∀ w', Calls Try.prog 90 #[.int .u64 e] w' fun r w2 => r = .returned (.int .i64 (pm : Int)) ∧ w2 = w')
    (hf : ∀ w', Below w.heap.size w w' → Calls Try.prog 62 #[.pointer (some ⟨q, 0, none⟩), .int .u64 (e / 1024)] w' fun r w2 => r = .returned (.int .i64 (fr : Int)) ∧ w2 = w') :
    Calls Try.prog 46 #[.pointer (some ⟨q, 0, none⟩), .int .u64 page, .int .u64 e] w fun r w' => r = .returned (pgv page fr pm) ∧ Below w.heap.size w w' := by
  have HF := hid hf
  clear hf
  go_enter Try.func46, Try.ntmps46
  go_wp2_with fail
  obtain ⟨wa, hwa⟩ : ∃ wa, w.alloc (.cells #[.int .u64 0, .int .i64 0, .int .i64 0] 41) = wa := ⟨_, rfl⟩
  have HB : Hid (Below w.heap.size w wa) := hwa ▸ (Below.refl _ _).alloc (Nat.le_refl _) _
  have HA : Hid (wa.heap[w.heap.size]? = some (.cells #[.int .u64 0, .int .i64 0, .int .i64 0] 41 (0, 0))) := hwa ▸ heap_alloc_new w _
  rw [hwa]
  clear hwa
  have hf : ∀ n, Calls Try.prog 62 #[.pointer (some ⟨q, 0, none⟩), .int .u64 (e / 1024)] (wa.drewN n) fun r w2 => r = .returned (.int .i64 (fr : Int)) ∧ w2 = wa.drewN n := fun n => HF.out _ (below_dn HB.out n)
  refine wp_region_last_lit (by simp) (by kernel_rfl) (by kernel_rfl) (by kernel_rfl) ?_
  simp only [List.dropLast, List.getLast]
  repeat (go_big_quiet_step (first | (go_at_call 63; exact Calls.quiet_of_same (hn _)) | (go_at_call 90; exact Calls.quiet_of_same (hpm _)) | (go_at_call 62; exact Calls.quiet_of_same (hf _))))
  refine wpQuiet_nil ?_
  intro _ hwq
  obtain ⟨nq, hwq⟩ := hwq
  subst hwq
  have c0 : (wa.drewN nq).cell? ⟨w.heap.size, 0, none⟩ = some (.int .u64 0) := cell_of_row wa _ 0 _ _ _ HA.out
  have c1 : (wa.drewN nq).cell? ⟨w.heap.size, 1, none⟩ = some (.int .i64 0) := cell_of_row wa _ 1 _ _ _ HA.out
  have c2 : (wa.drewN nq).cell? ⟨w.heap.size, 2, none⟩ = some (.int .i64 0) := cell_of_row wa _ 2 _ _ _ HA.out
  have z0 : ∀ j, (wa.drewN nq).frozen? ⟨w.heap.size, j, none⟩ = false := fun j => frozen_of_row wa _ j _ _ HA.out
  have y0 := z0 0
  have y1 := z0 1
  have y2 := z0 2
  have HB' : Hid (Below w.heap.size w (wa.drewN nq)) := below_dn HB.out nq
  have HA' : Hid ((wa.drewN nq).heap[w.heap.size]? = some (.cells #[.int .u64 0, .int .i64 0, .int .i64 0] 41 (0, 0))) := HA.out
  generalize wa.drewN nq = wb at *
  clear HA HB hf z0
  go_wp2_with fail
  exact bodyPost_ret_by (results_cell_row (fn := Try.f46) rfl _ _ w.heap.size 41 _ (0, 0) _ rfl (set3 wb _ _ _ _ _ _ _ _ HA'.out) u_page rfl s_page) rfl ⟨rfl, below3 HB'.out _ _ _⟩
theorem t_find_no (w : World) (q : Nat) (page : Int) (hl : ∀ w', Below w.heap.size w w' → Calls Try.prog 45 #[.pointer (some ⟨q, 0, none⟩), .int .u64 page] w' fun r w2 => (∃ x y, r = .returned (.tuple #[.int .u64 x, .int .u64 y, .bool false])) ∧ Below w'.heap.size w' w2) :
    Calls Try.prog 10 #[.pointer (some ⟨q, 0, none⟩), .int .u64 page] w fun r w' => r = .returned (.tuple #[pgv 0 0 0, .bool false]) ∧ Below w.heap.size w w' := by
  obtain ⟨wa, hwa⟩ : ∃ wa, wa = w.alloc (.cells #[.int .u64 0, .int .i64 0, .int .i64 0] 41) := ⟨_, rfl⟩
  have HB : Hid (Below w.heap.size w wa) := hwa ▸ (Below.refl _ _).alloc (Nat.le_refl _) _
  have HA : Hid (wa.heap[w.heap.size]? = some (.cells #[.int .u64 0, .int .i64 0, .int .i64 0] 41 (0, 0))) := hwa ▸ heap_alloc_new w _
  have hla := hl wa HB.out
  clear hl
  go_enter Try.func10, Try.ntmps10
  go_upto_region 1 with fail
  rw [← hwa]
  clear hwa
  go_upto_region 2 with (go_at_call 45; refine hla.mono ?_; rintro r wb ⟨⟨x, y, rfl⟩, hb⟩; have HB1 := hid hb; have HA1 : Hid (wb.heap[w.heap.size]? = some (.cells #[.int .u64 0, .int .i64 0, .int .i64 0] 41 (0, 0))) := (hb.block _ (lt_of_block HA.out)).trans HA.out; clear hb)
  have HB' : Hid (Below w.heap.size w wb) := HB.out.trans (HB1.out.mono HB.out.size)
  have c0 : wb.cell? ⟨w.heap.size, 0, none⟩ = some (.int .u64 0) := cell_of_row wb _ 0 _ _ _ HA1.out
  have c1 : wb.cell? ⟨w.heap.size, 1, none⟩ = some (.int .i64 0) := cell_of_row wb _ 1 _ _ _ HA1.out
  have c2 : wb.cell? ⟨w.heap.size, 2, none⟩ = some (.int .i64 0) := cell_of_row wb _ 2 _ _ _ HA1.out
  have y0 : wb.frozen? ⟨w.heap.size, 0, none⟩ = false := frozen_of_row wb _ 0 _ _ HA1.out
  have y1 : wb.frozen? ⟨w.heap.size, 1, none⟩ = false := frozen_of_row wb _ 1 _ _ HA1.out
  have y2 : wb.frozen? ⟨w.heap.size, 2, none⟩ = false := frozen_of_row wb _ 2 _ _ HA1.out
  go_wp2_with fail
  exact bodyPost_ret_by (results_pair (fn := Try.f10) rfl _ _ w.heap.size 41 _ (0, 0) _ rfl (set3 wb _ _ _ _ _ _ _ _ HA1.out) u_page rfl s_page _ rfl) rfl ⟨rfl, below3 HB'.out _ _ _⟩
theorem t_find_yes (w : World) (q : Nat) (page a e : Int) (fr pm : Nat) (hl : ∀ w', Below w.heap.size w w' → Calls Try.prog 45 #[.pointer (some ⟨q, 0, none⟩), .int .u64 page] w' fun r w2 => r = .returned (.tuple #[.int .u64 a, .int .u64 e, .bool true]) ∧ Below w'.heap.size w' w2) (ht : ∀ w', Below w.heap.size w w' → Calls Try.prog 46 #[.pointer (some ⟨q, 0, none⟩), .int .u64 page, .int .u64 e] w' fun r w2 => r = .returned (pgv page fr pm) ∧ Below w'.heap.size w' w2) :
    Calls Try.prog 10 #[.pointer (some ⟨q, 0, none⟩), .int .u64 page] w fun r w' => r = .returned (.tuple #[pgv page fr pm, .bool true]) ∧ Below w.heap.size w w' := by
  obtain ⟨wa, hwa⟩ : ∃ wa, wa = w.alloc (.cells #[.int .u64 0, .int .i64 0, .int .i64 0] 41) := ⟨_, rfl⟩
  have HB : Hid (Below w.heap.size w wa) := hwa ▸ (Below.refl _ _).alloc (Nat.le_refl _) _
  have HA : Hid (wa.heap[w.heap.size]? = some (.cells #[.int .u64 0, .int .i64 0, .int .i64 0] 41 (0, 0))) := hwa ▸ heap_alloc_new w _
  have hla := hl wa HB.out
  have HT := hid ht
  clear hl ht
  unfold pgv at HT
  go_enter Try.func10, Try.ntmps10
  go_upto_region 1 with fail
  rw [← hwa]
  clear hwa
  go_upto_region 2 with (go_at_call 45; refine hla.mono ?_; rintro r wb ⟨rfl, hb⟩; have HB1 := hid hb; have HA1 : Hid (wb.heap[w.heap.size]? = some (.cells #[.int .u64 0, .int .i64 0, .int .i64 0] 41 (0, 0))) := (hb.block _ (lt_of_block HA.out)).trans HA.out; clear hb)
  have HB' : Hid (Below w.heap.size w wb) := HB.out.trans (HB1.out.mono HB.out.size)
  have hta := HT.out wb HB'.out
  go_wp2_with (go_at_call 46; refine hta.mono ?_; rintro r wc ⟨rfl, hb⟩; have HB2 : Hid (Below w.heap.size w wc) := HB'.out.trans (hb.mono HB'.out.size); have HA2 : Hid (wc.heap[w.heap.size]? = some (.cells #[.int .u64 0, .int .i64 0, .int .i64 0] 41 (0, 0))) := (hb.block _ (lt_of_block HA1.out)).trans HA1.out; have c0 : wc.cell? ⟨w.heap.size, 0, none⟩ = some (.int .u64 0) := cell_of_row wc _ 0 _ _ _ HA2.out; have c1 : wc.cell? ⟨w.heap.size, 1, none⟩ = some (.int .i64 0) := cell_of_row wc _ 1 _ _ _ HA2.out; have c2 : wc.cell? ⟨w.heap.size, 2, none⟩ = some (.int .i64 0) := cell_of_row wc _ 2 _ _ _ HA2.out; have y0 : wc.frozen? ⟨w.heap.size, 0, none⟩ = false := frozen_of_row wc _ 0 _ _ HA2.out; have y1 : wc.frozen? ⟨w.heap.size, 1, none⟩ = false := frozen_of_row wc _ 1 _ _ HA2.out; have y2 : wc.frozen? ⟨w.heap.size, 2, none⟩ = false := frozen_of_row wc _ 2 _ _ HA2.out; clear hb)
  exact bodyPost_ret_by (results_pair (fn := Try.f10) rfl _ _ w.heap.size 41 _ (0, 0) _ rfl (set3 wc _ _ _ _ _ _ _ _ HA2.out) u_page rfl s_page _ rfl) rfl ⟨rfl, below3 HB2.out _ _ _⟩
section
variable (w : World) (q : Nat) (S : Nat → Prop) (s : SV) (v : PV) (f : Nat → Int) (pl : Nat) (vm : Int) (u : Value) (hq : Sq w q s v pl vm u) (hm : Mem w S v.m v.b v.n f) (hi : Inv s v f)
include hq hm hi
theorem c_told_pg (page : Int) (p : Nat) (hp : s.pp p ≠ 0) : Calls Try.prog 46 #[.pointer (some ⟨q, 0, none⟩), .int .u64 page, .int .u64 (lE v.b (s.pf p) (s.pp p))] w fun r w' => r = .returned (pgv page (s.pf p) (s.pp p)) ∧ Below w.heap.size w w' := by
  obtain ⟨h0, hk, hf, -⟩ := hi.ap p hp
  have n2 := hi.ba.n2
  have b := lE_b (t := s.pf p) (pm := s.pp p) hi.ba.b0 hi.ba.b1 (by omega) (.inr hk)
  have hpm := c_perm _ b.1 b.2
  rw [pm_l _ _ _ hi.ba.b0 hk] at hpm
  exact c_told w q page _ (s.pf p) (s.pp p) (c_number _ b.1 b.2) hpm fun w' hb => c_frameOf w' q S s v f pl vm u (hq.below hb) (hm.below hb) (s.pf p) (by omega) _ (num_l _ _ _ hk)
/-- what Find tells -/
theorem c_Find_yes (p : Nat) (hp : s.pp p ≠ 0) : Calls Try.prog 10 #[.pointer (some ⟨q, 0, none⟩), .int .u64 p] w fun r w' => r = .returned (.tuple #[pgv p (s.pf p) (s.pp p), .bool true]) ∧ Below w.heap.size w w' :=
  t_find_yes w q p _ _ (s.pf p) (s.pp p) (fun w' hb => c_leaf_yes w' q S s v f pl vm u (hq.below hb) (hm.below hb) hi p hp) fun w' hb => c_told_pg w' q S s v f pl vm u (hq.below hb) (hm.below hb) hi p p hp
theorem c_Find_no (page : Int) (p0 : 0 ≤ page) (hp : s.pp page.toNat = 0) : Calls Try.prog 10 #[.pointer (some ⟨q, 0, none⟩), .int .u64 page] w fun r w' => r = .returned (.tuple #[pgv 0 0 0, .bool false]) ∧ Below w.heap.size w w' :=
  t_find_no w q page fun w' hb => c_leaf_no w' q S s v f pl vm u (hq.below hb) (hm.below hb) hi page p0 hp
end
end Go.Proofs.Ytekkjalfiogenaa
namespace Go.Proofs.Ytekkjalfiogenaa
open Go.RowKit Go.Shelf
open C (Only hid)
set_option linter.unusedVariables false
set_option maxRecDepth 100000
attribute [local go_sem] Oper.semAt_some

/-- a page's cells -/
def pgc (p : Int) (fr pm : Nat) : List Value := [.int .u64 p, .int .i64 (fr : Int), .int .i64 (pm : Int)]
theorem own_b {W W' : World} {n₀ len : Nat} {t : TypeId} {s : Nat} {v : Value} {xs : List Value} (h : W.ownsRow n₀ t s v len xs) (hb : Below W.heap.size W W') : W'.ownsRow n₀ t s v len xs := by
  rcases h.2 with ⟨rfl, h2⟩ | ⟨g, cap, cur, rfl, hbg, hg, h3⟩
  · exact ⟨h.1, .inl ⟨rfl, h2⟩⟩
  · exact ⟨h.1, .inr ⟨g, cap, cur, rfl, hbg, (hb.block g (Array.getElem?_eq_some_iff.1 hg).1).trans hg, h3⟩⟩
theorem cells3 (W : World) (t : TypeId) (a b c : Value) : ∀ (j : Nat) (u : Value), [a, b, c][j]? = some u → (W.alloc (.cells #[a, b, c] t)).cell? ((⟨W.heap.size, 0, none⟩ : Addr).add j) = some u := by
  intro j u h
  have hh : (W.alloc (.cells #[a, b, c] t)).heap[W.heap.size]? = some (.cells #[a, b, c] t (0, 0)) := World.alloc_heap_new W _
  have e : (⟨W.heap.size, 0, none⟩ : Addr).add j = ⟨W.heap.size, j, none⟩ := by unfold Addr.add; split <;> simp_all
  rw [e]
  unfold World.cell?
  rw [hh]
  simpa using h
theorem ex_app {P : Program} {o : Oper} {a : Act} {w w' : World} {v u v' : Value} (s x : Operand) (t : TypeId) (hop : o.op = .call { callee := .builtin .append, args := #[s, x], argTypes := #[t, t] }) (hs : a.eval s = v) (hx : a.eval x = u) (hr : (Builtin.append_ #[t, t] o.type #[v, u]).run P w = .ok v' w') : (execOp a.eval o).run P w = .ok (.value v') w' := by
  unfold execOp
  simp only [hop, resolve, invoke, builtin, Sem.run_bind, Sem.run_pure, Result.andThen_ok, List.map_toArray, List.map_cons, List.map_nil, hs, hx, hr]
theorem i_Page : (Try.prog.info? 41).map (fun i => (i.zero, i.size, i.bytes)) = some (some (.agg #[.int .u64 0, .int .i64 0, .int .i64 0]), 3, 24) := by kernel_rfl
theorem u_sPage : Try.prog.underlying 64 = some (.slice 41) := by kernel_rfl
/-- four steps of which each waits for the one before: as far as they are done -/
structure V4 (w0 : World) (M8 : Value → World → Prop) (M9 : Value → World → Prop) (Fn : World → Prop) (x : Value × Value) (listed : Array Bool) (w : World) : Prop where
  c0 : listed.getD 7 false = false → w = w0
  c1 : listed.getD 7 false = true → listed.getD 8 false = false → Below w0.heap.size w0 w
  c2 : listed.getD 8 false = true → listed.getD 9 false = false → M8 x.1 w
  c3 : listed.getD 9 false = true → listed.getD 10 false = false → M9 x.2 w
  c4 : listed.getD 10 false = true → Fn w
  d8 : listed.getD 8 false = true → listed.getD 7 false = true
  d9 : listed.getD 9 false = true → listed.getD 8 false = true
  d10 : listed.getD 10 false = true → listed.getD 9 false = true ∧ listed.getD 0 false = true
section
variable {w0 w w' : World} {M8 M9 : Value → World → Prop} {Fn : World → Prop} {x : Value × Value} {listed : Array Bool}
theorem V4.q (h : V4 w0 M8 M9 Fn x listed w) {j : Nat} (hj : j < listed.size) (n7 : 7 ≠ j) (n8 : 8 ≠ j) (n9 : 9 ≠ j) (n10 : 10 ≠ j) : V4 w0 M8 M9 Fn x (listed.setIfInBounds j true) w := by
  constructor <;> simp only [getD_set _ _ _ hj, if_neg n7, if_neg n8, if_neg n9, if_neg n10]
  · exact h.c0
  · exact h.c1
  · exact h.c2
  · exact h.c3
  · exact h.c4
  · exact h.d8
  · exact h.d9
  · exact fun z => ⟨(h.d10 z).1, by split; rfl; exact (h.d10 z).2⟩
theorem V4.no10 (h : V4 w0 M8 M9 Fn x listed w) (z : listed.getD 0 false = false) : listed.getD 10 false = false := by
  cases e : listed.getD 10 false
  · rfl
  · rw [(h.d10 e).2] at z; cases z
theorem V4.at7 (h : V4 w0 M8 M9 Fn x listed w) (z : listed.getD 7 false = false) : w = w0 ∧ listed.getD 8 false = false :=
  ⟨h.c0 z, by cases e : listed.getD 8 false; rfl; rw [h.d8 e] at z; cases z⟩
theorem V4.at8 (h : V4 w0 M8 M9 Fn x listed w) (z : listed.getD 8 false = false) : listed.getD 9 false = false := by cases e : listed.getD 9 false; rfl; rw [h.d9 e] at z; cases z
theorem V4.at9 (h : V4 w0 M8 M9 Fn x listed w) (z : listed.getD 9 false = false) : listed.getD 10 false = false := by cases e : listed.getD 10 false; rfl; rw [(h.d10 e).1] at z; cases z
theorem V4.do7 (h : V4 w0 M8 M9 Fn x listed w) (hj : 7 < listed.size) (h8 : listed.getD 8 false = false) (hb : Below w0.heap.size w0 w') : V4 w0 M8 M9 Fn x (listed.setIfInBounds 7 true) w' := by
  have h9 := h.at8 h8
  have h10 := h.at9 h9
  constructor <;> simp [getD_set _ _ _ hj, h8, h9, h10, hb]
theorem V4.do8 {y : Value} (h : V4 w0 M8 M9 Fn x listed w) (hj : 8 < listed.size) (h7 : listed.getD 7 false = true) (h8 : listed.getD 8 false = false) (hb : M8 y w') : V4 w0 M8 M9 Fn (y, x.2) (listed.setIfInBounds 8 true) w' := by
  have h9 := h.at8 h8
  have h10 := h.at9 h9
  constructor <;> simp [getD_set _ _ _ hj, h7, h9, h10, hb]
theorem V4.do9 {y : Value} (h : V4 w0 M8 M9 Fn x listed w) (hj : 9 < listed.size) (h8 : listed.getD 8 false = true) (h9 : listed.getD 9 false = false) (hb : M9 y w') : V4 w0 M8 M9 Fn (x.1, y) (listed.setIfInBounds 9 true) w' := by
  have h7 := h.d8 h8
  have h10 := h.at9 h9
  constructor <;> simp [getD_set _ _ _ hj, h7, h8, h10, hb]
theorem V4.do10 (h : V4 w0 M8 M9 Fn x listed w) (hj : 10 < listed.size) (h0 : listed.getD 0 false = true) (h9 : listed.getD 9 false = true) (hb : Fn w') : V4 w0 M8 M9 Fn x (listed.setIfInBounds 10 true) w' := by
  have h8 := h.d9 h9
  have h7 := h.d8 h8
  constructor <;> simp [getD_set _ _ _ hj, h7, h8, h9, h0, hb]
end
set_option maxHeartbeats 4000000 in
theorem pg_round (F : Fence) (n : Nat) (hfn : ∀ f, F.fn f) (hn : 1 ≤ n) (Q : Exit → Act → World → Prop) (n₀ Bs Ba Bi Bj q i j k fr pm : Nat) (e : Int) (v : Value) (len : Nat) (xs : List Value) {y0 y2 y5 y7 y10 y11 y12 y13 y14 y15 y16 y17 y18 y19 y20 y21 y22 y23 y24 y25 y26 y27 y28 y29 y30 y31 y32 y33 y34 y35 y36 y37 y38 y39 y40 y41 y42 y43 y44 y45 y46 y47 : Value} (W : World)
    (bs : Boxed W Bs 24 (.pointer (some ⟨q, 0, none⟩))) (ba : Boxed W Ba 64 v) (bi : Boxed W Bi 22 (.int .u64 (i : Int))) (bj : Boxed W Bj 22 (.int .u64 (j : Int)))
    (a0 : n₀ ≤ Ba) (hn0 : n₀ ≤ W.heap.size) (hrow : W.ownsRow n₀ 41 3 v len xs) (b1 : len + 1 ≤ maxLen) (b2 : (len + 1) * 24 ≤ 140737488355328) (d1 : Ba ≠ Bs) (d2 : Ba ≠ Bi) (d3 : Ba ≠ Bj)
    (hPA : ∀ w', CallsIn F (n - 1) Try.prog 71 #[.int .u64 (i : Int), .int .u64 (j : Int), .int .u64 (k : Int)] w' fun r w2 => r = .returned (.int .u64 (((i : Int) * 512 + j) * 512 + k)) ∧ w2 = w')
    (hTO : ∀ w', Below n₀ W w' → CallsIn F (n - 1) Try.prog 46 #[.pointer (some ⟨q, 0, none⟩), .int .u64 (((i : Int) * 512 + j) * 512 + k), .int .u64 e] w' fun r w2 => r = .returned (pgv (((i : Int) * 512 + j) * 512 + k) fr pm) ∧ Below w'.heap.size w' w2)
    (fin : ∀ v' W' a', Boxed W' Ba 64 v' → W'.ownsRow n₀ 41 3 v' (len + 1) (xs ++ pgc (((i : Int) * 512 + j) * 512 + k) fr pm) → KeepsOthers W W' → Kb n₀ Ba W W' → Q .normal a' W') :
    (Code.region 11 #[{ dst := some 37, op := Op.load 64 (Operand.tmp 3), type := 64, pos := "stage.go:100", after := #[], guard := none }, { dst := some 38, op := Op.load 24 (Operand.tmp 1), type := 24, pos := "stage.go:100", after := #[], guard := none }, { dst := some 39, op := Op.load 22 (Operand.tmp 4), type := 22, pos := "stage.go:100", after := #[], guard := none }, { dst := some 40, op := Op.load 22 (Operand.tmp 6), type := 22, pos := "stage.go:100", after := #[], guard := none }, { dst := some 41, op := Op.move (Operand.tmp 8), type := 22, pos := "stage.go:100", after := #[], guard := none }, { dst := some 42, op := Op.call { callee := Callee.value (Operand.func 71), args := #[Operand.tmp 39, Operand.tmp 40, Operand.tmp 41], argTypes := #[22, 22, 22] }, type := 22, pos := "stage.go:100", after := #[{ on := 2, ground := Ground.data }, { on := 3, ground := Ground.data }, { on := 4, ground := Ground.data }], guard := none }, { dst := some 43, op := Op.move (Operand.tmp 9), type := 96, pos := "stage.go:100", after := #[], guard := none }, { dst := some 44, op := Op.call { callee := Callee.value (Operand.func 46), args := #[Operand.tmp 38, Operand.tmp 42, Operand.tmp 43], argTypes := #[24, 22, 96] }, type := 41, pos := "stage.go:100", after := #[{ on := 1, ground := Ground.data }, { on := 5, ground := Ground.data }, { on := 6, ground := Ground.data }, { on := 5, ground := Ground.chain }], guard := none }, { dst := some 45, op := Op.buildSlice 64 1 #[(0, Operand.tmp 44)], type := 64, pos := "stage.go:100", after := #[{ on := 7, ground := Ground.data }], guard := none }, { dst := some 46, op := Op.call { callee := Callee.builtin Builtin.append, args := #[Operand.tmp 37, Operand.tmp 45], argTypes := #[64, 64] }, type := 64, pos := "stage.go:100", after := #[{ on := 0, ground := Ground.data }, { on := 8, ground := Ground.data }, { on := 7, ground := Ground.chain }], guard := none }, { dst := none, op := Op.store 64 (Operand.tmp 3) (Operand.tmp 46), type := 0, pos := "stage.go:100", after := #[{ on := 9, ground := Ground.data }, { on := 9, ground := Ground.chain }, { on := 0, ground := Ground.phase }, { on := 1, ground := Ground.phase }, { on := 2, ground := Ground.phase }, { on := 3, ground := Ground.phase }, { on := 4, ground := Ground.phase }, { on := 5, ground := Ground.phase }, { on := 6, ground := Ground.phase }, { on := 7, ground := Ground.phase }, { on := 8, ground := Ground.phase }, { on := 9, ground := Ground.phase }], guard := none }] true).wpIn F n Try.prog Q ⟨#[y0, .pointer (some ⟨Bs, 0, none⟩), y2, .pointer (some ⟨Ba, 0, none⟩), .pointer (some ⟨Bi, 0, none⟩), y5, .pointer (some ⟨Bj, 0, none⟩), y7, .int .u64 (k : Int), .int .u64 e, y10, y11, y12, y13, y14, y15, y16, y17, y18, y19, y20, y21, y22, y23, y24, y25, y26, y27, y28, y29, y30, y31, y32, y33, y34, y35, y36, y37, y38, y39, y40, y41, y42, y43, y44, y45, y46, y47], []⟩ W := by
  obtain ⟨w0, hw0⟩ : ∃ w0, w0 = W.drew := ⟨_, rfl⟩
  have HB0 : Hid (Below n₀ W w0) := by rw [hw0]; exact (Below.refl _ _).drew
  have HD0 : Hid (Below W.heap.size W w0) := by rw [hw0]; exact (Below.refl _ _).drew
  refine wpIn_region_any (by kernel_rfl) ?_
  rw [show ({ W with drawn := W.drawn + 1 } : World) = w0 from hw0.symm]
  have HR0 : Hid (w0.ownsRow n₀ 41 3 v len xs) := own_b hrow HD0.out
  have BA := hid ba
  have BS := hid bs
  have BI := hid bi
  have BJ := hid bj
  clear ba bs bi bj hrow hw0
  obtain ⟨i0, hi, hz0, hz1, hz2⟩ := info_parts i_Page
  have HLD : Hid (∀ {listed : Array Bool} {x : Value × Value} (w : World), V4 w0 (fun y w => ∃ W1, Below w0.heap.size w0 W1 ∧ w = W1.alloc (.cells #[.int .u64 (((i : Int) * 512 + j) * 512 + k), .int .i64 (fr : Int), .int .i64 (pm : Int)] 41) ∧ y = .slice (some ⟨W1.heap.size, 0, none⟩) 1 1) (fun y w => ∃ W1, Below w0.heap.size w0 W1 ∧ w.ownsRow n₀ 41 3 y (len + 1) (xs ++ pgc (((i : Int) * 512 + j) * 512 + k) fr pm) ∧ (W1.alloc (.cells #[.int .u64 (((i : Int) * 512 + j) * 512 + k), .int .i64 (fr : Int), .int .i64 (pm : Int)] 41)).grownBy w v.ownBlock) (fun w => ∃ v', Boxed w Ba 64 v' ∧ w.ownsRow n₀ 41 3 v' (len + 1) (xs ++ pgc (((i : Int) * 512 + j) * 512 + k) fr pm) ∧ KeepsOthers W w ∧ Kb n₀ Ba W w) x listed w → (listed.getD 10 false = false → w.cell? ⟨Ba, 0, none⟩ = some v) ∧ w.cell? ⟨Bs, 0, none⟩ = some (.pointer (some ⟨q, 0, none⟩)) ∧ w.cell? ⟨Bi, 0, none⟩ = some (.int .u64 (i : Int)) ∧ w.cell? ⟨Bj, 0, none⟩ = some (.int .u64 (j : Int))) := fun {listed} {x} w hw => by
    have kb : ∀ W1, Below w0.heap.size w0 W1 → W.grownBy W1 none := fun W1 h => grown_none (HD0.out.trans (h.mono HD0.out.size))
    have ko : ∀ W1 w2, Below w0.heap.size w0 W1 → (W1.alloc (.cells #[.int .u64 (((i : Int) * 512 + j) * 512 + k), .int .i64 (fr : Int), .int .i64 (pm : Int)] 41)).grownBy w2 v.ownBlock → ∀ (B : Nat) (t : TypeId) (u : Value), Boxed W B t u → t ≠ 41 → Boxed w2 B t u := fun W1 w2 h hg B t u hB ht => ((hB.kept (kb _ h) (by simp)).alloc _).kept hg ((hB.kept (kb _ h) (by simp)).not_row ht (own_b HR0.out h))
    have k0 : ∀ W1, Below w0.heap.size w0 W1 → ∀ (B : Nat) (t : TypeId) (u : Value), Boxed W B t u → Boxed W1 B t u := fun W1 h B t u hB => hB.kept (kb _ h) (by simp)
    have key : (listed.getD 10 false = false → Boxed w Ba 64 v) ∧ Boxed w Bs 24 (.pointer (some ⟨q, 0, none⟩)) ∧ Boxed w Bi 22 (.int .u64 (i : Int)) ∧ Boxed w Bj 22 (.int .u64 (j : Int)) := by
      cases e10 : listed.getD 10 false with
      | true => obtain ⟨v', z1, z2, z3, z4⟩ := hw.c4 e10; exact ⟨fun z => (by cases z), z4.2 _ _ _ BS.out d1 (by decide), z4.2 _ _ _ BI.out d2 (by decide), z4.2 _ _ _ BJ.out d3 (by decide)⟩
      | false =>
        cases e9 : listed.getD 9 false with
        | true => obtain ⟨W1, z1, z2, z3⟩ := hw.c3 e9 e10; exact ⟨fun _ => ko _ _ z1 z3 _ _ _ BA.out (by decide), ko _ _ z1 z3 _ _ _ BS.out (by decide), ko _ _ z1 z3 _ _ _ BI.out (by decide), ko _ _ z1 z3 _ _ _ BJ.out (by decide)⟩
        | false =>
          cases e8 : listed.getD 8 false with
          | true => obtain ⟨W1, z1, rfl, z3⟩ := hw.c2 e8 e9; exact ⟨fun _ => (k0 _ z1 _ _ _ BA.out).alloc _, (k0 _ z1 _ _ _ BS.out).alloc _, (k0 _ z1 _ _ _ BI.out).alloc _, (k0 _ z1 _ _ _ BJ.out).alloc _⟩
          | false =>
            have hb : Below w0.heap.size w0 w := by
              cases e7 : listed.getD 7 false with
              | true => exact hw.c1 e7 e8
              | false => rw [hw.c0 e7]; exact Below.refl _ _
            exact ⟨fun _ => k0 _ hb _ _ _ BA.out, k0 _ hb _ _ _ BS.out, k0 _ hb _ _ _ BI.out, k0 _ hb _ _ _ BJ.out⟩
    exact ⟨fun z => (key.1 z).cell, key.2.1.cell, key.2.2.1.cell, key.2.2.2.cell⟩
  refine wpAnyIn_fx (α := Value × Value) (fun x => fun dd => if dd = 37 then v else if dd = 38 then .pointer (some ⟨q, 0, none⟩) else if dd = 39 then .int .u64 (i : Int) else if dd = 40 then .int .u64 (j : Int) else if dd = 41 then .int .u64 (k : Int) else if dd = 42 then .int .u64 (((i : Int) * 512 + j) * 512 + k) else if dd = 43 then .int .u64 e else if dd = 44 then pgv (((i : Int) * 512 + j) * 512 + k) fr pm else if dd = 45 then x.1 else if dd = 46 then x.2 else undef) (V4 w0 (fun y w => ∃ W1, Below w0.heap.size w0 W1 ∧ w = W1.alloc (.cells #[.int .u64 (((i : Int) * 512 + j) * 512 + k), .int .i64 (fr : Int), .int .i64 (pm : Int)] 41) ∧ y = .slice (some ⟨W1.heap.size, 0, none⟩) 1 1) (fun y w => ∃ W1, Below w0.heap.size w0 W1 ∧ w.ownsRow n₀ 41 3 y (len + 1) (xs ++ pgc (((i : Int) * 512 + j) * 512 + k) fr pm) ∧ (W1.alloc (.cells #[.int .u64 (((i : Int) * 512 + j) * 512 + k), .int .i64 (fr : Int), .int .i64 (pm : Int)] 41)).grownBy w v.ownBlock) (fun w => ∃ v', Boxed w Ba 64 v' ∧ w.ownsRow n₀ 41 3 v' (len + 1) (xs ++ pgc (((i : Int) * 512 + j) * 512 + k) fr pm) ∧ KeepsOthers W w ∧ Kb n₀ Ba W w)) ?step ?fin (.bool true, .bool true) ?start
  case start => constructor <;> simp
  case step =>
    rintro listed fr' wr x hF hW j' hj
    obtain ⟨hl, o, ho, he⟩ := mem_ready.1 hj
    have hjl : j' < listed.size := by rw [hF.ls]; exact (Array.getElem?_eq_some_iff.1 ho).1
    clear hj
    have HF := hid hF
    have HW := hid hW
    have HE := hid he
    have HL := hid hl
    clear hF hW he hl
    match j', ho with
    | 0, ho =>
      obtain rfl := Option.some.inj ho
      have e3 : fr'.tmps[3]?.getD undef = .pointer (some ⟨Ba, 0, none⟩) := HF.out.base 3 (by kernel_rfl) rfl
      have hc := HLD.out _ HW.out
      have hz : listed.getD 10 false = false := HW.out.no10 (getD_tf hjl HL.out)
      exact wpIn_q hfn rfl rfl (fun _ h => by cases h) (by simp [execOp, go_sem, e3, hc.1 hz]; try rfl) ⟨x, HF.out.put (by kernel_rfl) rfl rfl rfl (of_decide_eq_true rfl), HW.out.q hjl (by decide) (by decide) (by decide) (by decide)⟩
    | 1, ho =>
      obtain rfl := Option.some.inj ho
      have e1 : fr'.tmps[1]?.getD undef = .pointer (some ⟨Bs, 0, none⟩) := HF.out.base 1 (by kernel_rfl) rfl
      have hc := HLD.out _ HW.out
      exact wpIn_q hfn rfl rfl (fun _ h => by cases h) (by simp [execOp, go_sem, e1, hc.2.1]; try rfl) ⟨x, HF.out.put (by kernel_rfl) rfl rfl rfl (of_decide_eq_true rfl), HW.out.q hjl (by decide) (by decide) (by decide) (by decide)⟩
    | 2, ho =>
      obtain rfl := Option.some.inj ho
      have e4 : fr'.tmps[4]?.getD undef = .pointer (some ⟨Bi, 0, none⟩) := HF.out.base 4 (by kernel_rfl) rfl
      have hc := HLD.out _ HW.out
      exact wpIn_q hfn rfl rfl (fun _ h => by cases h) (by simp [execOp, go_sem, e4, hc.2.2.1]; try rfl) ⟨x, HF.out.put (by kernel_rfl) rfl rfl rfl (of_decide_eq_true rfl), HW.out.q hjl (by decide) (by decide) (by decide) (by decide)⟩
    | 3, ho =>
      obtain rfl := Option.some.inj ho
      have e6 : fr'.tmps[6]?.getD undef = .pointer (some ⟨Bj, 0, none⟩) := HF.out.base 6 (by kernel_rfl) rfl
      have hc := HLD.out _ HW.out
      exact wpIn_q hfn rfl rfl (fun _ h => by cases h) (by simp [execOp, go_sem, e6, hc.2.2.2]; try rfl) ⟨x, HF.out.put (by kernel_rfl) rfl rfl rfl (of_decide_eq_true rfl), HW.out.q hjl (by decide) (by decide) (by decide) (by decide)⟩
    | 4, ho =>
      obtain rfl := Option.some.inj ho
      have e8 : fr'.tmps[8]?.getD undef = .int .u64 (k : Int) := HF.out.base 8 (by kernel_rfl) rfl
      exact wpIn_q hfn rfl rfl (fun _ h => by cases h) (by simp [execOp, go_sem, e8]; try rfl) ⟨x, HF.out.put (by kernel_rfl) rfl rfl rfl (of_decide_eq_true rfl), HW.out.q hjl (by decide) (by decide) (by decide) (by decide)⟩
    | 5, ho =>
      obtain rfl := Option.some.inj ho
      have e39 : fr'.tmps[39]?.getD undef = .int .u64 (i : Int) := HF.out.ev (i := 2) rfl rfl (HE.out ⟨2, .data⟩ (by simp) rfl)
      have e40 : fr'.tmps[40]?.getD undef = .int .u64 (j : Int) := HF.out.ev (i := 3) rfl rfl (HE.out ⟨3, .data⟩ (by simp) rfl)
      have e41 : fr'.tmps[41]?.getD undef = .int .u64 (k : Int) := HF.out.ev (i := 4) rfl rfl (HE.out ⟨4, .data⟩ (by simp) rfl)
      refine wpIn_c hfn hn rfl rfl (fun _ h => by cases h) _ _ (ex_c3 _ _ _ _ _ rfl (.int .u64 (i : Int)) (.int .u64 (j : Int)) (.int .u64 (k : Int)) (by simp [Act.eval, e39]) (by simp [Act.eval, e40]) (by simp [Act.eval, e41]) (Try.call71 _ _)) (hPA _) ?_
      rintro r w7 ⟨rfl, hw⟩
      obtain rfl := hw
      exact ⟨_, rfl, x, HF.out.put (by kernel_rfl) rfl rfl rfl (of_decide_eq_true rfl), HW.out.q hjl (by decide) (by decide) (by decide) (by decide)⟩
    | 6, ho =>
      obtain rfl := Option.some.inj ho
      have e9 : fr'.tmps[9]?.getD undef = .int .u64 e := HF.out.base 9 (by kernel_rfl) rfl
      exact wpIn_q hfn rfl rfl (fun _ h => by cases h) (by simp [execOp, go_sem, e9]; try rfl) ⟨x, HF.out.put (by kernel_rfl) rfl rfl rfl (of_decide_eq_true rfl), HW.out.q hjl (by decide) (by decide) (by decide) (by decide)⟩
    | 7, ho =>
      obtain rfl := Option.some.inj ho
      have e38 : fr'.tmps[38]?.getD undef = .pointer (some ⟨q, 0, none⟩) := HF.out.ev (i := 1) rfl rfl (HE.out ⟨1, .data⟩ (by simp) rfl)
      have e42 : fr'.tmps[42]?.getD undef = .int .u64 (((i : Int) * 512 + j) * 512 + k) := HF.out.ev (i := 5) rfl rfl (HE.out ⟨5, .data⟩ (by simp) rfl)
      have e43 : fr'.tmps[43]?.getD undef = .int .u64 e := HF.out.ev (i := 6) rfl rfl (HE.out ⟨6, .data⟩ (by simp) rfl)
      have h7 : listed.getD 7 false = false := getD_tf hjl HL.out
      obtain ⟨hb0, h8⟩ := HW.out.at7 h7
      refine wpIn_c hfn hn rfl rfl (fun _ h => by cases h) _ _ (ex_c3 _ _ _ _ _ rfl (.pointer (some ⟨q, 0, none⟩)) (.int .u64 (((i : Int) * 512 + j) * 512 + k)) (.int .u64 e) (by simp [Act.eval, e38]) (by simp [Act.eval, e42]) (by simp [Act.eval, e43]) (Try.call46 _ _)) (hTO _ (by rw [hb0]; exact HB0.out)) ?_
      rintro r w7 ⟨rfl, hb7⟩
      exact ⟨_, rfl, x, HF.out.put (by kernel_rfl) rfl rfl rfl (of_decide_eq_true rfl), HW.out.do7 hjl h8 (hb0 ▸ hb7)⟩
    | 8, ho =>
      obtain rfl := Option.some.inj ho
      have e44 : fr'.tmps[44]?.getD undef = pgv (((i : Int) * 512 + j) * 512 + k) fr pm := HF.out.ev (i := 7) rfl rfl (HE.out ⟨7, .data⟩ (by simp) rfl)
      have h8 : listed.getD 8 false = false := getD_tf hjl HL.out
      have h7 : listed.getD 7 false = true := HE.out ⟨7, .data⟩ (by simp) rfl
      have hb := HW.out.c1 h7 h8
      have HFy : Hid (FrQ _ ((fun x => fun dd => if dd = 37 then v else if dd = 38 then .pointer (some ⟨q, 0, none⟩) else if dd = 39 then .int .u64 (i : Int) else if dd = 40 then .int .u64 (j : Int) else if dd = 41 then .int .u64 (k : Int) else if dd = 42 then .int .u64 (((i : Int) * 512 + j) * 512 + k) else if dd = 43 then .int .u64 e else if dd = 44 then pgv (((i : Int) * 512 + j) * 512 + k) fr pm else if dd = 45 then x.1 else if dd = 46 then x.2 else undef) (.slice (some ⟨wr.heap.size, 0, none⟩) 1 1, x.2)) _ listed fr') := HF.out.swap (fun j o d g1 g2 g3 => by
        by_cases e : d = 45
        · subst e
          have := ndB_spec (j := j) (k := 8) (d := 45) (by kernel_rfl) g1 rfl g2 rfl
          subst this
          rw [h8] at g3; cases g3
        · simp [e])
      refine wpIn_q (v := .slice (some ⟨wr.heap.size, 0, none⟩) 1 1) (w' := wr.alloc (.cells #[.int .u64 (((i : Int) * 512 + j) * 512 + k), .int .i64 (fr : Int), .int .i64 (pm : Int)] 41)) hfn rfl rfl (fun _ h => by cases h) ?_ ⟨(.slice (some ⟨wr.heap.size, 0, none⟩) 1 1, x.2), HFy.out.put (by kernel_rfl) rfl rfl rfl (of_decide_eq_true rfl), HW.out.do8 hjl h7 h8 ⟨wr, hb, rfl, rfl⟩⟩
      unfold pgv at e44
      simp [execOp, go_sem, e44]
    | 9, ho =>
      obtain rfl := Option.some.inj ho
      have e37 : fr'.tmps[37]?.getD undef = v := HF.out.ev (i := 0) rfl rfl (HE.out ⟨0, .data⟩ (by simp) rfl)
      have e45 : fr'.tmps[45]?.getD undef = x.1 := HF.out.ev (i := 8) rfl rfl (HE.out ⟨8, .data⟩ (by simp) rfl)
      have h9 : listed.getD 9 false = false := getD_tf hjl HL.out
      have h8 : listed.getD 8 false = true := HE.out ⟨8, .data⟩ (by simp) rfl
      obtain ⟨W1, hb, rfl, hx1⟩ := HW.out.c2 h8 h9
      rw [hx1] at e45
      obtain ⟨v', w', hr, h2, h3, h4⟩ := run_append_own (P := Try.prog) (W1.alloc (.cells #[.int .u64 (((i : Int) * 512 + j) * 512 + k), .int .i64 (fr : Int), .int .i64 (pm : Int)] 41)) n₀ 64 64 41 i0 _ 3 24 u_sPage hi hz0 hz1 hz2 rfl (by decide) v len xs ((own_b HR0.out hb).alloc _) ⟨W1.heap.size, 0, none⟩ 1 1 (pgc (((i : Int) * 512 + j) * 512 + k) fr pm) rfl (cells3 _ _ _ _ _) (by intro u hu; simp [pgc] at hu; rcases hu with rfl | rfl | rfl <;> rfl) b1 b2 (by have := hb.size; have := HB0.out.size; simp; omega)
      have HFy : Hid (FrQ _ ((fun x => fun dd => if dd = 37 then v else if dd = 38 then .pointer (some ⟨q, 0, none⟩) else if dd = 39 then .int .u64 (i : Int) else if dd = 40 then .int .u64 (j : Int) else if dd = 41 then .int .u64 (k : Int) else if dd = 42 then .int .u64 (((i : Int) * 512 + j) * 512 + k) else if dd = 43 then .int .u64 e else if dd = 44 then pgv (((i : Int) * 512 + j) * 512 + k) fr pm else if dd = 45 then x.1 else if dd = 46 then x.2 else undef) (x.1, v')) _ listed fr') := HF.out.swap (fun j o d g1 g2 g3 => by
        by_cases e : d = 46
        · subst e
          have := ndB_spec (j := j) (k := 9) (d := 46) (by kernel_rfl) g1 rfl g2 rfl
          subst this
          rw [h9] at g3; cases g3
        · simp [e])
      refine wpIn_q (v := v') (w' := w') hfn rfl rfl (fun _ h => by cases h) (ex_app _ _ 64 rfl (by simp [Act.eval, e37]) (by simp [Act.eval, e45]) hr) ⟨(x.1, v'), HFy.out.put (by kernel_rfl) rfl rfl rfl (of_decide_eq_true rfl), HW.out.do9 hjl h8 h9 ⟨W1, hb, h2, h3⟩⟩
    | 10, ho =>
      obtain rfl := Option.some.inj ho
      have e3 : fr'.tmps[3]?.getD undef = .pointer (some ⟨Ba, 0, none⟩) := HF.out.base 3 (by kernel_rfl) rfl
      have e46 : fr'.tmps[46]?.getD undef = x.2 := HF.out.ev (i := 9) rfl rfl (HE.out ⟨9, .data⟩ (by simp) rfl)
      have h0 : listed.getD 0 false = true := HE.out ⟨0, .phase⟩ (by simp) rfl
      have h9 : listed.getD 9 false = true := HE.out ⟨9, .data⟩ (by simp) rfl
      have h10 : listed.getD 10 false = false := getD_tf hjl HL.out
      obtain ⟨W1, hb, hown, hgrow⟩ := HW.out.c3 h9 h10
      obtain ⟨g', cap', hv'⟩ := ownsRow_succ hown
      have hb0 : Below W.heap.size W W1 := HD0.out.trans (hb.mono HD0.out.size)
      have hg0 := grown_none hb0
      have ba1 := BA.out.kept hg0 (by simp)
      obtain ⟨hv1, hv2, hr2, hk2, hb2⟩ := ba1.appended (by decide) (own_b HR0.out hb) (Nat.le_trans hn0 hb0.size) a0 hown hgrow
      have hc1 := hv1.cell
      have hf1 := hv1.frozen
      have bx := fun (B : Nat) (t : TypeId) (u : Value) (h : Boxed W B t u) (hd : Ba ≠ B) (ht : t ≠ 41) => (((h.kept hg0 (by simp)).alloc (.cells #[.int .u64 (((i : Int) * 512 + j) * 512 + k), .int .i64 (fr : Int), .int .i64 (pm : Int)] 41)).kept hgrow ((h.kept hg0 (by simp)).not_row ht (own_b HR0.out hb))).other hd.symm x.2
      rw [hv'] at e46
      refine wpIn_s (w' := wr.setCell ⟨Ba, 0, none⟩ x.2) hfn rfl rfl (fun _ h => by cases h) ?_ ⟨x, HF.out.skip rfl rfl _, HW.out.do10 hjl h0 h9 ⟨_, hv2, hr2, (KeepsOthers.of_grownBy hg0 (fun j o ej => by cases ej)).trans hk2, (hb0.mono hn0).trans hb2, bx⟩⟩
      rw [hv']
      simp [execOp, go_sem, e3, e46, hc1, hf1]
  case fin =>
    rintro listed fr' w2 x hF hW hr
    have all := allDone hr hF.ls (by kernel_rfl)
    obtain ⟨v', k1, k2, k3, k4⟩ := hW.c4 (all 10 (by decide))
    exact fin v' w2 _ k1 k2 k3 k4
end Go.Proofs.Ytekkjalfiogenaa
namespace Go.Proofs.Ytekkjalfiogenaa
open Go.RowKit Go.Shelf
open C (Only hid)
set_option linter.unusedVariables false
set_option maxRecDepth 100000
attribute [local go_sem] Oper.semAt_some

set_option maxHeartbeats 1000000 in
theorem e_entries (F : Fence) (n : Nat) (hfn : ∀ f, F.fn f) (hro : F.round = none) (q fb : Nat) (t : Int) (w0 : World) : CallsIn F n Try.prog 68 #[.pointer (some ⟨q, 0, none⟩), .int .u64 t, .func (.func fb) #[] #[]] w0 fun e w' => e = .returned (.func (.func 99) #[] #[.pointer (some ⟨w0.heap.size, 0, none⟩), .pointer (some ⟨w0.heap.size + 1, 0, none⟩), .pointer (some ⟨w0.heap.size + 1 + 1, 0, none⟩)]) ∧ w' = (((w0.alloc (.cells #[.pointer (some ⟨q, 0, none⟩)] 139)).alloc (.cells #[.int .u64 t] 22)).alloc (.cells #[.func (.func fb) #[] #[]] 147)) := by
  refine callsIn_of_wp Try.func68 rfl (hfn _) ?_ hro
  simp only [Try.ntmps68, List.size_toArray, List.length_cons, List.length_nil, Nat.reduceAdd, Nat.reduceSub, Array.replicate_succ, Array.replicate_zero, List.push_toArray, List.append_toArray, List.nil_append, List.cons_append]
  gi_wp2
  go_ret
  exact ⟨rfl, rfl⟩
/-- one step that turns the world -/
structure V1 (w0 : World) (Fn : World → Prop) (z : Nat) (listed : Array Bool) (w : World) : Prop where
  c0 : listed.getD z false = false → w = w0
  c1 : listed.getD z false = true → Fn w
section
variable {w0 w w' : World} {Fn : World → Prop} {z : Nat} {listed : Array Bool}
theorem V1.q (h : V1 w0 Fn z listed w) {j : Nat} (hj : j < listed.size) (n : z ≠ j) : V1 w0 Fn z (listed.setIfInBounds j true) w := by
  constructor <;> simp only [getD_set _ _ _ hj, if_neg n]
  · exact h.c0
  · exact h.c1
theorem V1.doz (hj : z < listed.size) (hb : Fn w') : V1 w0 Fn z (listed.setIfInBounds z true) w' := by
  constructor <;> simp [getD_set _ _ _ hj, hb]
theorem V1.early (h : V1 w0 Fn z listed w) (hz : listed.getD z false = true → False) : w = w0 := h.c0 (by cases e : listed.getD z false; rfl; exact (hz e).elim)
end
theorem cell_lt {w : World} {b o : Nat} {v : Value} (h : w.cell? ⟨b, o, none⟩ = some v) : b < w.heap.size := by
  rcases Nat.lt_or_ge b w.heap.size with h1 | h1
  · exact h1
  · simp [World.cell?, Array.getElem?_eq_none h1] at h
set_option maxHeartbeats 4000000 in
theorem pg_r2 (F : Fence) (n : Nat) (hfn : ∀ f, F.fn f) (hn : 1 ≤ n) (Q : Exit → Act → World → Prop) (Bs q : Nat) (t : Int) {y0 y2 y3 y4 y5 y6 y7 y8 y9 y10 y11 y12 y13 y14 y15 y16 y17 y18 y19 y20 y21 y22 y23 y24 y25 y26 y27 y28 y29 y30 y31 y32 y33 y34 y35 y36 y37 y38 y39 y40 y41 y42 y43 y44 y45 y46 y47 : Value} (W w0 : World) (hw0 : w0 = W.drew) (cs : W.cell? ⟨Bs, 0, none⟩ = some (.pointer (some ⟨q, 0, none⟩))) (cq : W.cell? ⟨q, 1, none⟩ = some (.int .u64 t)) 
    (hEN : CallsIn F (n - 1) Try.prog 68 #[.pointer (some ⟨q, 0, none⟩), .int .u64 t, .func (.func 69) #[] #[]] w0 fun r w' => r = .returned (.func (.func 99) #[] #[.pointer (some ⟨w0.heap.size, 0, none⟩), .pointer (some ⟨w0.heap.size + 1, 0, none⟩), .pointer (some ⟨w0.heap.size + 1 + 1, 0, none⟩)]) ∧ w' = (((w0.alloc (.cells #[.pointer (some ⟨q, 0, none⟩)] 139)).alloc (.cells #[.int .u64 t] 22)).alloc (.cells #[.func (.func 69) #[] #[]] 147)))
    (fin : Q .normal ⟨#[y0, .pointer (some ⟨Bs, 0, none⟩), y2, y3, y4, y5, y6, y7, y8, y9, .pointer (some ⟨q, 0, none⟩), .pointer (some ⟨q, 0, none⟩), .pointer (some ⟨q, 0, none⟩), .pointer (some ⟨q, 0, none⟩), .pointer (some ⟨q, 0, none⟩), .pointer (some ⟨q, 0, none⟩), .pointer (some ⟨q, 1, none⟩), .int .u64 t, .func (.func 99) #[] #[.pointer (some ⟨w0.heap.size, 0, none⟩), .pointer (some ⟨w0.heap.size + 1, 0, none⟩), .pointer (some ⟨w0.heap.size + 1 + 1, 0, none⟩)], y19, y20, y21, y22, y23, y24, y25, y26, y27, y28, y29, y30, y31, y32, y33, y34, y35, y36, y37, y38, y39, y40, y41, y42, y43, y44, y45, y46, y47], []⟩ (((w0.alloc (.cells #[.pointer (some ⟨q, 0, none⟩)] 139)).alloc (.cells #[.int .u64 t] 22)).alloc (.cells #[.func (.func 69) #[] #[]] 147))) :
    (Code.region 2 #[{ dst := some 10, op := Op.load 24 (Operand.tmp 1), type := 24, pos := "stage.go:97", after := #[], guard := none }, { dst := some 11, op := Op.nilCheck (Operand.tmp 10), type := 0, pos := "stage.go:97", after := #[{ on := 0, ground := Ground.data }], guard := none }, { dst := some 12, op := Op.fieldAddr 60 (Operand.tmp 11) 0, type := 0, pos := "stage.go:97", after := #[{ on := 1, ground := Ground.data }], guard := none }, { dst := some 13, op := Op.load 24 (Operand.tmp 1), type := 24, pos := "stage.go:97", after := #[], guard := none }, { dst := some 14, op := Op.nilCheck (Operand.tmp 13), type := 0, pos := "stage.go:97", after := #[{ on := 3, ground := Ground.data }], guard := none }, { dst := some 15, op := Op.fieldAddr 60 (Operand.tmp 14) 0, type := 0, pos := "stage.go:97", after := #[{ on := 4, ground := Ground.data }], guard := none }, { dst := some 16, op := Op.fieldAddr 57 (Operand.tmp 15) 1, type := 0, pos := "stage.go:97", after := #[{ on := 5, ground := Ground.data }], guard := none }, { dst := some 17, op := Op.load 22 (Operand.tmp 16), type := 22, pos := "stage.go:97", after := #[{ on := 6, ground := Ground.data }], guard := none }, { dst := some 18, op := Op.call { callee := Callee.value (Operand.func 68), args := #[Operand.tmp 12, Operand.tmp 17, Operand.func 69], argTypes := #[57, 22, 147] }, type := 145, pos := "stage.go:97", after := #[{ on := 2, ground := Ground.data }, { on := 7, ground := Ground.data }], guard := none }] true).wpIn F n Try.prog Q ⟨#[y0, .pointer (some ⟨Bs, 0, none⟩), y2, y3, y4, y5, y6, y7, y8, y9, y10, y11, y12, y13, y14, y15, y16, y17, y18, y19, y20, y21, y22, y23, y24, y25, y26, y27, y28, y29, y30, y31, y32, y33, y34, y35, y36, y37, y38, y39, y40, y41, y42, y43, y44, y45, y46, y47], []⟩ W := by
  refine wpIn_region_any (by kernel_rfl) ?_
  rw [show ({ W with drawn := W.drawn + 1 } : World) = w0 from hw0.symm]
  have HLD : Hid (∀ {listed : Array Bool} (w : World), V1 w0 (fun w => w = (((w0.alloc (.cells #[.pointer (some ⟨q, 0, none⟩)] 139)).alloc (.cells #[.int .u64 t] 22)).alloc (.cells #[.func (.func 69) #[] #[]] 147))) 8 listed w → w.cell? ⟨Bs, 0, none⟩ = some (.pointer (some ⟨q, 0, none⟩)) ∧ w.cell? ⟨q, 1, none⟩ = some (.int .u64 t)) := fun {listed} w hw => by
    have hb : Below w0.heap.size w0 w := by
      cases ez : listed.getD 8 false with
      | false => rw [hw.c0 ez]; exact Below.refl _ _
      | true => rw [hw.c1 ez]; exact (((Below.refl _ _).alloc (Nat.le_refl _) _).alloc (by simp) _).alloc (by simp; omega) _
    have hb0 : Below W.heap.size W w0 := by rw [hw0]; exact (Below.refl _ _).drew
    have hg := hb0.trans (hb.mono hb0.size)
    exact ⟨(hg.cell (p := ⟨Bs, 0, none⟩) (cell_lt cs)).trans cs, (hg.cell (p := ⟨q, 1, none⟩) (cell_lt cq)).trans cq⟩
  clear hw0 cs cq
  refine wpAnyIn_fx (α := Unit) (fun x => fun dd => if dd = 10 then .pointer (some ⟨q, 0, none⟩) else if dd = 11 then .pointer (some ⟨q, 0, none⟩) else if dd = 12 then .pointer (some ⟨q, 0, none⟩) else if dd = 13 then .pointer (some ⟨q, 0, none⟩) else if dd = 14 then .pointer (some ⟨q, 0, none⟩) else if dd = 15 then .pointer (some ⟨q, 0, none⟩) else if dd = 16 then .pointer (some ⟨q, 1, none⟩) else if dd = 17 then .int .u64 t else if dd = 18 then .func (.func 99) #[] #[.pointer (some ⟨w0.heap.size, 0, none⟩), .pointer (some ⟨w0.heap.size + 1, 0, none⟩), .pointer (some ⟨w0.heap.size + 1 + 1, 0, none⟩)] else undef) (fun _ => V1 w0 (fun w => w = (((w0.alloc (.cells #[.pointer (some ⟨q, 0, none⟩)] 139)).alloc (.cells #[.int .u64 t] 22)).alloc (.cells #[.func (.func 69) #[] #[]] 147))) 8) ?step ?fin () ?start
  case start => constructor <;> simp
  case step =>
    rintro listed fr wr x hF hW j' hj
    obtain ⟨hl, o, ho, he⟩ := mem_ready.1 hj
    have hjl : j' < listed.size := by rw [hF.ls]; exact (Array.getElem?_eq_some_iff.1 ho).1
    clear hj
    have HF := hid hF
    have HW := hid hW
    have HE := hid he
    have HL := hid hl
    clear hF hW he hl
    match j', ho with
    | 0, ho =>
      obtain rfl := Option.some.inj ho
      have e1 : fr.tmps[1]?.getD undef = .pointer (some ⟨Bs, 0, none⟩) := HF.out.base 1 (by kernel_rfl) rfl
      have hc := HLD.out _ HW.out
      exact wpIn_q hfn rfl rfl (fun _ h => by cases h) (by simp [execOp, go_sem, e1, hc.1]; try rfl) ⟨x, HF.out.put (by kernel_rfl) rfl rfl rfl (of_decide_eq_true rfl), HW.out.q hjl (by decide)⟩
    | 1, ho =>
      obtain rfl := Option.some.inj ho
      have e10 : fr.tmps[10]?.getD undef = .pointer (some ⟨q, 0, none⟩) := HF.out.ev (i := 0) rfl rfl (HE.out ⟨0, .data⟩ (by simp) rfl)
      exact wpIn_q hfn rfl rfl (fun _ h => by cases h) (by simp [execOp, go_sem, e10]; try rfl) ⟨x, HF.out.put (by kernel_rfl) rfl rfl rfl (of_decide_eq_true rfl), HW.out.q hjl (by decide)⟩
    | 2, ho =>
      obtain rfl := Option.some.inj ho
      have e11 : fr.tmps[11]?.getD undef = .pointer (some ⟨q, 0, none⟩) := HF.out.ev (i := 1) rfl rfl (HE.out ⟨1, .data⟩ (by simp) rfl)
      exact wpIn_q hfn rfl rfl (fun _ h => by cases h) (by simp [execOp, go_sem, e11]; try rfl) ⟨x, HF.out.put (by kernel_rfl) rfl rfl rfl (of_decide_eq_true rfl), HW.out.q hjl (by decide)⟩
    | 3, ho =>
      obtain rfl := Option.some.inj ho
      have e1 : fr.tmps[1]?.getD undef = .pointer (some ⟨Bs, 0, none⟩) := HF.out.base 1 (by kernel_rfl) rfl
      have hc := HLD.out _ HW.out
      exact wpIn_q hfn rfl rfl (fun _ h => by cases h) (by simp [execOp, go_sem, e1, hc.1]; try rfl) ⟨x, HF.out.put (by kernel_rfl) rfl rfl rfl (of_decide_eq_true rfl), HW.out.q hjl (by decide)⟩
    | 4, ho =>
      obtain rfl := Option.some.inj ho
      have e13 : fr.tmps[13]?.getD undef = .pointer (some ⟨q, 0, none⟩) := HF.out.ev (i := 3) rfl rfl (HE.out ⟨3, .data⟩ (by simp) rfl)
      exact wpIn_q hfn rfl rfl (fun _ h => by cases h) (by simp [execOp, go_sem, e13]; try rfl) ⟨x, HF.out.put (by kernel_rfl) rfl rfl rfl (of_decide_eq_true rfl), HW.out.q hjl (by decide)⟩
    | 5, ho =>
      obtain rfl := Option.some.inj ho
      have e14 : fr.tmps[14]?.getD undef = .pointer (some ⟨q, 0, none⟩) := HF.out.ev (i := 4) rfl rfl (HE.out ⟨4, .data⟩ (by simp) rfl)
      exact wpIn_q hfn rfl rfl (fun _ h => by cases h) (by simp [execOp, go_sem, e14]; try rfl) ⟨x, HF.out.put (by kernel_rfl) rfl rfl rfl (of_decide_eq_true rfl), HW.out.q hjl (by decide)⟩
    | 6, ho =>
      obtain rfl := Option.some.inj ho
      have e15 : fr.tmps[15]?.getD undef = .pointer (some ⟨q, 0, none⟩) := HF.out.ev (i := 5) rfl rfl (HE.out ⟨5, .data⟩ (by simp) rfl)
      exact wpIn_q hfn rfl rfl (fun _ h => by cases h) (by simp [execOp, go_sem, e15]; try rfl) ⟨x, HF.out.put (by kernel_rfl) rfl rfl rfl (of_decide_eq_true rfl), HW.out.q hjl (by decide)⟩
    | 7, ho =>
      obtain rfl := Option.some.inj ho
      have e16 : fr.tmps[16]?.getD undef = .pointer (some ⟨q, 1, none⟩) := HF.out.ev (i := 6) rfl rfl (HE.out ⟨6, .data⟩ (by simp) rfl)
      have hc := HLD.out _ HW.out
      exact wpIn_q hfn rfl rfl (fun _ h => by cases h) (by simp [execOp, go_sem, e16, hc.2]; try rfl) ⟨x, HF.out.put (by kernel_rfl) rfl rfl rfl (of_decide_eq_true rfl), HW.out.q hjl (by decide)⟩
    | 8, ho =>
      obtain rfl := Option.some.inj ho
      have e12 : fr.tmps[12]?.getD undef = .pointer (some ⟨q, 0, none⟩) := HF.out.ev (i := 2) rfl rfl (HE.out ⟨2, .data⟩ (by simp) rfl)
      have e17 : fr.tmps[17]?.getD undef = .int .u64 t := HF.out.ev (i := 7) rfl rfl (HE.out ⟨7, .data⟩ (by simp) rfl)
      have hz : listed.getD 8 false = false := getD_tf hjl HL.out
      obtain rfl := HW.out.c0 hz
      refine wpIn_c hfn hn rfl rfl (fun _ h => by cases h) _ _ (ex_c3 _ _ _ _ _ rfl (.pointer (some ⟨q, 0, none⟩)) (.int .u64 t) (.func (.func 69) #[] #[]) (by simp [Act.eval, e12]) (by simp [Act.eval, e17]) rfl (Try.call68 _ _)) hEN ?_
      rintro r w7 ⟨rfl, hw⟩
      exact ⟨_, rfl, x, HF.out.put (by kernel_rfl) rfl rfl rfl (of_decide_eq_true rfl), V1.doz hjl hw⟩
  case fin =>
    rintro listed fr' w2 x hF hW hr
    have all := allDone hr hF.ls (by kernel_rfl)
    rw [hW.c1 (all 8 (by decide)), hF.full all]
    clear hF hW hr all HLD
    simp only [List.foldl_cons, List.foldl_nil, fillF]
    go_simp
    exact fin
set_option maxHeartbeats 4000000 in
theorem pg_r5 (F : Fence) (n : Nat) (hfn : ∀ f, F.fn f) (hn : 1 ≤ n) (Q : Exit → Act → World → Prop) (Bs q : Nat) (e : Int) {y0 y2 y3 y4 y6 y7 y8 y9 y10 y11 y12 y13 y14 y15 y16 y17 y18 y19 y20 y21 y22 y23 y24 y25 y26 y27 y28 y29 y30 y31 y32 y33 y34 y35 y36 y37 y38 y39 y40 y41 y42 y43 y44 y45 y46 y47 : Value} (W w0 : World) (hw0 : w0 = W.drew) (cs : W.cell? ⟨Bs, 0, none⟩ = some (.pointer (some ⟨q, 0, none⟩))) (hNU : ∀ w', CallsIn F (n - 1) Try.prog 63 #[.int .u64 e] w' fun r w2 => r = .returned (.int .u64 (e / 1024)) ∧ w2 = w') 
    (hEN : CallsIn F (n - 1) Try.prog 68 #[.pointer (some ⟨q, 0, none⟩), .int .u64 (e / 1024), .func (.func 69) #[] #[]] w0 fun r w' => r = .returned (.func (.func 99) #[] #[.pointer (some ⟨w0.heap.size, 0, none⟩), .pointer (some ⟨w0.heap.size + 1, 0, none⟩), .pointer (some ⟨w0.heap.size + 1 + 1, 0, none⟩)]) ∧ w' = (((w0.alloc (.cells #[.pointer (some ⟨q, 0, none⟩)] 139)).alloc (.cells #[.int .u64 (e / 1024)] 22)).alloc (.cells #[.func (.func 69) #[] #[]] 147)))
    (fin : Q .normal ⟨#[y0, .pointer (some ⟨Bs, 0, none⟩), y2, y3, y4, .int .u64 e, y6, y7, y8, y9, y10, y11, y12, y13, y14, y15, y16, y17, y18, y19, y20, .pointer (some ⟨q, 0, none⟩), .pointer (some ⟨q, 0, none⟩), .pointer (some ⟨q, 0, none⟩), .int .u64 e, .int .u64 (e / 1024), .func (.func 99) #[] #[.pointer (some ⟨w0.heap.size, 0, none⟩), .pointer (some ⟨w0.heap.size + 1, 0, none⟩), .pointer (some ⟨w0.heap.size + 1 + 1, 0, none⟩)], y27, y28, y29, y30, y31, y32, y33, y34, y35, y36, y37, y38, y39, y40, y41, y42, y43, y44, y45, y46, y47], []⟩ (((w0.alloc (.cells #[.pointer (some ⟨q, 0, none⟩)] 139)).alloc (.cells #[.int .u64 (e / 1024)] 22)).alloc (.cells #[.func (.func 69) #[] #[]] 147))) :
    (Code.region 5 #[{ dst := some 21, op := Op.load 24 (Operand.tmp 1), type := 24, pos := "stage.go:98", after := #[], guard := none }, { dst := some 22, op := Op.nilCheck (Operand.tmp 21), type := 0, pos := "stage.go:98", after := #[{ on := 0, ground := Ground.data }], guard := none }, { dst := some 23, op := Op.fieldAddr 60 (Operand.tmp 22) 0, type := 0, pos := "stage.go:98", after := #[{ on := 1, ground := Ground.data }], guard := none }, { dst := some 24, op := Op.move (Operand.tmp 5), type := 96, pos := "stage.go:98", after := #[], guard := none }, { dst := some 25, op := Op.call { callee := Callee.value (Operand.func 63), args := #[Operand.tmp 24], argTypes := #[96] }, type := 22, pos := "stage.go:98", after := #[{ on := 3, ground := Ground.data }], guard := none }, { dst := some 26, op := Op.call { callee := Callee.value (Operand.func 68), args := #[Operand.tmp 23, Operand.tmp 25, Operand.func 69], argTypes := #[57, 22, 147] }, type := 145, pos := "stage.go:98", after := #[{ on := 2, ground := Ground.data }, { on := 4, ground := Ground.data }, { on := 4, ground := Ground.chain }], guard := none }] true).wpIn F n Try.prog Q ⟨#[y0, .pointer (some ⟨Bs, 0, none⟩), y2, y3, y4, .int .u64 e, y6, y7, y8, y9, y10, y11, y12, y13, y14, y15, y16, y17, y18, y19, y20, y21, y22, y23, y24, y25, y26, y27, y28, y29, y30, y31, y32, y33, y34, y35, y36, y37, y38, y39, y40, y41, y42, y43, y44, y45, y46, y47], []⟩ W := by
  refine wpIn_region_any (by kernel_rfl) ?_
  rw [show ({ W with drawn := W.drawn + 1 } : World) = w0 from hw0.symm]
  have HLD : Hid (∀ {listed : Array Bool} (w : World), V1 w0 (fun w => w = (((w0.alloc (.cells #[.pointer (some ⟨q, 0, none⟩)] 139)).alloc (.cells #[.int .u64 (e / 1024)] 22)).alloc (.cells #[.func (.func 69) #[] #[]] 147))) 5 listed w → w.cell? ⟨Bs, 0, none⟩ = some (.pointer (some ⟨q, 0, none⟩))) := fun {listed} w hw => by
    have hb : Below w0.heap.size w0 w := by
      cases ez : listed.getD 5 false with
      | false => rw [hw.c0 ez]; exact Below.refl _ _
      | true => rw [hw.c1 ez]; exact (((Below.refl _ _).alloc (Nat.le_refl _) _).alloc (by simp) _).alloc (by simp; omega) _
    have hb0 : Below W.heap.size W w0 := by rw [hw0]; exact (Below.refl _ _).drew
    have hg := hb0.trans (hb.mono hb0.size)
    exact (hg.cell (p := ⟨Bs, 0, none⟩) (cell_lt cs)).trans cs
  clear hw0 cs
  refine wpAnyIn_fx (α := Unit) (fun x => fun dd => if dd = 21 then .pointer (some ⟨q, 0, none⟩) else if dd = 22 then .pointer (some ⟨q, 0, none⟩) else if dd = 23 then .pointer (some ⟨q, 0, none⟩) else if dd = 24 then .int .u64 e else if dd = 25 then .int .u64 (e / 1024) else if dd = 26 then .func (.func 99) #[] #[.pointer (some ⟨w0.heap.size, 0, none⟩), .pointer (some ⟨w0.heap.size + 1, 0, none⟩), .pointer (some ⟨w0.heap.size + 1 + 1, 0, none⟩)] else undef) (fun _ => V1 w0 (fun w => w = (((w0.alloc (.cells #[.pointer (some ⟨q, 0, none⟩)] 139)).alloc (.cells #[.int .u64 (e / 1024)] 22)).alloc (.cells #[.func (.func 69) #[] #[]] 147))) 5) ?step ?fin () ?start
  case start => constructor <;> simp
  case step =>
    rintro listed fr wr x hF hW j' hj
    obtain ⟨hl, o, ho, he⟩ := mem_ready.1 hj
    have hjl : j' < listed.size := by rw [hF.ls]; exact (Array.getElem?_eq_some_iff.1 ho).1
    clear hj
    have HF := hid hF
    have HW := hid hW
    have HE := hid he
    have HL := hid hl
    clear hF hW he hl
    match j', ho with
    | 0, ho =>
      obtain rfl := Option.some.inj ho
      have e1 : fr.tmps[1]?.getD undef = .pointer (some ⟨Bs, 0, none⟩) := HF.out.base 1 (by kernel_rfl) rfl
      have hc := HLD.out _ HW.out
      exact wpIn_q hfn rfl rfl (fun _ h => by cases h) (by simp [execOp, go_sem, e1, hc]; try rfl) ⟨x, HF.out.put (by kernel_rfl) rfl rfl rfl (of_decide_eq_true rfl), HW.out.q hjl (by decide)⟩
    | 1, ho =>
      obtain rfl := Option.some.inj ho
      have e21 : fr.tmps[21]?.getD undef = .pointer (some ⟨q, 0, none⟩) := HF.out.ev (i := 0) rfl rfl (HE.out ⟨0, .data⟩ (by simp) rfl)
      exact wpIn_q hfn rfl rfl (fun _ h => by cases h) (by simp [execOp, go_sem, e21]; try rfl) ⟨x, HF.out.put (by kernel_rfl) rfl rfl rfl (of_decide_eq_true rfl), HW.out.q hjl (by decide)⟩
    | 2, ho =>
      obtain rfl := Option.some.inj ho
      have e22 : fr.tmps[22]?.getD undef = .pointer (some ⟨q, 0, none⟩) := HF.out.ev (i := 1) rfl rfl (HE.out ⟨1, .data⟩ (by simp) rfl)
      exact wpIn_q hfn rfl rfl (fun _ h => by cases h) (by simp [execOp, go_sem, e22]; try rfl) ⟨x, HF.out.put (by kernel_rfl) rfl rfl rfl (of_decide_eq_true rfl), HW.out.q hjl (by decide)⟩
    | 3, ho =>
      obtain rfl := Option.some.inj ho
      have e5 : fr.tmps[5]?.getD undef = .int .u64 e := HF.out.base 5 (by kernel_rfl) rfl
      exact wpIn_q hfn rfl rfl (fun _ h => by cases h) (by simp [execOp, go_sem, e5]; try rfl) ⟨x, HF.out.put (by kernel_rfl) rfl rfl rfl (of_decide_eq_true rfl), HW.out.q hjl (by decide)⟩
    | 4, ho =>
      obtain rfl := Option.some.inj ho
      have e24 : fr.tmps[24]?.getD undef = .int .u64 e := HF.out.ev (i := 3) rfl rfl (HE.out ⟨3, .data⟩ (by simp) rfl)
      refine wpIn_c hfn hn rfl rfl (fun _ h => by cases h) _ _ (ex_c1 _ _ _ rfl (.int .u64 e) (by simp [Act.eval, e24]) (Try.call63 _ _)) (hNU _) ?_
      rintro r w7 ⟨rfl, hw⟩
      obtain rfl := hw
      exact ⟨_, rfl, x, HF.out.put (by kernel_rfl) rfl rfl rfl (of_decide_eq_true rfl), HW.out.q hjl (by decide)⟩
    | 5, ho =>
      obtain rfl := Option.some.inj ho
      have e23 : fr.tmps[23]?.getD undef = .pointer (some ⟨q, 0, none⟩) := HF.out.ev (i := 2) rfl rfl (HE.out ⟨2, .data⟩ (by simp) rfl)
      have e25 : fr.tmps[25]?.getD undef = .int .u64 (e / 1024) := HF.out.ev (i := 4) rfl rfl (HE.out ⟨4, .data⟩ (by simp) rfl)
      have hz : listed.getD 5 false = false := getD_tf hjl HL.out
      obtain rfl := HW.out.c0 hz
      refine wpIn_c hfn hn rfl rfl (fun _ h => by cases h) _ _ (ex_c3 _ _ _ _ _ rfl (.pointer (some ⟨q, 0, none⟩)) (.int .u64 (e / 1024)) (.func (.func 69) #[] #[]) (by simp [Act.eval, e23]) (by simp [Act.eval, e25]) rfl (Try.call68 _ _)) hEN ?_
      rintro r w7 ⟨rfl, hw⟩
      exact ⟨_, rfl, x, HF.out.put (by kernel_rfl) rfl rfl rfl (of_decide_eq_true rfl), V1.doz hjl hw⟩
  case fin =>
    rintro listed fr' w2 x hF hW hr
    have all := allDone hr hF.ls (by kernel_rfl)
    rw [hW.c1 (all 5 (by decide)), hF.full all]
    clear hF hW hr all HLD
    simp only [List.foldl_cons, List.foldl_nil, fillF]
    go_simp
    exact fin
set_option maxHeartbeats 4000000 in
theorem pg_r8 (F : Fence) (n : Nat) (hfn : ∀ f, F.fn f) (hn : 1 ≤ n) (Q : Exit → Act → World → Prop) (Bs q : Nat) (e : Int) {y0 y2 y3 y4 y5 y6 y8 y9 y10 y11 y12 y13 y14 y15 y16 y17 y18 y19 y20 y21 y22 y23 y24 y25 y26 y27 y28 y29 y30 y31 y32 y33 y34 y35 y36 y37 y38 y39 y40 y41 y42 y43 y44 y45 y46 y47 : Value} (W w0 : World) (hw0 : w0 = W.drew) (cs : W.cell? ⟨Bs, 0, none⟩ = some (.pointer (some ⟨q, 0, none⟩))) (hNU : ∀ w', CallsIn F (n - 1) Try.prog 63 #[.int .u64 e] w' fun r w2 => r = .returned (.int .u64 (e / 1024)) ∧ w2 = w') 
    (hEN : CallsIn F (n - 1) Try.prog 68 #[.pointer (some ⟨q, 0, none⟩), .int .u64 (e / 1024), .func (.func 70) #[] #[]] w0 fun r w' => r = .returned (.func (.func 99) #[] #[.pointer (some ⟨w0.heap.size, 0, none⟩), .pointer (some ⟨w0.heap.size + 1, 0, none⟩), .pointer (some ⟨w0.heap.size + 1 + 1, 0, none⟩)]) ∧ w' = (((w0.alloc (.cells #[.pointer (some ⟨q, 0, none⟩)] 139)).alloc (.cells #[.int .u64 (e / 1024)] 22)).alloc (.cells #[.func (.func 70) #[] #[]] 147)))
    (fin : Q .normal ⟨#[y0, .pointer (some ⟨Bs, 0, none⟩), y2, y3, y4, y5, y6, .int .u64 e, y8, y9, y10, y11, y12, y13, y14, y15, y16, y17, y18, y19, y20, y21, y22, y23, y24, y25, y26, y27, y28, .pointer (some ⟨q, 0, none⟩), .pointer (some ⟨q, 0, none⟩), .pointer (some ⟨q, 0, none⟩), .int .u64 e, .int .u64 (e / 1024), .func (.func 99) #[] #[.pointer (some ⟨w0.heap.size, 0, none⟩), .pointer (some ⟨w0.heap.size + 1, 0, none⟩), .pointer (some ⟨w0.heap.size + 1 + 1, 0, none⟩)], y35, y36, y37, y38, y39, y40, y41, y42, y43, y44, y45, y46, y47], []⟩ (((w0.alloc (.cells #[.pointer (some ⟨q, 0, none⟩)] 139)).alloc (.cells #[.int .u64 (e / 1024)] 22)).alloc (.cells #[.func (.func 70) #[] #[]] 147))) :
    (Code.region 8 #[{ dst := some 29, op := Op.load 24 (Operand.tmp 1), type := 24, pos := "stage.go:99", after := #[], guard := none }, { dst := some 30, op := Op.nilCheck (Operand.tmp 29), type := 0, pos := "stage.go:99", after := #[{ on := 0, ground := Ground.data }], guard := none }, { dst := some 31, op := Op.fieldAddr 60 (Operand.tmp 30) 0, type := 0, pos := "stage.go:99", after := #[{ on := 1, ground := Ground.data }], guard := none }, { dst := some 32, op := Op.move (Operand.tmp 7), type := 96, pos := "stage.go:99", after := #[], guard := none }, { dst := some 33, op := Op.call { callee := Callee.value (Operand.func 63), args := #[Operand.tmp 32], argTypes := #[96] }, type := 22, pos := "stage.go:99", after := #[{ on := 3, ground := Ground.data }], guard := none }, { dst := some 34, op := Op.call { callee := Callee.value (Operand.func 68), args := #[Operand.tmp 31, Operand.tmp 33, Operand.func 70], argTypes := #[57, 22, 147] }, type := 145, pos := "stage.go:99", after := #[{ on := 2, ground := Ground.data }, { on := 4, ground := Ground.data }, { on := 4, ground := Ground.chain }], guard := none }] true).wpIn F n Try.prog Q ⟨#[y0, .pointer (some ⟨Bs, 0, none⟩), y2, y3, y4, y5, y6, .int .u64 e, y8, y9, y10, y11, y12, y13, y14, y15, y16, y17, y18, y19, y20, y21, y22, y23, y24, y25, y26, y27, y28, y29, y30, y31, y32, y33, y34, y35, y36, y37, y38, y39, y40, y41, y42, y43, y44, y45, y46, y47], []⟩ W := by
  refine wpIn_region_any (by kernel_rfl) ?_
  rw [show ({ W with drawn := W.drawn + 1 } : World) = w0 from hw0.symm]
  have HLD : Hid (∀ {listed : Array Bool} (w : World), V1 w0 (fun w => w = (((w0.alloc (.cells #[.pointer (some ⟨q, 0, none⟩)] 139)).alloc (.cells #[.int .u64 (e / 1024)] 22)).alloc (.cells #[.func (.func 70) #[] #[]] 147))) 5 listed w → w.cell? ⟨Bs, 0, none⟩ = some (.pointer (some ⟨q, 0, none⟩))) := fun {listed} w hw => by
    have hb : Below w0.heap.size w0 w := by
      cases ez : listed.getD 5 false with
      | false => rw [hw.c0 ez]; exact Below.refl _ _
      | true => rw [hw.c1 ez]; exact (((Below.refl _ _).alloc (Nat.le_refl _) _).alloc (by simp) _).alloc (by simp; omega) _
    have hb0 : Below W.heap.size W w0 := by rw [hw0]; exact (Below.refl _ _).drew
    have hg := hb0.trans (hb.mono hb0.size)
    exact (hg.cell (p := ⟨Bs, 0, none⟩) (cell_lt cs)).trans cs
  clear hw0 cs
  refine wpAnyIn_fx (α := Unit) (fun x => fun dd => if dd = 29 then .pointer (some ⟨q, 0, none⟩) else if dd = 30 then .pointer (some ⟨q, 0, none⟩) else if dd = 31 then .pointer (some ⟨q, 0, none⟩) else if dd = 32 then .int .u64 e else if dd = 33 then .int .u64 (e / 1024) else if dd = 34 then .func (.func 99) #[] #[.pointer (some ⟨w0.heap.size, 0, none⟩), .pointer (some ⟨w0.heap.size + 1, 0, none⟩), .pointer (some ⟨w0.heap.size + 1 + 1, 0, none⟩)] else undef) (fun _ => V1 w0 (fun w => w = (((w0.alloc (.cells #[.pointer (some ⟨q, 0, none⟩)] 139)).alloc (.cells #[.int .u64 (e / 1024)] 22)).alloc (.cells #[.func (.func 70) #[] #[]] 147))) 5) ?step ?fin () ?start
  case start => constructor <;> simp
  case step =>
    rintro listed fr wr x hF hW j' hj
    obtain ⟨hl, o, ho, he⟩ := mem_ready.1 hj
    have hjl : j' < listed.size := by rw [hF.ls]; exact (Array.getElem?_eq_some_iff.1 ho).1
    clear hj
    have HF := hid hF
    have HW := hid hW
    have HE := hid he
    have HL := hid hl
    clear hF hW he hl
    match j', ho with
    | 0, ho =>
      obtain rfl := Option.some.inj ho
      have e1 : fr.tmps[1]?.getD undef = .pointer (some ⟨Bs, 0, none⟩) := HF.out.base 1 (by kernel_rfl) rfl
      have hc := HLD.out _ HW.out
      exact wpIn_q hfn rfl rfl (fun _ h => by cases h) (by simp [execOp, go_sem, e1, hc]; try rfl) ⟨x, HF.out.put (by kernel_rfl) rfl rfl rfl (of_decide_eq_true rfl), HW.out.q hjl (by decide)⟩
    | 1, ho =>
      obtain rfl := Option.some.inj ho
      have e29 : fr.tmps[29]?.getD undef = .pointer (some ⟨q, 0, none⟩) := HF.out.ev (i := 0) rfl rfl (HE.out ⟨0, .data⟩ (by simp) rfl)
      exact wpIn_q hfn rfl rfl (fun _ h => by cases h) (by simp [execOp, go_sem, e29]; try rfl) ⟨x, HF.out.put (by kernel_rfl) rfl rfl rfl (of_decide_eq_true rfl), HW.out.q hjl (by decide)⟩
    | 2, ho =>
      obtain rfl := Option.some.inj ho
      have e30 : fr.tmps[30]?.getD undef = .pointer (some ⟨q, 0, none⟩) := HF.out.ev (i := 1) rfl rfl (HE.out ⟨1, .data⟩ (by simp) rfl)
      exact wpIn_q hfn rfl rfl (fun _ h => by cases h) (by simp [execOp, go_sem, e30]; try rfl) ⟨x, HF.out.put (by kernel_rfl) rfl rfl rfl (of_decide_eq_true rfl), HW.out.q hjl (by decide)⟩
    | 3, ho =>
      obtain rfl := Option.some.inj ho
      have e7 : fr.tmps[7]?.getD undef = .int .u64 e := HF.out.base 7 (by kernel_rfl) rfl
      exact wpIn_q hfn rfl rfl (fun _ h => by cases h) (by simp [execOp, go_sem, e7]; try rfl) ⟨x, HF.out.put (by kernel_rfl) rfl rfl rfl (of_decide_eq_true rfl), HW.out.q hjl (by decide)⟩
    | 4, ho =>
      obtain rfl := Option.some.inj ho
      have e32 : fr.tmps[32]?.getD undef = .int .u64 e := HF.out.ev (i := 3) rfl rfl (HE.out ⟨3, .data⟩ (by simp) rfl)
      refine wpIn_c hfn hn rfl rfl (fun _ h => by cases h) _ _ (ex_c1 _ _ _ rfl (.int .u64 e) (by simp [Act.eval, e32]) (Try.call63 _ _)) (hNU _) ?_
      rintro r w7 ⟨rfl, hw⟩
      obtain rfl := hw
      exact ⟨_, rfl, x, HF.out.put (by kernel_rfl) rfl rfl rfl (of_decide_eq_true rfl), HW.out.q hjl (by decide)⟩
    | 5, ho =>
      obtain rfl := Option.some.inj ho
      have e31 : fr.tmps[31]?.getD undef = .pointer (some ⟨q, 0, none⟩) := HF.out.ev (i := 2) rfl rfl (HE.out ⟨2, .data⟩ (by simp) rfl)
      have e33 : fr.tmps[33]?.getD undef = .int .u64 (e / 1024) := HF.out.ev (i := 4) rfl rfl (HE.out ⟨4, .data⟩ (by simp) rfl)
      have hz : listed.getD 5 false = false := getD_tf hjl HL.out
      obtain rfl := HW.out.c0 hz
      refine wpIn_c hfn hn rfl rfl (fun _ h => by cases h) _ _ (ex_c3 _ _ _ _ _ rfl (.pointer (some ⟨q, 0, none⟩)) (.int .u64 (e / 1024)) (.func (.func 70) #[] #[]) (by simp [Act.eval, e31]) (by simp [Act.eval, e33]) rfl (Try.call68 _ _)) hEN ?_
      rintro r w7 ⟨rfl, hw⟩
      exact ⟨_, rfl, x, HF.out.put (by kernel_rfl) rfl rfl rfl (of_decide_eq_true rfl), V1.doz hjl hw⟩
  case fin =>
    rintro listed fr' w2 x hF hW hr
    have all := allDone hr hF.ls (by kernel_rfl)
    rw [hW.c1 (all 5 (by decide)), hF.full all]
    clear hF hW hr all HLD
    simp only [List.foldl_cons, List.foldl_nil, fillF]
    go_simp
    exact fin
end Go.Proofs.Ytekkjalfiogenaa
