/- A queue's registers. -/
import Derived.Test.YtjkihlpckgaggaaGreatMH4
import Derived.Laws.BitsAllLaws
import Derived.Test.YtjkihlpckgaggaaGreatMH5
namespace Go.Proofs.YtjkihlpckgaggaaGreat
open Go.RowKit
open C (Only hid Still ret_bool ret_int)
set_option linter.unusedVariables false
set_option maxRecDepth 100000

structure SOk (s : SV) : Prop where
  sz : 0 ≤ s.sz ∧ s.sz < 4294967296
  d0 : 0 ≤ s.d0 ∧ s.d0 < 4294967296
  d1 : 0 ≤ s.d1 ∧ s.d1 < 4294967296
  a0 : 0 ≤ s.a0 ∧ s.a0 < 4294967296
  a1 : 0 ≤ s.a1 ∧ s.a1 < 4294967296
  u0 : 0 ≤ s.u0 ∧ s.u0 < 4294967296
  u1 : 0 ≤ s.u1 ∧ s.u1 < 4294967296
def SV.dd (s : SV) : Int := s.d1 * 4294967296 + s.d0
def SV.aa (s : SV) : Int := s.a1 * 4294967296 + s.a0
def SV.uu (s : SV) : Int := s.u1 * 4294967296 + s.u0
theorem wpAny_atJ {P : Program} {md : Region.Mode} {ops : Array Oper} {Q : Exit → Act → World → Prop} {n : Nat} {l : Array Bool} {a : Act} {W w0 : World} (h : W = w0) (hk : wpAny P md ops Q n l a w0) : wpAny P md ops Q n l a W := h ▸ hk
theorem halvesD (n : Int) (n0 : 0 ≤ n) (n1 : n < 18446744073709551616) : bits BinOp.or IntKind.u64 (n / 4294967296 * 4294967296) (n % 4294967296) = n := by
  obtain ⟨k, rfl⟩ : ∃ k : Nat, n = k := ⟨n.toNat, by omega⟩
  have e := u64_or_nat (k / 4294967296 * 4294967296) (k % 4294967296) (by omega) (by omega)
  rw [nat_join 32 _ _ (by omega) (by omega), Nat.div_add_mod'] at e
  have e2 : ((k / 4294967296 * 4294967296 : Nat) : Int) = (k : Int) / 4294967296 * 4294967296 := by omega
  have e3 : ((k % 4294967296 : Nat) : Int) = (k : Int) % 4294967296 := by omega
  rw [e2, e3] at e
  exact e
theorem or_hl (hi lo : Int) (h0 : 0 ≤ hi) (h1 : hi < 4294967296) (l0 : 0 ≤ lo) (l1 : lo < 4294967296) : bits BinOp.or IntKind.u64 (hi * 4294967296) lo = hi * 4294967296 + lo := by
  have e := halvesD (hi * 4294967296 + lo) (by omega) (by omega)
  rw [show (hi * 4294967296 + lo) / 4294967296 = hi by omega, show (hi * 4294967296 + lo) % 4294967296 = lo by omega] at e
  exact e
/-- a queue's block, its ring -/
structure Vq (w : World) (p r : Nat) (s : SV) (q : QV) : Prop where
  b : w.heap[p]? = some (.cells (svc r s) 236 (0, 0))
  r : Qb w r q
section
variable {w w' : World} {p r : Nat} {s : SV} {q : QV}
theorem Vq.below (h : Vq w p r s q) (hb : Below w.heap.size w w') : Vq w' p r s q := ⟨(hb.block p (lt_of_block h.b)).trans h.b, h.r.below hb⟩
theorem Vq.ne (h : Vq w p r s q) : p ≠ r := fun z => by have := h.b; rw [z, show w.heap[r]? = _ from h.r] at this; injection this with this; injection this with _ this; exact absurd this (by decide)
theorem Vq.put (h : Vq w p r s q) (k : Nat) (x : Value) (s' : SV) (hc : (svc r s).setIfInBounds k x = svc r s') : Vq (w.setCell ⟨p, k, none⟩ x) p r s' q := ⟨setRowB w p k _ _ _ x h.b hc, h.r.only (only_c w p k x) (fun z => h.ne z.symm)⟩
end
set_option maxHeartbeats 2000000 in
theorem k_word (w : World) (p k : Nat) (lo hi : Int) (c0 : w.cell? ⟨p, k, none⟩ = some (.int .u32 lo)) (c1 : w.cell? ⟨p, k + 1, none⟩ = some (.int .u32 hi)) (h0 : 0 ≤ hi ∧ hi < 4294967296) (l0 : 0 ≤ lo ∧ lo < 4294967296) : Calls Tryz.prog 271 #[.pointer (some ⟨p, k, none⟩)] w fun e w' => e = .returned (.int .u64 (hi * 4294967296 + lo)) ∧ Below w.heap.size w w' := by
  have wh : IntKind.u64.wrap hi = hi := by rw [IntKind.wrap_u64]; omega
  have wl : IntKind.u64.wrap lo = lo := by rw [IntKind.wrap_u64]; omega
  have ws : IntKind.u64.wrap (hi * 4294967296) = hi * 4294967296 := by rw [IntKind.wrap_u64]; omega
  have wo := or_hl hi lo h0.1 h0.2 l0.1 l0.2
  go_enter Tryz.func271, Tryz.ntmps271
  go_upto_region 1 with fail
  obtain ⟨w0, hw0⟩ : ∃ w0, w0 = w.drew := ⟨_, rfl⟩
  refine wp_region_any (by kernel_rfl) ?_
  refine wpAny_atJ (w0 := w0) hw0.symm ?_
  have HC0 : Hid (w0.cell? ⟨p, k, none⟩ = some (.int .u32 lo)) := by rw [hw0]; exact c0
  have HC1 : Hid (w0.cell? ⟨p, k + 1, none⟩ = some (.int .u32 hi)) := by rw [hw0]; exact c1
  have HB : Hid (Below w.heap.size w w0) := by rw [hw0]; exact (Below.refl _ _).drew
  clear c0 c1 hw0
  refine wpAny_fz (α := Unit) (fun _ => fun dd => if dd = 3 then .pointer (some ⟨p, k, none⟩) else if dd = 4 then .pointer (some ⟨p, k, none⟩) else if dd = 5 then .pointer (some ⟨p, k + 1, none⟩) else if dd = 6 then .int .u32 hi else if dd = 7 then .int .u64 hi else if dd = 8 then .int .u64 (hi * 4294967296) else if dd = 9 then .pointer (some ⟨p, k, none⟩) else if dd = 10 then .pointer (some ⟨p, k, none⟩) else if dd = 11 then .pointer (some ⟨p, k, none⟩) else if dd = 12 then .int .u32 lo else if dd = 13 then .int .u64 lo else if dd = 14 then .int .u64 (hi * 4294967296 + lo) else if dd = 2 then .int .u64 (hi * 4294967296 + lo) else undef) (fun x listed w => VS [] (fun n (_ : Unit) w => w = w0) x listed w) ?step ?fin () ?start
  case start => exact .start rfl
  case step =>
    rintro listed fr wr x hF hW hC i hj
    obtain ⟨hl, o, ho, he⟩ := mem_ready.1 hj
    have hjl : i < listed.size := by rw [hF.q.ls]; exact (Array.getElem?_eq_some_iff.1 ho).1
    have hl0 := getD_tf hjl hl
    clear hj
    have HF := hid hF
    have HW := hid hW
    have HE := hid he
    have HC := hid hC
    clear hF hW he hl hC
    match i, ho with
    | 0, ho =>
      obtain rfl := Option.some.inj ho
      have e0 : fr.tmps[0]?.getD undef = .pointer (some ⟨p, k, none⟩) := HF.out.base 0 (by kernel_rfl) rfl
      exact wp_q rfl rfl (by simp [execOp, go_sem, e0]; try rfl) ⟨(), HF.out.put (by kernel_rfl) rfl rfl rfl (of_decide_eq_true rfl), HW.out.q hjl (by decide)⟩
    | 1, ho =>
      obtain rfl := Option.some.inj ho
      have e3 : fr.tmps[3]?.getD undef = .pointer (some ⟨p, k, none⟩) := HF.out.ev (i := 0) rfl rfl (HE.out ⟨0, .data⟩ (by simp) rfl)
      exact wp_q rfl rfl (by simp [execOp, go_sem, e3]; try rfl) ⟨(), HF.out.put (by kernel_rfl) rfl rfl rfl (of_decide_eq_true rfl), HW.out.q hjl (by decide)⟩
    | 2, ho =>
      obtain rfl := Option.some.inj ho
      have e4 : fr.tmps[4]?.getD undef = .pointer (some ⟨p, k, none⟩) := HF.out.ev (i := 1) rfl rfl (HE.out ⟨1, .data⟩ (by simp) rfl)
      exact wp_q rfl rfl (by simp [execOp, go_sem, e4]; try rfl) ⟨(), HF.out.put (by kernel_rfl) rfl rfl rfl (of_decide_eq_true rfl), HW.out.q hjl (by decide)⟩
    | 3, ho =>
      obtain rfl := Option.some.inj ho
      have e5 : fr.tmps[5]?.getD undef = .pointer (some ⟨p, k + 1, none⟩) := HF.out.ev (i := 2) rfl rfl (HE.out ⟨2, .data⟩ (by simp) rfl)
      have hw0 : wr = w0 := by obtain ⟨_, _, q⟩ := HW.out; exact q
      subst hw0
      exact wp_q rfl rfl (by simp [execOp, go_sem, e5, HC1.out]; try rfl) ⟨(), HF.out.put (by kernel_rfl) rfl rfl rfl (of_decide_eq_true rfl), HW.out.q hjl (by decide)⟩
    | 4, ho =>
      obtain rfl := Option.some.inj ho
      have e6 : fr.tmps[6]?.getD undef = .int .u32 hi := HF.out.ev (i := 3) rfl rfl (HE.out ⟨3, .data⟩ (by simp) rfl)
      exact wp_q rfl rfl (by simp [execOp, go_sem, e6, wh]; try rfl) ⟨(), HF.out.put (by kernel_rfl) rfl rfl rfl (of_decide_eq_true rfl), HW.out.q hjl (by decide)⟩
    | 5, ho =>
      obtain rfl := Option.some.inj ho
      have e7 : fr.tmps[7]?.getD undef = .int .u64 hi := HF.out.ev (i := 4) rfl rfl (HE.out ⟨4, .data⟩ (by simp) rfl)
      exact wp_q rfl rfl (by simp [execOp, go_sem, e7, ws]; try rfl) ⟨(), HF.out.put (by kernel_rfl) rfl rfl rfl (of_decide_eq_true rfl), HW.out.q hjl (by decide)⟩
    | 6, ho =>
      obtain rfl := Option.some.inj ho
      have e0 : fr.tmps[0]?.getD undef = .pointer (some ⟨p, k, none⟩) := HF.out.base 0 (by kernel_rfl) rfl
      exact wp_q rfl rfl (by simp [execOp, go_sem, e0]; try rfl) ⟨(), HF.out.put (by kernel_rfl) rfl rfl rfl (of_decide_eq_true rfl), HW.out.q hjl (by decide)⟩
    | 7, ho =>
      obtain rfl := Option.some.inj ho
      have e9 : fr.tmps[9]?.getD undef = .pointer (some ⟨p, k, none⟩) := HF.out.ev (i := 6) rfl rfl (HE.out ⟨6, .data⟩ (by simp) rfl)
      exact wp_q rfl rfl (by simp [execOp, go_sem, e9]; try rfl) ⟨(), HF.out.put (by kernel_rfl) rfl rfl rfl (of_decide_eq_true rfl), HW.out.q hjl (by decide)⟩
    | 8, ho =>
      obtain rfl := Option.some.inj ho
      have e10 : fr.tmps[10]?.getD undef = .pointer (some ⟨p, k, none⟩) := HF.out.ev (i := 7) rfl rfl (HE.out ⟨7, .data⟩ (by simp) rfl)
      exact wp_q rfl rfl (by simp [execOp, go_sem, e10]; try rfl) ⟨(), HF.out.put (by kernel_rfl) rfl rfl rfl (of_decide_eq_true rfl), HW.out.q hjl (by decide)⟩
    | 9, ho =>
      obtain rfl := Option.some.inj ho
      have e11 : fr.tmps[11]?.getD undef = .pointer (some ⟨p, k, none⟩) := HF.out.ev (i := 8) rfl rfl (HE.out ⟨8, .data⟩ (by simp) rfl)
      have hw0 : wr = w0 := by obtain ⟨_, _, q⟩ := HW.out; exact q
      subst hw0
      exact wp_q rfl rfl (by simp [execOp, go_sem, e11, HC0.out]; try rfl) ⟨(), HF.out.put (by kernel_rfl) rfl rfl rfl (of_decide_eq_true rfl), HW.out.q hjl (by decide)⟩
    | 10, ho =>
      obtain rfl := Option.some.inj ho
      have e12 : fr.tmps[12]?.getD undef = .int .u32 lo := HF.out.ev (i := 9) rfl rfl (HE.out ⟨9, .data⟩ (by simp) rfl)
      exact wp_q rfl rfl (by simp [execOp, go_sem, e12, wl]; try rfl) ⟨(), HF.out.put (by kernel_rfl) rfl rfl rfl (of_decide_eq_true rfl), HW.out.q hjl (by decide)⟩
    | 11, ho =>
      obtain rfl := Option.some.inj ho
      have e8 : fr.tmps[8]?.getD undef = .int .u64 (hi * 4294967296) := HF.out.ev (i := 5) rfl rfl (HE.out ⟨5, .data⟩ (by simp) rfl)
      have e13 : fr.tmps[13]?.getD undef = .int .u64 lo := HF.out.ev (i := 10) rfl rfl (HE.out ⟨10, .data⟩ (by simp) rfl)
      exact wp_q rfl rfl (by simp [execOp, go_sem, e8, e13, wo]; try rfl) ⟨(), HF.out.put (by kernel_rfl) rfl rfl rfl (of_decide_eq_true rfl), HW.out.q hjl (by decide)⟩
    | 12, ho =>
      obtain rfl := Option.some.inj ho
      have e14 : fr.tmps[14]?.getD undef = .int .u64 (hi * 4294967296 + lo) := HF.out.ev (i := 11) rfl rfl (HE.out ⟨11, .data⟩ (by simp) rfl)
      exact wp_q rfl rfl (by simp [execOp, go_sem, e14]; try rfl) ⟨(), HF.out.put (by kernel_rfl) rfl rfl rfl (of_decide_eq_true rfl), HW.out.q hjl (by decide)⟩
  case fin =>
    rintro listed fr w2 x hF hW hr
    have all := allDoneB hr hF.q.ls (by kernel_rfl)
    obtain ⟨_, _, hw⟩ := hW
    have hw : w2 = w0 := hw
    subst hw
    rw [hF.full all]
    clear hF hr all
    simp only [List.foldl_cons, List.foldl_nil, fillF]
    go_simp
    go_wp2_with fail
    go_ret
    exact ⟨rfl, HB.out⟩
theorem k_hset (w : World) (p r k j : Nat) (s s' : SV) (q : QV) (h : Vq w p r s q) (off x : Int) (o0 : 0 ≤ off) (o1 : off < 4294967296) (hj : off / 4 % 2 = j) (hc : (svc r s).setIfInBounds (k + j) (.int .u32 x) = svc r s') (old : Int) (hold : w.cell? ⟨p, k + j, none⟩ = some (.int .u32 old)) : Calls Tryz.prog 264 #[.pointer (some ⟨p, k, none⟩), .int .u64 off, .int .u32 x] w fun e w' => e = .returned (.tuple #[]) ∧ Vq w' p r s' q ∧ Only (· = p) w w' := by
  have e1 : off.tdiv 4 = off / 4 := Int.tdiv_eq_ediv_of_nonneg o0
  have e2 : (off / 4).tmod 2 = off / 4 % 2 := Int.tmod_eq_emod_of_nonneg (by omega)
  have e3 : IntKind.u64.wrap (off / 4) = off / 4 := by rw [IntKind.wrap_u64]; omega
  have e4 : IntKind.u64.wrap (off / 4 % 2) = off / 4 % 2 := by rw [IntKind.wrap_u64]; omega
  have hz : w.frozen? ⟨p, k + j, none⟩ = false := frozen_of_row w p _ _ _ h.b
  have H := hid (h.put (k + j) (.int .u32 x) s' hc)
  have HO := hid (only_c w p (k + j) (.int .u32 x))
  have j2 : j < 2 := by omega
  generalize off / 4 = o4 at *
  obtain rfl | rfl : j = 0 ∨ j = 1 := by omega
  all_goals
    rw [hj] at e2 e4
    first
      | (replace e2 : o4.tmod 2 = 0 := e2; replace e4 : IntKind.u64.wrap 0 = 0 := e4)
      | (replace e2 : o4.tmod 2 = 1 := e2; replace e4 : IntKind.u64.wrap 1 = 1 := e4)
    clear hj e4
    try simp only [Nat.add_zero] at hold hz H HO
    go_enter Tryz.func264, Tryz.ntmps264
    go_wp2
    go_end0
    exact ⟨rfl, H.out, HO.out⟩
/-- what a queue's registers come to hold -/
def setS (s : SV) (off x : Int) : SV :=
  if off = 56 then { s with sz := x } else if off = 128 then { s with d0 := x } else if off = 132 then { s with d1 := x } else if off = 144 then { s with a0 := x } else if off = 148 then { s with a1 := x } else if off = 160 then { s with u0 := x } else if off = 164 then { s with u1 := x } else s
/-- what becomes of its ring -/
def setR (s : SV) (q : QV) (off x : Int) : QV := if off = 68 then (if x = 0 then q0 else if x = 1 then q.set s.sz s.dd s.aa s.uu else q) else q
/-- a queue is turned: the three words, then Setup -/
structure TW (w0 : World) (p r : Nat) (s : SV) (q : QV) (w : World) : Prop where
  vq : Vq w p r s q
  bel : Below w0.heap.size w0 w
structure TN (w0 : World) (p r : Nat) (s : SV) (q : QV) (x : Value) (listed : Array Bool) (w : World) : Prop where
  z : listed.getD 21 false = false → TW w0 p r s q w
  f : listed.getD 21 false = true → (∀ j, j < 21 → listed.getD j false = true) ∧ Vq w p r s (q.set s.sz s.dd s.aa s.uu) ∧ Only (· = r) w0 w
def vtT (p r : Nat) (s : SV) (x : Value) : Nat → Value := fun dd => if dd = 14 then .pointer (some ⟨p, 0, none⟩) else if dd = 15 then .pointer (some ⟨p, 0, none⟩) else if dd = 16 then .pointer (some ⟨p, 0, none⟩) else if dd = 17 then .pointer (some ⟨r, 0, none⟩) else if dd = 18 then .pointer (some ⟨p, 0, none⟩) else if dd = 19 then .pointer (some ⟨p, 0, none⟩) else if dd = 20 then .pointer (some ⟨p, 1, none⟩) else if dd = 21 then .int .u32 s.sz else if dd = 22 then .int .i64 s.sz else if dd = 23 then .pointer (some ⟨p, 0, none⟩) else if dd = 24 then .pointer (some ⟨p, 0, none⟩) else if dd = 25 then .pointer (some ⟨p, 2, none⟩) else if dd = 26 then .int .u64 s.dd else if dd = 27 then .pointer (some ⟨p, 0, none⟩) else if dd = 28 then .pointer (some ⟨p, 0, none⟩) else if dd = 29 then .pointer (some ⟨p, 4, none⟩) else if dd = 30 then .int .u64 s.aa else if dd = 31 then .pointer (some ⟨p, 0, none⟩) else if dd = 32 then .pointer (some ⟨p, 0, none⟩) else if dd = 33 then .pointer (some ⟨p, 6, none⟩) else if dd = 34 then .int .u64 s.uu else if dd = 35 then x else undef
section
variable {w0 w w' : World} {p r : Nat} {s : SV} {q : QV} {x : Value} {listed : Array Bool}
theorem TW.below (h : TW w0 p r s q w) (hb : Below w.heap.size w w') : TW w0 p r s q w' := ⟨h.vq.below hb, h.bel.trans (hb.mono h.bel.size)⟩
theorem TN.pre (h : TN w0 p r s q x listed w) {j : Nat} (hl : listed.getD j false = false) (hj : j < 21) : listed.getD 21 false = false ∧ TW w0 p r s q w := by
  cases z : listed.getD 21 false
  · exact ⟨rfl, h.z z⟩
  · have := (h.f z).1 j hj
    rw [hl] at this; cases this
theorem TN.mk0 {j : Nat} (hs : j < listed.size) (hL : listed.getD 21 false = false) (h : TW w0 p r s q w) (hj : 21 ≠ j := by decide) : TN w0 p r s q x (listed.setIfInBounds j true) w :=
  ⟨fun _ => h, fun z => by rw [getD_set _ _ _ hs, if_neg hj, hL] at z; cases z⟩
theorem TN.qu (h : TN w0 p r s q x listed w) {j : Nat} (hs : j < listed.size) (hl : listed.getD j false = false) (hj : j < 21) : TN w0 p r s q x (listed.setIfInBounds j true) w := by
  obtain ⟨h1, h2⟩ := h.pre hl hj
  exact TN.mk0 hs h1 h2 (by omega)
theorem TN.start {n : Nat} (h : Vq w0 p r s q) : TN w0 p r s q x (Array.replicate n false) w0 := by
  have z : ∀ n k, (Array.replicate n false).getD k false = false := fun n k => by
    simp only [Array.getD_eq_getD_getElem?, Array.getElem?_replicate]
    split <;> rfl
  exact ⟨fun _ => ⟨h, Below.refl _ _⟩, fun q => by rw [z] at q; cases q⟩
theorem TN.fin (hs : 21 < listed.size) (h : TW w0 p r s q w) (hall : ∀ j, j < 21 → (listed.setIfInBounds 21 true).getD j false = true) (k1 : Qb w' r (q.set s.sz s.dd s.aa s.uu)) (k2 : Only (· = r) w w') : TN w0 p r s q x (listed.setIfInBounds 21 true) w' :=
  ⟨fun z => (by rw [getD_set _ _ _ hs, if_pos rfl] at z; cases z), fun _ => ⟨hall, ⟨k2.old h.vq.b h.vq.ne, k1⟩, (Only.ofBelow h.bel).trans k2⟩⟩
theorem TN.c0 (h : TW w0 p r s q w) : w.cell? ⟨p, 0, none⟩ = some (.pointer (some ⟨r, 0, none⟩)) ∧ w.cell? ⟨p, 1, none⟩ = some (.int .u32 s.sz) := ⟨cell_of_row w p 0 _ _ _ h.vq.b, cell_of_row w p 1 _ _ _ h.vq.b⟩
end
set_option maxHeartbeats 4000000 in
theorem k_turn1 (w : World) (p r : Nat) (s : SV) (q : QV) (h : Vq w p r s q) (so : SOk s) : Calls Tryz.prog 263 #[.pointer (some ⟨p, 0, none⟩), .int .u32 1] w fun e w' => e = .returned (.tuple #[]) ∧ Vq w' p r s (q.set s.sz s.dd s.aa s.uu) ∧ Only (· = r) w w' := by
  have wsz : IntKind.i64.wrap s.sz = s.sz := by rw [IntKind.wrap_i64]; have := so.sz; omega
  have HWd := hid (fun (w1 : World) (h1 : TW w.drew p r s q w1) => (show Calls Tryz.prog 271 #[.pointer (some ⟨p, 2, none⟩)] w1 fun e w' => e = .returned (.int .u64 s.dd) ∧ Below w1.heap.size w1 w' from k_word w1 p 2 s.d0 s.d1 (cell_of_row w1 p 2 _ _ _ h1.vq.b) (cell_of_row w1 p 3 _ _ _ h1.vq.b) so.d1 so.d0))
  have HWa := hid (fun (w1 : World) (h1 : TW w.drew p r s q w1) => (show Calls Tryz.prog 271 #[.pointer (some ⟨p, 4, none⟩)] w1 fun e w' => e = .returned (.int .u64 s.aa) ∧ Below w1.heap.size w1 w' from k_word w1 p 4 s.a0 s.a1 (cell_of_row w1 p 4 _ _ _ h1.vq.b) (cell_of_row w1 p 5 _ _ _ h1.vq.b) so.a1 so.a0))
  have HWu := hid (fun (w1 : World) (h1 : TW w.drew p r s q w1) => (show Calls Tryz.prog 271 #[.pointer (some ⟨p, 6, none⟩)] w1 fun e w' => e = .returned (.int .u64 s.uu) ∧ Below w1.heap.size w1 w' from k_word w1 p 6 s.u0 s.u1 (cell_of_row w1 p 6 _ _ _ h1.vq.b) (cell_of_row w1 p 7 _ _ _ h1.vq.b) so.u1 so.u0))
  have HSu := hid (fun (w1 : World) (h1 : Qb w1 r q) => k_Setup w1 r q h1 s.sz s.dd s.aa s.uu (by have := so.sz; omega) (by have := so.sz; omega) (by have := so.d0; have := so.d1; unfold SV.dd; omega) (by have := so.d0; have := so.d1; unfold SV.dd; omega) (by have := so.a0; have := so.a1; unfold SV.aa; omega) (by have := so.a0; have := so.a1; unfold SV.aa; omega) (by have := so.u0; have := so.u1; unfold SV.uu; omega) (by have := so.u0; have := so.u1; unfold SV.uu; omega))
  have HV : Hid (Vq w.drew p r s q) := ⟨h.b, h.r⟩
  have HO : Hid (∀ w', Only (· = r) w.drew w' → Only (· = r) w w') := fun w' ho => ((Only.refl (S := (· = r)) w).drew).trans ho
  clear h so
  go_enter Tryz.func263, Tryz.ntmps263
  go_upto_region 4 with fail
  refine wp_region_any (by kernel_rfl) ?_
  rw [show ({ w with drawn := w.drawn + 1 } : World) = w.drew from rfl]
  generalize w.drew = w0 at *
  refine wpAny_fz (α := Value) (vtT p r s) (fun x listed w => TN w0 p r s q x listed w) ?step ?fin undef ?start
  case start => exact TN.start HV.out
  case step =>
    rintro listed fr wr x hF hW hC i hj
    obtain ⟨hl, o, ho, he⟩ := mem_ready.1 hj
    have hjl : i < listed.size := by rw [hF.q.ls]; exact (Array.getElem?_eq_some_iff.1 ho).1
    have hl0 := getD_tf hjl hl
    clear hj
    have HF := hid hF
    have HW := hid hW
    have HE := hid he
    have HC := hid hC
    clear hF hW he hl hC
    match i, ho with
    | 0, ho =>
      obtain rfl := Option.some.inj ho
      have e0 : fr.tmps[0]?.getD undef = .pointer (some ⟨p, 0, none⟩) := HF.out.base 0 (by kernel_rfl) rfl
      exact wp_q rfl rfl (by simp [execOp, go_sem, e0]; try rfl) ⟨x, HF.out.put (by kernel_rfl) rfl rfl rfl (of_decide_eq_true rfl), HW.out.qu hjl hl0 (by decide)⟩
    | 1, ho =>
      obtain rfl := Option.some.inj ho
      have e14 : fr.tmps[14]?.getD undef = .pointer (some ⟨p, 0, none⟩) := HF.out.ev (i := 0) rfl rfl (HE.out ⟨0, .data⟩ (by simp) rfl)
      exact wp_q rfl rfl (by simp [execOp, go_sem, e14]; try rfl) ⟨x, HF.out.put (by kernel_rfl) rfl rfl rfl (of_decide_eq_true rfl), HW.out.qu hjl hl0 (by decide)⟩
    | 2, ho =>
      obtain rfl := Option.some.inj ho
      have e15 : fr.tmps[15]?.getD undef = .pointer (some ⟨p, 0, none⟩) := HF.out.ev (i := 1) rfl rfl (HE.out ⟨1, .data⟩ (by simp) rfl)
      exact wp_q rfl rfl (by simp [execOp, go_sem, e15]; try rfl) ⟨x, HF.out.put (by kernel_rfl) rfl rfl rfl (of_decide_eq_true rfl), HW.out.qu hjl hl0 (by decide)⟩
    | 3, ho =>
      obtain rfl := Option.some.inj ho
      have e16 : fr.tmps[16]?.getD undef = .pointer (some ⟨p, 0, none⟩) := HF.out.ev (i := 2) rfl rfl (HE.out ⟨2, .data⟩ (by simp) rfl)
      have hc := (TN.c0 (HW.out.pre (j := 3) hl0 (by decide)).2).1
      exact wp_q rfl rfl (by simp [execOp, go_sem, e16, hc]; try rfl) ⟨x, HF.out.put (by kernel_rfl) rfl rfl rfl (of_decide_eq_true rfl), HW.out.qu hjl hl0 (by decide)⟩
    | 4, ho =>
      obtain rfl := Option.some.inj ho
      have e0 : fr.tmps[0]?.getD undef = .pointer (some ⟨p, 0, none⟩) := HF.out.base 0 (by kernel_rfl) rfl
      exact wp_q rfl rfl (by simp [execOp, go_sem, e0]; try rfl) ⟨x, HF.out.put (by kernel_rfl) rfl rfl rfl (of_decide_eq_true rfl), HW.out.qu hjl hl0 (by decide)⟩
    | 5, ho =>
      obtain rfl := Option.some.inj ho
      have e18 : fr.tmps[18]?.getD undef = .pointer (some ⟨p, 0, none⟩) := HF.out.ev (i := 4) rfl rfl (HE.out ⟨4, .data⟩ (by simp) rfl)
      exact wp_q rfl rfl (by simp [execOp, go_sem, e18]; try rfl) ⟨x, HF.out.put (by kernel_rfl) rfl rfl rfl (of_decide_eq_true rfl), HW.out.qu hjl hl0 (by decide)⟩
    | 6, ho =>
      obtain rfl := Option.some.inj ho
      have e19 : fr.tmps[19]?.getD undef = .pointer (some ⟨p, 0, none⟩) := HF.out.ev (i := 5) rfl rfl (HE.out ⟨5, .data⟩ (by simp) rfl)
      exact wp_q rfl rfl (by simp [execOp, go_sem, e19]; try rfl) ⟨x, HF.out.put (by kernel_rfl) rfl rfl rfl (of_decide_eq_true rfl), HW.out.qu hjl hl0 (by decide)⟩
    | 7, ho =>
      obtain rfl := Option.some.inj ho
      have e20 : fr.tmps[20]?.getD undef = .pointer (some ⟨p, 1, none⟩) := HF.out.ev (i := 6) rfl rfl (HE.out ⟨6, .data⟩ (by simp) rfl)
      have hc := (TN.c0 (HW.out.pre (j := 7) hl0 (by decide)).2).2
      exact wp_q rfl rfl (by simp [execOp, go_sem, e20, hc]; try rfl) ⟨x, HF.out.put (by kernel_rfl) rfl rfl rfl (of_decide_eq_true rfl), HW.out.qu hjl hl0 (by decide)⟩
    | 8, ho =>
      obtain rfl := Option.some.inj ho
      have e21 : fr.tmps[21]?.getD undef = .int .u32 s.sz := HF.out.ev (i := 7) rfl rfl (HE.out ⟨7, .data⟩ (by simp) rfl)
      exact wp_q rfl rfl (by simp [execOp, go_sem, e21, wsz]; try rfl) ⟨x, HF.out.put (by kernel_rfl) rfl rfl rfl (of_decide_eq_true rfl), HW.out.qu hjl hl0 (by decide)⟩
    | 9, ho =>
      obtain rfl := Option.some.inj ho
      have e0 : fr.tmps[0]?.getD undef = .pointer (some ⟨p, 0, none⟩) := HF.out.base 0 (by kernel_rfl) rfl
      exact wp_q rfl rfl (by simp [execOp, go_sem, e0]; try rfl) ⟨x, HF.out.put (by kernel_rfl) rfl rfl rfl (of_decide_eq_true rfl), HW.out.qu hjl hl0 (by decide)⟩
    | 10, ho =>
      obtain rfl := Option.some.inj ho
      have e23 : fr.tmps[23]?.getD undef = .pointer (some ⟨p, 0, none⟩) := HF.out.ev (i := 9) rfl rfl (HE.out ⟨9, .data⟩ (by simp) rfl)
      exact wp_q rfl rfl (by simp [execOp, go_sem, e23]; try rfl) ⟨x, HF.out.put (by kernel_rfl) rfl rfl rfl (of_decide_eq_true rfl), HW.out.qu hjl hl0 (by decide)⟩
    | 11, ho =>
      obtain rfl := Option.some.inj ho
      have e24 : fr.tmps[24]?.getD undef = .pointer (some ⟨p, 0, none⟩) := HF.out.ev (i := 10) rfl rfl (HE.out ⟨10, .data⟩ (by simp) rfl)
      exact wp_q rfl rfl (by simp [execOp, go_sem, e24]; try rfl) ⟨x, HF.out.put (by kernel_rfl) rfl rfl rfl (of_decide_eq_true rfl), HW.out.qu hjl hl0 (by decide)⟩
    | 12, ho =>
      obtain rfl := Option.some.inj ho
      have e25 : fr.tmps[25]?.getD undef = .pointer (some ⟨p, 2, none⟩) := HF.out.ev (i := 11) rfl rfl (HE.out ⟨11, .data⟩ (by simp) rfl)
      obtain ⟨hL, hw⟩ := HW.out.pre (j := 12) hl0 (by decide)
      refine wp_c1 rfl rfl _ _ _ rfl (.pointer (some ⟨p, 2, none⟩)) (by simp [Act.eval, e25]) (Tryz.call271 _ _) (HWd.out _ hw) ?_
      rintro e' w7 ⟨rfl, k1⟩
      exact ⟨_, rfl, x, HF.out.put (by kernel_rfl) rfl rfl rfl (of_decide_eq_true rfl), TN.mk0 hjl hL (hw.below k1)⟩
    | 13, ho =>
      obtain rfl := Option.some.inj ho
      have e0 : fr.tmps[0]?.getD undef = .pointer (some ⟨p, 0, none⟩) := HF.out.base 0 (by kernel_rfl) rfl
      exact wp_q rfl rfl (by simp [execOp, go_sem, e0]; try rfl) ⟨x, HF.out.put (by kernel_rfl) rfl rfl rfl (of_decide_eq_true rfl), HW.out.qu hjl hl0 (by decide)⟩
    | 14, ho =>
      obtain rfl := Option.some.inj ho
      have e27 : fr.tmps[27]?.getD undef = .pointer (some ⟨p, 0, none⟩) := HF.out.ev (i := 13) rfl rfl (HE.out ⟨13, .data⟩ (by simp) rfl)
      exact wp_q rfl rfl (by simp [execOp, go_sem, e27]; try rfl) ⟨x, HF.out.put (by kernel_rfl) rfl rfl rfl (of_decide_eq_true rfl), HW.out.qu hjl hl0 (by decide)⟩
    | 15, ho =>
      obtain rfl := Option.some.inj ho
      have e28 : fr.tmps[28]?.getD undef = .pointer (some ⟨p, 0, none⟩) := HF.out.ev (i := 14) rfl rfl (HE.out ⟨14, .data⟩ (by simp) rfl)
      exact wp_q rfl rfl (by simp [execOp, go_sem, e28]; try rfl) ⟨x, HF.out.put (by kernel_rfl) rfl rfl rfl (of_decide_eq_true rfl), HW.out.qu hjl hl0 (by decide)⟩
    | 16, ho =>
      obtain rfl := Option.some.inj ho
      have e29 : fr.tmps[29]?.getD undef = .pointer (some ⟨p, 4, none⟩) := HF.out.ev (i := 15) rfl rfl (HE.out ⟨15, .data⟩ (by simp) rfl)
      obtain ⟨hL, hw⟩ := HW.out.pre (j := 16) hl0 (by decide)
      refine wp_c1 rfl rfl _ _ _ rfl (.pointer (some ⟨p, 4, none⟩)) (by simp [Act.eval, e29]) (Tryz.call271 _ _) (HWa.out _ hw) ?_
      rintro e' w7 ⟨rfl, k1⟩
      exact ⟨_, rfl, x, HF.out.put (by kernel_rfl) rfl rfl rfl (of_decide_eq_true rfl), TN.mk0 hjl hL (hw.below k1)⟩
    | 17, ho =>
      obtain rfl := Option.some.inj ho
      have e0 : fr.tmps[0]?.getD undef = .pointer (some ⟨p, 0, none⟩) := HF.out.base 0 (by kernel_rfl) rfl
      exact wp_q rfl rfl (by simp [execOp, go_sem, e0]; try rfl) ⟨x, HF.out.put (by kernel_rfl) rfl rfl rfl (of_decide_eq_true rfl), HW.out.qu hjl hl0 (by decide)⟩
    | 18, ho =>
      obtain rfl := Option.some.inj ho
      have e31 : fr.tmps[31]?.getD undef = .pointer (some ⟨p, 0, none⟩) := HF.out.ev (i := 17) rfl rfl (HE.out ⟨17, .data⟩ (by simp) rfl)
      exact wp_q rfl rfl (by simp [execOp, go_sem, e31]; try rfl) ⟨x, HF.out.put (by kernel_rfl) rfl rfl rfl (of_decide_eq_true rfl), HW.out.qu hjl hl0 (by decide)⟩
    | 19, ho =>
      obtain rfl := Option.some.inj ho
      have e32 : fr.tmps[32]?.getD undef = .pointer (some ⟨p, 0, none⟩) := HF.out.ev (i := 18) rfl rfl (HE.out ⟨18, .data⟩ (by simp) rfl)
      exact wp_q rfl rfl (by simp [execOp, go_sem, e32]; try rfl) ⟨x, HF.out.put (by kernel_rfl) rfl rfl rfl (of_decide_eq_true rfl), HW.out.qu hjl hl0 (by decide)⟩
    | 20, ho =>
      obtain rfl := Option.some.inj ho
      have e33 : fr.tmps[33]?.getD undef = .pointer (some ⟨p, 6, none⟩) := HF.out.ev (i := 19) rfl rfl (HE.out ⟨19, .data⟩ (by simp) rfl)
      obtain ⟨hL, hw⟩ := HW.out.pre (j := 20) hl0 (by decide)
      refine wp_c1 rfl rfl _ _ _ rfl (.pointer (some ⟨p, 6, none⟩)) (by simp [Act.eval, e33]) (Tryz.call271 _ _) (HWu.out _ hw) ?_
      rintro e' w7 ⟨rfl, k1⟩
      exact ⟨_, rfl, x, HF.out.put (by kernel_rfl) rfl rfl rfl (of_decide_eq_true rfl), TN.mk0 hjl hL (hw.below k1)⟩
    | 21, ho =>
      obtain rfl := Option.some.inj ho
      have e17 : fr.tmps[17]?.getD undef = .pointer (some ⟨r, 0, none⟩) := HF.out.ev (i := 3) rfl rfl (HE.out ⟨3, .data⟩ (by simp) rfl)
      have e22 : fr.tmps[22]?.getD undef = .int .i64 s.sz := HF.out.ev (i := 8) rfl rfl (HE.out ⟨8, .data⟩ (by simp) rfl)
      have e26 : fr.tmps[26]?.getD undef = .int .u64 s.dd := HF.out.ev (i := 12) rfl rfl (HE.out ⟨12, .data⟩ (by simp) rfl)
      have e30 : fr.tmps[30]?.getD undef = .int .u64 s.aa := HF.out.ev (i := 16) rfl rfl (HE.out ⟨16, .data⟩ (by simp) rfl)
      have e34 : fr.tmps[34]?.getD undef = .int .u64 s.uu := HF.out.ev (i := 20) rfl rfl (HE.out ⟨20, .data⟩ (by simp) rfl)
      have hL : listed.getD 21 false = false := hl0
      have hw := HW.out.z hL
      have hcl := HC.out.set hjl rfl HE.out
      have hsw := fun v' => HF.out.swapD (vt' := vtT p r s v') (by kernel_rfl) (fun d => by
        by_cases z0 : d = 35
        · subst z0; exact .inr ⟨21, _, rfl, rfl, hl0⟩
        · left; simp only [vtT, if_neg z0])
      refine wp_c5w rfl (by simp [Region.wanted]) _ _ _ _ _ _ _ rfl (.pointer (some ⟨r, 0, none⟩)) (.int .i64 s.sz) (.int .u64 s.dd) (.int .u64 s.aa) (.int .u64 s.uu) (by simp [Act.eval, e17]) (by simp [Act.eval, e22]) (by simp [Act.eval, e26]) (by simp [Act.eval, e30]) (by simp [Act.eval, e34]) (Tryz.call270 _ _) (HSu.out _ hw.vq.r) ?_
      rintro e' w7 ⟨rfl, k1, k2⟩
      exact ⟨_, rfl, _, (hsw _).put (by kernel_rfl) rfl rfl rfl (of_decide_eq_true rfl), TN.fin hjl hw (fun j hj => hcl.all (n := 21) (by kernel_rfl) (by rw [getD_set _ _ _ hjl, if_pos rfl]) (21 - j) j (by omega)) k1 k2⟩
  case fin =>
    rintro listed fr w2 x hF hW hr
    have all := allDone hr hF.q.ls (by kernel_rfl)
    have hfin := hW.f (all 21 (by decide))
    rw [hF.full all]
    have HFI := hid hfin
    clear hF hr all hW hfin
    simp only [List.foldl_cons, List.foldl_nil, fillF]
    go_simp
    go_wp2_with fail
    go_end0
    exact ⟨rfl, HFI.out.2.1, HO.out _ HFI.out.2.2⟩
end Go.Proofs.YtjkihlpckgaggaaGreat
namespace Go.Proofs.YtjkihlpckgaggaaGreat
open Go.RowKit
open C (Only hid Still ret_bool ret_int)
set_option linter.unusedVariables false
set_option maxRecDepth 100000

def pr2 (p r : Nat) (k : Nat) : Prop := k = p ∨ k = r
theorem only_p {w w' : World} {p r : Nat} (h : Only (· = p) w w') : Only (pr2 p r) w w' := h.mono fun k _ z => .inl z
theorem only_r {w w' : World} {p r : Nat} (h : Only (· = r) w w') : Only (pr2 p r) w w' := h.mono fun k _ z => .inr z
theorem k_turn (w : World) (p r : Nat) (s : SV) (q : QV) (h : Vq w p r s q) (so : SOk s) (x : Int) : Calls Tryz.prog 263 #[.pointer (some ⟨p, 0, none⟩), .int .u32 x] w fun e w' => e = .returned (.tuple #[]) ∧ Vq w' p r s (if x = 0 then q0 else if x = 1 then q.set s.sz s.dd s.aa s.uu else q) ∧ Only (· = r) w w' := by
  by_cases h0 : x = 0
  · subst h0
    rw [if_pos rfl]
    have c0 : w.cell? ⟨p, 0, none⟩ = some (.pointer (some ⟨r, 0, none⟩)) := cell_of_row w p 0 _ _ _ h.b
    have hr := k_Reset w r q h.r
    have H := hid h
    clear h so
    go_enter Tryz.func263, Tryz.ntmps263
    go_wp2_with (go_at_call 269; refine hr.mono ?_; rintro e w2 ⟨rfl, k1, k2⟩; have K1 := hid k1; have K2 := hid k2; clear k1 k2)
    go_end0
    exact ⟨rfl, ⟨K2.out.old H.out.b H.out.ne, K1.out⟩, K2.out⟩
  · rw [if_neg h0]
    by_cases h1 : x = 1
    · subst h1; rw [if_pos rfl]; exact k_turn1 w p r s q h so
    · rw [if_neg h1]
      have H := hid h
      have e0 : (x == 0) = false := by simp [h0]
      have e1 : (x == 1) = false := by simp [h1]
      clear h so h0 h1
      go_enter Tryz.func263, Tryz.ntmps263
      go_wp2
      go_end0
      exact ⟨rfl, H.out, Only.refl w⟩
section
variable {w : World} {p r : Nat} {s : SV} {q : QV}
theorem k_set_128 (h : Vq w p r s q) (x : Int) : Calls Tryz.prog 256 #[.pointer (some ⟨p, 0, none⟩), .int .u64 128, .int .u32 x] w fun e w' => e = .returned (.tuple #[]) ∧ Vq w' p r (setS s 128 x) (setR s q 128 x) ∧ Only (pr2 p r) w w' := by
  have hk := k_hset w p r 2 0 s (setS s 128 x) q h 128 x (by decide) (by decide) (by decide) (by rw [show setS s 128 x = { s with d0 := x } from by simp [setS]]; rfl) s.d0 (cell_of_row w p 2 _ _ _ h.b)
  rw [show setR s q 128 x = q from by simp [setR]]
  generalize setS s 128 x = s' at *
  clear h
  go_enter Tryz.func256, Tryz.ntmps256
  go_wp2_with (go_at_call 264; refine hk.mono ?_; rintro e w2 ⟨rfl, k1, k2⟩; have K1 := hid k1; have K2 := hid k2; clear k1 k2)
  go_end0
  exact ⟨rfl, K1.out, only_p K2.out⟩
theorem k_set_132 (h : Vq w p r s q) (x : Int) : Calls Tryz.prog 256 #[.pointer (some ⟨p, 0, none⟩), .int .u64 132, .int .u32 x] w fun e w' => e = .returned (.tuple #[]) ∧ Vq w' p r (setS s 132 x) (setR s q 132 x) ∧ Only (pr2 p r) w w' := by
  have hk := k_hset w p r 2 1 s (setS s 132 x) q h 132 x (by decide) (by decide) (by decide) (by rw [show setS s 132 x = { s with d1 := x } from by simp [setS]]; rfl) s.d1 (cell_of_row w p 3 _ _ _ h.b)
  rw [show setR s q 132 x = q from by simp [setR]]
  generalize setS s 132 x = s' at *
  clear h
  go_enter Tryz.func256, Tryz.ntmps256
  go_wp2_with (go_at_call 264; refine hk.mono ?_; rintro e w2 ⟨rfl, k1, k2⟩; have K1 := hid k1; have K2 := hid k2; clear k1 k2)
  go_end0
  exact ⟨rfl, K1.out, only_p K2.out⟩
theorem k_set_144 (h : Vq w p r s q) (x : Int) : Calls Tryz.prog 256 #[.pointer (some ⟨p, 0, none⟩), .int .u64 144, .int .u32 x] w fun e w' => e = .returned (.tuple #[]) ∧ Vq w' p r (setS s 144 x) (setR s q 144 x) ∧ Only (pr2 p r) w w' := by
  have hk := k_hset w p r 4 0 s (setS s 144 x) q h 144 x (by decide) (by decide) (by decide) (by rw [show setS s 144 x = { s with a0 := x } from by simp [setS]]; rfl) s.a0 (cell_of_row w p 4 _ _ _ h.b)
  rw [show setR s q 144 x = q from by simp [setR]]
  generalize setS s 144 x = s' at *
  clear h
  go_enter Tryz.func256, Tryz.ntmps256
  go_wp2_with (go_at_call 264; refine hk.mono ?_; rintro e w2 ⟨rfl, k1, k2⟩; have K1 := hid k1; have K2 := hid k2; clear k1 k2)
  go_end0
  exact ⟨rfl, K1.out, only_p K2.out⟩
theorem k_set_148 (h : Vq w p r s q) (x : Int) : Calls Tryz.prog 256 #[.pointer (some ⟨p, 0, none⟩), .int .u64 148, .int .u32 x] w fun e w' => e = .returned (.tuple #[]) ∧ Vq w' p r (setS s 148 x) (setR s q 148 x) ∧ Only (pr2 p r) w w' := by
  have hk := k_hset w p r 4 1 s (setS s 148 x) q h 148 x (by decide) (by decide) (by decide) (by rw [show setS s 148 x = { s with a1 := x } from by simp [setS]]; rfl) s.a1 (cell_of_row w p 5 _ _ _ h.b)
  rw [show setR s q 148 x = q from by simp [setR]]
  generalize setS s 148 x = s' at *
  clear h
  go_enter Tryz.func256, Tryz.ntmps256
  go_wp2_with (go_at_call 264; refine hk.mono ?_; rintro e w2 ⟨rfl, k1, k2⟩; have K1 := hid k1; have K2 := hid k2; clear k1 k2)
  go_end0
  exact ⟨rfl, K1.out, only_p K2.out⟩
theorem k_set_160 (h : Vq w p r s q) (x : Int) : Calls Tryz.prog 256 #[.pointer (some ⟨p, 0, none⟩), .int .u64 160, .int .u32 x] w fun e w' => e = .returned (.tuple #[]) ∧ Vq w' p r (setS s 160 x) (setR s q 160 x) ∧ Only (pr2 p r) w w' := by
  have hk := k_hset w p r 6 0 s (setS s 160 x) q h 160 x (by decide) (by decide) (by decide) (by rw [show setS s 160 x = { s with u0 := x } from by simp [setS]]; rfl) s.u0 (cell_of_row w p 6 _ _ _ h.b)
  rw [show setR s q 160 x = q from by simp [setR]]
  generalize setS s 160 x = s' at *
  clear h
  go_enter Tryz.func256, Tryz.ntmps256
  go_wp2_with (go_at_call 264; refine hk.mono ?_; rintro e w2 ⟨rfl, k1, k2⟩; have K1 := hid k1; have K2 := hid k2; clear k1 k2)
  go_end0
  exact ⟨rfl, K1.out, only_p K2.out⟩
theorem k_set_164 (h : Vq w p r s q) (x : Int) : Calls Tryz.prog 256 #[.pointer (some ⟨p, 0, none⟩), .int .u64 164, .int .u32 x] w fun e w' => e = .returned (.tuple #[]) ∧ Vq w' p r (setS s 164 x) (setR s q 164 x) ∧ Only (pr2 p r) w w' := by
  have hk := k_hset w p r 6 1 s (setS s 164 x) q h 164 x (by decide) (by decide) (by decide) (by rw [show setS s 164 x = { s with u1 := x } from by simp [setS]]; rfl) s.u1 (cell_of_row w p 7 _ _ _ h.b)
  rw [show setR s q 164 x = q from by simp [setR]]
  generalize setS s 164 x = s' at *
  clear h
  go_enter Tryz.func256, Tryz.ntmps256
  go_wp2_with (go_at_call 264; refine hk.mono ?_; rintro e w2 ⟨rfl, k1, k2⟩; have K1 := hid k1; have K2 := hid k2; clear k1 k2)
  go_end0
  exact ⟨rfl, K1.out, only_p K2.out⟩
theorem k_set_56 (h : Vq w p r s q) (x : Int) : Calls Tryz.prog 256 #[.pointer (some ⟨p, 0, none⟩), .int .u64 56, .int .u32 x] w fun e w' => e = .returned (.tuple #[]) ∧ Vq w' p r (setS s 56 x) (setR s q 56 x) ∧ Only (pr2 p r) w w' := by
  have c1 : w.cell? ⟨p, 1, none⟩ = some (.int .u32 s.sz) := cell_of_row w p 1 _ _ _ h.b
  have z1 : w.frozen? ⟨p, 1, none⟩ = false := frozen_of_row w p 1 _ _ h.b
  have H := hid (h.put 1 (.int .u32 x) (setS s 56 x) (by rw [show setS s 56 x = { s with sz := x } from by simp [setS]]; rfl))
  rw [show setR s q 56 x = q from by simp [setR]]
  generalize setS s 56 x = s' at *
  clear h
  go_enter Tryz.func256, Tryz.ntmps256
  go_wp2
  go_end0
  exact ⟨rfl, H.out, only_p (only_c w p 1 _)⟩
theorem k_set_68 (h : Vq w p r s q) (so : SOk s) (x : Int) : Calls Tryz.prog 256 #[.pointer (some ⟨p, 0, none⟩), .int .u64 68, .int .u32 x] w fun e w' => e = .returned (.tuple #[]) ∧ Vq w' p r (setS s 68 x) (setR s q 68 x) ∧ Only (pr2 p r) w w' := by
  have hk := k_turn w p r s q h so x
  rw [show setS s 68 x = s from by simp [setS], show setR s q 68 x = if x = 0 then q0 else if x = 1 then q.set s.sz s.dd s.aa s.uu else q from by simp [setR]]
  generalize (if x = 0 then q0 else if x = 1 then q.set s.sz s.dd s.aa s.uu else q) = q' at *
  clear h so
  go_enter Tryz.func256, Tryz.ntmps256
  go_wp2_with (go_at_call 263; refine hk.mono ?_; rintro e w2 ⟨rfl, k1, k2⟩; have K1 := hid k1; have K2 := hid k2; clear k1 k2)
  go_end0
  exact ⟨rfl, K1.out, only_r K2.out⟩
def isQ (off : Int) : Bool := off == 56 || off == 68 || off == 128 || off == 132 || off == 144 || off == 148 || off == 160 || off == 164
theorem k_set_else (h : Vq w p r s q) (off x : Int) (hk : isQ off = false) : Calls Tryz.prog 256 #[.pointer (some ⟨p, 0, none⟩), .int .u64 off, .int .u32 x] w fun e w' => e = .returned (.tuple #[]) ∧ Vq w' p r (setS s off x) (setR s q off x) ∧ Only (pr2 p r) w w' := by
  unfold isQ at hk
  simp only [Bool.or_eq_false_iff] at hk
  obtain ⟨⟨⟨⟨⟨⟨⟨h0, h1⟩, h2⟩, h3⟩, h4⟩, h5⟩, h6⟩, h7⟩ := hk
  have e1 : setS s off x = s := by simp at h0 h1 h2 h3 h4 h5 h6 h7; simp [setS, h0, h2, h3, h4, h5, h6, h7]
  have e2 : setR s q off x = q := by simp at h1; simp [setR, h1]
  rw [e1, e2]
  have H := hid h
  clear h e1 e2
  go_enter Tryz.func256, Tryz.ntmps256
  go_wp2
  go_end0
  exact ⟨rfl, H.out, Only.refl w⟩
theorem k_set (h : Vq w p r s q) (so : SOk s) (off x : Int) : Calls Tryz.prog 256 #[.pointer (some ⟨p, 0, none⟩), .int .u64 off, .int .u32 x] w fun e w' => e = .returned (.tuple #[]) ∧ Vq w' p r (setS s off x) (setR s q off x) ∧ Only (pr2 p r) w w' := by
  cases hk : isQ off
  · exact k_set_else h off x hk
  · unfold isQ at hk
    simp only [Bool.or_eq_true, beq_iff_eq] at hk
    rcases hk with ((((((rfl | rfl) | rfl) | rfl) | rfl) | rfl) | rfl) | rfl
    · exact k_set_56 h x
    · exact k_set_68 h so x
    · exact k_set_128 h x
    · exact k_set_132 h x
    · exact k_set_144 h x
    · exact k_set_148 h x
    · exact k_set_160 h x
    · exact k_set_164 h x
theorem SOk.set (so : SOk s) (off x : Int) (x0 : 0 ≤ x) (x1 : x < 4294967296) : SOk (setS s off x) := by
  unfold setS
  repeat' split
  · exact ⟨⟨x0, x1⟩, so.d0, so.d1, so.a0, so.a1, so.u0, so.u1⟩
  · exact ⟨so.sz, ⟨x0, x1⟩, so.d1, so.a0, so.a1, so.u0, so.u1⟩
  · exact ⟨so.sz, so.d0, ⟨x0, x1⟩, so.a0, so.a1, so.u0, so.u1⟩
  · exact ⟨so.sz, so.d0, so.d1, ⟨x0, x1⟩, so.a1, so.u0, so.u1⟩
  · exact ⟨so.sz, so.d0, so.d1, so.a0, ⟨x0, x1⟩, so.u0, so.u1⟩
  · exact ⟨so.sz, so.d0, so.d1, so.a0, so.a1, ⟨x0, x1⟩, so.u1⟩
  · exact ⟨so.sz, so.d0, so.d1, so.a0, so.a1, so.u0, ⟨x0, x1⟩⟩
  · exact so
theorem QOk.srR (qo : QOk q) (so : SOk s) (off x : Int) : QOk (setR s q off x) := by
  unfold setR
  repeat' split
  · exact q0_ok
  · exact qo.set _ _ _ _ (by have := so.d0; have := so.d1; unfold SV.dd; omega) (by have := so.a0; have := so.a1; unfold SV.aa; omega) (by have := so.u0; have := so.u1; unfold SV.uu; omega)
  · exact qo
  · exact qo
theorem s_dqu : (Tryz.prog.info? 236).map (·.size) = some 8 := by kernel_rfl
theorem svc_one (r : Nat) (s : SV) : (svc r s).all (·.oneCell') = true := by
  rw [Array.all_eq_true_iff_forall_mem]; intro x hx; simp [svc] at hx; rcases hx with rfl | rfl | rfl | rfl | rfl | rfl | rfl | rfl <;> rfl
theorem wpL_stV {ops : Array Oper} {rest : List Oper} {d : Option Nat} {ty : TypeId} {x y : Operand} {pos : String} {after : Array Edge} {Q : Exit → Act → World → Prop} {a : Act} {w : World} (g r : Nat) (s s' : SV) (hx : a.eval x = .pointer (some ⟨g, 0, none⟩)) (hy : a.eval y = .agg (svc r s'))
    (hg : w.heap[g]? = some (.cells (svc r s) 236 (0, 0))) (hK : wpList Tryz.prog ops Q rest (a.put d undef) (w.setRow g (svc r s'))) :
    wpList Tryz.prog ops Q ({ dst := d, op := Op.store 236 x y, type := ty, pos := pos, after := after, guard := none } :: rest) a w :=
  wpList_store_row rfl 236 x y rfl g _ hx hy 236 _ hg s_dqu rfl (svc_one r s') hK
theorem k_vreset (h : Vq w p r s q) : Calls Tryz.prog 268 #[.pointer (some ⟨p, 0, none⟩)] w fun e w' => e = .returned (.tuple #[]) ∧ Vq w' p r s0 q0 ∧ Only (pr2 p r) w w' := by
  have c0 : w.cell? ⟨p, 0, none⟩ = some (.pointer (some ⟨r, 0, none⟩)) := cell_of_row w p 0 _ _ _ h.b
  have hr := k_Reset w r q h.r
  have H := hid h
  clear h
  go_enter Tryz.func268, Tryz.ntmps268
  go_wp2_with (first
    | (go_at_call 269; refine hr.mono ?_; rintro e w2 ⟨rfl, k1, k2⟩; have hb2 := k2.old H.out.b H.out.ne; have c2 : w2.cell? ⟨p, 0, none⟩ = some (.pointer (some ⟨r, 0, none⟩)) := cell_of_row w2 p 0 _ _ _ hb2; have HB2 := hid hb2; have K1 := hid k1; have K2 := hid k2; clear k1 k2 hb2)
    | ((with_reducible refine wpL_stV p r s s0 ?_ ?_ HB2.out ?_); rfl; rfl))
  go_end0
  have ho : Only (· = p) w2 (w2.setRow p (svc r s0)) := (Only.refl (S := (· = p)) w2).setRow (.inl rfl) _
  exact ⟨rfl, ⟨setRow_heap w2 p _ _ _ _ HB2.out, K1.out.only ho (fun z => H.out.ne z.symm)⟩, (only_r K2.out).trans (only_p ho)⟩
end
end Go.Proofs.YtjkihlpckgaggaaGreat
namespace Go.Proofs.YtjkihlpckgaggaaGreat
open Go.RowKit
open C (Only hid Still ret_bool ret_int)
set_option linter.unusedVariables false
set_option maxRecDepth 100000

def up {α : Type} (f : Nat → α) (i : Nat) (x : α) : Nat → α := fun j => if j = i then x else f j
theorem up_self {α : Type} (f : Nat → α) (i : Nat) : up f i (f i) = f := by funext j; unfold up; split; rename_i h; rw [h]; rfl
structure DX (w : World) (e n : Nat) (qb rq : Nat → Nat) (v : DV) (s : Nat → SV) (q : Nat → QV) : Prop where
  dv : Dv w e v
  qs : QS w v.qs n qb rq s q
  ok : DOk v n
  so : ∀ i, i < n → SOk (s i)
  qo : ∀ i, i < n → QOk (q i)
/-- its blocks -/
def DF (e n : Nat) (qb rq : Nat → Nat) (k : Nat) : Prop := k = e ∨ ∃ i, i < n ∧ (k = qb i ∨ k = rq i)
theorem ty_ne {w : World} {a b : Nat} {c d : Array Value} {t u : TypeId} {f g : Nat × Nat} (ha : w.heap[a]? = some (.cells c t f)) (hb : w.heap[b]? = some (.cells d u g)) (h : t ≠ u) : a ≠ b := fun z => by
  subst z; rw [ha] at hb; injection hb with hb; injection hb with _ hb; exact h hb
section
variable {w w' : World} {e n : Nat} {qb rq : Nat → Nat} {v v' : DV} {s : Nat → SV} {q : Nat → QV}
theorem DX.vq (h : DX w e n qb rq v s q) (i : Nat) (hi : i < n) : Vq w (qb i) (rq i) (s i) (q i) := ⟨h.qs.q i hi, h.qs.r i hi⟩
theorem DX.types (h : DX w e n qb rq v s q) (k : Nat) (hk : DF e n qb rq k) : ∃ c t f, w.heap[k]? = some (.cells c t f) ∧ (t = 225 ∨ t = 236 ∨ t = 251) := by
  rcases hk with rfl | ⟨i, hi, rfl | rfl⟩
  · obtain ⟨d, m, hb⟩ := h.dv.blk; exact ⟨_, _, _, hb, .inl rfl⟩
  · exact ⟨_, _, _, h.qs.q i hi, .inr (.inl rfl)⟩
  · exact ⟨_, _, _, h.qs.r i hi, .inr (.inr rfl)⟩
theorem QS.typ (h : QS w v.qs n qb rq s q) {T : Nat → Prop} (ho : Only T w w') (h1 : ∀ k cur, w.heap[k]? = some (.cells cur 231 (0, 0)) → ¬ T k) (h2 : ∀ i, i < n → ¬ T (qb i)) (h3 : ∀ i, i < n → ¬ T (rq i)) : QS w' v.qs n qb rq s q :=
  ⟨own_only h.row ho fun k hk => by obtain ⟨cur, hc⟩ := own_typ h.row hk; exact h1 k cur hc, fun i hi => ho.old (h.q i hi) (h2 i hi), fun i hi => (h.r i hi).only ho (h3 i hi), h.iq, h.ir⟩
theorem DX.only (h : DX w e n qb rq v s q) {T : Nat → Prop} (ho : Only T w w') (hT : ∀ k, T k → ∃ c t f, w.heap[k]? = some (.cells c t f) ∧ t ≠ 257 ∧ t ≠ 225 ∧ t ≠ 236 ∧ t ≠ 251 ∧ t ≠ 231) : DX w' e n qb rq v s q := by
  have ne : ∀ (k : Nat) (c : Array Value) (t : TypeId) (f : Nat × Nat), w.heap[k]? = some (.cells c t f) → (t = 225 ∨ t = 236 ∨ t = 251 ∨ t = 231) → ¬ T k := fun k c t f hk ht hTk => by
    obtain ⟨c', t', f', hk', n1, n2, n3, n4, n5⟩ := hT k hTk
    rw [hk] at hk'; injection hk' with hk'; injection hk' with _ hk'; subst hk'
    rcases ht with rfl | rfl | rfl | rfl
    · exact n2 rfl
    · exact n3 rfl
    · exact n4 rfl
    · exact n5 rfl
  obtain ⟨d, m, hb⟩ := h.dv.blk
  exact ⟨h.dv.only ho (ne _ _ _ _ hb (.inl rfl)) (fun k hk => by obtain ⟨c, t, f, h1, h2, -⟩ := hT k hk; exact ⟨c, t, f, h1, h2⟩), h.qs.typ ho (fun k cur hk => ne _ _ _ _ hk (.inr (.inr (.inr rfl)))) (fun i hi => ne _ _ _ _ (h.qs.q i hi) (.inr (.inl rfl))) (fun i hi => ne _ _ _ _ (h.qs.r i hi) (.inr (.inr (.inl rfl)))), h.ok, h.so, h.qo⟩
theorem DX.below (h : DX w e n qb rq v s q) (hb : Below w.heap.size w w') : DX w' e n qb rq v s q := h.only (T := fun _ => False) (.ofBelow hb) (fun _ z => z.elim)
theorem DX.drew (h : DX w e n qb rq v s q) : DX w.drew e n qb rq v s q := h.below ((Below.refl _ _).drew)
/-- a place of the device's own -/
theorem DX.put (h : DX w e n qb rq v s q) (k : Nat) (x : Value) (hc : ∀ d s m, (v.cells d s m).setIfInBounds k x = v'.cells d s m) (hq : v'.qs = v.qs) (ok : DOk v' n) : DX (w.setCell ⟨e, k, none⟩ x) e n qb rq v' s q := by
  obtain ⟨d, m, hb⟩ := h.dv.blk
  have hqs := h.qs.typ (only_c w e k x) (fun j cur hj z => ty_ne hj hb (by decide) z) (fun i hi z => ty_ne (h.qs.q i hi) hb (by decide) z) (fun i hi z => ty_ne (show w.heap[rq i]? = _ from h.qs.r i hi) hb (by decide) z)
  refine ⟨h.dv.put k x hc, ?_, ok, h.so, h.qo⟩
  rw [hq]; exact hqs
/-- a queue of it -/
theorem DX.turn (h : DX w e n qb rq v s q) (i : Nat) (hi : i < n) (s' : SV) (q' : QV) (so : SOk s') (qo : QOk q') (ho : Only (pr2 (qb i) (rq i)) w w') (hv : Vq w' (qb i) (rq i) s' q') : DX w' e n qb rq v (up s i s') (up q i q') := by
  obtain ⟨d, m, hb⟩ := h.dv.blk
  have hq1 := h.qs.q i hi
  have hq2 : w.heap[rq i]? = _ := h.qs.r i hi
  refine ⟨h.dv.only ho (fun z => ?_) (fun k hk => ?_), ⟨own_only h.qs.row ho fun k hk z => ?_, fun j hj => ?_, fun j hj => ?_, h.qs.iq, h.qs.ir⟩, h.ok, fun j hj => ?_, fun j hj => ?_⟩
  · rcases z with z | z
    · exact ty_ne hb hq1 (by decide) z
    · exact ty_ne hb hq2 (by decide) z
  · rcases hk with rfl | rfl
    · exact ⟨_, _, _, hq1, by decide⟩
    · exact ⟨_, _, _, hq2, by decide⟩
  · obtain ⟨cur, hc⟩ := own_typ h.qs.row hk
    rcases z with z | z
    · exact ty_ne hc hq1 (by decide) z
    · exact ty_ne hc hq2 (by decide) z
  · by_cases z : j = i
    · subst z; simp only [up]; rw [if_pos trivial]; exact hv.b
    · simp only [up, if_neg z]
      refine ho.old (h.qs.q j hj) fun y => ?_
      rcases y with y | y
      · exact z (h.qs.iq j i hj hi y)
      · exact ty_ne (h.qs.q j hj) hq2 (by decide) y
  · by_cases z : j = i
    · subst z; simp only [up]; rw [if_pos trivial]; exact hv.r
    · simp only [up, if_neg z]
      refine (h.qs.r j hj).only ho fun y => ?_
      rcases y with y | y
      · exact ty_ne (show w.heap[rq j]? = _ from h.qs.r j hj) hq1 (by decide) y
      · exact z (h.qs.ir j i hj hi y)
  · by_cases z : j = i
    · subst z; simp only [up]; rw [if_pos trivial]; exact so
    · simp only [up, if_neg z]; exact h.so j hj
  · by_cases z : j = i
    · subst z; simp only [up]; rw [if_pos trivial]; exact qo
    · simp only [up, if_neg z]; exact h.qo j hj
theorem only_q {w w' : World} {i : Nat} (hi : i < n) (h : Only (pr2 (qb i) (rq i)) w w') : Only (DF e n qb rq) w w' := h.mono fun k _ z => .inr ⟨i, hi, z⟩
theorem only_e {w w' : World} (h : Only (· = e) w w') : Only (DF e n qb rq) w w' := h.mono fun k _ z => .inl z
end
theorem s0_ok : SOk s0 := ⟨by decide, by decide, by decide, by decide, by decide, by decide, by decide⟩
/-- reset -/
def DV.rst (v : DV) : DV := { v with so := 0, sa := 0, sq := 0, a0 := 0, a1 := 0, st := 0, it := 0, ci := .slice none 0 0, ni := .slice none 0 0 }
def DV.held0 (v : DV) : DV := { v with so := 0, sa := 0, sq := 0, a0 := 0, a1 := 0, st := 0, it := 0 }
theorem z32 : (0 : Int) ≤ 0 ∧ (0 : Int) < 4294967296 := by decide
theorem DOk.held0 {v : DV} {n : Nat} (h : DOk v n) : DOk v.held0 n := ⟨h.kd, z32, z32, z32, z32, z32, (show (0 : Int) ≤ 0 ∧ (0 : Int) < 256 by decide), (show (0 : Int) ≤ 0 ∧ (0 : Int) < 4 by decide)⟩
theorem DOk.rst {v : DV} {n : Nat} (h : DOk v n) : DOk v.rst n := ⟨h.kd, z32, z32, z32, z32, z32, (show (0 : Int) ≤ 0 ∧ (0 : Int) < 256 by decide), (show (0 : Int) ≤ 0 ∧ (0 : Int) < 4 by decide)⟩
theorem DX.held0 {w : World} {e n : Nat} {qb rq : Nat → Nat} {v : DV} {s : Nat → SV} {q : Nat → QV} (h : DX w e n qb rq v s q) : DX (((((((w.setCell ⟨e, 1, none⟩ (.int .u32 0)).setCell ⟨e, 2, none⟩ (.int .u32 0)).setCell ⟨e, 3, none⟩ (.int .u32 0)).setCell ⟨e, 4, none⟩ (.int .u32 0)).setCell ⟨e, 5, none⟩ (.int .u32 0)).setCell ⟨e, 6, none⟩ (.int .u32 0)).setCell ⟨e, 7, none⟩ (.int .u32 0)) e n qb rq v.held0 s q := by
  have o := h.ok
  have h1 := h.put (v' := { v with so := 0 }) 1 (.int .u32 0) (fun _ _ _ => rfl) rfl ⟨o.kd, z32, o.sa, o.sq, o.a0, o.a1, o.st, o.it⟩
  have h2 := h1.put (v' := { v with so := 0, sa := 0 }) 2 (.int .u32 0) (fun _ _ _ => rfl) rfl ⟨o.kd, z32, z32, o.sq, o.a0, o.a1, o.st, o.it⟩
  have h3 := h2.put (v' := { v with so := 0, sa := 0, sq := 0 }) 3 (.int .u32 0) (fun _ _ _ => rfl) rfl ⟨o.kd, z32, z32, z32, o.a0, o.a1, o.st, o.it⟩
  have h4 := h3.put (v' := { v with so := 0, sa := 0, sq := 0, a0 := 0 }) 4 (.int .u32 0) (fun _ _ _ => rfl) rfl ⟨o.kd, z32, z32, z32, z32, o.a1, o.st, o.it⟩
  have h5 := h4.put (v' := { v with so := 0, sa := 0, sq := 0, a0 := 0, a1 := 0 }) 5 (.int .u32 0) (fun _ _ _ => rfl) rfl ⟨o.kd, z32, z32, z32, z32, z32, o.st, o.it⟩
  have h6 := h5.put (v' := { v with so := 0, sa := 0, sq := 0, a0 := 0, a1 := 0, st := 0 }) 6 (.int .u32 0) (fun _ _ _ => rfl) rfl ⟨o.kd, z32, z32, z32, z32, z32, (show (0 : Int) ≤ 0 ∧ (0 : Int) < 256 by decide), o.it⟩
  exact h6.put (v' := v.held0) 7 (.int .u32 0) (fun _ _ _ => rfl) rfl o.held0
theorem only7 (w : World) (e : Nat) : Only (· = e) w (((((((w.setCell ⟨e, 1, none⟩ (.int .u32 0)).setCell ⟨e, 2, none⟩ (.int .u32 0)).setCell ⟨e, 3, none⟩ (.int .u32 0)).setCell ⟨e, 4, none⟩ (.int .u32 0)).setCell ⟨e, 5, none⟩ (.int .u32 0)).setCell ⟨e, 6, none⟩ (.int .u32 0)).setCell ⟨e, 7, none⟩ (.int .u32 0)) :=
  ((((((only_c w e 1 _).setCell (.inl rfl) _).setCell (.inl rfl) _).setCell (.inl rfl) _).setCell (.inl rfl) _).setCell (.inl rfl) _).setCell (.inl rfl) _
theorem DX.congr {w : World} {e n : Nat} {qb rq : Nat → Nat} {v : DV} {s s' : Nat → SV} {q q' : Nat → QV} (h : DX w e n qb rq v s q) (h1 : ∀ i, i < n → s i = s' i) (h2 : ∀ i, i < n → q i = q' i) : DX w e n qb rq v s' q' :=
  ⟨h.dv, ⟨h.qs.row, fun i hi => by rw [← h1 i hi]; exact h.qs.q i hi, fun i hi => by rw [← h2 i hi]; exact h.qs.r i hi, h.qs.iq, h.qs.ir⟩, h.ok, fun i hi => by rw [← h1 i hi]; exact h.so i hi, fun i hi => by rw [← h2 i hi]; exact h.qo i hi⟩
theorem up_lt {α : Type} (f : Nat → α) (x : α) (i j : Nat) : up (fun k => if k < j then x else f k) j x i = if i < j + 1 then x else f i := by
  show (if i = j then x else if i < j then x else f i) = if i < j + 1 then x else f i
  by_cases z : i = j
  · rw [if_pos z, if_pos (by omega)]
  · by_cases y : i < j
    · rw [if_neg z, if_pos y, if_pos (by omega)]
    · rw [if_neg z, if_neg y, if_neg (by omega)]
theorem wp_atL {P : Program} {c : Code} {Q : Exit → Act → World → Prop} {a : Act} {W w0 : World} (h : W = w0) (hk : Code.wp P c Q a w0) : Code.wp P c Q a W := h ▸ hk
set_option maxHeartbeats 2000000 in
theorem k_Dreset (w : World) (e n : Nat) (qb rq : Nat → Nat) (v : DV) (s : Nat → SV) (q : Nat → QV) (h : DX w e n qb rq v s q) : Calls Tryz.prog 262 #[.pointer (some ⟨e, 0, none⟩)] w fun r w' => r = .returned (.tuple #[]) ∧ DX w' e n qb rq v.rst (fun _ => s0) (fun _ => q0) ∧ Only (DF e n qb rq) w w' := by
  obtain ⟨ad, c, hf⟩ := h.qs.form
  have c1 := h.dv.c1
  have c2 := h.dv.c2
  have c3 := h.dv.c3
  have c4 := h.dv.c4
  have c5 := h.dv.c5
  have c6 := h.dv.c6
  have c7 := h.dv.c7
  have c8 := h.dv.c8
  have z1 := h.dv.z 1
  have z2 := h.dv.z 2
  have z3 := h.dv.z 3
  have z4 := h.dv.z 4
  have z5 := h.dv.z 5
  have z6 := h.dv.z 6
  have z7 := h.dv.z 7
  rw [hf] at c8
  have hn2 := h.ok.n2
  obtain ⟨w1, hw1⟩ : ∃ w1, w1 = ((((((w.setCell ⟨e, 1, none⟩ (.int .u32 0)).setCell ⟨e, 2, none⟩ (.int .u32 0)).setCell ⟨e, 3, none⟩ (.int .u32 0)).setCell ⟨e, 4, none⟩ (.int .u32 0)).setCell ⟨e, 5, none⟩ (.int .u32 0)).setCell ⟨e, 6, none⟩ (.int .u32 0)).setCell ⟨e, 7, none⟩ (.int .u32 0) := ⟨_, rfl⟩
  have HW1 := hid hw1
  have H := hid h
  clear h hw1
  go_enter Tryz.func262, Tryz.ntmps262
  go_upto_region 1 with fail
  refine wp_atL (w0 := w1) HW1.out.symm ?_
  have h1 : DX w1 e n qb rq v.held0 s q := by rw [HW1.out]; exact H.out.held0
  have o1 : Only (DF e n qb rq) w w1 := by rw [HW1.out]; exact only_e (only7 w e)
  have c8 := h1.dv.c8
  rw [show v.held0.qs = v.qs from rfl, hf] at c8
  have H1 := hid h1
  have O1 := hid o1
  have HF := hid hf
  clear h1 o1 c1 c2 c3 c4 c5 c6 c7 z1 z2 z3 z4 z5 z6 z7 HW1 H hf
  go_wp2
  go_loopw [3, 13] (fun a i wr => ∃ j : Nat, j ≤ n ∧ i = .int .i64 j ∧ Hid (DX wr e n qb rq v.held0 (fun k => if k < j then s0 else s k) (fun k => if k < j then q0 else q k) ∧ Only (DF e n qb rq) w wr)) (fun a i _ => n - (intOf i).toNat)
  case atStart => exact ⟨0, by omega, rfl, H1.out.congr (fun i _ => by simp) (fun i _ => by simp), O1.out⟩
  case round =>
    obtain ⟨j, hj, rfl, hr⟩ := hrel
    clear H1 O1
    by_cases hlt : j < n
    · obtain ⟨r1, r2⟩ := hr.out
      have hlt' : (j : Int) < n := by omega
      have hj0 : (0 : Int) ≤ j := by omega
      obtain ⟨g, cg, hg1, hg2⟩ := r1.qs.at j hlt
      rw [show v.held0.qs = v.qs from rfl, HF.out] at hg1
      obtain ⟨rfl, -⟩ : ad = some ⟨g, 0, none⟩ ∧ c = cg := by injection hg1 with e1 e2 e3; exact ⟨e1, e3⟩
      have hk := k_vreset (r1.vq j hlt)
      have HN : Hid (∀ w', Vq w' (qb j) (rq j) s0 q0 → Only (pr2 (qb j) (rq j)) wr w' → DX w' e n qb rq v.held0 (fun k => if k < j + 1 then s0 else s k) (fun k => if k < j + 1 then q0 else q k) ∧ Only (DF e n qb rq) w w') := fun w' hv ho =>
        ⟨(r1.turn j hlt s0 q0 s0_ok q0_ok ho hv).congr (fun i _ => up_lt s s0 i j) (fun i _ => up_lt q q0 i j), r2.trans (only_q hlt ho)⟩
      clear r1 r2 hr hg1
      go_wp2_with (go_at_call 268; refine hk.mono ?_; rintro e' w2 ⟨rfl, k1, k2⟩; have HN2 := hid (HN.out w2 k1 k2); clear k1 k2)
      go_roundw
      case rel => exact ⟨j + 1, by omega, by go_num, HN2⟩
      case measure => simp [intOf]; omega
    · obtain rfl : j = n := by omega
      obtain ⟨r1, r2⟩ := hr.out
      have hlt' : ¬ (j : Int) < j := by omega
      have c10 := r1.dv.c10
      have z10 := r1.dv.z 10
      have r3 := r1.put (v' := { v.held0 with ci := .slice none 0 0 }) 10 (.slice none 0 0) (fun _ _ _ => rfl) rfl ⟨r1.ok.kd, r1.ok.so, r1.ok.sa, r1.ok.sq, r1.ok.a0, r1.ok.a1, r1.ok.st, r1.ok.it⟩
      have c12 := r3.dv.c12
      have z12 := r3.dv.z 12
      have r4 := r3.put (v' := v.rst) 12 (.slice none 0 0) (fun _ _ _ => rfl) rfl ⟨r1.ok.kd, r1.ok.so, r1.ok.sa, r1.ok.sq, r1.ok.a0, r1.ok.a1, r1.ok.st, r1.ok.it⟩
      have R4 := hid (r4.congr (s' := fun _ => s0) (q' := fun _ => q0) (fun i hi => if_pos hi) (fun i hi => if_pos hi))
      have R2 := hid r2
      clear r1 r2 r3 r4 hr
      go_wp2
      go_end0
      exact ⟨rfl, R4.out, R2.out.trans (only_e ((only_c _ e 10 _).setCell (.inl rfl) _))⟩
end Go.Proofs.YtjkihlpckgaggaaGreat
namespace Go.Proofs.YtjkihlpckgaggaaGreat
open Go.RowKit
open C (Only hid Still ret_bool ret_int)
set_option linter.unusedVariables false
set_option maxRecDepth 100000

theorem u_a2 : Tryz.prog.underlying 213 = some (.array 2 104) := by kernel_rfl
theorem u_u32 : Tryz.prog.underlying 104 = some (.int .u32) := by kernel_rfl
theorem run_eq2 (a b c d : Int) (w : World) : (Op.equalIn 10000 213 (.agg #[.int .u32 a, .int .u32 b]) (.agg #[.int .u32 c, .int .u32 d])).run Tryz.prog w = .ok (decide (a = c) && decide (b = d)) w := by
  show (Op.equalIn (9999 + 1) 213 (.agg _) (.agg _)).run Tryz.prog w = _
  rw [Op.equalIn]
  simp [run_underlying u_a2]
  rw [show List.range' 0 2 = [0, 1] from rfl]
  have hq : ∀ (x y : Int) (w : World), (Op.equalIn 9999 104 (.int .u32 x) (.int .u32 y)).run Tryz.prog w = .ok (x == y) w := fun x y w => run_equalIn_int (d := 9998) (t := 104) (k := .u32) (k' := .u32) (a := x) (b := y) w u_u32
  by_cases h0 : a = c
  · by_cases h1 : b = d
    · simp [go_sem, hq, h0, h1]
    · simp [go_sem, hq, h0, h1]
  · simp [go_sem, hq, h0]
theorem an255 (x : Int) (x0 : 0 ≤ x) (x1 : x < 4294967296) : bits BinOp.and IntKind.u32 x 255 = x % 256 := by
  obtain ⟨k, rfl⟩ : ∃ k : Nat, x = k := ⟨x.toNat, by omega⟩
  have e := u32_and_nat k 255 (by omega) (by decide)
  have e2 := Nat.and_two_pow_sub_one_eq_mod k 8
  rw [show (2 : Nat) ^ 8 - 1 = 255 by decide, show (2 : Nat) ^ 8 = 256 by decide] at e2
  rw [e2] at e
  exact e.trans (by omega)
theorem no64 : ∀ k : Fin 256, bits BinOp.andNot IntKind.u32 (k.val : Int) 64 = ((k.val - k.val / 64 % 2 * 64 : Nat) : Int) := by decide +kernel
theorem no8 : ∀ k : Fin 256, bits BinOp.andNot IntKind.u32 (k.val : Int) 8 = ((k.val - k.val / 8 % 2 * 8 : Nat) : Int) := by decide +kernel
theorem an64 : ∀ k : Fin 256, bits BinOp.and IntKind.u32 (k.val : Int) 64 = ((k.val / 64 % 2 * 64 : Nat) : Int) := by decide +kernel
theorem or64 : ∀ k : Fin 256, ∀ j : Fin 2, k.val / 64 % 2 = 0 → bits BinOp.or IntKind.u32 (k.val : Int) ((j.val * 64 : Nat) : Int) = ((k.val + j.val * 64 : Nat) : Int) := by decide +kernel
/-- status: v's low bits, without 64, without 8 where the features are not right, and 64 as it was -/
def st1 (x : Nat) : Nat := x % 256 - x / 64 % 2 * 64
def st2 (x : Nat) (ok : Bool) : Nat := bif ok then st1 x else st1 x - st1 x / 8 % 2 * 8
def stF (x old : Nat) (ok : Bool) : Nat := st2 x ok + old / 64 % 2 * 64
theorem st1_b (x : Nat) : st1 x < 256 ∧ st1 x / 64 % 2 = 0 := by unfold st1; omega
theorem st2_b (x : Nat) (ok : Bool) : st2 x ok < 256 ∧ st2 x ok / 64 % 2 = 0 := by
  have := st1_b x
  unfold st2
  cases ok
  · show st1 x - st1 x / 8 % 2 * 8 < 256 ∧ (st1 x - st1 x / 8 % 2 * 8) / 64 % 2 = 0; omega
  · exact this
theorem stF_b (x old : Nat) (ok : Bool) : stF x old ok < 256 := by have := st2_b x ok; unfold stF; omega
def ftr (v : DV) : Bool := decide (v.a0 = 0) && decide (v.a1 = 1)
set_option maxHeartbeats 2000000 in
theorem k_become1 (w : World) (e n : Nat) (qb rq : Nat → Nat) (v : DV) (s : Nat → SV) (q : Nat → QV) (h : DX w e n qb rq v s q) (x o : Nat) (hx : 0 < x) (x1 : x < 4294967296) (ho : v.st = o) : Calls Tryz.prog 254 #[.pointer (some ⟨e, 0, none⟩), .int .u32 (x : Int)] w fun r w' => r = .returned (.tuple #[]) ∧ DX w' e n qb rq { v with st := (stF x o (ftr v) : Nat) } s q ∧ Only (DF e n qb rq) w w' := by
  have c4 := h.dv.c4
  have c5 := h.dv.c5
  have c6 := h.dv.c6
  have z6 := h.dv.z 6
  rw [ho] at c6
  have ob : o < 256 := by have := h.ok.st; omega
  have hq := run_eq2 v.a0 v.a1 0 1
  rw [show (decide (v.a0 = 0) && decide (v.a1 = 1)) = ftr v from rfl] at hq
  have e1 : bits BinOp.and IntKind.u32 (x : Int) 255 = ((x % 256 : Nat) : Int) := (an255 x (by omega) (by omega)).trans (by omega)
  have e2 : bits BinOp.andNot IntKind.u32 ((x % 256 : Nat) : Int) 64 = (st1 x : Int) := (no64 ⟨x % 256, by omega⟩).trans (by show ((x % 256 - x % 256 / 64 % 2 * 64 : Nat) : Int) = (st1 x : Int); unfold st1; omega)
  have e3 : bits BinOp.andNot IntKind.u32 (st1 x : Int) 8 = ((st1 x - st1 x / 8 % 2 * 8 : Nat) : Int) := no8 ⟨st1 x, (st1_b x).1⟩
  have e4 : bits BinOp.and IntKind.u32 (o : Int) 64 = ((o / 64 % 2 * 64 : Nat) : Int) := an64 ⟨o, ob⟩
  have e5 : ∀ b, bits BinOp.or IntKind.u32 (st2 x b : Int) ((o / 64 % 2 * 64 : Nat) : Int) = (stF x o b : Int) := fun b => or64 ⟨st2 x b, (st2_b x b).1⟩ ⟨o / 64 % 2, by omega⟩ (st2_b x b).2
  have HP := hid (h.put (v' := { v with st := (stF x o (ftr v) : Nat) }) 6 (.int .u32 (stF x o (ftr v) : Nat)) (fun _ _ _ => rfl) rfl ⟨h.ok.kd, h.ok.so, h.ok.sa, h.ok.sq, h.ok.a0, h.ok.a1, (show (0 : Int) ≤ (stF x o (ftr v) : Nat) ∧ ((stF x o (ftr v) : Nat) : Int) < 256 by have := stF_b x o (ftr v); omega), h.ok.it⟩)
  have HO := hid (only_e (n := n) (qb := qb) (rq := rq) (only_c w e 6 (.int .u32 (stF x o (ftr v) : Nat))))
  have hx0 : ((x : Int) == 0) = false := by simp; omega
  have e6 := e5 (ftr v)
  have d2 : st2 x true = st1 x := rfl
  have d3 : st2 x false = st1 x - st1 x / 8 % 2 * 8 := rfl
  clear h e5 ho
  generalize hft : ftr v = fb at *
  generalize hS : ((stF x o fb : Nat) : Int) = S at *
  cases fb
  · rw [d3] at e6
    generalize ((st1 x - st1 x / 8 % 2 * 8 : Nat) : Int) = k2 at *
    generalize (st1 x : Int) = k1 at *
    generalize ((x % 256 : Nat) : Int) = k0 at *
    generalize ((o / 64 % 2 * 64 : Nat) : Int) = k3 at *
    generalize (x : Int) = xi at *
    generalize (o : Int) = oi at *
    go_enter Tryz.func254, Tryz.ntmps254
    go_wp2
    go_end0
    exact ⟨rfl, HP.out, HO.out⟩
  · rw [d2] at e6
    clear e3
    generalize (st1 x : Int) = k1 at *
    generalize ((x % 256 : Nat) : Int) = k0 at *
    generalize ((o / 64 % 2 * 64 : Nat) : Int) = k3 at *
    generalize (x : Int) = xi at *
    generalize (o : Int) = oi at *
    go_enter Tryz.func254, Tryz.ntmps254
    go_wp2
    go_end0
    exact ⟨rfl, HP.out, HO.out⟩
theorem k_become0 (w : World) (e n : Nat) (qb rq : Nat → Nat) (v : DV) (s : Nat → SV) (q : Nat → QV) (h : DX w e n qb rq v s q) : Calls Tryz.prog 254 #[.pointer (some ⟨e, 0, none⟩), .int .u32 0] w fun r w' => r = .returned (.tuple #[]) ∧ DX w' e n qb rq v.rst (fun _ => s0) (fun _ => q0) ∧ Only (DF e n qb rq) w w' := by
  have hk := k_Dreset w e n qb rq v s q h
  clear h
  go_enter Tryz.func254, Tryz.ntmps254
  go_wp2_with (go_at_call 262; refine hk.mono ?_; rintro r w2 ⟨rfl, k1, k2⟩; have K1 := hid k1; have K2 := hid k2; clear k1 k2)
  first | go_end0 | (simp only [Exit.inBlock, Exit.then]; refine bodyPost_ret (results_none rfl _ _ _) rfl ?_) | refine bodyPost_ret (results_none rfl _ _ _) rfl ?_
  exact ⟨rfl, K1.out, K2.out⟩
end Go.Proofs.YtjkihlpckgaggaaGreat
namespace Go.Proofs.YtjkihlpckgaggaaGreat
open Go.RowKit
open C (Only hid Still ret_bool ret_int)
set_option linter.unusedVariables false
set_option maxRecDepth 100000

structure DS where
  v : DV
  s : Nat → SV
  q : Nat → QV
def itA (it : Int) (x : Nat) : Int := ((it.toNat &&& (4294967295 - x) : Nat) : Int)
theorem itA_b (it : Int) (x : Nat) (h : 0 ≤ it ∧ it < 4) : 0 ≤ itA it x ∧ itA it x < 4 := by
  have := Nat.and_le_left (n := it.toNat) (m := 4294967295 - x)
  unfold itA
  omega
def DS.v' (d : DS) (v : DV) : DS := ⟨v, d.s, d.q⟩
/-- what a write comes to -/
def wrD (n : Nat) (d : DS) (off : Int) (x : Nat) : DS :=
  if off = 20 then d.v' { d.v with so := x } else if off = 36 then d.v' { d.v with sa := x }
  else if off = 32 then (if d.v.sa = 0 then d.v' { d.v with a0 := x } else if d.v.sa = 1 then d.v' { d.v with a1 := x } else d)
  else if off = 48 then d.v' { d.v with sq := x } else if off = 100 then d.v' { d.v with it := itA d.v.it x }
  else if off = 112 then (if x = 0 then ⟨d.v.rst, fun _ => s0, fun _ => q0⟩ else d.v' { d.v with st := (stF x d.v.st.toNat (ftr d.v) : Nat) })
  else if d.v.sq < n then ⟨d.v, up d.s d.v.sq.toNat (setS (d.s d.v.sq.toNat) off x), up d.q d.v.sq.toNat (setR (d.s d.v.sq.toNat) (d.q d.v.sq.toNat) off x)⟩ else d
/-- a device in a state -/
def DY (w : World) (e n : Nat) (qb rq : Nat → Nat) (d : DS) : Prop := DX w e n qb rq d.v d.s d.q
theorem DX.v' {w : World} {e n : Nat} {qb rq : Nat → Nat} {v : DV} {s : Nat → SV} {q : Nat → QV} (h : DX w e n qb rq v s q) (k : Nat) (x : Value) (v' : DV) (hc : ∀ d s m, (v.cells d s m).setIfInBounds k x = v'.cells d s m) (hq : v'.qs = v.qs) (ok : DOk v' n) : DX (w.setCell ⟨e, k, none⟩ x) e n qb rq v' s q ∧ Only (DF e n qb rq) w (w.setCell ⟨e, k, none⟩ x) := ⟨h.put k x hc hq ok, only_e (only_c w e k x)⟩
section
variable {w : World} {e n : Nat} {qb rq : Nat → Nat} {d : DS} {g : Value} {val : Int} {x : Nat} (h : DY w e n qb rq d) (x1 : x < 4294967296) (hv : IntKind.u32.wrap val = (x : Int))
include h x1 hv
theorem k_Wr_20 : Calls Tryz.prog 250 #[.pointer (some ⟨e, 0, none⟩), g, .int .u64 20, .int .i64 4, .int .u64 val] w fun r w' => r = .returned (.bool true) ∧ DY w' e n qb rq (wrD n d 20 x) ∧ Only (DF e n qb rq) w w' := by
  have h' : DX w e n qb rq d.v d.s d.q := h
  have hr := k_isReg w 20 4 (by decide) (by decide)
  rw [show isReg 20 4 = true from by decide] at hr
  have c1 := h'.dv.c1
  have z1 := h'.dv.z 1
  rw [show wrD n d 20 x = d.v' { d.v with so := x } from by simp [wrD]]
  have HP := hid (h'.v' 1 (.int .u32 x) { d.v with so := x } (fun _ _ _ => rfl) rfl ⟨h'.ok.kd, (show (0 : Int) ≤ (x : Int) ∧ (x : Int) < 4294967296 by omega), h'.ok.sa, h'.ok.sq, h'.ok.a0, h'.ok.a1, h'.ok.st, h'.ok.it⟩)
  clear h h'
  generalize (x : Int) = xi at *
  go_enter Tryz.func250, Tryz.ntmps250
  go_wp2_with (go_at_call 251; refine hr.mono ?_; rintro e w' ⟨rfl, hw⟩; obtain rfl := hw.symm)
  go_ret
  exact ⟨rfl, HP.out.1, HP.out.2⟩
theorem k_Wr_36 : Calls Tryz.prog 250 #[.pointer (some ⟨e, 0, none⟩), g, .int .u64 36, .int .i64 4, .int .u64 val] w fun r w' => r = .returned (.bool true) ∧ DY w' e n qb rq (wrD n d 36 x) ∧ Only (DF e n qb rq) w w' := by
  have h' : DX w e n qb rq d.v d.s d.q := h
  have hr := k_isReg w 36 4 (by decide) (by decide)
  rw [show isReg 36 4 = true from by decide] at hr
  have c2 := h'.dv.c2
  have z2 := h'.dv.z 2
  rw [show wrD n d 36 x = d.v' { d.v with sa := x } from by simp [wrD]]
  have HP := hid (h'.v' 2 (.int .u32 x) { d.v with sa := x } (fun _ _ _ => rfl) rfl ⟨h'.ok.kd, h'.ok.so, (show (0 : Int) ≤ (x : Int) ∧ (x : Int) < 4294967296 by omega), h'.ok.sq, h'.ok.a0, h'.ok.a1, h'.ok.st, h'.ok.it⟩)
  clear h h'
  generalize (x : Int) = xi at *
  go_enter Tryz.func250, Tryz.ntmps250
  go_wp2_with (go_at_call 251; refine hr.mono ?_; rintro e w' ⟨rfl, hw⟩; obtain rfl := hw.symm)
  go_ret
  exact ⟨rfl, HP.out.1, HP.out.2⟩
theorem k_Wr_48 : Calls Tryz.prog 250 #[.pointer (some ⟨e, 0, none⟩), g, .int .u64 48, .int .i64 4, .int .u64 val] w fun r w' => r = .returned (.bool true) ∧ DY w' e n qb rq (wrD n d 48 x) ∧ Only (DF e n qb rq) w w' := by
  have h' : DX w e n qb rq d.v d.s d.q := h
  have hr := k_isReg w 48 4 (by decide) (by decide)
  rw [show isReg 48 4 = true from by decide] at hr
  have c3 := h'.dv.c3
  have z3 := h'.dv.z 3
  rw [show wrD n d 48 x = d.v' { d.v with sq := x } from by simp [wrD]]
  have HP := hid (h'.v' 3 (.int .u32 x) { d.v with sq := x } (fun _ _ _ => rfl) rfl ⟨h'.ok.kd, h'.ok.so, h'.ok.sa, (show (0 : Int) ≤ (x : Int) ∧ (x : Int) < 4294967296 by omega), h'.ok.a0, h'.ok.a1, h'.ok.st, h'.ok.it⟩)
  clear h h'
  generalize (x : Int) = xi at *
  go_enter Tryz.func250, Tryz.ntmps250
  go_wp2_with (go_at_call 251; refine hr.mono ?_; rintro e w' ⟨rfl, hw⟩; obtain rfl := hw.symm)
  go_ret
  exact ⟨rfl, HP.out.1, HP.out.2⟩
theorem k_Wr_100 : Calls Tryz.prog 250 #[.pointer (some ⟨e, 0, none⟩), g, .int .u64 100, .int .i64 4, .int .u64 val] w fun r w' => r = .returned (.bool true) ∧ DY w' e n qb rq (wrD n d 100 x) ∧ Only (DF e n qb rq) w w' := by
  have h' : DX w e n qb rq d.v d.s d.q := h
  have hr := k_isReg w 100 4 (by decide) (by decide)
  rw [show isReg 100 4 = true from by decide] at hr
  have c7 := h'.dv.c7
  have z7 := h'.dv.z 7
  rw [show wrD n d 100 x = d.v' { d.v with it := itA d.v.it x } from by simp [wrD]]
  have ei : bits BinOp.andNot IntKind.u32 d.v.it (x : Int) = itA d.v.it x := by
    have b := h'.ok.it
    have := u32_andNot_nat d.v.it.toNat x (by omega) x1
    rw [show ((d.v.it.toNat : Nat) : Int) = d.v.it by omega] at this
    exact this
  have HP := hid (h'.v' 7 (.int .u32 (itA d.v.it x)) { d.v with it := itA d.v.it x } (fun _ _ _ => rfl) rfl ⟨h'.ok.kd, h'.ok.so, h'.ok.sa, h'.ok.sq, h'.ok.a0, h'.ok.a1, h'.ok.st, (itA_b _ _ h'.ok.it)⟩)
  clear h h'
  generalize itA d.v.it x = ia at *
  generalize (x : Int) = xi at *
  go_enter Tryz.func250, Tryz.ntmps250
  go_wp2_with (go_at_call 251; refine hr.mono ?_; rintro e w' ⟨rfl, hw⟩; obtain rfl := hw.symm)
  go_ret
  exact ⟨rfl, HP.out.1, HP.out.2⟩
theorem k_Wr_112 : Calls Tryz.prog 250 #[.pointer (some ⟨e, 0, none⟩), g, .int .u64 112, .int .i64 4, .int .u64 val] w fun r w' => r = .returned (.bool true) ∧ DY w' e n qb rq (wrD n d 112 x) ∧ Only (DF e n qb rq) w w' := by
  have h' : DX w e n qb rq d.v d.s d.q := h
  have hr := k_isReg w 112 4 (by decide) (by decide)
  rw [show isReg 112 4 = true from by decide] at hr
  have hb : Calls Tryz.prog 254 #[.pointer (some ⟨e, 0, none⟩), .int .u32 (x : Int)] w fun r w' => r = .returned (.tuple #[]) ∧ DY w' e n qb rq (wrD n d 112 x) ∧ Only (DF e n qb rq) w w' := by
    rw [show wrD n d 112 x = (if x = 0 then ⟨d.v.rst, fun _ => s0, fun _ => q0⟩ else d.v' { d.v with st := (stF x d.v.st.toNat (ftr d.v) : Nat) }) from by simp [wrD]]
    by_cases z : x = 0
    · subst z; rw [if_pos rfl]; exact k_become0 w e n qb rq _ _ _ h'
    · rw [if_neg z]; exact k_become1 w e n qb rq _ _ _ h' x d.v.st.toNat (by omega) x1 (by have := h'.ok.st; omega)
  generalize wrD n d 112 x = d' at *
  clear h h'
  generalize (x : Int) = xi at *
  go_enter Tryz.func250, Tryz.ntmps250
  go_wp2_with (first
    | (go_at_call 251; refine hr.mono ?_; rintro e w' ⟨rfl, hw⟩; obtain rfl := hw.symm)
    | (go_at_call 254; refine hb.mono ?_; rintro r w2 ⟨rfl, k1, k2⟩; have K1 := hid k1; have K2 := hid k2; clear k1 k2))
  go_ret
  exact ⟨rfl, K1.out, K2.out⟩
set_option maxHeartbeats 2000000 in
theorem k_Wr_32 : Calls Tryz.prog 250 #[.pointer (some ⟨e, 0, none⟩), g, .int .u64 32, .int .i64 4, .int .u64 val] w fun r w' => r = .returned (.bool true) ∧ DY w' e n qb rq (wrD n d 32 x) ∧ Only (DF e n qb rq) w w' := by
  have h' : DX w e n qb rq d.v d.s d.q := h
  have hr := k_isReg w 32 4 (by decide) (by decide)
  rw [show isReg 32 4 = true from by decide] at hr
  have c2 := h'.dv.c2
  rw [show wrD n d 32 x = (if d.v.sa = 0 then d.v' { d.v with a0 := x } else if d.v.sa = 1 then d.v' { d.v with a1 := x } else d) from by simp [wrD]]
  have xb : (0 : Int) ≤ (x : Int) ∧ (x : Int) < 4294967296 := by omega
  by_cases s0' : d.v.sa = 0
  · rw [if_pos s0']
    rw [s0'] at c2
    have c4 := h'.drew.dv.c4
    have z4 := h'.drew.dv.z 4
    have HP := hid (h'.drew.v' 4 (.int .u32 x) { d.v with a0 := x } (fun _ _ _ => rfl) rfl ⟨h'.ok.kd, h'.ok.so, h'.ok.sa, h'.ok.sq, xb, h'.ok.a1, h'.ok.st, h'.ok.it⟩)
    have HC2 := hid (show w.drew.cell? ⟨e, 2, none⟩ = some (.int .u32 0) from c2)
    have HO : Hid (Only (DF e n qb rq) w w.drew) := (Only.refl w).drew
    clear h h' s0' xb
    generalize (x : Int) = xi at *
    go_enter Tryz.func250, Tryz.ntmps250
    go_upto_region 14 with (go_at_call 251; refine hr.mono ?_; rintro e w' ⟨rfl, hw⟩; obtain rfl := hw.symm)
    refine wp_region_any (by kernel_rfl) ?_
    rw [show ({ w with drawn := w.drawn + 1 } : World) = w.drew from rfl]
    clear c2 hr
    generalize w.drew = w0 at *
    refine wpAny_fz (α := Unit) (fun _ => fun dd => if dd = 55 then .pointer (some ⟨e, 1, none⟩) else if dd = 56 then .pointer (some ⟨e, 1, none⟩) else if dd = 57 then .pointer (some ⟨e, 1, none⟩) else if dd = 58 then .pointer (some ⟨e, 2, none⟩) else if dd = 59 then .int .u32 0 else if dd = 60 then .int .u32 xi else if dd = 61 then .pointer (some ⟨e, 1, none⟩) else if dd = 62 then .pointer (some ⟨e, 4, none⟩) else if dd = 63 then .pointer (some ⟨e, 4, none⟩) else undef) (fun x listed w => VS [9] (fun n (_ : Unit) w => w = if n = 0 then w0 else w0.setCell ⟨e, 4, none⟩ (.int .u32 xi)) x listed w) ?step ?fin () ?start
    case start => exact .start rfl
    case step =>
      rintro listed fr wr x hF hW hC i hj
      obtain ⟨hl, o, ho, he⟩ := mem_ready.1 hj
      have hjl : i < listed.size := by rw [hF.q.ls]; exact (Array.getElem?_eq_some_iff.1 ho).1
      have hl0 := getD_tf hjl hl
      clear hj
      have HF := hid hF
      have HW := hid hW
      have HE := hid he
      have HC := hid hC
      clear hF hW he hl hC
      match i, ho with
      | 0, ho =>
        obtain rfl := Option.some.inj ho
        have e11 : fr.tmps[11]?.getD undef = .pointer (some ⟨e, 1, none⟩) := HF.out.base 11 (by kernel_rfl) rfl
        exact wp_q rfl rfl (by simp [execOp, go_sem, e11]; try rfl) ⟨(), HF.out.put (by kernel_rfl) rfl rfl rfl (of_decide_eq_true rfl), HW.out.q hjl (by decide)⟩
      | 1, ho =>
        obtain rfl := Option.some.inj ho
        have e11 : fr.tmps[11]?.getD undef = .pointer (some ⟨e, 1, none⟩) := HF.out.base 11 (by kernel_rfl) rfl
        exact wp_q rfl rfl (by simp [execOp, go_sem, e11]; try rfl) ⟨(), HF.out.put (by kernel_rfl) rfl rfl rfl (of_decide_eq_true rfl), HW.out.q hjl (by decide)⟩
      | 2, ho =>
        obtain rfl := Option.some.inj ho
        have e56 : fr.tmps[56]?.getD undef = .pointer (some ⟨e, 1, none⟩) := HF.out.ev (i := 1) rfl rfl (HE.out ⟨1, .data⟩ (by simp) rfl)
        exact wp_q rfl rfl (by simp [execOp, go_sem, e56]; try rfl) ⟨(), HF.out.put (by kernel_rfl) rfl rfl rfl (of_decide_eq_true rfl), HW.out.q hjl (by decide)⟩
      | 3, ho =>
        obtain rfl := Option.some.inj ho
        have e57 : fr.tmps[57]?.getD undef = .pointer (some ⟨e, 1, none⟩) := HF.out.ev (i := 2) rfl rfl (HE.out ⟨2, .data⟩ (by simp) rfl)
        exact wp_q rfl rfl (by simp [execOp, go_sem, e57]; try rfl) ⟨(), HF.out.put (by kernel_rfl) rfl rfl rfl (of_decide_eq_true rfl), HW.out.q hjl (by decide)⟩
      | 4, ho =>
        obtain rfl := Option.some.inj ho
        have e58 : fr.tmps[58]?.getD undef = .pointer (some ⟨e, 2, none⟩) := HF.out.ev (i := 3) rfl rfl (HE.out ⟨3, .data⟩ (by simp) rfl)
        have hw0 : wr = w0 := HW.out.at 0 rfl (not_yet HC.out (not_yet HC.out hl0 rfl ⟨4, .data⟩ (by simp) rfl rfl) rfl ⟨8, .data⟩ (by simp) rfl rfl) (fun j hj => by omega)
        subst hw0
        exact wp_q rfl rfl (by simp [execOp, go_sem, e58, HC2.out]; try rfl) ⟨(), HF.out.put (by kernel_rfl) rfl rfl rfl (of_decide_eq_true rfl), HW.out.q hjl (by decide)⟩
      | 5, ho =>
        obtain rfl := Option.some.inj ho
        have e12 : fr.tmps[12]?.getD undef = .int .u32 xi := HF.out.base 12 (by kernel_rfl) rfl
        exact wp_q rfl rfl (by simp [execOp, go_sem, e12]; try rfl) ⟨(), HF.out.put (by kernel_rfl) rfl rfl rfl (of_decide_eq_true rfl), HW.out.q hjl (by decide)⟩
      | 6, ho =>
        obtain rfl := Option.some.inj ho
        have e55 : fr.tmps[55]?.getD undef = .pointer (some ⟨e, 1, none⟩) := HF.out.ev (i := 0) rfl rfl (HE.out ⟨0, .data⟩ (by simp) rfl)
        exact wp_q rfl rfl (by simp [execOp, go_sem, e55]; try rfl) ⟨(), HF.out.put (by kernel_rfl) rfl rfl rfl (of_decide_eq_true rfl), HW.out.q hjl (by decide)⟩
      | 7, ho =>
        obtain rfl := Option.some.inj ho
        have e61 : fr.tmps[61]?.getD undef = .pointer (some ⟨e, 1, none⟩) := HF.out.ev (i := 6) rfl rfl (HE.out ⟨6, .data⟩ (by simp) rfl)
        exact wp_q rfl rfl (by simp [execOp, go_sem, e61]; try rfl) ⟨(), HF.out.put (by kernel_rfl) rfl rfl rfl (of_decide_eq_true rfl), HW.out.q hjl (by decide)⟩
      | 8, ho =>
        obtain rfl := Option.some.inj ho
        have e62 : fr.tmps[62]?.getD undef = .pointer (some ⟨e, 4, none⟩) := HF.out.ev (i := 7) rfl rfl (HE.out ⟨7, .data⟩ (by simp) rfl)
        have e59 : fr.tmps[59]?.getD undef = .int .u32 0 := HF.out.ev (i := 4) rfl rfl (HE.out ⟨4, .data⟩ (by simp) rfl)
        exact wp_q rfl rfl (by simp [execOp, go_sem, e62, e59]; try rfl) ⟨(), HF.out.put (by kernel_rfl) rfl rfl rfl (of_decide_eq_true rfl), HW.out.q hjl (by decide)⟩
      | 9, ho =>
        obtain rfl := Option.some.inj ho
        have e63 : fr.tmps[63]?.getD undef = .pointer (some ⟨e, 4, none⟩) := HF.out.ev (i := 8) rfl rfl (HE.out ⟨8, .data⟩ (by simp) rfl)
        have e60 : fr.tmps[60]?.getD undef = .int .u32 xi := HF.out.ev (i := 5) rfl rfl (HE.out ⟨5, .data⟩ (by simp) rfl)
        have hw0 : wr = w0 := HW.out.at 0 rfl hl0 (fun j hj => by omega)
        subst hw0
        exact wp_s rfl rfl (by simp [execOp, go_sem, e63, e60, c4, z4]; try rfl) ⟨(), HF.out.skip rfl rfl _, HW.out.go 0 hjl rfl hl0 (fun j hj => by omega) (by intro a ha; match a, ha with | 0, _ => rfl) rfl⟩
    case fin =>
      rintro listed fr w2 x hF hW hr
      have all := allDone hr hF.q.ls (by kernel_rfl)
      have HWE : Hid (w2 = w0.setCell ⟨e, 4, none⟩ (.int .u32 xi)) := hW.end 0 rfl (all _ (by decide)) (fun s hs q => by rw [if_neg (by omega)] at q; exact q)
      rw [hF.full all]
      clear hF hr all hW
      simp only [List.foldl_cons, List.foldl_nil, fillF]
      go_simp
      go_wp2_with fail
      go_ret
      rw [HWE.out]
      exact ⟨rfl, HP.out.1, HO.out.trans HP.out.2⟩
  · rw [if_neg s0']
    by_cases s1' : d.v.sa = 1
    · rw [if_pos s1']
      rw [s1'] at c2
      have c5 := h'.drew.dv.c5
      have z5 := h'.drew.dv.z 5
      have HP := hid (h'.drew.v' 5 (.int .u32 x) { d.v with a1 := x } (fun _ _ _ => rfl) rfl ⟨h'.ok.kd, h'.ok.so, h'.ok.sa, h'.ok.sq, h'.ok.a0, xb, h'.ok.st, h'.ok.it⟩)
      have HC2 := hid (show w.drew.cell? ⟨e, 2, none⟩ = some (.int .u32 1) from c2)
      have HO : Hid (Only (DF e n qb rq) w w.drew) := (Only.refl w).drew
      clear h h' s0' s1' xb
      generalize (x : Int) = xi at *
      go_enter Tryz.func250, Tryz.ntmps250
      go_upto_region 14 with (go_at_call 251; refine hr.mono ?_; rintro e w' ⟨rfl, hw⟩; obtain rfl := hw.symm)
      refine wp_region_any (by kernel_rfl) ?_
      rw [show ({ w with drawn := w.drawn + 1 } : World) = w.drew from rfl]
      clear c2 hr
      generalize w.drew = w0 at *
      refine wpAny_fz (α := Unit) (fun _ => fun dd => if dd = 55 then .pointer (some ⟨e, 1, none⟩) else if dd = 56 then .pointer (some ⟨e, 1, none⟩) else if dd = 57 then .pointer (some ⟨e, 1, none⟩) else if dd = 58 then .pointer (some ⟨e, 2, none⟩) else if dd = 59 then .int .u32 1 else if dd = 60 then .int .u32 xi else if dd = 61 then .pointer (some ⟨e, 1, none⟩) else if dd = 62 then .pointer (some ⟨e, 4, none⟩) else if dd = 63 then .pointer (some ⟨e, 5, none⟩) else undef) (fun x listed w => VS [9] (fun n (_ : Unit) w => w = if n = 0 then w0 else w0.setCell ⟨e, 5, none⟩ (.int .u32 xi)) x listed w) ?step ?fin () ?start
      case start => exact .start rfl
      case step =>
        rintro listed fr wr x hF hW hC i hj
        obtain ⟨hl, o, ho, he⟩ := mem_ready.1 hj
        have hjl : i < listed.size := by rw [hF.q.ls]; exact (Array.getElem?_eq_some_iff.1 ho).1
        have hl0 := getD_tf hjl hl
        clear hj
        have HF := hid hF
        have HW := hid hW
        have HE := hid he
        have HC := hid hC
        clear hF hW he hl hC
        match i, ho with
        | 0, ho =>
          obtain rfl := Option.some.inj ho
          have e11 : fr.tmps[11]?.getD undef = .pointer (some ⟨e, 1, none⟩) := HF.out.base 11 (by kernel_rfl) rfl
          exact wp_q rfl rfl (by simp [execOp, go_sem, e11]; try rfl) ⟨(), HF.out.put (by kernel_rfl) rfl rfl rfl (of_decide_eq_true rfl), HW.out.q hjl (by decide)⟩
        | 1, ho =>
          obtain rfl := Option.some.inj ho
          have e11 : fr.tmps[11]?.getD undef = .pointer (some ⟨e, 1, none⟩) := HF.out.base 11 (by kernel_rfl) rfl
          exact wp_q rfl rfl (by simp [execOp, go_sem, e11]; try rfl) ⟨(), HF.out.put (by kernel_rfl) rfl rfl rfl (of_decide_eq_true rfl), HW.out.q hjl (by decide)⟩
        | 2, ho =>
          obtain rfl := Option.some.inj ho
          have e56 : fr.tmps[56]?.getD undef = .pointer (some ⟨e, 1, none⟩) := HF.out.ev (i := 1) rfl rfl (HE.out ⟨1, .data⟩ (by simp) rfl)
          exact wp_q rfl rfl (by simp [execOp, go_sem, e56]; try rfl) ⟨(), HF.out.put (by kernel_rfl) rfl rfl rfl (of_decide_eq_true rfl), HW.out.q hjl (by decide)⟩
        | 3, ho =>
          obtain rfl := Option.some.inj ho
          have e57 : fr.tmps[57]?.getD undef = .pointer (some ⟨e, 1, none⟩) := HF.out.ev (i := 2) rfl rfl (HE.out ⟨2, .data⟩ (by simp) rfl)
          exact wp_q rfl rfl (by simp [execOp, go_sem, e57]; try rfl) ⟨(), HF.out.put (by kernel_rfl) rfl rfl rfl (of_decide_eq_true rfl), HW.out.q hjl (by decide)⟩
        | 4, ho =>
          obtain rfl := Option.some.inj ho
          have e58 : fr.tmps[58]?.getD undef = .pointer (some ⟨e, 2, none⟩) := HF.out.ev (i := 3) rfl rfl (HE.out ⟨3, .data⟩ (by simp) rfl)
          have hw0 : wr = w0 := HW.out.at 0 rfl (not_yet HC.out (not_yet HC.out hl0 rfl ⟨4, .data⟩ (by simp) rfl rfl) rfl ⟨8, .data⟩ (by simp) rfl rfl) (fun j hj => by omega)
          subst hw0
          exact wp_q rfl rfl (by simp [execOp, go_sem, e58, HC2.out]; try rfl) ⟨(), HF.out.put (by kernel_rfl) rfl rfl rfl (of_decide_eq_true rfl), HW.out.q hjl (by decide)⟩
        | 5, ho =>
          obtain rfl := Option.some.inj ho
          have e12 : fr.tmps[12]?.getD undef = .int .u32 xi := HF.out.base 12 (by kernel_rfl) rfl
          exact wp_q rfl rfl (by simp [execOp, go_sem, e12]; try rfl) ⟨(), HF.out.put (by kernel_rfl) rfl rfl rfl (of_decide_eq_true rfl), HW.out.q hjl (by decide)⟩
        | 6, ho =>
          obtain rfl := Option.some.inj ho
          have e55 : fr.tmps[55]?.getD undef = .pointer (some ⟨e, 1, none⟩) := HF.out.ev (i := 0) rfl rfl (HE.out ⟨0, .data⟩ (by simp) rfl)
          exact wp_q rfl rfl (by simp [execOp, go_sem, e55]; try rfl) ⟨(), HF.out.put (by kernel_rfl) rfl rfl rfl (of_decide_eq_true rfl), HW.out.q hjl (by decide)⟩
        | 7, ho =>
          obtain rfl := Option.some.inj ho
          have e61 : fr.tmps[61]?.getD undef = .pointer (some ⟨e, 1, none⟩) := HF.out.ev (i := 6) rfl rfl (HE.out ⟨6, .data⟩ (by simp) rfl)
          exact wp_q rfl rfl (by simp [execOp, go_sem, e61]; try rfl) ⟨(), HF.out.put (by kernel_rfl) rfl rfl rfl (of_decide_eq_true rfl), HW.out.q hjl (by decide)⟩
        | 8, ho =>
          obtain rfl := Option.some.inj ho
          have e62 : fr.tmps[62]?.getD undef = .pointer (some ⟨e, 4, none⟩) := HF.out.ev (i := 7) rfl rfl (HE.out ⟨7, .data⟩ (by simp) rfl)
          have e59 : fr.tmps[59]?.getD undef = .int .u32 1 := HF.out.ev (i := 4) rfl rfl (HE.out ⟨4, .data⟩ (by simp) rfl)
          exact wp_q rfl rfl (by simp [execOp, go_sem, e62, e59]; try rfl) ⟨(), HF.out.put (by kernel_rfl) rfl rfl rfl (of_decide_eq_true rfl), HW.out.q hjl (by decide)⟩
        | 9, ho =>
          obtain rfl := Option.some.inj ho
          have e63 : fr.tmps[63]?.getD undef = .pointer (some ⟨e, 5, none⟩) := HF.out.ev (i := 8) rfl rfl (HE.out ⟨8, .data⟩ (by simp) rfl)
          have e60 : fr.tmps[60]?.getD undef = .int .u32 xi := HF.out.ev (i := 5) rfl rfl (HE.out ⟨5, .data⟩ (by simp) rfl)
          have hw0 : wr = w0 := HW.out.at 0 rfl hl0 (fun j hj => by omega)
          subst hw0
          exact wp_s rfl rfl (by simp [execOp, go_sem, e63, e60, c5, z5]; try rfl) ⟨(), HF.out.skip rfl rfl _, HW.out.go 0 hjl rfl hl0 (fun j hj => by omega) (by intro a ha; match a, ha with | 0, _ => rfl) rfl⟩
      case fin =>
        rintro listed fr w2 x hF hW hr
        have all := allDone hr hF.q.ls (by kernel_rfl)
        have HWE : Hid (w2 = w0.setCell ⟨e, 5, none⟩ (.int .u32 xi)) := hW.end 0 rfl (all _ (by decide)) (fun s hs q => by rw [if_neg (by omega)] at q; exact q)
        rw [hF.full all]
        clear hF hr all hW
        simp only [List.foldl_cons, List.foldl_nil, fillF]
        go_simp
        go_wp2_with fail
        go_ret
        rw [HWE.out]
        exact ⟨rfl, HP.out.1, HO.out.trans HP.out.2⟩
    · rw [if_neg s1']
      have q2 : ¬ d.v.sa < 2 := by have := h'.ok.sa; omega
      have H := hid h
      clear h h' s0' s1' xb
      go_enter Tryz.func250, Tryz.ntmps250
      go_wp2_with (go_at_call 251; refine hr.mono ?_; rintro e w' ⟨rfl, hw⟩; obtain rfl := hw.symm)
      go_ret
      exact ⟨rfl, H.out, Only.refl w⟩
def isW (off : Int) : Bool := off == 20 || off == 36 || off == 32 || off == 48 || off == 80 || off == 100 || off == 112
theorem k_Wr_else (off : Int) (o0 : 0 ≤ off) (o1 : off < 18446744073709551616) (hR : isReg off 4 = true) (hk : isW off = false) : Calls Tryz.prog 250 #[.pointer (some ⟨e, 0, none⟩), g, .int .u64 off, .int .i64 4, .int .u64 val] w fun r w' => r = .returned (.bool true) ∧ DY w' e n qb rq (wrD n d off x) ∧ Only (DF e n qb rq) w w' := by
  have h' : DX w e n qb rq d.v d.s d.q := h
  have hr := k_isReg w off 4 o0 o1
  rw [hR] at hr
  have c3 := h'.dv.c3
  unfold isW at hk
  simp only [Bool.or_eq_false_iff] at hk
  obtain ⟨⟨⟨⟨⟨⟨h0, h1⟩, h2⟩, h3⟩, h4⟩, h5⟩, h6⟩ := hk
  rw [show wrD n d off x = (if d.v.sq < n then ⟨d.v, up d.s d.v.sq.toNat (setS (d.s d.v.sq.toNat) off x), up d.q d.v.sq.toNat (setR (d.s d.v.sq.toNat) (d.q d.v.sq.toNat) off x)⟩ else d) from by simp at h0 h1 h2 h3 h5 h6; simp [wrD, h0, h1, h2, h3, h5, h6]]
  by_cases q : d.v.sq < n
  · rw [if_pos q]
    obtain ⟨i, hi⟩ : ∃ i : Nat, d.v.sq = i := ⟨d.v.sq.toNat, by have := h'.ok.sq.1; omega⟩
    have hin : i < n := by omega
    rw [hi] at c3 ⊢
    rw [show ((i : Int)).toNat = i by omega]
    have hq := k_queue h'.dv h'.qs i hin h'.ok.n2
    have ht := k_set (h'.vq i hin) (h'.so i hin) off x
    have HT := hid (fun (w' : World) (k1 : Vq w' (qb i) (rq i) (setS (d.s i) off x) (setR (d.s i) (d.q i) off x)) (k2 : Only (pr2 (qb i) (rq i)) w w') => (show DY w' e n qb rq ⟨d.v, up d.s i (setS (d.s i) off x), up d.q i (setR (d.s i) (d.q i) off x)⟩ ∧ Only (DF e n qb rq) w w' from ⟨h'.turn i hin _ _ ((h'.so i hin).set off x (by omega) (by omega)) ((h'.qo i hin).srR (h'.so i hin) off x) k2 k1, only_q hin k2⟩))
    clear h h' q hi hin hR
    generalize (x : Int) = xi at *
    go_enter Tryz.func250, Tryz.ntmps250
    go_wp2_with (first
      | (go_at_call 251; refine hr.mono ?_; rintro e w' ⟨rfl, hw⟩; obtain rfl := hw.symm)
      | (go_at_call 255; refine hq.mono ?_; rintro e w' ⟨rfl, hw⟩; obtain rfl := hw.symm)
      | (go_at_call 256; refine ht.mono ?_; rintro e' w2 ⟨rfl, k1, k2⟩; have K := hid (HT.out w2 k1 k2); clear k1 k2))
    go_ret
    exact ⟨rfl, K.out.1, K.out.2⟩
  · rw [if_neg q]
    have hq := k_queue_no h'.dv h'.qs d.v.sq h'.ok.sq.1 h'.ok.sq.2 (by omega) h'.ok.n2
    have H := hid h
    clear h h' q hR
    go_enter Tryz.func250, Tryz.ntmps250
    go_wp2_with (first
      | (go_at_call 251; refine hr.mono ?_; rintro e w' ⟨rfl, hw⟩; obtain rfl := hw.symm)
      | (go_at_call 255; refine hq.mono ?_; rintro e w' ⟨rfl, hw⟩; obtain rfl := hw.symm))
    go_ret
    exact ⟨rfl, H.out, Only.refl w⟩
theorem k_Wr (off : Int) (o0 : 0 ≤ off) (o1 : off < 18446744073709551616) (hR : isReg off 4 = true) (hk : off ≠ 80) : Calls Tryz.prog 250 #[.pointer (some ⟨e, 0, none⟩), g, .int .u64 off, .int .i64 4, .int .u64 val] w fun r w' => r = .returned (.bool true) ∧ DY w' e n qb rq (wrD n d off x) ∧ Only (DF e n qb rq) w w' := by
  cases hw : isW off
  · exact k_Wr_else h x1 hv off o0 o1 hR hw
  · unfold isW at hw
    simp only [Bool.or_eq_true, beq_iff_eq] at hw
    rcases hw with (((((rfl | rfl) | rfl) | rfl) | rfl) | rfl) | rfl
    · exact k_Wr_20 h x1 hv
    · exact k_Wr_36 h x1 hv
    · exact k_Wr_32 h x1 hv
    · exact k_Wr_48 h x1 hv
    · exact absurd rfl hk
    · exact k_Wr_100 h x1 hv
    · exact k_Wr_112 h x1 hv
end
end Go.Proofs.YtjkihlpckgaggaaGreat
namespace Go.Proofs.YtjkihlpckgaggaaGreat
open Go.RowKit
open C (Only hid Still ret_bool ret_int)
set_option linter.unusedVariables false
set_option maxRecDepth 100000

def dc (v : QV) : Array Value := #[.bool (v.sz != 0), .bool v.dead, .int .i64 v.sz, .int .u64 v.d, .int .u64 v.a, .int .u64 v.u, .int .i64 v.tk, .int .i64 v.gv]
def Db (w : World) (d : Nat) (v : QV) : Prop := w.heap[d]? = some (.cells (dc v) 240 (0, 0))
section
variable {w w' : World} {d : Nat} {v : QV}
theorem Db.c (h : Db w d v) (k : Nat) (x : Value) (hx : (dc v)[k]? = some x) : w.cell? ⟨d, k, none⟩ = some x := by rw [cell_of_row w d k _ _ _ h]; exact hx
theorem Db.fz (h : Db w d v) (i : Nat) : w.frozen? ⟨d, i, none⟩ = false := frozen_of_row w d i _ _ h
theorem Db.lt (h : Db w d v) : d < w.heap.size := lt_of_block h
theorem Db.below (h : Db w d v) (hb : Below w.heap.size w w') : Db w' d v := (hb.block d h.lt).trans h
theorem Db.only (h : Db w d v) {T : Nat → Prop} (ho : Only T w w') (hn : ¬ T d) : Db w' d v := ho.old h hn
end
theorem s_q13 : (Tryz.prog.info? 240).map (·.size) = some 8 := by kernel_rfl
theorem dc_one (v : QV) : (dc v).all (·.oneCell') = true := by
  rw [Array.all_eq_true_iff_forall_mem]; intro x hx; simp [dc] at hx; rcases hx with rfl | rfl | rfl | rfl | rfl | rfl | rfl | rfl <;> rfl
theorem wpL_stR {ops : Array Oper} {rest : List Oper} {d : Option Nat} {ty : TypeId} {x y : Operand} {pos : String} {after : Array Edge} {Q : Exit → Act → World → Prop} {a : Act} {w : World} (g : Nat) (v v' : QV) (hx : a.eval x = .pointer (some ⟨g, 0, none⟩)) (hy : a.eval y = .agg (dc v'))
    (hg : Db w g v) (hK : wpList Tryz.prog ops Q rest (a.put d undef) (w.setRow g (dc v'))) :
    wpList Tryz.prog ops Q ({ dst := d, op := Op.store 240 x y, type := ty, pos := pos, after := after, guard := none } :: rest) a w :=
  wpList_store_row rfl 240 x y rfl g _ hx hy 240 _ hg s_q13 rfl (dc_one v') hK
theorem d_Reset (w : World) (d : Nat) (v : QV) (h : Db w d v) : Calls Tryz.prog 180 #[.pointer (some ⟨d, 0, none⟩)] w fun e w' => e = .returned (.tuple #[]) ∧ Db w' d q0 ∧ Only (· = d) w w' := by
  have H := hid h
  clear h
  go_enter Tryz.func180, Tryz.ntmps180
  go_wp2_with ((with_reducible refine wpL_stR d v q0 ?_ ?_ H.out ?_); rfl; rfl)
  go_end0
  exact ⟨rfl, setRow_heap w d _ _ _ _ H.out, (Only.refl (S := (· = d)) w).setRow (.inl rfl) _⟩
/-- the document's device -/
def rcs (d : DS) (dk se fr wt : Value) (ra : Nat → Nat) : Array Value := #[.int .i64 d.v.kd, dk, se, fr, wt, .int .u64 d.v.st, .int .u64 d.v.it, .int .u64 d.v.so, .int .u64 d.v.sa, .int .u64 d.v.a0, .int .u64 d.v.a1, .int .u64 d.v.sq, .int .u64 (d.s 0).sz, .int .u64 (d.s 0).dd, .int .u64 (d.s 0).aa, .int .u64 (d.s 0).uu, .int .u64 (d.s 1).sz, .int .u64 (d.s 1).dd, .int .u64 (d.s 1).aa, .int .u64 (d.s 1).uu, .pointer (some ⟨ra 0, 0, none⟩), .pointer (some ⟨ra 1, 0, none⟩)]
structure RX (w : World) (p : Nat) (ra : Nat → Nat) (d : DS) (dk se fr wt : Value) : Prop where
  b : w.heap[p]? = some (.cells (rcs d dk se fr wt ra) 204 (0, 0))
  q0 : Db w (ra 0) (d.q 0)
  q1 : Db w (ra 1) (d.q 1)
  ne : ra 0 ≠ ra 1
def nra (w : World) : Nat → Nat := fun i => w.heap.size + i
/-- a device's beginning -/
def ds0 (kd : Int) (u dk : Value) : DS := ⟨nv kd u dk, fun _ => s0, fun _ => q0⟩
def rcs0 (kd : Int) (dk se fr : Value) (x : Nat → Value) : Array Value := #[.int .i64 kd, dk, se, fr, x 4, x 5, x 6, x 7, x 8, x 9, x 10, x 11, x 12, x 13, x 14, x 15, x 16, x 17, x 18, x 19, x 20, x 21]
theorem heap_alloc_newS (w : World) (o : Obj) {k : Nat} (hk : k = w.heap.size) : (w.alloc o).heap[k]? = some o := by rw [hk]; exact heap_alloc_new w o
set_option maxHeartbeats 2000000 in
theorem d_reset (w : World) (p : Nat) (kd : Int) (dk se fr : Value) (x : Nat → Value) (h : w.heap[p]? = some (.cells (rcs0 kd dk se fr x) 204 (0, 0))) (u u2 : Value) : Calls Tryz.prog 50 #[.pointer (some ⟨p, 0, none⟩)] w fun r w' => r = .returned (.tuple #[]) ∧ RX w' p (nra w) (ds0 kd u u2) dk se fr (.slice none 0 0) ∧ Only (· = p) w w' := by
  have c : ∀ k, k < 22 → w.cell? ⟨p, k, none⟩ = some ((rcs0 kd dk se fr x)[k]!) := fun k hk => by
    rw [cell_of_row w p k _ _ _ h]
    have : k < (rcs0 kd dk se fr x).size := hk
    simp [this]
  have c4 : w.cell? ⟨p, 4, none⟩ = some (x 4) := cell_of_row w p 4 _ _ _ h
  have z4 : w.frozen? ⟨p, 4, none⟩ = false := frozen_of_row w p 4 _ _ h
  have c5 : w.cell? ⟨p, 5, none⟩ = some (x 5) := cell_of_row w p 5 _ _ _ h
  have z5 : w.frozen? ⟨p, 5, none⟩ = false := frozen_of_row w p 5 _ _ h
  have c6 : w.cell? ⟨p, 6, none⟩ = some (x 6) := cell_of_row w p 6 _ _ _ h
  have z6 : w.frozen? ⟨p, 6, none⟩ = false := frozen_of_row w p 6 _ _ h
  have c7 : w.cell? ⟨p, 7, none⟩ = some (x 7) := cell_of_row w p 7 _ _ _ h
  have z7 : w.frozen? ⟨p, 7, none⟩ = false := frozen_of_row w p 7 _ _ h
  have c8 : w.cell? ⟨p, 8, none⟩ = some (x 8) := cell_of_row w p 8 _ _ _ h
  have z8 : w.frozen? ⟨p, 8, none⟩ = false := frozen_of_row w p 8 _ _ h
  have c9 : w.cell? ⟨p, 9, none⟩ = some (x 9) := cell_of_row w p 9 _ _ _ h
  have z9 : w.frozen? ⟨p, 9, none⟩ = false := frozen_of_row w p 9 _ _ h
  have c10 : w.cell? ⟨p, 10, none⟩ = some (x 10) := cell_of_row w p 10 _ _ _ h
  have z10 : w.frozen? ⟨p, 10, none⟩ = false := frozen_of_row w p 10 _ _ h
  have c11 : w.cell? ⟨p, 11, none⟩ = some (x 11) := cell_of_row w p 11 _ _ _ h
  have z11 : w.frozen? ⟨p, 11, none⟩ = false := frozen_of_row w p 11 _ _ h
  have c12 : w.cell? ⟨p, 12, none⟩ = some (x 12) := cell_of_row w p 12 _ _ _ h
  have z12 : w.frozen? ⟨p, 12, none⟩ = false := frozen_of_row w p 12 _ _ h
  have c13 : w.cell? ⟨p, 13, none⟩ = some (x 13) := cell_of_row w p 13 _ _ _ h
  have z13 : w.frozen? ⟨p, 13, none⟩ = false := frozen_of_row w p 13 _ _ h
  have c14 : w.cell? ⟨p, 14, none⟩ = some (x 14) := cell_of_row w p 14 _ _ _ h
  have z14 : w.frozen? ⟨p, 14, none⟩ = false := frozen_of_row w p 14 _ _ h
  have c15 : w.cell? ⟨p, 15, none⟩ = some (x 15) := cell_of_row w p 15 _ _ _ h
  have z15 : w.frozen? ⟨p, 15, none⟩ = false := frozen_of_row w p 15 _ _ h
  have c16 : w.cell? ⟨p, 16, none⟩ = some (x 16) := cell_of_row w p 16 _ _ _ h
  have z16 : w.frozen? ⟨p, 16, none⟩ = false := frozen_of_row w p 16 _ _ h
  have c17 : w.cell? ⟨p, 17, none⟩ = some (x 17) := cell_of_row w p 17 _ _ _ h
  have z17 : w.frozen? ⟨p, 17, none⟩ = false := frozen_of_row w p 17 _ _ h
  have c18 : w.cell? ⟨p, 18, none⟩ = some (x 18) := cell_of_row w p 18 _ _ _ h
  have z18 : w.frozen? ⟨p, 18, none⟩ = false := frozen_of_row w p 18 _ _ h
  have c19 : w.cell? ⟨p, 19, none⟩ = some (x 19) := cell_of_row w p 19 _ _ _ h
  have z19 : w.frozen? ⟨p, 19, none⟩ = false := frozen_of_row w p 19 _ _ h
  have c20 : w.cell? ⟨p, 20, none⟩ = some (x 20) := cell_of_row w p 20 _ _ _ h
  have z20 : w.frozen? ⟨p, 20, none⟩ = false := frozen_of_row w p 20 _ _ h
  have c21 : w.cell? ⟨p, 21, none⟩ = some (x 21) := cell_of_row w p 21 _ _ _ h
  have z21 : w.frozen? ⟨p, 21, none⟩ = false := frozen_of_row w p 21 _ _ h
  have H := hid h
  have hlt := lt_of_block h
  clear h c
  go_enter Tryz.func50, Tryz.ntmps50
  go_wp2
  obtain ⟨x4, hx4⟩ : ∃ y : Nat → Value, y = up x 4 (.slice none 0 0) := ⟨_, rfl⟩
  obtain ⟨x5, hx5⟩ : ∃ y : Nat → Value, y = up x4 5 (.int .u64 0) := ⟨_, rfl⟩
  obtain ⟨x6, hx6⟩ : ∃ y : Nat → Value, y = up x5 6 (.int .u64 0) := ⟨_, rfl⟩
  obtain ⟨x7, hx7⟩ : ∃ y : Nat → Value, y = up x6 7 (.int .u64 0) := ⟨_, rfl⟩
  obtain ⟨x8, hx8⟩ : ∃ y : Nat → Value, y = up x7 8 (.int .u64 0) := ⟨_, rfl⟩
  obtain ⟨x9, hx9⟩ : ∃ y : Nat → Value, y = up x8 9 (.int .u64 0) := ⟨_, rfl⟩
  obtain ⟨x10, hx10⟩ : ∃ y : Nat → Value, y = up x9 10 (.int .u64 0) := ⟨_, rfl⟩
  obtain ⟨x11, hx11⟩ : ∃ y : Nat → Value, y = up x10 11 (.int .u64 0) := ⟨_, rfl⟩
  obtain ⟨x12, hx12⟩ : ∃ y : Nat → Value, y = up x11 12 (.int .u64 0) := ⟨_, rfl⟩
  obtain ⟨x13, hx13⟩ : ∃ y : Nat → Value, y = up x12 13 (.int .u64 0) := ⟨_, rfl⟩
  obtain ⟨x14, hx14⟩ : ∃ y : Nat → Value, y = up x13 14 (.int .u64 0) := ⟨_, rfl⟩
  obtain ⟨x15, hx15⟩ : ∃ y : Nat → Value, y = up x14 15 (.int .u64 0) := ⟨_, rfl⟩
  obtain ⟨x16, hx16⟩ : ∃ y : Nat → Value, y = up x15 16 (.int .u64 0) := ⟨_, rfl⟩
  obtain ⟨x17, hx17⟩ : ∃ y : Nat → Value, y = up x16 17 (.int .u64 0) := ⟨_, rfl⟩
  obtain ⟨x18, hx18⟩ : ∃ y : Nat → Value, y = up x17 18 (.int .u64 0) := ⟨_, rfl⟩
  obtain ⟨x19, hx19⟩ : ∃ y : Nat → Value, y = up x18 19 (.int .u64 0) := ⟨_, rfl⟩
  obtain ⟨x20, hx20⟩ : ∃ y : Nat → Value, y = up x19 20 (.pointer (some ⟨w.heap.size, 0, none⟩)) := ⟨_, rfl⟩
  obtain ⟨x21, hx21⟩ : ∃ y : Nat → Value, y = up x20 21 (.pointer (some ⟨w.heap.size + 1, 0, none⟩)) := ⟨_, rfl⟩
  have b4 := setRowB _ p 4 _ (rcs0 kd dk se fr x4) 204 (.slice none 0 0) H.out (by rw [hx4]; rfl)
  have b5 := setRowB _ p 5 _ (rcs0 kd dk se fr x5) 204 (.int .u64 0) b4 (by rw [hx5]; rfl)
  have b6 := setRowB _ p 6 _ (rcs0 kd dk se fr x6) 204 (.int .u64 0) b5 (by rw [hx6]; rfl)
  have b7 := setRowB _ p 7 _ (rcs0 kd dk se fr x7) 204 (.int .u64 0) b6 (by rw [hx7]; rfl)
  have b8 := setRowB _ p 8 _ (rcs0 kd dk se fr x8) 204 (.int .u64 0) b7 (by rw [hx8]; rfl)
  have b9 := setRowB _ p 9 _ (rcs0 kd dk se fr x9) 204 (.int .u64 0) b8 (by rw [hx9]; rfl)
  have b10 := setRowB _ p 10 _ (rcs0 kd dk se fr x10) 204 (.int .u64 0) b9 (by rw [hx10]; rfl)
  have b11 := setRowB _ p 11 _ (rcs0 kd dk se fr x11) 204 (.int .u64 0) b10 (by rw [hx11]; rfl)
  have b12 := setRowB _ p 12 _ (rcs0 kd dk se fr x12) 204 (.int .u64 0) b11 (by rw [hx12]; rfl)
  have b13 := setRowB _ p 13 _ (rcs0 kd dk se fr x13) 204 (.int .u64 0) b12 (by rw [hx13]; rfl)
  have b14 := setRowB _ p 14 _ (rcs0 kd dk se fr x14) 204 (.int .u64 0) b13 (by rw [hx14]; rfl)
  have b15 := setRowB _ p 15 _ (rcs0 kd dk se fr x15) 204 (.int .u64 0) b14 (by rw [hx15]; rfl)
  have b16 := setRowB _ p 16 _ (rcs0 kd dk se fr x16) 204 (.int .u64 0) b15 (by rw [hx16]; rfl)
  have b17 := setRowB _ p 17 _ (rcs0 kd dk se fr x17) 204 (.int .u64 0) b16 (by rw [hx17]; rfl)
  have b18 := setRowB _ p 18 _ (rcs0 kd dk se fr x18) 204 (.int .u64 0) b17 (by rw [hx18]; rfl)
  have b19 := setRowB _ p 19 _ (rcs0 kd dk se fr x19) 204 (.int .u64 0) b18 (by rw [hx19]; rfl)
  have b20 := setRowB _ p 20 _ (rcs0 kd dk se fr x20) 204 (.pointer (some ⟨w.heap.size, 0, none⟩)) b19 (by rw [hx20]; rfl)
  have b21 := setRowB _ p 21 _ (rcs0 kd dk se fr x21) 204 (.pointer (some ⟨w.heap.size + 1, 0, none⟩)) b20 (by rw [hx21]; rfl)
  have hfin : rcs0 kd dk se fr x21 = rcs (ds0 kd u u2) dk se fr (.slice none 0 0) (nra w) := by
    rw [hx21, hx20, hx19, hx18, hx17, hx16, hx15, hx14, hx13, hx12, hx11, hx10, hx9, hx8, hx7, hx6, hx5, hx4]
    simp [rcs0, rcs, up, ds0, nv, s0, SV.dd, SV.aa, SV.uu, nra]
  rw [hfin] at b21
  clear hfin hx4 hx5 hx6 hx7 hx8 hx9 hx10 hx11 hx12 hx13 hx14 hx15 hx16 hx17 hx18 hx19 hx20 hx21
  go_end0
  refine ⟨rfl, ⟨?_, ?_, ?_, ?_⟩, ?_⟩
  · exact (heap_alloc_old _ _ (by simp; omega)).trans ((heap_alloc_old _ _ (by simp; omega)).trans b21)
  · exact (heap_alloc_old _ _ (by simp [nra])).trans (heap_alloc_newS _ _ (by simp [nra]))
  · exact heap_alloc_newS _ _ (by simp [nra])
  · simp [nra]
  · exact (((((((((((((((((((only_c w p 4 _).setCell (.inl rfl) _).setCell (.inl rfl) _).setCell (.inl rfl) _).setCell (.inl rfl) _).setCell (.inl rfl) _).setCell (.inl rfl) _).setCell (.inl rfl) _).setCell (.inl rfl) _).setCell (.inl rfl) _).setCell (.inl rfl) _).setCell (.inl rfl) _).setCell (.inl rfl) _).setCell (.inl rfl) _).setCell (.inl rfl) _).setCell (.inl rfl) _).setCell (.inl rfl) _).setCell (.inl rfl) _).alloc _).alloc _
end Go.Proofs.YtjkihlpckgaggaaGreat
