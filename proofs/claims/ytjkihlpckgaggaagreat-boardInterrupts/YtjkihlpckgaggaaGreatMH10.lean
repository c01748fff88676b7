/- BoardRights, walked. -/
import Derived.Test.YtjkihlpckgaggaaGreatMH9
import Derived.Laws.AppendOwnNone
import Derived.Test.YtjkihlpckgaggaaGreatMC2
import Derived.OpenShut
import Derived.SizedLaws
import Derived.Deep.Slices
namespace Go.Proofs.YtjkihlpckgaggaaGreat
open Go.RowKit
open C (Only hid Still ret_bool ret_int row)
open P (Ls)
set_option linter.unusedVariables false
set_option maxRecDepth 100000

/-- bytes that are handed in -/
structure ByA (w : World) (ad : Option Addr) (la cap ab ao : Nat) (A : Nat → Int) : Prop where
  len : la ≤ cap
  cap : cap ≤ 9223372036854775807
  at0 : 0 < la → ad = some ⟨ab, ao, none⟩ ∧ ab < w.heap.size
  cell : ∀ i, i < la → w.cell? ⟨ab, ao + i, none⟩ = some (.int .u8 (A i))
def itN (K : Nat → Int) (n : Nat) : List Value := (List.range n).map fun j => .int .i64 (K j)
theorem itN_len (K : Nat → Int) (n : Nat) : (itN K n).length = n := by simp [itN]
theorem itN_at (K : Nat → Int) (n j : Nat) (h : j < n) : (itN K n)[j]? = some (.int .i64 (K j)) := by simp [itN, h]
theorem ls_ownN {w : World} {bs : Nat} {v : Value} {n : Nat} {K : Nat → Int} (h : w.ownsRow bs 3 1 v n (itN K n)) (hK : ∀ j, j < n → -9223372036854775808 ≤ K j ∧ K j ≤ 9223372036854775807) : ∃ ad cap b, v = .slice ad n cap ∧ Ls w ad n cap b 0 K := by
  have h2 := h.2
  rcases h2 with ⟨z, e⟩ | ⟨g, cap, cur, hv, hb, hg, e1, e2, e3, e4⟩
  · refine ⟨none, 0, 0, by rw [z, e], ⟨by omega, by decide, fun q => by omega, fun j hj => by omega, hK⟩⟩
  · subst hv
    refine ⟨_, cap, g, rfl, ⟨e1, by simpa [maxLen] using e2, fun _ => ⟨rfl, lt_of_block hg⟩, fun j hj => ?_, hK⟩⟩
    rw [Nat.zero_add, h.cellAt j (by omega)]
    exact itN_at K n j hj
set_option maxHeartbeats 2000000 in
theorem w_BoardRights (w : World) (h : Int) (h0 : -9223372036854775808 ≤ h) (h1 : h ≤ 9223372036854775807) (ad : Option Addr) (n cap b o : Nat) (K : Nat → Int) (hL : Ls w ad n cap b o K) (ad2 : Option Addr) (m cap2 b2 o2 : Nat) (A : Nat → Int) (hB : ByA w ad2 m cap2 b2 o2 A) (hn : n ≤ 17592186044416 ∧ (ad = none → n = 0 ∧ cap = 0)) (hm : m ≤ 140737488351232 ∧ (ad2 = none → m = 0 ∧ cap2 = 0)) :
    Calls Tryz.prog 3 #[.int .i64 h, .slice ad n cap, .slice ad2 m cap2] w fun e w' => e = .returned (.bool true) ∧ Below w.heap.size w w' := by
  obtain ⟨i0, hi0, hz0, hs0, hb0⟩ := info_parts info_intG
  have HL := hid hL
  have HNU := hid hL.num
  have HB := hid hB
  have HN := hid hn
  have HM := hid hm
  have HR := hid (fun w8 (ad8 : Option Addr) (c8 b8 o8 : Nat) (q : Ls w8 ad8 n c8 b8 o8 K) (ad9 : Option Addr) (c9 : Nat) => g_Right w8 h h0 h1 ad8 n c8 b8 o8 K q ad9 m c9 (by omega))
  have HRR := hid (fun w8 (ad8 : Option Addr) (c8 b8 o8 : Nat) (q : Ls w8 ad8 n c8 b8 o8 K) (ad9 : Option Addr) (c9 : Nat) => r_Right w8 h h0 h1 ad8 n c8 b8 o8 K q ad9 m c9 (by omega))
  have HCP := hid (fun w8 (q : ByA w8 ad2 m cap2 b2 o2 A) => C.c_CopyBytes w8 ad2 m cap2 A ⟨b2, o2, none⟩ (by omega) hm.2 fun p => ⟨(q.at0 p).1, (q.at0 p).2, fun j hj => by rw [C.addr_add]; exact q.cell j hj⟩)
  have HBb : Hid (∀ w8, Below w.heap.size w w8 → ByA w8 ad2 m cap2 b2 o2 A) := hid fun w8 q => ⟨hB.len, hB.cap, fun p => ⟨(hB.at0 p).1, Nat.lt_of_lt_of_le (hB.at0 p).2 q.size⟩, fun i hi => by rw [← hB.cell i hi]; exact Below.cell q (p := ⟨b2, o2 + i, none⟩) (hB.at0 (by omega)).2⟩
  obtain ⟨rv, hrv⟩ : ∃ rv, rv = rgt h K n m := ⟨_, rfl⟩
  rw [← hrv] at HR HRR
  clear hL hB hn hm hrv h0 h1
  cases ad with
  | none =>
    obtain ⟨rfl, rfl⟩ := HN.out.2 rfl
    go_enter Tryz.func3, Tryz.ntmps3
    go_wp2_with (first
      | (at_builtin; refine wpList_append_own_none rfl _ _ 22 rfl w.heap.size 3 i0 1 u_sintG hi0 _ _ _ rfl (World.ownsRow_nil _ _ _ _) rfl ?_)
      | (go_at_call 8; refine (HCP.out w HB.out).mono ?_; rintro r w1 ⟨u, rfl, q1, q2⟩; obtain ⟨ua, uc, rfl⟩ := own_formB q1; have B1 := hid q2; clear q1 q2)
      | (go_at_call 7; refine (HR.out w1 none 0 0 0 ⟨Nat.le_refl _, by decide, fun q => absurd q (by decide), fun j hj => absurd hj (Nat.not_lt_zero j), fun j hj => absurd hj (Nat.not_lt_zero j)⟩ _ _).mono ?_; rintro r w2 ⟨rfl, q⟩; obtain rfl := q.symm)
      | (go_at_call 9; refine (HRR.out w1 none 0 b o (HL.out.below B1.out) _ _).mono ?_; rintro r w2 ⟨rfl, q⟩; obtain rfl := q.symm)
      | (go_at_call 10; refine (l_awake16 w1).mono ?_; rintro r w3 ⟨rfl, q⟩; have B3 := hid q; clear q))
    go_ret
    exact ⟨rfl, B1.out.trans (B3.out.mono B1.out.size)⟩
  | some a =>
    have HSR : Hid (∀ j u, (itN K n)[j]? = some u → w.cell? (a.add j) = some u) := hid fun j u hu => by
      have hj : j < n := by
        rcases Nat.lt_or_ge j n with q | q
        · exact q
        · rw [List.getElem?_eq_none (by rw [itN_len]; exact q)] at hu; cases hu
      obtain ⟨e, -⟩ := HL.out.at0 (by omega)
      rw [Option.some.inj e, C.addr_add, HL.out.cell j hj]
      rw [itN_at K n j hj] at hu
      exact hu
    have HI1 : Hid (∀ u ∈ itN K n, u.oneCell' = true) := hid fun u hu => by
      simp only [itN, List.mem_map] at hu
      obtain ⟨j, -, rfl⟩ := hu
      rfl
    go_enter Tryz.func3, Tryz.ntmps3
    go_wp2_with (first
      | (at_builtin; refine wpList_append_own _ rfl _ _ 22 rfl w.heap.size 3 i0 (.int .i64 0) 1 8 u_sintG hi0 hz0 hs0 hb0 rfl (by decide) _ 0 [] rfl (World.ownsRow_nil _ _ _ _) a n cap (itN K n) rfl (by rw [itN_len]; omega) HSR.out HI1.out (by unfold maxLen; have := HN.out.1; omega) (by have := HN.out.1; omega) (Nat.le_refl _) ?_; intro v' w0 hown hgrow _; rw [Nat.zero_add, List.nil_append] at hown; obtain ⟨ad', cap', b', rfl, hls⟩ := ls_ownN hown HNU.out; have L0 := hid hls; have B0 : Hid (Below w.heap.size w w0) := hid ((Below.refl _ _).grown hgrow (Nat.le_refl _) (fun k q => by have q' : (none : Option Nat) = some k := q; cases q')); clear hown hgrow hls)
      | (go_at_call 8; refine (HCP.out w0 (HBb.out w0 B0.out)).mono ?_; rintro r w1 ⟨u, rfl, q1, q2⟩; obtain ⟨ua, uc, rfl⟩ := own_formB q1; have L1 := hid (L0.out.below q2); have B1 : Hid (Below w.heap.size w w1) := hid (B0.out.trans (q2.mono B0.out.size)); clear q1 q2)
      | (go_at_call 7; refine (HR.out w1 _ _ _ _ L1.out _ _).mono ?_; rintro r w2 ⟨rfl, q⟩; obtain rfl := q.symm)
      | (go_at_call 9; refine (HRR.out w1 _ _ b o (HL.out.below B1.out) _ _).mono ?_; rintro r w2 ⟨rfl, q⟩; obtain rfl := q.symm)
      | (go_at_call 10; refine (l_awake16 w1).mono ?_; rintro r w3 ⟨rfl, q⟩; have B3 := hid q; clear q))
    go_ret
    exact ⟨rfl, B1.out.trans (B3.out.mono B1.out.size)⟩
end Go.Proofs.YtjkihlpckgaggaaGreat
namespace Go.Proofs.YtjkihlpckgaggaaGreat
open Go.RowKit
open C (Only hid Still ret_bool ret_int row)
open P (Ls)
set_option linter.unusedVariables false
set_option maxRecDepth 100000

/-- what each hart lets, behind k harts -/
def leV (v : Int) (k : Nat) : Nat → Nat := fun j => if j < k then ((v / 2 ^ (2 * j) % 4294967296).toNat &&& 4294967294) else 0
theorem leV_0 (v : Int) : leV v 0 = fun _ => 0 := by funext j; simp [leV]
theorem leV_s (v : Int) (k : Nat) : L.upN (leV v k) k ((v / 2 ^ (2 * k) % 4294967296).toNat &&& 4294967294) = leV v (k + 1) := by
  funext j
  by_cases h : j = k
  · subst h; simp [L.upN, leV]
  · have : (j < k + 1) ↔ (j < k) := by omega
    simp [L.upN, leV, h, this]
theorem leV_at (v : Int) (n k : Nat) (h : k < n) : leV v n k = ((v / 2 ^ (2 * k) % 4294967296).toNat &&& 4294967294) := by simp [leV, h]
theorem dv_b (v : Int) (v0 : 0 ≤ v) (v1 : v < 18446744073709551616) (k : Nat) : 0 ≤ v / 2 ^ k ∧ v / 2 ^ k < 18446744073709551616 := by
  have hp : (0 : Int) < 2 ^ k := Int.pow_pos (by decide)
  refine ⟨Int.ediv_nonneg v0 (Int.le_of_lt hp), ?_⟩
  have := Int.ediv_le_self (2 ^ k) v0
  omega
theorem dv_h (v : Int) (k : Nat) : v / 2 ^ (2 * k + 1) = v / 2 ^ (2 * k) / 2 := by
  rw [Int.ediv_ediv_of_nonneg (Int.le_of_lt (Int.pow_pos (by decide))), Int.pow_succ]
/-- the bytes handed in -/
def lsA (A : Nat → Int) (n : Nat) : List Int := (List.range n).map A
theorem lsA_len (A : Nat → Int) (n : Nat) : (lsA A n).length = n := by simp [lsA]
theorem lsA_row (A : Nat → Int) (n : Nat) : row A 0 n = L.bys (lsA A n) := by simp [row, L.bys, lsA, Function.comp_def]
theorem lsA_mem {A : Nat → Int} (h : ∀ j, 0 ≤ A j ∧ A j < 256) (n : Nat) : ∀ v ∈ lsA A n, 0 ≤ v ∧ v < 256 := by
  intro v hv
  simp only [lsA, List.mem_map] at hv
  obtain ⟨j, -, rfl⟩ := hv
  exact h j
theorem lsA_drop (A : Nat → Int) (n k : Nat) (h : k < n) : (lsA A n).drop k = A k :: (lsA A n).drop (k + 1) := by
  have hl : k < (lsA A n).length := by rw [lsA_len]; exact h
  rw [List.drop_eq_getElem_cons hl]
  simp [lsA]
/-- ahead of the copy, of In, behind both -/
def MI (W : World) (tb bp wp mp mq nh : Nat) (le : Nat → Nat) (wa : World) (l : List Int) : Nat → Value → World → Prop
  | 0, _, w => w = wa
  | 1, u, w => Below wa.heap.size wa w ∧ w.ownsRow wa.heap.size 5 1 u l.length (L.bys l)
  | _, _, w => Ib W tb bp wp mp mq (uvq l) nh le w
theorem MI.cell {W : World} {tb bp wp mp mq nh : Nat} {le : Nat → Nat} {wa w : World} {l : List Int} {k : Nat} {u : Value} (h : MI W tb bp wp mp mq nh le wa l k u w) (hk : k < 2) (h0 : Ib W tb bp wp mp mq (uvq []) nh le wa) : w.cell? ⟨tb, 0, none⟩ = some (ptr bp) ∧ w.cell? ⟨tb, 2, none⟩ = some (ptr mp) := by
  match k, h, hk with
  | 0, h, _ => rw [show w = wa from h]; exact h0.cs
  | 1, h, _ => exact (h0.below h.1).cs
  | k + 2, _, hk => omega
def vtI (tb bp mp : Nat) (bv u : Value) : Nat → Value := fun dd => if dd = 64 then .pointer (some ⟨tb, 0, none⟩) else if dd = 65 then ptr bp else if dd = 66 then .pointer (some ⟨tb, 2, none⟩) else if dd = 67 then .pointer (some ⟨tb, 2, none⟩) else if dd = 68 then ptr mp else if dd = 69 then .iface 30 (ptr mp) else if dd = 70 then bv else if dd = 71 then u else if dd = 72 then .bool true else if dd = 73 then .bool false else undef
set_option maxHeartbeats 4000000 in
theorem w_BI0 (w : World) (v : Int) (v0 : 0 ≤ v) (v1 : v < 18446744073709551616) (ad : Option Addr) (m cap b2 o2 : Nat) (A : Nat → Int) (hB : ByA w ad m cap b2 o2 A) (hA : ∀ j, 0 ≤ A j ∧ A j < 256) (hm : m ≤ 140737488351232 ∧ (ad = none → m = 0 ∧ cap = 0)) (s : Int) (s0 : -9223372036854775808 ≤ s) (s1 : s ≤ 9223372036854775807) (hc : m ≤ 16) : Calls Tryz.prog 6 #[.int .u64 v, .slice ad m cap, .int .i64 s] w fun e w' => e = .returned (.bool true) ∧ Below w.heap.size w w' := by
  obtain ⟨nh, hnh⟩ : ∃ nh : Nat, (nh : Int) = 1 + s % 4 := ⟨(1 + s % 4).toNat, by omega⟩
  have hn1 : 1 ≤ nh := by omega
  have hn4 : nh ≤ 4 := by omega
  have HN := hid (l_New16z w nh hn1 (by omega))
  have HP := hid (C.c_Place s 4 (by decide) (by decide) s0 s1)
  have HNH := hid (show 1 ≤ nh ∧ nh ≤ 4 from ⟨hn1, hn4⟩)
  have HVB := hid (show ∀ k, 0 ≤ v / 2 ^ k ∧ v / 2 ^ k < 18446744073709551616 from dv_b v v0 v1)
  have HB := hid hB
  have HA := hid hA
  have HM := hid hm
  have hwn : IntKind.i64.wrap (1 + s % 4) = (nh : Int) := by rw [IntKind.wrap_i64]; omega
  have lcap := hB.len
  have lcap2 := hB.cap
  clear hB hA hm hnh v0 v1 s0 s1
  go_enter Tryz.func6, Tryz.ntmps6
  go_upto_region 5 with (first
    | (go_at_call 12; refine (HP.out _).mono ?_; rintro r w6 ⟨rfl, hw⟩; obtain rfl := hw.symm; clear HP)
    | (go_at_call 11; refine (HN.out).mono ?_; rintro r w3 ⟨X, wp, mp, mq, rfl, q1, q2, q3, q4, q5⟩; have H0 := hid (q1.ib (nh := nh) (wp := wp) (mp := mp) (mq := mq) q2 q3 q4); obtain ⟨c0, c2⟩ := H0.out.cs; clear q1 q2 q3 q4 q5))
  clear hwn
  obtain ⟨w4, hw4⟩ : ∃ w4, w4 = w3.alloc (.cells #[ptr X.bp, ptr wp, ptr mp, ptr mq] 35) := ⟨_, rfl⟩
  rw [← hw4] at H0 c0 c2 ⊢
  clear hw4 c0 c2 HN
  generalize w3.heap.size = tb at *
  generalize X.bp = bp at *
  go_wp2_with fail
  go_loopw [10] (fun i wr => ∃ k : Nat, k ≤ nh ∧ i = .int .i64 (k : Int) ∧ Hid (Ib w tb bp wp mp mq L.uv0 nh (leV v k) wr)) (fun i _ => nh - (intOf i).toNat)
  case atStart => exact ⟨0, Nat.zero_le _, rfl, by rw [leV_0]; exact H0⟩
  case round =>
    obtain ⟨k, hk, rfl, hI⟩ := hrel
    obtain ⟨c0, c2⟩ := hI.out.cs
    by_cases hkn : k < nh
    · have hx : (k : Int) < nh := by omega
      have e1 : IntKind.i64.wrap (4 * (k : Int)) = 4 * k := by rw [IntKind.wrap_i64]; omega
      have e2 : IntKind.i64.wrap (2 * (k : Int)) = 2 * k := by rw [IntKind.wrap_i64]; omega
      have e3 : IntKind.u64.wrap (2 * (k : Int)) = 2 * k := by rw [IntKind.wrap_u64]; omega
      have e4 : IntKind.i64.wrap ((k : Int) + 1) = k + 1 := by rw [IntKind.wrap_i64]; omega
      go_wp2_with (go_at_call 13; refine (ib_WI hI.out _ k hkn (by omega) _ rfl _ (HVB.out (2 * k)).1 (HVB.out (2 * k)).2 _ (leV_s v k)).mono ?_; rintro r w5 ⟨rfl, q⟩; have H1 := hid q; clear q)
      go_roundw
      case rel => exact ⟨k + 1, hkn, rfl, H1⟩
      case measure => simp [intOf]; omega
    · obtain rfl : k = nh := by omega
      have hlt : ¬ (16 : Int) < (m : Int) := by omega
      clear H0
      go_upto_region 12 with (go_at_call 13; refine (ib_WU hI.out _).mono ?_; rintro r w5 ⟨rfl, q⟩; have H2 := hid q; obtain ⟨d0, d2⟩ := q.cs; clear q)
      clear hI c0 c2
      obtain ⟨wa, hwa⟩ : ∃ wa, wa = w5.drew := ⟨_, rfl⟩
      have H3 : Hid (Ib w tb bp wp mp mq (uvq []) k (leV v k) wa) := by rw [hwa]; exact H2.out.below ((Below.refl _ _).drew)
      have HBA : Hid (ByA wa ad m cap b2 o2 A) := hid ⟨HB.out.len, HB.out.cap, fun p => ⟨(HB.out.at0 p).1, Nat.lt_of_lt_of_le (HB.out.at0 p).2 H3.out.bel.size⟩, fun i hi => by rw [← HB.out.cell i hi]; exact Below.cell H3.out.bel (p := ⟨b2, o2 + i, none⟩) (HB.out.at0 (by omega)).2⟩
      have HCP := hid (C.c_CopyBytes wa ad m cap A ⟨b2, o2, none⟩ (by omega) HM.out.2 fun p => ⟨(HBA.out.at0 p).1, (HBA.out.at0 p).2, fun j hj => by rw [C.addr_add]; exact HBA.out.cell j hj⟩)
      have HL16 := hid (show (lsA A m).length ≤ 16 by rw [lsA_len]; omega)
      refine wp_region_any (by kernel_rfl) ?_
      rw [show ({ w5 with drawn := w5.drawn + 1 } : World) = wa from hwa.symm]
      clear hwa H2 d0 d2
      have HLD : Hid (∀ (x : Value) (listed : Array Bool) w8, VS [7, 8] (MI w tb bp wp mp mq k (leV v k) wa (lsA A m)) x listed w8 → listed.getD 8 false = false → w8.cell? ⟨tb, 0, none⟩ = some (ptr bp) ∧ w8.cell? ⟨tb, 2, none⟩ = some (ptr mp)) := by
        rintro x listed w8 ⟨t, ht, hm⟩ h8
        have := ht 1 8 rfl
        rw [h8] at this
        have ht2 : ¬ 1 < t := by simpa using this.symm
        exact MI.cell hm (by omega) H3.out
      refine wpAny_fz (α := Value) (fun x => vtI tb bp mp (.slice ad m cap) x) (fun x listed w8 => VS [7, 8] (MI w tb bp wp mp mq k (leV v k) wa (lsA A m)) x listed w8) ?step ?fin (.slice none 0 0) ?start
      case start => exact .start rfl
      case step =>
          rintro listed fr wr2 x hF hW hC i hj
          obtain ⟨hl, o, ho, he⟩ := mem_ready.1 hj
          have hjl : i < listed.size := by rw [hF.q.ls]; exact (Array.getElem?_eq_some_iff.1 ho).1
          have hl0 := getD_tf hjl hl
          clear hj
          have HF := hid hF
          have HW := hid hW
          have HE := hid he
          have HC := hid hC
          clear hF hW he hl hC
          match i, ho with
          | 0, ho =>
            obtain rfl := Option.some.inj ho
            have e8 : fr.tmps[8]?.getD undef = .pointer (some ⟨tb, 0, none⟩) := HF.out.base 8 (by kernel_rfl) rfl
            exact wp_q rfl rfl (by simp [execOp, go_sem, e8]; try rfl) ⟨x, HF.out.put (by kernel_rfl) rfl rfl rfl (of_decide_eq_true rfl), HW.out.q hjl (by decide)⟩
          | 1, ho =>
            obtain rfl := Option.some.inj ho
            have e64 : fr.tmps[64]?.getD undef = .pointer (some ⟨tb, 0, none⟩) := HF.out.ev (i := 0) rfl rfl (HE.out ⟨0, .data⟩ (by simp) rfl)
            obtain ⟨l1, l2⟩ := HLD.out _ _ _ HW.out (not_yet (j := 8) HC.out hl0 rfl ⟨1, .data⟩ (by simp) rfl rfl)
            exact wp_q rfl rfl (by simp [execOp, go_sem, e64, l1]; try rfl) ⟨x, HF.out.put (by kernel_rfl) rfl rfl rfl (of_decide_eq_true rfl), HW.out.q hjl (by decide)⟩
          | 2, ho =>
            obtain rfl := Option.some.inj ho
            have e8 : fr.tmps[8]?.getD undef = .pointer (some ⟨tb, 0, none⟩) := HF.out.base 8 (by kernel_rfl) rfl
            exact wp_q rfl rfl (by simp [execOp, go_sem, e8]; try rfl) ⟨x, HF.out.put (by kernel_rfl) rfl rfl rfl (of_decide_eq_true rfl), HW.out.q hjl (by decide)⟩
          | 3, ho =>
            obtain rfl := Option.some.inj ho
            have e66 : fr.tmps[66]?.getD undef = .pointer (some ⟨tb, 2, none⟩) := HF.out.ev (i := 2) rfl rfl (HE.out ⟨2, .data⟩ (by simp) rfl)
            exact wp_q rfl rfl (by simp [execOp, go_sem, e66]; try rfl) ⟨x, HF.out.put (by kernel_rfl) rfl rfl rfl (of_decide_eq_true rfl), HW.out.q hjl (by decide)⟩
          | 4, ho =>
            obtain rfl := Option.some.inj ho
            have e67 : fr.tmps[67]?.getD undef = .pointer (some ⟨tb, 2, none⟩) := HF.out.ev (i := 3) rfl rfl (HE.out ⟨3, .data⟩ (by simp) rfl)
            have n5 : listed.getD 5 false = false := not_yet (j := 5) HC.out hl0 rfl ⟨4, .data⟩ (by simp) rfl rfl
            obtain ⟨l1, l2⟩ := HLD.out _ _ _ HW.out (not_yet (j := 8) HC.out n5 rfl ⟨5, .data⟩ (by simp) rfl rfl)
            exact wp_q rfl rfl (by simp [execOp, go_sem, e67, l2]; try rfl) ⟨x, HF.out.put (by kernel_rfl) rfl rfl rfl (of_decide_eq_true rfl), HW.out.q hjl (by decide)⟩
          | 5, ho =>
            obtain rfl := Option.some.inj ho
            have e68 : fr.tmps[68]?.getD undef = ptr mp := HF.out.ev (i := 4) rfl rfl (HE.out ⟨4, .data⟩ (by simp) rfl)
            exact wp_q rfl rfl (by simp [execOp, go_sem, e68]; try rfl) ⟨x, HF.out.put (by kernel_rfl) rfl rfl rfl (of_decide_eq_true rfl), HW.out.q hjl (by decide)⟩
          | 6, ho =>
            obtain rfl := Option.some.inj ho
            have e1 : fr.tmps[1]?.getD undef = (.slice ad m cap) := HF.out.base 1 (by kernel_rfl) rfl
            exact wp_q rfl rfl (by simp [execOp, go_sem, e1]; try rfl) ⟨x, HF.out.put (by kernel_rfl) rfl rfl rfl (of_decide_eq_true rfl), HW.out.q hjl (by decide)⟩
          | 7, ho =>
            obtain rfl := Option.some.inj ho
            have e70 : fr.tmps[70]?.getD undef = (.slice ad m cap) := HF.out.ev (i := 6) rfl rfl (HE.out ⟨6, .data⟩ (by simp) rfl)
            have n8 : listed.getD 8 false = false := not_yet (j := 8) HC.out hl0 rfl ⟨7, .data⟩ (by simp) rfl rfl
            have m0 : wr2 = wa := HW.out.at 0 rfl hl0 (fun j hj => by omega)
            subst m0
            refine wp_g1 rfl rfl _ _ _ rfl (.slice ad m cap) (by simp [Act.eval, e70]) (Tryz.call8 _ _) HCP.out ?_
            rintro e' w7 ⟨u, rfl, q1, q2⟩
            have hsw := HF.out.swapD (vt' := vtI tb bp mp (.slice ad m cap) u) (by kernel_rfl) (fun d => ?_)
            · refine ⟨_, rfl, u, hsw.put (by kernel_rfl) rfl rfl rfl (of_decide_eq_true rfl), HW.out.go 0 hjl rfl hl0 (fun j hj => by omega) (by intro a ha; match a, ha with | 0, _ => rfl | 1, ha => simp at ha) ⟨q2, ?_⟩⟩
              rw [lsA_row] at q1
              rw [lsA_len]
              exact q1
            · by_cases z0 : d = 71
              · subst z0; exact .inr ⟨7, _, rfl, rfl, hl0⟩
              · left; simp only [vtI, if_neg z0]
          | 8, ho =>
            obtain rfl := Option.some.inj ho
            have e65 : fr.tmps[65]?.getD undef = ptr bp := HF.out.ev (i := 1) rfl rfl (HE.out ⟨1, .data⟩ (by simp) rfl)
            have e69 : fr.tmps[69]?.getD undef = .iface 30 (ptr mp) := HF.out.ev (i := 5) rfl rfl (HE.out ⟨5, .data⟩ (by simp) rfl)
            have e71 : fr.tmps[71]?.getD undef = x := HF.out.ev (i := 7) rfl rfl (HE.out ⟨7, .data⟩ (by simp) rfl)
            have hp := HE.out ⟨7, .data⟩ (by simp) rfl
            obtain ⟨m1, m2⟩ := HW.out.at 1 rfl hl0 (fun j hj => by obtain rfl : j = 0 := (by omega); exact ⟨7, rfl, hp⟩)
            refine wp_g4 rfl rfl _ _ _ _ _ _ rfl (ptr bp) (.iface 30 (ptr mp)) (.int .i64 0) x (by simp [Act.eval, e65]) (by simp [Act.eval, e69]) rfl (by simp [Act.eval, e71]) (Tryz.call15 _ _) (ib_In H3.out m1 (.iface 30 (ptr mp)) x (lsA A m) m2 (lsA_mem HA.out m) HL16.out) ?_
            rintro e' w7 ⟨rfl, q1⟩
            exact ⟨_, rfl, x, HF.out.put (by kernel_rfl) rfl rfl rfl (of_decide_eq_true rfl), HW.out.go 1 hjl rfl hl0 (fun j hj => by obtain rfl : j = 0 := (by omega); exact ⟨7, rfl, hp⟩) (by intro a ha; match a, ha with | 0, ha => simp at ha | 1, _ => rfl) q1⟩
          | 9, ho =>
            obtain rfl := Option.some.inj ho
            have e72 : fr.tmps[72]?.getD undef = .bool true := HF.out.ev (i := 8) rfl rfl (HE.out ⟨8, .data⟩ (by simp) rfl)
            exact wp_q rfl rfl (by simp [execOp, go_sem, e72]; try rfl) ⟨x, HF.out.put (by kernel_rfl) rfl rfl rfl (of_decide_eq_true rfl), HW.out.q hjl (by decide)⟩
      case fin =>
        rintro listed fr w2 x hF hW hr
        have all := allDone hr hF.q.ls (by kernel_rfl)
        have hb : Ib w tb bp wp mp mq (uvq (lsA A m)) k (leV v k) w2 := hW.end 1 rfl (all _ (by decide)) (fun t ht q => by match t, ht with | t + 2, _ => exact q)
        rw [hF.full all]
        have H4 := hid hb
        clear hF hr all hW hb HLD H3 HBA HCP HL16
        simp only [List.foldl_cons, List.foldl_nil, fillF]
        go_simp
        go_wp2_with fail
        go_loopw [11] (fun i wr => ∃ j : Nat, j ≤ m + 1 ∧ i = .int .i64 (j : Int) ∧ Hid (Ib w tb bp wp mp mq (uvq ((lsA A m).drop j)) k (leV v k) wr)) (fun i _ => m + 1 - (intOf i).toNat)
        case atStart => exact ⟨0, Nat.zero_le _, rfl, H4⟩
        case round =>
          obtain ⟨j, hj, rfl, hI⟩ := hrel
          clear H4
          by_cases hjm : (j : Int) ≤ (m : Int)
          · go_wp2_with fail
            go_loopw [12] (fun i2 wr2 => ∃ h : Nat, h ≤ k ∧ i2 = .int .i64 (h : Int) ∧ Hid (Ib w tb bp wp mp mq (uvq ((lsA A m).drop j)) k (leV v k) wr2)) (fun i2 _ => k - (intOf i2).toNat)
            case atStart => exact ⟨0, Nat.zero_le _, rfl, hI⟩
            case round =>
              obtain ⟨h, hh, rfl, hI2⟩ := hrel
              obtain ⟨c0, c2⟩ := hI2.out.cs
              by_cases hhn : h < k
              · have hx : (h : Int) < k := by omega
                have e1 : IntKind.i64.wrap (2 * (h : Int)) = 2 * h := by rw [IntKind.wrap_i64]; omega
                have e2 : IntKind.i64.wrap (2 * (h : Int) + 1) = 2 * h + 1 := by rw [IntKind.wrap_i64]; omega
                have e3 : IntKind.u64.wrap (2 * (h : Int) + 1) = 2 * h + 1 := by rw [IntKind.wrap_u64]; omega
                have e4 : IntKind.i64.wrap ((h : Int) + 1) = h + 1 := by rw [IntKind.wrap_i64]; omega
                have e5 : (2 * (h : Int) + 1).toNat = 2 * h + 1 := by omega
                have hlen : ((lsA A m).drop j).length = m - j := by rw [List.length_drop, lsA_len]
                have hdb := HVB.out (2 * h + 1)
                have e6 : (v / 2 ^ (2 * h + 1)).tmod 2 = v / 2 ^ (2 * h + 1) % 2 := Int.tmod_eq_emod_of_nonneg hdb.1
                clear hdb
                by_cases hjl : (j : Int) < (m : Int)
                · by_cases hb : v / 2 ^ (2 * h + 1) % 2 = 1
                  · go_wp2_with (go_at_call 16; refine (ib_P hI2.out h hhn (by omega) (v / 2 ^ (2 * h)) (HVB.out (2 * h)).1 (leV_at v k h hhn) true (by rw [hlen, ← dv_h, decide_eq_true (show 0 < m - j by omega), decide_eq_true hb]; rfl)).mono ?_; rintro r w6 ⟨rfl, q⟩; have H5 := hid q; clear q)
                    go_roundw
                    case rel => exact ⟨h + 1, hhn, rfl, H5⟩
                    case measure => simp [intOf]; omega
                  · have hb0 : v / 2 ^ (2 * h + 1) % 2 = 0 := by omega
                    go_wp2_with (go_at_call 16; refine (ib_P hI2.out h hhn (by omega) (v / 2 ^ (2 * h)) (HVB.out (2 * h)).1 (leV_at v k h hhn) false (by rw [hlen, ← dv_h, decide_eq_true (show 0 < m - j by omega), decide_eq_false (show ¬ v / 2 ^ (2 * h + 1) % 2 = 1 by omega)]; rfl)).mono ?_; rintro r w6 ⟨rfl, q⟩; have H5 := hid q; clear q)
                    go_roundw
                    case rel => exact ⟨h + 1, hhn, rfl, H5⟩
                    case measure => simp [intOf]; omega
                · by_cases hb : v / 2 ^ (2 * h + 1) % 2 = 1
                  · go_wp2_with (go_at_call 16; refine (ib_P hI2.out h hhn (by omega) (v / 2 ^ (2 * h)) (HVB.out (2 * h)).1 (leV_at v k h hhn) false (by rw [hlen, ← dv_h, decide_eq_false (show ¬ 0 < m - j by omega), decide_eq_true hb]; rfl)).mono ?_; rintro r w6 ⟨rfl, q⟩; have H5 := hid q; clear q)
                    go_roundw
                    case rel => exact ⟨h + 1, hhn, rfl, H5⟩
                    case measure => simp [intOf]; omega
                  · have hb0 : v / 2 ^ (2 * h + 1) % 2 = 0 := by omega
                    go_wp2_with (go_at_call 16; refine (ib_P hI2.out h hhn (by omega) (v / 2 ^ (2 * h)) (HVB.out (2 * h)).1 (leV_at v k h hhn) false (by rw [hlen, ← dv_h, decide_eq_false (show ¬ 0 < m - j by omega), decide_eq_false (show ¬ v / 2 ^ (2 * h + 1) % 2 = 1 by omega)]; rfl)).mono ?_; rintro r w6 ⟨rfl, q⟩; have H5 := hid q; clear q)
                    go_roundw
                    case rel => exact ⟨h + 1, hhn, rfl, H5⟩
                    case measure => simp [intOf]; omega
              · have hx : ¬ (h : Int) < k := by omega
                have e4 : IntKind.i64.wrap ((j : Int) + 1) = j + 1 := by rw [IntKind.wrap_i64]; omega
                clear hI
                by_cases hjl : j < m
                · have hx2 : (j : Int) < (m : Int) := by omega
                  obtain ⟨rfl, hbl⟩ := HB.out.at0 (by omega)
                  clear hbl
                  have ha := HA.out j
                  have hwa : IntKind.u64.wrap (A j) = A j := by rw [IntKind.wrap_u64]; omega
                  rw [lsA_drop A m j hjl] at hI2
                  go_wp2_with (go_at_call 14; refine (ib_RU hI2.out _ (HA.out j).1 (HA.out j).2).mono ?_; rintro r w6 ⟨rfl, q⟩; have cj : w6.cell? ⟨b2, o2 + j, none⟩ = some (.int .u8 (A j)) := (by rw [← HB.out.cell j (by omega)]; exact Below.cell q.bel (p := ⟨b2, o2 + j, none⟩) (HB.out.at0 (by omega)).2); have H5 := hid q; clear q)
                  go_roundw
                  case rel => exact ⟨j + 1, by omega, rfl, H5⟩
                  case measure => simp [intOf]; omega
                · have hx2 : ¬ (j : Int) < (m : Int) := by omega
                  rw [List.drop_of_length_le (show (lsA A m).length ≤ j by rw [lsA_len]; omega), ← List.drop_of_length_le (show (lsA A m).length ≤ j + 1 by rw [lsA_len]; omega)] at hI2
                  go_wp2_with fail
                  go_roundw
                  case rel => exact ⟨j + 1, by omega, rfl, hI2⟩
                  case measure => simp [intOf]; omega
          · go_wp2_with (go_at_call 10; refine (l_awake16 _).mono ?_; rintro r w20 ⟨rfl, q⟩; have BE := hid (hI.out.bel.trans (q.mono hI.out.bel.size)); clear q)
            go_ret
            exact ⟨rfl, BE.out⟩
end Go.Proofs.YtjkihlpckgaggaaGreat
namespace Go.Proofs.YtjkihlpckgaggaaGreat
open Go.RowKit
open C (Only hid Still ret_bool ret_int row)
open P (Ls)
set_option linter.unusedVariables false
set_option maxRecDepth 100000

set_option maxHeartbeats 4000000 in
theorem w_BI1 (w : World) (v : Int) (v0 : 0 ≤ v) (v1 : v < 18446744073709551616) (ad : Option Addr) (m cap b2 o2 : Nat) (A : Nat → Int) (hB : ByA w ad m cap b2 o2 A) (hA : ∀ j, 0 ≤ A j ∧ A j < 256) (hm : m ≤ 140737488351232 ∧ (ad = none → m = 0 ∧ cap = 0)) (s : Int) (s0 : -9223372036854775808 ≤ s) (s1 : s ≤ 9223372036854775807) (hc : 16 < m) : Calls Tryz.prog 6 #[.int .u64 v, .slice ad m cap, .int .i64 s] w fun e w' => e = .returned (.bool true) ∧ Below w.heap.size w w' := by
  obtain ⟨nh, hnh⟩ : ∃ nh : Nat, (nh : Int) = 1 + s % 4 := ⟨(1 + s % 4).toNat, by omega⟩
  have hn1 : 1 ≤ nh := by omega
  have hn4 : nh ≤ 4 := by omega
  have HN := hid (l_New16z w nh hn1 (by omega))
  have HP := hid (C.c_Place s 4 (by decide) (by decide) s0 s1)
  have HNH := hid (show 1 ≤ nh ∧ nh ≤ 4 from ⟨hn1, hn4⟩)
  have HVB := hid (show ∀ k, 0 ≤ v / 2 ^ k ∧ v / 2 ^ k < 18446744073709551616 from dv_b v v0 v1)
  have HB := hid hB
  have HA := hid hA
  have HM := hid hm
  have hwn : IntKind.i64.wrap (1 + s % 4) = (nh : Int) := by rw [IntKind.wrap_i64]; omega
  have lcap := hB.len
  have lcap2 := hB.cap
  clear hB hA hm hnh v0 v1 s0 s1
  go_enter Tryz.func6, Tryz.ntmps6
  go_upto_region 5 with (first
    | (go_at_call 12; refine (HP.out _).mono ?_; rintro r w6 ⟨rfl, hw⟩; obtain rfl := hw.symm; clear HP)
    | (go_at_call 11; refine (HN.out).mono ?_; rintro r w3 ⟨X, wp, mp, mq, rfl, q1, q2, q3, q4, q5⟩; have H0 := hid (q1.ib (nh := nh) (wp := wp) (mp := mp) (mq := mq) q2 q3 q4); obtain ⟨c0, c2⟩ := H0.out.cs; clear q1 q2 q3 q4 q5))
  clear hwn
  obtain ⟨w4, hw4⟩ : ∃ w4, w4 = w3.alloc (.cells #[ptr X.bp, ptr wp, ptr mp, ptr mq] 35) := ⟨_, rfl⟩
  rw [← hw4] at H0 c0 c2 ⊢
  clear hw4 c0 c2 HN
  generalize w3.heap.size = tb at *
  generalize X.bp = bp at *
  go_wp2_with fail
  go_loopw [10] (fun i wr => ∃ k : Nat, k ≤ nh ∧ i = .int .i64 (k : Int) ∧ Hid (Ib w tb bp wp mp mq L.uv0 nh (leV v k) wr)) (fun i _ => nh - (intOf i).toNat)
  case atStart => exact ⟨0, Nat.zero_le _, rfl, by rw [leV_0]; exact H0⟩
  case round =>
    obtain ⟨k, hk, rfl, hI⟩ := hrel
    obtain ⟨c0, c2⟩ := hI.out.cs
    by_cases hkn : k < nh
    · have hx : (k : Int) < nh := by omega
      have e1 : IntKind.i64.wrap (4 * (k : Int)) = 4 * k := by rw [IntKind.wrap_i64]; omega
      have e2 : IntKind.i64.wrap (2 * (k : Int)) = 2 * k := by rw [IntKind.wrap_i64]; omega
      have e3 : IntKind.u64.wrap (2 * (k : Int)) = 2 * k := by rw [IntKind.wrap_u64]; omega
      have e4 : IntKind.i64.wrap ((k : Int) + 1) = k + 1 := by rw [IntKind.wrap_i64]; omega
      go_wp2_with (go_at_call 13; refine (ib_WI hI.out _ k hkn (by omega) _ rfl _ (HVB.out (2 * k)).1 (HVB.out (2 * k)).2 _ (leV_s v k)).mono ?_; rintro r w5 ⟨rfl, q⟩; have H1 := hid q; clear q)
      go_roundw
      case rel => exact ⟨k + 1, hkn, rfl, H1⟩
      case measure => simp [intOf]; omega
    · obtain rfl : k = nh := by omega
      have hlt : (16 : Int) < (m : Int) := by omega
      clear H0
      obtain ⟨rfl, hbl⟩ := HB.out.at0 (by omega)
      clear hbl
      go_upto_region 12 with (go_at_call 13; refine (ib_WU hI.out _).mono ?_; rintro r w5 ⟨rfl, q⟩; have H2 := hid q; obtain ⟨d0, d2⟩ := q.cs; clear q)
      clear hI c0 c2
      obtain ⟨wa, hwa⟩ : ∃ wa, wa = w5.drew := ⟨_, rfl⟩
      have H3 : Hid (Ib w tb bp wp mp mq (uvq []) k (leV v k) wa) := by rw [hwa]; exact H2.out.below ((Below.refl _ _).drew)
      have HBA : Hid (ByA wa (some ⟨b2, o2, none⟩) m cap b2 o2 A) := hid ⟨HB.out.len, HB.out.cap, fun p => ⟨(HB.out.at0 p).1, Nat.lt_of_lt_of_le (HB.out.at0 p).2 H3.out.bel.size⟩, fun i hi => by rw [← HB.out.cell i hi]; exact Below.cell H3.out.bel (p := ⟨b2, o2 + i, none⟩) (HB.out.at0 (by omega)).2⟩
      have HCP := hid (C.c_CopyBytes wa (some ⟨b2, o2, none⟩) 16 cap A ⟨b2, o2, none⟩ (by decide) (fun q => by cases q) fun p => ⟨rfl, (HBA.out.at0 (by omega)).2, fun j hj => by rw [C.addr_add]; exact HBA.out.cell j (by omega)⟩)
      have HL16 := hid (show (lsA A 16).length ≤ 16 by rw [lsA_len]; omega)
      refine wp_region_any (by kernel_rfl) ?_
      rw [show ({ w5 with drawn := w5.drawn + 1 } : World) = wa from hwa.symm]
      clear hwa H2 d0 d2
      have HLD : Hid (∀ (x : Value) (listed : Array Bool) w8, VS [7, 8] (MI w tb bp wp mp mq k (leV v k) wa (lsA A 16)) x listed w8 → listed.getD 8 false = false → w8.cell? ⟨tb, 0, none⟩ = some (ptr bp) ∧ w8.cell? ⟨tb, 2, none⟩ = some (ptr mp)) := by
        rintro x listed w8 ⟨t, ht, hm⟩ h8
        have := ht 1 8 rfl
        rw [h8] at this
        have ht2 : ¬ 1 < t := by simpa using this.symm
        exact MI.cell hm (by omega) H3.out
      refine wpAny_fz (α := Value) (fun x => vtI tb bp mp (.slice (some ⟨b2, o2, none⟩) 16 cap) x) (fun x listed w8 => VS [7, 8] (MI w tb bp wp mp mq k (leV v k) wa (lsA A 16)) x listed w8) ?step ?fin (.slice none 0 0) ?start
      case start => exact .start rfl
      case step =>
          rintro listed fr wr2 x hF hW hC i hj
          obtain ⟨hl, o, ho, he⟩ := mem_ready.1 hj
          have hjl : i < listed.size := by rw [hF.q.ls]; exact (Array.getElem?_eq_some_iff.1 ho).1
          have hl0 := getD_tf hjl hl
          clear hj
          have HF := hid hF
          have HW := hid hW
          have HE := hid he
          have HC := hid hC
          clear hF hW he hl hC
          match i, ho with
          | 0, ho =>
            obtain rfl := Option.some.inj ho
            have e8 : fr.tmps[8]?.getD undef = .pointer (some ⟨tb, 0, none⟩) := HF.out.base 8 (by kernel_rfl) rfl
            exact wp_q rfl rfl (by simp [execOp, go_sem, e8]; try rfl) ⟨x, HF.out.put (by kernel_rfl) rfl rfl rfl (of_decide_eq_true rfl), HW.out.q hjl (by decide)⟩
          | 1, ho =>
            obtain rfl := Option.some.inj ho
            have e64 : fr.tmps[64]?.getD undef = .pointer (some ⟨tb, 0, none⟩) := HF.out.ev (i := 0) rfl rfl (HE.out ⟨0, .data⟩ (by simp) rfl)
            obtain ⟨l1, l2⟩ := HLD.out _ _ _ HW.out (not_yet (j := 8) HC.out hl0 rfl ⟨1, .data⟩ (by simp) rfl rfl)
            exact wp_q rfl rfl (by simp [execOp, go_sem, e64, l1]; try rfl) ⟨x, HF.out.put (by kernel_rfl) rfl rfl rfl (of_decide_eq_true rfl), HW.out.q hjl (by decide)⟩
          | 2, ho =>
            obtain rfl := Option.some.inj ho
            have e8 : fr.tmps[8]?.getD undef = .pointer (some ⟨tb, 0, none⟩) := HF.out.base 8 (by kernel_rfl) rfl
            exact wp_q rfl rfl (by simp [execOp, go_sem, e8]; try rfl) ⟨x, HF.out.put (by kernel_rfl) rfl rfl rfl (of_decide_eq_true rfl), HW.out.q hjl (by decide)⟩
          | 3, ho =>
            obtain rfl := Option.some.inj ho
            have e66 : fr.tmps[66]?.getD undef = .pointer (some ⟨tb, 2, none⟩) := HF.out.ev (i := 2) rfl rfl (HE.out ⟨2, .data⟩ (by simp) rfl)
            exact wp_q rfl rfl (by simp [execOp, go_sem, e66]; try rfl) ⟨x, HF.out.put (by kernel_rfl) rfl rfl rfl (of_decide_eq_true rfl), HW.out.q hjl (by decide)⟩
          | 4, ho =>
            obtain rfl := Option.some.inj ho
            have e67 : fr.tmps[67]?.getD undef = .pointer (some ⟨tb, 2, none⟩) := HF.out.ev (i := 3) rfl rfl (HE.out ⟨3, .data⟩ (by simp) rfl)
            have n5 : listed.getD 5 false = false := not_yet (j := 5) HC.out hl0 rfl ⟨4, .data⟩ (by simp) rfl rfl
            obtain ⟨l1, l2⟩ := HLD.out _ _ _ HW.out (not_yet (j := 8) HC.out n5 rfl ⟨5, .data⟩ (by simp) rfl rfl)
            exact wp_q rfl rfl (by simp [execOp, go_sem, e67, l2]; try rfl) ⟨x, HF.out.put (by kernel_rfl) rfl rfl rfl (of_decide_eq_true rfl), HW.out.q hjl (by decide)⟩
          | 5, ho =>
            obtain rfl := Option.some.inj ho
            have e68 : fr.tmps[68]?.getD undef = ptr mp := HF.out.ev (i := 4) rfl rfl (HE.out ⟨4, .data⟩ (by simp) rfl)
            exact wp_q rfl rfl (by simp [execOp, go_sem, e68]; try rfl) ⟨x, HF.out.put (by kernel_rfl) rfl rfl rfl (of_decide_eq_true rfl), HW.out.q hjl (by decide)⟩
          | 6, ho =>
            obtain rfl := Option.some.inj ho
            have e1 : fr.tmps[1]?.getD undef = (.slice (some ⟨b2, o2, none⟩) 16 cap) := HF.out.base 1 (by kernel_rfl) rfl
            exact wp_q rfl rfl (by simp [execOp, go_sem, e1]; try rfl) ⟨x, HF.out.put (by kernel_rfl) rfl rfl rfl (of_decide_eq_true rfl), HW.out.q hjl (by decide)⟩
          | 7, ho =>
            obtain rfl := Option.some.inj ho
            have e70 : fr.tmps[70]?.getD undef = (.slice (some ⟨b2, o2, none⟩) 16 cap) := HF.out.ev (i := 6) rfl rfl (HE.out ⟨6, .data⟩ (by simp) rfl)
            have n8 : listed.getD 8 false = false := not_yet (j := 8) HC.out hl0 rfl ⟨7, .data⟩ (by simp) rfl rfl
            have m0 : wr2 = wa := HW.out.at 0 rfl hl0 (fun j hj => by omega)
            subst m0
            refine wp_g1 rfl rfl _ _ _ rfl (.slice (some ⟨b2, o2, none⟩) 16 cap) (by simp [Act.eval, e70]) (Tryz.call8 _ _) HCP.out ?_
            rintro e' w7 ⟨u, rfl, q1, q2⟩
            have hsw := HF.out.swapD (vt' := vtI tb bp mp (.slice (some ⟨b2, o2, none⟩) 16 cap) u) (by kernel_rfl) (fun d => ?_)
            · refine ⟨_, rfl, u, hsw.put (by kernel_rfl) rfl rfl rfl (of_decide_eq_true rfl), HW.out.go 0 hjl rfl hl0 (fun j hj => by omega) (by intro a ha; match a, ha with | 0, _ => rfl | 1, ha => simp at ha) ⟨q2, ?_⟩⟩
              rw [lsA_row] at q1
              rw [lsA_len]
              exact q1
            · by_cases z0 : d = 71
              · subst z0; exact .inr ⟨7, _, rfl, rfl, hl0⟩
              · left; simp only [vtI, if_neg z0]
          | 8, ho =>
            obtain rfl := Option.some.inj ho
            have e65 : fr.tmps[65]?.getD undef = ptr bp := HF.out.ev (i := 1) rfl rfl (HE.out ⟨1, .data⟩ (by simp) rfl)
            have e69 : fr.tmps[69]?.getD undef = .iface 30 (ptr mp) := HF.out.ev (i := 5) rfl rfl (HE.out ⟨5, .data⟩ (by simp) rfl)
            have e71 : fr.tmps[71]?.getD undef = x := HF.out.ev (i := 7) rfl rfl (HE.out ⟨7, .data⟩ (by simp) rfl)
            have hp := HE.out ⟨7, .data⟩ (by simp) rfl
            obtain ⟨m1, m2⟩ := HW.out.at 1 rfl hl0 (fun j hj => by obtain rfl : j = 0 := (by omega); exact ⟨7, rfl, hp⟩)
            refine wp_g4 rfl rfl _ _ _ _ _ _ rfl (ptr bp) (.iface 30 (ptr mp)) (.int .i64 0) x (by simp [Act.eval, e65]) (by simp [Act.eval, e69]) rfl (by simp [Act.eval, e71]) (Tryz.call15 _ _) (ib_In H3.out m1 (.iface 30 (ptr mp)) x (lsA A 16) m2 (lsA_mem HA.out 16) HL16.out) ?_
            rintro e' w7 ⟨rfl, q1⟩
            exact ⟨_, rfl, x, HF.out.put (by kernel_rfl) rfl rfl rfl (of_decide_eq_true rfl), HW.out.go 1 hjl rfl hl0 (fun j hj => by obtain rfl : j = 0 := (by omega); exact ⟨7, rfl, hp⟩) (by intro a ha; match a, ha with | 0, ha => simp at ha | 1, _ => rfl) q1⟩
          | 9, ho =>
            obtain rfl := Option.some.inj ho
            have e72 : fr.tmps[72]?.getD undef = .bool true := HF.out.ev (i := 8) rfl rfl (HE.out ⟨8, .data⟩ (by simp) rfl)
            exact wp_q rfl rfl (by simp [execOp, go_sem, e72]; try rfl) ⟨x, HF.out.put (by kernel_rfl) rfl rfl rfl (of_decide_eq_true rfl), HW.out.q hjl (by decide)⟩
      case fin =>
        rintro listed fr w2 x hF hW hr
        have all := allDone hr hF.q.ls (by kernel_rfl)
        have hb : Ib w tb bp wp mp mq (uvq (lsA A 16)) k (leV v k) w2 := hW.end 1 rfl (all _ (by decide)) (fun t ht q => by match t, ht with | t + 2, _ => exact q)
        rw [hF.full all]
        have H4 := hid hb
        clear hF hr all hW hb HLD H3 HBA HCP HL16
        simp only [List.foldl_cons, List.foldl_nil, fillF]
        go_simp
        go_wp2_with fail
        go_loopw [11] (fun i wr => ∃ j : Nat, j ≤ 16 + 1 ∧ i = .int .i64 (j : Int) ∧ Hid (Ib w tb bp wp mp mq (uvq ((lsA A 16).drop j)) k (leV v k) wr)) (fun i _ => 16 + 1 - (intOf i).toNat)
        case atStart => exact ⟨0, Nat.zero_le _, rfl, H4⟩
        case round =>
          obtain ⟨j, hj, rfl, hI⟩ := hrel
          clear H4
          by_cases hjm : (j : Int) ≤ (16 : Int)
          · go_wp2_with fail
            go_loopw [12] (fun i2 wr2 => ∃ h : Nat, h ≤ k ∧ i2 = .int .i64 (h : Int) ∧ Hid (Ib w tb bp wp mp mq (uvq ((lsA A 16).drop j)) k (leV v k) wr2)) (fun i2 _ => k - (intOf i2).toNat)
            case atStart => exact ⟨0, Nat.zero_le _, rfl, hI⟩
            case round =>
              obtain ⟨h, hh, rfl, hI2⟩ := hrel
              obtain ⟨c0, c2⟩ := hI2.out.cs
              by_cases hhn : h < k
              · have hx : (h : Int) < k := by omega
                have e1 : IntKind.i64.wrap (2 * (h : Int)) = 2 * h := by rw [IntKind.wrap_i64]; omega
                have e2 : IntKind.i64.wrap (2 * (h : Int) + 1) = 2 * h + 1 := by rw [IntKind.wrap_i64]; omega
                have e3 : IntKind.u64.wrap (2 * (h : Int) + 1) = 2 * h + 1 := by rw [IntKind.wrap_u64]; omega
                have e4 : IntKind.i64.wrap ((h : Int) + 1) = h + 1 := by rw [IntKind.wrap_i64]; omega
                have e5 : (2 * (h : Int) + 1).toNat = 2 * h + 1 := by omega
                have hlen : ((lsA A 16).drop j).length = 16 - j := by rw [List.length_drop, lsA_len]
                have hdb := HVB.out (2 * h + 1)
                have e6 : (v / 2 ^ (2 * h + 1)).tmod 2 = v / 2 ^ (2 * h + 1) % 2 := Int.tmod_eq_emod_of_nonneg hdb.1
                clear hdb
                by_cases hjl : (j : Int) < (16 : Int)
                · by_cases hb : v / 2 ^ (2 * h + 1) % 2 = 1
                  · go_wp2_with (go_at_call 16; refine (ib_P hI2.out h hhn (by omega) (v / 2 ^ (2 * h)) (HVB.out (2 * h)).1 (leV_at v k h hhn) true (by rw [hlen, ← dv_h, decide_eq_true (show 0 < 16 - j by omega), decide_eq_true hb]; rfl)).mono ?_; rintro r w6 ⟨rfl, q⟩; have H5 := hid q; clear q)
                    go_roundw
                    case rel => exact ⟨h + 1, hhn, rfl, H5⟩
                    case measure => simp [intOf]; omega
                  · have hb0 : v / 2 ^ (2 * h + 1) % 2 = 0 := by omega
                    go_wp2_with (go_at_call 16; refine (ib_P hI2.out h hhn (by omega) (v / 2 ^ (2 * h)) (HVB.out (2 * h)).1 (leV_at v k h hhn) false (by rw [hlen, ← dv_h, decide_eq_true (show 0 < 16 - j by omega), decide_eq_false (show ¬ v / 2 ^ (2 * h + 1) % 2 = 1 by omega)]; rfl)).mono ?_; rintro r w6 ⟨rfl, q⟩; have H5 := hid q; clear q)
                    go_roundw
                    case rel => exact ⟨h + 1, hhn, rfl, H5⟩
                    case measure => simp [intOf]; omega
                · by_cases hb : v / 2 ^ (2 * h + 1) % 2 = 1
                  · go_wp2_with (go_at_call 16; refine (ib_P hI2.out h hhn (by omega) (v / 2 ^ (2 * h)) (HVB.out (2 * h)).1 (leV_at v k h hhn) false (by rw [hlen, ← dv_h, decide_eq_false (show ¬ 0 < 16 - j by omega), decide_eq_true hb]; rfl)).mono ?_; rintro r w6 ⟨rfl, q⟩; have H5 := hid q; clear q)
                    go_roundw
                    case rel => exact ⟨h + 1, hhn, rfl, H5⟩
                    case measure => simp [intOf]; omega
                  · have hb0 : v / 2 ^ (2 * h + 1) % 2 = 0 := by omega
                    go_wp2_with (go_at_call 16; refine (ib_P hI2.out h hhn (by omega) (v / 2 ^ (2 * h)) (HVB.out (2 * h)).1 (leV_at v k h hhn) false (by rw [hlen, ← dv_h, decide_eq_false (show ¬ 0 < 16 - j by omega), decide_eq_false (show ¬ v / 2 ^ (2 * h + 1) % 2 = 1 by omega)]; rfl)).mono ?_; rintro r w6 ⟨rfl, q⟩; have H5 := hid q; clear q)
                    go_roundw
                    case rel => exact ⟨h + 1, hhn, rfl, H5⟩
                    case measure => simp [intOf]; omega
              · have hx : ¬ (h : Int) < k := by omega
                have e4 : IntKind.i64.wrap ((j : Int) + 1) = j + 1 := by rw [IntKind.wrap_i64]; omega
                clear hI
                by_cases hjl : j < 16
                · have hx2 : (j : Int) < (16 : Int) := by omega
                  have ha := HA.out j
                  have hwa : IntKind.u64.wrap (A j) = A j := by rw [IntKind.wrap_u64]; omega
                  rw [lsA_drop A 16 j hjl] at hI2
                  go_wp2_with (go_at_call 14; refine (ib_RU hI2.out _ (HA.out j).1 (HA.out j).2).mono ?_; rintro r w6 ⟨rfl, q⟩; have cj : w6.cell? ⟨b2, o2 + j, none⟩ = some (.int .u8 (A j)) := (by rw [← HB.out.cell j (by omega)]; exact Below.cell q.bel (p := ⟨b2, o2 + j, none⟩) (HB.out.at0 (by omega)).2); have H5 := hid q; clear q)
                  go_roundw
                  case rel => exact ⟨j + 1, by omega, rfl, H5⟩
                  case measure => simp [intOf]; omega
                · have hx2 : ¬ (j : Int) < (16 : Int) := by omega
                  rw [List.drop_of_length_le (show (lsA A 16).length ≤ j by rw [lsA_len]; omega), ← List.drop_of_length_le (show (lsA A 16).length ≤ j + 1 by rw [lsA_len]; omega)] at hI2
                  go_wp2_with fail
                  go_roundw
                  case rel => exact ⟨j + 1, by omega, rfl, hI2⟩
                  case measure => simp [intOf]; omega
          · go_wp2_with (go_at_call 10; refine (l_awake16 _).mono ?_; rintro r w20 ⟨rfl, q⟩; have BE := hid (hI.out.bel.trans (q.mono hI.out.bel.size)); clear q)
            go_ret
            exact ⟨rfl, BE.out⟩
end Go.Proofs.YtjkihlpckgaggaaGreat
namespace Go.Proofs.YtjkihlpckgaggaaGreat
open Go.ChangeShapes Go.WideShapes Go.ChangeAt Go.RowKit Go.Deep
open P (Ls)
set_option linter.unusedVariables false

theorem cells_intsG : Tryz.prog.cellsOf 3 = 1 := by kernel_rfl
set_option maxRecDepth 100000 in
theorem open_ints {H : Type} {enc : TypeId × Value → H} {W : World} {base : Nat} {r : Reach} {b : Nat} {v : Value} {d : DataW H} {p : List MemPlace}
    (hv : Value.okWide Tryz.prog W r b 22 v) (h : DataW.Trod enc Tryz.prog W base (fun _ => true) true 22 v d p) (hlt : ∀ x ∈ p, x.block < W.heap.size) :
    ∃ (ad : Option Addr) (la cap ab ao : Nat) (A : Nat → Int), v = .slice ad la cap ∧ Ls W ad la cap ab ao A := by
  obtain ⟨ad, la, cap, ar, aa, rfl, hl, hm, hw, hc⟩ := C.open_nums Tryz.underlying22 Tryz.underlying3 cells_intsG hv h hlt
  obtain ⟨ab, ao, asp⟩ := aa
  have hsp : 0 < la → asp = none := fun q => by
    have := (hc q).2.2 0 q
    simpa [Addr.add] using World.cell?_spot this
  refine ⟨ad, la, cap, ab, ao, ar, rfl, ⟨hl, hm, fun q => ?_, fun i hi => ?_, fun i _ => ?_⟩⟩
  · obtain rfl := hsp q
    exact ⟨(hc q).1, (hc q).2.1⟩
  · obtain rfl := hsp (by omega)
    have := (hc (by omega)).2.2 i hi
    rwa [C.addr_add] at this
  · rcases hw i with q | q
    · rw [q]; exact ⟨by decide, by decide⟩
    · exact bounds_i64 q
theorem u_intsG : Tryz.prog.underlying 22 = some (.slice 3) := by kernel_rfl
theorem bytes_intsG : Tryz.prog.bytesOf 3 = 8 := by kernel_rfl
set_option maxRecDepth 100000 in
theorem ints_ln {H : Type} {enc : TypeId × Value → H} {W : World} {base : Nat} {ad : Option Addr} {la cap : Nat} {d : DataW H} {p : List MemPlace} (h : DataW.Trod enc Tryz.prog W base (fun _ => true) true 22 (.slice ad la cap) d p) (hw : ∀ n ∈ d.weights Tryz.prog 22, n ≤ reachBytes) : la ≤ 17592186044416 ∧ (ad = none → la = 0 ∧ cap = 0) := by
  obtain ⟨fuel, hf⟩ := h
  rcases open_slice u_intsG hf with ⟨hcs, hx⟩ | ⟨a, len', cap', m, n, D, Pl, hcs, _, hl, hm, hmm, hx, hel⟩
  · simp [Value.cells] at hcs
    obtain ⟨rfl, rfl, rfl⟩ := hcs
    exact ⟨Nat.zero_le _, fun _ => ⟨rfl, rfl⟩⟩
  · simp [Value.cells] at hcs
    obtain ⟨rfl, rfl, rfl⟩ := hcs
    simp only [Prod.mk.injEq] at hx
    obtain ⟨rfl, rfl⟩ := hx
    have h2 := hw ((((List.range la).map D).length + ((List.range (m - la)).map fun j => D (la + j)).length) * Tryz.prog.bytesOf 3) (by simp [DataW.weights])
    rw [bytes_intsG] at h2
    simp [reachBytes] at h2
    exact ⟨by omega, fun z => by cases z⟩
theorem cells_bytsG : Tryz.prog.cellsOf 5 = 1 := by kernel_rfl
set_option maxRecDepth 100000 in
theorem open_byts {H : Type} {enc : TypeId × Value → H} {W : World} {base : Nat} {r : Reach} {b : Nat} {v : Value} {d : DataW H} {p : List MemPlace}
    (hv : Value.okWide Tryz.prog W r b 23 v) (h : DataW.Trod enc Tryz.prog W base (fun _ => true) true 23 v d p) (hlt : ∀ x ∈ p, x.block < W.heap.size) :
    ∃ (ad : Option Addr) (la cap ab ao : Nat) (A : Nat → Int), v = .slice ad la cap ∧ ByA W ad la cap ab ao A := by
  obtain ⟨ad, la, cap, ar, aa, rfl, hl, hm, hw, hc⟩ := C.open_nums Tryz.underlying23 Tryz.underlying5 cells_bytsG hv h hlt
  obtain ⟨ab, ao, asp⟩ := aa
  have hsp : 0 < la → asp = none := fun q => by
    have := (hc q).2.2 0 q
    simpa [Addr.add] using World.cell?_spot this
  refine ⟨ad, la, cap, ab, ao, ar, rfl, ⟨hl, hm, fun q => ?_, fun i hi => ?_⟩⟩
  · obtain rfl := hsp q
    exact ⟨(hc q).1, (hc q).2.1⟩
  · obtain rfl := hsp (by omega)
    have := (hc (by omega)).2.2 i hi
    rwa [C.addr_add] at this
theorem u_bytsG : Tryz.prog.underlying 23 = some (.slice 5) := by kernel_rfl
theorem bytes_bytsG : Tryz.prog.bytesOf 5 = 1 := by kernel_rfl
set_option maxRecDepth 100000 in
theorem byts_ln {H : Type} {enc : TypeId × Value → H} {W : World} {base : Nat} {ad : Option Addr} {la cap : Nat} {d : DataW H} {p : List MemPlace} (h : DataW.Trod enc Tryz.prog W base (fun _ => true) true 23 (.slice ad la cap) d p) (hw : ∀ n ∈ d.weights Tryz.prog 23, n ≤ reachBytes) : la ≤ 140737488351232 ∧ (ad = none → la = 0 ∧ cap = 0) := by
  obtain ⟨fuel, hf⟩ := h
  rcases open_slice u_bytsG hf with ⟨hcs, hx⟩ | ⟨a, len', cap', m, n, D, Pl, hcs, _, hl, hm, hmm, hx, hel⟩
  · simp [Value.cells] at hcs
    obtain ⟨rfl, rfl, rfl⟩ := hcs
    exact ⟨Nat.zero_le _, fun _ => ⟨rfl, rfl⟩⟩
  · simp [Value.cells] at hcs
    obtain ⟨rfl, rfl, rfl⟩ := hcs
    simp only [Prod.mk.injEq] at hx
    obtain ⟨rfl, rfl⟩ := hx
    have h2 := hw ((((List.range la).map D).length + ((List.range (m - la)).map fun j => D (la + j)).length) * Tryz.prog.bytesOf 5) (by simp [DataW.weights])
    rw [bytes_bytsG] at h2
    simp [reachBytes] at h2
    exact ⟨by omega, fun z => by cases z⟩
end Go.Proofs.YtjkihlpckgaggaaGreat
namespace Go.Proofs.YtjkihlpckgaggaaGreat
open Go.RowKit
set_option maxRecDepth 100000 in
set_option linter.all false in
theorem open_bytsN {H : Type} {enc : TypeId × Value → H} {W : World} {base : Nat} {r : Reach} {b : Nat} {v : Value} {d : DataW H} {p : List MemPlace}
    (hv : Value.okWide Tryz.prog W r b 23 v) (h : DataW.Trod enc Tryz.prog W base (fun _ => true) true 23 v d p) (hlt : ∀ x ∈ p, x.block < W.heap.size) :
    ∃ (ad : Option Addr) (la cap ab ao : Nat) (A : Nat → Int), v = .slice ad la cap ∧ ByA W ad la cap ab ao A ∧ ∀ j, 0 ≤ A j ∧ A j < 256 := by
  obtain ⟨ad, la, cap, ar, aa, rfl, hl, hm, hw, hc⟩ := C.open_nums Tryz.underlying23 Tryz.underlying5 cells_bytsG hv h hlt
  obtain ⟨ab, ao, asp⟩ := aa
  have hsp : 0 < la → asp = none := fun q => by
    have := (hc q).2.2 0 q
    simpa [Addr.add] using World.cell?_spot this
  refine ⟨ad, la, cap, ab, ao, ar, rfl, ⟨hl, hm, fun q => ?_, fun i hi => ?_⟩, fun j => ?_⟩
  · obtain rfl := hsp q
    exact ⟨(hc q).1, (hc q).2.1⟩
  · obtain rfl := hsp (by omega)
    have := (hc (by omega)).2.2 i hi
    rwa [C.addr_add] at this
  · rcases hw j with q | q
    · rw [q]; exact ⟨by decide, by decide⟩
    · simp [Lit.wf, IntKind.min, IntKind.max, IntKind.signed, IntKind.bits] at q
      omega
theorem w_BoardInterrupts (w : World) (v : Int) (v0 : 0 ≤ v) (v1 : v < 18446744073709551616) (ad : Option Addr) (m cap b2 o2 : Nat) (A : Nat → Int) (hB : ByA w ad m cap b2 o2 A ∧ ∀ j, 0 ≤ A j ∧ A j < 256) (s : Int) (s0 : -9223372036854775808 ≤ s) (s1 : s ≤ 9223372036854775807) (hm : m ≤ 140737488351232 ∧ (ad = none → m = 0 ∧ cap = 0)) : Calls Tryz.prog 6 #[.int .u64 v, .slice ad m cap, .int .i64 s] w fun e w' => e = .returned (.bool true) ∧ Below w.heap.size w w' := by
  by_cases h : m ≤ 16
  · exact w_BI0 w v v0 v1 ad m cap b2 o2 A hB.1 hB.2 hm s s0 s1 h
  · exact w_BI1 w v v0 v1 ad m cap b2 o2 A hB.1 hB.2 hm s s0 s1 (by omega)
end Go.Proofs.YtjkihlpckgaggaaGreat
