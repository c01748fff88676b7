/- A space's view: what its tables say is found by the walk. -/
import Derived.Test.YtdncendokbjnjaaMH2
import Derived.Test.YtdncendokbjnjaaMC1
import Derived.Test.YtdncendokbjnjaaHQ
import Derived.Laws.AppendOwn
import Derived.Deep.DeepCutAuto
import Derived.Deep.CutBlock
import Derived.Laws.ResultCell
import Derived.Laws.Rows
namespace Go.Proofs.Ytdncendokbjnjaa
open Go.RowKit
open C (Only hid Mem Still ret_bool ret_int put byt rd8 lo)
set_option linter.unusedVariables false
set_option maxRecDepth 100000

/-- a space's own block -/
def spc (m : Nat) (root : Int) (p : Nat) (vm : Int) (u : Value) : Array Value := #[.pointer (some ⟨m, 0, none⟩), .int .u64 root, .pointer (some ⟨p, 0, none⟩), .int .i64 vm, u]
def Sq (w : World) (q : Nat) (s : SV) (v : PV) (p : Nat) (vm : Int) (u : Value) : Prop := w.heap[q]? = some (.cells (spc v.m (v.b / 4096 + s.r) p vm u) 60 (0, 0))
section
variable {w w' : World} {q : Nat} {s : SV} {v : PV} {p : Nat} {vm : Int} {u : Value}
theorem Sq.only (h : Sq w q s v p vm u) {T : Nat → Prop} (ho : Only T w w') (hd : ¬ T q) : Sq w' q s v p vm u := ho.old h hd
theorem Sq.below (h : Sq w q s v p vm u) (hb : Below w.heap.size w w') : Sq w' q s v p vm u := h.only (T := fun _ => False) (.ofBelow hb) fun z => z
theorem Sq.c0 (h : Sq w q s v p vm u) : w.cell? ⟨q, 0, none⟩ = some (.pointer (some ⟨v.m, 0, none⟩)) := cell_of_row w q 0 _ _ _ h
theorem Sq.c1 (h : Sq w q s v p vm u) : w.cell? ⟨q, 1, none⟩ = some (.int .u64 (v.b / 4096 + s.r)) := cell_of_row w q 1 _ _ _ h
theorem Sq.c2 (h : Sq w q s v p vm u) : w.cell? ⟨q, 2, none⟩ = some (.pointer (some ⟨p, 0, none⟩)) := cell_of_row w q 2 _ _ _ h
theorem Sq.c3 (h : Sq w q s v p vm u) : w.cell? ⟨q, 3, none⟩ = some (.int .i64 vm) := cell_of_row w q 3 _ _ _ h
theorem Sq.c4 (h : Sq w q s v p vm u) : w.cell? ⟨q, 4, none⟩ = some u := cell_of_row w q 4 _ _ _ h
theorem Sq.fz (h : Sq w q s v p vm u) (j : Nat) : w.frozen? ⟨q, j, none⟩ = false := frozen_of_row _ _ j _ _ h
end
theorem c_BaseM (w : World) (S : Nat → Prop) (p : Nat) (base : Int) (n : Nat) (f : Nat → Int) (h : Mem w S p base n f) : Calls Try.prog 120 #[.pointer (some ⟨p, 0, none⟩)] w fun e w' => e = .returned (.int .u64 base) ∧ w' = w := by
  obtain ⟨g, hs, hr, rfl, _⟩ := h
  exact C.c_Base w p g base hs f hr
theorem c_FramesM (w : World) (S : Nat → Prop) (p : Nat) (base : Int) (n : Nat) (f : Nat → Int) (h : Mem w S p base n f) : Calls Try.prog 67 #[.pointer (some ⟨p, 0, none⟩)] w fun e w' => e = .returned (.int .i64 n) ∧ w' = w := by
  obtain ⟨g, hs, hr, rfl, _⟩ := h
  exact C.c_Frames w p g base hs f hr
theorem t_load (w : World) (q m : Nat) (a y : Int) (c0 : w.cell? ⟨q, 0, none⟩ = some (.pointer (some ⟨m, 0, none⟩))) (hR : Calls Try.prog 113 #[.pointer (some ⟨m, 0, none⟩), .int .u64 a, .int .i64 8] w fun e w' => e = .returned (.tuple #[.int .u64 y, .bool true]) ∧ Below w.heap.size w w') : Calls Try.prog 115 #[.pointer (some ⟨q, 0, none⟩), .int .u64 a] w fun r w' => r = .returned (.int .u64 y) ∧ Below w.heap.size w w' := by
  go_enter Try.func115, Try.ntmps115
  go_wp2_with (go_at_call 113; refine hR.mono ?_; rintro r w1 ⟨rfl, hb⟩; have HB := hid hb; clear hb)
  go_ret
  exact ⟨rfl, HB.out⟩
theorem t_store (w : World) (q m : Nat) (a e : Int) (Q : World → Prop) (c0 : w.cell? ⟨q, 0, none⟩ = some (.pointer (some ⟨m, 0, none⟩))) (hR : Calls Try.prog 80 #[.pointer (some ⟨m, 0, none⟩), .int .u64 a, .int .i64 8, .int .u64 e] w fun r w' => r = .returned (.bool true) ∧ Q w') : Calls Try.prog 71 #[.pointer (some ⟨q, 0, none⟩), .int .u64 a, .int .u64 e] w fun r w' => r = .returned (.tuple #[]) ∧ Q w' := by
  go_enter Try.func71, Try.ntmps71
  go_wp2_with (go_at_call 80; refine hR.mono ?_; rintro r w1 ⟨rfl, hb⟩; have HB := hid hb; clear hb)
  go_end0
  exact ⟨rfl, HB.out⟩
/-- where a page's entry stands, and how many tables are wanting -/
def dnO (s : SV) (p : Nat) : Nat := if s.k1 (p / 262144) = 0 then 4096 * s.r + 8 * (p / 262144) else if s.k0 (p / 512) = 0 then 4096 * s.k1 (p / 262144) + 8 * (p / 512 % 512) else 4096 * s.k0 (p / 512) + 8 * (p % 512)
def dnL (s : SV) (p : Nat) : Nat := if s.k1 (p / 262144) = 0 then 2 else if s.k0 (p / 512) = 0 then 1 else 0
section
variable (w : World) (q : Nat) (S : Nat → Prop) (s : SV) (v : PV) (f : Nat → Int) (pl : Nat) (vm : Int) (u : Value) (hq : Sq w q s v pl vm u) (hm : Mem w S v.m v.b v.n f)
include hq hm
theorem c_load (off : Nat) (hl : off + 8 ≤ 4096 * v.n) (a : Int) (ha : a = v.b + off) : Calls Try.prog 115 #[.pointer (some ⟨q, 0, none⟩), .int .u64 a] w fun r w' => r = .returned (.int .u64 (rd8 f off)) ∧ Below w.heap.size w w' :=
  t_load w q v.m a (rd8 f off) hq.c0 (C.c_Read w S v.m v.b v.n f hm off 8 hl (by decide) a ha)
theorem c_store (off : Nat) (hl : off + 8 ≤ 4096 * v.n) (a : Int) (ha : a = v.b + off) (e : Int) (e0 : 0 ≤ e) (e1 : e < 18446744073709551616) : Calls Try.prog 71 #[.pointer (some ⟨q, 0, none⟩), .int .u64 a, .int .u64 e] w fun r w' => r = .returned (.tuple #[]) ∧ ∃ S', Mem w' S' v.m v.b v.n (w8 f off e) ∧ Only S w w' ∧ ∀ k, S' k → S k ∨ w.heap.size ≤ k :=
  t_store w q v.m a e (fun w' => ∃ S', Mem w' S' v.m v.b v.n (w8 f off e) ∧ Only S w w' ∧ ∀ k, S' k → S k ∨ w.heap.size ≤ k) hq.c0 ((C.c_Write w S v.m v.b v.n f hm off 8 hl (by decide) a ha e e0 e1).mono fun r w' ⟨S', h1, h2⟩ => ⟨h1, S', h2⟩)
theorem c_pageOf (t : Nat) (ht : t ≤ 1024) : Calls Try.prog 76 #[.pointer (some ⟨q, 0, none⟩), .int .i64 t] w fun r w' => r = .returned (.int .u64 (v.b / 4096 + t)) ∧ w' = w := by
  have c0 := hq.c0
  obtain ⟨b0, b1, -, -⟩ := hm.nums
  have hR := c_BaseM w S v.m v.b v.n f hm
  clear hq hm
  go_enter Try.func76, Try.ntmps76
  go_wp2_with (go_at_call 120; refine hR.mono ?_; rintro r w1 ⟨rfl, hw⟩; obtain rfl := hw.symm)
  go_ret
  exact ⟨ret_int (by go_num), rfl⟩
theorem c_frameOf (t : Nat) (ht : t ≤ 1024) (x : Int) (hx : x = v.b / 4096 + t) : Calls Try.prog 77 #[.pointer (some ⟨q, 0, none⟩), .int .u64 x] w fun r w' => r = .returned (.int .i64 t) ∧ w' = w := by
  subst hx
  have c0 := hq.c0
  obtain ⟨b0, b1, -, -⟩ := hm.nums
  have hR := c_BaseM w S v.m v.b v.n f hm
  clear hq hm
  go_enter Try.func77, Try.ntmps77
  go_wp2_with (go_at_call 120; refine hR.mono ?_; rintro r w1 ⟨rfl, hw⟩; obtain rfl := hw.symm)
  go_ret
  exact ⟨ret_int (by go_num), rfl⟩
variable (hi : Inv s v f)
include hi
theorem c_down (p : Nat) (hp : p < 134217728) : Calls Try.prog 69 #[.pointer (some ⟨q, 0, none⟩), .int .u64 p] w fun r w' => r = .returned (.tuple #[.int .u64 (v.b + (dnO s p : Nat)), .int .i64 (dnL s p : Nat)]) ∧ Below w.heap.size w w' := by
  have c1 := hq.c1
  have HQ := hid hq
  have HM := hid hm
  have HI := hid hi
  have i2 := c_index2 (p : Int) (by omega) (by omega)
  have i1 := c_index1 (p : Int) (by omega) (by omega)
  have i0 := c_index0 (p : Int) (by omega) (by omega)
  have bm := hi.ba.bm
  have b0 := hi.ba.b0
  have b1 := hi.ba.b1
  have n2 := hi.ba.n2
  have rl := hi.rlt
  obtain ⟨o0, h0⟩ : ∃ o0 : Nat, o0 = 4096 * s.r + 8 * (p / 262144) := ⟨_, rfl⟩
  have ea := c_entryAt (v.b / 4096 + s.r) ((p : Int) / 262144 % 512) (by omega) (by omega) (by omega) (by omega) (v.b + (o0 : Int)) (by omega)
  have H0 := hid h0
  clear h0
  clear hq hm hi
  go_enter Try.func69, Try.ntmps69
  go_wp2_with fail
  go_quiet (first
    | (go_at_call 74; exact Calls.quiet_of_same (i2 _))
    | (go_at_call 73; exact Calls.quiet_of_same (ea _)))
  go_wp2_with fail
  have LD : Hid (∀ (w1 : World) (off : Nat), Below w.heap.size w w1 → off + 8 ≤ 4096 * v.n → ∀ a : Int, a = v.b + off → Calls Try.prog 115 #[.pointer (some ⟨q, 0, none⟩), .int .u64 a] w1 fun r w' => r = .returned (.int .u64 (rd8 f off)) ∧ Below w1.heap.size w1 w') := fun w1 off hb hl a ha => c_load w1 q S s v f pl vm u (HQ.out.below hb) (HM.out.below hb) off hl a ha
  have ko : p / 262144 < 512 := by omega
  go_loopw [4, 5, 6] (fun a l e wr => ∃ k o : Nat, a = .int .u64 (v.b + o) ∧ l = .int .i64 k ∧ Hid (k = 2 ∧ o = 4096 * s.r + 8 * (p / 262144) ∨ k = 1 ∧ s.k1 (p / 262144) ≠ 0 ∧ o = 4096 * s.k1 (p / 262144) + 8 * (p / 512 % 512) ∨ k = 0 ∧ s.k1 (p / 262144) ≠ 0 ∧ s.k0 (p / 512) ≠ 0 ∧ o = 4096 * s.k0 (p / 512) + 8 * (p % 512)) ∧ Hid (Below w.heap.size w wr)) (fun a l e _ => (intOf l).toNat)
  case atStart => exact ⟨2, o0, rfl, rfl, .inl ⟨rfl, H0.out⟩, below_dn (Below.refl _ _) _⟩
  case round =>
    obtain ⟨k, o, rfl, rfl, hk, hb⟩ := hrel
    have hk' := hk.out
    clear hk
    rcases hk' with ⟨rfl, ho⟩ | ⟨rfl, h1, ho⟩ | ⟨rfl, h1, h2, ho⟩
    · have e := HI.out.e2 _ ko
      have tb := tE_b (t := s.k1 (p / 262144)) b0 b1 (by
        rcases Nat.eq_zero_or_pos (s.k1 (p / 262144)) with z | z
        · omega
        · have := (HI.out.k1lt (i := p / 262144) (by omega)).1; omega)
      have hl := LD.out wr o hb.out (by omega) _ rfl
      rw [ho, e, ← ho] at hl
      have HO := hid ho
      clear ho
      have it := c_isTable _ tb.1 tb.2
      rw [isT_t _ _ b0] at it
      by_cases hz : s.k1 (p / 262144) = 0
      · have ed : dnO s p = o ∧ dnL s p = 2 := by rw [HO.out]; unfold dnO dnL; rw [if_pos hz, if_pos hz]; exact ⟨rfl, rfl⟩
        have ED := hid ed
        clear ed
        rw [hz] at hl it
        rw [show decide ((0 : Nat) ≠ 0) = false from rfl] at it
        go_wp2_with (first
          | (go_at_call 115; refine hl.mono ?_; rintro r w1 ⟨rfl, hb1⟩; have HB1 := hid hb1; clear hb1)
          | (go_at_call 84; refine (it _).mono ?_; rintro r w2 ⟨rfl, hw⟩; obtain rfl := hw.symm))
        go_ret2
        exact ⟨by rw [ED.out.1, ED.out.2]; rfl, hb.out.trans (HB1.out.mono hb.out.size)⟩
      · have nm := c_number _ tb.1 tb.2
        rw [num_t _ _ hz] at nm
        have hlt := (HI.out.k1lt hz).1
        obtain ⟨o1, h1⟩ : ∃ o1 : Nat, o1 = 4096 * s.k1 (p / 262144) + 8 * (p / 512 % 512) := ⟨_, rfl⟩
        have ea1 := c_entryAt (v.b / 4096 + s.k1 (p / 262144)) ((p : Int) / 512 % 512) (by omega) (by omega) (by omega) (by omega) (v.b + (o1 : Int)) (by omega)
        have HO1 := hid h1
        clear h1
        rw [decide_eq_true hz] at it
        go_wp2_with (first
          | (go_at_call 115; refine hl.mono ?_; rintro r w1 ⟨rfl, hb1⟩; have HB1 := hid hb1; clear hb1)
          | (go_at_call 84; refine (it _).mono ?_; rintro r w2 ⟨rfl, hw⟩; obtain rfl := hw.symm)
          | (go_at_call 78; refine (nm _).mono ?_; rintro r w2 ⟨rfl, hw⟩; obtain rfl := hw.symm)
          | (go_at_call 74; refine (i1 _).mono ?_; rintro r w2 ⟨rfl, hw⟩; obtain rfl := hw.symm)
          | (go_at_call 73; refine (ea1 _).mono ?_; rintro r w2 ⟨rfl, hw⟩; obtain rfl := hw.symm))
        go_roundw
        case rel => exact ⟨1, o1, rfl, rfl, .inr (.inl ⟨rfl, hz, HO1.out⟩), hb.out.trans (HB1.out.mono hb.out.size)⟩
        case measure => first | (simp [intOf]; done) | (simp [intOf]; omega)
    · have e := HI.out.e1 _ (p / 512 % 512) h1 (by omega)
      rw [show 512 * (p / 262144) + p / 512 % 512 = p / 512 by omega] at e
      have hk1 := (HI.out.k1lt h1).1
      have tb := tE_b (t := s.k0 (p / 512)) b0 b1 (by
        rcases Nat.eq_zero_or_pos (s.k0 (p / 512)) with z | z
        · omega
        · have := (HI.out.k0lt (q := p / 512) (by omega)).1; omega)
      have hl := LD.out wr o hb.out (by omega) _ rfl
      rw [ho, e, ← ho] at hl
      have HO := hid ho
      clear ho
      have it := c_isTable _ tb.1 tb.2
      rw [isT_t _ _ b0] at it
      by_cases hz : s.k0 (p / 512) = 0
      · have ed : dnO s p = o ∧ dnL s p = 1 := by rw [HO.out]; unfold dnO dnL; rw [if_neg h1, if_neg h1, if_pos hz, if_pos hz]; exact ⟨rfl, rfl⟩
        have ED := hid ed
        clear ed
        rw [hz] at hl it
        rw [show decide ((0 : Nat) ≠ 0) = false from rfl] at it
        go_wp2_with (first
          | (go_at_call 115; refine hl.mono ?_; rintro r w1 ⟨rfl, hb1⟩; have HB1 := hid hb1; clear hb1)
          | (go_at_call 84; refine (it _).mono ?_; rintro r w2 ⟨rfl, hw⟩; obtain rfl := hw.symm))
        go_ret2
        exact ⟨by rw [ED.out.1, ED.out.2]; rfl, hb.out.trans (HB1.out.mono hb.out.size)⟩
      · have nm := c_number _ tb.1 tb.2
        rw [num_t _ _ hz] at nm
        have hlt := (HI.out.k0lt hz).1
        obtain ⟨o1, h1'⟩ : ∃ o1 : Nat, o1 = 4096 * s.k0 (p / 512) + 8 * (p % 512) := ⟨_, rfl⟩
        have ea1 := c_entryAt (v.b / 4096 + s.k0 (p / 512)) ((p : Int) % 512) (by omega) (by omega) (by omega) (by omega) (v.b + (o1 : Int)) (by omega)
        have HO1 := hid h1'
        clear h1'
        rw [decide_eq_true hz] at it
        go_wp2_with (first
          | (go_at_call 115; refine hl.mono ?_; rintro r w1 ⟨rfl, hb1⟩; have HB1 := hid hb1; clear hb1)
          | (go_at_call 84; refine (it _).mono ?_; rintro r w2 ⟨rfl, hw⟩; obtain rfl := hw.symm)
          | (go_at_call 78; refine (nm _).mono ?_; rintro r w2 ⟨rfl, hw⟩; obtain rfl := hw.symm)
          | (go_at_call 74; refine (i0 _).mono ?_; rintro r w2 ⟨rfl, hw⟩; obtain rfl := hw.symm)
          | (go_at_call 73; refine (ea1 _).mono ?_; rintro r w2 ⟨rfl, hw⟩; obtain rfl := hw.symm))
        go_roundw
        case rel => exact ⟨0, o1, rfl, rfl, .inr (.inr ⟨rfl, h1, hz, HO1.out⟩), hb.out.trans (HB1.out.mono hb.out.size)⟩
        case measure => first | (simp [intOf]; done) | (simp [intOf]; omega)
    · have ed : dnO s p = o ∧ dnL s p = 0 := by rw [ho]; unfold dnO dnL; rw [if_neg h1, if_neg h1, if_neg h2, if_neg h2]; exact ⟨rfl, rfl⟩
      have ED := hid ed
      clear ed ho
      go_wp2_with fail
      go_ret2
      exact ⟨by rw [ED.out.1, ED.out.2]; rfl, hb.out⟩
end
end Go.Proofs.Ytdncendokbjnjaa
namespace Go.Proofs.Ytdncendokbjnjaa
open Go.RowKit
open C (Only hid Mem Still ret_bool ret_int put byt rd8 lo)
set_option linter.unusedVariables false
set_option maxRecDepth 100000

section
variable {P : Program} (w : World) {o : Oper} {a : Act} {Q : Exit → Act → World → Prop} (s x : Operand) (t : TypeId)
    (ho : o.op = .call { callee := .builtin .append, args := #[s, x], argTypes := #[t, t] })
    (e : TypeId) (i : TypeInfo) (z : Value) (size bytes : Nat) (ht : P.underlying t = some (.slice e)) (hi : P.info? e = some i) (hz : i.zero = some z)
    (hsize : i.size = size) (hby : i.bytes = bytes) (hzs : z.cells.size = size) (hsz : 0 < size)
    (v : Value) (n : Nat) (xs : List Value) (hs : a.eval s = v) (hown : w.ownsRow 0 e size v n xs)
    (ad : Addr) (m c : Nat) (news : List Value) (hx : a.eval x = .slice (some ad) m c) (hl : news.length = m * size) (hnews : ∀ j u, news[j]? = some u → w.cell? (ad.add j) = some u) (h1 : ∀ u ∈ news, u.oneCell' = true)
    (h63 : n + m ≤ maxLen) (hbytes : (n + m) * bytes ≤ 140737488355328)
include ho ht hi hz hsize hby hzs hsz hs hown hx hl hnews h1 h63 hbytes
/-- append: the list's block is the elder one or a new one -/
theorem wp_append_blk {K : Act → World → Prop} (h : ∀ v' w', w'.ownsRow 0 e size v' (n + m) (xs ++ news) → w.grownBy w' v.ownBlock → (∀ k, v'.ownBlock = some k → v.ownBlock = some k ∨ w.heap.size ≤ k) → K (a.put o.dst v') w') : o.wp P a w K Q := by
  obtain ⟨v', w', hr, h2, h3, h4⟩ := run_append_own (P := P) w 0 t o.type e i z size bytes ht hi hz hsize hby hzs hsz v n xs hown ad m c news hl hnews h1 h63 hbytes (Nat.zero_le _)
  have hb : ∀ k, v'.ownBlock = some k → v.ownBlock = some k ∨ w.heap.size ≤ k := by
    rcases hown.2 with ⟨rfl, rfl⟩ | ⟨g, cap, cur, rfl, hbg, hg, hnc, hcm, hcs, htake⟩
    · obtain ⟨v2, w2, hr2, h22, -, -⟩ := run_append_own (P := P) w w.heap.size t o.type e i z size bytes ht hi hz hsize hby hzs hsz (.slice none 0 0) 0 xs ⟨hown.1, .inl ⟨rfl, rfl⟩⟩ ad m c news hl hnews h1 h63 hbytes (Nat.le_refl _)
      rw [hr] at hr2
      injection hr2 with e1 e2
      subst e1
      exact fun k hk => .inr (h22.lt k hk).1
    · subst hsize
      by_cases hroom : n + m ≤ cap
      · have hfit : n * i.size + news.length ≤ cur.size := by rw [hl, hcs, ← Nat.add_mul]; exact Nat.mul_le_mul_right _ hroom
        have hr2 := run_append_room (P := P) w t o.type e i ht hi g n cap cur hg ad m c news hl hnews h1 hroom hfit
        rw [hr] at hr2
        injection hr2 with e1 e2
        subst e1
        exact fun k hk => .inl hk
      · have holds : ∀ j u, xs[j]? = some u → w.cell? ((⟨g, 0, none⟩ : Addr).add j) = some u := hown.cells (g := g) rfl
        have hr2 := run_append_grow (P := P) w t o.type e i z ht hi hz ⟨g, 0, none⟩ n cap xs hown.1 holds ad m c news hl hnews (by omega) (by simp only [maxLen] at h63; omega) (growslice_fits (by omega) (by rw [hby]; exact hbytes))
        rw [hr] at hr2
        injection hr2 with e1 e2
        subst e1
        exact fun k hk => .inr (by simp [Value.ownBlock] at hk; omega)
  unfold Oper.wp execOp
  simp only [ho, resolve, invoke, builtin, Sem.run_bind, Sem.run_pure, Result.andThen_ok, List.map_toArray, List.map_cons, List.map_nil, hs, hx, hr]
  exact h v' w' h2 h3 hb
theorem wpList_append_blk {ops : Array Oper} {rest : List Oper} (hgd : o.guard = none) (h : ∀ v' w', w'.ownsRow 0 e size v' (n + m) (xs ++ news) → w.grownBy w' v.ownBlock → (∀ k, v'.ownBlock = some k → v.ownBlock = some k ∨ w.heap.size ≤ k) → wpList P ops Q rest (a.put o.dst v') w') : wpList P ops Q (o :: rest) a w :=
  wpList_plain hgd fun _ hK => wp_append_blk w s x t ho e i z size bytes ht hi hz hsize hby hzs hsz v n xs hs hown ad m c news hx hl hnews h1 h63 hbytes fun v' w' h2 h3 h4 => hK _ _ (h v' w' h2 h3 h4)
theorem step_append_blk {ops : Array Oper} {K : Act → World → Prop} {E : Prop} (hgd : o.guard = none) (h : ∀ v' w', w'.ownsRow 0 e size v' (n + m) (xs ++ news) → w.grownBy w' v.ownBlock → (∀ k, v'.ownBlock = some k → v.ownBlock = some k ∨ w.heap.size ≤ k) → K (a.put o.dst v') w') :
    if Region.wanted o (yielded ops a.tmps) = true then Oper.wp P o a w K Q else E := by
  have hw : Region.wanted o (yielded ops a.tmps) = true := by simp [Region.wanted, hgd]
  rw [if_pos hw]
  exact wp_append_blk w s x t ho e i z size bytes ht hi hz hsize hby hzs hsz v n xs hs hown ad m c news hx hl hnews h1 h63 hbytes h
end
/-- the block of a list -/
def Ug (u : Value) (k : Nat) : Prop := u.ownBlock = some k
/-- numbers as cells -/
def lsv (l : List Nat) : List Value := l.map fun (t : Nat) => Value.int .i64 (t : Int)
theorem grown_ug {w w' : World} {u : Value} (hg : w.grownBy w' u.ownBlock) : Only (Ug u) w w' := ⟨hg.os, hg.tape, hg.output, hg.size, fun k hk hs => hg.block k hk fun e => hs e.symm⟩
theorem own_only {w w' : World} {e : TypeId} {size : Nat} {u : Value} {n : Nat} {xs : List Value} (h : w.ownsRow 0 e size u n xs) {T : Nat → Prop} (ho : Only T w w') (hd : ∀ k, Ug u k → ¬ T k) : w'.ownsRow 0 e size u n xs := by
  refine ⟨h.1, ?_⟩
  rcases h.2 with z | ⟨g, cap, cur, h1, h2, h3, h4⟩
  · exact .inl z
  · exact .inr ⟨g, cap, cur, h1, h2, ho.old h3 (hd g (by rw [h1]; rfl)), h4⟩
theorem own_below {w w' : World} {e : TypeId} {size : Nat} {u : Value} {n : Nat} {xs : List Value} (h : w.ownsRow 0 e size u n xs) (hb : Below w.heap.size w w') : w'.ownsRow 0 e size u n xs := own_only h (T := fun _ => False) (.ofBelow hb) fun _ _ z => z
theorem own_typ {w : World} {e : TypeId} {size : Nat} {u : Value} {n : Nat} {xs : List Value} (h : w.ownsRow 0 e size u n xs) {k : Nat} (hk : Ug u k) : ∃ cur, w.heap[k]? = some (.cells cur e (0, 0)) := by
  rcases h.2 with ⟨z, -⟩ | ⟨g, cap, cur, h1, h2, h3, h4⟩
  · rw [z] at hk; cases hk
  · rw [h1] at hk
    have : g = k := by simpa [Ug, Value.ownBlock] using hk
    exact ⟨cur, this ▸ h3⟩
theorem own_form {w : World} {e : TypeId} {u : Value} {n : Nat} {xs : List Value} (h : w.ownsRow 0 e 1 u n xs) : ∃ ad c, u = .slice ad n c := by
  rcases h.2 with ⟨h1, h2⟩ | ⟨g, cap, cur, h1, h2⟩
  · exact ⟨none, 0, by rw [h1, h2]⟩
  · exact ⟨_, cap, h1⟩
section
variable {w w' : World} {p : Nat} {F : Nat → Prop} {v : PV} {f : Nat → Int}
/-- a pool's memory taken out, and put back when it has turned -/
theorem Pool.open (h : Pool w F p v f) : ∃ S, Mem w S v.m v.b v.n f ∧ (∀ k, S k → F k) ∧ ∀ w' S' f', Mem w' S' v.m v.b v.n f' → Only S w w' → (∀ k, S' k → S k ∨ w.heap.size ≤ k) → ∃ F', Pool w' F' p v f' ∧ Only F w w' ∧ ∀ k, F' k → F k ∨ w.heap.size ≤ k := by
  obtain ⟨g, d, k, B, S, hp, ok, hF⟩ := h
  refine ⟨S, hp.mem, fun x hx => (hF x).2 (.inr (.inr (.inr hx))), fun w' S' f' hm ho hS => ?_⟩
  refine ⟨fun x => x = p ∨ x = g ∨ B x ∨ S' x, ⟨g, d, k, B, S', ⟨ho.old hp.top hp.pS, ho.old hp.tab hp.gS, hp.bits.only ho fun x hx => (hp.BS x hx).1, hm⟩, ok, fun x => Iff.rfl⟩, ho.mono fun x _ hx => (hF x).2 (.inr (.inr (.inr hx))), ?_⟩
  rintro x (z | z | z | z)
  · exact .inl ((hF x).2 (.inl z))
  · exact .inl ((hF x).2 (.inr (.inl z)))
  · exact .inl ((hF x).2 (.inr (.inr (.inl z))))
  · exact (hS x z).imp (fun y => (hF x).2 (.inr (.inr (.inr y)))) id
theorem mem_ty2 {w : World} {S : Nat → Prop} {p : Nat} {bs : Int} {n : Nat} {f : Nat → Int} (h : Mem w S p bs n f) {x : Nat} (hx : S x) : ∃ c t, w.heap[x]? = some (.cells c t (0, 0)) ∧ (t = 204 ∨ t = 224 ∨ t = 233) := by
  obtain ⟨g, hs, hr, rfl, hS⟩ := h
  rcases (hS x).1 hx with rfl | rfl | ⟨i, hi⟩
  · exact ⟨_, _, hr.top, .inl rfl⟩
  · exact ⟨_, _, hr.tab, .inr (.inl rfl)⟩
  · exact ⟨_, _, hr.full i x hi, .inr (.inr rfl)⟩
def tyF (t : Nat) : Bool := t == 153 || t == 140 || t == 22 || t == 204 || t == 224 || t == 233
theorem Pool.ty (h : Pool w F p v f) {x : Nat} (hx : F x) : ∃ c t, w.heap[x]? = some (.cells c t (0, 0)) ∧ tyF t = true := by
  obtain ⟨g, d, k, B, S, hp, ok, hF⟩ := h
  rcases (hF x).1 hx with rfl | rfl | y | y
  · exact ⟨_, _, hp.top, rfl⟩
  · exact ⟨_, _, hp.tab, rfl⟩
  · obtain ⟨cur, y⟩ := hp.bits.typ y; exact ⟨_, _, y, rfl⟩
  · obtain ⟨c, t, h1, h2⟩ := mem_ty2 hp.mem y
    refine ⟨c, t, h1, ?_⟩
    rcases h2 with rfl | rfl | rfl <;> rfl
theorem Pool.ne (h : Pool w F p v f) {x : Nat} {c : Array Value} {t : Nat} (hx : w.heap[x]? = some (.cells c t (0, 0))) (ht : tyF t = false) : ¬ F x := fun z => by
  obtain ⟨c', t', h1, h2⟩ := h.ty z
  rw [hx] at h1
  simp at h1
  rw [← h1.2, ht] at h2
  cases h2
end
theorem info_intS : (Try.prog.info? 3).map (fun i => (i.zero, i.size, i.bytes)) = some (some (.int .i64 0), 1, 8) := by kernel_rfl
theorem u_sintS : Try.prog.underlying 58 = some (.slice 3) := by kernel_rfl
end Go.Proofs.Ytdncendokbjnjaa
namespace Go.Proofs.Ytdncendokbjnjaa
open Go.RowKit
open C (Only hid Mem Still ret_bool ret_int put byt rd8 lo)
set_option linter.unusedVariables false
set_option maxRecDepth 100000

theorem t_pageOf (w : World) (q m : Nat) (b : Int) (b0 : 0 ≤ b) (b1 : b ≤ 4503599627370496) (c0 : w.cell? ⟨q, 0, none⟩ = some (.pointer (some ⟨m, 0, none⟩))) (hR : Calls Try.prog 120 #[.pointer (some ⟨m, 0, none⟩)] w fun e w' => e = .returned (.int .u64 b) ∧ w' = w) (t : Nat) (ht : t ≤ 1024) : Calls Try.prog 76 #[.pointer (some ⟨q, 0, none⟩), .int .i64 t] w fun r w' => r = .returned (.int .u64 (b / 4096 + t)) ∧ w' = w := by
  go_enter Try.func76, Try.ntmps76
  go_wp2_with (go_at_call 120; refine hR.mono ?_; rintro r w1 ⟨rfl, hw⟩; obtain rfl := hw.symm)
  go_ret
  exact ⟨ret_int (by go_num), rfl⟩
theorem tk_free (v : PV) (x : Int) (hx : may x = true) (hc : 0 < cnt v.o 0 v.n) : tk v x = (((ff v.o v.n : Nat) : Int), 0, v.own (ff v.o v.n) x) := by
  unfold tk
  rw [hx]
  simp [(cnt_pos hc).1]
theorem lsv_len (l : List Nat) : (lsv l).length = l.length := by simp [lsv]
theorem lsv_add (l : List Nat) (t : Nat) : lsv (l ++ [t]) = lsv l ++ [.int .i64 (t : Int)] := by simp [lsv]
theorem one_cell (w : World) (V : Value) (t : TypeId) (i : Nat) (u : Value) (h : [V][i]? = some u) : (w.alloc (.cells #[V] t)).cell? ((⟨w.heap.size, 0, none⟩ : Addr).add i) = some u := by
  obtain rfl : i = 0 := by
    rcases Nat.eq_zero_or_pos i with z | z
    · exact z
    · rw [List.getElem?_eq_none (by simp; omega)] at h; cases h
  rw [C.addr_add]
  have : (w.alloc (.cells #[V] t)).cell? ⟨w.heap.size, 0, none⟩ = some V := cell_of_row _ _ 0 _ _ _ (heap_alloc_new w _)
  simp at h
  subst h
  exact this
theorem spc_set (m : Nat) (root : Int) (p : Nat) (vm : Int) (u u' : Value) : (spc m root p vm u).setIfInBounds 4 u' = spc m root p vm u' := rfl
set_option maxHeartbeats 1000000 in
theorem x_addTable (w : World) (q p : Nat) (root vm : Int) (u : Value) (l : List Nat) (F : Nat → Prop) (v : PV) (f : Nat → Int) (hp : Pool w F p v f) (hq : w.heap[q]? = some (.cells (spc v.m root p vm u) 60 (0, 0))) (hl : w.ownsRow 0 3 1 u l.length (lsv l)) (hll : l.length ≤ 1024) (hc : 0 < cnt v.o 0 v.n) :
    Calls Try.prog 70 #[.pointer (some ⟨q, 0, none⟩)] w fun r w' => r = .returned (.int .u64 (v.b / 4096 + (ff v.o v.n : Nat))) ∧ ∃ F' u', Pool w' F' p (v.own (ff v.o v.n) (-1)) (clr f (ff v.o v.n)) ∧ w'.heap[q]? = some (.cells (spc v.m root p vm u') 60 (0, 0)) ∧ w'.ownsRow 0 3 1 u' (l ++ [ff v.o v.n]).length (lsv (l ++ [ff v.o v.n])) ∧ Only (fun k => F k ∨ k = q ∨ Ug u k) w w' ∧ (∀ k, F' k → F k ∨ w.heap.size ≤ k) ∧ ∀ k, Ug u' k → Ug u k ∨ w.heap.size ≤ k := by
  obtain ⟨i0, hi0, hz0, hz1, hz2⟩ := info_parts info_intS
  have htk := tk_free v (-1) rfl hc
  have hpos := (cnt_pos hc).1
  have hn := hp.ok.n1
  have hT := x_Take w F p v f hp (-1)
  rw [htk] at hT
  have nq := hp.ne hq rfl
  have nu : ∀ k, Ug u k → ¬ F k ∧ k ≠ q := fun k hk => by
    obtain ⟨cur, hk'⟩ := own_typ hl hk
    exact ⟨hp.ne hk' rfl, fun e => by subst e; rw [hq] at hk'; simp at hk'⟩
  have c2 : w.cell? ⟨q, 2, none⟩ = some (.pointer (some ⟨p, 0, none⟩)) := cell_of_row w q 2 _ _ _ hq
  obtain ⟨ad, cp, rfl⟩ := own_form hl
  generalize ht : ff v.o v.n = t at *
  have hlt := lt_of_block hq
  have HQ := hid hq
  have HL := hid hl
  have HP := hid hp
  have NQ := hid nq
  have NU := hid nu
  have HT := hid ht
  clear hq hl hp nq nu ht htk hc
  go_enter Try.func70, Try.ntmps70
  go_upto_region 2 with (go_at_call 21; refine hT.mono ?_; rintro r w1 ⟨rfl, hp1, ho1⟩; have HP1 := hid hp1; have HO1 := hid ho1; clear hp1 ho1)
  have q1 := HO1.out.old HQ.out NQ.out
  have d0 : w1.cell? ⟨q, 0, none⟩ = some (.pointer (some ⟨v.m, 0, none⟩)) := cell_of_row w1 q 0 _ _ _ q1
  obtain ⟨S, hm, hSF, hback⟩ := HP1.out.open
  have hC := C.c_Clear w1 S v.m v.b v.n f hm t hpos
  have HSF := hid hSF
  have HBK := hid hback
  have HQ1 := hid q1
  have HL1 := hid (own_only HL.out HO1.out fun k hk => (NU.out k hk).1)
  clear hm hSF hback q1
  go_upto_region 3 with (go_at_call 119; refine hC.mono ?_; rintro r w2 ⟨S2, rfl, hm2, ho2, hs2⟩; have HM2 := hid hm2; have HO2 := hid ho2; have HS2 := hid hs2; clear hm2 ho2 hs2)
  obtain ⟨F2, hp2, ho2F, hF2⟩ := HBK.out w2 S2 _ HM2.out HO2.out fun k hk => .inl (HS2.out k hk)
  have q2 := ho2F.old HQ1.out NQ.out
  have l2 := own_only HL1.out ho2F fun k hk => (NU.out k hk).1
  have e4 : w2.cell? ⟨q, 4, none⟩ = some (.slice ad l.length cp) := cell_of_row w2 q 4 _ _ _ q2
  have z4 : w2.frozen? ⟨q, 4, none⟩ = false := frozen_of_row w2 q 4 _ _ q2
  have hlt2 := lt_of_block q2
  have HQ2 := hid q2
  have HL2 := hid l2
  have HP2 := hid hp2
  have HF2 := hid hF2
  have HOW : Hid (Only F w w2) := HO1.out.trans ho2F
  have HD : Hid (∀ x, Below w2.heap.size w2 (w2.alloc x)) := fun x => (Below.refl _ _).alloc (Nat.le_refl _) x
  have HN := hid (one_cell w2 (.int .i64 (t : Int)) 3)
  have HZ : Hid (∀ w3, (w2.alloc (.cells #[.int .i64 (t : Int)] 3)).grownBy w3 (Value.slice ad l.length cp).ownBlock → w3.heap[q]? = w2.heap[q]? ∧ Only (Ug (.slice ad l.length cp)) w2 w3) := fun w3 hg => by
    have ho : Only (Ug (.slice ad l.length cp)) w2 w3 := (Only.ofBelow (HD.out _)).trans (grown_ug hg)
    exact ⟨ho.block q hlt2 fun e => (NU.out q e).2 rfl, ho⟩
  clear q2 l2 hp2 ho2F hF2 hC hT
  go_upto_region 4 with (at_builtin; refine wpList_append_blk _ (.tmp 24) (.tmp 26) 58 rfl 3 i0 (.int .i64 0) 1 8 u_sintS hi0 hz0 hz1 hz2 rfl (by decide) (.slice ad l.length cp) l.length (lsv l) rfl (own_below HL2.out (HD.out _)) ⟨w2.heap.size, 0, none⟩ 1 1 [.int .i64 (t : Int)] rfl rfl HN.out (by intro u hu; simp at hu; subst hu; rfl) (show l.length + 1 ≤ 9223372036854775807 by omega) (by omega) rfl ?_; intro u' w3 hown hgrow hblk; obtain ⟨ad2, cp2, rfl⟩ := own_form hown; have HO3 := hid hown; have HG3 := hid (HZ.out w3 hgrow); have HB3 := hid hblk; have y4 : w3.cell? ⟨q, 4, none⟩ = some (.slice ad l.length cp) := (World.cell?_of_block (w := w2) HG3.out.1).trans e4; have y8 : w3.frozen? ⟨q, 4, none⟩ = false := (World.frozen?_of_block (w := w2) HG3.out.1).trans z4; clear hown hgrow hblk)
  have q3 := HG3.out.1.trans HQ2.out
  have hu3 : ∀ k, Ug (.slice ad2 (l.length + 1) cp2) k → k ≠ q := fun k hk e => by
    subst e
    obtain ⟨cur, hk'⟩ := own_typ HO3.out hk
    rw [q3] at hk'
    simp at hk'
  have Ho4 : Hid (Only (fun k => k = q ∨ Ug (.slice ad l.length cp) k) w2 (w3.setCell ⟨q, 4, none⟩ (.slice ad2 (l.length + 1) cp2))) := (HG3.out.2.mono fun k _ hk => .inr hk).setCell (.inl (.inl rfl)) _
  have Hq4 : Hid ((w3.setCell ⟨q, 4, none⟩ (.slice ad2 (l.length + 1) cp2)).heap[q]? = some (.cells (spc v.m root p vm (.slice ad2 (l.length + 1) cp2)) 60 (0, 0))) := setRowB w3 q 4 _ _ _ _ q3 (spc_set v.m root p vm _ _)
  have Hl4 : Hid ((w3.setCell ⟨q, 4, none⟩ (.slice ad2 (l.length + 1) cp2)).ownsRow 0 3 1 (.slice ad2 (l.length + 1) cp2) (l.length + 1) (lsv l ++ [.int .i64 (t : Int)])) := own_only HO3.out (T := (· = q)) (only_c _ _ _ _) fun k hk e => hu3 k hk e
  have nF2 : ∀ k, F2 k → ¬ (k = q ∨ Ug (.slice ad l.length cp) k) := fun k hk e => by
    rcases e with e | e
    · subst e; exact HP2.out.ne HQ2.out rfl hk
    · obtain ⟨cur, hk'⟩ := own_typ HL2.out e
      exact HP2.out.ne hk' rfl hk
  have Hp4 : Hid (Pool (w3.setCell ⟨q, 4, none⟩ (.slice ad2 (l.length + 1) cp2)) F2 p (v.own t (-1)) (clr f t)) := HP2.out.only Ho4.out nF2
  have g0 : (w3.setCell ⟨q, 4, none⟩ (.slice ad2 (l.length + 1) cp2)).cell? ⟨q, 0, none⟩ = some (.pointer (some ⟨v.m, 0, none⟩)) := cell_of_row _ q 0 _ _ _ Hq4.out
  obtain ⟨S4, hm4, -, -⟩ := Hp4.out.open
  have hB := c_BaseM _ S4 v.m v.b v.n _ hm4
  obtain ⟨b0, b1, -, -⟩ := hm4.nums
  have hPg := t_pageOf _ q v.m v.b b0 b1 g0 hB t (by omega)
  have HUB : Hid (∀ k, Ug (.slice ad2 (l.length + 1) cp2) k → Ug (.slice ad l.length cp) k ∨ w.heap.size ≤ k) := fun k hk => (HB3.out k hk).imp id fun z => by
    have := HOW.out.size
    have e : (w2.alloc (.cells #[.int .i64 (t : Int)] 3)).heap.size = w2.heap.size + 1 := by simp
    omega
  have HFF : Hid (∀ k, F2 k → F k ∨ w.heap.size ≤ k) := fun k hk => (HF2.out k hk).imp id fun z => by have := HO1.out.size; omega
  have HON : Hid (Only (fun k => F k ∨ k = q ∨ Ug (.slice ad l.length cp) k) w (w3.setCell ⟨q, 4, none⟩ (.slice ad2 (l.length + 1) cp2))) := (HOW.out.mono fun k _ hk => .inl hk).trans (Ho4.out.mono fun k _ hk => .inr hk)
  obtain ⟨w4, hw4⟩ : ∃ w4, w4 = w3.setCell ⟨q, 4, none⟩ (.slice ad2 (l.length + 1) cp2) := ⟨_, rfl⟩
  rw [← hw4] at Hq4 Hl4 Hp4 hPg HON ⊢
  clear hw4 q3 hu3 Ho4 g0 hm4 hB y4 y8 nF2 HG3 HO3 HB3
  go_wp2_with (go_at_call 76; refine hPg.mono ?_; rintro r w5 ⟨rfl, hw⟩; obtain rfl := hw.symm)
  go_ret
  exact ⟨rfl, F2, _, Hp4.out, Hq4.out, by rw [lsv_add]; simpa using Hl4.out, HON.out, HFF.out, HUB.out⟩
end Go.Proofs.Ytdncendokbjnjaa
namespace Go.Proofs.Ytdncendokbjnjaa
open Go.RowKit
open C (Only hid Mem Still ret_bool ret_int put byt rd8 lo)
set_option linter.unusedVariables false
set_option maxRecDepth 100000

/-- where a mapped page's entry stands -/
def lfO (s : SV) (p : Nat) : Nat := 4096 * s.k0 (p / 512) + 8 * (p % 512)
theorem dn_of (s : SV) (p : Nat) (h1 : s.k1 (p / 262144) ≠ 0) (h0 : s.k0 (p / 512) ≠ 0) : dnO s p = lfO s p ∧ dnL s p = 0 := by
  unfold dnO dnL lfO; rw [if_neg h1, if_neg h1, if_neg h0, if_neg h0]; exact ⟨rfl, rfl⟩
theorem t_leaf_out (w : World) (q : Nat) (page : Int) (hp : ¬ page < 134217728) : Calls Try.prog 60 #[.pointer (some ⟨q, 0, none⟩), .int .u64 page] w fun r w' => r = .returned (.tuple #[.int .u64 0, .int .u64 0, .bool false]) ∧ w' = w := by
  have h := c_isPage page
  rw [decide_eq_false hp] at h
  go_enter Try.func60, Try.ntmps60
  go_wp2_with (go_at_call 66; refine (h _).mono ?_; rintro r w1 ⟨rfl, hw⟩; obtain rfl := hw.symm)
  go_ret3
  exact ⟨rfl, rfl⟩
theorem t_leaf_high (w : World) (q : Nat) (page a : Int) (lv : Nat) (hl : 0 < lv) (hp : page < 134217728) (hd : Calls Try.prog 69 #[.pointer (some ⟨q, 0, none⟩), .int .u64 page] w fun r w' => r = .returned (.tuple #[.int .u64 a, .int .i64 lv]) ∧ Below w.heap.size w w') : Calls Try.prog 60 #[.pointer (some ⟨q, 0, none⟩), .int .u64 page] w fun r w' => r = .returned (.tuple #[.int .u64 0, .int .u64 0, .bool false]) ∧ Below w.heap.size w w' := by
  have h := c_isPage page
  rw [decide_eq_true hp] at h
  clear hp
  go_enter Try.func60, Try.ntmps60
  go_wp2_with (first
    | (go_at_call 66; refine (h _).mono ?_; rintro r w1 ⟨rfl, hw⟩; obtain rfl := hw.symm)
    | (go_at_call 69; refine hd.mono ?_; rintro r w1 ⟨rfl, hb⟩; have HB := hid hb; clear hb))
  go_ret3
  exact ⟨rfl, HB.out⟩
theorem t_leaf_low (w : World) (q : Nat) (page a e : Int) (e0 : 0 ≤ e) (e1 : e < 18446744073709551616) (b : Bool) (hb : isL e = b) (hp : page < 134217728) (hd : Calls Try.prog 69 #[.pointer (some ⟨q, 0, none⟩), .int .u64 page] w fun r w' => r = .returned (.tuple #[.int .u64 a, .int .i64 0]) ∧ Below w.heap.size w w')
    (hl : ∀ w1, Below w.heap.size w w1 → Calls Try.prog 115 #[.pointer (some ⟨q, 0, none⟩), .int .u64 a] w1 fun r w' => r = .returned (.int .u64 e) ∧ Below w1.heap.size w1 w') : Calls Try.prog 60 #[.pointer (some ⟨q, 0, none⟩), .int .u64 page] w fun r w' => r = .returned (.tuple #[.int .u64 a, .int .u64 e, .bool b]) ∧ Below w.heap.size w w' := by
  have h := c_isPage page
  rw [decide_eq_true hp] at h
  have hi := c_isLeaf e e0 e1
  rw [hb] at hi
  have HL := hid hl
  clear hp hl hb e0 e1
  go_enter Try.func60, Try.ntmps60
  go_wp2_with (first
    | (go_at_call 66; refine (h _).mono ?_; rintro r w1 ⟨rfl, hw⟩; obtain rfl := hw.symm)
    | (go_at_call 69; refine hd.mono ?_; rintro r w1 ⟨rfl, hb⟩; have HB := hid hb; have hl1 := HL.out w1 hb; clear hb)
    | (go_at_call 115; refine hl1.mono ?_; rintro r w2 ⟨rfl, hb⟩; have HB2 := hid hb; clear hb)
    | (go_at_call 85; refine (hi _).mono ?_; rintro r w1 ⟨rfl, hw⟩; obtain rfl := hw.symm))
  go_ret3
  exact ⟨rfl, HB.out.trans (HB2.out.mono HB.out.size)⟩
section
variable (w : World) (q : Nat) (S : Nat → Prop) (s : SV) (v : PV) (f : Nat → Int) (pl : Nat) (vm : Int) (u : Value) (hq : Sq w q s v pl vm u) (hm : Mem w S v.m v.b v.n f) (hi : Inv s v f)
include hq hm hi
theorem c_leaf_yes (p : Nat) (hp : s.pp p ≠ 0) : Calls Try.prog 60 #[.pointer (some ⟨q, 0, none⟩), .int .u64 p] w fun r w' => r = .returned (.tuple #[.int .u64 (v.b + (lfO s p : Nat)), .int .u64 (lE v.b (s.pf p) (s.pp p)), .bool true]) ∧ Below w.heap.size w w' := by
  obtain ⟨h0, hk, hf, -⟩ := hi.ap p hp
  have h1 := (hi.a0 _ h0).1
  have hlt := hi.pplt hp
  have hk0 := (hi.k0lt h0).1
  have n2 := hi.ba.n2
  rw [show p / 512 / 512 = p / 262144 by omega] at h1
  have hd := c_down w q S s v f pl vm u hq hm hi p hlt
  rw [(dn_of s p h1 h0).1, (dn_of s p h1 h0).2] at hd
  have e := hi.e0 _ (p % 512) h0 (by omega)
  rw [show 512 * (p / 512) + p % 512 = p by omega] at e
  have b := lE_b (t := s.pf p) (pm := s.pp p) hi.ba.b0 hi.ba.b1 (by omega) (.inr hk)
  refine t_leaf_low w q p _ (lE v.b (s.pf p) (s.pp p)) b.1 b.2 true (by rw [isL_l _ _ _ hi.ba.b0 (.inr hk)]; exact decide_eq_true hp) (by omega) hd fun w1 hb => ?_
  have := c_load w1 q S s v f pl vm u (hq.below hb) (hm.below hb) (lfO s p) (by unfold lfO; omega) _ rfl
  unfold lfO at this ⊢
  rw [e] at this
  exact this
theorem c_leaf_no (page : Int) (p0 : 0 ≤ page) (hp : s.pp page.toNat = 0) : Calls Try.prog 60 #[.pointer (some ⟨q, 0, none⟩), .int .u64 page] w fun r w' => (∃ x y, r = .returned (.tuple #[.int .u64 x, .int .u64 y, .bool false])) ∧ Below w.heap.size w w' := by
  by_cases hlt : page < 134217728
  · obtain ⟨p, rfl⟩ := Int.eq_ofNat_of_zero_le p0
    have hp' : s.pp p = 0 := hp
    have hd := c_down w q S s v f pl vm u hq hm hi p (by omega)
    rcases Nat.eq_zero_or_pos (dnL s p) with z | z
    · have h1 : s.k1 (p / 262144) ≠ 0 := fun e => by unfold dnL at z; rw [if_pos e] at z; cases z
      have h0 : s.k0 (p / 512) ≠ 0 := fun e => by unfold dnL at z; rw [if_neg h1, if_pos e] at z; cases z
      have hk0 := (hi.k0lt h0).1
      rw [(dn_of s p h1 h0).1, (dn_of s p h1 h0).2] at hd
      have e := hi.e0 _ (p % 512) h0 (by omega)
      rw [show 512 * (p / 512) + p % 512 = p by omega, hp'] at e
      have e' : lE v.b (s.pf p) 0 = 0 := rfl
      rw [e'] at e
      refine (t_leaf_low w q p _ 0 (by decide) (by decide) false rfl hlt hd fun w1 hb => ?_).mono fun r w' h => ⟨⟨_, _, h.1⟩, h.2⟩
      have := c_load w1 q S s v f pl vm u (hq.below hb) (hm.below hb) (lfO s p) (by unfold lfO; omega) _ rfl
      unfold lfO at this ⊢
      rw [e] at this
      exact this
    · exact (t_leaf_high w q p _ (dnL s p) z hlt hd).mono fun r w' h => ⟨⟨_, _, h.1⟩, h.2⟩
  · exact (t_leaf_out w q page hlt).mono fun r w' h => ⟨⟨_, _, h.1⟩, h.2 ▸ Below.refl _ _⟩
end
theorem u_page : Try.prog.underlying 41 = some (.struct (Try.prog.fieldsOf 41)) := by kernel_rfl
theorem s_page : (Try.prog.info? 41).map (·.size) = some 3 := by kernel_rfl
theorem set3 (w : World) (g : Nat) (a b c x y z : Value) (t : TypeId) (h : w.heap[g]? = some (.cells #[a, b, c] t (0, 0))) : (((w.setCell ⟨g, 0, none⟩ x).setCell ⟨g, 1, none⟩ y).setCell ⟨g, 2, none⟩ z).heap[g]? = some (.cells #[x, y, z] t (0, 0)) := by
  have h1 := setRowB w g 0 _ _ _ x h rfl
  have h2 := setRowB _ g 1 _ _ _ y h1 rfl
  exact setRowB _ g 2 _ _ _ z h2 rfl
theorem below3 {w wb : World} (h : Below w.heap.size w wb) (x y z : Value) : Below w.heap.size w (((wb.setCell ⟨w.heap.size, 0, none⟩ x).setCell ⟨w.heap.size, 1, none⟩ y).setCell ⟨w.heap.size, 2, none⟩ z) :=
  ((h.setCell (p := ⟨w.heap.size, 0, none⟩) (Nat.le_refl _) x).setCell (p := ⟨w.heap.size, 1, none⟩) (Nat.le_refl _) y).setCell (p := ⟨w.heap.size, 2, none⟩) (Nat.le_refl _) z
theorem results_pair {P : Program} {fn : Func} {p u : Tmp} {ty : TypeId} (h : fn.results = #[.cell p ty, .tmp u]) (tmps : Array Value) (w : World) (g : Nat) (t : TypeId) (cs : Array Value) (fr : Nat × Nat) (d : TypeDesc)
    (hp : tmps.getD p undef = .pointer (some ⟨g, 0, none⟩)) (hg : w.heap[g]? = some (.cells cs t fr))
    (hu : P.underlying ty = some d) (hd : (match d with | .struct _ | .array _ _ => true | _ => false) = true) (hi : (P.info? ty).map (·.size) = some cs.size) (x : Value) (hx : tmps.getD u undef = x) :
    (results fn tmps).run P w = .ok (.tuple #[.agg cs, x]) w := by
  rw [results_cell_tmp h, hp, hx]
  simp [asAddr, run_loadVar_row w g t ty cs fr d hg hu hd hi, Result.andThen]
/-- a page as it is told -/
def pgv (page : Int) (fr pm : Nat) : Value := .agg #[.int .u64 page, .int .i64 fr, .int .i64 pm]
set_option maxHeartbeats 1000000 in
theorem c_told (w : World) (q : Nat) (page e : Int) (fr pm : Nat) (hn : ∀ w', Calls Try.prog 78 #[.int .u64 e] w' fun r w2 => r = .returned (.int .u64 (e / 1024)) ∧ w2 = w') (hpm : ∀ w', Calls Try.prog 116 #[.int .u64 e] w' fun r w2 => r = .returned (.int .i64 (pm : Int)) ∧ w2 = w')
    (hf : ∀ w', Below w.heap.size w w' → Calls Try.prog 77 #[.pointer (some ⟨q, 0, none⟩), .int .u64 (e / 1024)] w' fun r w2 => r = .returned (.int .i64 (fr : Int)) ∧ w2 = w') :
    Calls Try.prog 61 #[.pointer (some ⟨q, 0, none⟩), .int .u64 page, .int .u64 e] w fun r w' => r = .returned (pgv page fr pm) ∧ Below w.heap.size w w' := by
  have HF := hid hf
  clear hf
  go_enter Try.func61, Try.ntmps61
  go_wp2_with fail
  obtain ⟨wa, hwa⟩ : ∃ wa, w.alloc (.cells #[.int .u64 0, .int .i64 0, .int .i64 0] 41) = wa := ⟨_, rfl⟩
  have HB : Hid (Below w.heap.size w wa) := hwa ▸ (Below.refl _ _).alloc (Nat.le_refl _) _
  have HA : Hid (wa.heap[w.heap.size]? = some (.cells #[.int .u64 0, .int .i64 0, .int .i64 0] 41 (0, 0))) := hwa ▸ heap_alloc_new w _
  rw [hwa]
  clear hwa
  have hf : ∀ n, Calls Try.prog 77 #[.pointer (some ⟨q, 0, none⟩), .int .u64 (e / 1024)] (wa.drewN n) fun r w2 => r = .returned (.int .i64 (fr : Int)) ∧ w2 = wa.drewN n := fun n => HF.out _ (below_dn HB.out n)
  refine wp_region_last_lit (by simp) (by kernel_rfl) (by kernel_rfl) (by kernel_rfl) ?_
  simp only [List.dropLast, List.getLast]
  repeat (go_big_quiet_step (first | (go_at_call 78; exact Calls.quiet_of_same (hn _)) | (go_at_call 116; exact Calls.quiet_of_same (hpm _)) | (go_at_call 77; exact Calls.quiet_of_same (hf _))))
  refine wpQuiet_nil ?_
  intro _ hwq
  obtain ⟨nq, hwq⟩ := hwq
  subst hwq
  have c0 : (wa.drewN nq).cell? ⟨w.heap.size, 0, none⟩ = some (.int .u64 0) := cell_of_row wa _ 0 _ _ _ HA.out
  have c1 : (wa.drewN nq).cell? ⟨w.heap.size, 1, none⟩ = some (.int .i64 0) := cell_of_row wa _ 1 _ _ _ HA.out
  have c2 : (wa.drewN nq).cell? ⟨w.heap.size, 2, none⟩ = some (.int .i64 0) := cell_of_row wa _ 2 _ _ _ HA.out
  have z0 : ∀ j, (wa.drewN nq).frozen? ⟨w.heap.size, j, none⟩ = false := fun j => frozen_of_row wa _ j _ _ HA.out
  have y0 := z0 0
  have y1 := z0 1
  have y2 := z0 2
  have HB' : Hid (Below w.heap.size w (wa.drewN nq)) := below_dn HB.out nq
  have HA' : Hid ((wa.drewN nq).heap[w.heap.size]? = some (.cells #[.int .u64 0, .int .i64 0, .int .i64 0] 41 (0, 0))) := HA.out
  generalize wa.drewN nq = wb at *
  clear HA HB hf z0
  go_wp2_with fail
  exact bodyPost_ret_by (results_cell_row (fn := Try.f61) rfl _ _ w.heap.size 41 _ (0, 0) _ rfl (set3 wb _ _ _ _ _ _ _ _ HA'.out) u_page rfl s_page) rfl ⟨rfl, below3 HB'.out _ _ _⟩
theorem t_find_no (w : World) (q : Nat) (page : Int) (hl : ∀ w', Below w.heap.size w w' → Calls Try.prog 60 #[.pointer (some ⟨q, 0, none⟩), .int .u64 page] w' fun r w2 => (∃ x y, r = .returned (.tuple #[.int .u64 x, .int .u64 y, .bool false])) ∧ Below w'.heap.size w' w2) :
    Calls Try.prog 11 #[.pointer (some ⟨q, 0, none⟩), .int .u64 page] w fun r w' => r = .returned (.tuple #[pgv 0 0 0, .bool false]) ∧ Below w.heap.size w w' := by
  obtain ⟨wa, hwa⟩ : ∃ wa, wa = w.alloc (.cells #[.int .u64 0, .int .i64 0, .int .i64 0] 41) := ⟨_, rfl⟩
  have HB : Hid (Below w.heap.size w wa) := hwa ▸ (Below.refl _ _).alloc (Nat.le_refl _) _
  have HA : Hid (wa.heap[w.heap.size]? = some (.cells #[.int .u64 0, .int .i64 0, .int .i64 0] 41 (0, 0))) := hwa ▸ heap_alloc_new w _
  have hla := hl wa HB.out
  clear hl
  go_enter Try.func11, Try.ntmps11
  go_upto_region 1 with fail
  rw [← hwa]
  clear hwa
  go_upto_region 2 with (go_at_call 60; refine hla.mono ?_; rintro r wb ⟨⟨x, y, rfl⟩, hb⟩; have HB1 := hid hb; have HA1 : Hid (wb.heap[w.heap.size]? = some (.cells #[.int .u64 0, .int .i64 0, .int .i64 0] 41 (0, 0))) := (hb.block _ (lt_of_block HA.out)).trans HA.out; clear hb)
  have HB' : Hid (Below w.heap.size w wb) := HB.out.trans (HB1.out.mono HB.out.size)
  have c0 : wb.cell? ⟨w.heap.size, 0, none⟩ = some (.int .u64 0) := cell_of_row wb _ 0 _ _ _ HA1.out
  have c1 : wb.cell? ⟨w.heap.size, 1, none⟩ = some (.int .i64 0) := cell_of_row wb _ 1 _ _ _ HA1.out
  have c2 : wb.cell? ⟨w.heap.size, 2, none⟩ = some (.int .i64 0) := cell_of_row wb _ 2 _ _ _ HA1.out
  have y0 : wb.frozen? ⟨w.heap.size, 0, none⟩ = false := frozen_of_row wb _ 0 _ _ HA1.out
  have y1 : wb.frozen? ⟨w.heap.size, 1, none⟩ = false := frozen_of_row wb _ 1 _ _ HA1.out
  have y2 : wb.frozen? ⟨w.heap.size, 2, none⟩ = false := frozen_of_row wb _ 2 _ _ HA1.out
  go_wp2_with fail
  exact bodyPost_ret_by (results_pair (fn := Try.f11) rfl _ _ w.heap.size 41 _ (0, 0) _ rfl (set3 wb _ _ _ _ _ _ _ _ HA1.out) u_page rfl s_page _ rfl) rfl ⟨rfl, below3 HB'.out _ _ _⟩
theorem t_find_yes (w : World) (q : Nat) (page a e : Int) (fr pm : Nat) (hl : ∀ w', Below w.heap.size w w' → Calls Try.prog 60 #[.pointer (some ⟨q, 0, none⟩), .int .u64 page] w' fun r w2 => r = .returned (.tuple #[.int .u64 a, .int .u64 e, .bool true]) ∧ Below w'.heap.size w' w2) (ht : ∀ w', Below w.heap.size w w' → Calls Try.prog 61 #[.pointer (some ⟨q, 0, none⟩), .int .u64 page, .int .u64 e] w' fun r w2 => r = .returned (pgv page fr pm) ∧ Below w'.heap.size w' w2) :
    Calls Try.prog 11 #[.pointer (some ⟨q, 0, none⟩), .int .u64 page] w fun r w' => r = .returned (.tuple #[pgv page fr pm, .bool true]) ∧ Below w.heap.size w w' := by
  obtain ⟨wa, hwa⟩ : ∃ wa, wa = w.alloc (.cells #[.int .u64 0, .int .i64 0, .int .i64 0] 41) := ⟨_, rfl⟩
  have HB : Hid (Below w.heap.size w wa) := hwa ▸ (Below.refl _ _).alloc (Nat.le_refl _) _
  have HA : Hid (wa.heap[w.heap.size]? = some (.cells #[.int .u64 0, .int .i64 0, .int .i64 0] 41 (0, 0))) := hwa ▸ heap_alloc_new w _
  have hla := hl wa HB.out
  have HT := hid ht
  clear hl ht
  unfold pgv at HT
  go_enter Try.func11, Try.ntmps11
  go_upto_region 1 with fail
  rw [← hwa]
  clear hwa
  go_upto_region 2 with (go_at_call 60; refine hla.mono ?_; rintro r wb ⟨rfl, hb⟩; have HB1 := hid hb; have HA1 : Hid (wb.heap[w.heap.size]? = some (.cells #[.int .u64 0, .int .i64 0, .int .i64 0] 41 (0, 0))) := (hb.block _ (lt_of_block HA.out)).trans HA.out; clear hb)
  have HB' : Hid (Below w.heap.size w wb) := HB.out.trans (HB1.out.mono HB.out.size)
  have hta := HT.out wb HB'.out
  go_wp2_with (go_at_call 61; refine hta.mono ?_; rintro r wc ⟨rfl, hb⟩; have HB2 : Hid (Below w.heap.size w wc) := HB'.out.trans (hb.mono HB'.out.size); have HA2 : Hid (wc.heap[w.heap.size]? = some (.cells #[.int .u64 0, .int .i64 0, .int .i64 0] 41 (0, 0))) := (hb.block _ (lt_of_block HA1.out)).trans HA1.out; have c0 : wc.cell? ⟨w.heap.size, 0, none⟩ = some (.int .u64 0) := cell_of_row wc _ 0 _ _ _ HA2.out; have c1 : wc.cell? ⟨w.heap.size, 1, none⟩ = some (.int .i64 0) := cell_of_row wc _ 1 _ _ _ HA2.out; have c2 : wc.cell? ⟨w.heap.size, 2, none⟩ = some (.int .i64 0) := cell_of_row wc _ 2 _ _ _ HA2.out; have y0 : wc.frozen? ⟨w.heap.size, 0, none⟩ = false := frozen_of_row wc _ 0 _ _ HA2.out; have y1 : wc.frozen? ⟨w.heap.size, 1, none⟩ = false := frozen_of_row wc _ 1 _ _ HA2.out; have y2 : wc.frozen? ⟨w.heap.size, 2, none⟩ = false := frozen_of_row wc _ 2 _ _ HA2.out; clear hb)
  exact bodyPost_ret_by (results_pair (fn := Try.f11) rfl _ _ w.heap.size 41 _ (0, 0) _ rfl (set3 wc _ _ _ _ _ _ _ _ HA2.out) u_page rfl s_page _ rfl) rfl ⟨rfl, below3 HB2.out _ _ _⟩
section
variable (w : World) (q : Nat) (S : Nat → Prop) (s : SV) (v : PV) (f : Nat → Int) (pl : Nat) (vm : Int) (u : Value) (hq : Sq w q s v pl vm u) (hm : Mem w S v.m v.b v.n f) (hi : Inv s v f)
include hq hm hi
theorem c_told_pg (page : Int) (p : Nat) (hp : s.pp p ≠ 0) : Calls Try.prog 61 #[.pointer (some ⟨q, 0, none⟩), .int .u64 page, .int .u64 (lE v.b (s.pf p) (s.pp p))] w fun r w' => r = .returned (pgv page (s.pf p) (s.pp p)) ∧ Below w.heap.size w w' := by
  obtain ⟨h0, hk, hf, -⟩ := hi.ap p hp
  have n2 := hi.ba.n2
  have b := lE_b (t := s.pf p) (pm := s.pp p) hi.ba.b0 hi.ba.b1 (by omega) (.inr hk)
  have hpm := c_perm _ b.1 b.2
  rw [pm_l _ _ _ hi.ba.b0 hk] at hpm
  exact c_told w q page _ (s.pf p) (s.pp p) (c_number _ b.1 b.2) hpm fun w' hb => c_frameOf w' q S s v f pl vm u (hq.below hb) (hm.below hb) (s.pf p) (by omega) _ (num_l _ _ _ hk)
/-- what Find tells -/
theorem c_Find_yes (p : Nat) (hp : s.pp p ≠ 0) : Calls Try.prog 11 #[.pointer (some ⟨q, 0, none⟩), .int .u64 p] w fun r w' => r = .returned (.tuple #[pgv p (s.pf p) (s.pp p), .bool true]) ∧ Below w.heap.size w w' :=
  t_find_yes w q p _ _ (s.pf p) (s.pp p) (fun w' hb => c_leaf_yes w' q S s v f pl vm u (hq.below hb) (hm.below hb) hi p hp) fun w' hb => c_told_pg w' q S s v f pl vm u (hq.below hb) (hm.below hb) hi p p hp
theorem c_Find_no (page : Int) (p0 : 0 ≤ page) (hp : s.pp page.toNat = 0) : Calls Try.prog 11 #[.pointer (some ⟨q, 0, none⟩), .int .u64 page] w fun r w' => r = .returned (.tuple #[pgv 0 0 0, .bool false]) ∧ Below w.heap.size w w' :=
  t_find_no w q page fun w' hb => c_leaf_no w' q S s v f pl vm u (hq.below hb) (hm.below hb) hi page p0 hp
end
end Go.Proofs.Ytdncendokbjnjaa
namespace Go.Proofs.Ytdncendokbjnjaa
open Go.RowKit
open C (Only hid Mem Still ret_bool ret_int put byt rd8 lo)
set_option linter.unusedVariables false
set_option maxRecDepth 100000

/-- F: the pool's blocks, u: the list of tables -/
structure SPs (w : World) (F : Nat → Prop) (u : Value) (q p : Nat) (s : SV) (v : PV) (f : Nat → Int) (vm : Int) : Prop where
  pl : Pool w F p v f
  sq : Sq w q s v p vm u
  ls : w.ownsRow 0 3 1 u s.l.length (lsv s.l)
  iv : Inv s v f
/-- its blocks are A -/
def Ar (F : Nat → Prop) (u : Value) (q : Nat) (k : Nat) : Prop := F k ∨ k = q ∨ Ug u k
section
variable {w w' : World} {F : Nat → Prop} {u : Value} {q p : Nat} {s : SV} {v : PV} {f : Nat → Int} {vm : Int}
theorem SPs.only (h : SPs w F u q p s v f vm) {T : Nat → Prop} (ho : Only T w w') (hd : ∀ k, Ar F u q k → ¬ T k) : SPs w' F u q p s v f vm :=
  ⟨h.pl.only ho fun k hk => hd k (.inl hk), h.sq.only ho (hd q (.inr (.inl rfl))), own_only h.ls ho fun k hk => hd k (.inr (.inr hk)), h.iv⟩
theorem SPs.below (h : SPs w F u q p s v f vm) (hb : Below w.heap.size w w') : SPs w' F u q p s v f vm := h.only (T := fun _ => False) (.ofBelow hb) fun _ _ z => z
theorem SPs.nq (h : SPs w F u q p s v f vm) : ¬ F q := h.pl.ne h.sq rfl
theorem SPs.nu (h : SPs w F u q p s v f vm) {k : Nat} (hk : Ug u k) : ¬ F k ∧ k ≠ q := by
  obtain ⟨cur, hk'⟩ := own_typ h.ls hk
  exact ⟨h.pl.ne hk' rfl, fun e => by subst e; have := h.sq; unfold Sq at this; rw [hk'] at this; simp at this⟩
theorem SPs.lt (h : SPs w F u q p s v f vm) {k : Nat} (hk : Ar F u q k) : k < w.heap.size := by
  rcases hk with hk | rfl | hk
  · exact h.pl.lt hk
  · exact lt_of_block h.sq
  · obtain ⟨cur, hk'⟩ := own_typ h.ls hk
    exact lt_of_block hk'
/-- the pool has turned, the space's own blocks not -/
theorem SPs.turn (h : SPs w F u q p s v f vm) {F' : Nat → Prop} {v' : PV} {f' : Nat → Int} (hp : Pool w' F' p v' f') (ho : Only F w w') (hm : v'.m = v.m) (hb : v'.b = v.b) (hi : Inv s v' f') : SPs w' F' u q p s v' f' vm :=
  ⟨hp, by have := h.sq.only ho h.nq; unfold Sq at this ⊢; rw [hm, hb]; exact this, own_only h.ls ho fun k hk => (h.nu hk).1, hi⟩
end
/-- an entry is written -/
theorem x_store (w : World) (F : Nat → Prop) (q p : Nat) (v : PV) (f : Nat → Int) (hp : Pool w F p v f) (c0 : w.cell? ⟨q, 0, none⟩ = some (.pointer (some ⟨v.m, 0, none⟩))) (off : Nat) (hl : off + 8 ≤ 4096 * v.n) (a : Int) (ha : a = v.b + off) (e : Int) (e0 : 0 ≤ e) (e1 : e < 18446744073709551616) :
    Calls Try.prog 71 #[.pointer (some ⟨q, 0, none⟩), .int .u64 a, .int .u64 e] w fun r w' => r = .returned (.tuple #[]) ∧ ∃ F', Pool w' F' p v (w8 f off e) ∧ Only F w w' ∧ ∀ k, F' k → F k ∨ w.heap.size ≤ k := by
  obtain ⟨S, hm, hS, hback⟩ := hp.open
  refine t_store w q v.m a e (fun w' => ∃ F', Pool w' F' p v (w8 f off e) ∧ Only F w w' ∧ ∀ k, F' k → F k ∨ w.heap.size ≤ k) c0 ((C.c_Write w S v.m v.b v.n f hm off 8 hl (by decide) a ha e e0 e1).mono ?_)
  rintro r w' ⟨S', rfl, h1, h2, h3⟩
  exact ⟨rfl, hback w' S' _ h1 h2 h3⟩
/-- what is mapped is somebody's -/
def Ow (s : SV) (v : PV) : Prop := ∀ p, s.pp p ≠ 0 → 1 ≤ v.o (s.pf p)
/-- a frame that no table is taken from, k being wanted -/
def Fre (v : PV) (k fr : Nat) : Prop := 1 ≤ v.o fr ∨ (v.o fr = 0 ∧ fr ≤ v.n ∧ k ≤ cnt v.o 0 fr)
structure TX where
  s : SV
  v : PV
  f : Nat → Int
/-- the table of level 1, of level 0, made if it is wanting -/
def TX.up1 (x : TX) (p : Nat) : TX := if x.s.k1 (p / 262144) = 0 then ⟨x.s.add1 (p / 262144) (ff x.v.o x.v.n), x.v.own (ff x.v.o x.v.n) (-1), w8 (clr x.f (ff x.v.o x.v.n)) (4096 * x.s.r + 8 * (p / 262144)) (tE x.v.b (ff x.v.o x.v.n))⟩ else x
def TX.up0 (x : TX) (p : Nat) : TX := if x.s.k0 (p / 512) = 0 then ⟨x.s.add0 (p / 512) (ff x.v.o x.v.n), x.v.own (ff x.v.o x.v.n) (-1), w8 (clr x.f (ff x.v.o x.v.n)) (4096 * x.s.k1 (p / 262144) + 8 * (p / 512 % 512)) (tE x.v.b (ff x.v.o x.v.n))⟩ else x
def TX.lf (x : TX) (p fr pm : Nat) : TX := ⟨x.s.leaf p fr pm, x.v, w8 x.f (lfO x.s p) (lE x.v.b fr pm)⟩
def TX.map (x : TX) (p fr pm : Nat) : TX := ((x.up1 p).up0 p).lf p fr pm
def argOk (v : PV) (page fr pm : Int) : Bool := decide (page < 134217728) && decide (0 ≤ fr) && decide (fr < (v.n : Int)) && okPb pm
/-- what Map answers -/
def mapC (x : TX) (page fr pm : Int) : Int := bif argOk x.v page fr pm then (if x.s.pp page.toNat ≠ 0 then 20 else if cnt x.v.o 0 x.v.n < dnL x.s page.toNat then 10 else 0) else 1
section
variable {x : TX} {p : Nat}
theorem PV.Ok.mon {v : PV} (ok : v.Ok) (hc : 0 < cnt v.o 0 v.n) : (v.own (ff v.o v.n) (-1)).Ok := by
  have := ok.take (-1)
  rw [tk_free v (-1) rfl hc] at this
  exact this
theorem TX.up1_yes (hz : x.s.k1 (p / 262144) = 0) : x.up1 p = ⟨x.s.add1 (p / 262144) (ff x.v.o x.v.n), x.v.own (ff x.v.o x.v.n) (-1), w8 (clr x.f (ff x.v.o x.v.n)) (4096 * x.s.r + 8 * (p / 262144)) (tE x.v.b (ff x.v.o x.v.n))⟩ := if_pos hz
theorem TX.up1_no (hz : x.s.k1 (p / 262144) ≠ 0) : x.up1 p = x := if_neg hz
theorem TX.up0_yes (hz : x.s.k0 (p / 512) = 0) : x.up0 p = ⟨x.s.add0 (p / 512) (ff x.v.o x.v.n), x.v.own (ff x.v.o x.v.n) (-1), w8 (clr x.f (ff x.v.o x.v.n)) (4096 * x.s.k1 (p / 262144) + 8 * (p / 512 % 512)) (tE x.v.b (ff x.v.o x.v.n))⟩ := if_pos hz
theorem TX.up0_no (hz : x.s.k0 (p / 512) ≠ 0) : x.up0 p = x := if_neg hz
theorem own_cnt {v : PV} (hc : 0 < cnt v.o 0 v.n) : cnt (v.own (ff v.o v.n) (-1)).o 0 v.n + 1 = cnt v.o 0 v.n := by
  obtain ⟨h1, h2⟩ := cnt_pos hc
  have := cnt_upd v.o (ff v.o v.n) (-1) h2 (by decide) v.n
  rw [if_pos h1] at this
  exact this
/-- a table of level 1 more -/
theorem TX.step1 (hi : Inv x.s x.v x.f) (ok : x.v.Ok) (hne : ∀ p, x.s.pp p ≠ 0 → x.s.pf p ≠ ff x.v.o x.v.n) (hp : p < 134217728) (hz : x.s.k1 (p / 262144) = 0) (hc : 0 < cnt x.v.o 0 x.v.n) :
    Inv (x.s.add1 (p / 262144) (ff x.v.o x.v.n)) (x.v.own (ff x.v.o x.v.n) (-1)) (w8 (clr x.f (ff x.v.o x.v.n)) (4096 * x.s.r + 8 * (p / 262144)) (tE x.v.b (ff x.v.o x.v.n))) ∧
    dnO (x.s.add1 (p / 262144) (ff x.v.o x.v.n)) p = 4096 * ff x.v.o x.v.n + 8 * (p / 512 % 512) ∧ dnL (x.s.add1 (p / 262144) (ff x.v.o x.v.n)) p = 1 ∧ ((x.up1 p).up1 p) = x.up1 p := by
  obtain ⟨h1, h2⟩ := cnt_pos hc
  have h0 := hi.new0 ok h2
  have k0 : x.s.k0 (p / 512) = 0 := by
    rcases Nat.eq_zero_or_pos (x.s.k0 (p / 512)) with z | z
    · exact z
    · have := (hi.a0 (p / 512) (by omega)).1
      rw [show p / 512 / 512 = p / 262144 by omega] at this
      exact absurd hz this
  have e1 : (x.s.add1 (p / 262144) (ff x.v.o x.v.n)).k1 (p / 262144) = ff x.v.o x.v.n := upd_same _ _ _
  have e0 : (x.s.add1 (p / 262144) (ff x.v.o x.v.n)).k0 (p / 512) = 0 := k0
  refine ⟨hi.mk1 ok hne (by omega) hz h1 h2, ?_, ?_, ?_⟩
  · unfold dnO; rw [e1, if_neg h0, e0, if_pos rfl]
  · unfold dnL; rw [e1, if_neg h0, e0, if_pos rfl]
  · rw [TX.up1_yes hz]; exact TX.up1_no (by show (x.s.add1 _ _).k1 _ ≠ 0; rw [e1]; exact h0)
/-- a table of level 0 more -/
theorem TX.step0 (hi : Inv x.s x.v x.f) (ok : x.v.Ok) (hne : ∀ p, x.s.pp p ≠ 0 → x.s.pf p ≠ ff x.v.o x.v.n) (hp : p < 134217728) (hk : x.s.k1 (p / 262144) ≠ 0) (hz : x.s.k0 (p / 512) = 0) (hc : 0 < cnt x.v.o 0 x.v.n) :
    Inv (x.s.add0 (p / 512) (ff x.v.o x.v.n)) (x.v.own (ff x.v.o x.v.n) (-1)) (w8 (clr x.f (ff x.v.o x.v.n)) (4096 * x.s.k1 (p / 262144) + 8 * (p / 512 % 512)) (tE x.v.b (ff x.v.o x.v.n))) ∧
    dnO (x.s.add0 (p / 512) (ff x.v.o x.v.n)) p = 4096 * ff x.v.o x.v.n + 8 * (p % 512) ∧ dnL (x.s.add0 (p / 512) (ff x.v.o x.v.n)) p = 0 ∧ ((x.up0 p).up1 p).up0 p = (x.up1 p).up0 p := by
  obtain ⟨h1, h2⟩ := cnt_pos hc
  have h0 := hi.new0 ok h2
  have e1 : (x.s.add0 (p / 512) (ff x.v.o x.v.n)).k0 (p / 512) = ff x.v.o x.v.n := upd_same _ _ _
  have e0 : (x.s.add0 (p / 512) (ff x.v.o x.v.n)).k1 (p / 262144) = x.s.k1 (p / 262144) := rfl
  have hm := hi.mk0 ok hne (q := p / 512) (t := ff x.v.o x.v.n) (by rw [show p / 512 / 512 = p / 262144 by omega]; exact hk) hz h1 h2
  rw [show p / 512 / 512 = p / 262144 by omega] at hm
  refine ⟨hm, ?_, ?_, ?_⟩
  · unfold dnO; rw [e0, if_neg hk, e1, if_neg h0]
  · unfold dnL; rw [e0, if_neg hk, e1, if_neg h0]
  · rw [TX.up1_no hk, TX.up0_yes hz, TX.up1_no (x := ⟨x.s.add0 (p / 512) (ff x.v.o x.v.n), x.v.own (ff x.v.o x.v.n) (-1), w8 (clr x.f (ff x.v.o x.v.n)) (4096 * x.s.k1 (p / 262144) + 8 * (p / 512 % 512)) (tE x.v.b (ff x.v.o x.v.n))⟩) (by show (x.s.add0 _ _).k1 _ ≠ 0; rw [e0]; exact hk)]
    exact TX.up0_no (by show (x.s.add0 _ _).k0 _ ≠ 0; rw [e1]; exact h0)
end
section
variable (w : World) (F : Nat → Prop) (u : Value) (q pl : Nat) (s : SV) (v : PV) (f : Nat → Int) (vm : Int) (h : SPs w F u q pl s v f vm)
include h
theorem r_leaf_yes (p : Nat) (hp : s.pp p ≠ 0) : Calls Try.prog 60 #[.pointer (some ⟨q, 0, none⟩), .int .u64 p] w fun r w' => r = .returned (.tuple #[.int .u64 (v.b + (lfO s p : Nat)), .int .u64 (lE v.b (s.pf p) (s.pp p)), .bool true]) ∧ Below w.heap.size w w' := by
  obtain ⟨S, hm, -, -⟩ := h.pl.open
  exact c_leaf_yes w q S s v f pl vm u h.sq hm h.iv p hp
theorem r_leaf_no (page : Int) (p0 : 0 ≤ page) (hp : s.pp page.toNat = 0) : Calls Try.prog 60 #[.pointer (some ⟨q, 0, none⟩), .int .u64 page] w fun r w' => (∃ x y, r = .returned (.tuple #[.int .u64 x, .int .u64 y, .bool false])) ∧ Below w.heap.size w w' := by
  obtain ⟨S, hm, -, -⟩ := h.pl.open
  exact c_leaf_no w q S s v f pl vm u h.sq hm h.iv page p0 hp
theorem r_Find_yes (p : Nat) (hp : s.pp p ≠ 0) : Calls Try.prog 11 #[.pointer (some ⟨q, 0, none⟩), .int .u64 p] w fun r w' => r = .returned (.tuple #[pgv p (s.pf p) (s.pp p), .bool true]) ∧ Below w.heap.size w w' := by
  obtain ⟨S, hm, -, -⟩ := h.pl.open
  exact c_Find_yes w q S s v f pl vm u h.sq hm h.iv p hp
theorem r_Find_no (page : Int) (p0 : 0 ≤ page) (hp : s.pp page.toNat = 0) : Calls Try.prog 11 #[.pointer (some ⟨q, 0, none⟩), .int .u64 page] w fun r w' => r = .returned (.tuple #[pgv 0 0 0, .bool false]) ∧ Below w.heap.size w w' := by
  obtain ⟨S, hm, -, -⟩ := h.pl.open
  exact c_Find_no w q S s v f pl vm u h.sq hm h.iv page p0 hp
theorem r_down (p : Nat) (hp : p < 134217728) : Calls Try.prog 69 #[.pointer (some ⟨q, 0, none⟩), .int .u64 p] w fun r w' => r = .returned (.tuple #[.int .u64 (v.b + (dnO s p : Nat)), .int .i64 (dnL s p : Nat)]) ∧ Below w.heap.size w w' := by
  obtain ⟨S, hm, -, -⟩ := h.pl.open
  exact c_down w q S s v f pl vm u h.sq hm h.iv p hp
theorem r_Frames : Calls Try.prog 67 #[.pointer (some ⟨v.m, 0, none⟩)] w fun r w' => r = .returned (.int .i64 v.n) ∧ w' = w := by
  obtain ⟨S, hm, -, -⟩ := h.pl.open
  exact c_FramesM w S v.m v.b v.n f hm
theorem r_Count (x : Int) : Calls Try.prog 42 #[.pointer (some ⟨pl, 0, none⟩), .int .i64 x] w fun e w' => e = .returned (.int .i64 (cnt v.o x v.n)) ∧ w' = w := by
  obtain ⟨g, d, k, B, S, hp, ok, hF⟩ := h.pl
  exact c_Count w pl g d k B S v f hp ok x
theorem r_pageOf (t : Nat) (ht : t ≤ 1024) : Calls Try.prog 76 #[.pointer (some ⟨q, 0, none⟩), .int .i64 t] w fun r w' => r = .returned (.int .u64 (v.b / 4096 + t)) ∧ w' = w := by
  obtain ⟨S, hm, -, -⟩ := h.pl.open
  exact c_pageOf w q S s v f pl vm u h.sq hm t ht
theorem r_frameOf (t : Nat) (ht : t ≤ 1024) (x : Int) (hx : x = v.b / 4096 + t) : Calls Try.prog 77 #[.pointer (some ⟨q, 0, none⟩), .int .u64 x] w fun r w' => r = .returned (.int .i64 t) ∧ w' = w := by
  obtain ⟨S, hm, -, -⟩ := h.pl.open
  exact c_frameOf w q S s v f pl vm u h.sq hm t ht x hx
end
/-- a page is refused -/
theorem t_map_arg (w : World) (q m n : Nat) (page fr pm : Int) (m0 : -9223372036854775808 ≤ pm) (m1 : pm ≤ 9223372036854775807) (c0 : w.cell? ⟨q, 0, none⟩ = some (.pointer (some ⟨m, 0, none⟩))) (hf : Calls Try.prog 67 #[.pointer (some ⟨m, 0, none⟩)] w fun r w' => r = .returned (.int .i64 n) ∧ w' = w) (ha : (decide (page < 134217728) && decide (0 ≤ fr) && decide (fr < (n : Int)) && okPb pm) = false) :
    Calls Try.prog 17 #[.pointer (some ⟨q, 0, none⟩), .int .u64 page, .int .i64 fr, .int .i64 pm] w fun r w' => r = .returned (.int .i64 1) ∧ w' = w := by
  have h := c_isPage page
  have hp := c_isPerm pm m0 m1
  clear m0 m1
  go_enter Try.func17, Try.ntmps17
  by_cases h1 : page < 134217728
  · rw [decide_eq_true h1] at h ha
    by_cases h2 : fr < 0
    · go_wp2_with (go_at_call 66; refine (h _).mono ?_; rintro r w1 ⟨rfl, hw⟩; obtain rfl := hw.symm)
      go_ret
      exact ⟨rfl, rfl⟩
    · by_cases h3 : fr ≥ (n : Int)
      · go_wp2_with (first
          | (go_at_call 66; refine (h _).mono ?_; rintro r w1 ⟨rfl, hw⟩; obtain rfl := hw.symm)
          | (go_at_call 67; refine hf.mono ?_; rintro r w1 ⟨rfl, hw⟩; obtain rfl := hw.symm))
        go_ret
        exact ⟨rfl, rfl⟩
      · have h4 : okPb pm = false := by
          rw [decide_eq_true (show 0 ≤ fr by omega), decide_eq_true (show fr < (n : Int) by omega)] at ha
          simpa using ha
        rw [h4] at hp
        clear ha
        go_wp2_with (first
          | (go_at_call 66; refine (h _).mono ?_; rintro r w1 ⟨rfl, hw⟩; obtain rfl := hw.symm)
          | (go_at_call 68; refine (hp _).mono ?_; rintro r w1 ⟨rfl, hw⟩; obtain rfl := hw.symm)
          | (go_at_call 67; refine hf.mono ?_; rintro r w1 ⟨rfl, hw⟩; obtain rfl := hw.symm))
        go_ret
        exact ⟨rfl, rfl⟩
  · rw [decide_eq_false h1] at h
    clear ha
    go_wp2_with (go_at_call 66; refine (h _).mono ?_; rintro r w1 ⟨rfl, hw⟩; obtain rfl := hw.symm)
    go_ret
    exact ⟨rfl, rfl⟩
theorem t_map_mapped (w : World) (q m n : Nat) (page fr pm a e : Int) (m0 : -9223372036854775808 ≤ pm) (m1 : pm ≤ 9223372036854775807) (c0 : w.cell? ⟨q, 0, none⟩ = some (.pointer (some ⟨m, 0, none⟩))) (hf : Calls Try.prog 67 #[.pointer (some ⟨m, 0, none⟩)] w fun r w' => r = .returned (.int .i64 n) ∧ w' = w) (ha : (decide (page < 134217728) && decide (0 ≤ fr) && decide (fr < (n : Int)) && okPb pm) = true)
    (hl : Calls Try.prog 60 #[.pointer (some ⟨q, 0, none⟩), .int .u64 page] w fun r w' => r = .returned (.tuple #[.int .u64 a, .int .u64 e, .bool true]) ∧ Below w.heap.size w w') :
    Calls Try.prog 17 #[.pointer (some ⟨q, 0, none⟩), .int .u64 page, .int .i64 fr, .int .i64 pm] w fun r w' => r = .returned (.int .i64 20) ∧ Below w.heap.size w w' := by
  have h := c_isPage page
  have hp := c_isPerm pm m0 m1
  simp only [Bool.and_eq_true, decide_eq_true_eq] at ha
  obtain ⟨⟨⟨h1, h2⟩, h3⟩, h4⟩ := ha
  rw [decide_eq_true h1] at h
  rw [h4] at hp
  clear m0 m1 h1 h4
  have g2 : ¬ fr < 0 := by omega
  have g3 : ¬ (n : Int) ≤ fr := by omega
  go_enter Try.func17, Try.ntmps17
  go_wp2_with (first
    | (go_at_call 66; refine (h _).mono ?_; rintro r w1 ⟨rfl, hw⟩; obtain rfl := hw.symm)
    | (go_at_call 68; refine (hp _).mono ?_; rintro r w1 ⟨rfl, hw⟩; obtain rfl := hw.symm)
    | (go_at_call 67; refine hf.mono ?_; rintro r w1 ⟨rfl, hw⟩; obtain rfl := hw.symm)
    | (go_at_call 60; refine hl.mono ?_; rintro r w1 ⟨rfl, hb⟩; have HB := hid hb; clear hb))
  go_ret
  exact ⟨rfl, HB.out⟩
end Go.Proofs.Ytdncendokbjnjaa
