/- The law's awake: a page that is mapped. -/
import Derived.Test.YtekkjalfiogenaaSN
import Derived.Test.YtekkjalfiogenaaHQ
import Derived.Test.YtekkjalfiogenaaMC4
namespace Go.Proofs.Ytekkjalfiogenaa
open Go.RowKit
open C (Only hid Mem RMem Still ret_bool ret_int put byt rd8 lo and_lo nu c_Place)
set_option linter.unusedVariables false
set_option maxRecDepth 100000

theorem up1_pg (x : TX) (p : Nat) : (x.up1 p).s.pp = x.s.pp ∧ (x.up1 p).s.pf = x.s.pf ∧ (x.up1 p).s.r = x.s.r ∧ (x.up1 p).v.n = x.v.n ∧ (x.up1 p).v.b = x.v.b ∧ (x.up1 p).v.m = x.v.m ∧ (x.up1 p).v.r = x.v.r ∧ (x.up1 p).v.h = x.v.h ∧ (x.up1 p).v.s = x.v.s := by
  unfold TX.up1; split <;> exact ⟨rfl, rfl, rfl, rfl, rfl, rfl, rfl, rfl, rfl⟩
theorem up0_pg (x : TX) (p : Nat) : (x.up0 p).s.pp = x.s.pp ∧ (x.up0 p).s.pf = x.s.pf ∧ (x.up0 p).s.r = x.s.r ∧ (x.up0 p).v.n = x.v.n ∧ (x.up0 p).v.b = x.v.b ∧ (x.up0 p).v.m = x.v.m ∧ (x.up0 p).v.r = x.v.r ∧ (x.up0 p).v.h = x.v.h ∧ (x.up0 p).v.s = x.v.s := by
  unfold TX.up0; split <;> exact ⟨rfl, rfl, rfl, rfl, rfl, rfl, rfl, rfl, rfl⟩
theorem map_pp (x : TX) (p fr pm : Nat) : (x.map p fr pm).s.pp = upd x.s.pp p pm ∧ (x.map p fr pm).s.pf = upd x.s.pf p fr := by
  have h1 := up1_pg x p
  have h0 := up0_pg (x.up1 p) p
  unfold TX.map TX.lf SV.leaf
  show upd ((x.up1 p).up0 p).s.pp p pm = _ ∧ upd ((x.up1 p).up0 p).s.pf p fr = _
  rw [h0.1, h1.1, h0.2.1, h1.2.1]
  exact ⟨rfl, rfl⟩
theorem map_v (x : TX) (p fr pm : Nat) : (x.map p fr pm).v.n = x.v.n ∧ (x.map p fr pm).v.b = x.v.b ∧ (x.map p fr pm).v.m = x.v.m ∧ (x.map p fr pm).v.r = x.v.r ∧ (x.map p fr pm).v.h = x.v.h ∧ (x.map p fr pm).v.s = x.v.s ∧ (x.map p fr pm).s.r = x.s.r := by
  have h1 := up1_pg x p
  have h0 := up0_pg (x.up1 p) p
  show ((x.up1 p).up0 p).v.n = _ ∧ ((x.up1 p).up0 p).v.b = _ ∧ ((x.up1 p).up0 p).v.m = _ ∧ ((x.up1 p).up0 p).v.r = _ ∧ ((x.up1 p).up0 p).v.h = _ ∧ ((x.up1 p).up0 p).v.s = _ ∧ ((x.up1 p).up0 p).s.r = _
  rw [h0.2.2.2.1, h1.2.2.2.1, h0.2.2.2.2.1, h1.2.2.2.2.1, h0.2.2.2.2.2.1, h1.2.2.2.2.2.1, h0.2.2.2.2.2.2.1, h1.2.2.2.2.2.2.1, h0.2.2.2.2.2.2.2.1, h1.2.2.2.2.2.2.2.1, h0.2.2.2.2.2.2.2.2, h1.2.2.2.2.2.2.2.2, h0.2.2.1, h1.2.2.1]
  exact ⟨rfl, rfl, rfl, rfl, rfl, rfl, rfl⟩
theorem map_len (x : TX) (p fr pm : Nat) (h1 : x.s.k1 (p / 262144) = 0) (h0 : x.s.k0 (p / 512) = 0) : (x.map p fr pm).s.l.length = x.s.l.length + 2 := by
  unfold TX.map
  rw [TX.up1_yes h1]
  rw [TX.up0_yes (x := ⟨x.s.add1 (p / 262144) (ff x.v.o x.v.n), x.v.own (ff x.v.o x.v.n) (-1), w8 (clr x.f (ff x.v.o x.v.n)) (4096 * x.s.r + 8 * (p / 262144)) (tE x.v.b (ff x.v.o x.v.n))⟩) (show (x.s.add1 _ _).k0 _ = 0 from h0)]
  show ((x.s.l ++ [_]) ++ [_]).length = _
  simp
theorem own_sliceS {w : World} {base : Nat} {e : TypeId} {size : Nat} {v : Value} {n : Nat} {xs : List Value} (h : w.ownsRow base e size v n xs) : ∃ ad c, v = .slice ad n c ∧ ∀ a, ad = some a → base ≤ a.block := by
  rcases h.2 with ⟨h1, h2⟩ | ⟨g, cap, cur, h1, h2, h3, h4⟩
  · exact ⟨none, 0, by rw [h1, h2], fun a q => by cases q⟩
  · exact ⟨_, cap, h1, fun a q => by cases q; exact h2⟩
theorem wpL_storePg {ops : Array Oper} {rest : List Oper} {d : Option Nat} {ty : TypeId} {x y : Operand} {pos : String} {after : Array Edge} {Q : Exit → Act → World → Prop} {a : Act} {w : World} (g : Nat) (hx : a.eval x = .pointer (some ⟨g, 0, none⟩)) (c0 c1 c2 : Int) (hy : a.eval y = .agg #[.int .u64 c0, .int .i64 c1, .int .i64 c2]) (z0 z1 z2 : Value)
    (hg : w.heap[g]? = some (.cells #[z0, z1, z2] 41 (0, 0))) (hK : wpList Try.prog ops Q rest (a.put d undef) (w.setRow g #[.int .u64 c0, .int .i64 c1, .int .i64 c2])) :
    wpList Try.prog ops Q ({ dst := d, op := Op.store 41 x y, type := ty, pos := pos, after := after, guard := none } :: rest) a w :=
  wpList_store_row rfl 41 x y rfl g _ hx hy 41 _ hg s_page rfl (by rw [Array.all_eq_true_iff_forall_mem]; intro v hv; simp at hv; rcases hv with rfl | rfl | rfl <;> rfl) hK
theorem stood_page : Try.prog.stoodInHeld 41 = false := by kernel_rfl
theorem run_eqPg (a b c : Int) (w : World) : (Op.equalIn 10000 41 (.agg #[.int .u64 a, .int .i64 b, .int .i64 c]) (.agg #[.int .u64 a, .int .i64 b, .int .i64 c])).run Try.prog w = .ok true w := by
  rw [run_equalIn_struct w 9999 41 _ _ u_page stood_page]
  go_simp
theorem aw_cnt (m : Nat) : cnt ((v0 m 0 1 2 12).own 1 (-1)).o 0 12 = 10 := by kernel_rfl
theorem aw_cnt9 (m : Nat) : cnt ((v0 m 0 1 2 12).own 1 (-1)).o 0 9 = 7 := by kernel_rfl
set_option maxHeartbeats 2000000 in
theorem l_awake10 (w : World) : Calls Try.prog 7 #[] w fun r w' => r = .returned (.bool true) ∧ Below w.heap.size w w' := by
  have hN := l_New10 w w (Below.refl _ _) 0 8 1 (by decide) (by decide) (by decide) (by decide) rfl 12 (by decide) 0 (by decide)
  go_enter Try.func7, Try.ntmps7
  go_upto_region 2 with (go_at_call 6; refine hN.mono ?_; rintro r w1 ⟨q, qd, p, pd, m, dm, F, u, G, ud, rfl, h1⟩; have H1 := hid h1; unfold onv; clear h1)
  obtain ⟨wa, hwa⟩ : ∃ wa, wa = w1.alloc (.cells #[.pointer (some ⟨q, 0, none⟩), .pointer (some ⟨qd, 0, none⟩), .pointer (some ⟨p, 0, none⟩), .pointer (some ⟨pd, 0, none⟩), .pointer (some ⟨m, 0, none⟩), .pointer (some ⟨dm, 0, none⟩)] 33) := ⟨_, rfl⟩
  have HB : Hid (Below w1.heap.size w1 wa) := hwa ▸ (Below.refl _ _).alloc (Nat.le_refl _) _
  have HA : Hid (wa.heap[w1.heap.size]? = some (.cells #[.pointer (some ⟨q, 0, none⟩), .pointer (some ⟨qd, 0, none⟩), .pointer (some ⟨p, 0, none⟩), .pointer (some ⟨pd, 0, none⟩), .pointer (some ⟨m, 0, none⟩), .pointer (some ⟨dm, 0, none⟩)] 33 (0, 0))) := hwa ▸ heap_alloc_new w1 _
  rw [← hwa]
  clear hwa hN
  have H2 := hid (H1.out.below HB.out)
  have c0 : wa.cell? ⟨w1.heap.size, 0, none⟩ = some (.pointer (some ⟨q, 0, none⟩)) := cell_of_row wa _ 0 _ _ _ HA.out
  have hM := x_Map wa F u q p (s0 1) ((v0 m 0 1 2 12).own 1 (-1)) (clr (fun _ => 0) 1) 1 H2.out.sp 524288 9 6 (by decide) (show 9 < 12 by decide) (.inr (.inl rfl)) rfl (by show dnL (s0 1) 524288 ≤ cnt _ 0 12; rw [aw_cnt]; decide) (fun a ha => absurd rfl ha) (.inr ⟨rfl, show 9 ≤ 12 by decide, by rw [aw_cnt9]; decide⟩)
  have hpp := map_pp ⟨s0 1, (v0 m 0 1 2 12).own 1 (-1), clr (fun _ => 0) 1⟩ 524288 9 6
  have hln := map_len ⟨s0 1, (v0 m 0 1 2 12).own 1 (-1), clr (fun _ => 0) 1⟩ 524288 9 6 rfl rfl
  have hpn : Hid (∀ k, Ar F u q k → k ≠ w1.heap.size) := fun k hk e => by have := H1.out.sp.lt hk; omega
  generalize TX.map ⟨s0 1, (v0 m 0 1 2 12).own 1 (-1), clr (fun _ => 0) 1⟩ 524288 9 6 = X at hM hpp hln
  have HPP : Hid (X.s.pp 524288 = 6 ∧ X.s.pf 524288 = 9) := by rw [hpp.1, hpp.2]; exact ⟨upd_same _ _ _, upd_same _ _ _⟩
  have HLN : Hid (X.s.l.length = 3) := hln
  clear hpp hln
  have hM' : Calls Try.prog 16 #[.pointer (some ⟨q, 0, none⟩), .int .u64 524288, .int .i64 9, .int .i64 6] wa fun r w' => r = .returned (.int .i64 0) ∧ ∃ F' u', SPs w' F' u' q p X.s X.v X.f 1 ∧ Only (Ar F u q) wa w' ∧ ∀ k, Ar F' u' q k → Ar F u q k ∨ wa.heap.size ≤ k := hM
  clear hM
  go_upto_region 4 with (go_at_call 16; refine hM'.mono ?_; rintro r w2 ⟨rfl, F', u', h1, h2, h3⟩; have H3 := hid h1; have H4 := hid h2; have H5 := hid h3; have HA2 := hid (h2.old HA.out fun z => hpn.out _ z rfl); clear h1 h2 h3)
  clear hM'
  have c1 : w2.cell? ⟨w1.heap.size, 0, none⟩ = some (.pointer (some ⟨q, 0, none⟩)) := cell_of_row w2 _ 0 _ _ _ HA2.out
  have hF := r_Find_yes w2 F' u' q p X.s X.v X.f 1 H3.out 524288 (by rw [HPP.out.1]; decide)
  rw [HPP.out.1, HPP.out.2] at hF
  have hF' : Calls Try.prog 10 #[.pointer (some ⟨q, 0, none⟩), .int .u64 524288] w2 fun r w' => r = .returned (.tuple #[.agg #[.int .u64 524288, .int .i64 9, .int .i64 6], .bool true]) ∧ Below w2.heap.size w2 w' := hF
  clear hF
  go_upto_region 5 with (go_at_call 10; refine hF'.mono ?_; rintro r w3 ⟨rfl, h1⟩; have H6 := hid h1; clear h1)
  obtain ⟨wb, hwb⟩ : ∃ wb, wb = w3.alloc (.cells #[.int .u64 524288, .int .i64 9, .int .i64 6] 41) := ⟨_, rfl⟩
  have HBb : Hid (Below w2.heap.size w2 wb) := hwb ▸ H6.out.alloc H6.out.size _
  have HPb : Hid (wb.heap[w3.heap.size]? = some (.cells #[.int .u64 524288, .int .i64 9, .int .i64 6] 41 (0, 0))) := hwb ▸ heap_alloc_new w3 _
  rw [← hwb]
  clear hwb hF' c1
  have p0 : wb.cell? ⟨w3.heap.size, 0, none⟩ = some (.int .u64 524288) := cell_of_row wb _ 0 _ _ _ HPb.out
  have p1 : wb.cell? ⟨w3.heap.size, 1, none⟩ = some (.int .i64 9) := cell_of_row wb _ 1 _ _ _ HPb.out
  have p2 : wb.cell? ⟨w3.heap.size, 2, none⟩ = some (.int .i64 6) := cell_of_row wb _ 2 _ _ _ HPb.out
  have HAb : Hid (wb.heap[w1.heap.size]? = some (.cells #[.pointer (some ⟨q, 0, none⟩), .pointer (some ⟨qd, 0, none⟩), .pointer (some ⟨p, 0, none⟩), .pointer (some ⟨pd, 0, none⟩), .pointer (some ⟨m, 0, none⟩), .pointer (some ⟨dm, 0, none⟩)] 33 (0, 0))) := (HBb.out.block _ (lt_of_block HA2.out)).trans HA2.out
  have c1 : wb.cell? ⟨w1.heap.size, 0, none⟩ = some (.pointer (some ⟨q, 0, none⟩)) := cell_of_row wb _ 0 _ _ _ HAb.out
  have heq := run_eqPg 524288 9 6
  have H7 := hid (H3.out.below HBb.out)
  have hW := x_Write wb F' u' q p X.s X.v X.f 1 H7.out 2147483664 (by decide) (by decide) 8 rfl 5 (by decide) (by decide) (fun j hj => by
    have e : ((2147483664 : Int).toNat + j) / 4096 = 524288 := by omega
    rw [e]
    unfold pgOk
    rw [HPP.out.1]
    rfl)
  have hW' : Calls Try.prog 19 #[.pointer (some ⟨q, 0, none⟩), .int .u64 2147483664, .int .i64 8, .int .u64 5] wb fun r w' => r = .returned (.bool true) ∧ ∃ F2, SPs w' F2 u' q p X.s X.v (wG X.s X.f (2147483664 : Int).toNat 5 8) 1 ∧ Only F' wb w' ∧ ∀ k, F2 k → F' k ∨ wb.heap.size ≤ k := hW
  clear hW
  generalize wG X.s X.f (2147483664 : Int).toNat 5 8 = fx at hW'
  go_wp2_with (first
    | (go_at_call 19; refine hW'.mono ?_; rintro r w4 ⟨rfl, F2, h1, h2, h3⟩; have H8 := hid h1; have H9 := hid h2; have c2 : w4.cell? ⟨w1.heap.size, 0, none⟩ = some (.pointer (some ⟨q, 0, none⟩)) := cell_of_row w4 _ 0 _ _ _ (h2.old HAb.out (H7.out.pl.ne HAb.out rfl)); have hT := x_Tables w4 F2 u' q p X.s X.v fx 1 h1; rw [HLN.out] at hT; clear h1 h2 h3)
    | (go_at_call 21; refine hT.mono ?_; rintro r w5 ⟨x, rfl, h1, h2⟩; obtain ⟨ad, cp, rfl, -⟩ := own_sliceS h1; have H10 := hid h2; clear h1 h2))
  go_ret
  have z1 := H1.out.new.size
  have za := HB.out.size
  have z2 := H4.out.size
  have z3 := HBb.out.size
  have z4 := H9.out.size
  refine ⟨rfl, H1.out.new.trans ((HB.out.mono z1).trans ((H4.out.below _ (by omega) fun k hk => H1.out.own k (.inl hk)).trans ((HBb.out.mono (by omega)).trans ((H9.out.below _ (by omega) fun k hk => ?_).trans (H10.out.mono (by omega))))))⟩
  exact (H5.out k (.inl hk)).elim (fun z => H1.out.own k (.inl z)) fun z => by omega
end Go.Proofs.Ytekkjalfiogenaa
namespace Go.Proofs.Ytekkjalfiogenaa
open Go.RowKit
set_option linter.unusedVariables false

def Lk (n k : Nat) : Array Bool := ((List.range n).map fun j => decide (j < k)).toArray
theorem Lk_size (n k : Nat) : (Lk n k).size = n := by simp [Lk]
theorem Lk_zero (n : Nat) : Array.replicate n false = Lk n 0 := by
  apply Array.ext
  · simp [Lk]
  · intro i h1 h2; simp [Lk]
theorem Lk_get (n k j : Nat) (hj : j < n) : (Lk n k).getD j true = decide (j < k) := by simp [Lk, hj]
theorem Lk_set (n k : Nat) (hk : k < n) : (Lk n k).setIfInBounds k true = Lk n (k + 1) := by
  apply Array.ext
  · simp [Lk]
  · intro i h1 h2
    have hi : i < n := by simpa [Lk] using h2
    rw [Array.getElem_setIfInBounds]
    · split
      · rename_i e; subst e; simp [Lk]
      · rename_i e; simp [Lk]; omega
    · simpa [Lk] using hi
section
variable {P : Program} {ops : Array Oper} {md : Region.Mode} {C : World → Prop}
def wpAnyM (P : Program) (md : Region.Mode) (ops : Array Oper) (C : World → Prop) (z : Nat) (Q : Act → Prop) : Nat → Array Bool → Act → Prop
  | 0, listed, a => listed = Lk ops.size z ∧ Q a
  | fuel + 1, listed, a => Region.ready md ops listed ≠ [] ∧ ∀ i ∈ Region.ready md ops listed, qOp P ops C i (wpAnyM P md ops C z Q fuel (listed.setIfInBounds i true)) a
theorem wpAny_of_mid {z m : Nat} {Q : Act → Prop} {Q' : Exit → Act → World → Prop} (hz : Region.ready md ops (Lk ops.size z) = [z]) (hQ : ∀ a w, C w → Q a → wpOp P ops Q' z (fun a' w' => wpAny P md ops Q' m ((Lk ops.size z).setIfInBounds z true) a' w') a w) : ∀ (fuel : Nat) (listed : Array Bool) (a : Act) (w : World), C w →
    wpAnyM P md ops C z Q fuel listed a → wpAny P md ops Q' (fuel + 1 + m) listed a w
  | 0, listed, a, w, hw, h => by
    obtain ⟨rfl, h3⟩ := h
    rw [show 0 + 1 + m = m + 1 by omega]
    refine ⟨fun h0 => (by rw [hz] at h0; cases h0), fun i hi => ?_⟩
    rw [hz] at hi
    obtain rfl : i = z := by simpa using hi
    exact hQ a w hw h3
  | fuel + 1, listed, a, w, hw, h => by
    rw [show fuel + 1 + 1 + m = (fuel + 1 + m) + 1 by omega]
    exact ⟨fun h0 => absurd h0 h.1, fun i hi => wpOp_of_qOp hw (fun a' w' hw' => wpAny_of_mid hz hQ fuel _ a' w' hw') (h.2 i hi)⟩
theorem wpAnyM_first {z : Nat} {Q : Act → Prop} {i : Nat} {oi : Oper} {v : Value} (hz : Region.ready md ops (Lk ops.size z) = [z]) (hc : covB md ops z = true) (hiz : i < z) (hi : ops[i]? = some oi) (hsel : ∀ (j : Nat) (o : Oper) cs b, ops[j]? = some o → o.op ≠ .select cs b) :
    ∀ (fuel : Nat) (listed : Array Bool) (a : Act), Dn md ops listed →
      (∀ j oj, ops[j]? = some oj → j ≠ i → listed.getD j true = false → (∀ e ∈ oj.after, Region.binds md e = true → e.on ≠ i) → oi.apart ops oj = true) →
      i ∈ Region.ready md ops listed → YieldsIn P ops C oi v a →
      wpAnyM P md ops C z Q fuel (listed.setIfInBounds i true) (a.put oi.dst v) → wpAnyM P md ops C z Q (fuel + 1) listed a := by
  have hzn : ∀ listed : Array Bool, Dn md ops listed → i ∈ Region.ready md ops listed → z ∉ Region.ready md ops listed := fun listed hd hr hz => by
    have h1 := last_ready hc hd hz i hiz
    have h0 := (mem_ready.1 hr).1
    have hl : i < listed.size := by
      rcases Nat.lt_or_ge i listed.size with q | q
      · exact q
      · simp [Array.getElem?_eq_none q] at h1
    simp [hl] at h0 h1
    rw [h0] at h1
    cases h1
  intro fuel
  induction fuel with
  | zero =>
    intro listed a hd _ hr hy H
    refine ⟨fun h => (by rw [h] at hr; cases hr), fun j hj => ?_⟩
    by_cases hji : j = i
    · subst hji; exact hy.qOp hi H
    · exfalso
      have h1 := ready_mono hj hji
      rw [H.1, hz] at h1
      obtain rfl : j = z := by simpa using h1
      exact hzn listed hd hr hj
  | succ fuel ih =>
    intro listed a hd hfree hr hy H
    refine ⟨fun h => (by rw [h] at hr; cases hr), fun j hj => ?_⟩
    by_cases hji : j = i
    · subst hji; exact hy.qOp hi H
    · have h1 := H.2 j (ready_mono hj hji)
      obtain ⟨hjun, oj, hoj, hall⟩ := mem_ready.1 hj
      have hnot : ∀ e ∈ oj.after, Region.binds md e = true → e.on ≠ i := fun e he hb heq => by
        have h1 := hall e he hb
        have h0 := (mem_ready.1 hr).1
        rw [heq] at h1
        rcases Nat.lt_or_ge i listed.size with h' | h'
        · simp [h'] at h0 h1; rw [h0] at h1; cases h1
        · simp [Array.getElem?_eq_none h'] at h1
      have h2 := qOp_put hoj (hfree j oj hoj hji hjun hnot) (fun cs b => hsel i oi cs b hi) (fun cs b => hsel j oj cs b hoj) hy h1
      have hfree' : ∀ k ok, ops[k]? = some ok → k ≠ i → (listed.setIfInBounds j true).getD k true = false →
          (∀ e ∈ ok.after, Region.binds md e = true → e.on ≠ i) → oi.apart ops ok = true := fun k ok hk hki hun hno => by
        refine hfree k ok hk hki ?_ hno
        by_cases hjk : j = k
        · subst hjk; exact hjun
        · rw [getD_set_ne true hjk] at hun; exact hun
      refine qOp_mono (fun a' h3 => ih (listed.setIfInBounds j true) a' (hd.set hj) hfree' (ready_mono hr (Ne.symm hji)) h3.1 ?_) h2
      rw [Array.setIfInBounds_comm _ _ hji]
      exact h3.2
theorem wpAnyM_lex {z m : Nat} {Q : Act → Prop} (hz : Region.ready md ops (Lk ops.size z) = [z]) (hc : covB md ops z = true) (hs : Region.noSelect ops = true) (hzs : z < ops.size) : ∀ (l : List Oper) (k : Nat) (listed : Array Bool) (a : Act), k + l.length = z → (∀ j, j < l.length → l[j]? = ops[k + j]?) → Dn md ops listed →
    listed = Lk ops.size k → Region.lexFrom md ops (l.length + m) k listed = true → wpQuiet P ops C Q l a → wpAnyM P md ops C z Q l.length listed a ∧ Region.lexFrom md ops m z (Lk ops.size z) = true
  | [], k, listed, a, hk, _, hd, hb, hB, h => by
    simp only [List.length_nil, Nat.add_zero] at hk
    subst hk
    simp only [List.length_nil, Nat.zero_add] at hB
    exact ⟨⟨hb, h⟩, by rw [← hb]; exact hB⟩
  | o :: l, k, listed, a, hk, hl, hd, hb, hB, h => by
    have h0 : ops[k]? = some o := by simpa using (hl 0 (by simp)).symm
    simp only [List.length_cons] at hB hk
    rw [show l.length + 1 + m = (l.length + m) + 1 by omega, Region.lexFrom] at hB
    simp only [Bool.and_eq_true] at hB
    obtain ⟨⟨hr, hf⟩, hB'⟩ := hB
    have hr' : k ∈ Region.ready md ops listed := by simpa using hr
    have hst : qOp P ops C k (wpQuiet P ops C Q l) a := by unfold qOp; simp only [h0]; exact h
    obtain ⟨v, hy, hK⟩ := yieldsIn_of_qOp h0 hst
    have ih := wpAnyM_lex hz hc hs hzs l (k + 1) _ (a.put o.dst v) (by omega) (fun j hj => by have := hl (j + 1) (by simp; omega); simpa [Nat.add_assoc, Nat.add_comm 1 j] using this) (hd.set hr') (by rw [hb]; exact Lk_set _ _ (by omega)) hB' hK
    exact ⟨wpAnyM_first hz hc (by omega) h0 (Region.noSelect_spec hs) l.length listed a hd (Region.free_spec h0 hf) hr' hy ih.1, ih.2⟩
/-- the quiet ones, then the one that waits for them, then quiet ones again -/
theorem wp_region_mid {id : Nat} {Q : Exit → Act → World → Prop} {a : Act} {w : World} {L : List Oper} (z : Nat) (hm : P.follows .mixedOrders = true) (hB : Region.lexB .any L.toArray = true) (hc : covB .any L.toArray z = true) (hzs : z < L.length) (hz : Region.ready .any L.toArray (Lk L.length z) = [z]) (hC : C w.drew)
    (h : wpQuiet P L.toArray C (fun a' => ∀ w', C w' → wpOp P L.toArray Q z (fun a2 w2 => wpQuiet P L.toArray (fun w3 => ∃ n, w3 = w2.drewN n) (fun a3 => ∀ w3, (∃ n, w3 = w2.drewN n) → Q .normal a3 w3) (L.drop (z + 1)) a2) a' w') (L.take z) a) : (Code.region id L.toArray true).wp P Q a w := by
  simp only [Region.lexB, Bool.and_eq_true] at hB
  have hsz : L.toArray.size = L.length := by simp
  rw [hsz] at hB
  have hzz : Region.ready .any L.toArray (Lk L.toArray.size z) = [z] := by rw [hsz]; exact hz
  refine wp_region_any hm ?_
  rw [hsz]
  have hdn : Dn .any L.toArray (Array.replicate L.length false) := ⟨by simp, fun k ok hk hl => by
    have : k < L.length := by have := (Array.getElem?_eq_some_iff.1 hk).1; simpa using this
    simp [this] at hl⟩
  have hlen : (L.take z).length = z := by simp; omega
  have hlex := wpAnyM_lex (P := P) (C := C) (m := L.length - z) hzz hc hB.1 (by rw [hsz]; exact hzs) (L.take z) 0 _ a (by omega) (fun j hj => by rw [hlen] at hj; simp [hj]) hdn (by rw [hsz]; exact Lk_zero _) (by rw [hlen, show z + (L.length - z) = L.length by omega]; exact hB.2) h
  obtain ⟨h1, h2⟩ := hlex
  rw [hlen] at h1
  rw [show L.length - z = (L.length - z - 1) + 1 by omega, Region.lexFrom] at h2
  simp only [Bool.and_eq_true] at h2
  have h3 := wpAny_of_mid (m := L.length - z - 1) hzz (fun a' w' hw' hh => wpOp_mono (fun a2 w2 hq => ?_) (hh w' hw')) z _ a _ hC h1
  · rw [show z + 1 + (L.length - z - 1) = L.length by omega] at h3
    exact h3
  · refine wpAny_of_quiet (C := fun w3 => ∃ n, w3 = w2.drewN n) (Q := fun a3 => ∀ w3, (∃ n, w3 = w2.drewN n) → Q .normal a3 w3) (fun _ w3 hw3 hx => hx w3 hw3) _ _ _ _ ⟨0, rfl⟩ ?_
    have := wpAnyQ_lex (C := fun w3 => ∃ n, w3 = w2.drewN n) (md := .any) hB.1 (L.drop (z + 1)) (z + 1) _ a2 (fun j => by simp) (by rw [show (L.drop (z + 1)).length = L.length - z - 1 by simp; omega]; exact h2.2) hq
    rwa [show (L.drop (z + 1)).length = L.length - z - 1 by simp; omega] at this
end
theorem wp_region_mid_dn {P : Program} {id : Nat} {Q : Exit → Act → World → Prop} {a : Act} {w : World} {L : List Oper} (z : Nat) (hm : P.follows .mixedOrders = true) (hB : Region.lexB .any L.toArray = true) (hc : covB .any L.toArray z = true) (hzs : z < L.length) (hz : Region.ready .any L.toArray (Lk L.length z) = [z])
    (h : wpQuiet P L.toArray (fun w' => ∃ n, w' = w.drewN n) (fun a' => ∀ w', (∃ n, w' = w.drewN n) → wpOp P L.toArray Q z (fun a2 w2 => wpQuiet P L.toArray (fun w3 => ∃ n, w3 = w2.drewN n) (fun a3 => ∀ w3, (∃ n, w3 = w2.drewN n) → Q .normal a3 w3) (L.drop (z + 1)) a2) a' w') (L.take z) a) : (Code.region id L.toArray true).wp P Q a w :=
  wp_region_mid (C := fun w' => ∃ n, w' = w.drewN n) z hm hB hc hzs hz ⟨1, rfl⟩ h
end Go.Proofs.Ytekkjalfiogenaa
namespace Go.Proofs.Ytekkjalfiogenaa.C
open Go.RowKit
set_option linter.unusedVariables false
set_option maxRecDepth 100000

/-- entries as they are read in a memory of n frames from bs on -/
def rdmB (bs : Int) (n : Nat) (f : Nat → Int) (a : Int) : Int × Int := if bs ≤ a ∧ a + 8 ≤ bs + 4096 * n then (nu (fun j => f ((a - bs).toNat + j)) 8, 0) else (0, 3)
theorem c_Read8B (bs : Int) (w : World) (S : Nat → Prop) (p n : Nat) (f : Nat → Int) (h : Mem w S p bs n f) (a : Int) (a0 : 0 ≤ a) (a1 : a < 18446744073709551616) (v : Int) (ok : Bool) (hv : (rdmB bs n f a).1 = v) (ho : decide ((rdmB bs n f a).2 = 0) = ok) :
    Calls Try.prog 87 #[.pointer (some ⟨p, 0, none⟩), .int .u64 a, .int .i64 8] w fun e w' => e = .returned (.tuple #[.int .u64 v, .bool ok]) ∧ Below w.heap.size w w' := by
  subst hv ho
  by_cases q : bs ≤ a ∧ a + 8 ≤ bs + 4096 * n
  · have hr : rdmB bs n f a = (nu (fun j => f ((a - bs).toNat + j)) 8, 0) := by unfold rdmB; rw [if_pos q]
    rw [hr]
    exact c_Read w S p bs n f h (a - bs).toNat 8 (by omega) (by decide) a (by omega)
  · have hr : rdmB bs n f a = (0, 3) := by unfold rdmB; rw [if_neg q]
    rw [hr]
    exact (c_Read_bad w S p bs n f h a 8 a0 a1 (by decide) (by decide) (by simp [hasB]; omega)).mono fun e w' hh => ⟨hh.1, hh.2.below _⟩
theorem c_loadWB (bs : Int) (w : World) (b : Nat) (ty : TypeId) (tail : List Value) (p : Nat) (addr table level wrong leaf : Int) (h : WK w b ty tail p addr table level wrong leaf)
    (S : Nat → Prop) (n : Nat) (f : Nat → Int) (hm : Mem w S p bs n f) (a : Int) (a0 : 0 ≤ a) (a1 : a < 18446744073709551616) :
    Calls Try.prog 112 #[.pointer (some ⟨b, 0, none⟩), .int .u64 a] w fun e w' => e = .returned (.tuple #[.int .u64 (rdmB bs n f a).1, .int .i64 (rdmB bs n f a).2]) ∧ Below w.heap.size w w' := by
  have c0 := h.c0
  have HM := hid hm
  clear h hm
  go_enter Try.func112, Try.ntmps112
  by_cases q : bs ≤ a ∧ a + 8 ≤ bs + 4096 * n
  · have hr : rdmB bs n f a = (nu (fun j => f ((a - bs).toNat + j)) 8, 0) := by unfold rdmB; rw [if_pos q]
    go_wp2_with (go_at_call 87; refine (c_Read8B bs w S p n f HM.out a a0 a1 (rdmB bs n f a).1 true rfl (by rw [hr]; rfl)).mono ?_; rintro e w1 ⟨rfl, hb⟩; have HB := hid hb; clear hb)
    go_ret2
    rw [hr]
    exact ⟨rfl, HB.out⟩
  · have hr : rdmB bs n f a = (0, 3) := by unfold rdmB; rw [if_neg q]
    go_wp2_with (go_at_call 87; refine (c_Read8B bs w S p n f HM.out a a0 a1 (rdmB bs n f a).1 false rfl (by rw [hr]; rfl)).mono ?_; rintro e w1 ⟨rfl, hb⟩; have HB := hid hb; clear hb)
    go_ret2
    rw [hr]
    exact ⟨rfl, HB.out⟩
theorem rdmB_ok (bs : Int) (n : Nat) (f : Nat → Int) (hf : ∀ j, 0 ≤ f j ∧ f j < 256) : RdOk (rdmB bs n f) := by
  intro a
  unfold rdmB
  split
  · have := nu_lt (fun j => f ((a - bs).toNat + j)) (fun j => hf _) 8
    exact ⟨⟨this.1, this.2⟩, .inl rfl⟩
  · exact ⟨⟨by decide, by decide⟩, .inr (.inr rfl)⟩
set_option maxRecDepth 100000 in
theorem c_find2B (bs : Int) (w : World) (S : Nat → Prop) (p n : Nat) (f : Nat → Int) (hm : Mem w S p bs n f) (b : Nat) (addr root acc : Int) (a0 : 0 ≤ addr) (a1 : addr < 549755813888) (s0 : 0 ≤ root) (s1 : root < 18446744073709551616)
    (h : WK w b 171 [] p addr root 0 2 0) :
    Calls Try.prog 101 #[.pointer (some ⟨b, 0, none⟩), .int .i64 acc] w fun r w' => r = .returned (.int .i64 (fd2 (D (rdmB bs n f) addr 2 2 root) acc)) ∧
      WK w' b 171 [] p addr (D (rdmB bs n f) addr 2 2 root).table (D (rdmB bs n f) addr 2 2 root).level 2 (D (rdmB bs n f) addr 2 2 root).leaf ∧ Only (· = b) w w' := by
  have c1 := h.c1
  have HM := hid hm
  have HW := hid h
  have hnS : ¬ S b := hm.typ h (by decide) (by decide) (by decide)
  have hRd := rdmB_ok bs n f hm.byt
  have hq := D_ok hRd addr 2 2 root (by decide) s0 s1
  obtain ⟨r, hr⟩ : ∃ r, D (rdmB bs n f) addr 2 2 root = r := ⟨_, rfl⟩
  have HR := hid hr
  rw [hr]
  rw [hr] at hq
  have HQ := hid hq
  have hd : addr / 549755813888 = 0 := by omega
  clear h hm hr hq
  go_enter Try.func101, Try.ntmps101
  go_wp2_with fail
  go_region_law (refine step_call rfl 111 (.tmp 20) (.tmp 24) _ _ rfl (.pointer (some ⟨b, 0, none⟩)) (.func (.func 112) #[.pointer (some ⟨b, 0, none⟩)] #[]) (by go_simp) (by go_simp) (Try.call111 _ _) (c_down2 w.drew b 171 [] p addr root 0 2 a0 (by omega) s0 s1 HW.out (rdmB bs n f) (fun a => (hRd a).1) (fun w1 t k hw1 ho1 a q0 q1 => c_loadWB bs w1 b 171 [] p addr t k 2 0 hw1 S n f (HM.out.only (T := (· = b)) ((Only.refl w).drew.trans ho1) (fun j hj q => hnS (q ▸ hj))) a q0 q1)) ?_; rintro e w1 ⟨rfl, hw1, ho1⟩; rw [HR.out] at hw1; rw [HR.out]; have HW1 := hid hw1; have HO1 : Hid (Only (· = b) w w1) := (Only.refl w).drew.trans ho1; have c4 := hw1.c4; clear hw1 ho1; refine ⟨_, rfl, ?_⟩)
  go_wp2_with (first
    | (go_at_call 113; refine (c_allows2 w1 b _ _ p _ _ _ _ _ acc HW1.out HQ.out.leaf0 (by have := HQ.out.leaf1; omega)).mono ?_; rintro e w2 ⟨rfl, hw2⟩; obtain rfl := hw2.symm))
  · go_ret
    have g := ‹(r.fault != 0) = true›
    exact ⟨ret_int (by unfold fd2; rw [if_pos (by simpa using g)]), HW1.out, HO1.out⟩
  · go_ret
    have g := ‹(r.fault != 0) = false›
    have g2 := ‹(!al r.leaf acc) = true›
    exact ⟨ret_int (by unfold fd2; rw [if_neg (by simpa using g), if_neg (by simpa using g2)]), HW1.out, HO1.out⟩
  · go_ret
    have g := ‹(r.fault != 0) = false›
    have g2 := ‹(!al r.leaf acc) = false›
    exact ⟨ret_int (by unfold fd2; rw [if_neg (by simpa using g), if_pos (by simpa using g2)]), HW1.out, HO1.out⟩
set_option maxRecDepth 100000 in
theorem c_SecondB (bs : Int) (w : World) (S : Nat → Prop) (p n : Nat) (f : Nat → Int) (hm : Mem w S p bs n f) (root gpa acc : Int) (s0 : 0 ≤ root) (s1 : root < 18446744073709551616) (a0 : 0 ≤ gpa) (a1 : gpa < 18446744073709551616) (h0 : ¬ root = 0) (x y z : Int) (hg : gst (rdmB bs n f) root gpa acc = (x, y, z)) :
    Calls Try.prog 72 #[.pointer (some ⟨p, 0, none⟩), .int .u64 root, .int .u64 gpa, .int .i64 acc] w fun r w' => r = .returned (.tuple #[.int .u64 x, .int .i64 y, .int .i64 z]) ∧ Below w.heap.size w w' := by
  have HM := hid hm
  have hRd := rdmB_ok bs n f hm.byt
  clear hm
  unfold gst at hg
  go_enter Try.func72, Try.ntmps72
  rw [if_neg h0] at hg
  by_cases h1 : 549755813888 ≤ gpa
  · rw [if_pos h1] at hg
    cases hg
    go_wp2_with (first
      | (go_at_call 100; refine (c_newSecond _ p root gpa).mono ?_; rintro e w1 ⟨rfl, hb1⟩; have HB1 := hid hb1; clear hb1)
      | (go_at_call 101; refine (c_find2_high _ p _ gpa root acc h1 a1 (heap_alloc_new w1 _)).mono ?_; rintro e w2 ⟨rfl, hw2⟩; obtain rfl := hw2.symm))
    go_ret3
    exact ⟨rfl, HB1.out.alloc HB1.out.size _⟩
  · rw [if_neg h1] at hg
    have hq := D_ok hRd gpa 2 2 root (by decide) s0 s1
    obtain ⟨r, hr⟩ : ∃ r, D (rdmB bs n f) gpa 2 2 root = r := ⟨_, rfl⟩
    rw [hr] at hg hq
    have HR := hid hr
    have HQ := hid hq
    have HG := hid hg
    have HF : Hid (fd2 r acc = z ∧ (z ≠ 0 → x = 0 ∧ y = 0) ∧ (z = 0 → x = plc r gpa ∧ y = pm r.leaf)) := by
      show _ ∧ _
      by_cases g1 : r.fault = 0
      · rw [if_neg (by rw [g1]; decide)] at hg
        cases g2 : al r.leaf acc
        · rw [g2, if_neg (by decide)] at hg
          cases hg
          exact ⟨by unfold fd2; rw [if_neg (by rw [g1]; decide), g2, if_neg (by decide)], fun _ => ⟨rfl, rfl⟩, fun q => absurd q (by decide)⟩
        · rw [g2, if_pos rfl] at hg
          cases hg
          exact ⟨by unfold fd2; rw [if_neg (by rw [g1]; decide), g2, if_pos rfl], fun q => absurd rfl q, fun _ => ⟨rfl, rfl⟩⟩
      · rw [if_pos g1] at hg
        cases hg
        exact ⟨by unfold fd2; rw [if_pos g1], fun _ => ⟨rfl, rfl⟩, fun q => absurd q g1⟩
    clear hr hq hg
    by_cases hz : z = 0
    · subst hz
      go_wp2_with (first
        | (go_at_call 100; refine (c_newSecond _ p root gpa).mono ?_; rintro e w1 ⟨rfl, hb1⟩; have HB1 := hid hb1; clear hb1)
        | (go_at_call 101; refine (c_find2B bs _ S p n f (Mem.below (Mem.below HM.out HB1.out) ((Below.refl _ _).alloc (Nat.le_refl _) _)) w1.heap.size gpa root acc a0 (by omega) s0 s1 (heap_alloc_new w1 _)).mono ?_; rintro e w2 ⟨rfl, hw2, ho2⟩; rw [HR.out] at hw2; rw [HR.out, HF.out.1]; have c5 := hw2.c5; have HW2 := hid hw2; have HO2 := hid ho2; clear hw2 ho2))
      go_quiet (first
        | (go_at_call 102; exact Calls.quiet_of (c_place4 _ _ _ _ p gpa _ _ _ _ HQ.out.lev (HW2.out.drewN _) HQ.out.leaf0 HQ.out.leaf1 a0 a1))
        | (go_at_call 103; exact Calls.quiet_of_same (c_perm r.leaf HQ.out.leaf0 (by have := HQ.out.leaf1; omega) _)))
      go_wp2
      go_ret3
      obtain ⟨rfl, rfl⟩ := HF.out.2.2 trivial
      exact ⟨rfl, (HB1.out.alloc HB1.out.size _).trans ((HO2.out.drewN _).below _ (by have := HB1.out.size; simp; omega) (by rintro k rfl; exact HB1.out.size))⟩
    · go_wp2_with (first
        | (go_at_call 100; refine (c_newSecond _ p root gpa).mono ?_; rintro e w1 ⟨rfl, hb1⟩; have HB1 := hid hb1; clear hb1)
        | (go_at_call 101; refine (c_find2B bs _ S p n f (Mem.below (Mem.below HM.out HB1.out) ((Below.refl _ _).alloc (Nat.le_refl _) _)) w1.heap.size gpa root acc a0 (by omega) s0 s1 (heap_alloc_new w1 _)).mono ?_; rintro e w2 ⟨rfl, hw2, ho2⟩; rw [HR.out, HF.out.1]; have HO2 := hid ho2; clear hw2 ho2))
      go_ret3
      obtain ⟨rfl, rfl⟩ := HF.out.2.1 hz
      exact ⟨rfl, (HB1.out.alloc HB1.out.size _).trans (HO2.out.below _ (by have := HB1.out.size; simp; omega) (by rintro k rfl; exact HB1.out.size))⟩
theorem c_GuestB (bs : Int) (w : World) (S : Nat → Prop) (p n : Nat) (f : Nat → Int) (hm : Mem w S p bs n f) (root gpa acc : Int) (s0 : 0 ≤ root) (s1 : root < 18446744073709551616) (a0 : 0 ≤ gpa) (a1 : gpa < 18446744073709551616) (x y z : Int) (hg : gst (rdmB bs n f) root gpa acc = (x, y, z)) :
    Calls Try.prog 23 #[.pointer (some ⟨p, 0, none⟩), .int .u64 root, .int .u64 gpa, .int .i64 acc] w fun r w' => r = .returned (.tuple #[.int .u64 x, .int .i64 y, .int .i64 z]) ∧ Below w.heap.size w w' := by
  have HM := hid hm
  clear hm
  go_enter Try.func23, Try.ntmps23
  by_cases h0 : root = 0
  · unfold gst at hg
    rw [if_pos h0] at hg
    cases hg
    go_wp2
    go_ret3
    exact ⟨rfl, Below.refl _ _⟩
  · have HG := hid hg
    clear hg
    go_wp2_with (first
      | (go_at_call 72; refine (c_SecondB bs _ S p n f HM.out root gpa acc s0 s1 a0 a1 h0 x y z HG.out).mono ?_; rintro e w1 ⟨rfl, hb1⟩; have HB1 := hid hb1; clear hb1))
    go_ret3
    exact ⟨rfl, HB1.out⟩
end Go.Proofs.Ytekkjalfiogenaa.C
