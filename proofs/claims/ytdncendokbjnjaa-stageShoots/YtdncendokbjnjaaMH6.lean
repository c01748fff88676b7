/- The law's awake: a page that is mapped. -/
import Derived.Test.YtdncendokbjnjaaSN
import Derived.Test.YtdncendokbjnjaaMC2
import Derived.Deep.Slices
import Derived.Test.YtdncendokbjnjaaRows
import Derived.OpenShut
import Derived.SizedLaws
namespace Go.Proofs.Ytdncendokbjnjaa
open Go.RowKit
open C (Only hid Mem RMem Still ret_bool ret_int put byt rd8 lo and_lo nu c_Place)
set_option linter.unusedVariables false
set_option maxRecDepth 100000

theorem up1_pg (x : TX) (p : Nat) : (x.up1 p).s.pp = x.s.pp ∧ (x.up1 p).s.pf = x.s.pf ∧ (x.up1 p).s.r = x.s.r ∧ (x.up1 p).v.n = x.v.n ∧ (x.up1 p).v.b = x.v.b ∧ (x.up1 p).v.m = x.v.m ∧ (x.up1 p).v.r = x.v.r ∧ (x.up1 p).v.h = x.v.h ∧ (x.up1 p).v.s = x.v.s := by
  unfold TX.up1; split <;> exact ⟨rfl, rfl, rfl, rfl, rfl, rfl, rfl, rfl, rfl⟩
theorem up0_pg (x : TX) (p : Nat) : (x.up0 p).s.pp = x.s.pp ∧ (x.up0 p).s.pf = x.s.pf ∧ (x.up0 p).s.r = x.s.r ∧ (x.up0 p).v.n = x.v.n ∧ (x.up0 p).v.b = x.v.b ∧ (x.up0 p).v.m = x.v.m ∧ (x.up0 p).v.r = x.v.r ∧ (x.up0 p).v.h = x.v.h ∧ (x.up0 p).v.s = x.v.s := by
  unfold TX.up0; split <;> exact ⟨rfl, rfl, rfl, rfl, rfl, rfl, rfl, rfl, rfl⟩
theorem map_pp (x : TX) (p fr pm : Nat) : (x.map p fr pm).s.pp = upd x.s.pp p pm ∧ (x.map p fr pm).s.pf = upd x.s.pf p fr := by
  have h1 := up1_pg x p
  have h0 := up0_pg (x.up1 p) p
  unfold TX.map TX.lf SV.leaf
  show upd ((x.up1 p).up0 p).s.pp p pm = _ ∧ upd ((x.up1 p).up0 p).s.pf p fr = _
  rw [h0.1, h1.1, h0.2.1, h1.2.1]
  exact ⟨rfl, rfl⟩
theorem map_v (x : TX) (p fr pm : Nat) : (x.map p fr pm).v.n = x.v.n ∧ (x.map p fr pm).v.b = x.v.b ∧ (x.map p fr pm).v.m = x.v.m ∧ (x.map p fr pm).v.r = x.v.r ∧ (x.map p fr pm).v.h = x.v.h ∧ (x.map p fr pm).v.s = x.v.s ∧ (x.map p fr pm).s.r = x.s.r := by
  have h1 := up1_pg x p
  have h0 := up0_pg (x.up1 p) p
  show ((x.up1 p).up0 p).v.n = _ ∧ ((x.up1 p).up0 p).v.b = _ ∧ ((x.up1 p).up0 p).v.m = _ ∧ ((x.up1 p).up0 p).v.r = _ ∧ ((x.up1 p).up0 p).v.h = _ ∧ ((x.up1 p).up0 p).v.s = _ ∧ ((x.up1 p).up0 p).s.r = _
  rw [h0.2.2.2.1, h1.2.2.2.1, h0.2.2.2.2.1, h1.2.2.2.2.1, h0.2.2.2.2.2.1, h1.2.2.2.2.2.1, h0.2.2.2.2.2.2.1, h1.2.2.2.2.2.2.1, h0.2.2.2.2.2.2.2.1, h1.2.2.2.2.2.2.2.1, h0.2.2.2.2.2.2.2.2, h1.2.2.2.2.2.2.2.2, h0.2.2.1, h1.2.2.1]
  exact ⟨rfl, rfl, rfl, rfl, rfl, rfl, rfl⟩
theorem map_len (x : TX) (p fr pm : Nat) (h1 : x.s.k1 (p / 262144) = 0) (h0 : x.s.k0 (p / 512) = 0) : (x.map p fr pm).s.l.length = x.s.l.length + 2 := by
  unfold TX.map
  rw [TX.up1_yes h1]
  rw [TX.up0_yes (x := ⟨x.s.add1 (p / 262144) (ff x.v.o x.v.n), x.v.own (ff x.v.o x.v.n) (-1), w8 (clr x.f (ff x.v.o x.v.n)) (4096 * x.s.r + 8 * (p / 262144)) (tE x.v.b (ff x.v.o x.v.n))⟩) (show (x.s.add1 _ _).k0 _ = 0 from h0)]
  show ((x.s.l ++ [_]) ++ [_]).length = _
  simp
theorem own_sliceS {w : World} {base : Nat} {e : TypeId} {size : Nat} {v : Value} {n : Nat} {xs : List Value} (h : w.ownsRow base e size v n xs) : ∃ ad c, v = .slice ad n c ∧ ∀ a, ad = some a → base ≤ a.block := by
  rcases h.2 with ⟨h1, h2⟩ | ⟨g, cap, cur, h1, h2, h3, h4⟩
  · exact ⟨none, 0, by rw [h1, h2], fun a q => by cases q⟩
  · exact ⟨_, cap, h1, fun a q => by cases q; exact h2⟩
theorem wpL_storePg {ops : Array Oper} {rest : List Oper} {d : Option Nat} {ty : TypeId} {x y : Operand} {pos : String} {after : Array Edge} {Q : Exit → Act → World → Prop} {a : Act} {w : World} (g : Nat) (hx : a.eval x = .pointer (some ⟨g, 0, none⟩)) (c0 c1 c2 : Int) (hy : a.eval y = .agg #[.int .u64 c0, .int .i64 c1, .int .i64 c2]) (z0 z1 z2 : Value)
    (hg : w.heap[g]? = some (.cells #[z0, z1, z2] 41 (0, 0))) (hK : wpList Try.prog ops Q rest (a.put d undef) (w.setRow g #[.int .u64 c0, .int .i64 c1, .int .i64 c2])) :
    wpList Try.prog ops Q ({ dst := d, op := Op.store 41 x y, type := ty, pos := pos, after := after, guard := none } :: rest) a w :=
  wpList_store_row rfl 41 x y rfl g _ hx hy 41 _ hg s_page rfl (by rw [Array.all_eq_true_iff_forall_mem]; intro v hv; simp at hv; rcases hv with rfl | rfl | rfl <;> rfl) hK
theorem stood_page : Try.prog.stoodInHeld 41 = false := by kernel_rfl
theorem run_eqPg (a b c : Int) (w : World) : (Op.equalIn 10000 41 (.agg #[.int .u64 a, .int .i64 b, .int .i64 c]) (.agg #[.int .u64 a, .int .i64 b, .int .i64 c])).run Try.prog w = .ok true w := by
  rw [run_equalIn_struct w 9999 41 _ _ u_page stood_page]
  go_simp
theorem aw_cnt (m : Nat) : cnt ((v0 m 0 1 2 12).own 1 (-1)).o 0 12 = 10 := by kernel_rfl
theorem aw_cnt9 (m : Nat) : cnt ((v0 m 0 1 2 12).own 1 (-1)).o 0 9 = 7 := by kernel_rfl
set_option maxHeartbeats 2000000 in
theorem l_awake10 (w : World) : Calls Try.prog 8 #[] w fun r w' => r = .returned (.bool true) ∧ Below w.heap.size w w' := by
  have hN := l_New10 w w (Below.refl _ _) 0 8 1 (by decide) (by decide) (by decide) (by decide) rfl 12 (by decide) 0 (by decide)
  go_enter Try.func8, Try.ntmps8
  go_upto_region 2 with (go_at_call 7; refine hN.mono ?_; rintro r w1 ⟨q, qd, p, pd, m, dm, F, u, G, ud, rfl, h1⟩; have H1 := hid h1; unfold onv; clear h1)
  obtain ⟨wa, hwa⟩ : ∃ wa, wa = w1.alloc (.cells #[.pointer (some ⟨q, 0, none⟩), .pointer (some ⟨qd, 0, none⟩), .pointer (some ⟨p, 0, none⟩), .pointer (some ⟨pd, 0, none⟩), .pointer (some ⟨m, 0, none⟩), .pointer (some ⟨dm, 0, none⟩)] 33) := ⟨_, rfl⟩
  have HB : Hid (Below w1.heap.size w1 wa) := hwa ▸ (Below.refl _ _).alloc (Nat.le_refl _) _
  have HA : Hid (wa.heap[w1.heap.size]? = some (.cells #[.pointer (some ⟨q, 0, none⟩), .pointer (some ⟨qd, 0, none⟩), .pointer (some ⟨p, 0, none⟩), .pointer (some ⟨pd, 0, none⟩), .pointer (some ⟨m, 0, none⟩), .pointer (some ⟨dm, 0, none⟩)] 33 (0, 0))) := hwa ▸ heap_alloc_new w1 _
  rw [← hwa]
  clear hwa hN
  have H2 := hid (H1.out.below HB.out)
  have c0 : wa.cell? ⟨w1.heap.size, 0, none⟩ = some (.pointer (some ⟨q, 0, none⟩)) := cell_of_row wa _ 0 _ _ _ HA.out
  have hM := x_Map wa F u q p (s0 1) ((v0 m 0 1 2 12).own 1 (-1)) (clr (fun _ => 0) 1) 1 H2.out.sp 524288 9 6 (by decide) (show 9 < 12 by decide) (.inr (.inl rfl)) rfl (by show dnL (s0 1) 524288 ≤ cnt _ 0 12; rw [aw_cnt]; decide) (fun a ha => absurd rfl ha) (.inr ⟨rfl, show 9 ≤ 12 by decide, by rw [aw_cnt9]; decide⟩)
  have hpp := map_pp ⟨s0 1, (v0 m 0 1 2 12).own 1 (-1), clr (fun _ => 0) 1⟩ 524288 9 6
  have hln := map_len ⟨s0 1, (v0 m 0 1 2 12).own 1 (-1), clr (fun _ => 0) 1⟩ 524288 9 6 rfl rfl
  have hpn : Hid (∀ k, Ar F u q k → k ≠ w1.heap.size) := fun k hk e => by have := H1.out.sp.lt hk; omega
  generalize TX.map ⟨s0 1, (v0 m 0 1 2 12).own 1 (-1), clr (fun _ => 0) 1⟩ 524288 9 6 = X at hM hpp hln
  have HPP : Hid (X.s.pp 524288 = 6 ∧ X.s.pf 524288 = 9) := by rw [hpp.1, hpp.2]; exact ⟨upd_same _ _ _, upd_same _ _ _⟩
  have HLN : Hid (X.s.l.length = 3) := hln
  clear hpp hln
  have hM' : Calls Try.prog 17 #[.pointer (some ⟨q, 0, none⟩), .int .u64 524288, .int .i64 9, .int .i64 6] wa fun r w' => r = .returned (.int .i64 0) ∧ ∃ F' u', SPs w' F' u' q p X.s X.v X.f 1 ∧ Only (Ar F u q) wa w' ∧ ∀ k, Ar F' u' q k → Ar F u q k ∨ wa.heap.size ≤ k := hM
  clear hM
  go_upto_region 4 with (go_at_call 17; refine hM'.mono ?_; rintro r w2 ⟨rfl, F', u', h1, h2, h3⟩; have H3 := hid h1; have H4 := hid h2; have H5 := hid h3; have HA2 := hid (h2.old HA.out fun z => hpn.out _ z rfl); clear h1 h2 h3)
  clear hM'
  have c1 : w2.cell? ⟨w1.heap.size, 0, none⟩ = some (.pointer (some ⟨q, 0, none⟩)) := cell_of_row w2 _ 0 _ _ _ HA2.out
  have hF := r_Find_yes w2 F' u' q p X.s X.v X.f 1 H3.out 524288 (by rw [HPP.out.1]; decide)
  rw [HPP.out.1, HPP.out.2] at hF
  have hF' : Calls Try.prog 11 #[.pointer (some ⟨q, 0, none⟩), .int .u64 524288] w2 fun r w' => r = .returned (.tuple #[.agg #[.int .u64 524288, .int .i64 9, .int .i64 6], .bool true]) ∧ Below w2.heap.size w2 w' := hF
  clear hF
  go_upto_region 5 with (go_at_call 11; refine hF'.mono ?_; rintro r w3 ⟨rfl, h1⟩; have H6 := hid h1; clear h1)
  obtain ⟨wb, hwb⟩ : ∃ wb, wb = w3.alloc (.cells #[.int .u64 524288, .int .i64 9, .int .i64 6] 41) := ⟨_, rfl⟩
  have HBb : Hid (Below w2.heap.size w2 wb) := hwb ▸ H6.out.alloc H6.out.size _
  have HPb : Hid (wb.heap[w3.heap.size]? = some (.cells #[.int .u64 524288, .int .i64 9, .int .i64 6] 41 (0, 0))) := hwb ▸ heap_alloc_new w3 _
  rw [← hwb]
  clear hwb hF' c1
  have p0 : wb.cell? ⟨w3.heap.size, 0, none⟩ = some (.int .u64 524288) := cell_of_row wb _ 0 _ _ _ HPb.out
  have p1 : wb.cell? ⟨w3.heap.size, 1, none⟩ = some (.int .i64 9) := cell_of_row wb _ 1 _ _ _ HPb.out
  have p2 : wb.cell? ⟨w3.heap.size, 2, none⟩ = some (.int .i64 6) := cell_of_row wb _ 2 _ _ _ HPb.out
  have HAb : Hid (wb.heap[w1.heap.size]? = some (.cells #[.pointer (some ⟨q, 0, none⟩), .pointer (some ⟨qd, 0, none⟩), .pointer (some ⟨p, 0, none⟩), .pointer (some ⟨pd, 0, none⟩), .pointer (some ⟨m, 0, none⟩), .pointer (some ⟨dm, 0, none⟩)] 33 (0, 0))) := (HBb.out.block _ (lt_of_block HA2.out)).trans HA2.out
  have c1 : wb.cell? ⟨w1.heap.size, 0, none⟩ = some (.pointer (some ⟨q, 0, none⟩)) := cell_of_row wb _ 0 _ _ _ HAb.out
  have heq := run_eqPg 524288 9 6
  have H7 := hid (H3.out.below HBb.out)
  have hW := x_Write wb F' u' q p X.s X.v X.f 1 H7.out 2147483664 (by decide) (by decide) 8 rfl 5 (by decide) (by decide) (fun j hj => by
    have e : ((2147483664 : Int).toNat + j) / 4096 = 524288 := by omega
    rw [e]
    unfold pgOk
    rw [HPP.out.1]
    rfl)
  have hW' : Calls Try.prog 20 #[.pointer (some ⟨q, 0, none⟩), .int .u64 2147483664, .int .i64 8, .int .u64 5] wb fun r w' => r = .returned (.bool true) ∧ ∃ F2, SPs w' F2 u' q p X.s X.v (wG X.s X.f (2147483664 : Int).toNat 5 8) 1 ∧ Only F' wb w' ∧ ∀ k, F2 k → F' k ∨ wb.heap.size ≤ k := hW
  clear hW
  generalize wG X.s X.f (2147483664 : Int).toNat 5 8 = fx at hW'
  go_wp2_with (first
    | (go_at_call 20; refine hW'.mono ?_; rintro r w4 ⟨rfl, F2, h1, h2, h3⟩; have H8 := hid h1; have H9 := hid h2; have c2 : w4.cell? ⟨w1.heap.size, 0, none⟩ = some (.pointer (some ⟨q, 0, none⟩)) := cell_of_row w4 _ 0 _ _ _ (h2.old HAb.out (H7.out.pl.ne HAb.out rfl)); have hT := x_Tables w4 F2 u' q p X.s X.v fx 1 h1; rw [HLN.out] at hT; clear h1 h2 h3)
    | (go_at_call 22; refine hT.mono ?_; rintro r w5 ⟨x, rfl, h1, h2⟩; obtain ⟨ad, cp, rfl, -⟩ := own_sliceS h1; have H10 := hid h2; clear h1 h2))
  go_ret
  have z1 := H1.out.new.size
  have za := HB.out.size
  have z2 := H4.out.size
  have z3 := HBb.out.size
  have z4 := H9.out.size
  refine ⟨rfl, H1.out.new.trans ((HB.out.mono z1).trans ((H4.out.below _ (by omega) fun k hk => H1.out.own k (.inl hk)).trans ((HBb.out.mono (by omega)).trans ((H9.out.below _ (by omega) fun k hk => ?_).trans (H10.out.mono (by omega))))))⟩
  exact (H5.out k (.inl hk)).elim (fun z => H1.out.own k (.inl z)) fun z => by omega
end Go.Proofs.Ytdncendokbjnjaa
namespace Go.Proofs.Ytdncendokbjnjaa
open Go.ChangeShapes Go.WideShapes Go.ChangeAt Go.RowKit Go.Deep
set_option linter.unusedVariables false

structure Nu (w : World) (ad : Option Addr) (la cap ab ao : Nat) (A : Nat → Int) : Prop where
  len : la ≤ cap
  cap : cap ≤ 9223372036854775807
  at0 : 0 < la → ad = some ⟨ab, ao, none⟩ ∧ ab < w.heap.size
  cell : ∀ i, i < la → w.cell? ⟨ab, ao + i, none⟩ = some (.int .i64 (A i))
  num : ∀ i, -9223372036854775808 ≤ A i ∧ A i ≤ 9223372036854775807
theorem Nu.below {w w' : World} {ad : Option Addr} {la cap ab ao : Nat} {A : Nat → Int} (h : Nu w ad la cap ab ao A) (hb : Below w.heap.size w w') : Nu w' ad la cap ab ao A :=
  ⟨h.len, h.cap, fun q => ⟨(h.at0 q).1, Nat.lt_of_lt_of_le (h.at0 q).2 hb.size⟩, fun i hi => by
    have hlt := (h.at0 (by omega)).2
    rw [World.cell?_of_block (w := w) (hb.block _ hlt)]; exact h.cell i hi, h.num⟩
theorem cells_i8' : Try.prog.cellsOf 3 = 1 := by kernel_rfl
set_option maxRecDepth 100000 in
theorem open_ints7 {H : Type} {enc : TypeId × Value → H} {W : World} {base : Nat} {r : Reach} {b : Nat} {v : Value} {d : DataW H} {p : List MemPlace}
    (hv : Value.okWide Try.prog W r b 58 v) (h : DataW.Trod enc Try.prog W base (fun _ => true) true 58 v d p) (hlt : ∀ x ∈ p, x.block < W.heap.size) :
    ∃ (ad : Option Addr) (la cap ab ao : Nat) (A : Nat → Int), v = .slice ad la cap ∧ Nu W ad la cap ab ao A := by
  obtain ⟨ad, la, cap, ar, aa, rfl, hl, hm, hw, hc⟩ := C.open_nums Try.underlying58 Try.underlying3 cells_i8' hv h hlt
  obtain ⟨ab, ao, asp⟩ := aa
  have hsp : 0 < la → asp = none := fun q => by
    have := (hc q).2.2 0 q
    simpa [Addr.add] using World.cell?_spot this
  refine ⟨ad, la, cap, ab, ao, ar, rfl, ⟨hl, hm, fun q => ?_, fun i hi => ?_, fun i => ?_⟩⟩
  · obtain rfl := hsp q
    exact ⟨(hc q).1, (hc q).2.1⟩
  · obtain rfl := hsp (by omega)
    have := (hc (by omega)).2.2 i hi
    rwa [C.addr_add] at this
  · rcases hw i with q | q
    · rw [q]; exact ⟨by decide, by decide⟩
    · exact bounds_i64 q
theorem u_sint9 : Try.prog.underlying 58 = some (.slice 3) := by kernel_rfl
theorem bytes_int9 : Try.prog.bytesOf 3 = 8 := by kernel_rfl
set_option maxRecDepth 100000 in
theorem ints_len {H : Type} {enc : TypeId × Value → H} {W : World} {base : Nat} {ad : Option Addr} {la cap : Nat} {d : DataW H} {p : List MemPlace} (h : DataW.Trod enc Try.prog W base (fun _ => true) true 58 (.slice ad la cap) d p) (hw : ∀ n ∈ d.weights Try.prog 58, n ≤ reachBytes) : la ≤ 17592186044416 := by
  obtain ⟨fuel, hf⟩ := h
  rcases open_slice u_sint9 hf with ⟨hcs, hx⟩ | ⟨a, len', cap', m, n, D, Pl, hcs, _, hl, hm, hmm, hx, hel⟩
  · simp [Value.cells] at hcs
    obtain ⟨rfl, rfl, rfl⟩ := hcs
    exact Nat.zero_le _
  · simp [Value.cells] at hcs
    obtain ⟨rfl, rfl, rfl⟩ := hcs
    simp only [Prod.mk.injEq] at hx
    obtain ⟨rfl, rfl⟩ := hx
    have h2 := hw ((((List.range la).map D).length + ((List.range (m - la)).map fun j => D (la + j)).length) * Try.prog.bytesOf 3) (by simp [DataW.weights])
    rw [bytes_int9] at h2
    simp [reachBytes] at h2
    omega
end Go.Proofs.Ytdncendokbjnjaa
namespace Go.Proofs.Ytdncendokbjnjaa
open Go.ChangeShapes Go.WideShapes Go.ChangeAt Go.RowKit Go.Deep
set_option linter.unusedVariables false

theorem cells_i8 : Try.prog.cellsOf 3 = 1 := by kernel_rfl
theorem cells_u8 : Try.prog.cellsOf 22 = 1 := by kernel_rfl
theorem addr_two (a : Addr) (i j : Nat) : (a.add i).add j = a.add (i + j) := by
  unfold Addr.add
  by_cases hi : i = 0
  · subst hi; simp
  · by_cases hj : j = 0
    · subst hj; simp
    · have : ¬ i + j = 0 := by omega
      simp [hi, hj, Nat.add_assoc]
theorem fld8 {T k : Nat} {t : TypeId} {o : Nat} (h : ((Try.prog.fieldsOf T)[k]?).map (fun f => (f.type, f.offset)) = some (t, o)) : ∃ f, (Try.prog.fieldsOf T)[k]? = some f ∧ f.type = t ∧ f.offset = o := by
  cases hq : (Try.prog.fieldsOf T)[k]? with
  | none => rw [hq] at h; cases h
  | some f => rw [hq] at h; simp at h; exact ⟨f, rfl, h.1, h.2⟩
structure ShoV where
  kind : Int
  hart : Int
  vmid : Int
  page : Int
def ShoV.cs (x : ShoV) : List Value := [.int .i64 x.kind, .int .i64 x.hart, .int .i64 x.vmid, .int .u64 x.page]
structure ShoB (x : ShoV) : Prop where
  kind : -9223372036854775808 ≤ x.kind ∧ x.kind ≤ 9223372036854775807
  hart : -9223372036854775808 ≤ x.hart ∧ x.hart ≤ 9223372036854775807
  vmid : -9223372036854775808 ≤ x.vmid ∧ x.vmid ≤ 9223372036854775807
  page : 0 ≤ x.page ∧ x.page < 18446744073709551616
structure Shc (w : World) (ad : Option Addr) (la cap ab ao : Nat) (X : Nat → ShoV) : Prop where
  len : la ≤ cap
  cap : cap ≤ 9223372036854775807
  at0 : 0 < la → ad = some ⟨ab, ao, none⟩ ∧ ab < w.heap.size
  cell : ∀ i, i < la → ∀ j, j < 4 → w.cell? ⟨ab, ao + i * 4 + j, none⟩ = (X i).cs[j]?
  num : ∀ i, i < la → ShoB (X i)
theorem Shc.below {w w' : World} {ad : Option Addr} {la cap ab ao : Nat} {X : Nat → ShoV} (h : Shc w ad la cap ab ao X) (hb : Below w.heap.size w w') : Shc w' ad la cap ab ao X :=
  ⟨h.len, h.cap, fun q => ⟨(h.at0 q).1, Nat.lt_of_lt_of_le (h.at0 q).2 hb.size⟩, fun i hi j hj => by
    have hlt := (h.at0 (by omega)).2
    have e : ∀ o, w'.cell? ⟨ab, o, none⟩ = w.cell? ⟨ab, o, none⟩ := fun o => World.cell?_of_block (w := w) (hb.block _ hlt)
    rw [e]; exact h.cell i hi j hj, h.num⟩
theorem under_sho : Try.prog.underlying 86 = some (.struct (Try.prog.fieldsOf 86)) := by kernel_rfl
theorem cells_sho : Try.prog.cellsOf 86 = 4 := by kernel_rfl
theorem u_sShot : Try.prog.underlying 70 = some (.slice 86) := by kernel_rfl
set_option maxRecDepth 100000 in
theorem open_sho {H : Type} {enc : TypeId × Value → H} {W : World} {base fuel : Nat} {cs : List Value} {x : DataW H × List MemPlace} (h : DataW.trod enc Try.prog W base (fun _ => true) true fuel 86 cs = some x) :
    ∃ X : ShoV, cs = X.cs ∧ ShoB X := by
  obtain ⟨xs, n, _, rfl, hcl, hlen, hfs⟩ := DataW.trod_struct under_sho h
  have hl : xs.length = 4 := by rw [hlen]; kernel_rfl
  rw [cells_sho] at hcl
  obtain ⟨f0, e0, t0, o0⟩ := fld8 (T := 86) (k := 0) (t := 3) (o := 0) (by kernel_rfl)
  have q0 := hfs 0 f0 e0
  rw [t0, o0, cells_i8, List.getElem?_eq_getElem (by omega)] at q0
  obtain ⟨z0, r0, _, w0⟩ := DataW.trod_int Try.underlying3 q0
  obtain ⟨f1, e1, t1, o1⟩ := fld8 (T := 86) (k := 1) (t := 3) (o := 1) (by kernel_rfl)
  have q1 := hfs 1 f1 e1
  rw [t1, o1, cells_i8, List.getElem?_eq_getElem (by omega)] at q1
  obtain ⟨z1, r1, _, w1⟩ := DataW.trod_int Try.underlying3 q1
  obtain ⟨f2, e2, t2, o2⟩ := fld8 (T := 86) (k := 2) (t := 3) (o := 2) (by kernel_rfl)
  have q2 := hfs 2 f2 e2
  rw [t2, o2, cells_i8, List.getElem?_eq_getElem (by omega)] at q2
  obtain ⟨z2, r2, _, w2⟩ := DataW.trod_int Try.underlying3 q2
  obtain ⟨f3, e3, t3, o3⟩ := fld8 (T := 86) (k := 3) (t := 22) (o := 3) (by kernel_rfl)
  have q3 := hfs 3 f3 e3
  rw [t3, o3, cells_u8, List.getElem?_eq_getElem (by omega)] at q3
  obtain ⟨z3, r3, _, w3⟩ := DataW.trod_int Try.underlying22 q3
  obtain ⟨c0, c1, c2, c3, rfl⟩ : ∃ c0 c1 c2 c3, cs = [c0, c1, c2, c3] := by
    match cs, hcl with
    | [c0, c1, c2, c3], _ => exact ⟨c0, c1, c2, c3, rfl⟩
  simp at r0 r1 r2 r3
  subst r0 r1 r2 r3
  have b3 := bounds_u64 w3
  exact ⟨⟨z0, z1, z2, z3⟩, rfl, ⟨bounds_i64 w0, bounds_i64 w1, bounds_i64 w2, ⟨b3.1, by show z3 < _; omega⟩⟩⟩
set_option maxRecDepth 100000 in
/-- a script, as it stands -/
theorem open_shots {H : Type} {enc : TypeId × Value → H} {W : World} {base : Nat} {r : Reach} {b : Nat} {v : Value} {d : DataW H} {p : List MemPlace}
    (hv : Value.okWide Try.prog W r b 70 v) (h : DataW.Trod enc Try.prog W base (fun _ => true) true 70 v d p) (hlt : ∀ x ∈ p, x.block < W.heap.size) :
    ∃ (ad : Option Addr) (la cap ab ao : Nat) (X : Nat → ShoV), v = .slice ad la cap ∧ Shc W ad la cap ab ao X := by
  obtain ⟨a0, len, cap, rfl⟩ := okWide_slice u_sShot hv
  obtain ⟨fuel, hf⟩ := h
  rcases open_slice u_sShot hf with ⟨hcs, hx⟩ | ⟨a, len', cap', m, n, D, Pl, hcs, _, hl, hm, hmm, hx, hel⟩
  · simp [Value.cells] at hcs
    obtain ⟨rfl, rfl, rfl⟩ := hcs
    exact ⟨none, 0, 0, 0, 0, fun _ => ⟨0, 0, 0, 0⟩, rfl, ⟨Nat.le_refl _, by decide, fun q => absurd q (by decide), fun i hi => absurd hi (Nat.not_lt_zero i), fun i hi => absurd hi (Nat.not_lt_zero i)⟩⟩
  · simp [Value.cells] at hcs
    obtain ⟨rfl, rfl, rfl⟩ := hcs
    simp only [if_true] at hmm
    have each : ∀ i, ∃ X : ShoV, i < len → ShoB X ∧ ∀ j, j < 4 → W.cell? (a.add (i * 4 + j)) = X.cs[j]? := fun i => by
      rcases Nat.lt_or_ge i len with hi | hi
      · obtain ⟨cs', h1, h2⟩ := hel i (by omega)
        obtain ⟨X, rfl, b0⟩ := open_sho h2
        rw [cells_sho] at h1
        obtain ⟨_, hlen, hcell⟩ := World.cells?_some h1
        refine ⟨X, fun _ => ⟨b0, fun j hj => ?_⟩⟩
        have := hcell j hj
        rw [addr_two] at this
        exact this
      · exact ⟨⟨0, 0, 0, 0⟩, fun q => by omega⟩
    obtain ⟨X, hX⟩ := Classical.axiomOfChoice each
    clear each
    have hbl : ∀ h0 : 0 < len, a.spot = none ∧ a.block < W.heap.size := fun h0 => by
      have k0 := (hX 0 h0).2 0 (by decide)
      refine ⟨by simpa [Addr.add] using World.cell?_spot k0, ?_⟩
      obtain ⟨cs', h1, _⟩ := hel 0 (by omega)
      rw [cells_sho] at h1
      have := World.cells?_block h1 (by decide)
      simpa [Addr.add] using this
    obtain ⟨ab, ao, asp⟩ := a
    refine ⟨some ⟨ab, ao, asp⟩, len, cap, ab, ao, X, rfl, ⟨hl, by simpa [maxLen] using hm, fun h0 => ?_, fun i hi j hj => ?_, fun i hi => (hX i hi).1⟩⟩
    · obtain ⟨q1, q2⟩ := hbl h0
      obtain rfl : asp = none := q1
      exact ⟨rfl, q2⟩
    · obtain ⟨q1, q2⟩ := hbl (by omega)
      obtain rfl : asp = none := q1
      have k := (hX i hi).2 j hj
      rw [C.addr_add, ← Nat.add_assoc] at k
      exact k
theorem bytes_sho : Try.prog.bytesOf 86 = 32 := by kernel_rfl
set_option maxRecDepth 100000 in
theorem shots_len {H : Type} {enc : TypeId × Value → H} {W : World} {base : Nat} {ad : Option Addr} {la cap : Nat} {d : DataW H} {p : List MemPlace} (h : DataW.Trod enc Try.prog W base (fun _ => true) true 70 (.slice ad la cap) d p) (hw : ∀ n ∈ d.weights Try.prog 70, n ≤ reachBytes) : la ≤ 8796093022208 := by
  obtain ⟨fuel, hf⟩ := h
  rcases open_slice u_sShot hf with ⟨hcs, hx⟩ | ⟨a, len', cap', m, n, D, Pl, hcs, _, hl, hm, hmm, hx, hel⟩
  · simp [Value.cells] at hcs
    obtain ⟨rfl, rfl, rfl⟩ := hcs
    exact Nat.zero_le _
  · simp [Value.cells] at hcs
    obtain ⟨rfl, rfl, rfl⟩ := hcs
    simp only [Prod.mk.injEq] at hx
    obtain ⟨rfl, rfl⟩ := hx
    have h2 := hw ((((List.range la).map D).length + ((List.range (m - la)).map fun j => D (la + j)).length) * Try.prog.bytesOf 86) (by simp [DataW.weights])
    rw [bytes_sho] at h2
    simp [reachBytes] at h2
    omega
structure SopV where
  kind : Int
  frame : Int
  perm : Int
  size : Int
  page : Int
  addr : Int
  v : Int
def SopV.cs (x : SopV) : List Value := [.int .i64 x.kind, .int .i64 x.frame, .int .i64 x.perm, .int .i64 x.size, .int .u64 x.page, .int .u64 x.addr, .int .u64 x.v]
structure SopB (x : SopV) : Prop where
  kind : -9223372036854775808 ≤ x.kind ∧ x.kind ≤ 9223372036854775807
  frame : -9223372036854775808 ≤ x.frame ∧ x.frame ≤ 9223372036854775807
  perm : -9223372036854775808 ≤ x.perm ∧ x.perm ≤ 9223372036854775807
  size : -9223372036854775808 ≤ x.size ∧ x.size ≤ 9223372036854775807
  page : 0 ≤ x.page ∧ x.page < 18446744073709551616
  addr : 0 ≤ x.addr ∧ x.addr < 18446744073709551616
  v : 0 ≤ x.v ∧ x.v < 18446744073709551616
structure Soc (w : World) (ad : Option Addr) (la cap ab ao : Nat) (X : Nat → SopV) : Prop where
  len : la ≤ cap
  cap : cap ≤ 9223372036854775807
  at0 : 0 < la → ad = some ⟨ab, ao, none⟩ ∧ ab < w.heap.size
  cell : ∀ i, i < la → ∀ j, j < 7 → w.cell? ⟨ab, ao + i * 7 + j, none⟩ = (X i).cs[j]?
  num : ∀ i, i < la → SopB (X i)
theorem Soc.below {w w' : World} {ad : Option Addr} {la cap ab ao : Nat} {X : Nat → SopV} (h : Soc w ad la cap ab ao X) (hb : Below w.heap.size w w') : Soc w' ad la cap ab ao X :=
  ⟨h.len, h.cap, fun q => ⟨(h.at0 q).1, Nat.lt_of_lt_of_le (h.at0 q).2 hb.size⟩, fun i hi j hj => by
    have hlt := (h.at0 (by omega)).2
    have e : ∀ o, w'.cell? ⟨ab, o, none⟩ = w.cell? ⟨ab, o, none⟩ := fun o => World.cell?_of_block (w := w) (hb.block _ hlt)
    rw [e]; exact h.cell i hi j hj, h.num⟩
theorem under_sop : Try.prog.underlying 39 = some (.struct (Try.prog.fieldsOf 39)) := by kernel_rfl
theorem cells_sop : Try.prog.cellsOf 39 = 7 := by kernel_rfl
theorem u_sSOp : Try.prog.underlying 23 = some (.slice 39) := by kernel_rfl
set_option maxRecDepth 100000 in
theorem open_sop {H : Type} {enc : TypeId × Value → H} {W : World} {base fuel : Nat} {cs : List Value} {x : DataW H × List MemPlace} (h : DataW.trod enc Try.prog W base (fun _ => true) true fuel 39 cs = some x) :
    ∃ X : SopV, cs = X.cs ∧ SopB X := by
  obtain ⟨xs, n, _, rfl, hcl, hlen, hfs⟩ := DataW.trod_struct under_sop h
  have hl : xs.length = 7 := by rw [hlen]; kernel_rfl
  rw [cells_sop] at hcl
  obtain ⟨f0, e0, t0, o0⟩ := fld8 (T := 39) (k := 0) (t := 3) (o := 0) (by kernel_rfl)
  have q0 := hfs 0 f0 e0
  rw [t0, o0, cells_i8, List.getElem?_eq_getElem (by omega)] at q0
  obtain ⟨z0, r0, _, w0⟩ := DataW.trod_int Try.underlying3 q0
  obtain ⟨f1, e1, t1, o1⟩ := fld8 (T := 39) (k := 1) (t := 3) (o := 1) (by kernel_rfl)
  have q1 := hfs 1 f1 e1
  rw [t1, o1, cells_i8, List.getElem?_eq_getElem (by omega)] at q1
  obtain ⟨z1, r1, _, w1⟩ := DataW.trod_int Try.underlying3 q1
  obtain ⟨f2, e2, t2, o2⟩ := fld8 (T := 39) (k := 2) (t := 3) (o := 2) (by kernel_rfl)
  have q2 := hfs 2 f2 e2
  rw [t2, o2, cells_i8, List.getElem?_eq_getElem (by omega)] at q2
  obtain ⟨z2, r2, _, w2⟩ := DataW.trod_int Try.underlying3 q2
  obtain ⟨f3, e3, t3, o3⟩ := fld8 (T := 39) (k := 3) (t := 3) (o := 3) (by kernel_rfl)
  have q3 := hfs 3 f3 e3
  rw [t3, o3, cells_i8, List.getElem?_eq_getElem (by omega)] at q3
  obtain ⟨z3, r3, _, w3⟩ := DataW.trod_int Try.underlying3 q3
  obtain ⟨f4, e4, t4, o4⟩ := fld8 (T := 39) (k := 4) (t := 22) (o := 4) (by kernel_rfl)
  have q4 := hfs 4 f4 e4
  rw [t4, o4, cells_u8, List.getElem?_eq_getElem (by omega)] at q4
  obtain ⟨z4, r4, _, w4⟩ := DataW.trod_int Try.underlying22 q4
  obtain ⟨f5, e5, t5, o5⟩ := fld8 (T := 39) (k := 5) (t := 22) (o := 5) (by kernel_rfl)
  have q5 := hfs 5 f5 e5
  rw [t5, o5, cells_u8, List.getElem?_eq_getElem (by omega)] at q5
  obtain ⟨z5, r5, _, w5⟩ := DataW.trod_int Try.underlying22 q5
  obtain ⟨f6, e6, t6, o6⟩ := fld8 (T := 39) (k := 6) (t := 22) (o := 6) (by kernel_rfl)
  have q6 := hfs 6 f6 e6
  rw [t6, o6, cells_u8, List.getElem?_eq_getElem (by omega)] at q6
  obtain ⟨z6, r6, _, w6⟩ := DataW.trod_int Try.underlying22 q6
  obtain ⟨c0, c1, c2, c3, c4, c5, c6, rfl⟩ : ∃ c0 c1 c2 c3 c4 c5 c6, cs = [c0, c1, c2, c3, c4, c5, c6] := by
    match cs, hcl with
    | [c0, c1, c2, c3, c4, c5, c6], _ => exact ⟨c0, c1, c2, c3, c4, c5, c6, rfl⟩
  simp at r0 r1 r2 r3 r4 r5 r6
  subst r0 r1 r2 r3 r4 r5 r6
  have b4 := bounds_u64 w4
  have b5 := bounds_u64 w5
  have b6 := bounds_u64 w6
  exact ⟨⟨z0, z1, z2, z3, z4, z5, z6⟩, rfl, ⟨bounds_i64 w0, bounds_i64 w1, bounds_i64 w2, bounds_i64 w3, ⟨b4.1, by show z4 < _; omega⟩, ⟨b5.1, by show z5 < _; omega⟩, ⟨b6.1, by show z6 < _; omega⟩⟩⟩
set_option maxRecDepth 100000 in
/-- a script, as it stands -/
theorem open_sops {H : Type} {enc : TypeId × Value → H} {W : World} {base : Nat} {r : Reach} {b : Nat} {v : Value} {d : DataW H} {p : List MemPlace}
    (hv : Value.okWide Try.prog W r b 23 v) (h : DataW.Trod enc Try.prog W base (fun _ => true) true 23 v d p) (hlt : ∀ x ∈ p, x.block < W.heap.size) :
    ∃ (ad : Option Addr) (la cap ab ao : Nat) (X : Nat → SopV), v = .slice ad la cap ∧ Soc W ad la cap ab ao X := by
  obtain ⟨a0, len, cap, rfl⟩ := okWide_slice u_sSOp hv
  obtain ⟨fuel, hf⟩ := h
  rcases open_slice u_sSOp hf with ⟨hcs, hx⟩ | ⟨a, len', cap', m, n, D, Pl, hcs, _, hl, hm, hmm, hx, hel⟩
  · simp [Value.cells] at hcs
    obtain ⟨rfl, rfl, rfl⟩ := hcs
    exact ⟨none, 0, 0, 0, 0, fun _ => ⟨0, 0, 0, 0, 0, 0, 0⟩, rfl, ⟨Nat.le_refl _, by decide, fun q => absurd q (by decide), fun i hi => absurd hi (Nat.not_lt_zero i), fun i hi => absurd hi (Nat.not_lt_zero i)⟩⟩
  · simp [Value.cells] at hcs
    obtain ⟨rfl, rfl, rfl⟩ := hcs
    simp only [if_true] at hmm
    have each : ∀ i, ∃ X : SopV, i < len → SopB X ∧ ∀ j, j < 7 → W.cell? (a.add (i * 7 + j)) = X.cs[j]? := fun i => by
      rcases Nat.lt_or_ge i len with hi | hi
      · obtain ⟨cs', h1, h2⟩ := hel i (by omega)
        obtain ⟨X, rfl, b0⟩ := open_sop h2
        rw [cells_sop] at h1
        obtain ⟨_, hlen, hcell⟩ := World.cells?_some h1
        refine ⟨X, fun _ => ⟨b0, fun j hj => ?_⟩⟩
        have := hcell j hj
        rw [addr_two] at this
        exact this
      · exact ⟨⟨0, 0, 0, 0, 0, 0, 0⟩, fun q => by omega⟩
    obtain ⟨X, hX⟩ := Classical.axiomOfChoice each
    clear each
    have hbl : ∀ h0 : 0 < len, a.spot = none ∧ a.block < W.heap.size := fun h0 => by
      have k0 := (hX 0 h0).2 0 (by decide)
      refine ⟨by simpa [Addr.add] using World.cell?_spot k0, ?_⟩
      obtain ⟨cs', h1, _⟩ := hel 0 (by omega)
      rw [cells_sop] at h1
      have := World.cells?_block h1 (by decide)
      simpa [Addr.add] using this
    obtain ⟨ab, ao, asp⟩ := a
    refine ⟨some ⟨ab, ao, asp⟩, len, cap, ab, ao, X, rfl, ⟨hl, by simpa [maxLen] using hm, fun h0 => ?_, fun i hi j hj => ?_, fun i hi => (hX i hi).1⟩⟩
    · obtain ⟨q1, q2⟩ := hbl h0
      obtain rfl : asp = none := q1
      exact ⟨rfl, q2⟩
    · obtain ⟨q1, q2⟩ := hbl (by omega)
      obtain rfl : asp = none := q1
      have k := (hX i hi).2 j hj
      rw [C.addr_add, ← Nat.add_assoc] at k
      exact k
theorem bytes_sop : Try.prog.bytesOf 39 = 56 := by kernel_rfl
set_option maxRecDepth 100000 in
theorem sops_len {H : Type} {enc : TypeId × Value → H} {W : World} {base : Nat} {ad : Option Addr} {la cap : Nat} {d : DataW H} {p : List MemPlace} (h : DataW.Trod enc Try.prog W base (fun _ => true) true 23 (.slice ad la cap) d p) (hw : ∀ n ∈ d.weights Try.prog 23, n ≤ reachBytes) : la ≤ 8796093022208 := by
  obtain ⟨fuel, hf⟩ := h
  rcases open_slice u_sSOp hf with ⟨hcs, hx⟩ | ⟨a, len', cap', m, n, D, Pl, hcs, _, hl, hm, hmm, hx, hel⟩
  · simp [Value.cells] at hcs
    obtain ⟨rfl, rfl, rfl⟩ := hcs
    exact Nat.zero_le _
  · simp [Value.cells] at hcs
    obtain ⟨rfl, rfl, rfl⟩ := hcs
    simp only [Prod.mk.injEq] at hx
    obtain ⟨rfl, rfl⟩ := hx
    have h2 := hw ((((List.range la).map D).length + ((List.range (m - la)).map fun j => D (la + j)).length) * Try.prog.bytesOf 39) (by simp [DataW.weights])
    rw [bytes_sop] at h2
    simp [reachBytes] at h2
    omega
end Go.Proofs.Ytdncendokbjnjaa
