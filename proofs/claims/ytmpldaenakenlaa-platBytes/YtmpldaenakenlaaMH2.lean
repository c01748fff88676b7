/- A controller: Read, Write, New. -/
import Derived.Test.YtmpldaenakenlaaMH1
namespace Go.Proofs.Ytmpldaenakenlaa
open Go.RowKit
open C (Only hid Still ret_bool ret_int)
set_option linter.unusedVariables false
set_option maxRecDepth 100000

/-- what is read, and the controller behind it -/
def IV.rd (v : IV) (o s : Int) : Int × Bool × IV :=
  if (fdN v.n o s).2.2 = false then (0, false, v) else if (fdN v.n o s).1 = 4096 then (v.le (fdN v.n o s).2.1.toNat, true, v) else if (fdN v.n o s).1 = 8192 then (v.src (fdN v.n o s).2.1.toNat, true, v.clm (fdN v.n o s).2.1.toNat) else (v.up, true, v)
def IV.cmp (v : IV) (k : Nat) (x : Int) : IV := { v with cl := upN v.cl k (anN (v.cl k) (bitN (x % 4294967296))) }
def IV.let (v : IV) (k : Nat) (x : Int) : IV := { v with le := upN v.le k ((x % 4294967296).toNat &&& 4294967294) }
def IV.wr (v : IV) (o s x : Int) : Bool × IV :=
  if (fdN v.n o s).2.2 = false then (false, v) else if (fdN v.n o s).1 = 4096 then (true, v.let (fdN v.n o s).2.1.toNat x) else if (fdN v.n o s).1 = 8192 then (true, v.cmp (fdN v.n o s).2.1.toNat x) else (false, v)
/-- what find comes to -/
theorem fd_cases (n : Nat) (n1 : 1 ≤ n) (o s : Int) (o0 : 0 ≤ o) : (fdN n o s).2.2 = false ∨ (∃ k : Nat, k < n ∧ (fdN n o s = (4096, (k : Int), true) ∨ fdN n o s = (8192, (k : Int), true))) ∨ fdN n o s = (0, 0, true) := by
  unfold fdN
  by_cases q : s ≠ 4 ∨ o % 4096 % 4 ≠ 0
  · rw [if_pos q]; exact .inl rfl
  · rw [if_neg q]
    by_cases q0 : o - o % 4096 = 0
    · rw [if_pos q0]
      by_cases r : o % 4096 / 4 = 0
      · right; right; rw [r]; rfl
      · left; simpa using r
    · rw [if_neg q0]
      by_cases q1 : o - o % 4096 = 4096 ∨ o - o % 4096 = 8192
      · rw [if_pos q1]
        by_cases r : o % 4096 / 4 < n
        · right; left
          refine ⟨(o % 4096 / 4).toNat, by omega, ?_⟩
          rcases q1 with z | z
          · left; rw [z]; simp; omega
          · right; rw [z]; simp; omega
        · left; simpa using r
      · rw [if_neg q1]; exact .inl rfl
theorem i_Read (w : World) (F : Nat → Prop) (p : Nat) (v : IV) (h : Ix w F p v) (o s : Int) (o0 : 0 ≤ o) (o1 : o < 18446744073709551616) (s0 : -9223372036854775808 ≤ s) (s1 : s ≤ 9223372036854775807) :
    Calls Try.prog 30 #[.pointer (some ⟨p, 0, none⟩), .int .u64 o, .int .i64 s] w fun e w' => e = .returned (.tuple #[.int .u64 (v.rd o s).1, .bool (v.rd o s).2.1]) ∧ Ix w' F p (v.rd o s).2.2 ∧ Only F w w' := by
  have HX := hid h
  obtain ⟨g, h1, ok, hF⟩ := h
  have hf := i_find w p g v h1 ok o s o0 o1 s0 s1
  have n2 := ok.n2
  have H := hid h1
  have OK := hid ok
  rcases fd_cases v.n ok.n1 o s o0 with q | ⟨k, hk, q | q⟩ | q
  · have e : v.rd o s = (0, false, v) := by unfold IV.rd; rw [if_pos q]
    rw [e]
    rw [q] at hf
    generalize (fdN v.n o s).1 = a at *
    generalize (fdN v.n o s).2.1 = b at *
    clear h1 ok hF
    go_enter Try.func30, Try.ntmps30
    go_wp2_with (go_at_call 48; refine hf.mono ?_; rintro e w1 ⟨rfl, hw⟩; have HW := hid hw; clear hw)
    go_returns
    exact ⟨rfl, HX.out.below HW.out, .ofBelow HW.out⟩
  · have e : v.rd o s = ((v.le k : Int), true, v) := by unfold IV.rd; rw [q]; rfl
    rw [e]
    rw [q] at hf
    have l1 : (v.le k : Int) < 4294967296 := by have := ok.le k; omega
    have l0 : (0 : Int) ≤ v.le k := by omega
    have HE : Hid (∀ w1, Below w.heap.size w w1 → w1.cell? ⟨p, 2, none⟩ = some (.slice (some ⟨g, 0, none⟩) v.n v.n) ∧ w1.cell? ⟨g, k * 2, none⟩ = some (.int .u32 (v.le k))) := fun w1 hb => ⟨(H.out.below hb).c2, (H.out.below hb).ce k hk⟩
    have hk' : (k : Int) < v.n := by omega
    clear h1 ok hF e q
    generalize (v.le k : Int) = L at *
    go_enter Try.func30, Try.ntmps30
    go_wp2_with (go_at_call 48; refine hf.mono ?_; rintro e w1 ⟨rfl, hw⟩; have HW := hid hw; obtain ⟨d1, d2⟩ := HE.out w1 hw; clear hw)
    go_returns
    exact ⟨rfl, HX.out.below HW.out, .ofBelow HW.out⟩
  · have e : v.rd o s = ((v.src k : Int), true, v.clm k) := by unfold IV.rd; rw [q]; rfl
    rw [e]
    rw [q] at hf
    have s32 : v.src k < 32 := by
      rcases lowest_spec (v.opn k) with z | z
      · unfold IV.src; omega
      · unfold IV.src; omega
    have l1 : (v.src k : Int) < 32 := by omega
    have l0 : (0 : Int) ≤ v.src k := by omega
    have HC : Hid (∀ w1, Below w.heap.size w w1 → Calls Try.prog 49 #[.pointer (some ⟨p, 0, none⟩), .int .i64 k] w1 fun e w' => e = .returned (.int .i64 (v.src k)) ∧ Ix w' F p (v.clm k) ∧ Only F w1 w') := fun w1 hb => i_claim w1 F p v (HX.out.below hb) k hk
    clear h1 ok hF e q s32
    generalize v.clm k = vc at *
    generalize (v.src k : Int) = L at *
    go_enter Try.func30, Try.ntmps30
    go_wp2_with (first | (go_at_call 48; refine hf.mono ?_; rintro e w1 ⟨rfl, hw⟩; have HW := hid hw; have hc := HC.out w1 hw; clear hw) | (go_at_call 49; refine hc.mono ?_; rintro e w2 ⟨rfl, hx, ho⟩; have HX2 := hid hx; have HO2 := hid ho; clear hx ho))
    go_returns
    exact ⟨rfl, HX2.out, (Only.ofBelow HW.out).trans HO2.out⟩
  · have e : v.rd o s = ((v.up : Int), true, v) := by unfold IV.rd; rw [q]; rfl
    rw [e]
    rw [q] at hf
    have l1 : (v.up : Int) < 4294967296 := by have : v.up < 4294967296 := or_lt ok.lv ok.pu; omega
    have l0 : (0 : Int) ≤ v.up := by omega
    have HC : Hid (∀ w1, Below w.heap.size w w1 → Calls Try.prog 50 #[.pointer (some ⟨p, 0, none⟩)] w1 fun e w' => e = .returned (.int .u32 v.up) ∧ Below w1.heap.size w1 w') := fun w1 hb => i_up (H.out.below hb) OK.out
    clear h1 ok hF e q
    generalize (v.up : Int) = L at *
    go_enter Try.func30, Try.ntmps30
    go_wp2_with (first | (go_at_call 48; refine hf.mono ?_; rintro e w1 ⟨rfl, hw⟩; have HW := hid hw; have hc := HC.out w1 hw; clear hw) | (go_at_call 50; refine hc.mono ?_; rintro e w2 ⟨rfl, hx⟩; have HX2 := hid hx; clear hx))
    go_returns
    have hb := HW.out.trans (HX2.out.mono HW.out.size)
    exact ⟨rfl, HX.out.below hb, .ofBelow hb⟩
theorem Ix.ofIo {w : World} {F : Nat → Prop} {p g : Nat} {v : IV} (h : Io w p g v) (ok : IOk v) (hF : ∀ x, F x ↔ x = p ∨ x = g) : Ix w F p v := ⟨g, h, ok, hF⟩
theorem IOk.cmp {v : IV} (ok : IOk v) (k : Nat) (x : Int) : IOk (v.cmp k x) := ⟨ok.lv, ok.pu, ok.le, upN_lt ok.cl k (anN_lt _ _ (ok.cl k)), ok.l0, ok.p0, ok.n1, ok.n2⟩
theorem IOk.let {v : IV} (ok : IOk v) (k : Nat) (x : Int) : IOk (v.let k x) := ⟨ok.lv, ok.pu, upN_lt ok.le k (and_lt (by omega)), ok.cl, ok.l0, ok.p0, ok.n1, ok.n2⟩
theorem i_Write (w : World) (F : Nat → Prop) (p : Nat) (v : IV) (h : Ix w F p v) (o s x : Int) (o0 : 0 ≤ o) (o1 : o < 18446744073709551616) (s0 : -9223372036854775808 ≤ s) (s1 : s ≤ 9223372036854775807) (x0 : 0 ≤ x) (x1 : x < 18446744073709551616) :
    Calls Try.prog 32 #[.pointer (some ⟨p, 0, none⟩), .int .u64 o, .int .i64 s, .int .u64 x] w fun e w' => e = .returned (.bool (v.wr o s x).1) ∧ Ix w' F p (v.wr o s x).2 ∧ Only F w w' := by
  have HX := hid h
  obtain ⟨g, h1, ok, hF⟩ := h
  have hf := i_find w p g v h1 ok o s o0 o1 s0 s1
  have n2 := ok.n2
  have H := hid h1
  have OK := hid ok
  have HF := hid hF
  rcases fd_cases v.n ok.n1 o s o0 with q | ⟨k, hk, q | q⟩ | q
  · have e : v.wr o s x = (false, v) := by unfold IV.wr; rw [if_pos q]
    rw [e]
    rw [q] at hf
    generalize (fdN v.n o s).1 = a at *
    generalize (fdN v.n o s).2.1 = b at *
    clear h1 ok hF
    go_enter Try.func32, Try.ntmps32
    go_wp2_with (go_at_call 48; refine hf.mono ?_; rintro e w1 ⟨rfl, hw⟩; have HW := hid hw; clear hw)
    go_ret
    exact ⟨rfl, HX.out.below HW.out, .ofBelow HW.out⟩
  · have e : v.wr o s x = (true, v.let k x) := by unfold IV.wr; rw [q]; rfl
    rw [e]
    rw [q] at hf
    have HE : Hid (∀ w1, Below w.heap.size w w1 → w1.cell? ⟨p, 2, none⟩ = some (.slice (some ⟨g, 0, none⟩) v.n v.n) ∧ w1.cell? ⟨g, k * 2, none⟩ = some (.int .u32 (v.le k)) ∧ w1.frozen? ⟨g, k * 2, none⟩ = false) := fun w1 hb => ⟨(H.out.below hb).c2, (H.out.below hb).ce k hk, (H.out.below hb).fg _⟩
    have hk' : (k : Int) < v.n := by omega
    have ea : bits BinOp.and IntKind.u32 (x % 4294967296) 4294967294 = (((x % 4294967296).toNat &&& 4294967294 : Nat) : Int) := u32_and _ _ (by omega) (by omega) (by decide) (by decide)
    have ec : v.let k x = { v with le := upN v.le k ((x % 4294967296).toNat &&& 4294967294) } := rfl
    have HC := hid ec
    have OC := hid (ok.let k x)
    clear h1 ok hF e q ec
    generalize v.let k x = vl at *
    generalize hL : (((x % 4294967296).toNat &&& 4294967294 : Nat) : Int) = L at *
    go_enter Try.func32, Try.ntmps32
    go_wp2_with (go_at_call 48; refine hf.mono ?_; rintro e w1 ⟨rfl, hw⟩; have HW := hid hw; obtain ⟨d1, d2, d3⟩ := HE.out w1 hw; clear hw)
    go_ret
    refine ⟨rfl, ⟨g, ?_, OC.out, HF.out⟩, (Only.ofBelow HW.out).setCell (.inl ((HF.out g).2 (.inr rfl))) _⟩
    rw [← hL, HC.out]
    exact (H.out.below HW.out).pute k _
  · have e : v.wr o s x = (true, v.cmp k x) := by unfold IV.wr; rw [q]; rfl
    rw [e]
    rw [q] at hf
    have HE : Hid (∀ w1, Below w.heap.size w w1 → w1.cell? ⟨p, 2, none⟩ = some (.slice (some ⟨g, 0, none⟩) v.n v.n) ∧ w1.cell? ⟨g, k * 2 + 1, none⟩ = some (.int .u32 (v.cl k)) ∧ w1.frozen? ⟨g, k * 2 + 1, none⟩ = false) := fun w1 hb => ⟨(H.out.below hb).c2, (H.out.below hb).cc k hk, (H.out.below hb).fg _⟩
    have hk' : (k : Int) < v.n := by omega
    have hb := c_bit (x % 4294967296) (by omega) (by omega)
    have y0 : 0 ≤ x % 4294967296 := by omega
    have y1 : x % 4294967296 < 4294967296 := by omega
    have ea : bits BinOp.andNot IntKind.u32 (v.cl k : Int) (bitN (x % 4294967296) : Int) = (anN (v.cl k) (bitN (x % 4294967296)) : Int) := u32_andNot_nat _ _ (ok.cl k) (bitN_lt _)
    have ec : v.cmp k x = { v with cl := upN v.cl k (anN (v.cl k) (bitN (x % 4294967296))) } := rfl
    have HC := hid ec
    have OC := hid (ok.cmp k x)
    have b0 : (0 : Int) ≤ (bitN (x % 4294967296) : Int) := by omega
    have b1 : (bitN (x % 4294967296) : Int) < 4294967296 := by have := bitN_lt (x % 4294967296); omega
    clear h1 ok hF e q ec
    generalize v.cmp k x = vl at *
    generalize hL : (anN (v.cl k) (bitN (x % 4294967296)) : Int) = L at *
    generalize (bitN (x % 4294967296) : Int) = B at *
    go_enter Try.func32, Try.ntmps32
    go_upto_region 9 with (go_at_call 48; refine hf.mono ?_; rintro e w1 ⟨rfl, hw⟩; have HW := hid hw; obtain ⟨d1, d2, d3⟩ := HE.out w1 hw; clear hw)
    refine wp_region_last_lit (by simp) (by kernel_rfl) (by kernel_rfl) (by kernel_rfl) ?_
    simp only [List.dropLast, List.getLast]
    repeat (go_big_quiet_step (first | (go_at_call 53; exact Calls.quiet_of_same (hb _))))
    refine wpQuiet_nil ?_
    intro _ hwq
    obtain ⟨nq, hwq⟩ := hwq
    subst hwq
    go_wp2
    go_ret
    refine ⟨rfl, ⟨g, ?_, OC.out, HF.out⟩, ((Only.ofBelow HW.out).trans (Only.ofBelow (dnB w1 _))).setCell (.inl ((HF.out g).2 (.inr rfl))) _⟩
    rw [← hL, HC.out]
    exact ((H.out.below HW.out).dn _).putc k _
  · have e : v.wr o s x = (false, v) := by unfold IV.wr; rw [q]; rfl
    rw [e]
    rw [q] at hf
    clear h1 ok hF e q
    go_enter Try.func32, Try.ntmps32
    go_wp2_with (first | (go_at_call 48; refine hf.mono ?_; rintro e w1 ⟨rfl, hw⟩; have HW := hid hw; clear hw))
    go_ret
    exact ⟨rfl, HX.out.below HW.out, .ofBelow HW.out⟩
theorem info_line : (Try.prog.info? 90).map (fun i => (i.zero, i.size, i.bytes)) = some (some (.agg #[.int .u32 0, .int .u32 0]), 2, 8) := by kernel_rfl
theorem u_sline : Try.prog.underlying 78 = some (.slice 90) := by kernel_rfl
theorem madeL (n : Nat) : madeCells (Value.agg #[.int .u32 0, .int .u32 0]).cells (n * 2) = (lic (fun _ => 0) (fun _ => 0) n).toArray := by
  apply Array.ext
  · rw [size_madeCells]; simp [lic]
  · intro j h1 h2
    rw [size_madeCells] at h1
    have a := lic_at (fun _ => 0) (fun _ => 0) n j h1
    have b : (lic (fun _ => 0) (fun _ => 0) n).toArray[j]? = some (li1 (fun _ => 0) (fun _ => 0) j) := by simpa using a
    rw [Array.getElem?_eq_getElem h2] at b
    rw [Option.some.inj b]
    have e : (Value.agg #[.int .u32 0, .int .u32 0]).cells = #[.int .u32 0, .int .u32 0] := by rfl
    simp only [madeCells, Array.getElem_map, Array.getElem_range, e]
    unfold li1
    rcases Nat.mod_two_eq_zero_or_one j with q | q
    · simp [q]
    · simp [q]
def iv0 (n : Nat) : IV := ⟨0, 0, n, fun _ => 0, fun _ => 0⟩
theorem iok0 (n : Nat) (h1 : 1 ≤ n) (h2 : n ≤ 64) : IOk (iv0 n) := ⟨by show 0 < _; decide, by show 0 < _; decide, fun _ => by show 0 < _; decide, fun _ => by show 0 < _; decide, Nat.zero_testBit 0, Nat.zero_testBit 0, h1, h2⟩
theorem i_New (w : World) (n : Nat) (h1 : 1 ≤ n) (h2 : n ≤ 64) : Calls Try.prog 28 #[.int .i64 n] w fun e w' => e = .returned (.tuple #[.pointer (some ⟨w.heap.size + 1, 0, none⟩), .int .i64 0]) ∧ (∃ F, Ix w' F (w.heap.size + 1) (iv0 n) ∧ ∀ x, F x → w.heap.size ≤ x) ∧ Below w.heap.size w w' := by
  go_enter Try.func28, Try.ntmps28
  go_wp2_with (at_make; refine wpList_made _ rfl _ _ 78 rfl 90 _ 2 8 u_sline info_line n rfl rfl (by omega) (by omega) _ (madeL n) ?_)
  go_returns
  have e1 : ((w.alloc (.cells (lic (fun _ => 0) (fun _ => 0) n).toArray 90)).alloc (.cells ((iv0 n).cells w.heap.size) 82)).heap[w.heap.size]? = some (.cells (lic (fun _ => 0) (fun _ => 0) n).toArray 90 (0, 0)) := (Below.heap_alloc (w.alloc _) _ _ (by simp)).trans (heap_alloc_new w _)
  have e2 := heap_alloc_new (w.alloc (.cells (lic (fun _ => 0) (fun _ => 0) n).toArray 90)) (.cells ((iv0 n).cells w.heap.size) 82)
  rw [show (w.alloc (.cells (lic (fun _ => 0) (fun _ => 0) n).toArray 90)).heap.size = w.heap.size + 1 by simp] at e2
  exact ⟨rfl, ⟨fun x => x = w.heap.size + 1 ∨ x = w.heap.size, ⟨w.heap.size, ⟨e2, e1⟩, iok0 n h1 h2, fun x => Iff.rfl⟩, fun x z => by omega⟩, ((Below.refl _ _).alloc (Nat.le_refl _) _).alloc (by simp) _⟩
theorem i_New_bad (w : World) (n : Int) (n0 : -9223372036854775808 ≤ n) (n1 : n ≤ 9223372036854775807) (h : n < 1 ∨ 64 < n) : Calls Try.prog 28 #[.int .i64 n] w fun e w' => e = .returned (.tuple #[.pointer none, .int .i64 1]) ∧ w' = w := by
  by_cases q : n < 1
  · go_enter Try.func28, Try.ntmps28
    go_wp2
    go_returns
    exact ⟨rfl, rfl⟩
  · have q2 : 64 < n := by omega
    go_enter Try.func28, Try.ntmps28
    go_wp2
    go_returns
    exact ⟨rfl, rfl⟩
end Go.Proofs.Ytmpldaenakenlaa
namespace Go.Proofs.Ytmpldaenakenlaa
open Go.RowKit
open C (Only hid Still ret_bool ret_int)
set_option linter.unusedVariables false
set_option maxRecDepth 100000

theorem Ux.ty {w : World} {F : Nat → Prop} {p : Nat} {v : UV} (h : Ux w F p v) {x : Nat} (hx : F x) : ∃ c t, w.heap[x]? = some (.cells c t (0, 0)) ∧ (t == 73 || t == 5) = true := by
  obtain ⟨a, b, h1, ok, hF⟩ := h
  rcases (hF x).1 hx with z | z | z
  · subst z; exact ⟨_, _, h1.top, rfl⟩
  · obtain ⟨c, y⟩ := own_typ h1.q z; exact ⟨_, _, y, rfl⟩
  · obtain ⟨c, y⟩ := own_typ h1.s z; exact ⟨_, _, y, rfl⟩
theorem Ix.ty {w : World} {F : Nat → Prop} {p : Nat} {v : IV} (h : Ix w F p v) {x : Nat} (hx : F x) : ∃ c t, w.heap[x]? = some (.cells c t (0, 0)) ∧ (t == 82 || t == 90) = true := by
  obtain ⟨g, h1, ok, hF⟩ := h
  rcases (hF x).1 hx with z | z
  · subst z; exact ⟨_, _, h1.top, rfl⟩
  · subst z; exact ⟨_, _, h1.tab, rfl⟩
theorem ui_ne {w : World} {F G : Nat → Prop} {p q : Nat} {v : UV} {c : IV} (h : Ux w F p v) (k : Ix w G q c) {x : Nat} (hx : F x) (gx : G x) : False := by
  obtain ⟨c1, t1, e1, f1⟩ := h.ty hx
  obtain ⟨c2, t2, e2, f2⟩ := k.ty gx
  rw [e1] at e2
  simp at e2
  obtain ⟨-, e3⟩ := e2
  subst e3
  simp at f1
  rcases f1 with rfl | rfl <;> simp at f2
/-- a law's own UART -/
def LU (W w : World) (p : Nat) (v : UV) : Prop := ∃ F, Ux w F p v ∧ (∀ x, F x → W.heap.size ≤ x) ∧ Below W.heap.size W w
/-- a law's own controller -/
def LI (W w : World) (p : Nat) (v : IV) : Prop := ∃ F, Ix w F p v ∧ (∀ x, F x → W.heap.size ≤ x) ∧ Below W.heap.size W w
section
variable {W w w' : World} {p : Nat} {v v' : UV} {c c' : IV} {F : Nat → Prop}
theorem _root_.Go.Proofs.Ytmpldaenakenlaa.C.Only.bel {W w w' : World} {F : Nat → Prop} (h : Only F w w') (hF : ∀ x, F x → W.heap.size ≤ x) (hb : Below W.heap.size W w) : Below W.heap.size W w' :=
  ⟨h.os.trans hb.os, h.tape.trans hb.tape, h.output.trans hb.output, Nat.le_trans hb.size h.size, fun k hk => (h.block k (Nat.lt_of_lt_of_le hk hb.size) fun z => by have := hF k z; omega).trans (hb.block k hk)⟩
theorem LU.turn (hF : ∀ x, F x → W.heap.size ≤ x) (hb : Below W.heap.size W w) (h : ∃ F', Ux w' F' p v' ∧ Tn w w' F F') : LU W w' p v' := by
  obtain ⟨F', h1, h2, h3⟩ := h
  exact ⟨F', h1, fun x hx => (h3 x hx).elim (hF x) fun z => Nat.le_trans hb.size z, h2.bel hF hb⟩
theorem LU.bel (h : LU W w p v) : Below W.heap.size W w := h.choose_spec.2.2
theorem LI.bel (h : LI W w p c) : Below W.heap.size W w := h.choose_spec.2.2
theorem LU.below (h : LU W w p v) (hb : Below w.heap.size w w') : LU W w' p v := by
  obtain ⟨F, h1, h2, h3⟩ := h
  exact ⟨F, h1.only (T := fun _ => False) (.ofBelow hb) fun _ _ z => z, h2, h3.trans (hb.mono h3.size)⟩
theorem LI.below (h : LI W w p c) (hb : Below w.heap.size w w') : LI W w' p c := by
  obtain ⟨F, h1, h2, h3⟩ := h
  exact ⟨F, h1.below hb, h2, h3.trans (hb.mono h3.size)⟩
theorem l_NewU (W w : World) (hb : Below W.heap.size W w) : Calls Try.prog 12 #[] w fun e w' => e = .returned (.pointer (some ⟨w.heap.size, 0, none⟩)) ∧ LU W w' w.heap.size uv0 ∧ Below w.heap.size w w' := by
  refine (u_New w).mono ?_
  rintro e w' ⟨rfl, ⟨F, h1, h2⟩, h3⟩
  exact ⟨rfl, ⟨F, h1, fun x hx => by rw [h2 x hx]; exact hb.size, hb.trans (h3.mono hb.size)⟩, h3⟩
theorem l_In (h : LU W w p v) (x : Int) (hx : Byt x) : Calls Try.prog 18 #[.pointer (some ⟨p, 0, none⟩), .int .u8 x] w fun e w' => e = .returned (.tuple #[]) ∧ LU W w' p (v.inn x) := by
  obtain ⟨F, h1, h2, h3⟩ := h
  exact (u_In w F p v x h1 hx).mono fun e w' hh => ⟨hh.1, .turn h2 h3 hh.2⟩
theorem l_Read (h : LU W w p v) (o : Int) (o0 : 0 ≤ o) (o1 : o < 18446744073709551616) : Calls Try.prog 14 #[.pointer (some ⟨p, 0, none⟩), .int .u64 o] w fun e w' => e = .returned (.int .u8 (v.rd o).1) ∧ LU W w' p (v.rd o).2 := by
  obtain ⟨F, h1, h2, h3⟩ := h
  exact (u_Read w F p v o h1 o0 o1).mono fun e w' hh => ⟨hh.1, .turn h2 h3 hh.2⟩
theorem l_Write (h : LU W w p v) (o x : Int) (o0 : 0 ≤ o) (o1 : o < 18446744073709551616) (hx : Byt x) (hs : v.s.length < 140737488355328) : Calls Try.prog 16 #[.pointer (some ⟨p, 0, none⟩), .int .u64 o, .int .u8 x] w fun e w' => e = .returned (.tuple #[]) ∧ LU W w' p (v.wr o x) := by
  obtain ⟨F, h1, h2, h3⟩ := h
  exact (u_Write w F p v o x h1 o0 o1 hx hs).mono fun e w' hh => ⟨hh.1, .turn h2 h3 hh.2⟩
theorem l_Irq (h : LU W w p v) : Calls Try.prog 20 #[.pointer (some ⟨p, 0, none⟩)] w fun e w' => e = .returned (.bool (v.cau != 1)) ∧ w' = w := by
  obtain ⟨F, h1, h2, h3⟩ := h
  exact u_Irq w F p v h1
theorem l_NewI (W w : World) (hb : Below W.heap.size W w) (n : Nat) (n1 : 1 ≤ n) (n2 : n ≤ 64) : Calls Try.prog 28 #[.int .i64 n] w fun e w' => e = .returned (.tuple #[.pointer (some ⟨w.heap.size + 1, 0, none⟩), .int .i64 0]) ∧ LI W w' (w.heap.size + 1) (iv0 n) ∧ Below w.heap.size w w' := by
  refine (i_New w n n1 n2).mono ?_
  rintro e w' ⟨rfl, ⟨F, h1, h2⟩, h3⟩
  exact ⟨rfl, ⟨F, h1, fun x hx => Nat.le_trans hb.size (h2 x hx), hb.trans (h3.mono hb.size)⟩, h3⟩
theorem l_ReadI (h : LI W w p c) (o s : Int) (o0 : 0 ≤ o) (o1 : o < 18446744073709551616) (s0 : -9223372036854775808 ≤ s) (s1 : s ≤ 9223372036854775807) : Calls Try.prog 30 #[.pointer (some ⟨p, 0, none⟩), .int .u64 o, .int .i64 s] w fun e w' => e = .returned (.tuple #[.int .u64 (c.rd o s).1, .bool (c.rd o s).2.1]) ∧ LI W w' p (c.rd o s).2.2 := by
  obtain ⟨F, h1, h2, h3⟩ := h
  exact (i_Read w F p c h1 o s o0 o1 s0 s1).mono fun e w' hh => ⟨hh.1, F, hh.2.1, h2, hh.2.2.bel h2 h3⟩
theorem l_WriteI (h : LI W w p c) (o s x : Int) (o0 : 0 ≤ o) (o1 : o < 18446744073709551616) (s0 : -9223372036854775808 ≤ s) (s1 : s ≤ 9223372036854775807) (x0 : 0 ≤ x) (x1 : x < 18446744073709551616) : Calls Try.prog 32 #[.pointer (some ⟨p, 0, none⟩), .int .u64 o, .int .i64 s, .int .u64 x] w fun e w' => e = .returned (.bool (c.wr o s x).1) ∧ LI W w' p (c.wr o s x).2 := by
  obtain ⟨F, h1, h2, h3⟩ := h
  exact (i_Write w F p c h1 o s x o0 o1 s0 s1 x0 x1).mono fun e w' hh => ⟨hh.1, F, hh.2.1, h2, hh.2.2.bel h2 h3⟩
theorem l_Level (h : LI W w p c) (x : Int) (u : Bool) (x0 : -9223372036854775808 ≤ x) (x1 : x ≤ 9223372036854775807) : Calls Try.prog 34 #[.pointer (some ⟨p, 0, none⟩), .int .i64 x, .bool u] w fun e w' => e = .returned (.tuple #[]) ∧ LI W w' p (c.lev x u) := by
  obtain ⟨F, h1, h2, h3⟩ := h
  exact (i_Level w F p c h1 x u x0 x1).mono fun e w' hh => ⟨hh.1, F, hh.2.1, h2, hh.2.2.bel h2 h3⟩
theorem l_Pulse (h : LI W w p c) (x : Int) (x0 : -9223372036854775808 ≤ x) (x1 : x ≤ 9223372036854775807) : Calls Try.prog 36 #[.pointer (some ⟨p, 0, none⟩), .int .i64 x] w fun e w' => e = .returned (.tuple #[]) ∧ LI W w' p (c.pls x) := by
  obtain ⟨F, h1, h2, h3⟩ := h
  exact (i_Pulse w F p c h1 x x0 x1).mono fun e w' hh => ⟨hh.1, F, hh.2.1, h2, hh.2.2.bel h2 h3⟩
theorem l_Pending (h : LI W w p c) (x : Int) (x0 : -9223372036854775808 ≤ x) (x1 : x ≤ 9223372036854775807) : Calls Try.prog 38 #[.pointer (some ⟨p, 0, none⟩), .int .i64 x] w fun e w' => e = .returned (.bool (c.pen x)) ∧ LI W w' p c ∧ Below w.heap.size w w' := by
  have H := h
  obtain ⟨F, ⟨g, h1, ok, hF⟩, h2, h3⟩ := h
  exact (i_Pending w p g c h1 ok x x0 x1).mono fun e w' hh => ⟨hh.1, H.below hh.2, hh.2⟩
end
/-- a UART, and a controller beside it that was made behind it -/
def UI (W w : World) (p q : Nat) (v : UV) (c : IV) : Prop := ∃ F G, Ux w F p v ∧ Ix w G q c ∧ (∀ x, F x → W.heap.size ≤ x) ∧ (∀ x, G x → W.heap.size ≤ x) ∧ Below W.heap.size W w
section
variable {W w w' : World} {p q : Nat} {v v' : UV} {c c' : IV} {F : Nat → Prop}
theorem UI.u (h : UI W w p q v c) {f : FuncId} {args : Array Value} {r : Value} (hc : ∀ F, Ux w F p v → Calls Try.prog f args w fun e w' => e = .returned r ∧ ∃ F', Ux w' F' p v' ∧ Tn w w' F F') : Calls Try.prog f args w fun e w' => e = .returned r ∧ UI W w' p q v' c := by
  obtain ⟨F, G, h1, h2, h3, h4, h5⟩ := h
  refine (hc F h1).mono ?_
  rintro e w' ⟨rfl, F', k1, k2, k3⟩
  exact ⟨rfl, F', G, k1, h2.only k2 fun x gx fx => ui_ne h1 h2 fx gx, fun x hx => (k3 x hx).elim (h3 x) fun z => Nat.le_trans h5.size z, h4, k2.bel h3 h5⟩
theorem UI.i (h : UI W w p q v c) {f : FuncId} {args : Array Value} {r : Value} (hc : ∀ G, Ix w G q c → Calls Try.prog f args w fun e w' => e = .returned r ∧ Ix w' G q c' ∧ Only G w w') : Calls Try.prog f args w fun e w' => e = .returned r ∧ UI W w' p q v c' := by
  obtain ⟨F, G, h1, h2, h3, h4, h5⟩ := h
  refine (hc G h2).mono ?_
  rintro e w' ⟨rfl, k1, k2⟩
  exact ⟨rfl, F, G, h1.only k2 fun x fx gx => ui_ne h1 h2 fx gx, k1, h3, h4, k2.bel h4 h5⟩
theorem UI.bel (h : UI W w p q v c) : Below W.heap.size W w := by obtain ⟨F, G, h1, h2, h3, h4, h5⟩ := h; exact h5
end
def av1 : UV := uv0.inn 65
def av2 : UV := (av1.rd 5).2
def ac1 : IV := ((iv0 1).wr 4096 4 32).2
def ac2 : IV := ac1.lev 5 true
theorem aw1 : ((iv0 1).wr 4096 4 32).1 = true := by decide +kernel
theorem aw2 : (av1.rd 5).1 = 97 := by decide +kernel
theorem aw3 : (av2.rd 0).1 = 65 := by decide +kernel
theorem aw4 : ac2.pen 0 = true := by decide +kernel
set_option maxHeartbeats 2000000 in
theorem l_awake (w : World) : Calls Try.prog 24 #[] w fun e w' => e = .returned (.bool true) ∧ Below w.heap.size w w' := by
  have hN := l_NewU w w (.refl _ _)
  have HI : Hid (∀ w1, LU w w1 w.heap.size uv0 → Calls Try.prog 18 #[.pointer (some ⟨w.heap.size, 0, none⟩), .int .u8 65] w1 fun e w' => e = .returned (.tuple #[]) ∧ LU w w' w.heap.size av1) := fun w1 h => l_In h 65 (by constructor <;> decide)
  have HC : Hid (∀ w2, LU w w2 w.heap.size av1 → Calls Try.prog 28 #[.int .i64 1] w2 fun e w' => e = .returned (.tuple #[.pointer (some ⟨w2.heap.size + 1, 0, none⟩), .int .i64 0]) ∧ UI w w' w.heap.size (w2.heap.size + 1) av1 (iv0 1)) := fun w2 h => by
    obtain ⟨F, h1, h2, h3⟩ := h
    refine (i_New w2 1 (by omega) (by omega)).mono ?_
    rintro e w' ⟨rfl, ⟨G, k1, k2⟩, k3⟩
    exact ⟨rfl, F, G, h1.only (T := fun _ => False) (.ofBelow k3) (fun _ _ z => z), k1, h2, fun x hx => Nat.le_trans h3.size (k2 x hx), h3.trans (k3.mono h3.size)⟩
  have HW : Hid (∀ w3 q, UI w w3 w.heap.size q av1 (iv0 1) → Calls Try.prog 32 #[.pointer (some ⟨q, 0, none⟩), .int .u64 4096, .int .i64 4, .int .u64 32] w3 fun e w' => e = .returned (.bool true) ∧ UI w w' w.heap.size q av1 ac1) := fun w3 q h => by
    have := h.i (c' := ac1) (f := 32) (args := #[.pointer (some ⟨q, 0, none⟩), .int .u64 4096, .int .i64 4, .int .u64 32]) (r := .bool ((iv0 1).wr 4096 4 32).1) fun G hG => i_Write w3 G q (iv0 1) hG 4096 4 32 (by decide) (by decide) (by decide) (by decide) (by decide) (by decide)
    rw [aw1] at this
    exact this
  have HL : Hid (∀ w3 q, UI w w3 w.heap.size q av1 ac1 → Calls Try.prog 34 #[.pointer (some ⟨q, 0, none⟩), .int .i64 5, .bool true] w3 fun e w' => e = .returned (.tuple #[]) ∧ UI w w' w.heap.size q av1 ac2) := fun w3 q h => h.i fun G hG => i_Level w3 G q ac1 hG 5 true (by decide) (by decide)
  have HR : Hid (∀ w3 q, UI w w3 w.heap.size q av1 ac2 → Calls Try.prog 14 #[.pointer (some ⟨w.heap.size, 0, none⟩), .int .u64 5] w3 fun e w' => e = .returned (.int .u8 97) ∧ UI w w' w.heap.size q av2 ac2) := fun w3 q h => by
    rw [← aw2]
    exact h.u fun F hF => u_Read w3 F w.heap.size av1 5 hF (by decide) (by decide)
  have HS : Hid (∀ w3 q, UI w w3 w.heap.size q av2 ac2 → Calls Try.prog 14 #[.pointer (some ⟨w.heap.size, 0, none⟩), .int .u64 0] w3 fun e w' => e = .returned (.int .u8 65) ∧ UI w w' w.heap.size q (av2.rd 0).2 ac2) := fun w3 q h => by
    rw [← aw3]
    exact h.u fun F hF => u_Read w3 F w.heap.size av2 0 hF (by decide) (by decide)
  have HP : Hid (∀ w3 q, UI w w3 w.heap.size q (av2.rd 0).2 ac2 → Calls Try.prog 38 #[.pointer (some ⟨q, 0, none⟩), .int .i64 0] w3 fun e w' => e = .returned (.bool true) ∧ Below w.heap.size w w') := fun w3 q h => by
    rw [← aw4]
    have hb := h.bel
    obtain ⟨F, G, h1, ⟨g, h2, ok, hG⟩, h3⟩ := h
    exact (i_Pending w3 q g ac2 h2 ok 0 (by decide) (by decide)).mono fun e w' hh => ⟨hh.1, hb.trans (hh.2.mono hb.size)⟩
  generalize (av2.rd 0).2 = av3 at *
  generalize av1 = v1 at *
  generalize av2 = v2 at *
  generalize ac1 = c1 at *
  generalize ac2 = c2 at *
  go_enter Try.func24, Try.ntmps24
  go_wp2_with (first
    | (go_at_call 12; refine hN.mono ?_; rintro e w1 ⟨rfl, hl, -⟩; have hI := HI.out w1 hl; clear hl hN)
    | (go_at_call 18; refine hI.mono ?_; rintro e w2 ⟨rfl, hl⟩; have hC := HC.out w2 hl; clear hl hI)
    | (go_at_call 28; refine hC.mono ?_; rintro e w3 ⟨rfl, hl⟩; have hW := HW.out w3 _ hl; clear hl hC)
    | (go_at_call 32; refine hW.mono ?_; rintro e w4 ⟨rfl, hl⟩; have hL := HL.out w4 _ hl; clear hl hW)
    | (go_at_call 34; refine hL.mono ?_; rintro e w5 ⟨rfl, hl⟩; have hR := HR.out w5 _ hl; clear hl hL)
    | (go_at_call 14; (with_reducible refine hR.mono ?_); rintro e w6 ⟨rfl, hl⟩; have hS := HS.out w6 _ hl; clear hl hR)
    | (go_at_call 14; (with_reducible refine hS.mono ?_); rintro e w7 ⟨rfl, hl⟩; have hP := HP.out w7 _ hl; clear hl hS)
    | (go_at_call 38; refine hP.mono ?_; rintro e w8 ⟨rfl, hl⟩; have HB := hid hl; clear hl hP))
  go_ret
  exact ⟨rfl, HB.out⟩
end Go.Proofs.Ytmpldaenakenlaa
namespace Go.Proofs.Ytmpldaenakenlaa
open Go.RowKit
open C (Only hid Still ret_bool ret_int)
set_option linter.unusedVariables false
set_option maxRecDepth 100000

def Ck (t : TypeId) (w : World) (p : Nat) (h : Int) : Prop := w.heap[p]? = some (.cells #[.int .u64 h] t (0, 0))
/-- what a clock tells, and what it keeps -/
def kd (h o s n : Int) : Int × Bool × Int := if s = 4 ∧ o = 0 then (n % 4294967296, true, n / 4294967296) else if s = 4 ∧ o = 4 then (h, true, h) else (0, false, h)
theorem and_low (n : Int) (n0 : 0 ≤ n) (n1 : n < 18446744073709551616) : bits BinOp.and IntKind.u64 n 4294967295 = n % 4294967296 := by
  obtain ⟨k, rfl⟩ : ∃ k : Nat, n = k := ⟨n.toNat, by omega⟩
  have e := u64_and_nat k 4294967295 (by omega) (by decide)
  have e2 := Nat.and_two_pow_sub_one_eq_mod k 32
  rw [show (2 : Nat) ^ 32 - 1 = 4294967295 by decide, show (2 : Nat) ^ 32 = 4294967296 by decide] at e2
  rw [e2] at e
  have e3 : ((4294967295 : Nat) : Int) = 4294967295 := rfl
  rw [e3] at e
  rw [e]
  omega
theorem k_Read (w : World) (p : Nat) (h o s n : Int) (H : Ck 77 w p h) (o0 : 0 ≤ o) (o1 : o < 18446744073709551616) (s0 : -9223372036854775808 ≤ s) (s1 : s ≤ 9223372036854775807) (n0 : 0 ≤ n) (n1 : n < 18446744073709551616) :
    Calls Try.prog 26 #[.pointer (some ⟨p, 0, none⟩), .int .u64 o, .int .i64 s, .int .u64 n] w fun e w' => e = .returned (.tuple #[.int .u64 (kd h o s n).1, .bool (kd h o s n).2.1]) ∧ Ck 77 w' p (kd h o s n).2.2 ∧ Only (· = p) w w' := by
  have c0 : w.cell? ⟨p, 0, none⟩ = some (.int .u64 h) := cell_of_row w p 0 _ _ _ H
  have z0 : w.frozen? ⟨p, 0, none⟩ = false := frozen_of_row w p 0 _ _ H
  have ea := and_low n n0 n1
  have HC := hid H
  clear H
  by_cases q1 : s = 4
  · subst q1
    by_cases q2 : o = 0
    · subst q2
      have e : kd h 0 4 n = (n % 4294967296, true, n / 4294967296) := by unfold kd; rw [if_pos ⟨rfl, rfl⟩]
      rw [e]
      go_enter Try.func26, Try.ntmps26
      go_wp2
      go_returns
      exact ⟨rfl, setRowB w p 0 _ _ _ _ HC.out rfl, only_c w p 0 _⟩
    · by_cases q3 : o = 4
      · subst q3
        have e : kd h 4 4 n = (h, true, h) := by unfold kd; rw [if_neg (by omega), if_pos ⟨rfl, rfl⟩]
        rw [e]
        go_enter Try.func26, Try.ntmps26
        go_wp2
        go_returns
        exact ⟨rfl, HC.out, .refl w⟩
      · have e : kd h o 4 n = (0, false, h) := by unfold kd; rw [if_neg (by omega), if_neg (by omega)]
        rw [e]
        go_enter Try.func26, Try.ntmps26
        go_wp2
        go_returns
        exact ⟨rfl, HC.out, .refl w⟩
  · have e : kd h o s n = (0, false, h) := by unfold kd; rw [if_neg (by omega), if_neg (by omega)]
    rw [e]
    go_enter Try.func26, Try.ntmps26
    go_wp2
    go_returns
    exact ⟨rfl, HC.out, .refl w⟩
theorem d_Read (w : World) (p : Nat) (h o s n : Int) (H : Ck 45 w p h) (o0 : 0 ≤ o) (o1 : o < 18446744073709551616) (s0 : -9223372036854775808 ≤ s) (s1 : s ≤ 9223372036854775807) (n0 : 0 ≤ n) (n1 : n < 18446744073709551616) :
    Calls Try.prog 27 #[.pointer (some ⟨p, 0, none⟩), .int .u64 o, .int .i64 s, .int .u64 n] w fun e w' => e = .returned (.tuple #[.int .u64 (kd h o s n).1, .bool (kd h o s n).2.1]) ∧ Ck 45 w' p (kd h o s n).2.2 ∧ Only (· = p) w w' := by
  have c0 : w.cell? ⟨p, 0, none⟩ = some (.int .u64 h) := cell_of_row w p 0 _ _ _ H
  have z0 : w.frozen? ⟨p, 0, none⟩ = false := frozen_of_row w p 0 _ _ H
  have HC := hid H
  clear H
  by_cases q1 : s = 4
  · subst q1
    by_cases q2 : o = 0
    · subst q2
      have e : kd h 0 4 n = (n % 4294967296, true, n / 4294967296) := by unfold kd; rw [if_pos ⟨rfl, rfl⟩]
      rw [e]
      go_enter Try.func27, Try.ntmps27
      go_wp2
      go_returns
      exact ⟨rfl, setRowB w p 0 _ _ _ _ HC.out rfl, only_c w p 0 _⟩
    · by_cases q3 : o = 4
      · subst q3
        have e : kd h 4 4 n = (h, true, h) := by unfold kd; rw [if_neg (by omega), if_pos ⟨rfl, rfl⟩]
        rw [e]
        go_enter Try.func27, Try.ntmps27
        go_wp2
        go_returns
        exact ⟨rfl, HC.out, .refl w⟩
      · have e : kd h o 4 n = (0, false, h) := by unfold kd; rw [if_neg (by omega), if_neg (by omega)]
        rw [e]
        go_enter Try.func27, Try.ntmps27
        go_wp2
        go_returns
        exact ⟨rfl, HC.out, .refl w⟩
  · have e : kd h o s n = (0, false, h) := by unfold kd; rw [if_neg (by omega), if_neg (by omega)]
    rw [e]
    go_enter Try.func27, Try.ntmps27
    go_wp2
    go_returns
    exact ⟨rfl, HC.out, .refl w⟩
theorem k_New (w : World) : Calls Try.prog 25 #[] w fun e w' => e = .returned (.pointer (some ⟨w.heap.size, 0, none⟩)) ∧ Ck 77 w' w.heap.size 0 ∧ Below w.heap.size w w' := by
  go_enter Try.func25, Try.ntmps25
  go_wp2
  go_ret
  exact ⟨rfl, heap_alloc_new w _, (Below.refl _ _).alloc (Nat.le_refl _) _⟩
theorem halves (n : Int) (n0 : 0 ≤ n) (n1 : n < 18446744073709551616) : bits BinOp.or IntKind.u64 (n / 4294967296 * 4294967296) (n % 4294967296) = n := by
  obtain ⟨k, rfl⟩ : ∃ k : Nat, n = k := ⟨n.toNat, by omega⟩
  have e := u64_or_nat (k / 4294967296 * 4294967296) (k % 4294967296) (by omega) (by omega)
  rw [nat_join 32 _ _ (by omega) (by omega), Nat.div_add_mod'] at e
  have e2 : ((k / 4294967296 * 4294967296 : Nat) : Int) = (k : Int) / 4294967296 * 4294967296 := by omega
  have e3 : ((k % 4294967296 : Nat) : Int) = (k : Int) % 4294967296 := by omega
  rw [e2, e3] at e
  exact e
theorem w_PlatHalves (W : World) (n : Int) (n0 : 0 ≤ n) (n1 : n < 18446744073709551616) (l : Int) (l0 : 0 ≤ l) (l1 : l < 18446744073709551616) : Calls Try.prog 10 #[.int .u64 n, .int .u64 l] W fun e w' => e = .returned (.bool true) ∧ Below W.heap.size W w' := by
  have hN := k_New W
  have HR : Hid (∀ w, Ck 77 w W.heap.size 0 → Below W.heap.size W w → Calls Try.prog 26 #[.pointer (some ⟨W.heap.size, 0, none⟩), .int .u64 0, .int .i64 4, .int .u64 n] w fun e w' => e = .returned (.tuple #[.int .u64 (n % 4294967296), .bool true]) ∧ Ck 77 w' W.heap.size (n / 4294967296) ∧ Below W.heap.size W w') := fun w h hb => by
    refine (k_Read w _ 0 0 4 n h (by decide) (by decide) (by decide) (by decide) n0 n1).mono ?_
    rintro e w' ⟨h1, h2, h3⟩
    have e : kd 0 0 4 n = (n % 4294967296, true, n / 4294967296) := by unfold kd; rw [if_pos ⟨rfl, rfl⟩]
    rw [e] at h1 h2
    exact ⟨h1, h2, h3.bel (fun x hx => by rw [hx]; exact Nat.le_refl _) hb⟩
  have HS : Hid (∀ w, Ck 77 w W.heap.size (n / 4294967296) → Below W.heap.size W w → Calls Try.prog 26 #[.pointer (some ⟨W.heap.size, 0, none⟩), .int .u64 4, .int .i64 4, .int .u64 l] w fun e w' => e = .returned (.tuple #[.int .u64 (n / 4294967296), .bool true]) ∧ Below W.heap.size W w') := fun w h hb => by
    refine (k_Read w _ (n / 4294967296) 4 4 l h (by decide) (by decide) (by decide) (by decide) l0 l1).mono ?_
    rintro e w' ⟨h1, h2, h3⟩
    have e : kd (n / 4294967296) 4 4 l = (n / 4294967296, true, n / 4294967296) := by unfold kd; rw [if_neg (by omega), if_pos ⟨rfl, rfl⟩]
    rw [e] at h1 h2
    exact ⟨h1, h3.bel (fun x hx => by rw [hx]; exact Nat.le_refl _) hb⟩
  have hA := l_awake
  obtain ⟨H, hH⟩ : ∃ H, H = n / 4294967296 := ⟨_, rfl⟩
  obtain ⟨L, hL⟩ : ∃ L, L = n % 4294967296 := ⟨_, rfl⟩
  have ho : bits BinOp.or IntKind.u64 (H * 4294967296) L = n := by rw [hH, hL]; exact halves n n0 n1
  have b0 : 0 ≤ H := by omega
  have b1 : H < 4294967296 := by omega
  have b2 : 0 ≤ L := by omega
  have b3 : L < 4294967296 := by omega
  have b4 : H * 4294967296 % 18446744073709551616 = H * 4294967296 := by omega
  rw [← hH] at HS HR
  rw [← hL] at HR
  clear hH hL
  go_enter Try.func10, Try.ntmps10
  go_wp2_with (first
    | (go_at_call 25; refine hN.mono ?_; rintro e w1 ⟨rfl, hl, hb⟩; have hR := HR.out w1 hl hb; clear hl hb hN)
    | (go_at_call 26; (with_reducible refine hR.mono ?_); rintro e w2 ⟨rfl, hl, hb⟩; have hS := HS.out w2 hl hb; clear hl hb hR)
    | (go_at_call 26; (with_reducible refine hS.mono ?_); rintro e w3 ⟨rfl, hb⟩; have HB := hid hb; clear hb hS)
    | (go_at_call 24; refine (hA w3).mono ?_; rintro e w4 ⟨rfl, hb⟩; have HB4 := hid hb; clear hb hA))
  go_ret
  exact ⟨rfl, HB.out.trans (HB4.out.mono HB.out.size)⟩
end Go.Proofs.Ytmpldaenakenlaa
