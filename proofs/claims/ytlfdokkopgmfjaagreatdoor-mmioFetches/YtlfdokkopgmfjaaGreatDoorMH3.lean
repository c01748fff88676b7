/- Regions that draw: whole structs are read, callees lay blocks, the last operation waits for all. -/
import Derived.Test.YtlfdokkopgmfjaaGreatDoorWB
import Derived.Test.YtlfdokkopgmfjaaGreatDoorVR
import Derived.Test.YtlfdokkopgmfjaaGreatDoorCPFB
import Derived.Test.YtlfdokkopgmfjaaGreatDoorMC4
namespace Go.Proofs.YtlfdokkopgmfjaaGreatDoor
open Go.RowKit
set_option linter.unusedVariables false
set_option maxRecDepth 100000
/-- a part of a block, read whole -/
theorem wpQuiet_load_sub {ops : Array Oper} {C : World → Prop} {Q : Act → Prop} {rest : List Oper} {d : Option Nat} {ty tt : TypeId} {x : Operand} {pos : String} {after : Array Edge} {gd : Option (Nat × Bool)} {a : Act} (g off : Nat) (t : TypeId) (cs sub : Array Value) (fs : Array Field) (hx : a.eval x = .pointer (some ⟨g, off, none⟩))
    (hw : Region.wanted { dst := d, op := Op.load ty x, type := tt, pos := pos, after := after, guard := gd } (yielded ops a.tmps) = true)
    (hg : ∀ w', C w' → w'.heap[g]? = some (.cells cs t (0, 0))) (hs : ∀ j v, sub.toList[j]? = some v → cs[off + j]? = some v) (hu : Tryz.prog.underlying ty = some (.struct fs)) (hi : (Tryz.prog.info? ty).map (·.size) = some sub.size)
    (hK : wpQuiet Tryz.prog ops C Q rest (a.put d (.agg sub))) : wpQuiet Tryz.prog ops C Q ({ dst := d, op := Op.load ty x, type := tt, pos := pos, after := after, guard := gd } :: rest) a := by
  refine wpQuiet_step fun K hK' => ?_
  rw [if_pos hw]
  refine ⟨.agg sub, fun w' hw' => ?_, hK' _ hK⟩
  unfold Oper.quietAt execOp
  simp only [hx, Instr.loadAt, Instr.sureAddr, Sem.run_bind, Sem.run_pure, Result.andThen_ok, run_loadVar_sub w' g off t ty cs sub (0, 0) (.struct fs) (hg w' hw') hs hu rfl hi]
  exact ⟨rfl, rfl⟩
theorem wpQuiet_load_one {ops : Array Oper} {C : World → Prop} {Q : Act → Prop} {rest : List Oper} {d : Option Nat} {ty tt : TypeId} {x : Operand} {pos : String} {after : Array Edge} {gd : Option (Nat × Bool)} {a : Act} (g k : Nat) (t : TypeId) (cs : Array Value) (v : Value) (hx : a.eval x = .pointer (some ⟨g, k, none⟩))
    (hw : Region.wanted { dst := d, op := Op.load ty x, type := tt, pos := pos, after := after, guard := gd } (yielded ops a.tmps) = true)
    (ht : ∀ w' : World, w'.cell? ⟨g, k, none⟩ = some v → (loadVar ty ⟨g, k, none⟩).run Tryz.prog w' = .ok v w')
    (hg : ∀ w', C w' → w'.heap[g]? = some (.cells cs t (0, 0))) (hv : cs[k]? = some v) (hK : wpQuiet Tryz.prog ops C Q rest (a.put d v)) : wpQuiet Tryz.prog ops C Q ({ dst := d, op := Op.load ty x, type := tt, pos := pos, after := after, guard := gd } :: rest) a := by
  refine wpQuiet_step fun K hK' => ?_
  rw [if_pos hw]
  refine ⟨v, fun w' hw' => ?_, hK' _ hK⟩
  unfold Oper.quietAt execOp
  simp only [hx, Instr.loadAt, Instr.sureAddr, Sem.run_bind, Sem.run_pure, Result.andThen_ok, ht w' ((cell_of_row w' g k cs t (0, 0) (hg w' hw')).trans hv)]
  exact ⟨rfl, rfl⟩
theorem wd_n {d : Option Nat} {o : Op} {tt : TypeId} {pos : String} {after : Array Edge} {f : Nat → Option Bool} : Region.wanted { dst := d, op := o, type := tt, pos := pos, after := after, guard := none } f = true := by simp [Region.wanted]
theorem lv_int {w : World} {p : Addr} {v : Value} (h : w.cell? p = some v) : (loadVar 3 p).run Tryz.prog w = .ok v w := by
  simp [loadVar, go_sem, h]
theorem lv_u64 {w : World} {p : Addr} {v : Value} (h : w.cell? p = some v) : (loadVar 22 p).run Tryz.prog w = .ok v w := by
  simp [loadVar, go_sem, h]
theorem lv_bool {w : World} {p : Addr} {v : Value} (h : w.cell? p = some v) : (loadVar 4 p).run Tryz.prog w = .ok v w := by
  simp [loadVar, go_sem, h]
end Go.Proofs.YtlfdokkopgmfjaaGreatDoor
namespace Go.Proofs.YtlfdokkopgmfjaaGreatDoor
open Go.RowKit
set_option linter.unusedVariables false
set_option maxRecDepth 100000
theorem wp_c3 {P : Program} {ops : Array Oper} {Q : Exit → Act → World → Prop} {i : Nat} {o : Oper} {K : Act → World → Prop} {a : Act} {w : World} (ho : ops[i]? = some o) (hg : o.guard = none) (f : FuncId) (x y z : Operand) (ts : Array TypeId) (hop : o.op = .call { callee := .value (.func f), args := #[x, y, z], argTypes := ts }) (vx vy vz : Value) (hx : a.eval x = vx) (hy : a.eval y = vy) (hz : a.eval z = vz) (hnf : (callFunc f #[vx, vy, vz]).run P w = .ok (.enter f #[vx, vy, vz]) w) {R : Ending → World → Prop} (hc : Calls P f #[vx, vy, vz] w R)
    (h : ∀ e w', R e w' → ∃ v, e = .returned v ∧ K (a.put o.dst v) w') : wpOp P ops Q i K a w := by
  refine wpOp_step ho fun K' hK => ?_
  rw [if_pos (by simp [Region.wanted, hg])]
  have he : (execOp a.eval o).run P w = .ok (.enter f #[vx, vy, vz]) w := by
    have hf : a.eval (.func f) = .func (.func f) #[] #[] := rfl
    simp [execOp, hop, resolve, invoke, Deferred.ofValue, hf, hx, hy, hz, hnf]
  unfold Oper.wp
  rw [he, Oper.upon_enter]
  refine hc.mono fun e w' hR => ?_
  obtain ⟨v, rfl, hk⟩ := h e w' hR
  exact hK _ _ hk
theorem rm_typ {w : World} {T : Nat → Prop} {r : Nat} {bs : Int} {n : Nat} {h : Nat → Int} (hr : C.RMem w T r bs n h) {b : Nat} {c : Array Value} {t : TypeId} {fr : Nat × Nat} (hb : w.heap[b]? = some (.cells c t fr)) (h1 : t ≠ 61) (h2 : t ≠ 23) (h3 : t ≠ 5) : ¬ T b := by
  obtain ⟨g, hs, hq, _, hT⟩ := hr
  intro q
  rcases (hT b).1 q with rfl | rfl | ⟨i, c', hi⟩
  · have := hq.top; rw [hb] at this; simp at this; exact h1 this.2.1
  · have := hq.tab; rw [hb] at this; simp at this; exact h2 this.2.1
  · obtain ⟨_, cur, hc, _⟩ := hq.full i b c' hi; rw [hb] at hc; simp at hc; exact h3 hc.2.1
/-- bytes that are handed in -/
structure BA (w : World) (ad : Option Addr) (la cap ab ao : Nat) (A : Nat → Int) : Prop where
  len : la ≤ cap
  capB : cap ≤ 9223372036854775807
  nil : ad = none → la = 0 ∧ cap = 0
  at0 : 0 < la → ad = some ⟨ab, ao, none⟩ ∧ ab < w.heap.size
  cell : ∀ i, i < la → w.cell? ⟨ab, ao + i, none⟩ = some (.int .u8 (A i))
  num : ∀ i, 0 ≤ A i ∧ A i < 256
theorem BA.below {w w' : World} {ad : Option Addr} {la cap ab ao : Nat} {A : Nat → Int} (h : BA w ad la cap ab ao A) (hb : Below w.heap.size w w') : BA w' ad la cap ab ao A :=
  ⟨h.len, h.capB, h.nil, fun q => ⟨(h.at0 q).1, Nat.lt_of_lt_of_le (h.at0 q).2 hb.size⟩, fun i hi => by
    rw [← h.cell i hi]; exact Below.cell hb (p := ⟨ab, ao + i, none⟩) (h.at0 (by omega)).2, h.num⟩
/-- blocks of pairs stay -/
def Kt (w w' : World) : Prop := ∀ (b : Nat) (cs : Array Value), w.heap[b]? = some (.cells cs 33 (0, 0)) → w'.heap[b]? = some (.cells cs 33 (0, 0))
theorem Kt.below {w w' : World} (h : Below w.heap.size w w') : Kt w w' := fun b cs hb => (h.block b (lt_of_row hb)).trans hb
theorem Kt.trans {a b c : World} (h : Kt a b) (k : Kt b c) : Kt a c := fun i cs hi => k i cs (h i cs hi)
/-- both memories, their blocks made since W -/
def LW (W w : World) (p r : Nat) (bs : Int) (n : Nat) (f h : Nat → Int) : Prop := ∃ S T, C.Mem w S p bs n f ∧ C.RMem w T r bs n h ∧ (∀ k, S k → ¬ T k) ∧ (∀ k, S k ∨ T k → W.heap.size ≤ k) ∧ Below W.heap.size W w
theorem LW.below {W w w' : World} {p r : Nat} {bs : Int} {n : Nat} {f h : Nat → Int} (H : LW W w p r bs n f h) (hb : Below w.heap.size w w') : LW W w' p r bs n f h := by
  obtain ⟨S, T, h1, h2, h3, h4, h5⟩ := H
  exact ⟨S, T, h1.below hb, h2.below hb, h3, h4, h5.trans (hb.mono h5.size)⟩
theorem l_MFill {W w : World} {p r : Nat} {bs : Int} {n : Nat} {f h : Nat → Int} (H : LW W w p r bs n f h) (len : Nat) (hl : len ≤ 4096 * n) (A : Nat → Int) (hA : ∀ j, 0 ≤ A j ∧ A j < 256) (x : Value) (hx : w.ownsRow W.heap.size 5 1 x len (C.row A 0 len)) (hn : ∀ S, C.Mem w S p bs n f → ∀ k, x.ownBlock = some k → ¬ S k) : Calls Tryz.prog 26 #[.pointer (some ⟨p, 0, none⟩), .int .u64 bs, x] w fun e w' => e = .returned (.bool true) ∧ LW W w' p r bs n (C.put f 0 len A) h ∧ Kt w w' := by
  obtain ⟨S, T, h1, h2, h3, h4, h5⟩ := H
  have key : ∃ ad cap, x = .slice ad len cap ∧ len ≤ cap ∧ ∃ sb so, 0 < len → ad = some ⟨sb, so, none⟩ ∧ sb < w.heap.size ∧ ¬ S sb ∧ ∀ j, j < len → w.cell? ⟨sb, so + j, none⟩ = some (.int .u8 (A j)) := by
    rcases hx.2 with ⟨k1, k2⟩ | ⟨g, cap, cur, rfl, k2, k3, k4, k5, k6, k7⟩
    · exact ⟨none, 0, by rw [k1, k2], by omega, 0, 0, fun z => by omega⟩
    · refine ⟨some ⟨g, 0, none⟩, cap, rfl, k4, g, 0, fun z => ⟨rfl, lt_of_block k3, hn S h1 g rfl, fun j hj => ?_⟩⟩
      rw [cell_of_row w g (0 + j) _ _ _ k3]
      have := C.row_get A 0 len j hj
      rw [← k7, List.getElem?_take, if_pos (by omega)] at this
      simpa using this
  obtain ⟨ad, cap, rfl, hc, hsrc⟩ := key
  refine (C.c_Fill w S p bs n f h1 0 len cap (by omega) hc bs (by omega) ad A hA hsrc).mono fun e w' ⟨S', k1, k2, k3, k4⟩ => ⟨k1, ⟨S', T, k2, h2.only k3 fun k hk hs => h3 k hs hk, fun k hk hT => ?_, fun k hk => ?_, ?_⟩, fun b cs hb => k3.old hb (h1.typ hb (by decide) (by decide) (by decide))⟩
  · rcases k4 k hk with z | z
    · exact h3 k z hT
    · have := h2.lt hT; omega
  · rcases hk with hk | hk
    · rcases k4 k hk with z | z
      · exact h4 k (.inl z)
      · exact Nat.le_trans h5.size z
    · exact h4 k (.inr hk)
  · exact ((C.Only.ofBelow (S := S) h5).trans' k3 fun i hi e => e).below _ (Nat.le_refl _) fun k e => h4 k (.inl e)
theorem l_WFill {W w : World} {p r : Nat} {bs : Int} {n : Nat} {f h : Nat → Int} (H : LW W w p r bs n f h) (ad : Option Addr) (len cap ab ao : Nat) (A : Nat → Int) (hN : BA W ad len cap ab ao A) (hl : len ≤ 4096 * n) : Calls Tryz.prog 28 #[.pointer (some ⟨r, 0, none⟩), .int .u64 bs, .slice ad len cap] w fun e w' => e = .returned (.bool true) ∧ LW W w' p r bs n f (C.put h 0 len A) ∧ Kt w w' := by
  obtain ⟨S, T, h1, h2, h3, h4, h5⟩ := H
  have hN' := hN.below h5
  refine (C.q_Fill w T r bs n h h2 0 len cap (by omega) bs (by omega) ad A hN.num ⟨ab, ao, none⟩ fun z => ⟨(hN'.at0 z).1, (hN'.at0 z).2, fun e => by have := h4 ab (.inr e); have := (hN.at0 z).2; omega, fun j hj => by rw [C.addr_add]; exact hN'.cell j hj⟩).mono fun e w' ⟨T', k1, k2, k3, k4⟩ => ⟨k1, ⟨S, T', h1.only k3 h3, k2, fun k hk hT => ?_, fun k hk => ?_, ?_⟩, fun b cs hb => k3.old hb (rm_typ h2 hb (by decide) (by decide) (by decide))⟩
  · rcases k4 k hT with z | z
    · exact h3 k hk z
    · have := h1.lt hk; omega
  · rcases hk with hk | hk
    · exact h4 k (.inl hk)
    · rcases k4 k hk with z | z
      · exact h4 k (.inr z)
      · exact Nat.le_trans h5.size z
  · exact ((C.Only.ofBelow (S := T) h5).trans' k3 fun i hi e => e).below _ (Nat.le_refl _) fun k e => h4 k (.inr e)
/-- the states of a Fill -/
def MFi (W w0 : World) (p r : Nat) (bs : Int) (n : Nat) (f' h : Nat → Int) (len : Nat) (A : Nat → Int) : Nat → Value → World → Prop
  | 0, _, w => w = w0
  | 1, x, w => w.ownsRow w0.heap.size 5 1 x len (C.row A 0 len) ∧ Below w0.heap.size w0 w
  | _ + 2, _, w => LW W w p r bs n f' h ∧ Kt w0 w
theorem MFi.kt {W w0 w : World} {p r : Nat} {bs : Int} {n : Nat} {f' h : Nat → Int} {len : Nat} {A : Nat → Int} {s : Nat} {x : Value} (hm : MFi W w0 p r bs n f' h len A s x w) : Kt w0 w := by
  match s, hm with
  | 0, hm => obtain rfl : w = w0 := hm; exact fun _ _ h => h
  | 1, hm => exact .below hm.2
  | _ + 2, hm => exact hm.2
set_option maxHeartbeats 2000000 in
theorem l_Fill {W w : World} {p r : Nat} {bs : Int} {n : Nat} {f h : Nat → Int} (H : LW W w p r bs n f h) (ad : Option Addr) (len cap ab ao : Nat) (A : Nat → Int) (hN : BA W ad len cap ab ao A) (hl : len ≤ 4096 * n) : Calls Tryz.prog 11 #[.agg #[.pointer (some ⟨p, 0, none⟩), .pointer (some ⟨r, 0, none⟩)], .int .u64 bs, .slice ad len cap] w fun e w' => e = .returned (.tuple #[]) ∧ LW W w' p r bs n (C.put f 0 len A) (C.put h 0 len A) ∧ Kt w w' := by
  have n1 : n ≤ 1024 := by obtain ⟨S, T, h1, h2, h3, h4, h5⟩ := H; exact h1.nums.2.2.2
  have H0 := hid H
  clear H
  go_enter Tryz.func11, Tryz.ntmps11
  go_upto_region 1 with fail
  obtain ⟨wa, hwa⟩ : ∃ wa, wa = w.alloc (.cells #[.pointer (some ⟨p, 0, none⟩), .pointer (some ⟨r, 0, none⟩)] 33) := ⟨_, rfl⟩
  have HBx : Hid (Below w.heap.size w wa) := hwa ▸ (Below.refl _ _).alloc (Nat.le_refl _) _
  have HA := hid (H0.out.below HBx.out)
  have HT : Hid (C.TB wa w.heap.size p r) := hwa ▸ C.TB.new w p r
  rw [← hwa]
  clear hwa
  obtain ⟨w0, hw0⟩ : ∃ w0, w0 = wa.drew := ⟨_, rfl⟩
  have HB0 : Hid (Below wa.heap.size wa w0) := hw0 ▸ (Below.refl _ _).drew
  refine wp_region_any (by kernel_rfl) ?_
  rw [show ({ wa with drawn := wa.drawn + 1 } : World) = w0 from hw0.symm]
  clear hw0
  have HL0 := hid (HA.out.below HB0.out)
  have HT0 := hid (HT.out.below HB0.out)
  have HKA : Hid (Kt w w0) := (Kt.below HBx.out).trans (.below HB0.out)
  have HNu := hid hN
  have HCB : Hid (∀ w1, Below w0.heap.size w0 w1 → Calls Tryz.prog 27 #[.slice ad len cap] w1 fun e w' => ∃ v, e = .returned v ∧ w'.ownsRow w1.heap.size 5 1 v len (C.row A 0 len) ∧ Below w1.heap.size w1 w') := fun w1 hb => by
    have hN' := (hN.below (by obtain ⟨S, T, h1, h2, h3, h4, h5⟩ := HL0.out; exact h5)).below hb
    exact C.c_CopyBytes w1 ad len cap A ⟨ab, ao, none⟩ (by omega) hN'.nil fun z => ⟨(hN'.at0 z).1, (hN'.at0 z).2, fun j hj => by rw [C.addr_add]; exact hN'.cell j hj⟩
  have HFI : Hid (∀ w1 x, w1.ownsRow w0.heap.size 5 1 x len (C.row A 0 len) → Below w0.heap.size w0 w1 → Calls Tryz.prog 26 #[.pointer (some ⟨p, 0, none⟩), .int .u64 bs, x] w1 fun e w' => e = .returned (.bool true) ∧ LW W w' p r bs n (C.put f 0 len A) h ∧ Kt w1 w') := fun w1 x hx hb => by
    obtain ⟨S, T, h1, h2, h3, h4, h5⟩ := HL0.out
    have h1' := h1.below hb
    refine l_MFill (HL0.out.below hb) len hl A hN.num x ⟨hx.1, ?_⟩ fun S2 hS2 k hk hk2 => ?_
    · rcases hx.2 with z | ⟨g, cp, cur, k1, k2, k3⟩
      · exact .inl z
      · exact .inr ⟨g, cp, cur, k1, Nat.le_trans h5.size k2, k3⟩
    · rcases hx.2 with ⟨z1, z2⟩ | ⟨g, cp, cur, z1, z2, z3, z4⟩
      · rw [z1] at hk; cases hk
      · rw [z1] at hk
        obtain rfl : g = k := by simpa [Value.ownBlock] using hk
        exact hS2.typ z3 (by decide) (by decide) (by decide) hk2
  have HRF : Hid (∀ w1, LW W w1 p r bs n (C.put f 0 len A) h → Calls Tryz.prog 28 #[.pointer (some ⟨r, 0, none⟩), .int .u64 bs, .slice ad len cap] w1 fun e w' => e = .returned (.bool true) ∧ LW W w' p r bs n (C.put f 0 len A) (C.put h 0 len A) ∧ Kt w1 w') := fun w1 h1 => l_WFill h1 ad len cap ab ao A HNu.out hl
  have HCL : Hid (∀ wz x, (∃ s, MFi W w0 p r bs n (C.put f 0 len A) h len A s x wz) → wz.cell? ⟨w.heap.size, 0, none⟩ = some (.pointer (some ⟨p, 0, none⟩))) := fun wz x ⟨s, hm⟩ => C.TB.c0 (hm.kt _ _ HT0.out)
  clear hN n1
  refine wpAny_fz (α := Value) (fun x => fun dd => if dd = 6 then .pointer (some ⟨w.heap.size, 0, none⟩) else if dd = 7 then .pointer (some ⟨p, 0, none⟩) else if dd = 8 then .int .u64 bs else if dd = 9 then .slice ad len cap else if dd = 10 then x else if dd = 11 then .bool true else undef) (VS [4, 5] (MFi W w0 p r bs n (C.put f 0 len A) h len A)) ?step ?fin (.bool true) ?start
  case start => exact .start rfl
  case step =>
    rintro listed fr wr x hF hW hC i hj
    obtain ⟨hl, o, ho, he⟩ := mem_ready.1 hj
    have hjl : i < listed.size := by rw [hF.q.ls]; exact (Array.getElem?_eq_some_iff.1 ho).1
    have hl0 := getD_tf hjl hl
    clear hj
    have HF := hid hF
    have HW := hid hW
    have HE := hid he
    have HC := hid hC
    clear hF hW he hl hC
    match i, ho with
    | 0, ho =>
      obtain rfl := Option.some.inj ho
      have e3 : fr.tmps[3]?.getD undef = .pointer (some ⟨w.heap.size, 0, none⟩) := HF.out.base 3 (by kernel_rfl) rfl
      exact wp_q rfl rfl (by simp [execOp, go_sem, e3]; try rfl) ⟨x, HF.out.put (by kernel_rfl) rfl rfl rfl (of_decide_eq_true rfl), HW.out.q hjl (by decide)⟩
    | 1, ho =>
      obtain rfl := Option.some.inj ho
      have e6 : fr.tmps[6]?.getD undef = .pointer (some ⟨w.heap.size, 0, none⟩) := HF.out.ev (i := 0) rfl rfl (HE.out ⟨0, .data⟩ (by simp) rfl)
      have hc := HCL.out _ _ (by obtain ⟨sS, hs1, hm⟩ := HW.out; exact ⟨sS, hm⟩)
      exact wp_q rfl rfl (by simp [execOp, go_sem, e6, hc]; try rfl) ⟨x, HF.out.put (by kernel_rfl) rfl rfl rfl (of_decide_eq_true rfl), HW.out.q hjl (by decide)⟩
    | 2, ho =>
      obtain rfl := Option.some.inj ho
      have e1 : fr.tmps[1]?.getD undef = .int .u64 bs := HF.out.base 1 (by kernel_rfl) rfl
      exact wp_q rfl rfl (by simp [execOp, go_sem, e1]; try rfl) ⟨x, HF.out.put (by kernel_rfl) rfl rfl rfl (of_decide_eq_true rfl), HW.out.q hjl (by decide)⟩
    | 3, ho =>
      obtain rfl := Option.some.inj ho
      have e2 : fr.tmps[2]?.getD undef = .slice ad len cap := HF.out.base 2 (by kernel_rfl) rfl
      exact wp_q rfl rfl (by simp [execOp, go_sem, e2]; try rfl) ⟨x, HF.out.put (by kernel_rfl) rfl rfl rfl (of_decide_eq_true rfl), HW.out.q hjl (by decide)⟩
    | 4, ho =>
      obtain rfl := Option.some.inj ho
      have e9 : fr.tmps[9]?.getD undef = .slice ad len cap := HF.out.ev (i := 3) rfl rfl (HE.out ⟨3, .data⟩ (by simp) rfl)
      have m0 : wr = w0 := HW.out.at 0 rfl hl0 (fun j hj => by omega)
      subst m0
      refine wp_c1 rfl rfl _ _ _ rfl (.slice ad len cap) (by simp [Act.eval, e9]) (Tryz.call27 _ _) (HCB.out _ (Below.refl _ _)) ?_
      rintro e w7 ⟨v7, rfl, k1, k2⟩
      have HFy : Hid (FrK _ ((fun x : Value => fun dd => if dd = 6 then .pointer (some ⟨w.heap.size, 0, none⟩) else if dd = 7 then .pointer (some ⟨p, 0, none⟩) else if dd = 8 then .int .u64 bs else if dd = 9 then .slice ad len cap else if dd = 10 then x else if dd = 11 then .bool true else undef) v7) _ listed fr) := HF.out.swap (fun j o d g1 g2 g3 => by
        by_cases e : d = 10
        · subst e
          have := ndB_spec (j := j) (k := 4) (d := 10) (by kernel_rfl) g1 rfl g2 rfl
          subst this
          rw [hl0] at g3; cases g3
        · simp [e])
      exact ⟨_, rfl, v7, HFy.out.put (by kernel_rfl) rfl rfl rfl (of_decide_eq_true rfl), HW.out.go 0 hjl rfl hl0 (fun j hj => by omega) (by intro a ha; match a, ha with | 0, _ => rfl | 1, ha => simp at ha) ⟨k1, k2⟩⟩
    | 5, ho =>
      obtain rfl := Option.some.inj ho
      have e7 : fr.tmps[7]?.getD undef = .pointer (some ⟨p, 0, none⟩) := HF.out.ev (i := 1) rfl rfl (HE.out ⟨1, .data⟩ (by simp) rfl)
      have e8 : fr.tmps[8]?.getD undef = .int .u64 bs := HF.out.ev (i := 2) rfl rfl (HE.out ⟨2, .data⟩ (by simp) rfl)
      have e10 : fr.tmps[10]?.getD undef = x := HF.out.ev (i := 4) rfl rfl (HE.out ⟨4, .data⟩ (by simp) rfl)
      have hp := HE.out ⟨4, .data⟩ (by simp) rfl
      obtain ⟨m1, m2⟩ := HW.out.at 1 rfl hl0 (fun j hj => by obtain rfl : j = 0 := (by omega); exact ⟨4, rfl, hp⟩)
      refine wp_c3 rfl rfl _ _ _ _ _ rfl (.pointer (some ⟨p, 0, none⟩)) (.int .u64 bs) x (by simp [Act.eval, e7]) (by simp [Act.eval, e8]) (by simp [Act.eval, e10]) (Tryz.call26 _ _) (HFI.out _ _ m1 m2) ?_
      rintro e w7 ⟨rfl, k1, k2⟩
      exact ⟨_, rfl, x, HF.out.put (by kernel_rfl) rfl rfl rfl (of_decide_eq_true rfl), HW.out.go 1 hjl rfl hl0 (fun j hj => by obtain rfl : j = 0 := (by omega); exact ⟨4, rfl, hp⟩) (by intro a ha; match a, ha with | 0, ha => simp at ha | 1, _ => rfl) ⟨k1, (Kt.below m2).trans k2⟩⟩
  case fin =>
    rintro listed fr w2 x hF hW hr
    have all := allDone hr hF.q.ls (by kernel_rfl)
    obtain ⟨sS, hs1, hm⟩ := hW
    have hs : 2 ≤ sS := by
      have := hs1 1 5 rfl
      rw [all 5 (by decide)] at this
      have : 1 < sS := by simpa using this.symm
      omega
    obtain ⟨s2, rfl⟩ : ∃ s2, sS = s2 + 2 := ⟨sS - 2, by omega⟩
    obtain ⟨m1, m2⟩ := hm
    rw [hF.full all]
    have H5 := hid m1
    have K5 := hid m2
    have d1 := C.TB.c1 (K5.out _ _ HT0.out)
    have hR := HRF.out _ m1
    clear hF hr all m1 m2 hs1 hs HCL
    simp only [List.foldl_cons, List.foldl_nil, fillF]
    go_simp
    go_wp2_with (go_at_call 28; (refine hR.mono ?_); rintro e w9 ⟨rfl, h1, h2⟩; have H9 := hid h1; have K9 := hid h2; clear h1 h2)
    go_end0
    exact ⟨rfl, H9.out, HKA.out.trans (K5.out.trans K9.out)⟩
end Go.Proofs.YtlfdokkopgmfjaaGreatDoor
