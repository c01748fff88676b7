/- A case's memory: its region that draws. -/
import Derived.Test.YtlfdokkopgmfjaaGreatDoorMH3
import Derived.Test.YtlfdokkopgmfjaaGreatDoorWF
namespace Go.Proofs.YtlfdokkopgmfjaaGreatDoor
open Go.RowKit
set_option linter.unusedVariables false
set_option maxRecDepth 100000
theorem FrK.swapD {ops : Array Oper} {vt vt' : Nat → Value} {t0 : Array Value} {listed : Array Bool} {a : Act} (h : FrK ops vt t0 listed a) (hn : ndB ops = true) (hv : ∀ d, vt d = vt' d ∨ ∃ j o, ops[j]? = some o ∧ o.dst = some d ∧ listed.getD j false = false) : FrK ops vt' t0 listed a := h.swap fun j o d hj hd hl => by
  rcases hv d with e | ⟨i, p, hi, hp, hli⟩
  · exact e
  · have := ndB_spec hn hj hi hd hp
    subst this
    rw [hl] at hli; cases hli
theorem not_yet {ops : Array Oper} {listed : Array Bool} (hC : Cl ops listed) {i j : Nat} {o : Oper} (hi : listed.getD i false = false) (ho : ops[j]? = some o) (e : Edge) (he : e ∈ o.after) (hon : e.on = i) (hb : Region.binds .any e = true) : listed.getD j false = false := by
  cases z : listed.getD j false
  · rfl
  · have := hC j o ho z e he hb
    rw [hon, hi] at this; cases this
theorem allDoneB {ops : Array Oper} {listed : Array Bool} (hr : Region.ready .any ops listed = []) (hs : listed.size = ops.size) (hc : ((List.range ops.size).all fun j => (match ops[j]? with | some o => o.after.all fun e => !Region.binds .any e || decide (e.on < j) | none => true)) = true) : ∀ j, j < ops.size → listed.getD j false = true := by
  intro j
  induction j using Nat.strongRecOn with
  | _ j ih =>
    intro hj
    have h1 := List.all_eq_true.1 hc j (by simpa using hj)
    cases z : listed.getD j false with
    | true => rfl
    | false =>
      exfalso
      have hjo : ops[j]? = some ops[j] := by simp [hj]
      rw [hjo] at h1
      have : j ∈ Region.ready .any ops listed := by
        refine mem_ready.2 ⟨?_, ops[j], hjo, fun e he hb => ?_⟩
        · have hjl : j < listed.size := by rw [hs]; exact hj
          simp [hjl] at z ⊢
          exact z
        · have := Array.all_eq_true_iff_forall_mem.1 h1 e he
          have hlt : e.on < j := by simpa [hb] using this
          exact ih e.on hlt (Nat.lt_trans hlt hj)
      rw [hr] at this
      cases this
theorem u_two : Tryz.prog.underlying 33 = some (.struct (Tryz.prog.fieldsOf 33)) := by kernel_rfl
theorem s_two : (Tryz.prog.info? 33).map (·.size) = some 2 := by kernel_rfl
theorem ret_two2 {fn : Func} {p u : Tmp} (hf : fn.results = #[.cell p 33, .tmp u]) {tmps : Array Value} {w : World} (g : Nat) (cs : Array Value) (h2 : cs.size = 2) (b : Bool) (hp : tmps.getD p undef = .pointer (some ⟨g, 0, none⟩)) (hb : tmps.getD u undef = .bool b) (hg : w.heap[g]? = some (.cells cs 33 (0, 0))) : (results fn tmps).run Tryz.prog w = .ok (.tuple #[.agg cs, .bool b]) w := by
  have hp' : tmps[p]?.getD undef = .pointer (some ⟨g, 0, none⟩) := by simpa using hp
  have hb' : tmps[u]?.getD undef = .bool b := by simpa using hb
  simp [results, hf, hp', hb', asAddr, run_loadVar_row w g 33 33 cs (0, 0) (.struct (Tryz.prog.fieldsOf 33)) hg u_two rfl (by rw [s_two, h2])]
theorem lw_end {W W' w : World} {p r : Nat} {bs : Int} {n : Nat} {f h : Nat → Int} (H : LW W' w p r bs n f h) (hb : Below W.heap.size W W') {g : Nat} {cs cs' : Array Value} (hg : w.heap[g]? = some (.cells cs 33 (0, 0))) (hgw : W.heap.size ≤ g) : LW W (w.setRow g cs') p r bs n f h := by
  obtain ⟨S, T, h1, h2, h3, h4, h5⟩ := H
  have hS : ¬ S g := h1.typ hg (by decide) (by decide) (by decide)
  have hT : ¬ T g := rm_typ h2 hg (by decide) (by decide) (by decide)
  have hO : C.Only (· = g) w (w.setRow g cs') := ⟨rfl, rfl, rfl, by simp [World.setRow], fun k _ hk => setRow_other _ _ _ _ hk⟩
  exact ⟨S, T, h1.only hO fun k hk e => hS (e ▸ hk), h2.only hO fun k hk e => hT (e ▸ hk), h3, fun k hk => Nat.le_trans hb.size (h4 k hk), below_setRow (hb.trans (h5.mono hb.size)) hgw _⟩
/-- the states of the region: memory made or not, a pair's block made or not, filled or not -/
structure VM (w0 : World) (bs : Int) (n : Nat) (F : Nat → Int) (x : Nat × Nat × Nat) (listed : Array Bool) (w : World) : Prop where
  bel : Below w0.heap.size w0 w
  mem : listed.getD 7 false = true → ∃ U, C.TwB w U x.1 x.2.1 bs n F ∧ ∀ k, U k → w0.heap.size ≤ k
  al : listed.getD 11 false = true → w0.heap.size ≤ x.2.2 ∧ w.heap[x.2.2]? = some (.cells (if listed.getD 12 false = true then #[.pointer (some ⟨x.1, 0, none⟩), .pointer (some ⟨x.2.1, 0, none⟩)] else #[.pointer none, .pointer none]) 33 (0, 0))
section
variable {w0 w w' : World} {bs : Int} {n : Nat} {F : Nat → Int} {x : Nat × Nat × Nat} {listed : Array Bool}
theorem rep_f (n j : Nat) : (Array.replicate n false).getD j false = false := by
  simp only [Array.getD_eq_getD_getElem?, Array.getElem?_replicate]
  split <;> rfl
theorem VM.start (m : Nat) : VM w0 bs n F x (Array.replicate m false) w0 := ⟨.refl _ _, fun a => absurd ((rep_f m 7).symm.trans a) (by decide), fun a => absurd ((rep_f m 11).symm.trans a) (by decide)⟩
theorem VM.q (h : VM w0 bs n F x listed w) {j : Nat} (hj : j < listed.size) (n1 : 7 ≠ j) (n2 : 11 ≠ j) (n3 : 12 ≠ j) : VM w0 bs n F x (listed.setIfInBounds j true) w := by
  refine ⟨h.bel, fun a => ?_, fun a => ?_⟩
  · rw [getD_set _ _ _ hj, if_neg n1] at a; exact h.mem a
  · rw [getD_set _ _ _ hj, if_neg n2] at a
    rw [getD_set _ _ _ hj, if_neg n3]
    exact h.al a
theorem VM.cell (h : VM w0 bs n F x listed w) {c : Nat} (hc : c < w0.heap.size) (o : Nat) : w.cell? ⟨c, o, none⟩ = w0.cell? ⟨c, o, none⟩ := Below.cell h.bel (p := ⟨c, o, none⟩) hc
theorem VM.doM (h : VM w0 bs n F x listed w) {p q : Nat} {U : Nat → Prop} (hj : 7 < listed.size) (h12 : listed.getD 12 false = false) (k1 : Below w.heap.size w w') (k2 : C.TwB w' U p q bs n F) (k3 : ∀ k, U k → w.heap.size ≤ k) : VM w0 bs n F (p, q, x.2.2) (listed.setIfInBounds 7 true) w' := by
  refine ⟨h.bel.trans (k1.mono h.bel.size), fun _ => ⟨U, k2, fun k hk => Nat.le_trans h.bel.size (k3 k hk)⟩, fun a => ?_⟩
  rw [getD_set _ _ _ hj, if_neg (by decide)] at a
  have e12 : (listed.setIfInBounds 7 true).getD 12 false = false := by rw [getD_set _ _ _ hj, if_neg (by decide)]; exact h12
  rw [if_neg (by rw [e12]; decide)]
  obtain ⟨m1, m2⟩ := h.al a
  rw [if_neg (by rw [h12]; decide)] at m2
  exact ⟨m1, (k1.block _ (lt_of_row m2)).trans m2⟩
theorem VM.doA (h : VM w0 bs n F x listed w) (hj : 11 < listed.size) (h12 : listed.getD 12 false = false) : VM w0 bs n F (x.1, x.2.1, w.heap.size) (listed.setIfInBounds 11 true) (w.alloc (.cells #[.pointer none, .pointer none] 33)) := by
  refine ⟨h.bel.alloc h.bel.size _, fun a => ?_, fun _ => ?_⟩
  · rw [getD_set _ _ _ hj, if_neg (by decide)] at a
    obtain ⟨U, m1, m2⟩ := h.mem a
    exact ⟨U, m1.below ((Below.refl _ _).alloc (Nat.le_refl _) _), m2⟩
  · have e12 : (listed.setIfInBounds 11 true).getD 12 false = false := by rw [getD_set _ _ _ hj, if_neg (by decide)]; exact h12
    rw [if_neg (by rw [e12]; decide)]
    exact ⟨h.bel.size, heap_alloc_new _ _⟩
theorem VM.doS (h : VM w0 bs n F x listed w) (hj : 12 < listed.size) (h7 : listed.getD 7 false = true) (h11 : listed.getD 11 false = true) : VM w0 bs n F x (listed.setIfInBounds 12 true) (w.setRow x.2.2 #[.pointer (some ⟨x.1, 0, none⟩), .pointer (some ⟨x.2.1, 0, none⟩)]) := by
  obtain ⟨m1, m2⟩ := h.al h11
  refine ⟨below_setRow h.bel m1 _, fun _ => ?_, fun _ => ?_⟩
  · obtain ⟨U, m3, m4⟩ := h.mem h7
    obtain ⟨S, T, k1, k2, k3, k4⟩ := m3
    have hS : ¬ S x.2.2 := k1.typ m2 (by decide) (by decide) (by decide)
    have hT : ¬ T x.2.2 := rm_typ k2 m2 (by decide) (by decide) (by decide)
    have hO : C.Only (· = x.2.2) w (w.setRow x.2.2 #[.pointer (some ⟨x.1, 0, none⟩), .pointer (some ⟨x.2.1, 0, none⟩)]) := ⟨rfl, rfl, rfl, by simp [World.setRow], fun k _ hk => setRow_other _ _ _ _ hk⟩
    exact ⟨U, ⟨S, T, k1.only hO fun k hk e => hS (e ▸ hk), k2.only hO fun k hk e => hT (e ▸ hk), k3, k4⟩, m4⟩
  · rw [getD_set _ _ _ hj, if_pos rfl, if_pos rfl]
    exact ⟨m1, setRow_heap _ _ _ _ _ _ m2⟩
end
set_option maxHeartbeats 4000000 in
theorem c_mem (w : World) (cs : Array Value) (b0 fr0 : Int) (ad0 : Option Addr) (la0 cap0 ab0 ao0 : Nat) (A : Nat → Int) (hA : BA w ad0 la0 cap0 ab0 ao0 A) (ad : Option Addr) (la cap ab ao : Nat) (X : Nat → Int × Int) (hX : C.Cl w ad la cap ab ao X)
    (B0 : 0 ≤ b0 ∧ b0 < 18446744073709551616) (F0 : -9223372036854775808 ≤ fr0 ∧ fr0 ≤ 9223372036854775807)
    (g0 : cs[0]? = some (.int .u64 b0)) (g1 : cs[1]? = some (.int .i64 fr0)) (g2 : cs[2]? = some (.slice ad0 la0 cap0)) (g3 : cs[3]? = some (.slice ad la cap)) :
    Calls Tryz.prog 4 #[.agg cs] w fun e w' => ∃ p r bs n G, e = .returned (.tuple #[.agg #[.pointer (some ⟨p, 0, none⟩), .pointer (some ⟨r, 0, none⟩)], .bool true]) ∧ LW w w' p r bs n G G := by
  obtain ⟨bs, hbs⟩ : ∃ bs, bs = b0 % 1099511627776 / 4096 * 4096 := ⟨_, rfl⟩
  obtain ⟨n, hn⟩ : ∃ n : Nat, (n : Int) = 1 + fr0 % 8 := ⟨(1 + fr0 % 8).toNat, by omega⟩
  obtain ⟨c, hc⟩ : ∃ c, c = w.heap.size := ⟨_, rfl⟩
  obtain ⟨w0, hw0⟩ : ∃ w0, w0 = (w.alloc (.cells cs 29)).alloc (.cells #[.pointer none, .pointer none] 33) := ⟨_, rfl⟩
  have P0 : Hid (w0.heap[c]? = some (.cells cs 29 (0, 0))) := by show _ = _; rw [hw0, hc]; exact heap2 _ _ _
  have P1 : Hid (w0.heap[c + 1]? = some (.cells #[.pointer none, .pointer none] 33 (0, 0))) := by show _ = _; rw [hw0, hc]; exact heap2' _ _ _
  have HW0 : Hid (Below w.heap.size w w0) := by show Below _ _ _; rw [hw0]; exact below2 _ _
  have HWA := hid hw0
  have HCC := hid hc
  have x0 := (cell_of_row _ _ 0 _ _ _ P0.out).trans g0
  have x1 := (cell_of_row _ _ 1 _ _ _ P0.out).trans g1
  have x3 := (cell_of_row _ _ 3 _ _ _ P0.out).trans g3
  have hlt := lt_of_row P0.out
  have HX0 : Hid (C.Cl w0 ad la cap ab ao X) := C.Cl.below hX HW0.out
  have HA0 : Hid (BA w0 ad0 la0 cap0 ab0 ao0 A) := hA.below HW0.out
  have HBS : Hid (b0 % 1099511627776 / 4096 * 4096 = bs) := hbs.symm
  have HBB : Hid (0 ≤ bs ∧ bs ≤ 1099511627776 ∧ bs % 4096 = 0) := by show _ ∧ _ ∧ _; omega
  have HNB : Hid (0 < n ∧ n ≤ 8) := by show _ ∧ _; omega
  have HNN : Hid (IntKind.i64.wrap (1 + fr0 % 8) = (n : Int)) := by
    show _ = _
    rw [IntKind.wrap_i64]
    omega
  have HF0 := hid F0
  have HP2 : Hid (w0.heap[c]? = some (.cells cs 29 (0, 0))) := P0.out
  have HG2 := hid g2
  obtain ⟨b00, b01⟩ := B0
  clear hc hw0 hbs hn hX hA F0 g0 g1 g2 g3
  go_enter Tryz.func4, Tryz.ntmps4
  go_upto_region 1 with (fail)
  have hcc := HCC.out
  have hwa := HWA.out
  rw [← hcc, ← hwa]
  clear hcc hwa
  go_upto_region 2 with (fail)
  have hbs := HBS.out
  rw [hbs]
  clear hbs b00 b01
  have HPL : Hid (∀ u, Calls Tryz.prog 10 #[.int .i64 fr0, .int .i64 8] u fun e w' => e = .returned (.int .i64 (fr0 % 8)) ∧ w' = u) := fun u => C.c_Place fr0 8 (by decide) (by decide) HF0.out.1 HF0.out.2 u
  obtain ⟨wz, hwz⟩ : ∃ wz, wz = w0.drew := ⟨_, rfl⟩
  have HB0 : Hid (Below w0.heap.size w0 wz) := hwz ▸ (Below.refl _ _).drew
  refine wp_region_any (by kernel_rfl) ?_
  rw [show ({ w0 with drawn := w0.drawn + 1 } : World) = wz from hwz.symm]
  clear hwz
  have HCB : Hid (c < wz.heap.size ∧ wz.cell? ⟨c, 1, none⟩ = some (.int .i64 fr0) ∧ wz.cell? ⟨c, 3, none⟩ = some (.slice ad la cap)) := ⟨Nat.lt_of_lt_of_le hlt HB0.out.size, (Below.cell HB0.out (p := ⟨c, 1, none⟩) hlt).trans x1, (Below.cell HB0.out (p := ⟨c, 3, none⟩) hlt).trans x3⟩
  have HME : Hid (∀ u, Below wz.heap.size wz u → Calls Tryz.prog 9 #[.int .u64 bs, .int .i64 (n : Int), .slice ad la cap] u fun r w' => ∃ p q U, r = .returned (.tuple #[.agg #[.pointer (some ⟨p, 0, none⟩), .pointer (some ⟨q, 0, none⟩)], .bool true]) ∧ C.TwB w' U p q bs n (C.fcl n X la) ∧ Below u.heap.size u w' ∧ ∀ k, U k → u.heap.size ≤ k) := fun u hu => C.c_MemoryB u bs HBB.out.1 HBB.out.2.1 HBB.out.2.2 n HNB.out.1 (by have := HNB.out.2; omega) ad la cap ab ao X (C.Cl.below (C.Cl.below HX0.out HB0.out) hu)
  obtain ⟨F, hF0⟩ : ∃ F, F = C.fcl n X la := ⟨_, rfl⟩
  rw [← hF0] at HME
  clear hF0 x0 x1 x3 hlt
  refine wpAny_fz (α := Nat × Nat × Nat) (fun x => fun dd => if dd = 14 then .int .u64 bs else if dd = 15 then .pointer (some ⟨c, 1, none⟩) else if dd = 16 then .int .i64 fr0 else if dd = 17 then .int .i64 (fr0 % 8) else if dd = 18 then .int .i64 (n : Int) else if dd = 19 then .pointer (some ⟨c, 3, none⟩) else if dd = 20 then .slice ad la cap else if dd = 21 then .tuple #[.agg #[.pointer (some ⟨x.1, 0, none⟩), .pointer (some ⟨x.2.1, 0, none⟩)], .bool true] else if dd = 13 then .tuple #[.agg #[.pointer (some ⟨x.1, 0, none⟩), .pointer (some ⟨x.2.1, 0, none⟩)], .bool true] else if dd = 22 then .agg #[.pointer (some ⟨x.1, 0, none⟩), .pointer (some ⟨x.2.1, 0, none⟩)] else if dd = 23 then .bool true else if dd = 5 then .pointer (some ⟨x.2.2, 0, none⟩) else if dd = 6 then .bool true else undef) (fun x => VM wz bs n F x) ?step ?fin (0, 0, 0) ?start
  case start => exact VM.start _
  case step =>
    rintro listed fr wr x hF hW hC i hj
    obtain ⟨hl, o, ho, he⟩ := mem_ready.1 hj
    have hjl : i < listed.size := by rw [hF.q.ls]; exact (Array.getElem?_eq_some_iff.1 ho).1
    have hl0 := getD_tf hjl hl
    clear hj
    have HF := hid hF
    have HW := hid hW
    have HE := hid he
    have HC := hid hC
    clear hF hW he hl hC
    match i, ho with
    | 0, ho =>
      obtain rfl := Option.some.inj ho
      have e4 : fr.tmps[4]?.getD undef = .int .u64 bs := HF.out.base 4 (by kernel_rfl) rfl
      exact wp_q rfl rfl (by simp [execOp, go_sem, e4]; try rfl) ⟨x, HF.out.put (by kernel_rfl) rfl rfl rfl (of_decide_eq_true rfl), HW.out.q hjl (by decide) (by decide) (by decide)⟩
    | 1, ho =>
      obtain rfl := Option.some.inj ho
      have e1 : fr.tmps[1]?.getD undef = .pointer (some ⟨c, 0, none⟩) := HF.out.base 1 (by kernel_rfl) rfl
      exact wp_q rfl rfl (by simp [execOp, go_sem, e1]; try rfl) ⟨x, HF.out.put (by kernel_rfl) rfl rfl rfl (of_decide_eq_true rfl), HW.out.q hjl (by decide) (by decide) (by decide)⟩
    | 2, ho =>
      obtain rfl := Option.some.inj ho
      have e15 : fr.tmps[15]?.getD undef = .pointer (some ⟨c, 1, none⟩) := HF.out.ev (i := 1) rfl rfl (HE.out ⟨1, .data⟩ (by simp) rfl)
      have hc := (HW.out.cell (HCB.out.1) 1).trans (HCB.out.2.1)
      exact wp_q rfl rfl (by simp [execOp, go_sem, e15, hc]; try rfl) ⟨x, HF.out.put (by kernel_rfl) rfl rfl rfl (of_decide_eq_true rfl), HW.out.q hjl (by decide) (by decide) (by decide)⟩
    | 3, ho =>
      obtain rfl := Option.some.inj ho
      have e16 : fr.tmps[16]?.getD undef = .int .i64 fr0 := HF.out.ev (i := 2) rfl rfl (HE.out ⟨2, .data⟩ (by simp) rfl)
      refine wp_c2 rfl rfl 10 _ _ _ rfl (.int .i64 fr0) (.int .i64 8) (by simp [Act.eval, e16]) (by simp [Act.eval]) (Tryz.call10 _ _) (HPL.out wr) ?_
      rintro e' w7 ⟨rfl, rfl⟩
      exact ⟨_, rfl, x, HF.out.put (by kernel_rfl) rfl rfl rfl (of_decide_eq_true rfl), HW.out.q hjl (by decide) (by decide) (by decide)⟩
    | 4, ho =>
      obtain rfl := Option.some.inj ho
      have e17 : fr.tmps[17]?.getD undef = .int .i64 (fr0 % 8) := HF.out.ev (i := 3) rfl rfl (HE.out ⟨3, .data⟩ (by simp) rfl)
      exact wp_q (v := .int .i64 (n : Int)) rfl rfl (by simp [execOp, go_sem, e17, HNN.out]; try rfl) ⟨x, HF.out.put (by kernel_rfl) rfl rfl rfl (of_decide_eq_true rfl), HW.out.q hjl (by decide) (by decide) (by decide)⟩
    | 5, ho =>
      obtain rfl := Option.some.inj ho
      have e1 : fr.tmps[1]?.getD undef = .pointer (some ⟨c, 0, none⟩) := HF.out.base 1 (by kernel_rfl) rfl
      exact wp_q rfl rfl (by simp [execOp, go_sem, e1]; try rfl) ⟨x, HF.out.put (by kernel_rfl) rfl rfl rfl (of_decide_eq_true rfl), HW.out.q hjl (by decide) (by decide) (by decide)⟩
    | 6, ho =>
      obtain rfl := Option.some.inj ho
      have e19 : fr.tmps[19]?.getD undef = .pointer (some ⟨c, 3, none⟩) := HF.out.ev (i := 5) rfl rfl (HE.out ⟨5, .data⟩ (by simp) rfl)
      have hc := (HW.out.cell (HCB.out.1) 3).trans (HCB.out.2.2)
      exact wp_q rfl rfl (by simp [execOp, go_sem, e19, hc]; try rfl) ⟨x, HF.out.put (by kernel_rfl) rfl rfl rfl (of_decide_eq_true rfl), HW.out.q hjl (by decide) (by decide) (by decide)⟩
    | 7, ho =>
      obtain rfl := Option.some.inj ho
      have e14 : fr.tmps[14]?.getD undef = .int .u64 bs := HF.out.ev (i := 0) rfl rfl (HE.out ⟨0, .data⟩ (by simp) rfl)
      have e18 : fr.tmps[18]?.getD undef = .int .i64 (n : Int) := HF.out.ev (i := 4) rfl rfl (HE.out ⟨4, .data⟩ (by simp) rfl)
      have e20 : fr.tmps[20]?.getD undef = .slice ad la cap := HF.out.ev (i := 6) rfl rfl (HE.out ⟨6, .data⟩ (by simp) rfl)
      refine wp_c3 rfl rfl 9 _ _ _ _ rfl (.int .u64 bs) (.int .i64 (n : Int)) (.slice ad la cap) (by simp [Act.eval, e14]) (by simp [Act.eval, e18]) (by simp [Act.eval, e20]) (Tryz.call9 _ _) (HME.out wr HW.out.bel) ?_
      rintro e' w7 ⟨p, q, U, rfl, k1, k2, k3⟩
      have n8 : listed.getD 8 false = false := not_yet HC.out (i := 7) (j := 8) hl0 rfl ⟨7, .data⟩ (by simp) rfl rfl
      have n9 : listed.getD 9 false = false := not_yet HC.out (i := 8) (j := 9) n8 rfl ⟨8, .data⟩ (by simp) rfl rfl
      have n12 : listed.getD 12 false = false := not_yet HC.out (i := 9) (j := 12) n9 rfl ⟨9, .data⟩ (by simp) rfl rfl
      have hsw := HF.out.swapD (vt' := (fun x : Nat × Nat × Nat => fun dd => if dd = 14 then .int .u64 bs else if dd = 15 then .pointer (some ⟨c, 1, none⟩) else if dd = 16 then .int .i64 fr0 else if dd = 17 then .int .i64 (fr0 % 8) else if dd = 18 then .int .i64 (n : Int) else if dd = 19 then .pointer (some ⟨c, 3, none⟩) else if dd = 20 then .slice ad la cap else if dd = 21 then .tuple #[.agg #[.pointer (some ⟨x.1, 0, none⟩), .pointer (some ⟨x.2.1, 0, none⟩)], .bool true] else if dd = 13 then .tuple #[.agg #[.pointer (some ⟨x.1, 0, none⟩), .pointer (some ⟨x.2.1, 0, none⟩)], .bool true] else if dd = 22 then .agg #[.pointer (some ⟨x.1, 0, none⟩), .pointer (some ⟨x.2.1, 0, none⟩)] else if dd = 23 then .bool true else if dd = 5 then .pointer (some ⟨x.2.2, 0, none⟩) else if dd = 6 then .bool true else undef) (p, q, x.2.2)) (by kernel_rfl) (fun d => by
        by_cases z1 : d = 21
        · subst z1; exact .inr ⟨7, _, rfl, rfl, hl0⟩
        by_cases z2 : d = 13
        · subst z2; exact .inr ⟨8, _, rfl, rfl, n8⟩
        by_cases z3 : d = 22
        · subst z3; exact .inr ⟨9, _, rfl, rfl, n9⟩
        left
        simp only [if_neg z1, if_neg z2, if_neg z3])
      exact ⟨_, rfl, (p, q, x.2.2), hsw.put (by kernel_rfl) rfl rfl rfl (of_decide_eq_true rfl), HW.out.doM hjl n12 k2 k1 k3⟩
    | 8, ho =>
      obtain rfl := Option.some.inj ho
      have e21 : fr.tmps[21]?.getD undef = .tuple #[.agg #[.pointer (some ⟨x.1, 0, none⟩), .pointer (some ⟨x.2.1, 0, none⟩)], .bool true] := HF.out.ev (i := 7) rfl rfl (HE.out ⟨7, .data⟩ (by simp) rfl)
      exact wp_q rfl rfl (by simp [execOp, go_sem, e21]; try rfl) ⟨x, HF.out.put (by kernel_rfl) rfl rfl rfl (of_decide_eq_true rfl), HW.out.q hjl (by decide) (by decide) (by decide)⟩
    | 9, ho =>
      obtain rfl := Option.some.inj ho
      have e13 : fr.tmps[13]?.getD undef = .tuple #[.agg #[.pointer (some ⟨x.1, 0, none⟩), .pointer (some ⟨x.2.1, 0, none⟩)], .bool true] := HF.out.ev (i := 8) rfl rfl (HE.out ⟨8, .data⟩ (by simp) rfl)
      exact wp_q rfl rfl (by simp [execOp, go_sem, e13]; try rfl) ⟨x, HF.out.put (by kernel_rfl) rfl rfl rfl (of_decide_eq_true rfl), HW.out.q hjl (by decide) (by decide) (by decide)⟩
    | 10, ho =>
      obtain rfl := Option.some.inj ho
      have e13 : fr.tmps[13]?.getD undef = .tuple #[.agg #[.pointer (some ⟨x.1, 0, none⟩), .pointer (some ⟨x.2.1, 0, none⟩)], .bool true] := HF.out.ev (i := 8) rfl rfl (HE.out ⟨8, .data⟩ (by simp) rfl)
      exact wp_q rfl rfl (by simp [execOp, go_sem, e13]; try rfl) ⟨x, HF.out.put (by kernel_rfl) rfl rfl rfl (of_decide_eq_true rfl), HW.out.q hjl (by decide) (by decide) (by decide)⟩
    | 11, ho =>
      obtain rfl := Option.some.inj ho
      have n12 : listed.getD 12 false = false := not_yet HC.out (i := 11) (j := 12) hl0 rfl ⟨11, .data⟩ (by simp) rfl rfl
      have hsw := HF.out.swapD (vt' := (fun x : Nat × Nat × Nat => fun dd => if dd = 14 then .int .u64 bs else if dd = 15 then .pointer (some ⟨c, 1, none⟩) else if dd = 16 then .int .i64 fr0 else if dd = 17 then .int .i64 (fr0 % 8) else if dd = 18 then .int .i64 (n : Int) else if dd = 19 then .pointer (some ⟨c, 3, none⟩) else if dd = 20 then .slice ad la cap else if dd = 21 then .tuple #[.agg #[.pointer (some ⟨x.1, 0, none⟩), .pointer (some ⟨x.2.1, 0, none⟩)], .bool true] else if dd = 13 then .tuple #[.agg #[.pointer (some ⟨x.1, 0, none⟩), .pointer (some ⟨x.2.1, 0, none⟩)], .bool true] else if dd = 22 then .agg #[.pointer (some ⟨x.1, 0, none⟩), .pointer (some ⟨x.2.1, 0, none⟩)] else if dd = 23 then .bool true else if dd = 5 then .pointer (some ⟨x.2.2, 0, none⟩) else if dd = 6 then .bool true else undef) (x.1, x.2.1, wr.heap.size)) (by kernel_rfl) (fun d => by
        by_cases z1 : d = 5
        · subst z1; exact .inr ⟨11, _, rfl, rfl, hl0⟩
        left
        simp only [if_neg z1])
      exact wp_q (v := .pointer (some ⟨wr.heap.size, 0, none⟩)) (w' := wr.alloc (.cells #[.pointer none, .pointer none] 33)) rfl rfl (by simp [execOp, go_sem]; try rfl) ⟨(x.1, x.2.1, wr.heap.size), hsw.put (by kernel_rfl) rfl rfl rfl (of_decide_eq_true rfl), HW.out.doA hjl n12⟩
    | 12, ho =>
      obtain rfl := Option.some.inj ho
      have e5 : fr.tmps[5]?.getD undef = .pointer (some ⟨x.2.2, 0, none⟩) := HF.out.ev (i := 11) rfl rfl (HE.out ⟨11, .data⟩ (by simp) rfl)
      have e22 : fr.tmps[22]?.getD undef = .agg #[.pointer (some ⟨x.1, 0, none⟩), .pointer (some ⟨x.2.1, 0, none⟩)] := HF.out.ev (i := 9) rfl rfl (HE.out ⟨9, .data⟩ (by simp) rfl)
      have d7 := HE.out ⟨7, .chain⟩ (by simp) rfl
      have d11 := HE.out ⟨11, .data⟩ (by simp) rfl
      obtain ⟨k1, k2⟩ := HW.out.al d11
      rw [if_neg (by rw [hl0]; decide)] at k2
      exact wpOp_store_sub rfl x.2.2 0 (by simp [Act.eval, e5]) 33 _ #[.pointer (some ⟨x.1, 0, none⟩), .pointer (some ⟨x.2.1, 0, none⟩)] #[.pointer (some ⟨x.1, 0, none⟩), .pointer (some ⟨x.2.1, 0, none⟩)] (by simp [Act.eval, e22]) k2 rfl (Nat.le_refl 2) (by simp [Value.oneCell']) s_two ⟨x, (by have hs := HF.out.skip (j := 12) rfl rfl undef; exact hs), HW.out.doS hjl d7 d11⟩
    | 13, ho =>
      obtain rfl := Option.some.inj ho
      have e23 : fr.tmps[23]?.getD undef = .bool true := HF.out.ev (i := 10) rfl rfl (HE.out ⟨10, .data⟩ (by simp) rfl)
      exact wp_q rfl rfl (by simp [execOp, go_sem, e23]; try rfl) ⟨x, HF.out.put (by kernel_rfl) rfl rfl rfl (of_decide_eq_true rfl), HW.out.q hjl (by decide) (by decide) (by decide)⟩
  case fin =>
    rintro listed fr w2 x hF hW hr
    have all := allDoneB hr hF.q.ls (by kernel_rfl)
    have m7 := hW.mem (all 7 (by decide))
    have m11 := hW.al (all 11 (by decide))
    rw [if_pos (all 12 (by decide))] at m11
    have mb := hW.bel
    rw [hF.full all]
    obtain ⟨p, r, k⟩ := x
    obtain ⟨U, m1, m2⟩ := m7
    obtain ⟨k1, k2⟩ := m11
    have HL : Hid (LW wz w2 p r bs n F F) := by
      obtain ⟨S, T, q1, q2, q3, q4⟩ := m1
      exact ⟨S, T, q1, q2, q4, fun j hj => m2 j ((q3 j).2 hj), mb⟩
    have HK : Hid (w2.heap[k]? = some (.cells #[.pointer (some ⟨p, 0, none⟩), .pointer (some ⟨r, 0, none⟩)] 33 (0, 0))) := k2
    have HQ : Hid (w2.heap[c + 1]? = some (.cells #[.pointer none, .pointer none] 33 (0, 0))) := by
      have hz := (HB0.out.block _ (lt_of_row P1.out)).trans P1.out
      exact (mb.block _ (lt_of_row hz)).trans hz
    have x2 : w2.cell? ⟨c, 2, none⟩ = some (.slice ad0 la0 cap0) := by
      have hz := (HB0.out.block _ (lt_of_row P0.out)).trans P0.out
      exact (cell_of_row _ _ 2 _ _ _ ((mb.block _ (lt_of_row hz)).trans hz)).trans HG2.out
    have y0 : w2.cell? ⟨k, 0, none⟩ = some (.pointer (some ⟨p, 0, none⟩)) := cell_of_row _ _ 0 _ _ _ HK.out
    have y1 : w2.cell? ⟨k, 1, none⟩ = some (.pointer (some ⟨r, 0, none⟩)) := cell_of_row _ _ 1 _ _ _ HK.out
    have HBA : Hid (BA wz ad0 la0 cap0 ab0 ao0 A) := HA0.out.below HB0.out
    have HWZ : Hid (Below w.heap.size w wz) := bT HW0.out HB0.out
    have hcw : w.heap.size ≤ c := by rw [HCC.out]; exact Nat.le_refl _
    have HCW := hid hcw
    clear hF all hr m1 m2 k1 k2 mb hW hcw
    simp only [List.foldl_cons, List.foldl_nil, fillF]
    by_cases hq : la0 ≤ 4096
    · have HFL : Hid (Calls Tryz.prog 11 #[.agg #[.pointer (some ⟨p, 0, none⟩), .pointer (some ⟨r, 0, none⟩)], .int .u64 bs, .slice ad0 la0 cap0] w2 fun e w' => e = .returned (.tuple #[]) ∧ LW wz w' p r bs n (C.put F 0 la0 A) (C.put F 0 la0 A) ∧ Kt w2 w') := l_Fill HL.out ad0 la0 cap0 ab0 ao0 A HBA.out (by have := HNB.out; omega)
      have hq2 : ¬ (4096 : Int) < (la0 : Int) := by omega
      clear hq
      go_simp
      go_wp2_with (first
        | (go_at_call 11; refine HFL.out.mono ?_; rintro r' w3 ⟨rfl, h1, h2⟩; have H3 := hid h1; have HK3 := hid (h2 _ _ HK.out); have HQ3 := hid (h2 _ _ HQ.out); have z0 : w3.cell? ⟨k, 0, none⟩ = some (.pointer (some ⟨p, 0, none⟩)) := cell_of_row _ _ 0 _ _ _ HK3.out; have z1 : w3.cell? ⟨k, 1, none⟩ = some (.pointer (some ⟨r, 0, none⟩)) := cell_of_row _ _ 1 _ _ _ HK3.out; clear h1 h2)
        | ((with_reducible refine wpL_store_sub (x := .tmp 2) (y := .tmp 38) (c + 1) 0 33 #[.pointer none, .pointer none] #[.pointer (some ⟨p, 0, none⟩), .pointer (some ⟨r, 0, none⟩)] #[.pointer (some ⟨p, 0, none⟩), .pointer (some ⟨r, 0, none⟩)] ?_ ?_ HQ3.out ?_ ?_ ?_ ?_ ?_); rfl; rfl; rfl; exact (Nat.le_refl 2); (simp [Value.oneCell']); exact s_two))
      exact bodyPost_ret (ret_two2 Tryz.results4 (c + 1) #[.pointer (some ⟨p, 0, none⟩), .pointer (some ⟨r, 0, none⟩)] rfl true rfl rfl (setRow_heap _ _ _ _ _ _ HQ3.out)) rfl ⟨p, r, bs, n, _, rfl, lw_end H3.out HWZ.out HQ3.out (by have := HCW.out; omega)⟩
    · have hb := HBA.out
      have hsl : ad0 = some ⟨ab0, ao0, none⟩ := (hb.at0 (by omega)).1
      have HFL : Hid (Calls Tryz.prog 11 #[.agg #[.pointer (some ⟨p, 0, none⟩), .pointer (some ⟨r, 0, none⟩)], .int .u64 bs, .slice ad0 4096 cap0] w2 fun e w' => e = .returned (.tuple #[]) ∧ LW wz w' p r bs n (C.put F 0 4096 A) (C.put F 0 4096 A) ∧ Kt w2 w') := l_Fill HL.out ad0 4096 cap0 ab0 ao0 A ⟨by have := hb.len; omega, hb.capB, fun e => (by rw [hsl] at e; cases e), fun _ => hb.at0 (by omega), fun i hi => hb.cell i (by omega), hb.num⟩ (by have := HNB.out; omega)
      have hq2 : (4096 : Int) < (la0 : Int) := by omega
      have hq3 : 4096 ≤ la0 := by omega
      have hq4 : 4096 ≤ cap0 := by have := hb.len; omega
      rw [hsl] at HFL x2
      clear hq hb
      go_simp
      go_wp2_with (first
        | (go_at_call 11; refine HFL.out.mono ?_; rintro r' w3 ⟨rfl, h1, h2⟩; have H3 := hid h1; have HK3 := hid (h2 _ _ HK.out); have HQ3 := hid (h2 _ _ HQ.out); have z0 : w3.cell? ⟨k, 0, none⟩ = some (.pointer (some ⟨p, 0, none⟩)) := cell_of_row _ _ 0 _ _ _ HK3.out; have z1 : w3.cell? ⟨k, 1, none⟩ = some (.pointer (some ⟨r, 0, none⟩)) := cell_of_row _ _ 1 _ _ _ HK3.out; clear h1 h2)
        | ((with_reducible refine wpL_store_sub (x := .tmp 2) (y := .tmp 38) (c + 1) 0 33 #[.pointer none, .pointer none] #[.pointer (some ⟨p, 0, none⟩), .pointer (some ⟨r, 0, none⟩)] #[.pointer (some ⟨p, 0, none⟩), .pointer (some ⟨r, 0, none⟩)] ?_ ?_ HQ3.out ?_ ?_ ?_ ?_ ?_); rfl; rfl; rfl; exact (Nat.le_refl 2); (simp [Value.oneCell']); exact s_two))
      exact bodyPost_ret (ret_two2 Tryz.results4 (c + 1) #[.pointer (some ⟨p, 0, none⟩), .pointer (some ⟨r, 0, none⟩)] rfl true rfl rfl (setRow_heap _ _ _ _ _ _ HQ3.out)) rfl ⟨p, r, bs, n, _, rfl, lw_end H3.out HWZ.out HQ3.out (by have := HCW.out; omega)⟩
end Go.Proofs.YtlfdokkopgmfjaaGreatDoor
