/- A switch's table. -/
import Derived.Test.YtnfbnbiiejaldaaGreatMH2
import Derived.Laws.CopyOwn
import Derived.Test.YtnfbnbiiejaldaaGreatMC2
namespace Go.Proofs.YtnfbnbiiejaldaaGreat
open Go.RowKit Go.MapKept
open C (Only hid Still ret_bool ret_int)
set_option linter.unusedVariables false
set_option maxRecDepth 100000

def fA (a : Ad) : List (Ad × Int) → Nat → Option (Nat × Int)
  | [], _ => none
  | p :: L, i => if a = p.1 then some (i, p.2) else fA a L (i + 1)
def EsL (es : List MapEntry) (L : List (Ad × Int)) : Prop := es.map (fun x => (x.key, x.val)) = L.map (fun p => (Value.agg (kA p.1), Value.int .i64 p.2))
theorem EsL.len {es : List MapEntry} {L : List (Ad × Int)} (h : EsL es L) : es.length = L.length := by have := congrArg List.length h; simpa using this
theorem run_find (w : World) (a : Ad) : ∀ (es : List MapEntry) (L : List (Ad × Int)) (i : Nat), EsL es L → (Instr.findAsking 157 (.agg (kA a)) es i).run Tryz.prog w = .ok ((fA a L i).map fun q => (q.1, .int .i64 q.2)) w
  | [], [], i, _ => by simp [Instr.findAsking, fA]
  | x :: es, p :: L, i, h => by
    simp only [EsL, List.map_cons, List.cons.injEq, Prod.mk.injEq] at h
    obtain ⟨⟨h1, h2⟩, h3⟩ := h
    have he : (Op.equal 157 (.agg (kA a)) x.key).run Tryz.prog w = .ok (decide (a = p.1)) w := by rw [h1]; exact run_eqA a p.1 w
    by_cases z : a = p.1
    · simp only [decide_eq_true z] at he
      simp [Instr.findAsking, he, fA, if_pos z, h2]
    · simp only [decide_eq_false z] at he
      simp [Instr.findAsking, he, fA, if_neg z, run_find w a es L (i + 1) h3]
  | [], _ :: _, _, h => by simp [EsL] at h
  | _ :: _, [], _, h => by simp [EsL] at h
theorem run_findA (w : World) (a : Ad) (es : List MapEntry) (L : List (Ad × Int)) (h : EsL es L) : (Instr.findKey 157 (.agg (kA a)) es).run Tryz.prog w = .ok ((fA a L 0).map fun q => (q.1, .int .i64 q.2)) w := by
  rw [run_findKey_eq (P := Tryz.prog) (w := w) (by rw [u_addr]) _ _]
  exact run_find w a es L 0 h
theorem run_checkA (w : World) (em : Bool) (a : Ad) : (Instr.checkKey em 10000 157 (.agg (kA a))).run Tryz.prog w = .ok () w := by
  have hc : ∀ (x : Int) (w : World), (Instr.checkKey em 9999 5 (.int .u8 x)).run Tryz.prog w = .ok () w := fun x w => run_checkKey (d := .int .u8) (k := .int .u8 x) u_au8 (by simp [IsKey]) em 9998
  show (Instr.checkKey em (9999 + 1) 157 (.agg (kA a))).run Tryz.prog w = _
  rw [Instr.checkKey]
  simp [run_underlying u_addr, kA]
  rw [show List.range' 0 6 = [0, 1, 2, 3, 4, 5] from rfl]
  simp [go_sem, hc]
theorem fA_spec (a : Ad) : ∀ (L : List (Ad × Int)) (i j : Nat) (p : Int), fA a L i = some (j, p) → i ≤ j ∧ L[j - i]? = some (a, p)
  | [], i, j, p, h => by simp [fA] at h
  | q :: L, i, j, p, h => by
    unfold fA at h
    split at h
    · rename_i z
      simp at h
      obtain ⟨rfl, rfl⟩ := h
      exact ⟨Nat.le_refl _, by simp [z]⟩
    · obtain ⟨h1, h2⟩ := fA_spec a L (i + 1) j p h
      refine ⟨by omega, ?_⟩
      obtain ⟨k, rfl⟩ : ∃ k, j = i + 1 + k := ⟨j - (i + 1), by omega⟩
      rw [show i + 1 + k - (i + 1) = k by omega] at h2
      rw [show i + 1 + k - i = k + 1 by omega]
      simpa using h2
/-- known, or not -/
def kn (L : List (Ad × Int)) (a : Ad) : Bool := (fA a L 0).isSome
def upA (L : List (Ad × Int)) (a : Ad) (p : Int) : List (Ad × Int) := match fA a L 0 with | some (j, _) => L.set j (a, p) | none => L ++ [(a, p)]
/-- a switch -/
structure Sw (w : World) (p M : Nat) (ports : Int) (L : List (Ad × Int)) : Prop where
  blk : w.heap[p]? = some (.cells #[.int .i64 ports, .map (some M)] 155 (0, 0))
  mp : ∃ es c, w.heap[M]? = some (.map es c) ∧ EsL es.toList L
theorem Sw.only {w w' : World} {p M : Nat} {ports : Int} {L : List (Ad × Int)} (h : Sw w p M ports L) {T : Nat → Prop} (ho : Only T w w') (h1 : ¬ T p) (h2 : ¬ T M) : Sw w' p M ports L := by
  obtain ⟨b, es, c, m, e⟩ := h
  exact ⟨ho.old b h1, es, c, ho.old m h2, e⟩
theorem Sw.below {w w' : World} {p M : Nat} {ports : Int} {L : List (Ad × Int)} (h : Sw w p M ports L) (hb : Below w.heap.size w w') : Sw w' p M ports L := h.only (T := fun _ => False) (.ofBelow hb) (fun q => q) (fun q => q)
theorem Sw.look {w : World} {p M : Nat} {ports : Int} {L : List (Ad × Int)} (h : Sw w p M ports L) (a : Ad) : (Instr.lookup 153 (.map (some M)) (.agg (kA a)) true).run Tryz.prog w = .ok (.tuple #[.int .i64 (((fA a L 0).map (·.2)).getD 0), .bool (kn L a)]) w := by
  obtain ⟨-, es, c, hm, he⟩ := h
  have hf := run_findA w a es.toList L he
  have hc := run_checkA w es.isEmpty a
  have hz := Tryz.zeroValue3 w
  unfold kn
  cases z : fA a L 0 with
  | none =>
    rw [z] at hf
    simp at hf
    simp [Instr.lookup, run_underlying u_amap, MapKept.run_getObj_map hm, hc, hf, hz, Result.andThen]
  | some q =>
    rw [z] at hf
    simp at hf
    simp [Instr.lookup, run_underlying u_amap, MapKept.run_getObj_map hm, hc, hf, Result.andThen]
theorem sameA (a : Ad) : Instr.sameBits 10000 (.agg (kA a)) (.agg (kA a)) = true := by
  show Instr.sameBits (9999 + 1) _ _ = true
  simp [Instr.sameBits, kA]
theorem Sw.upd {w : World} {p M : Nat} {ports : Int} {L : List (Ad × Int)} (h : Sw w p M ports L) (a : Ad) (x : Int) : ∃ w', (Instr.mapUpdate 153 (.map (some M)) (.agg (kA a)) (.int .i64 x)).run Tryz.prog w = .ok () w' ∧ Sw w' p M ports (upA L a x) ∧ Only (· = M) w w' := by
  obtain ⟨hb, es, c, hm, he⟩ := h
  have hf := run_findA w a es.toList L he
  have hc := run_checkA w false a
  have hlt : M < w.heap.size := (Array.getElem?_eq_some_iff.1 hm).1
  have hpM : p ≠ M := fun z => by subst z; rw [hm] at hb; cases hb
  have key : ∀ (o : Obj) (es' : Array MapEntry) (c' : Nat), o = .map es' c' → EsL es'.toList (upA L a x) → Sw { w with heap := w.heap.setIfInBounds M o } p M ports (upA L a x) ∧ Only (· = M) w { w with heap := w.heap.setIfInBounds M o } := fun o es' c' ho hes => by
    subst ho
    have old : ∀ k, k ≠ M → (w.heap.setIfInBounds M (.map es' c'))[k]? = w.heap[k]? := fun k hk => by rw [Array.getElem?_setIfInBounds, if_neg (fun z => hk z.symm)]
    refine ⟨⟨(old p hpM).trans hb, es', c', ?_, hes⟩, ⟨rfl, rfl, rfl, by simp, fun k hk hs => old k hs⟩⟩
    show (w.heap.setIfInBounds M _)[M]? = _
    rw [Array.getElem?_setIfInBounds, if_pos rfl, if_pos hlt]
  cases z : fA a L 0 with
  | none =>
    rw [z] at hf
    simp at hf
    refine ⟨{ w with heap := w.heap.setIfInBounds M (.map (es.push ⟨.agg (kA a), .int .i64 x, c⟩) (c + 1)) }, ?_, key _ _ _ rfl ?_⟩
    · simp [Instr.mapUpdate, run_underlying u_amap, MapKept.run_getObj_map hm, hc, hf, MapKept.run_setObj_map _ hm, Result.andThen]
    · simp only [upA, z, EsL, Array.toList_push, List.map_append, List.map_cons, List.map_nil]
      rw [show es.toList.map (fun x => (x.key, x.val)) = _ from he]
  | some q =>
    obtain ⟨j, y⟩ := q
    rw [z] at hf
    simp at hf
    obtain ⟨-, hj⟩ := fA_spec a L 0 j y z
    rw [Nat.sub_zero] at hj
    have hjl : j < L.length := (List.getElem?_eq_some_iff.1 hj).1
    have hje : j < es.size := by have := he.len; simp at this; omega
    have hk : es[j].key = .agg (kA a) := by
      have := congrArg (fun l : List (Value × Value) => l[j]?) he
      simp [hj, hje] at this
      exact this.1
    refine ⟨{ w with heap := w.heap.setIfInBounds M (.map (es.modify j fun e => { e with key := .agg (kA a), val := .int .i64 x }) c) }, ?_, key _ _ _ rfl ?_⟩
    · simp [Instr.mapUpdate, run_underlying u_amap, MapKept.run_getObj_map hm, hc, hf, MapKept.run_setObj_map _ hm, Result.andThen, hje, hk, Instr.keyThatStays, sameA]
    · simp only [upA, z, EsL]
      apply List.ext_getElem?
      intro k
      have hek := congrArg (fun l : List (Value × Value) => l[k]?) he
      simp only [List.getElem?_map, Array.getElem?_toList, Array.getElem?_modify, List.getElem?_set] at hek ⊢
      by_cases q : j = k
      · subst q
        rw [if_pos rfl, if_pos rfl, if_pos hjl]
        simp [hje]
      · rw [if_neg q, if_neg q]
        exact hek
end Go.Proofs.YtnfbnbiiejaldaaGreat
namespace Go.Proofs.YtnfbnbiiejaldaaGreat
open Go.RowKit Go.MapKept
open C (Only hid Still ret_bool ret_int)
set_option linter.unusedVariables false
set_option maxRecDepth 100000

theorem and1 : ∀ k : Fin 256, bits BinOp.and IntKind.u8 ((k.val : Nat) : Int) 1 = ((k.val % 2 : Nat) : Int) := by decide +kernel
theorem and1' (x : Int) (h0 : 0 ≤ x) (h1 : x < 256) : bits BinOp.and IntKind.u8 x 1 = x % 2 := by
  have := and1 ⟨x.toNat, by omega⟩
  rw [show ((x.toNat : Nat) : Int) = x by omega] at this
  rw [this]
  show ((x.toNat % 2 : Nat) : Int) = x % 2
  omega
theorem s_addr : (Tryz.prog.info? 157).map (·.size) = some 6 := by kernel_rfl
def AOk (a : Ad) : Prop := (0 ≤ a.1 ∧ a.1 < 256) ∧ (0 ≤ a.2.1 ∧ a.2.1 < 256) ∧ (0 ≤ a.2.2.1 ∧ a.2.2.1 < 256) ∧ (0 ≤ a.2.2.2.1 ∧ a.2.2.2.1 < 256) ∧ (0 ≤ a.2.2.2.2.1 ∧ a.2.2.2.2.1 < 256) ∧ (0 ≤ a.2.2.2.2.2 ∧ a.2.2.2.2.2 < 256)
theorem wpAny_at {P : Program} {md : Region.Mode} {ops : Array Oper} {Q : Exit → Act → World → Prop} {n : Nat} {l : Array Bool} {a : Act} {W w0 : World} (h : W = w0) (hk : wpAny P md ops Q n l a w0) : wpAny P md ops Q n l a W := h ▸ hk
/-- what it knows then -/
def lrn (L : List (Ad × Int)) (a : Ad) (x : Int) : List (Ad × Int) := bif a.1 % 2 == 0 && (kn L a || decide (L.length < 32)) then upA L a x else L
theorem sw_len {w : World} {p M : Nat} {ports : Int} {L : List (Ad × Int)} (h : Sw w p M ports L) : ∃ es c, w.heap[M]? = some (.map es c) ∧ es.size = L.length := by
  obtain ⟨-, es, c, hm, he⟩ := h
  exact ⟨es, c, hm, by have := he.len; simpa using this⟩
set_option maxHeartbeats 2000000 in
theorem k_learn (w : World) (p M : Nat) (ports : Int) (L : List (Ad × Int)) (h : Sw w p M ports L) (a : Ad) (ha : 0 ≤ a.1 ∧ a.1 < 256) (xx : Int) : Calls Tryz.prog 75 #[.pointer (some ⟨p, 0, none⟩), .agg (kA a), .int .i64 xx] w fun r w' => r = .returned (.tuple #[]) ∧ Sw w' p M ports (lrn L a xx) ∧ Only (· = M) w w' := by
  obtain ⟨g, hg⟩ : ∃ g, g = w.heap.size := ⟨_, rfl⟩
  have hb := (Below.refl w.heap.size w).alloc (Nat.le_refl _) (.cells (kA a) 157)
  have hA : (w.alloc (.cells (kA a) 157)).heap[g]? = some (.cells (kA a) 157 (0, 0)) := by rw [hg]; exact heap_alloc_new w _
  have hS := h.below hb
  have HG := hid hg
  have ea := and1' a.1 ha.1 ha.2
  have HB := hid hb
  have HR : Hid (lrn L a xx = bif a.1 % 2 == 0 && (kn L a || decide (L.length < 32)) then upA L a xx else L) := rfl
  generalize lrn L a xx = L' at *
  clear h hg hb
  obtain ⟨y, hy⟩ : ∃ y, y = ((fA a L 0).map (·.2)).getD 0 := ⟨_, rfl⟩
  obtain ⟨kb, hkb⟩ : ∃ kb, kb = kn L a := ⟨_, rfl⟩
  rw [← hkb] at HR
  have HX : Hid (∀ w1, Sw w1 p M ports L → w1.heap[g]? = some (.cells (kA a) 157 (0, 0)) → w1.cell? ⟨p, 1, none⟩ = some (.map (some M)) ∧ (w1.cell? ⟨g, 0, none⟩ = some (.int .u8 a.1) ∧ w1.cell? ⟨g, 1, none⟩ = some (.int .u8 a.2.1) ∧ w1.cell? ⟨g, 2, none⟩ = some (.int .u8 a.2.2.1) ∧ w1.cell? ⟨g, 3, none⟩ = some (.int .u8 a.2.2.2.1) ∧ w1.cell? ⟨g, 4, none⟩ = some (.int .u8 a.2.2.2.2.1) ∧ w1.cell? ⟨g, 5, none⟩ = some (.int .u8 a.2.2.2.2.2)) ∧ (Instr.lookup 153 (.map (some M)) (.agg #[.int .u8 a.1, .int .u8 a.2.1, .int .u8 a.2.2.1, .int .u8 a.2.2.2.1, .int .u8 a.2.2.2.2.1, .int .u8 a.2.2.2.2.2]) true).run Tryz.prog w1 = .ok (.tuple #[.int .i64 y, .bool kb]) w1) := fun w1 h1 h2 =>
    ⟨cell_of_row w1 p 1 _ _ _ h1.blk, ⟨cell_of_row w1 g 0 _ _ _ h2, cell_of_row w1 g 1 _ _ _ h2, cell_of_row w1 g 2 _ _ _ h2, cell_of_row w1 g 3 _ _ _ h2, cell_of_row w1 g 4 _ _ _ h2, cell_of_row w1 g 5 _ _ _ h2⟩, by rw [hy, hkb]; exact h1.look a⟩
  have HSw := hid hS
  have HAg := hid hA
  clear hy hkb hS hA
  go_enter Tryz.func75, Tryz.ntmps75
  go_upto_region 1 with fail
  obtain ⟨w0, hw0⟩ : ∃ w0, w0 = (w.alloc (.cells (kA a) 157)).drew := ⟨_, rfl⟩
  refine wp_region_any (by kernel_rfl) ?_
  rw [← HG.out]
  refine wpAny_at (w0 := w0) hw0.symm ?_
  have s0 : Sw w0 p M ports L := by rw [hw0]; obtain ⟨q1, q2⟩ := HSw.out; exact ⟨q1, q2⟩
  have a0 : w0.heap[g]? = some (.cells (kA a) 157 (0, 0)) := by rw [hw0]; exact HAg.out
  have HB0 : Hid (Below w.heap.size w w0) := by rw [hw0]; exact HB.out.drew
  obtain ⟨x1, x2, x3⟩ := HX.out w0 s0 a0
  have HC1 := hid x1
  have HLA := hid x2
  have HLK := hid x3
  have HS0 := hid s0
  have HA0 := hid a0
  clear hw0 x1 x2 x3 s0 a0 HSw HAg HB
  refine wpAny_fz (α := Unit) (fun _ => fun dd => if dd = 9 then .pointer (some ⟨p, 0, none⟩) else if dd = 10 then .pointer (some ⟨p, 0, none⟩) else if dd = 11 then .pointer (some ⟨p, 1, none⟩) else if dd = 12 then .map (some M) else if dd = 13 then .agg #[.int .u8 a.1, .int .u8 a.2.1, .int .u8 a.2.2.1, .int .u8 a.2.2.2.1, .int .u8 a.2.2.2.2.1, .int .u8 a.2.2.2.2.2] else if dd = 14 then .tuple #[.int .i64 y, .bool kb] else if dd = 8 then .tuple #[.int .i64 y, .bool kb] else if dd = 15 then .int .i64 y else if dd = 16 then .bool kb else if dd = 6 then .int .i64 y else if dd = 7 then .bool kb else undef) (fun x listed w => VS [] (fun n (_ : Unit) w => w = w0) x listed w) ?step ?fin () ?start
  case start => exact .start rfl
  case step =>
    rintro listed fr wr x hF hW hC i hj
    obtain ⟨hl, o, ho, he⟩ := mem_ready.1 hj
    have hjl : i < listed.size := by rw [hF.q.ls]; exact (Array.getElem?_eq_some_iff.1 ho).1
    have hl0 := getD_tf hjl hl
    clear hj
    have HF := hid hF
    have HW := hid hW
    have HE := hid he
    have HC := hid hC
    clear hF hW he hl hC
    match i, ho with
    | 0, ho =>
      obtain rfl := Option.some.inj ho
      have e0 : fr.tmps[0]?.getD undef = .pointer (some ⟨p, 0, none⟩) := HF.out.base 0 (by kernel_rfl) rfl
      exact wp_q rfl rfl (by simp [execOp, go_sem, e0]; try rfl) ⟨(), HF.out.put (by kernel_rfl) rfl rfl rfl (of_decide_eq_true rfl), HW.out.q hjl (by decide)⟩
    | 1, ho =>
      obtain rfl := Option.some.inj ho
      have e9 : fr.tmps[9]?.getD undef = .pointer (some ⟨p, 0, none⟩) := HF.out.ev (i := 0) rfl rfl (HE.out ⟨0, .data⟩ (by simp) rfl)
      exact wp_q rfl rfl (by simp [execOp, go_sem, e9]; try rfl) ⟨(), HF.out.put (by kernel_rfl) rfl rfl rfl (of_decide_eq_true rfl), HW.out.q hjl (by decide)⟩
    | 2, ho =>
      obtain rfl := Option.some.inj ho
      have e10 : fr.tmps[10]?.getD undef = .pointer (some ⟨p, 0, none⟩) := HF.out.ev (i := 1) rfl rfl (HE.out ⟨1, .data⟩ (by simp) rfl)
      exact wp_q rfl rfl (by simp [execOp, go_sem, e10]; try rfl) ⟨(), HF.out.put (by kernel_rfl) rfl rfl rfl (of_decide_eq_true rfl), HW.out.q hjl (by decide)⟩
    | 3, ho =>
      obtain rfl := Option.some.inj ho
      have e11 : fr.tmps[11]?.getD undef = .pointer (some ⟨p, 1, none⟩) := HF.out.ev (i := 2) rfl rfl (HE.out ⟨2, .data⟩ (by simp) rfl)
      have hw0 : wr = w0 := by obtain ⟨_, _, q⟩ := HW.out; exact q
      subst hw0
      exact wp_q rfl rfl (by simp [execOp, go_sem, e11, HC1.out]; try rfl) ⟨(), HF.out.put (by kernel_rfl) rfl rfl rfl (of_decide_eq_true rfl), HW.out.q hjl (by decide)⟩
    | 4, ho =>
      obtain rfl := Option.some.inj ho
      have e4 : fr.tmps[4]?.getD undef = .pointer (some ⟨g, 0, none⟩) := HF.out.base 4 (by kernel_rfl) rfl
      have hw0 : wr = w0 := by obtain ⟨_, _, q⟩ := HW.out; exact q
      subst hw0
      obtain ⟨l0, l1, l2, l3, l4, l5⟩ := HLA.out
      exact wp_q rfl rfl (by simp [execOp, go_sem, e4, l0, l1, l2, l3, l4, l5]; try rfl) ⟨(), HF.out.put (by kernel_rfl) rfl rfl rfl (of_decide_eq_true rfl), HW.out.q hjl (by decide)⟩
    | 5, ho =>
      obtain rfl := Option.some.inj ho
      have e12 : fr.tmps[12]?.getD undef = .map (some M) := HF.out.ev (i := 3) rfl rfl (HE.out ⟨3, .data⟩ (by simp) rfl)
      have e13 : fr.tmps[13]?.getD undef = .agg #[.int .u8 a.1, .int .u8 a.2.1, .int .u8 a.2.2.1, .int .u8 a.2.2.2.1, .int .u8 a.2.2.2.2.1, .int .u8 a.2.2.2.2.2] := HF.out.ev (i := 4) rfl rfl (HE.out ⟨4, .data⟩ (by simp) rfl)
      have hw0 : wr = w0 := by obtain ⟨_, _, q⟩ := HW.out; exact q
      subst hw0
      exact wp_q rfl rfl (by simp [execOp, go_sem, e12, e13, HLK.out]; try rfl) ⟨(), HF.out.put (by kernel_rfl) rfl rfl rfl (of_decide_eq_true rfl), HW.out.q hjl (by decide)⟩
    | 6, ho =>
      obtain rfl := Option.some.inj ho
      have e14 : fr.tmps[14]?.getD undef = .tuple #[.int .i64 y, .bool kb] := HF.out.ev (i := 5) rfl rfl (HE.out ⟨5, .data⟩ (by simp) rfl)
      exact wp_q rfl rfl (by simp [execOp, go_sem, e14]; try rfl) ⟨(), HF.out.put (by kernel_rfl) rfl rfl rfl (of_decide_eq_true rfl), HW.out.q hjl (by decide)⟩
    | 7, ho =>
      obtain rfl := Option.some.inj ho
      have e8 : fr.tmps[8]?.getD undef = .tuple #[.int .i64 y, .bool kb] := HF.out.ev (i := 6) rfl rfl (HE.out ⟨6, .data⟩ (by simp) rfl)
      exact wp_q rfl rfl (by simp [execOp, go_sem, e8]; try rfl) ⟨(), HF.out.put (by kernel_rfl) rfl rfl rfl (of_decide_eq_true rfl), HW.out.q hjl (by decide)⟩
    | 8, ho =>
      obtain rfl := Option.some.inj ho
      have e8 : fr.tmps[8]?.getD undef = .tuple #[.int .i64 y, .bool kb] := HF.out.ev (i := 6) rfl rfl (HE.out ⟨6, .data⟩ (by simp) rfl)
      exact wp_q rfl rfl (by simp [execOp, go_sem, e8]; try rfl) ⟨(), HF.out.put (by kernel_rfl) rfl rfl rfl (of_decide_eq_true rfl), HW.out.q hjl (by decide)⟩
    | 9, ho =>
      obtain rfl := Option.some.inj ho
      have e15 : fr.tmps[15]?.getD undef = .int .i64 y := HF.out.ev (i := 7) rfl rfl (HE.out ⟨7, .data⟩ (by simp) rfl)
      exact wp_q rfl rfl (by simp [execOp, go_sem, e15]; try rfl) ⟨(), HF.out.put (by kernel_rfl) rfl rfl rfl (of_decide_eq_true rfl), HW.out.q hjl (by decide)⟩
    | 10, ho =>
      obtain rfl := Option.some.inj ho
      have e16 : fr.tmps[16]?.getD undef = .bool kb := HF.out.ev (i := 8) rfl rfl (HE.out ⟨8, .data⟩ (by simp) rfl)
      exact wp_q rfl rfl (by simp [execOp, go_sem, e16]; try rfl) ⟨(), HF.out.put (by kernel_rfl) rfl rfl rfl (of_decide_eq_true rfl), HW.out.q hjl (by decide)⟩
  case fin =>
    rintro listed fr w2 x hF hW hr
    have all := allDoneB hr hF.q.ls (by kernel_rfl)
    obtain ⟨_, _, hw⟩ := hW
    have hw : w2 = w0 := hw
    subst hw
    rw [hF.full all]
    clear hF hr all
    simp only [List.foldl_cons, List.foldl_nil, fillF]
    go_simp
    obtain ⟨es, cc0, hme, hsz⟩ := sw_len HS0.out
    have l0 := HLA.out.1
    have c1 := HC1.out
    have HSZ := hid hsz
    have hlm : (Builtin.len_ #[153] 3 #[.map (some M)]).run Tryz.prog w2 = .ok (.int .i64 es.size) w2 := by simp [Builtin.len_, run_underlying u_amap, MapKept.run_getObj_map hme, goInt]
    clear HLA HC1 hsz
    by_cases q : a.1 % 2 = 0
    · rw [q] at ea
      rw [show (a.1 % 2 == 0) = true from by simp [q]] at HR
      simp only [Bool.true_and] at HR
      cases kb
      · by_cases q32 : L.length < 32
        · have hlt : (es.size : Int) < 32 := by have := HSZ.out; omega
          obtain rfl : L' = upA L a xx := by rw [HR.out]; simp [q32]
          clear HR
          go_upto_region 3 with fail
          obtain ⟨w0, hw0⟩ : ∃ w0, w0 = w2.drew := ⟨_, rfl⟩
          refine wp_region_any (by kernel_rfl) ?_
          refine wpAny_at (w0 := w0) hw0.symm ?_
          have s0 : Sw w0 p M ports L := by rw [hw0]; obtain ⟨q1, q2⟩ := HS0.out; exact ⟨q1, q2⟩
          have a0 : w0.heap[g]? = some (.cells (kA a) 157 (0, 0)) := by rw [hw0]; exact HA0.out
          have HB1 : Hid (Below w.heap.size w w0) := by rw [hw0]; exact HB0.out.drew
          obtain ⟨x1, x2, x3⟩ := HX.out w0 s0 a0
          have HC1 := hid x1
          have HLA := hid x2
          have HUP := hid (s0.upd a xx)
          simp only [kA] at HUP
          clear hw0 x1 x2 x3 s0 a0 HS0 HA0 HLK HX hme HSZ c1 l0
          refine wpAny_fz (α := Unit) (fun _ => fun dd => if dd = 32 then .pointer (some ⟨p, 0, none⟩) else if dd = 33 then .pointer (some ⟨p, 0, none⟩) else if dd = 34 then .pointer (some ⟨p, 1, none⟩) else if dd = 35 then .map (some M) else if dd = 36 then .agg #[.int .u8 a.1, .int .u8 a.2.1, .int .u8 a.2.2.1, .int .u8 a.2.2.2.1, .int .u8 a.2.2.2.2.1, .int .u8 a.2.2.2.2.2] else if dd = 37 then .int .i64 xx else undef) (fun x listed w => VS [6] (fun n (_ : Unit) w => if n = 0 then w = w0 else Sw w p M ports (upA L a xx) ∧ Only (· = M) w0 w) x listed w) ?step ?fin () ?start
          case start => exact .start rfl
          case step =>
            rintro listed fr wr x hF hW hC i hj
            obtain ⟨hl, o, ho, he⟩ := mem_ready.1 hj
            have hjl : i < listed.size := by rw [hF.q.ls]; exact (Array.getElem?_eq_some_iff.1 ho).1
            have hl0 := getD_tf hjl hl
            clear hj
            have HF := hid hF
            have HW := hid hW
            have HE := hid he
            have HC := hid hC
            clear hF hW he hl hC
            match i, ho with
            | 0, ho =>
              obtain rfl := Option.some.inj ho
              have e0 : fr.tmps[0]?.getD undef = .pointer (some ⟨p, 0, none⟩) := HF.out.base 0 (by kernel_rfl) rfl
              exact wp_q rfl rfl (by simp [execOp, go_sem, e0]; try rfl) ⟨(), HF.out.put (by kernel_rfl) rfl rfl rfl (of_decide_eq_true rfl), HW.out.q hjl (by decide)⟩
            | 1, ho =>
              obtain rfl := Option.some.inj ho
              have e32 : fr.tmps[32]?.getD undef = .pointer (some ⟨p, 0, none⟩) := HF.out.ev (i := 0) rfl rfl (HE.out ⟨0, .data⟩ (by simp) rfl)
              exact wp_q rfl rfl (by simp [execOp, go_sem, e32]; try rfl) ⟨(), HF.out.put (by kernel_rfl) rfl rfl rfl (of_decide_eq_true rfl), HW.out.q hjl (by decide)⟩
            | 2, ho =>
              obtain rfl := Option.some.inj ho
              have e33 : fr.tmps[33]?.getD undef = .pointer (some ⟨p, 0, none⟩) := HF.out.ev (i := 1) rfl rfl (HE.out ⟨1, .data⟩ (by simp) rfl)
              exact wp_q rfl rfl (by simp [execOp, go_sem, e33]; try rfl) ⟨(), HF.out.put (by kernel_rfl) rfl rfl rfl (of_decide_eq_true rfl), HW.out.q hjl (by decide)⟩
            | 3, ho =>
              obtain rfl := Option.some.inj ho
              have e34 : fr.tmps[34]?.getD undef = .pointer (some ⟨p, 1, none⟩) := HF.out.ev (i := 2) rfl rfl (HE.out ⟨2, .data⟩ (by simp) rfl)
              have hw0 : wr = w0 := HW.out.at 0 rfl (not_yet HC.out hl0 rfl ⟨3, .data⟩ (by simp) rfl rfl) (fun j hj => by omega)
              subst hw0
              exact wp_q rfl rfl (by simp [execOp, go_sem, e34, HC1.out]; try rfl) ⟨(), HF.out.put (by kernel_rfl) rfl rfl rfl (of_decide_eq_true rfl), HW.out.q hjl (by decide)⟩
            | 4, ho =>
              obtain rfl := Option.some.inj ho
              have e4 : fr.tmps[4]?.getD undef = .pointer (some ⟨g, 0, none⟩) := HF.out.base 4 (by kernel_rfl) rfl
              have hw0 : wr = w0 := HW.out.at 0 rfl (not_yet HC.out hl0 rfl ⟨4, .data⟩ (by simp) rfl rfl) (fun j hj => by omega)
              subst hw0
              obtain ⟨l0, l1, l2, l3, l4, l5⟩ := HLA.out
              exact wp_q rfl rfl (by simp [execOp, go_sem, e4, l0, l1, l2, l3, l4, l5]; try rfl) ⟨(), HF.out.put (by kernel_rfl) rfl rfl rfl (of_decide_eq_true rfl), HW.out.q hjl (by decide)⟩
            | 5, ho =>
              obtain rfl := Option.some.inj ho
              have e2 : fr.tmps[2]?.getD undef = .int .i64 xx := HF.out.base 2 (by kernel_rfl) rfl
              exact wp_q rfl rfl (by simp [execOp, go_sem, e2]; try rfl) ⟨(), HF.out.put (by kernel_rfl) rfl rfl rfl (of_decide_eq_true rfl), HW.out.q hjl (by decide)⟩
            | 6, ho =>
              obtain rfl := Option.some.inj ho
              have e35 : fr.tmps[35]?.getD undef = .map (some M) := HF.out.ev (i := 3) rfl rfl (HE.out ⟨3, .data⟩ (by simp) rfl)
              have e36 : fr.tmps[36]?.getD undef = .agg #[.int .u8 a.1, .int .u8 a.2.1, .int .u8 a.2.2.1, .int .u8 a.2.2.2.1, .int .u8 a.2.2.2.2.1, .int .u8 a.2.2.2.2.2] := HF.out.ev (i := 4) rfl rfl (HE.out ⟨4, .data⟩ (by simp) rfl)
              have e37 : fr.tmps[37]?.getD undef = .int .i64 xx := HF.out.ev (i := 5) rfl rfl (HE.out ⟨5, .data⟩ (by simp) rfl)
              have hw0 : wr = w0 := HW.out.at 0 rfl hl0 (fun j hj => by omega)
              subst hw0
              obtain ⟨w', h1, h2, h3⟩ := HUP.out
              exact wp_s (w' := w') rfl rfl (by simp [execOp, go_sem, e35, e36, e37, h1]; try rfl) ⟨(), HF.out.skip rfl rfl _, HW.out.go 0 hjl rfl hl0 (fun j hj => by omega) (by intro a ha; match a, ha with | 0, _ => rfl) ⟨h2, h3⟩⟩
          case fin =>
            rintro listed fr w2 x hF hW hr
            have all := allDone hr hF.q.ls (by kernel_rfl)
            have hw := hW.end 0 rfl (all _ (by decide)) (fun s hs q => by rw [if_neg (by omega)] at q; exact q)
            obtain ⟨g1, g2⟩ := (show Sw w2 p M ports (upA L a xx) ∧ Only (· = M) w0 w2 from hw)
            rw [hF.full all]
            clear hF hr all hW hw
            simp only [List.foldl_cons, List.foldl_nil, fillF]
            go_simp
            have G1 := hid g1
            have G2 := hid g2
            clear g1 g2
            go_wp2_with fail
            go_end0
            exact ⟨rfl, G1.out, (Only.ofBelow HB1.out).trans G2.out⟩
        · obtain rfl : L' = L := by rw [HR.out]; simp [q32]
          have hlt : ¬ (es.size : Int) < 32 := by have := HSZ.out; omega
          clear HR
          go_wp2_with fail
          go_end0
          exact ⟨rfl, HS0.out, Only.ofBelow HB0.out⟩
      · have hlt := 0
        obtain rfl : L' = upA L a xx := by rw [HR.out]; rfl
        clear HR
        go_upto_region 3 with fail
        obtain ⟨w0, hw0⟩ : ∃ w0, w0 = w2.drew := ⟨_, rfl⟩
        refine wp_region_any (by kernel_rfl) ?_
        refine wpAny_at (w0 := w0) hw0.symm ?_
        have s0 : Sw w0 p M ports L := by rw [hw0]; obtain ⟨q1, q2⟩ := HS0.out; exact ⟨q1, q2⟩
        have a0 : w0.heap[g]? = some (.cells (kA a) 157 (0, 0)) := by rw [hw0]; exact HA0.out
        have HB1 : Hid (Below w.heap.size w w0) := by rw [hw0]; exact HB0.out.drew
        obtain ⟨x1, x2, x3⟩ := HX.out w0 s0 a0
        have HC1 := hid x1
        have HLA := hid x2
        have HUP := hid (s0.upd a xx)
        simp only [kA] at HUP
        clear hw0 x1 x2 x3 s0 a0 HS0 HA0 HLK HX hme HSZ c1 l0
        refine wpAny_fz (α := Unit) (fun _ => fun dd => if dd = 32 then .pointer (some ⟨p, 0, none⟩) else if dd = 33 then .pointer (some ⟨p, 0, none⟩) else if dd = 34 then .pointer (some ⟨p, 1, none⟩) else if dd = 35 then .map (some M) else if dd = 36 then .agg #[.int .u8 a.1, .int .u8 a.2.1, .int .u8 a.2.2.1, .int .u8 a.2.2.2.1, .int .u8 a.2.2.2.2.1, .int .u8 a.2.2.2.2.2] else if dd = 37 then .int .i64 xx else undef) (fun x listed w => VS [6] (fun n (_ : Unit) w => if n = 0 then w = w0 else Sw w p M ports (upA L a xx) ∧ Only (· = M) w0 w) x listed w) ?step ?fin () ?start
        case start => exact .start rfl
        case step =>
          rintro listed fr wr x hF hW hC i hj
          obtain ⟨hl, o, ho, he⟩ := mem_ready.1 hj
          have hjl : i < listed.size := by rw [hF.q.ls]; exact (Array.getElem?_eq_some_iff.1 ho).1
          have hl0 := getD_tf hjl hl
          clear hj
          have HF := hid hF
          have HW := hid hW
          have HE := hid he
          have HC := hid hC
          clear hF hW he hl hC
          match i, ho with
          | 0, ho =>
            obtain rfl := Option.some.inj ho
            have e0 : fr.tmps[0]?.getD undef = .pointer (some ⟨p, 0, none⟩) := HF.out.base 0 (by kernel_rfl) rfl
            exact wp_q rfl rfl (by simp [execOp, go_sem, e0]; try rfl) ⟨(), HF.out.put (by kernel_rfl) rfl rfl rfl (of_decide_eq_true rfl), HW.out.q hjl (by decide)⟩
          | 1, ho =>
            obtain rfl := Option.some.inj ho
            have e32 : fr.tmps[32]?.getD undef = .pointer (some ⟨p, 0, none⟩) := HF.out.ev (i := 0) rfl rfl (HE.out ⟨0, .data⟩ (by simp) rfl)
            exact wp_q rfl rfl (by simp [execOp, go_sem, e32]; try rfl) ⟨(), HF.out.put (by kernel_rfl) rfl rfl rfl (of_decide_eq_true rfl), HW.out.q hjl (by decide)⟩
          | 2, ho =>
            obtain rfl := Option.some.inj ho
            have e33 : fr.tmps[33]?.getD undef = .pointer (some ⟨p, 0, none⟩) := HF.out.ev (i := 1) rfl rfl (HE.out ⟨1, .data⟩ (by simp) rfl)
            exact wp_q rfl rfl (by simp [execOp, go_sem, e33]; try rfl) ⟨(), HF.out.put (by kernel_rfl) rfl rfl rfl (of_decide_eq_true rfl), HW.out.q hjl (by decide)⟩
          | 3, ho =>
            obtain rfl := Option.some.inj ho
            have e34 : fr.tmps[34]?.getD undef = .pointer (some ⟨p, 1, none⟩) := HF.out.ev (i := 2) rfl rfl (HE.out ⟨2, .data⟩ (by simp) rfl)
            have hw0 : wr = w0 := HW.out.at 0 rfl (not_yet HC.out hl0 rfl ⟨3, .data⟩ (by simp) rfl rfl) (fun j hj => by omega)
            subst hw0
            exact wp_q rfl rfl (by simp [execOp, go_sem, e34, HC1.out]; try rfl) ⟨(), HF.out.put (by kernel_rfl) rfl rfl rfl (of_decide_eq_true rfl), HW.out.q hjl (by decide)⟩
          | 4, ho =>
            obtain rfl := Option.some.inj ho
            have e4 : fr.tmps[4]?.getD undef = .pointer (some ⟨g, 0, none⟩) := HF.out.base 4 (by kernel_rfl) rfl
            have hw0 : wr = w0 := HW.out.at 0 rfl (not_yet HC.out hl0 rfl ⟨4, .data⟩ (by simp) rfl rfl) (fun j hj => by omega)
            subst hw0
            obtain ⟨l0, l1, l2, l3, l4, l5⟩ := HLA.out
            exact wp_q rfl rfl (by simp [execOp, go_sem, e4, l0, l1, l2, l3, l4, l5]; try rfl) ⟨(), HF.out.put (by kernel_rfl) rfl rfl rfl (of_decide_eq_true rfl), HW.out.q hjl (by decide)⟩
          | 5, ho =>
            obtain rfl := Option.some.inj ho
            have e2 : fr.tmps[2]?.getD undef = .int .i64 xx := HF.out.base 2 (by kernel_rfl) rfl
            exact wp_q rfl rfl (by simp [execOp, go_sem, e2]; try rfl) ⟨(), HF.out.put (by kernel_rfl) rfl rfl rfl (of_decide_eq_true rfl), HW.out.q hjl (by decide)⟩
          | 6, ho =>
            obtain rfl := Option.some.inj ho
            have e35 : fr.tmps[35]?.getD undef = .map (some M) := HF.out.ev (i := 3) rfl rfl (HE.out ⟨3, .data⟩ (by simp) rfl)
            have e36 : fr.tmps[36]?.getD undef = .agg #[.int .u8 a.1, .int .u8 a.2.1, .int .u8 a.2.2.1, .int .u8 a.2.2.2.1, .int .u8 a.2.2.2.2.1, .int .u8 a.2.2.2.2.2] := HF.out.ev (i := 4) rfl rfl (HE.out ⟨4, .data⟩ (by simp) rfl)
            have e37 : fr.tmps[37]?.getD undef = .int .i64 xx := HF.out.ev (i := 5) rfl rfl (HE.out ⟨5, .data⟩ (by simp) rfl)
            have hw0 : wr = w0 := HW.out.at 0 rfl hl0 (fun j hj => by omega)
            subst hw0
            obtain ⟨w', h1, h2, h3⟩ := HUP.out
            exact wp_s (w' := w') rfl rfl (by simp [execOp, go_sem, e35, e36, e37, h1]; try rfl) ⟨(), HF.out.skip rfl rfl _, HW.out.go 0 hjl rfl hl0 (fun j hj => by omega) (by intro a ha; match a, ha with | 0, _ => rfl) ⟨h2, h3⟩⟩
        case fin =>
          rintro listed fr w2 x hF hW hr
          have all := allDone hr hF.q.ls (by kernel_rfl)
          have hw := hW.end 0 rfl (all _ (by decide)) (fun s hs q => by rw [if_neg (by omega)] at q; exact q)
          obtain ⟨g1, g2⟩ := (show Sw w2 p M ports (upA L a xx) ∧ Only (· = M) w0 w2 from hw)
          rw [hF.full all]
          clear hF hr all hW hw
          simp only [List.foldl_cons, List.foldl_nil, fillF]
          go_simp
          have G1 := hid g1
          have G2 := hid g2
          clear g1 g2
          go_wp2_with fail
          go_end0
          exact ⟨rfl, G1.out, (Only.ofBelow HB1.out).trans G2.out⟩
    · have q1 : a.1 % 2 = 1 := by omega
      rw [q1] at ea
      rw [show (a.1 % 2 == 0) = false from by simp [q]] at HR
      obtain rfl : L' = L := HR.out
      clear HR q q1
      go_wp2_with fail
      go_end0
      exact ⟨rfl, HS0.out, Only.ofBelow HB0.out⟩
end Go.Proofs.YtnfbnbiiejaldaaGreat
namespace Go.Proofs.YtnfbnbiiejaldaaGreat
open Go.RowKit Go.MapKept
open C (Only hid Still ret_bool ret_int)
set_option linter.unusedVariables false
set_option maxRecDepth 100000

theorem k_NewSwitch (w : World) (x : Int) (h0 : 1 ≤ x) (h1 : x ≤ 8) : Calls Tryz.prog 41 #[.int .i64 x] w fun r w' => ∃ p M, r = .returned (.tuple #[.pointer (some ⟨p, 0, none⟩), .int .i64 0]) ∧ Sw w' p M x [] ∧ Below w.heap.size w w' ∧ w.heap.size ≤ p ∧ w.heap.size ≤ M := by
  have hmm := @run_makeMap Tryz.prog
  have h2 : ¬ x < 1 := by omega
  have h3 : ¬ x > 8 := by omega
  go_enter Tryz.func41, Tryz.ntmps41
  go_wp2
  go_returns
  refine ⟨w.heap.size + 1, rfl, w.heap.size, ⟨?_, #[], 0, ?_, rfl⟩, ?_, by omega, Nat.le_refl _⟩
  · have := heap_alloc_new (w.alloc (.map #[] 0)) (.cells #[.int .i64 x, .map (some w.heap.size)] 155)
    rw [show (w.alloc (.map #[] 0)).heap.size = w.heap.size + 1 by simp] at this
    exact this
  · exact (heap_alloc_old _ _ (by simp)).trans (heap_alloc_new w _)
  · exact ((Below.refl _ _).alloc (Nat.le_refl _) _).alloc (by simp) _
theorem k_NewSwitch_no (w : World) (x : Int) (h : ¬ (1 ≤ x ∧ x ≤ 8)) : Calls Tryz.prog 41 #[.int .i64 x] w fun r w' => r = .returned (.tuple #[.pointer none, .int .i64 1]) ∧ w' = w := by
  by_cases h1 : x < 1
  · clear h
    go_enter Tryz.func41, Tryz.ntmps41
    go_wp2
    go_returns
    exact ⟨rfl, rfl⟩
  · have h2 : x > 8 := by omega
    clear h
    go_enter Tryz.func41, Tryz.ntmps41
    go_wp2
    go_returns
    exact ⟨rfl, rfl⟩
def its (l : List Int) : List Value := l.map (Value.int .i64)
theorem its_len (l : List Int) : (its l).length = l.length := by simp [its]
theorem its_app (l : List Int) (x : Int) : its l ++ [Value.int .i64 x] = its (l ++ [x]) := by simp [its]
theorem info_int' : (Tryz.prog.info? 3).map (fun i => (i.zero, i.size, i.bytes)) = some (some (.int .i64 0), 1, 8) := by kernel_rfl
theorem u_sint' : Tryz.prog.underlying 62 = some (.slice 3) := by kernel_rfl
/-- all other ports -/
def oth (n : Nat) (x : Int) : List Int := ((List.range n).map (fun i : Nat => (i : Int))).filter fun y => y != x
theorem oth_up (n : Nat) (x : Int) : oth (n + 1) x = oth n x ++ (if (n : Int) = x then [] else [(n : Int)]) := by
  unfold oth
  rw [List.range_succ, List.map_append, List.filter_append]
  congr 1
  by_cases h : (n : Int) = x
  · simp [h]
  · simp [h]
theorem oth_len (n : Nat) (x : Int) : (oth n x).length ≤ n := by unfold oth; exact Nat.le_trans (List.length_filter_le _ _) (by simp)
theorem k_others (w : World) (p M : Nat) (n : Nat) (L : List (Ad × Int)) (h : Sw w p M (n : Int) L) (hn : n ≤ 8) (x : Int) : Calls Tryz.prog 76 #[.pointer (some ⟨p, 0, none⟩), .int .i64 x] w fun r w' => ∃ u, r = .returned u ∧ w'.ownsRow 0 3 1 u (oth n x).length (its (oth n x)) ∧ Below w.heap.size w w' := by
  have c0 : w.cell? ⟨p, 0, none⟩ = some (.int .i64 n) := cell_of_row w p 0 _ _ _ h.blk
  have hn8 : (n : Int) ≤ 8 := by omega
  clear h
  go_enter Tryz.func76, Tryz.ntmps76
  go_wp2
  go_loopw [5, 6, 11] (fun u k i wr => ∃ j : Nat, j ≤ n ∧ i = .int .i64 j ∧ Hid (wr.ownsRow 0 3 1 u (oth j x).length (its (oth j x)) ∧ Below w.heap.size w wr ∧ ∀ k, Ug u k → w.heap.size ≤ k)) (fun u k i _ => n - (intOf i).toNat)
  case atStart => exact ⟨0, by omega, rfl, own_nil _ _ _, Below.refl _ _, fun k hk => by cases hk⟩
  case round =>
    obtain ⟨j, hj, rfl, hu⟩ := hrel
    by_cases hlt : j < n
    · have hlt' : (j : Int) < n := by omega
      have hj8 : j < 8 := by omega
      obtain ⟨h1, h2, h3⟩ := hu.out
      obtain ⟨ad, cp, rfl⟩ := own_form h1
      have hl := oth_len j x
      by_cases hx : (j : Int) = x
      · have hx2 : ((j : Int) != x) = false := by simp [hx]
        have HU2 : Hid (wr.ownsRow 0 3 1 (.slice ad (oth j x).length cp) (oth (j + 1) x).length (its (oth (j + 1) x)) ∧ Below w.heap.size w wr ∧ ∀ k, Ug (.slice ad (oth j x).length cp) k → w.heap.size ≤ k) := by
          rw [oth_up, if_pos hx, List.append_nil]; exact ⟨h1, h2, h3⟩
        clear hu h1 h2 h3 hx
        go_wp2
        go_roundw
        case rel => exact ⟨j + 1, by omega, by go_num, HU2⟩
        case measure => simp [intOf]; omega
      · have hx2 : ((j : Int) != x) = true := by simp [hx]
        obtain ⟨i0, hi0, hz0, hz1, hz2⟩ := info_parts info_int'
        have hb1 := (Below.refl wr.heap.size wr).alloc (Nat.le_refl _) (.cells #[.int .i64 (j : Int)] 3)
        have HL := hid (own_only h1 (T := fun _ => False) (.ofBelow hb1) (fun _ _ z => z))
        have HN : Hid (∀ k u, [Value.int .i64 (j : Int)][k]? = some u → (wr.alloc (.cells #[.int .i64 (j : Int)] 3)).cell? ((⟨wr.heap.size, 0, none⟩ : Addr).add k) = some u) := fun k u hk => by
          rw [C.addr_add, Nat.zero_add, cell_of_row _ _ k _ _ _ (heap_alloc_new wr _)]
          simpa using hk
        have H2 := hid h2
        have H3 := hid h3
        have HB1 := hid hb1
        have HX := hid hx
        have HHL := hid hl
        clear hu h1 h2 h3 hx hb1 hl
        generalize hLn : (oth j x).length = ln at *
        have HLn := hid hLn
        clear hLn
        go_wp2_with (at_builtin; refine wpList_append_blk _ (.tmp 17) (.tmp 19) 62 rfl 3 i0 (.int .i64 0) 1 8 u_sint' hi0 hz0 hz1 hz2 rfl (by decide) (.slice ad ln cp) ln (its (oth j x)) rfl HL.out ⟨wr.heap.size, 0, none⟩ 1 1 [.int .i64 (j : Int)] rfl rfl HN.out (by intro u hu; simp at hu; subst hu; rfl) (show ln + 1 ≤ 9223372036854775807 by have := HHL.out; omega) (by have := HHL.out; omega) rfl ?_; intro u' w3 hown hgrow hblk; obtain ⟨ad2, cp2, rfl⟩ := own_form hown; have HO3 := hid hown; have HG3 := hid hgrow; have HB3 := hid hblk; clear hown hgrow hblk)
        go_roundw
        case rel =>
          refine ⟨j + 1, by omega, by go_num, ?_, ?_, ?_⟩
          · have e1 := HO3.out
            rw [its_app, ← HLn.out] at e1
            rw [oth_up, if_neg HX.out]
            rw [← HLn.out]
            simpa using e1
          · exact H2.out.trans ((HB1.out.mono H2.out.size).trans ((grown_ug HG3.out).below _ (Nat.le_trans H2.out.size HB1.out.size) H3.out))
          · intro k hk
            rcases HB3.out k hk with q | q
            · exact H3.out k q
            · have := H2.out.size
              have := HB1.out.size
              omega
        case measure => simp [intOf]; omega
    · obtain rfl : j = n := by omega
      obtain ⟨h1, h2, h3⟩ := hu.out
      obtain ⟨ad, cp, rfl⟩ := own_form h1
      have hlt' : ¬ (j : Int) < j := by omega
      go_wp2
      go_ret
      exact ⟨_, rfl, h1, h2⟩
end Go.Proofs.YtnfbnbiiejaldaaGreat
namespace Go.Proofs.YtnfbnbiiejaldaaGreat
open Go.RowKit Go.MapKept
open C (Only hid Still ret_bool ret_int)
set_option linter.unusedVariables false
set_option maxRecDepth 100000

/-- six bytes as an address -/
def ad6 (l : List Int) (k : Nat) : Ad := (l.getD k 0, l.getD (k + 1) 0, l.getD (k + 2) 0, l.getD (k + 3) 0, l.getD (k + 4) 0, l.getD (k + 5) 0)
def ad0 : Ad := (0, 0, 0, 0, 0, 0)
theorem kA_one (a : Ad) : ∀ v ∈ (kA a).toList, v.oneCell' = true := by
  intro v hv; simp [kA] at hv; rcases hv with rfl | rfl | rfl | rfl | rfl | rfl <;> rfl
theorem s_u8' : (Tryz.prog.info? 5).map (·.size) = some 1 := by kernel_rfl
theorem ad6_get (l : List Int) (k : Nat) (h : k + 6 ≤ l.length) (j : Nat) (v : Value) (hv : (kA (ad6 l k)).toList[j]? = some v) : (bys l)[k + j]? = some v := by
  have e : ∀ i, i < 6 → (bys l)[k + i]? = some (.int .u8 (l.getD (k + i) 0)) := fun i hi => by
    have hlt : k + i < l.length := by omega
    simp [bys, hlt]
  match j, hv with
  | 0, hv => rw [e 0 (by decide)]; exact hv
  | 1, hv => rw [e 1 (by decide)]; exact hv
  | 2, hv => rw [e 2 (by decide)]; exact hv
  | 3, hv => rw [e 3 (by decide)]; exact hv
  | 4, hv => rw [e 4 (by decide)]; exact hv
  | 5, hv => rw [e 5 (by decide)]; exact hv
  | j + 6, hv => simp [kA] at hv
theorem wp_at {P : Program} {c : Code} {Q : Exit → Act → World → Prop} {a : Act} {W w0 : World} (h : W = w0) (hk : Code.wp P c Q a w0) : Code.wp P c Q a W := h ▸ hk
theorem own_lit1 (w : World) (x : Value) (t : TypeId) : (w.alloc (.cells #[x] t)).ownsRow 0 t 1 (.slice (some ⟨w.heap.size, 0, none⟩) 1 1) 1 [x] :=
  ⟨rfl, .inr ⟨w.heap.size, 1, #[x], rfl, Nat.zero_le _, heap_alloc_new w _, Nat.le_refl _, by decide, rfl, rfl⟩⟩
/-- to where -/
def snd (L : List (Ad × Int)) (td : Ad) (n : Nat) (x : Int) : List Int := bif kn L td then (bif ((fA td L 0).map (·.2)).getD 0 == x then [] else [((fA td L 0).map (·.2)).getD 0]) else oth n x
set_option maxHeartbeats 4000000 in
theorem k_Send (w : World) (p M : Nat) (N : Nat) (L : List (Ad × Int)) (h : Sw w p M (N : Int) L) (hN : N ≤ 8) (pt : Int) (x0 : 0 ≤ pt) (x1 : pt < N) (fv : Value) (fl : List Int) (hf : w.ownsRow 0 5 1 fv fl.length (bys fl)) (hb : ∀ y ∈ fl, 0 ≤ y ∧ y < 256) (h14 : 14 ≤ fl.length) (hmx : fl.length ≤ 140737488355328) :
    Calls Tryz.prog 42 #[.pointer (some ⟨p, 0, none⟩), .int .i64 pt, fv] w fun r w' => ∃ u, r = .returned u ∧ w'.ownsRow 0 3 1 u (snd (lrn L (ad6 fl 6) pt) (ad6 fl 0) N pt).length (its (snd (lrn L (ad6 fl 6) pt) (ad6 fl 0) N pt)) ∧ Sw w' p M (N : Int) (lrn L (ad6 fl 6) pt) ∧ Only (· = M) w w' := by
  obtain ⟨fa, hfa⟩ : ∃ fa, fa = ad6 fl 6 := ⟨_, rfl⟩
  obtain ⟨ta, hta⟩ : ∃ ta, ta = ad6 fl 0 := ⟨_, rfl⟩
  rw [← hfa, ← hta]
  obtain ⟨L', hL'⟩ : ∃ L', L' = lrn L fa pt := ⟨_, rfl⟩
  rw [← hL']
  obtain ⟨sn, hsn⟩ : ∃ sn, sn = snd L' ta N pt := ⟨_, rfl⟩
  rw [← hsn]
  have hlenb := hf.1
  rcases hf.2 with ⟨rfl, h0⟩ | ⟨g, cap, cur, rfl, -, hg, hc, hcm, hcs, ht⟩
  · omega
  obtain ⟨n, hn⟩ : ∃ n, n = fl.length := ⟨_, rfl⟩
  have HCur : Hid (∀ w1 : World, w1.heap[g]? = some (.cells cur 5 (0, 0)) → ∀ k j v, k + 6 ≤ fl.length → (kA (ad6 fl k)).toList[j]? = some v → w1.cell? ((⟨g, k, none⟩ : Addr).add j) = some v) := fun w1 h1 k j v hk hv => by
    rw [C.addr_add, cell_of_row w1 g (k + j) _ _ _ h1]
    have h2 := ad6_get fl k hk j v hv
    rw [← ht, List.getElem?_take] at h2
    split at h2
    · simpa using h2
    · cases h2
  rw [← hn] at hc ⊢
  have HP0 : Hid (∀ w1, Sw w1 p M (N : Int) L → w1.cell? ⟨p, 0, none⟩ = some (.int .i64 N)) := fun w1 h1 => cell_of_row w1 p 0 _ _ _ h1.blk
  have c0 := HP0.out w h
  have q1 : ¬ pt < 0 := by omega
  have q2 : ¬ pt ≥ N := by omega
  have q3 : ¬ (n : Int) < 14 := by omega
  obtain ⟨wz, hwz⟩ : ∃ wz, wz = w.heap.size := ⟨_, rfl⟩
  have HWZ := hid hwz
  have HN := hid hn
  have HG := hid hg
  have HS := hid h
  have HB := hid hb
  have HC := hid hc
  have hlg := lt_of_block hg
  have HB6 : Hid (0 ≤ (fa).1 ∧ (fa).1 < 256) := by
    have hlt : 6 < fl.length := by omega
    rw [hfa]
    have e : (ad6 fl 6).1 = fl[6] := by simp [ad6, hlt]
    rw [e]
    exact hb _ (List.getElem_mem _)
  have HCur6 := hid (fun (w1 : World) (h1 : w1.heap[g]? = some (.cells cur 5 (0, 0))) (j : Nat) (v : Value) (hv : (kA fa).toList[j]? = some v) => HCur.out w1 h1 6 j v (by omega) (by rw [← hfa]; exact hv))
  have HCur0 := hid (fun (w1 : World) (h1 : w1.heap[g]? = some (.cells cur 5 (0, 0))) (j : Nat) (v : Value) (hv : (kA ta).toList[j]? = some v) => HCur.out w1 h1 0 j v (by omega) (by rw [← hta]; exact hv))
  have HL' := hid hL'
  have HSN0 := hid hsn
  clear hwz hn hg h hb hlenb hf ht hcs hcm hc hfa hta hL' hsn HCur
  go_enter Tryz.func42, Tryz.ntmps42
  go_upto_region 4 with fail
  obtain ⟨wa, hwa⟩ : ∃ wa, wa = (w.alloc (.cells (kA ad0) 157)).alloc (.cells (kA ad0) 157) := ⟨_, rfl⟩
  have a0 : wa.heap[wz]? = some (.cells (kA ad0) 157 (0, 0)) := by rw [hwa, HWZ.out]; exact (heap_alloc_old _ _ (by simp)).trans (heap_alloc_new w _)
  have a1 : wa.heap[wz + 1]? = some (.cells (kA ad0) 157 (0, 0)) := by
    rw [hwa, HWZ.out]
    have := heap_alloc_new (w.alloc (.cells (kA ad0) 157)) (.cells (kA ad0) 157)
    rw [show (w.alloc (.cells (kA ad0) 157)).heap.size = w.heap.size + 1 by simp] at this
    exact this
  have HBa : Hid (Below w.heap.size w wa) := by rw [hwa]; exact ((Below.refl _ _).alloc (Nat.le_refl _) _).alloc (by simp) _
  refine wp_at (w0 := wa) hwa.symm ?_
  rw [← HWZ.out]
  have HA0 := hid a0
  have HA1 := hid a1
  have hga : wa.heap[g]? = some (.cells cur 5 (0, 0)) := (HBa.out.block g (by have := lt_of_block HG.out; exact this)).trans HG.out
  have HS0 := hid (HCur0.out wa hga)
  have h4f : ∀ w4, w4 = wa.setRow wz ((kA ad0).toList.take 0 ++ ((kA (ta)).toList ++ (kA ad0).toList.drop (0 + (kA (ta)).toList.length))).toArray → w4.heap[wz]? = some (.cells (kA (ta)) 157 (0, 0)) ∧ w4.heap[wz + 1]? = some (.cells (kA ad0) 157 (0, 0)) ∧ Below w.heap.size w w4 := fun w4 h4 => by
    rw [h4]
    refine ⟨setRow_heap wa wz _ _ _ _ HA0.out, (Go.setRow_other wa wz (wz + 1) _ (by omega)).trans HA1.out, below_setRow HBa.out (by rw [HWZ.out]; exact Nat.le_refl _) _⟩
  have H4F := hid h4f
  clear hwa a0 a1 hga h4f
  obtain ⟨w4, hw4⟩ : ∃ w4, w4 = wa.setRow wz ((kA ad0).toList.take 0 ++ ((kA (ta)).toList ++ (kA ad0).toList.drop (0 + (kA (ta)).toList.length))).toArray := ⟨_, rfl⟩
  have hcp : (Builtin.copy_ #[22, 22] 3 #[.slice (some ⟨wz, 0, none⟩) 6 6, .slice (some ⟨g, 0, none⟩) n cap]).run Tryz.prog wa = .ok (.int .i64 6) w4 := by
    have := run_copy_row (P := Tryz.prog) wa 22 22 3 5 wz 0 6 6 ⟨g, 0, none⟩ n cap (kA ad0) 157 (kA (ta)).toList u_su8 s_u8' HA0.out (show 6 = Nat.min n 6 from (Nat.min_eq_right (show 6 ≤ n by have := HN.out; omega)).symm) (fun j v hv => HS0.out j v hv) (by show 0 + 6 ≤ 6; omega) (kA_one _)
    rw [hw4]
    exact this
  obtain ⟨b0, b1, b2⟩ := H4F.out w4 hw4
  have HW4 := hid hw4
  clear hw4
  go_upto_region 5 with fail
  obtain ⟨wb, hwb⟩ : ∃ wb, wb = w4.drew := ⟨_, rfl⟩
  refine wp_region_any (by kernel_rfl) ?_
  refine wpAny_at (w0 := wb) hwb.symm ?_
  have HBT : Hid (wb.heap[wz]? = some (.cells (kA (ta)) 157 (0, 0))) := by rw [hwb]; exact b0
  have HBF : Hid (wb.heap[wz + 1]? = some (.cells (kA ad0) 157 (0, 0))) := by rw [hwb]; exact b1
  have HBb : Hid (Below w.heap.size w wb) := by rw [hwb]; exact b2.drew
  have hgb : wb.heap[g]? = some (.cells cur 5 (0, 0)) := (HBb.out.block g (lt_of_block HG.out)).trans HG.out
  have HS6 : Hid (∀ j v, (kA (fa)).toList[j]? = some v → wb.cell? ((⟨g, 6, none⟩ : Addr).add j) = some v) := fun j v hv => HCur6.out wb hgb j v hv
  have hn6 : (6 : Int) ≤ n := by have := HN.out; omega
  have hc6 : ¬ cap = 6 := by have := HN.out; have := HC.out; omega
  have hn6' : 6 ≤ n := by have := HN.out; omega
  clear b0 b1 b2 HW4 hcp hwb hgb H4F HS0 HA0 HA1 HBa HCur6 HCur0
  refine wpAny_fz (α := Unit) (fun _ => fun dd => if dd = 29 then .slice (some ⟨wz + 1, 0, none⟩) 6 6 else if dd = 30 then .slice (some ⟨g, 0, none⟩) n cap else if dd = 31 then .slice (some ⟨g, 6, none⟩) (n - 6) (cap - 6) else if dd = 32 then .int .i64 6 else undef) (fun x listed w => VS [3] (fun k (_ : Unit) w => if k = 0 then w = wb else Hid (w.heap[wz + 1]? = some (.cells (kA fa) 157 (0, 0))) ∧ Below (wz + 1) wb w) x listed w) ?step ?fin () ?start
  case start => exact .start rfl
  case step =>
    rintro listed fr wr x hF hW hC i hj
    obtain ⟨hl, o, ho, he⟩ := mem_ready.1 hj
    have hjl : i < listed.size := by rw [hF.q.ls]; exact (Array.getElem?_eq_some_iff.1 ho).1
    have hl0 := getD_tf hjl hl
    clear hj
    have HF := hid hF
    have HW := hid hW
    have HE := hid he
    have HC := hid hC
    clear hF hW he hl hC
    match i, ho with
    | 0, ho =>
      obtain rfl := Option.some.inj ho
      have e8 : fr.tmps[8]?.getD undef = .pointer (some ⟨wz + 1, 0, none⟩) := HF.out.base 8 (by kernel_rfl) rfl
      exact wp_q rfl rfl (by simp [execOp, go_sem, e8]; try rfl) ⟨(), HF.out.put (by kernel_rfl) rfl rfl rfl (of_decide_eq_true rfl), HW.out.q hjl (by decide)⟩
    | 1, ho =>
      obtain rfl := Option.some.inj ho
      have e2 : fr.tmps[2]?.getD undef = .slice (some ⟨g, 0, none⟩) n cap := HF.out.base 2 (by kernel_rfl) rfl
      exact wp_q rfl rfl (by simp [execOp, go_sem, e2]; try rfl) ⟨(), HF.out.put (by kernel_rfl) rfl rfl rfl (of_decide_eq_true rfl), HW.out.q hjl (by decide)⟩
    | 2, ho =>
      obtain rfl := Option.some.inj ho
      have e30 : fr.tmps[30]?.getD undef = .slice (some ⟨g, 0, none⟩) n cap := HF.out.ev (i := 1) rfl rfl (HE.out ⟨1, .data⟩ (by simp) rfl)
      exact wp_q rfl rfl (by simp [execOp, go_sem, e30, hn6, hc6]; try rfl) ⟨(), HF.out.put (by kernel_rfl) rfl rfl rfl (of_decide_eq_true rfl), HW.out.q hjl (by decide)⟩
    | 3, ho =>
      obtain rfl := Option.some.inj ho
      have e29 : fr.tmps[29]?.getD undef = .slice (some ⟨wz + 1, 0, none⟩) 6 6 := HF.out.ev (i := 0) rfl rfl (HE.out ⟨0, .data⟩ (by simp) rfl)
      have e31 : fr.tmps[31]?.getD undef = .slice (some ⟨g, 6, none⟩) (n - 6) (cap - 6) := HF.out.ev (i := 2) rfl rfl (HE.out ⟨2, .data⟩ (by simp) rfl)
      have hw0 : wr = wb := HW.out.at 0 rfl hl0 (fun j hj => by omega)
      subst hw0
      have e29' : Act.eval fr (.tmp 29) = .slice (some ⟨wz + 1, 0, none⟩) 6 6 := by simp [Act.eval, e29]
      have e31' : Act.eval fr (.tmp 31) = .slice (some ⟨g, 6, none⟩) (n - 6) (cap - 6) := by simp [Act.eval, e31]
      refine wpOp_step rfl fun K' hK => ?_
      refine step_copy_splice rfl (.tmp 29) (.tmp 31) 22 22 rfl 5 u_su8 s_u8' (some ⟨wz + 1, 0, none⟩) (some ⟨g, 6, none⟩) 6 6 (n - 6) (cap - 6) e29' e31' (wz + 1) 0 (kA ad0).toList 157 HBF.out (kA fa).toList (show 6 = Nat.min (n - 6) 6 from (Nat.min_eq_right (show 6 ≤ n - 6 by have := HN.out; omega)).symm) (fun _ => ⟨rfl, ⟨g, 6, none⟩, rfl, HS6.out⟩) (by show 0 + 6 ≤ 6; omega) (kA_one _) (wz + 1) wr (Below.refl _ _) (Nat.le_refl _) ?_
      intro w8 h8 hb8
      have h8' : Hid (w8.heap[wz + 1]? = some (.cells (kA fa) 157 (0, 0))) := h8
      exact hK _ _ ⟨(), HF.out.put (by kernel_rfl) rfl rfl rfl (of_decide_eq_true rfl), HW.out.go 0 hjl rfl hl0 (fun j hj => by omega) (by intro a ha; match a, ha with | 0, _ => rfl) ⟨h8', hb8⟩⟩
  case fin =>
    rintro listed fr w2 x hF hW hr
    have all := allDone hr hF.q.ls (by kernel_rfl)
    have hw := hW.end 0 rfl (all _ (by decide)) (fun s hs q => by rw [if_neg (by omega)] at q; exact q)
    obtain ⟨g1, g2⟩ := (show Hid (w2.heap[wz + 1]? = some (.cells (kA fa) 157 (0, 0))) ∧ Below (wz + 1) wb w2 from hw)
    rw [hF.full all]
    clear hF hr all hW hw
    simp only [List.foldl_cons, List.foldl_nil, fillF]
    go_simp
    have t2 : w2.heap[wz]? = some (.cells (kA (ta)) 157 (0, 0)) := (g2.block wz (by omega)).trans HBT.out
    have b2 : Below w.heap.size w w2 := by
      have := HBb.out
      exact this.trans (g2.mono (by rw [HWZ.out]; omega))
    have s2 : Sw w2 p M (N : Int) L := HS.out.below b2
    have hle := k_learn w2 p M (N : Int) L s2 (fa) (HB6.out) pt
    have cf0 := cell_of_row w2 (wz + 1) 0 _ _ _ g1.out
    have cf1 := cell_of_row w2 (wz + 1) 1 _ _ _ g1.out
    have cf2 := cell_of_row w2 (wz + 1) 2 _ _ _ g1.out
    have cf3 := cell_of_row w2 (wz + 1) 3 _ _ _ g1.out
    have cf4 := cell_of_row w2 (wz + 1) 4 _ _ _ g1.out
    have cf5 := cell_of_row w2 (wz + 1) 5 _ _ _ g1.out
    simp only [kA] at hle
    replace cf0 : w2.cell? ⟨wz + 1, 0, none⟩ = some (.int .u8 fa.1) := cf0
    replace cf1 : w2.cell? ⟨wz + 1, 1, none⟩ = some (.int .u8 fa.2.1) := cf1
    replace cf2 : w2.cell? ⟨wz + 1, 2, none⟩ = some (.int .u8 fa.2.2.1) := cf2
    replace cf3 : w2.cell? ⟨wz + 1, 3, none⟩ = some (.int .u8 fa.2.2.2.1) := cf3
    replace cf4 : w2.cell? ⟨wz + 1, 4, none⟩ = some (.int .u8 fa.2.2.2.2.1) := cf4
    replace cf5 : w2.cell? ⟨wz + 1, 5, none⟩ = some (.int .u8 fa.2.2.2.2.2) := cf5
    have T2 := hid t2
    have B2 := hid b2
    clear g1 g2 t2 b2 s2 HBT HBF HBb HS6
    rw [← HL'.out] at hle
    go_upto_region 7 with (go_at_call 75; refine hle.mono ?_; rintro e w3 ⟨rfl, k1, k2⟩; have S3 := hid k1; have O3 := hid k2; clear k1 k2)
    obtain ⟨w0, hw0⟩ : ∃ w0, w0 = w3.drew := ⟨_, rfl⟩
    refine wp_region_any (by kernel_rfl) ?_
    refine wpAny_at (w0 := w0) hw0.symm ?_
    have O4 : Hid (Only (· = M) w w0) := by rw [hw0]; exact ((Only.ofBelow B2.out).trans O3.out).drew
    have s0 : Sw w0 p M (N : Int) L' := by rw [hw0]; obtain ⟨q1, q2⟩ := S3.out; exact ⟨q1, q2⟩
    have t0 : w0.heap[wz]? = some (.cells (kA ta) 157 (0, 0)) := by
      rw [hw0]
      refine O3.out.old T2.out fun z => ?_
      subst z
      obtain ⟨-, es, c, hm, -⟩ := HS.out
      have h1 : wz < w.heap.size := (Array.getElem?_eq_some_iff.1 hm).1
      have := HWZ.out
      omega
    obtain ⟨y, hy⟩ : ∃ y, y = ((fA ta L' 0).map (·.2)).getD 0 := ⟨_, rfl⟩
    obtain ⟨kb, hkb⟩ : ∃ kb, kb = kn L' ta := ⟨_, rfl⟩
    have HLK : Hid ((Instr.lookup 153 (.map (some M)) (.agg #[.int .u8 ta.1, .int .u8 ta.2.1, .int .u8 ta.2.2.1, .int .u8 ta.2.2.2.1, .int .u8 ta.2.2.2.2.1, .int .u8 ta.2.2.2.2.2]) true).run Tryz.prog w0 = .ok (.tuple #[.int .i64 y, .bool kb]) w0) := by rw [hy, hkb]; exact s0.look ta
    have HC1 : Hid (w0.cell? ⟨p, 1, none⟩ = some (.map (some M))) := cell_of_row w0 p 1 _ _ _ s0.blk
    have HLA : Hid (w0.cell? ⟨wz, 0, none⟩ = some (.int .u8 ta.1) ∧ w0.cell? ⟨wz, 1, none⟩ = some (.int .u8 ta.2.1) ∧ w0.cell? ⟨wz, 2, none⟩ = some (.int .u8 ta.2.2.1) ∧ w0.cell? ⟨wz, 3, none⟩ = some (.int .u8 ta.2.2.2.1) ∧ w0.cell? ⟨wz, 4, none⟩ = some (.int .u8 ta.2.2.2.2.1) ∧ w0.cell? ⟨wz, 5, none⟩ = some (.int .u8 ta.2.2.2.2.2)) := ⟨cell_of_row w0 wz 0 _ _ _ t0, cell_of_row w0 wz 1 _ _ _ t0, cell_of_row w0 wz 2 _ _ _ t0, cell_of_row w0 wz 3 _ _ _ t0, cell_of_row w0 wz 4 _ _ _ t0, cell_of_row w0 wz 5 _ _ _ t0⟩
    have HSN : Hid (sn = bif kb then (bif y == pt then [] else [y]) else oth N pt) := by rw [hy, hkb, HSN0.out]; exact hid rfl
    have HOT := hid (k_others w0 p M N L' s0 hN pt)
    have HS0 := hid s0
    clear HSN0 HL' hy hkb s0 t0 hw0 T2 B2 S3 O3 HS cf0 cf1 cf2 cf3 cf4 cf5
    refine wpAny_fz (α := Unit) (fun _ => fun dd => if dd = 38 then .pointer (some ⟨p, 0, none⟩) else if dd = 39 then .pointer (some ⟨p, 0, none⟩) else if dd = 40 then .pointer (some ⟨p, 1, none⟩) else if dd = 41 then .map (some M) else if dd = 42 then .agg #[.int .u8 ta.1, .int .u8 ta.2.1, .int .u8 ta.2.2.1, .int .u8 ta.2.2.2.1, .int .u8 ta.2.2.2.2.1, .int .u8 ta.2.2.2.2.2] else if dd = 43 then .tuple #[.int .i64 y, .bool kb] else if dd = 37 then .tuple #[.int .i64 y, .bool kb] else if dd = 44 then .int .i64 y else if dd = 45 then .bool kb else if dd = 9 then .int .i64 y else if dd = 10 then .bool kb else undef) (fun x listed w => VS [] (fun n (_ : Unit) w => w = w0) x listed w) ?step ?fin () ?start
    case start => exact .start rfl
    case step =>
      rintro listed fr wr x hF hW hC i hj
      obtain ⟨hl, o, ho, he⟩ := mem_ready.1 hj
      have hjl : i < listed.size := by rw [hF.q.ls]; exact (Array.getElem?_eq_some_iff.1 ho).1
      have hl0 := getD_tf hjl hl
      clear hj
      have HF := hid hF
      have HW := hid hW
      have HE := hid he
      have HC := hid hC
      clear hF hW he hl hC
      match i, ho with
      | 0, ho =>
        obtain rfl := Option.some.inj ho
        have e0 : fr.tmps[0]?.getD undef = .pointer (some ⟨p, 0, none⟩) := HF.out.base 0 (by kernel_rfl) rfl
        exact wp_q rfl rfl (by simp [execOp, go_sem, e0]; try rfl) ⟨(), HF.out.put (by kernel_rfl) rfl rfl rfl (of_decide_eq_true rfl), HW.out.q hjl (by decide)⟩
      | 1, ho =>
        obtain rfl := Option.some.inj ho
        have e38 : fr.tmps[38]?.getD undef = .pointer (some ⟨p, 0, none⟩) := HF.out.ev (i := 0) rfl rfl (HE.out ⟨0, .data⟩ (by simp) rfl)
        exact wp_q rfl rfl (by simp [execOp, go_sem, e38]; try rfl) ⟨(), HF.out.put (by kernel_rfl) rfl rfl rfl (of_decide_eq_true rfl), HW.out.q hjl (by decide)⟩
      | 2, ho =>
        obtain rfl := Option.some.inj ho
        have e39 : fr.tmps[39]?.getD undef = .pointer (some ⟨p, 0, none⟩) := HF.out.ev (i := 1) rfl rfl (HE.out ⟨1, .data⟩ (by simp) rfl)
        exact wp_q rfl rfl (by simp [execOp, go_sem, e39]; try rfl) ⟨(), HF.out.put (by kernel_rfl) rfl rfl rfl (of_decide_eq_true rfl), HW.out.q hjl (by decide)⟩
      | 3, ho =>
        obtain rfl := Option.some.inj ho
        have e40 : fr.tmps[40]?.getD undef = .pointer (some ⟨p, 1, none⟩) := HF.out.ev (i := 2) rfl rfl (HE.out ⟨2, .data⟩ (by simp) rfl)
        have hw0 : wr = w0 := by obtain ⟨_, _, q⟩ := HW.out; exact q
        subst hw0
        exact wp_q rfl rfl (by simp [execOp, go_sem, e40, HC1.out]; try rfl) ⟨(), HF.out.put (by kernel_rfl) rfl rfl rfl (of_decide_eq_true rfl), HW.out.q hjl (by decide)⟩
      | 4, ho =>
        obtain rfl := Option.some.inj ho
        have e7 : fr.tmps[7]?.getD undef = .pointer (some ⟨wz, 0, none⟩) := HF.out.base 7 (by kernel_rfl) rfl
        have hw0 : wr = w0 := by obtain ⟨_, _, q⟩ := HW.out; exact q
        subst hw0
        obtain ⟨l0, l1, l2, l3, l4, l5⟩ := HLA.out
        exact wp_q rfl rfl (by simp [execOp, go_sem, e7, l0, l1, l2, l3, l4, l5]; try rfl) ⟨(), HF.out.put (by kernel_rfl) rfl rfl rfl (of_decide_eq_true rfl), HW.out.q hjl (by decide)⟩
      | 5, ho =>
        obtain rfl := Option.some.inj ho
        have e41 : fr.tmps[41]?.getD undef = .map (some M) := HF.out.ev (i := 3) rfl rfl (HE.out ⟨3, .data⟩ (by simp) rfl)
        have e42 : fr.tmps[42]?.getD undef = .agg #[.int .u8 ta.1, .int .u8 ta.2.1, .int .u8 ta.2.2.1, .int .u8 ta.2.2.2.1, .int .u8 ta.2.2.2.2.1, .int .u8 ta.2.2.2.2.2] := HF.out.ev (i := 4) rfl rfl (HE.out ⟨4, .data⟩ (by simp) rfl)
        have hw0 : wr = w0 := by obtain ⟨_, _, q⟩ := HW.out; exact q
        subst hw0
        exact wp_q rfl rfl (by simp [execOp, go_sem, e41, e42, HLK.out]; try rfl) ⟨(), HF.out.put (by kernel_rfl) rfl rfl rfl (of_decide_eq_true rfl), HW.out.q hjl (by decide)⟩
      | 6, ho =>
        obtain rfl := Option.some.inj ho
        have e43 : fr.tmps[43]?.getD undef = .tuple #[.int .i64 y, .bool kb] := HF.out.ev (i := 5) rfl rfl (HE.out ⟨5, .data⟩ (by simp) rfl)
        exact wp_q rfl rfl (by simp [execOp, go_sem, e43]; try rfl) ⟨(), HF.out.put (by kernel_rfl) rfl rfl rfl (of_decide_eq_true rfl), HW.out.q hjl (by decide)⟩
      | 7, ho =>
        obtain rfl := Option.some.inj ho
        have e37 : fr.tmps[37]?.getD undef = .tuple #[.int .i64 y, .bool kb] := HF.out.ev (i := 6) rfl rfl (HE.out ⟨6, .data⟩ (by simp) rfl)
        exact wp_q rfl rfl (by simp [execOp, go_sem, e37]; try rfl) ⟨(), HF.out.put (by kernel_rfl) rfl rfl rfl (of_decide_eq_true rfl), HW.out.q hjl (by decide)⟩
      | 8, ho =>
        obtain rfl := Option.some.inj ho
        have e37 : fr.tmps[37]?.getD undef = .tuple #[.int .i64 y, .bool kb] := HF.out.ev (i := 6) rfl rfl (HE.out ⟨6, .data⟩ (by simp) rfl)
        exact wp_q rfl rfl (by simp [execOp, go_sem, e37]; try rfl) ⟨(), HF.out.put (by kernel_rfl) rfl rfl rfl (of_decide_eq_true rfl), HW.out.q hjl (by decide)⟩
      | 9, ho =>
        obtain rfl := Option.some.inj ho
        have e44 : fr.tmps[44]?.getD undef = .int .i64 y := HF.out.ev (i := 7) rfl rfl (HE.out ⟨7, .data⟩ (by simp) rfl)
        exact wp_q rfl rfl (by simp [execOp, go_sem, e44]; try rfl) ⟨(), HF.out.put (by kernel_rfl) rfl rfl rfl (of_decide_eq_true rfl), HW.out.q hjl (by decide)⟩
      | 10, ho =>
        obtain rfl := Option.some.inj ho
        have e45 : fr.tmps[45]?.getD undef = .bool kb := HF.out.ev (i := 8) rfl rfl (HE.out ⟨8, .data⟩ (by simp) rfl)
        exact wp_q rfl rfl (by simp [execOp, go_sem, e45]; try rfl) ⟨(), HF.out.put (by kernel_rfl) rfl rfl rfl (of_decide_eq_true rfl), HW.out.q hjl (by decide)⟩
    case fin =>
      rintro listed fr w9 x hF hW hr
      have all := allDoneB hr hF.q.ls (by kernel_rfl)
      obtain ⟨_, _, hw⟩ := hW
      have hw : w9 = w0 := hw
      subst hw
      rw [hF.full all]
      clear hF hr all
      simp only [List.foldl_cons, List.foldl_nil, fillF]
      go_simp
      cases kb
      · obtain rfl : sn = oth N pt := HSN.out
        have hot := HOT.out
        clear HSN HOT HLK
        go_wp2_with (go_at_call 76; refine hot.mono ?_; rintro e w5 ⟨u, rfl, k1, k2⟩; have K1 := hid k1; have K2 := hid k2; clear k1 k2)
        go_ret
        exact ⟨_, rfl, K1.out, HS0.out.below K2.out, O4.out.trans (Only.ofBelow K2.out)⟩
      · by_cases hyp : y = pt
        · obtain rfl : sn = [] := by rw [HSN.out, hyp]; simp
          have hyq : (y == pt) = true := by simp [hyp]
          clear HSN HOT HLK hyp
          go_wp2_with fail
          go_ret
          exact ⟨_, rfl, own_nil _ _ _, HS0.out, O4.out⟩
        · obtain rfl : sn = [y] := by rw [HSN.out, show (y == pt) = false from by simp [hyp]]; rfl
          have hyq : (y == pt) = false := by simp [hyp]
          clear HSN HOT HLK hyp
          go_wp2_with fail
          go_ret
          refine ⟨_, rfl, ?_, HS0.out.below ((Below.refl _ _).alloc (Nat.le_refl _) _), O4.out.trans (Only.ofBelow ((Below.refl _ _).alloc (Nat.le_refl _) _))⟩
          exact own_lit1 w9 (.int .i64 y) 3
end Go.Proofs.YtnfbnbiiejaldaaGreat
namespace Go.Proofs.YtnfbnbiiejaldaaGreat
open Go.RowKit Go.MapKept
open C (Only hid Still ret_bool ret_int row)
set_option linter.unusedVariables false
set_option maxRecDepth 100000

theorem row_bys (n : Nat) : row (fun _ => 0) 0 n = bys (List.replicate n 0) := by
  unfold C.row bys
  apply List.ext_getElem?
  intro i
  by_cases h : i < n
  · simp [h]
  · simp [h]
theorem own_row {w : World} {g n cap : Nat} {l : List Int} (hg : w.heap[g]? = some (.cells (bys l).toArray 5 (0, 0))) (hn : n = l.length) (hc : cap = l.length) (hm : l.length ≤ 140737488355328) : w.ownsRow 0 5 1 (.slice (some ⟨g, 0, none⟩) n cap) l.length (bys l) := by
  subst hn; subst hc
  refine ⟨by simp [bys_len], .inr ⟨g, l.length, (bys l).toArray, rfl, Nat.zero_le _, hg, Nat.le_refl _, ?_, by simp [bys_len], by rw [List.take_of_length_le (by simp [bys_len])]⟩⟩
  simp only [maxLen]; omega
theorem aw_list : snd (lrn [] (ad6 (255 :: List.replicate 19 0) 6) 0) (ad6 (255 :: List.replicate 19 0) 0) 3 0 = [1, 2] := by decide +kernel
theorem NW.dvv {w0 w : World} {kd : Int} {dk u : Value} {dl : List Int} {e M : Nat} {b : Nat → Nat} {i : Nat} (h : NW w0 kd dk dl e M b i u w) : Dv w e (nv kd u dk) := .inr ⟨M, b, h.dv, h.tab⟩
theorem nv_ok {kd : Int} {u dk : Value} (hk : kd = 1 ∨ kd = 2 ∨ kd = 3) : DOk (nv kd u dk) (nqs kd) := by
  have z : (0 : Int) ≤ 0 ∧ (0 : Int) < 4294967296 := by decide
  refine ⟨?_, z, z, z, z, z, (show (0 : Int) ≤ 0 ∧ (0 : Int) < 256 by decide), (show (0 : Int) ≤ 0 ∧ (0 : Int) < 4 by decide)⟩
  rcases hk with rfl | rfl | rfl
  · exact .inl ⟨rfl, rfl⟩
  · exact .inr (.inl ⟨rfl, rfl⟩)
  · exact .inr (.inr ⟨rfl, rfl⟩)
theorem aw_read {w0 w : World} {dk u : Value} {e M : Nat} {b : Nat → Nat} (h : NW w0 2 dk (List.replicate 512 0) e M b (nqs 2) u w) : Calls Tryz.prog 36 #[.pointer (some ⟨e, 0, none⟩), .int .u64 256, .int .i64 4] w fun r w' => r = .returned (.tuple #[.int .u64 1, .bool true]) ∧ w' = w := by
  obtain ⟨qb, rq, hq, -⟩ := h.qs
  obtain ⟨ad, c, hd⟩ := own_form h.disk
  refine (k_DRead h.dvv (nv_ok (.inr (.inl rfl))) hq ad 512 c (by rw [show (nv 2 u dk).dk = dk from rfl, hd]; simp) (by decide) 256 4 (by decide) (by decide)).mono ?_
  rintro r w' ⟨rfl, rfl⟩
  exact ⟨rfl, rfl⟩
theorem calls_at {f : FuncId} {args : Array Value} {W w0 : World} {R : Ending → World → Prop} (h : W = w0) (hk : Calls Tryz.prog f args w0 R) : Calls Tryz.prog f args W R := h ▸ hk
section
variable {w4 w5 : World} {p M : Nat} (h5 : w5 = w4.alloc (.cells (bys (255 :: List.replicate 19 0)).toArray 5))
include h5
theorem aw_below : Below w4.heap.size w4 w5 := by rw [h5]; exact (Below.refl _ _).alloc (Nat.le_refl _) _
theorem aw_own : w5.ownsRow 0 5 1 (.slice (some ⟨w4.heap.size, 0, none⟩) 20 20) (255 :: List.replicate 19 (0 : Int)).length (bys (255 :: List.replicate 19 0)) :=
  own_row (by rw [h5]; exact heap_alloc_new w4 _) (by simp) (by simp) (by simp)
end
set_option maxHeartbeats 2000000 in
theorem l_awake (w : World) : Calls Tryz.prog 13 #[] w fun r w' => r = .returned (.bool true) ∧ Below w.heap.size w w' := by
  have hmk : ∀ W, (Instr.makeSlice 22 (.int .i64 512) (.int .i64 512)).run Tryz.prog W = .ok (.slice (some ⟨W.heap.size, 0, none⟩) 512 512) (W.alloc (.cells (bys (List.replicate 512 0)).toArray 5)) := fun W => by rw [← row_bys]; exact C.run_makeB W 512 (by decide)
  have hmk2 : ∀ W, (Instr.makeSlice 22 (.int .i64 20) (.int .i64 20)).run Tryz.prog W = .ok (.slice (some ⟨W.heap.size, 0, none⟩) 20 20) (W.alloc (.cells (bys (List.replicate 20 0)).toArray 5)) := fun W => by rw [← row_bys]; exact C.run_makeB W 20 (by decide)
  have hb1 := (Below.refl w.heap.size w).alloc (Nat.le_refl _) (.cells (bys (List.replicate 512 0)).toArray 5)
  have hn := k_DNew (w.alloc (.cells (bys (List.replicate 512 0)).toArray 5)) 2 (by decide) (.slice (some ⟨w.heap.size, 0, none⟩) 512 512) (List.replicate 512 0) (own_row (heap_alloc_new w _) (by simp) (by simp) (by simp)) (by simp) (by simp) (.inl rfl)
  have HB1 := hid hb1
  clear hb1
  go_enter Tryz.func13, Tryz.ntmps13
  go_wp2_with (first
    | (go_at_call 39; refine hn.mono ?_; rintro r w2 ⟨e, u, dk, M, b, rfl, hw⟩; have H1 := hid hw; clear hw)
    | (go_at_call 36; refine (aw_read H1.out).mono ?_; rintro r w3 ⟨rfl, hw⟩; obtain rfl := hw.symm)
    | (go_at_call 41; refine (k_NewSwitch w2 3 (by decide) (by decide)).mono ?_; rintro r w4 ⟨p, M4, rfl, k1, k2, k3, k4⟩; have S4 := hid k1; have B4 := hid k2; have M4b := hid k4; have hc4 : (w4.alloc (.cells (bys (List.replicate 20 0)).toArray 5)).cell? ⟨w4.heap.size, 0, none⟩ = some (.int .u8 0) := cell_of_row _ _ 0 _ _ _ (heap_alloc_new w4 _); have hz4 : (w4.alloc (.cells (bys (List.replicate 20 0)).toArray 5)).frozen? ⟨w4.heap.size, 0, none⟩ = false := frozen_of_row _ _ 0 _ _ (heap_alloc_new w4 _); obtain ⟨w5, hw5⟩ : ∃ w5, w5 = w4.alloc (.cells (bys (255 :: List.replicate 19 0)).toArray 5) := ⟨_, rfl⟩; have H5 := hid hw5; clear k1 k2 k3 k4 hw5)
    | (go_at_call 42; refine calls_at H5.out.symm ?_; refine (k_Send w5 p M4 3 [] (S4.out.below (aw_below H5.out)) (by decide) 0 (by decide) (by decide) _ (255 :: List.replicate 19 0) (aw_own H5.out) (by decide) (by decide) (by decide)).mono ?_; rintro r w6 ⟨u6, rfl, k1, k2, k3⟩; rw [aw_list] at k1; obtain ⟨ad6', cp6, rfl⟩ := own_form k1; have O6 := hid k3; clear k1 k2 k3))
  go_ret
  refine ⟨rfl, ?_⟩
  have b2 : Below w.heap.size w w2 := HB1.out.trans (H1.out.bel.mono HB1.out.size)
  have b4 : Below w.heap.size w w4 := b2.trans (B4.out.mono b2.size)
  have b5 : Below w.heap.size w w5 := b4.trans ((aw_below H5.out).mono b4.size)
  exact b5.trans (O6.out.below _ b5.size fun k hk => by have := M4b.out; have := b2.size; omega)
end Go.Proofs.YtnfbnbiiejaldaaGreat
