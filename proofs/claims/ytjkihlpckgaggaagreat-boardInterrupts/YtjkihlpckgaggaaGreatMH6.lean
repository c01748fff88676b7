/- A switch's table. -/
import Derived.Test.YtjkihlpckgaggaaGreatMH5
import Derived.Laws.CopyOwn
import Derived.Test.YtjkihlpckgaggaaGreatMC2
namespace Go.Proofs.YtjkihlpckgaggaaGreat
open Go.RowKit Go.MapKept
open C (Only hid Still ret_bool ret_int)
set_option linter.unusedVariables false
set_option maxRecDepth 100000

def fA (a : Ad) : List (Ad × Int) → Nat → Option (Nat × Int)
  | [], _ => none
  | p :: L, i => if a = p.1 then some (i, p.2) else fA a L (i + 1)
def EsL (es : List MapEntry) (L : List (Ad × Int)) : Prop := es.map (fun x => (x.key, x.val)) = L.map (fun p => (Value.agg (kA p.1), Value.int .i64 p.2))
theorem EsL.len {es : List MapEntry} {L : List (Ad × Int)} (h : EsL es L) : es.length = L.length := by have := congrArg List.length h; simpa using this
theorem fA_spec (a : Ad) : ∀ (L : List (Ad × Int)) (i j : Nat) (p : Int), fA a L i = some (j, p) → i ≤ j ∧ L[j - i]? = some (a, p)
  | [], i, j, p, h => by simp [fA] at h
  | q :: L, i, j, p, h => by
    unfold fA at h
    split at h
    · rename_i z
      simp at h
      obtain ⟨rfl, rfl⟩ := h
      exact ⟨Nat.le_refl _, by simp [z]⟩
    · obtain ⟨h1, h2⟩ := fA_spec a L (i + 1) j p h
      refine ⟨by omega, ?_⟩
      obtain ⟨k, rfl⟩ : ∃ k, j = i + 1 + k := ⟨j - (i + 1), by omega⟩
      rw [show i + 1 + k - (i + 1) = k by omega] at h2
      rw [show i + 1 + k - i = k + 1 by omega]
      simpa using h2
/-- known, or not -/
def kn (L : List (Ad × Int)) (a : Ad) : Bool := (fA a L 0).isSome
def upA (L : List (Ad × Int)) (a : Ad) (p : Int) : List (Ad × Int) := match fA a L 0 with | some (j, _) => L.set j (a, p) | none => L ++ [(a, p)]
theorem sameA (a : Ad) : Instr.sameBits 10000 (.agg (kA a)) (.agg (kA a)) = true := by
  show Instr.sameBits (9999 + 1) _ _ = true
  simp [Instr.sameBits, kA]
end Go.Proofs.YtjkihlpckgaggaaGreat
namespace Go.Proofs.YtjkihlpckgaggaaGreat
open Go.RowKit Go.MapKept
open C (Only hid Still ret_bool ret_int)
set_option linter.unusedVariables false
set_option maxRecDepth 100000

theorem and1 : ∀ k : Fin 256, bits BinOp.and IntKind.u8 ((k.val : Nat) : Int) 1 = ((k.val % 2 : Nat) : Int) := by decide +kernel
theorem and1' (x : Int) (h0 : 0 ≤ x) (h1 : x < 256) : bits BinOp.and IntKind.u8 x 1 = x % 2 := by
  have := and1 ⟨x.toNat, by omega⟩
  rw [show ((x.toNat : Nat) : Int) = x by omega] at this
  rw [this]
  show ((x.toNat % 2 : Nat) : Int) = x % 2
  omega
def AOk (a : Ad) : Prop := (0 ≤ a.1 ∧ a.1 < 256) ∧ (0 ≤ a.2.1 ∧ a.2.1 < 256) ∧ (0 ≤ a.2.2.1 ∧ a.2.2.1 < 256) ∧ (0 ≤ a.2.2.2.1 ∧ a.2.2.2.1 < 256) ∧ (0 ≤ a.2.2.2.2.1 ∧ a.2.2.2.2.1 < 256) ∧ (0 ≤ a.2.2.2.2.2 ∧ a.2.2.2.2.2 < 256)
theorem wpAny_at {P : Program} {md : Region.Mode} {ops : Array Oper} {Q : Exit → Act → World → Prop} {n : Nat} {l : Array Bool} {a : Act} {W w0 : World} (h : W = w0) (hk : wpAny P md ops Q n l a w0) : wpAny P md ops Q n l a W := h ▸ hk
/-- what it knows then -/
def lrn (L : List (Ad × Int)) (a : Ad) (x : Int) : List (Ad × Int) := bif a.1 % 2 == 0 && (kn L a || decide (L.length < 32)) then upA L a x else L
end Go.Proofs.YtjkihlpckgaggaaGreat
namespace Go.Proofs.YtjkihlpckgaggaaGreat
open Go.RowKit Go.MapKept
open C (Only hid Still ret_bool ret_int)
set_option linter.unusedVariables false
set_option maxRecDepth 100000

def its (l : List Int) : List Value := l.map (Value.int .i64)
theorem its_len (l : List Int) : (its l).length = l.length := by simp [its]
theorem its_app (l : List Int) (x : Int) : its l ++ [Value.int .i64 x] = its (l ++ [x]) := by simp [its]
theorem info_int' : (Tryz.prog.info? 3).map (fun i => (i.zero, i.size, i.bytes)) = some (some (.int .i64 0), 1, 8) := by kernel_rfl
theorem u_sint' : Tryz.prog.underlying 22 = some (.slice 3) := by kernel_rfl
/-- all other ports -/
def oth (n : Nat) (x : Int) : List Int := ((List.range n).map (fun i : Nat => (i : Int))).filter fun y => y != x
theorem oth_up (n : Nat) (x : Int) : oth (n + 1) x = oth n x ++ (if (n : Int) = x then [] else [(n : Int)]) := by
  unfold oth
  rw [List.range_succ, List.map_append, List.filter_append]
  congr 1
  by_cases h : (n : Int) = x
  · simp [h]
  · simp [h]
theorem oth_len (n : Nat) (x : Int) : (oth n x).length ≤ n := by unfold oth; exact Nat.le_trans (List.length_filter_le _ _) (by simp)
end Go.Proofs.YtjkihlpckgaggaaGreat
namespace Go.Proofs.YtjkihlpckgaggaaGreat
open Go.RowKit Go.MapKept
open C (Only hid Still ret_bool ret_int)
set_option linter.unusedVariables false
set_option maxRecDepth 100000

/-- six bytes as an address -/
def ad6 (l : List Int) (k : Nat) : Ad := (l.getD k 0, l.getD (k + 1) 0, l.getD (k + 2) 0, l.getD (k + 3) 0, l.getD (k + 4) 0, l.getD (k + 5) 0)
def ad0 : Ad := (0, 0, 0, 0, 0, 0)
theorem kA_one (a : Ad) : ∀ v ∈ (kA a).toList, v.oneCell' = true := by
  intro v hv; simp [kA] at hv; rcases hv with rfl | rfl | rfl | rfl | rfl | rfl <;> rfl
theorem s_u8' : (Tryz.prog.info? 5).map (·.size) = some 1 := by kernel_rfl
theorem ad6_get (l : List Int) (k : Nat) (h : k + 6 ≤ l.length) (j : Nat) (v : Value) (hv : (kA (ad6 l k)).toList[j]? = some v) : (bys l)[k + j]? = some v := by
  have e : ∀ i, i < 6 → (bys l)[k + i]? = some (.int .u8 (l.getD (k + i) 0)) := fun i hi => by
    have hlt : k + i < l.length := by omega
    simp [bys, hlt]
  match j, hv with
  | 0, hv => rw [e 0 (by decide)]; exact hv
  | 1, hv => rw [e 1 (by decide)]; exact hv
  | 2, hv => rw [e 2 (by decide)]; exact hv
  | 3, hv => rw [e 3 (by decide)]; exact hv
  | 4, hv => rw [e 4 (by decide)]; exact hv
  | 5, hv => rw [e 5 (by decide)]; exact hv
  | j + 6, hv => simp [kA] at hv
theorem wp_at {P : Program} {c : Code} {Q : Exit → Act → World → Prop} {a : Act} {W w0 : World} (h : W = w0) (hk : Code.wp P c Q a w0) : Code.wp P c Q a W := h ▸ hk
theorem own_lit1 (w : World) (x : Value) (t : TypeId) : (w.alloc (.cells #[x] t)).ownsRow 0 t 1 (.slice (some ⟨w.heap.size, 0, none⟩) 1 1) 1 [x] :=
  ⟨rfl, .inr ⟨w.heap.size, 1, #[x], rfl, Nat.zero_le _, heap_alloc_new w _, Nat.le_refl _, by decide, rfl, rfl⟩⟩
/-- to where -/
def snd (L : List (Ad × Int)) (td : Ad) (n : Nat) (x : Int) : List Int := bif kn L td then (bif ((fA td L 0).map (·.2)).getD 0 == x then [] else [((fA td L 0).map (·.2)).getD 0]) else oth n x
end Go.Proofs.YtjkihlpckgaggaaGreat
namespace Go.Proofs.YtjkihlpckgaggaaGreat
open Go.RowKit Go.MapKept
open C (Only hid Still ret_bool ret_int row)
set_option linter.unusedVariables false
set_option maxRecDepth 100000

theorem row_bys (n : Nat) : row (fun _ => 0) 0 n = bys (List.replicate n 0) := by
  unfold C.row bys
  apply List.ext_getElem?
  intro i
  by_cases h : i < n
  · simp [h]
  · simp [h]
theorem own_row {w : World} {g n cap : Nat} {l : List Int} (hg : w.heap[g]? = some (.cells (bys l).toArray 5 (0, 0))) (hn : n = l.length) (hc : cap = l.length) (hm : l.length ≤ 140737488355328) : w.ownsRow 0 5 1 (.slice (some ⟨g, 0, none⟩) n cap) l.length (bys l) := by
  subst hn; subst hc
  refine ⟨by simp [bys_len], .inr ⟨g, l.length, (bys l).toArray, rfl, Nat.zero_le _, hg, Nat.le_refl _, ?_, by simp [bys_len], by rw [List.take_of_length_le (by simp [bys_len])]⟩⟩
  simp only [maxLen]; omega
theorem aw_list : snd (lrn [] (ad6 (255 :: List.replicate 19 0) 6) 0) (ad6 (255 :: List.replicate 19 0) 0) 3 0 = [1, 2] := by decide +kernel
theorem NW.dvv {w0 w : World} {kd : Int} {dk u : Value} {dl : List Int} {e M : Nat} {b : Nat → Nat} {i : Nat} (h : NW w0 kd dk dl e M b i u w) : Dv w e (nv kd u dk) := .inr ⟨M, b, h.dv, h.tab⟩
theorem nv_ok {kd : Int} {u dk : Value} (hk : kd = 1 ∨ kd = 2 ∨ kd = 3) : DOk (nv kd u dk) (nqs kd) := by
  have z : (0 : Int) ≤ 0 ∧ (0 : Int) < 4294967296 := by decide
  refine ⟨?_, z, z, z, z, z, (show (0 : Int) ≤ 0 ∧ (0 : Int) < 256 by decide), (show (0 : Int) ≤ 0 ∧ (0 : Int) < 4 by decide)⟩
  rcases hk with rfl | rfl | rfl
  · exact .inl ⟨rfl, rfl⟩
  · exact .inr (.inl ⟨rfl, rfl⟩)
  · exact .inr (.inr ⟨rfl, rfl⟩)
theorem aw_read {w0 w : World} {dk u : Value} {e M : Nat} {b : Nat → Nat} (h : NW w0 2 dk (List.replicate 512 0) e M b (nqs 2) u w) : Calls Tryz.prog 249 #[.pointer (some ⟨e, 0, none⟩), .int .u64 256, .int .i64 4] w fun r w' => r = .returned (.tuple #[.int .u64 1, .bool true]) ∧ w' = w := by
  obtain ⟨qb, rq, hq, -⟩ := h.qs
  obtain ⟨ad, c, hd⟩ := own_form h.disk
  refine (k_DRead h.dvv (nv_ok (.inr (.inl rfl))) hq ad 512 c (by rw [show (nv 2 u dk).dk = dk from rfl, hd]; simp) (by decide) 256 4 (by decide) (by decide)).mono ?_
  rintro r w' ⟨rfl, rfl⟩
  exact ⟨rfl, rfl⟩
theorem calls_at {f : FuncId} {args : Array Value} {W w0 : World} {R : Ending → World → Prop} (h : W = w0) (hk : Calls Tryz.prog f args w0 R) : Calls Tryz.prog f args W R := h ▸ hk
section
variable {w4 w5 : World} {p M : Nat} (h5 : w5 = w4.alloc (.cells (bys (255 :: List.replicate 19 0)).toArray 5))
include h5
theorem aw_below : Below w4.heap.size w4 w5 := by rw [h5]; exact (Below.refl _ _).alloc (Nat.le_refl _) _
theorem aw_own : w5.ownsRow 0 5 1 (.slice (some ⟨w4.heap.size, 0, none⟩) 20 20) (255 :: List.replicate 19 (0 : Int)).length (bys (255 :: List.replicate 19 0)) :=
  own_row (by rw [h5]; exact heap_alloc_new w4 _) (by simp) (by simp) (by simp)
end
end Go.Proofs.YtjkihlpckgaggaaGreat
namespace Go.Proofs.YtjkihlpckgaggaaGreat
open Go.RowKit
open C (Only hid Still ret_bool ret_int)
set_option linter.unusedVariables false
set_option maxRecDepth 100000

/-- a board that is being made: e5 its ports, e6 its places as yet -/
structure Pb (W w : World) (c : Nat → Nat) (bp pu pi ps pb mm n : Nat) (eng e5 e6 : Value) (es : Array MapEntry) (cn : Nat) (I : L.IV) (V : Nat → P.Sv) : Prop where
  bel : Below W.heap.size W w
  top : w.heap[bp]? = some (.cells (bdc pu pi ps eng mm e5 e6) 81 (0, 0))
  sp : w.heap[ps]? = some (.cells #[ptr pb, .int .i64 (-1)] 123 (0, 0))
  mp : w.heap[mm]? = some (.map es cn)
  u : ∃ F, L.Ux w F pu L.uv0 ∧ ∀ k, F k → c k = 1 ∧ W.heap.size ≤ k
  i : ∃ F, L.Ix w F pi I ∧ ∀ k, F k → c k = 2 ∧ W.heap.size ≤ k
  b : ∃ F, P.Bq w F pb n (P.fB V) ∧ ∀ k, F k → c k = 3 ∧ W.heap.size ≤ k
  vok : P.VOk V
  n8 : n ≤ 8
  c0 : c bp = 0 ∧ c ps = 0 ∧ c mm = 0
  w0 : W.heap.size ≤ bp ∧ W.heap.size ≤ ps ∧ W.heap.size ≤ mm
section
variable {W w w' : World} {c : Nat → Nat} {bp pu pi ps pb mm n : Nat} {eng e5 e6 : Value} {es : Array MapEntry} {cn : Nat} {I : L.IV} {V : Nat → P.Sv}
theorem Pb.lt (h : Pb W w c bp pu pi ps pb mm n eng e5 e6 es cn I V) : bp < w.heap.size ∧ ps < w.heap.size ∧ mm < w.heap.size := by
  refine ⟨lt_of_block h.top, lt_of_block h.sp, ?_⟩
  have := h.mp
  rcases Nat.lt_or_ge mm w.heap.size with q | q
  · exact q
  · rw [Array.getElem?_eq_none q] at this; cases this
/-- what turns has the colour 0; what stands in the board's own blocks is told -/
theorem Pb.only (h : Pb W w c bp pu pi ps pb mm n eng e5 e6 es cn I V) {T : Nat → Prop} (ho : Only T w w') (hT : ∀ k, T k → c k = 0 ∧ W.heap.size ≤ k) (c' : Nat → Nat) (hc : ∀ k, k < w.heap.size → c' k = c k) {e5' e6' eng' : Value} {es' : Array MapEntry} {cn' : Nat}
    (ht : w'.heap[bp]? = some (.cells (bdc pu pi ps eng' mm e5' e6') 81 (0, 0))) (hs : w'.heap[ps]? = some (.cells #[ptr pb, .int .i64 (-1)] 123 (0, 0))) (hm : w'.heap[mm]? = some (.map es' cn')) : Pb W w' c' bp pu pi ps pb mm n eng' e5' e6' es' cn' I V := by
  obtain ⟨l1, l2, l3⟩ := h.lt
  obtain ⟨Fu, u1, u2⟩ := h.u
  obtain ⟨Fi, i1, i2⟩ := h.i
  obtain ⟨Fb, b1, b2⟩ := h.b
  obtain ⟨z1, z2, z3⟩ := h.c0
  have ne : ∀ k m, c k = m → m ≠ 0 → ¬ T k := fun k m e q f => q (e.symm.trans (hT k f).1)
  exact ⟨h.bel.trans (ho.below _ h.bel.size fun k hk => (hT k hk).2), ht, hs, hm, ⟨Fu, u1.only ho (fun k hk => ne _ _ (u2 k hk).1 (by decide)), fun k hk => ⟨(hc k (u1.lt hk)).trans (u2 k hk).1, (u2 k hk).2⟩⟩,
    ⟨Fi, i1.only ho (fun k hk => ne _ _ (i2 k hk).1 (by decide)), fun k hk => ⟨(hc k (i1.lt hk)).trans (i2 k hk).1, (i2 k hk).2⟩⟩, ⟨Fb, b1.only ho (fun k hk => ne _ _ (b2 k hk).1 (by decide)), fun k hk => ⟨(hc k (b1.lt hk)).trans (b2 k hk).1, (b2 k hk).2⟩⟩, h.vok, h.n8, ⟨(hc _ l1).trans z1, (hc _ l2).trans z2, (hc _ l3).trans z3⟩, h.w0⟩
theorem Pb.below (h : Pb W w c bp pu pi ps pb mm n eng e5 e6 es cn I V) (hb : Below w.heap.size w w') (c' : Nat → Nat) (hc : ∀ k, k < w.heap.size → c' k = c k) : Pb W w' c' bp pu pi ps pb mm n eng e5 e6 es cn I V := by
  obtain ⟨l1, l2, l3⟩ := h.lt
  exact h.only (T := fun _ => False) (.ofBelow hb) (fun _ q => q.elim) c' hc ((hb.block _ l1).trans h.top) ((hb.block _ l2).trans h.sp) ((hb.block _ l3).trans h.mp)
/-- a field of the board is stored -/
theorem Pb.set (h : Pb W w c bp pu pi ps pb mm n eng e5 e6 es cn I V) (k : Nat) (v : Value) {e5' e6' eng' : Value} (he : (bdc pu pi ps eng mm e5 e6).setIfInBounds k v = bdc pu pi ps eng' mm e5' e6') : Pb W (w.setCell ⟨bp, k, none⟩ v) c bp pu pi ps pb mm n eng' e5' e6' es cn I V := by
  have ho := only_c w bp k v
  have n1 : ps ≠ bp := fun e => by have := h.sp; rw [e, h.top] at this; simp at this
  have n2 : mm ≠ bp := fun e => by have := h.mp; rw [e, h.top] at this; simp at this
  exact h.only ho (fun q e => by subst e; exact ⟨h.c0.1, h.w0.1⟩) c (fun _ _ => rfl) (setRowB w bp k _ _ _ _ h.top he) (ho.old h.sp n1) (ho.old h.mp n2)
end
theorem u_dmap : Tryz.prog.underlying 77 = some (.map 3 176) := by kernel_rfl
theorem u_intG : Tryz.prog.underlying 3 = some (.int .i64) := by kernel_rfl
/-- what a port's making hands on -/
structure PN (W : World) (c : Nat → Nat) (N : Nat) (bp pu pi ps pb mm n : Nat) (eng e5 e6 : Value) (I : L.IV) (V : Nat → P.Sv) (kd : Int) (d : Nat) (w : World) : Prop where
  pb : ∃ c' es cn, Pb W w c' bp pu pi ps pb mm n eng e5 e6 es cn I V ∧ (∀ k, k < N → c' k = c k) ∧ c' d = 4 ∧ ∀ k, N ≤ k → k ≠ d → c' k = 0
  dv : ∃ u dk, Dv w d (nv kd u dk)
  dn : N ≤ d ∧ N ≤ w.heap.size
set_option maxHeartbeats 2000000 in
theorem g_newPort (W w : World) (c : Nat → Nat) (bp pu pi ps pb mm n : Nat) (eng e5 e6 : Value) (cn : Nat) (I : L.IV) (V : Nat → P.Sv) (h : Pb W w c bp pu pi ps pb mm n eng e5 e6 #[] cn I V) (kd : Int) (hk : kd = 1 ∨ kd = 2 ∨ kd = 3) (ud en : Value) (dl : List Int) (hd : w.ownsRow 0 5 1 ud dl.length (bys dl)) (hl : dl.length ≤ 32768) (hm : dl.length % 512 = 0) (hz : kd = 2 ∨ dl.length = 0) :
    Calls Tryz.prog 34 #[ptr bp, .int .i64 kd, ud, en] w fun r w' => ∃ d, r = .returned (ptD d) ∧ PN W c w.heap.size bp pu pi ps pb mm n eng e5 e6 I V kd d w' ∧ ∃ w1 es' cn', Below w.heap.size w w1 ∧ w' = { w1 with heap := w1.heap.setIfInBounds mm (.map es' cn') } := by
  obtain ⟨ud', hud⟩ : ∃ ud', ud' = if kd = 2 then ud else .slice none 0 0 := ⟨_, rfl⟩
  have hd' : w.ownsRow 0 5 1 ud' dl.length (bys dl) := by
    rw [hud]
    split
    · exact hd
    · have : dl = [] := List.eq_nil_of_length_eq_zero (hz.resolve_left (by assumption))
      subst this
      exact own_nil _ _ _
  have HN := hid (k_DNew w kd hk ud' dl hd' hl hm hz)
  have HFN : Hid (∀ (w1 : World) (e : Nat) (u dk : Value) (M : Nat) (b : Nat → Nat), NW w kd dk dl e M b (nqs kd) u w1 → (Instr.mapUpdate 77 (.map (some mm)) (.int .i64 kd) (ptr e)).run Tryz.prog w1 = .ok () { w1 with heap := w1.heap.setIfInBounds mm (.map #[⟨.int .i64 kd, ptr e, cn⟩] (cn + 1)) } ∧ PN W c w.heap.size bp pu pi ps pb mm n eng e5 e6 I V kd e { w1 with heap := w1.heap.setIfInBounds mm (.map #[⟨.int .i64 kd, ptr e, cn⟩] (cn + 1)) } ∧ Below w.heap.size w w1 ∧ w1.cell? ⟨bp, 4, none⟩ = some (.map (some mm))) := by
    intro w1 e u dk M b q
    have hc : ∀ k, k < w.heap.size → (if k < w.heap.size then c k else if k = e then 4 else 0) = c k := fun k hk => if_pos hk
    have p1 := h.below q.bel (fun k => if k < w.heap.size then c k else if k = e then 4 else 0) hc
    have ho : Only (· = mm) w1 { w1 with heap := w1.heap.setIfInBounds mm (.map #[⟨.int .i64 kd, ptr e, cn⟩] (cn + 1)) } := ⟨rfl, rfl, rfl, by simp, fun k hk hs => by simp [show ¬ mm = k from fun z => hs z.symm]⟩
    obtain ⟨l1, l2, l3⟩ := p1.lt
    have n1 : ps ≠ mm := fun z => by have := p1.sp; rw [z, p1.mp] at this; simp at this
    have n2 : bp ≠ mm := fun z => by have := p1.top; rw [z, p1.mp] at this; simp at this
    have n3 : e ≠ mm := fun z => by have := q.dv; rw [z, p1.mp] at this; simp at this
    have dvv := q.dvv
    have hm' : ({ w1 with heap := w1.heap.setIfInBounds mm (.map #[⟨.int .i64 kd, ptr e, cn⟩] (cn + 1)) } : World).heap[mm]? = some (.map #[⟨.int .i64 kd, ptr e, cn⟩] (cn + 1)) := by simp [l3]
    refine ⟨by have := ins_at u_dmap u_intG w1 #[] cn mm kd (ptr e) p1.mp rfl; simpa using this, ⟨⟨_, _, _, p1.only ho (fun k z => by subst z; exact ⟨p1.c0.2.2, p1.w0.2.2⟩) _ (fun _ _ => rfl) (ho.old p1.top n2) (ho.old p1.sp n1) hm', hc, ?_, fun k hk hke => ?_⟩, ⟨u, dk, ?_⟩, ?_, ?_⟩, q.bel, ?_⟩
    · have := q.eb
      exact (if_neg (by omega)).trans (if_pos rfl)
    · exact (if_neg (by omega)).trans (if_neg hke)
    · rcases dvv with z | ⟨M', b', z1, z2⟩
      · exact .inl (ho.old z n3)
      · refine .inr ⟨M', b', ho.old z1 n3, ?_⟩
        obtain ⟨⟨es2, n4, k1, kk⟩, k2⟩ := z2
        refine ⟨⟨es2, n4, ho.old k1 fun z => ?_, kk⟩, fun i hi => ho.old (k2 i hi) fun z => ?_⟩
        · rw [z, p1.mp] at k1
          obtain ⟨y, hy, -⟩ := kk.2 0 (by decide) rfl
          cases k1
          simp at hy
        · have := k2 i hi
          rw [z, p1.mp] at this
          cases this
    · exact q.eb
    · have := q.bel.size; simpa using this
    · exact cell_of_row w1 bp 4 _ _ _ p1.top
  clear h hd hd' hl hm hz
  rcases hk with rfl | rfl | rfl
  all_goals
    simp at hud
    subst hud
    go_enter Tryz.func34, Tryz.ntmps34
    go_wp2_with (go_at_call 48; refine HN.out.mono ?_; rintro r w1 ⟨e, u, dk, M, b, rfl, q⟩; obtain ⟨hu, hp, hb, hc⟩ := HFN.out _ _ _ _ _ _ q; have HP := hid hp; have HB := hid hb; clear q hp hb)
    go_ret
    exact ⟨e, rfl, HP.out, w1, _, _, HB.out, rfl⟩
end Go.Proofs.YtjkihlpckgaggaaGreat
namespace Go.Proofs.YtjkihlpckgaggaaGreat
open Go.RowKit
open C (Only hid Still ret_bool ret_int)
set_option linter.unusedVariables false
set_option maxRecDepth 100000

theorem info_place : (Tryz.prog.info? 145).map (fun i => (i.zero, i.size, i.bytes)) = some (some (.agg #[.int .u64 0, .int .u64 0, .nilIface]), 3, 32) := by kernel_rfl
theorem u_splace : Tryz.prog.underlying 79 = some (.slice 145) := by kernel_rfl
/-- a new clock's block -/
def ckO : Obj := .cells #[.int .u64 0] 238 (0, 0)
theorem g_NewClock (w : World) : Calls Tryz.prog 49 #[] w fun r w' => r = .returned (ptr w.heap.size) ∧ ∃ o, o = ckO ∧ w' = w.alloc o := by
  go_enter Tryz.func49, Tryz.ntmps49
  go_wp2
  go_ret
  exact ⟨rfl, _, rfl, rfl⟩
/-- as far as the places are made -/
def MPl (wa : World) (pu pi ps : Nat) : Nat → Unit → World → Prop
  | 0, _, w => w = wa
  | 1, _, w => ∃ o, o = ckO ∧ w = wa.alloc o
  | _, _, w => ∃ o, o = ckO ∧ w = (wa.alloc o).alloc (.cells (plc pu pi ps wa.heap.size) 145)
theorem MPl.bel {wa w : World} {pu pi ps k : Nat} (h : MPl wa pu pi ps k () w) : Below wa.heap.size wa w := by
  match k, h with
  | 0, h => rw [show w = wa from h]; exact Below.refl _ _
  | 1, ⟨o, _, h⟩ => rw [h]; exact (Below.refl _ _).alloc (Nat.le_refl _) _
  | k + 2, ⟨o, _, h⟩ => rw [h]; exact ((Below.refl _ _).alloc (Nat.le_refl _) _).alloc (by simp) _
set_option maxHeartbeats 4000000 in
theorem g_newPlaces (w : World) (bp pu pi ps mm : Nat) (eng e5 e6 : Value) (ht : w.heap[bp]? = some (.cells (bdc pu pi ps eng mm e5 e6) 81 (0, 0))) :
    Calls Tryz.prog 35 #[ptr bp] w fun r w' => ∃ q kc, r = .returned (.slice (some ⟨q, 0, none⟩) 4 4) ∧ w'.heap[q]? = some (.cells (plc pu pi ps kc) 145 (0, 0)) ∧ Below w.heap.size w w' ∧ w.heap.size ≤ q ∧ w'.heap[kc]? = some ckO ∧ w.heap.size ≤ kc ∧ kc ≠ q := by
  have c0 : w.cell? ⟨bp, 0, none⟩ = some (ptr pu) := cell_of_row w bp 0 _ _ _ ht
  have c1 : w.cell? ⟨bp, 1, none⟩ = some (ptr pi) := cell_of_row w bp 1 _ _ _ ht
  have c2 : w.cell? ⟨bp, 2, none⟩ = some (ptr ps) := cell_of_row w bp 2 _ _ _ ht
  have hlt := lt_of_block ht
  go_enter Tryz.func35, Tryz.ntmps35
  go_upto_region 1 with fail
  obtain ⟨wa, hwa⟩ : ∃ wa, wa = w.drew := ⟨_, rfl⟩
  have HB0 : Hid (Below w.heap.size w wa) := by rw [hwa]; exact (Below.refl _ _).drew
  have hsz : wa.heap.size = w.heap.size := by rw [hwa]; rfl
  have HSZ := hid hsz
  have HLD : Hid (∀ (y : Unit) (listed : Array Bool) w8, VS [6, 23] (MPl wa pu pi ps) y listed w8 → w8.cell? ⟨bp, 0, none⟩ = some (ptr pu) ∧ w8.cell? ⟨bp, 1, none⟩ = some (ptr pi) ∧ w8.cell? ⟨bp, 2, none⟩ = some (ptr ps)) := by
    rintro y listed w8 ⟨t, -, hm⟩
    have hb := hm.bel
    have e0 : ∀ k, wa.cell? ⟨bp, k, none⟩ = w.cell? ⟨bp, k, none⟩ := fun k => by rw [hwa]; rfl
    have hb1 : ∀ k, w8.cell? ⟨bp, k, none⟩ = w.cell? ⟨bp, k, none⟩ := fun k => (Below.cell hb (p := ⟨bp, k, none⟩) (by rw [hsz]; exact hlt)).trans (e0 k)
    exact ⟨(hb1 0).trans c0, (hb1 1).trans c1, (hb1 2).trans c2⟩
  refine wp_region_any (by kernel_rfl) ?_
  rw [show ({ w with drawn := w.drawn + 1 } : World) = wa from hwa.symm]
  clear hwa hsz c0 c1 c2 ht
  refine wpAny_fz (α := Unit) (fun _ => fun dd => if dd = 3 then .pointer (some ⟨bp, 0, none⟩) else if dd = 4 then .pointer (some ⟨bp, 0, none⟩) else if dd = 5 then .pointer (some ⟨bp, 0, none⟩) else if dd = 6 then .agg #[ptr pu] else if dd = 7 then pt0 pu else if dd = 8 then .agg #[.int .u64 268435456, .int .u64 8, pt0 pu] else if dd = 9 then ptr wa.heap.size else if dd = 10 then .agg #[ptr wa.heap.size] else if dd = 11 then .iface 184 (.agg #[ptr wa.heap.size]) else if dd = 12 then .agg #[.int .u64 268439552, .int .u64 4096, .iface 184 (.agg #[ptr wa.heap.size])] else if dd = 13 then .pointer (some ⟨bp, 0, none⟩) else if dd = 14 then .pointer (some ⟨bp, 0, none⟩) else if dd = 15 then .pointer (some ⟨bp, 1, none⟩) else if dd = 16 then ptr pi else if dd = 17 then .agg #[ptr pi] else if dd = 18 then .iface 186 (.agg #[ptr pi]) else if dd = 19 then .agg #[.int .u64 201326592, .int .u64 16384, .iface 186 (.agg #[ptr pi])] else if dd = 20 then .pointer (some ⟨bp, 0, none⟩) else if dd = 21 then .pointer (some ⟨bp, 0, none⟩) else if dd = 22 then .pointer (some ⟨bp, 2, none⟩) else if dd = 23 then ptr ps else if dd = 24 then .iface 76 (ptr ps) else if dd = 25 then .agg #[.int .u64 805306368, .int .u64 32768, .iface 76 (ptr ps)] else if dd = 26 then .slice (some ⟨wa.heap.size + 1, 0, none⟩) 4 4 else if dd = 2 then .slice (some ⟨wa.heap.size + 1, 0, none⟩) 4 4 else undef) (fun x listed w8 => VS [6, 23] (MPl wa pu pi ps) x listed w8) ?step ?fin () ?start
  case start => exact .start rfl
  case step =>
    rintro listed fr wr x hF hW hC i hj
    obtain ⟨hl, o, ho, he⟩ := mem_ready.1 hj
    have hjl : i < listed.size := by rw [hF.q.ls]; exact (Array.getElem?_eq_some_iff.1 ho).1
    have hl0 := getD_tf hjl hl
    clear hj
    have HF := hid hF
    have HW := hid hW
    have HE := hid he
    have HC := hid hC
    clear hF hW he hl hC
    match i, ho with
    | 0, ho =>
      obtain rfl := Option.some.inj ho
      have e0 : fr.tmps[0]?.getD undef = .pointer (some ⟨bp, 0, none⟩) := HF.out.base 0 (by kernel_rfl) rfl
      exact wp_q rfl rfl (by simp [execOp, go_sem, e0]; try rfl) ⟨(), HF.out.put (by kernel_rfl) rfl rfl rfl (of_decide_eq_true rfl), HW.out.q hjl (by decide)⟩
    | 1, ho =>
      obtain rfl := Option.some.inj ho
      have e3 : fr.tmps[3]?.getD undef = .pointer (some ⟨bp, 0, none⟩) := HF.out.ev (i := 0) rfl rfl (HE.out ⟨0, .data⟩ (by simp) rfl)
      exact wp_q rfl rfl (by simp [execOp, go_sem, e3]; try rfl) ⟨(), HF.out.put (by kernel_rfl) rfl rfl rfl (of_decide_eq_true rfl), HW.out.q hjl (by decide)⟩
    | 2, ho =>
      obtain rfl := Option.some.inj ho
      have e4 : fr.tmps[4]?.getD undef = .pointer (some ⟨bp, 0, none⟩) := HF.out.ev (i := 1) rfl rfl (HE.out ⟨1, .data⟩ (by simp) rfl)
      exact wp_q rfl rfl (by simp [execOp, go_sem, e4]; try rfl) ⟨(), HF.out.put (by kernel_rfl) rfl rfl rfl (of_decide_eq_true rfl), HW.out.q hjl (by decide)⟩
    | 3, ho =>
      obtain rfl := Option.some.inj ho
      have e5 : fr.tmps[5]?.getD undef = .pointer (some ⟨bp, 0, none⟩) := HF.out.ev (i := 2) rfl rfl (HE.out ⟨2, .data⟩ (by simp) rfl)
      obtain ⟨l0, l1, l2⟩ := HLD.out _ _ _ HW.out
      exact wp_q rfl rfl (by simp [execOp, go_sem, e5, l0]; try rfl) ⟨(), HF.out.put (by kernel_rfl) rfl rfl rfl (of_decide_eq_true rfl), HW.out.q hjl (by decide)⟩
    | 4, ho =>
      obtain rfl := Option.some.inj ho
      have e6 : fr.tmps[6]?.getD undef = .agg #[ptr pu] := HF.out.ev (i := 3) rfl rfl (HE.out ⟨3, .data⟩ (by simp) rfl)
      exact wp_q rfl rfl (by simp [execOp, go_sem, e6]; try rfl) ⟨(), HF.out.put (by kernel_rfl) rfl rfl rfl (of_decide_eq_true rfl), HW.out.q hjl (by decide)⟩
    | 5, ho =>
      obtain rfl := Option.some.inj ho
      have e7 : fr.tmps[7]?.getD undef = pt0 pu := HF.out.ev (i := 4) rfl rfl (HE.out ⟨4, .data⟩ (by simp) rfl)
      exact wp_q rfl rfl (by simp [execOp, go_sem, e7]; try rfl) ⟨(), HF.out.put (by kernel_rfl) rfl rfl rfl (of_decide_eq_true rfl), HW.out.q hjl (by decide)⟩
    | 6, ho =>
      obtain rfl := Option.some.inj ho
      have m0 : wr = wa := HW.out.at 0 rfl hl0 (fun j hj => by omega)
      subst m0
      refine wp_c0w rfl rfl _ _ rfl (Tryz.call49 _ _) (g_NewClock wr) ?_
      rintro e' w7 ⟨rfl, o7, qo, q⟩
      exact ⟨_, rfl, (), HF.out.put (by kernel_rfl) rfl rfl rfl (of_decide_eq_true rfl), HW.out.go 0 hjl rfl hl0 (fun j hj => by omega) (by intro a ha; match a, ha with | 0, _ => rfl | 1, ha => simp at ha) ⟨o7, qo, q⟩⟩
    | 7, ho =>
      obtain rfl := Option.some.inj ho
      have e9 : fr.tmps[9]?.getD undef = ptr wa.heap.size := HF.out.ev (i := 6) rfl rfl (HE.out ⟨6, .data⟩ (by simp) rfl)
      exact wp_q rfl rfl (by simp [execOp, go_sem, e9]; try rfl) ⟨(), HF.out.put (by kernel_rfl) rfl rfl rfl (of_decide_eq_true rfl), HW.out.q hjl (by decide)⟩
    | 8, ho =>
      obtain rfl := Option.some.inj ho
      have e10 : fr.tmps[10]?.getD undef = .agg #[ptr wa.heap.size] := HF.out.ev (i := 7) rfl rfl (HE.out ⟨7, .data⟩ (by simp) rfl)
      exact wp_q rfl rfl (by simp [execOp, go_sem, e10]; try rfl) ⟨(), HF.out.put (by kernel_rfl) rfl rfl rfl (of_decide_eq_true rfl), HW.out.q hjl (by decide)⟩
    | 9, ho =>
      obtain rfl := Option.some.inj ho
      have e11 : fr.tmps[11]?.getD undef = .iface 184 (.agg #[ptr wa.heap.size]) := HF.out.ev (i := 8) rfl rfl (HE.out ⟨8, .data⟩ (by simp) rfl)
      exact wp_q rfl rfl (by simp [execOp, go_sem, e11]; try rfl) ⟨(), HF.out.put (by kernel_rfl) rfl rfl rfl (of_decide_eq_true rfl), HW.out.q hjl (by decide)⟩
    | 10, ho =>
      obtain rfl := Option.some.inj ho
      have e0 : fr.tmps[0]?.getD undef = .pointer (some ⟨bp, 0, none⟩) := HF.out.base 0 (by kernel_rfl) rfl
      exact wp_q rfl rfl (by simp [execOp, go_sem, e0]; try rfl) ⟨(), HF.out.put (by kernel_rfl) rfl rfl rfl (of_decide_eq_true rfl), HW.out.q hjl (by decide)⟩
    | 11, ho =>
      obtain rfl := Option.some.inj ho
      have e13 : fr.tmps[13]?.getD undef = .pointer (some ⟨bp, 0, none⟩) := HF.out.ev (i := 10) rfl rfl (HE.out ⟨10, .data⟩ (by simp) rfl)
      exact wp_q rfl rfl (by simp [execOp, go_sem, e13]; try rfl) ⟨(), HF.out.put (by kernel_rfl) rfl rfl rfl (of_decide_eq_true rfl), HW.out.q hjl (by decide)⟩
    | 12, ho =>
      obtain rfl := Option.some.inj ho
      have e14 : fr.tmps[14]?.getD undef = .pointer (some ⟨bp, 0, none⟩) := HF.out.ev (i := 11) rfl rfl (HE.out ⟨11, .data⟩ (by simp) rfl)
      exact wp_q rfl rfl (by simp [execOp, go_sem, e14]; try rfl) ⟨(), HF.out.put (by kernel_rfl) rfl rfl rfl (of_decide_eq_true rfl), HW.out.q hjl (by decide)⟩
    | 13, ho =>
      obtain rfl := Option.some.inj ho
      have e15 : fr.tmps[15]?.getD undef = .pointer (some ⟨bp, 1, none⟩) := HF.out.ev (i := 12) rfl rfl (HE.out ⟨12, .data⟩ (by simp) rfl)
      obtain ⟨l0, l1, l2⟩ := HLD.out _ _ _ HW.out
      exact wp_q rfl rfl (by simp [execOp, go_sem, e15, l1]; try rfl) ⟨(), HF.out.put (by kernel_rfl) rfl rfl rfl (of_decide_eq_true rfl), HW.out.q hjl (by decide)⟩
    | 14, ho =>
      obtain rfl := Option.some.inj ho
      have e16 : fr.tmps[16]?.getD undef = ptr pi := HF.out.ev (i := 13) rfl rfl (HE.out ⟨13, .data⟩ (by simp) rfl)
      exact wp_q rfl rfl (by simp [execOp, go_sem, e16]; try rfl) ⟨(), HF.out.put (by kernel_rfl) rfl rfl rfl (of_decide_eq_true rfl), HW.out.q hjl (by decide)⟩
    | 15, ho =>
      obtain rfl := Option.some.inj ho
      have e17 : fr.tmps[17]?.getD undef = .agg #[ptr pi] := HF.out.ev (i := 14) rfl rfl (HE.out ⟨14, .data⟩ (by simp) rfl)
      exact wp_q rfl rfl (by simp [execOp, go_sem, e17]; try rfl) ⟨(), HF.out.put (by kernel_rfl) rfl rfl rfl (of_decide_eq_true rfl), HW.out.q hjl (by decide)⟩
    | 16, ho =>
      obtain rfl := Option.some.inj ho
      have e18 : fr.tmps[18]?.getD undef = .iface 186 (.agg #[ptr pi]) := HF.out.ev (i := 15) rfl rfl (HE.out ⟨15, .data⟩ (by simp) rfl)
      exact wp_q rfl rfl (by simp [execOp, go_sem, e18]; try rfl) ⟨(), HF.out.put (by kernel_rfl) rfl rfl rfl (of_decide_eq_true rfl), HW.out.q hjl (by decide)⟩
    | 17, ho =>
      obtain rfl := Option.some.inj ho
      have e0 : fr.tmps[0]?.getD undef = .pointer (some ⟨bp, 0, none⟩) := HF.out.base 0 (by kernel_rfl) rfl
      exact wp_q rfl rfl (by simp [execOp, go_sem, e0]; try rfl) ⟨(), HF.out.put (by kernel_rfl) rfl rfl rfl (of_decide_eq_true rfl), HW.out.q hjl (by decide)⟩
    | 18, ho =>
      obtain rfl := Option.some.inj ho
      have e20 : fr.tmps[20]?.getD undef = .pointer (some ⟨bp, 0, none⟩) := HF.out.ev (i := 17) rfl rfl (HE.out ⟨17, .data⟩ (by simp) rfl)
      exact wp_q rfl rfl (by simp [execOp, go_sem, e20]; try rfl) ⟨(), HF.out.put (by kernel_rfl) rfl rfl rfl (of_decide_eq_true rfl), HW.out.q hjl (by decide)⟩
    | 19, ho =>
      obtain rfl := Option.some.inj ho
      have e21 : fr.tmps[21]?.getD undef = .pointer (some ⟨bp, 0, none⟩) := HF.out.ev (i := 18) rfl rfl (HE.out ⟨18, .data⟩ (by simp) rfl)
      exact wp_q rfl rfl (by simp [execOp, go_sem, e21]; try rfl) ⟨(), HF.out.put (by kernel_rfl) rfl rfl rfl (of_decide_eq_true rfl), HW.out.q hjl (by decide)⟩
    | 20, ho =>
      obtain rfl := Option.some.inj ho
      have e22 : fr.tmps[22]?.getD undef = .pointer (some ⟨bp, 2, none⟩) := HF.out.ev (i := 19) rfl rfl (HE.out ⟨19, .data⟩ (by simp) rfl)
      obtain ⟨l0, l1, l2⟩ := HLD.out _ _ _ HW.out
      exact wp_q rfl rfl (by simp [execOp, go_sem, e22, l2]; try rfl) ⟨(), HF.out.put (by kernel_rfl) rfl rfl rfl (of_decide_eq_true rfl), HW.out.q hjl (by decide)⟩
    | 21, ho =>
      obtain rfl := Option.some.inj ho
      have e23 : fr.tmps[23]?.getD undef = ptr ps := HF.out.ev (i := 20) rfl rfl (HE.out ⟨20, .data⟩ (by simp) rfl)
      exact wp_q rfl rfl (by simp [execOp, go_sem, e23]; try rfl) ⟨(), HF.out.put (by kernel_rfl) rfl rfl rfl (of_decide_eq_true rfl), HW.out.q hjl (by decide)⟩
    | 22, ho =>
      obtain rfl := Option.some.inj ho
      have e24 : fr.tmps[24]?.getD undef = .iface 76 (ptr ps) := HF.out.ev (i := 21) rfl rfl (HE.out ⟨21, .data⟩ (by simp) rfl)
      exact wp_q rfl rfl (by simp [execOp, go_sem, e24]; try rfl) ⟨(), HF.out.put (by kernel_rfl) rfl rfl rfl (of_decide_eq_true rfl), HW.out.q hjl (by decide)⟩
    | 23, ho =>
      obtain rfl := Option.some.inj ho
      have e8 : fr.tmps[8]?.getD undef = .agg #[.int .u64 268435456, .int .u64 8, pt0 pu] := HF.out.ev (i := 5) rfl rfl (HE.out ⟨5, .data⟩ (by simp) rfl)
      have e12 : fr.tmps[12]?.getD undef = .agg #[.int .u64 268439552, .int .u64 4096, .iface 184 (.agg #[ptr wa.heap.size])] := HF.out.ev (i := 9) rfl rfl (HE.out ⟨9, .data⟩ (by simp) rfl)
      have e19 : fr.tmps[19]?.getD undef = .agg #[.int .u64 201326592, .int .u64 16384, .iface 186 (.agg #[ptr pi])] := HF.out.ev (i := 16) rfl rfl (HE.out ⟨16, .data⟩ (by simp) rfl)
      have e25 : fr.tmps[25]?.getD undef = .agg #[.int .u64 805306368, .int .u64 32768, .iface 76 (ptr ps)] := HF.out.ev (i := 22) rfl rfl (HE.out ⟨22, .data⟩ (by simp) rfl)
      have hp9 := HE.out ⟨9, .data⟩ (by simp) rfl
      have hp8 := HC.out 9 _ rfl hp9 ⟨8, .data⟩ (by simp) rfl
      have hp7 := HC.out 8 _ rfl hp8 ⟨7, .data⟩ (by simp) rfl
      have hp := HC.out 7 _ rfl hp7 ⟨6, .data⟩ (by simp) rfl
      obtain ⟨o7, qo, m0⟩ := HW.out.at 1 rfl hl0 (fun j hj => by obtain rfl : j = 0 := (by omega); exact ⟨6, rfl, hp⟩)
      have hs1 : wr.heap.size = wa.heap.size + 1 := by rw [m0]; simp
      obtain ⟨i0, hi0, hz0, hs0, hb0⟩ := info_parts info_place
      refine wp_bs rfl rfl 79 145 4 _ rfl (plc pu pi ps wa.heap.size) i0 _ u_splace hi0 hz0 (by rw [hs0]; decide) (by rw [hs0]; decide) (by rw [hs0]; simp [Act.eval, e8, e12, e19, e25]; kernel_rfl) ?_
      rw [hs1]
      exact ⟨(), HF.out.put (by kernel_rfl) rfl rfl rfl (of_decide_eq_true rfl), HW.out.go 1 hjl rfl hl0 (fun j hj => by obtain rfl : j = 0 := (by omega); exact ⟨6, rfl, hp⟩) (by intro a ha; match a, ha with | 0, ha => simp at ha | 1, _ => rfl) ⟨o7, qo, by rw [m0]⟩⟩
    | 24, ho =>
      obtain rfl := Option.some.inj ho
      have e26 : fr.tmps[26]?.getD undef = .slice (some ⟨wa.heap.size + 1, 0, none⟩) 4 4 := HF.out.ev (i := 23) rfl rfl (HE.out ⟨23, .data⟩ (by simp) rfl)
      exact wp_q rfl rfl (by simp [execOp, go_sem, e26]; try rfl) ⟨(), HF.out.put (by kernel_rfl) rfl rfl rfl (of_decide_eq_true rfl), HW.out.q hjl (by decide)⟩
  case fin =>
    rintro listed fr w2 x hF hW hr
    have all := allDone hr hF.q.ls (by kernel_rfl)
    obtain ⟨o7, qo, hb⟩ := hW.end 1 rfl (all _ (by decide)) (fun t ht q => by match t, ht with | t + 2, _ => exact q)
    have HQO := hid qo
    rw [hF.full all]
    have HB : Hid (w2 = (wa.alloc o7).alloc (.cells (plc pu pi ps wa.heap.size) 145)) := hid hb
    clear hF hr all hW hb HLD qo
    simp only [List.foldl_cons, List.foldl_nil, fillF]
    go_simp
    go_wp2_with fail
    go_ret
    refine ⟨wa.heap.size + 1, wa.heap.size, rfl, ?_, HB0.out.trans ?_, by have := HSZ.out; omega, ?_, by have := HSZ.out; omega, by omega⟩
    · rw [HB.out]
      have := heap_alloc_new (wa.alloc o7) (.cells (plc pu pi ps wa.heap.size) 145)
      rwa [show (wa.alloc o7).heap.size = wa.heap.size + 1 by simp] at this
    · rw [HB.out, ← HSZ.out]
      exact ((Below.refl _ _).alloc (Nat.le_refl _) _).alloc (by simp) _
    · rw [HB.out, ← HQO.out]
      exact (heap_alloc_old _ _ (by simp)).trans (heap_alloc_new wa o7)
end Go.Proofs.YtjkihlpckgaggaaGreat
namespace Go.Proofs.YtjkihlpckgaggaaGreat
open Go.RowKit
open C (Only hid Still ret_bool ret_int)
open P (Ls)
set_option linter.unusedVariables false
set_option maxRecDepth 100000

theorem rgt_1 (hh : Nat) (h1 : 1 ≤ hh) (h2 : hh ≤ 64) (K : Nat → Int) (kd : Int) (hK : K 0 = kd) (hk : kd = 1 ∨ kd = 2 ∨ kd = 3) (m : Nat) (hl : m ≤ 32768) (hm : m % 512 = 0) (hz : kd = 2 ∨ m = 0) : rgt (hh : Int) K 1 m = true := by
  have ho : okK K 1 = true := by simp [okK, memK, kd1, hK]; omega
  rw [rgt_all (by omega) (by omega) ho hl hm]
  rcases hz with z | z
  · simp [memK, hK, z]
  · simp [z]
theorem info_port : (Tryz.prog.info? 83).map (fun i => (i.zero, i.size, i.bytes)) = some (some .nilIface, 1, 16) := by kernel_rfl
theorem u_sport : Tryz.prog.underlying 78 = some (.slice 83) := by kernel_rfl
abbrev sl1 (g : Nat) : Value := .slice (some ⟨g, 0, none⟩) 1 1
/-- a port's making is over -/
structure Q1 (W wa : World) (c : Nat → Nat) (bp pu pi ps pb mm n g : Nat) (I : L.IV) (V : Nat → P.Sv) (kd : Int) (d : Nat) (w : World) : Prop where
  pn : PN W c wa.heap.size bp pu pi ps pb mm n (.pointer none) (sl1 g) (.slice none 0 0) I V kd d w
  g : w.heap[g]? = some (.cells #[pt0 pu] 83 (0, 0))
/-- the states of the round -/
def MN (W wa : World) (c : Nat → Nat) (bp pu pi ps pb mm n g : Nat) (I : L.IV) (V : Nat → P.Sv) (kd : Int) : Nat → (Nat × Nat × Value) → World → Prop
  | 0, x, w => w = wa
  | 1, x, w => Q1 W wa c bp pu pi ps pb mm n g I V kd x.1 w
  | 2, x, w => ∃ w8, Q1 W wa c bp pu pi ps pb mm n g I V kd x.1 w8 ∧ x.2.1 = w8.heap.size ∧ w = w8.alloc (.cells #[ptD x.1] 83)
  | 3, x, w => ∃ w8, Q1 W wa c bp pu pi ps pb mm n g I V kd x.1 w8 ∧ w.ownsRow 0 83 1 x.2.2 2 [pt0 pu, ptD x.1] ∧ Only (· = g) w8 w ∧ ∀ k, Ug x.2.2 k → k = g ∨ w8.heap.size ≤ k
  | _, x, w => ∃ w8 w9, Q1 W wa c bp pu pi ps pb mm n g I V kd x.1 w8 ∧ w9.ownsRow 0 83 1 x.2.2 2 [pt0 pu, ptD x.1] ∧ Only (· = g) w8 w9 ∧ (∀ k, Ug x.2.2 k → k = g ∨ w8.heap.size ≤ k) ∧ w = w9.setCell ⟨bp, 5, none⟩ x.2.2
/-- the ports as they stand behind the round -/
structure SB (W : World) (bp pu pi ps pb mm n : Nat) (I : L.IV) (V : Nat → P.Sv) (kd : Int) (w : World) : Prop where
  ex : ∃ c es cn d g gc u dk, Pb W w c bp pu pi ps pb mm n (.pointer none) (.slice (some ⟨g, 0, none⟩) 2 gc) (.slice none 0 0) es cn I V ∧ w.ownsRow 0 83 1 (.slice (some ⟨g, 0, none⟩) 2 gc) 2 [pt0 pu, ptD d] ∧ c g = 0 ∧ W.heap.size ≤ g ∧ Dv w d (nv kd u dk) ∧ c d = 4 ∧ W.heap.size ≤ d
section
variable {W wa w w' : World} {c : Nat → Nat} {bp pu pi ps pb mm n g d : Nat} {I : L.IV} {V : Nat → P.Sv} {kd : Int}
theorem Q1.alloc (h : Q1 W wa c bp pu pi ps pb mm n g I V kd d w) (o : Obj) : Q1 W wa c bp pu pi ps pb mm n g I V kd d (w.alloc o) := by
  obtain ⟨⟨⟨c', es, cn, p1, p2, p3, p4⟩, ⟨u, dk, dv⟩, dn⟩, hg⟩ := h
  have hb : Below w.heap.size w (w.alloc o) := (Below.refl _ _).alloc (Nat.le_refl _) _
  have hs := hb.size
  refine ⟨⟨⟨fun k => if k < w.heap.size then c' k else 0, es, cn, p1.below hb _ fun k hk => if_pos hk, fun k hk => (if_pos (by omega)).trans (p2 k hk), (if_pos dv.lt).trans p3, fun k hk hd => ?_⟩, ⟨u, dk, dv.below hb⟩, ⟨dn.1, by omega⟩⟩, (hb.block _ (lt_of_block hg)).trans hg⟩
  show (if k < w.heap.size then c' k else 0) = 0
  split
  · exact p4 k hk hd
  · rfl
theorem Q1.cell (h : Q1 W wa c bp pu pi ps pb mm n g I V kd d w) : w.cell? ⟨bp, 5, none⟩ = some (sl1 g) := by
  obtain ⟨c', es, cn, p1, -⟩ := h.pn.pb
  exact cell_of_row w bp 5 _ _ _ p1.top
theorem Q1.own (h : Q1 W wa c bp pu pi ps pb mm n g I V kd d w) : w.ownsRow 0 83 1 (sl1 g) 1 [pt0 pu] :=
  ⟨rfl, .inr ⟨g, 1, #[pt0 pu], rfl, Nat.zero_le _, h.g, Nat.le_refl _, by decide, rfl, rfl⟩⟩
theorem MN.cell {k : Nat} {x : Nat × Nat × Value} (h : MN W wa c bp pu pi ps pb mm n g I V kd k x w) (hk : k < 3) (h0 : wa.cell? ⟨bp, 5, none⟩ = some (sl1 g)) : w.cell? ⟨bp, 5, none⟩ = some (sl1 g) := by
  match k, h, hk with
  | 0, h, _ => rw [show w = wa from h]; exact h0
  | 1, h, _ => exact Q1.cell h
  | 2, ⟨w8, h, _, e⟩, _ => rw [e]; exact (h.alloc _).cell
  | k + 3, _, hk => omega
theorem MN.fin {x : Nat × Nat × Value} (h : MN W wa c bp pu pi ps pb mm n g I V kd 4 x w) (hg : c g = 0) (gl : g < wa.heap.size) (gw : W.heap.size ≤ g) (hw : W.heap.size ≤ wa.heap.size) : SB W bp pu pi ps pb mm n I V kd w := by
  obtain ⟨w8, w9, ⟨⟨⟨c', es, cn, p1, p2, p3, p4⟩, ⟨u, dk, dv⟩, dn⟩, hgb⟩, own, ho, hn, e⟩ := h
  have hcg : c' g = 0 := (p2 g gl).trans hg
  obtain ⟨l1, l2, l3⟩ := p1.lt
  have n1 : bp ≠ g := fun z => by have := p1.top; rw [z, hgb] at this; simp at this
  have n2 : ps ≠ g := fun z => by have := p1.sp; rw [z, hgb] at this; simp at this
  have n3 : mm ≠ g := fun z => by have := p1.mp; rw [z, hgb] at this; simp at this
  have n4 : x.1 ≠ g := fun z => by rw [z] at p3; rw [p3] at hcg; cases hcg
  have hs := ho.size
  have q1 := p1.only ho (fun k z => by subst z; exact ⟨hcg, gw⟩) (fun k => if k < w8.heap.size then c' k else 0) (fun k hk => if_pos hk) (ho.old p1.top n1) (ho.old p1.sp n2) (ho.old p1.mp n3)
  have hd1 : Dv w9 x.1 (nv kd u dk) := dv.only ho n4 fun k z => by subst z; exact ⟨_, _, _, hgb, by decide⟩
  obtain ⟨g', gc, hx⟩ : ∃ g' gc, x.2.2 = .slice (some ⟨g', 0, none⟩) 2 gc := by
    rcases own.2 with ⟨_, z⟩ | ⟨g', cap, cur, h1, _⟩
    · cases z
    · exact ⟨g', cap, h1⟩
  rw [hx] at own hn e
  have hg' := hn g' (by simp [Ug, Value.ownBlock])
  have q2 := q1.set 5 (.slice (some ⟨g', 0, none⟩) 2 gc) (e5' := .slice (some ⟨g', 0, none⟩) 2 gc) (e6' := .slice none 0 0) (eng' := .pointer none) rfl
  have ho2 := only_c w9 bp 5 (.slice (some ⟨g', 0, none⟩) 2 gc)
  have n5 : x.1 ≠ bp := fun z => by
    obtain ⟨dd, kk, hb⟩ := hd1.blk
    rw [z, q1.top] at hb; simp at hb
  subst e
  refine ⟨_, es, cn, x.1, g', gc, u, dk, q2, own_only own ho2 (fun k hk z => ?_), ?_, ?_, hd1.only ho2 n5 (fun k z => by subst z; exact ⟨_, _, _, q1.top, by decide⟩), (if_pos dv.lt).trans p3, by omega⟩
  · obtain ⟨cur, hc⟩ := own_typ own hk
    rw [z, q1.top] at hc
    simp at hc
  · rcases hg' with z | z
    · rw [z]; exact (if_pos (lt_of_block hgb)).trans hcg
    · exact if_neg (by omega)
  · rcases hg' with z | z
    · omega
    · omega
end
theorem pb_start (w w1 w2 w3 : World) (Fi Fu : Nat → Prop) (hh : Nat) (u2 : Value) (K : Nat → Int) (hK : ∀ j, j < 1 → 0 ≤ K j ∧ K j ≤ 255) (hV : P.VOk (fun i => P.sv0 (K i))) (I1 : L.Ix w1 Fi (w.heap.size + 1) (L.iv0 hh)) (I2 : ∀ x, Fi x → w.heap.size ≤ x) (B1 : Below w.heap.size w w1) (P1 : P.Bx w2 w1.heap.size u2 1 (P.spn K)) (B2 : Below w1.heap.size w1 w2) (P3 : ∀ k, P.Ug u2 k → w1.heap.size ≤ k) (U1 : L.Ux w3 Fu w2.heap.size L.uv0) (U2 : ∀ x, Fu x → x = w2.heap.size) (B3 : Below w2.heap.size w2 w3) (w4 : World)
    (h4 : w4 = ((((w3.alloc (.cells #[ptr w1.heap.size, .int .i64 (-1)] 123)).alloc (.map #[] 0)).alloc (.cells (bdc w2.heap.size (w.heap.size + 1) w3.heap.size (.pointer none) (w3.heap.size + 1) (sl1 (w3.heap.size + 1 + 1 + 1)) (.slice none 0 0)) 81)).alloc (.cells #[pt0 w2.heap.size] 83))) :
    ∃ c, Pb w w4 c (w3.heap.size + 1 + 1) w2.heap.size (w.heap.size + 1) w3.heap.size w1.heap.size (w3.heap.size + 1) 1 (.pointer none) (sl1 (w3.heap.size + 1 + 1 + 1)) (.slice none 0 0) #[] 0 (L.iv0 hh) (fun i => P.sv0 (K i)) ∧ c (w3.heap.size + 1 + 1 + 1) = 0 ∧ w4.heap[w3.heap.size + 1 + 1 + 1]? = some (.cells #[pt0 w2.heap.size] 83 (0, 0)) ∧ w3.heap.size + 1 + 1 + 1 < w4.heap.size := by
  have s1 := B1.size
  have s2 := B2.size
  have s3 := B3.size
  have hu : w2.heap.size < w3.heap.size := by
    obtain ⟨a, b, h1, -, -⟩ := U1
    exact lt_of_block h1.top
  have a1 := heap_alloc_new w3 (.cells #[ptr w1.heap.size, .int .i64 (-1)] 123)
  have a2 := heap_alloc_new (w3.alloc (.cells #[ptr w1.heap.size, .int .i64 (-1)] 123)) (.map #[] 0)
  rw [show (w3.alloc (.cells #[ptr w1.heap.size, .int .i64 (-1)] 123)).heap.size = w3.heap.size + 1 by simp] at a2
  have a3 := heap_alloc_new ((w3.alloc (.cells #[ptr w1.heap.size, .int .i64 (-1)] 123)).alloc (.map #[] 0)) (.cells (bdc w2.heap.size (w.heap.size + 1) w3.heap.size (.pointer none) (w3.heap.size + 1) (sl1 (w3.heap.size + 1 + 1 + 1)) (.slice none 0 0)) 81)
  rw [show ((w3.alloc (.cells #[ptr w1.heap.size, .int .i64 (-1)] 123)).alloc (.map #[] 0)).heap.size = w3.heap.size + 1 + 1 by simp] at a3
  have a4 := heap_alloc_new (((w3.alloc (.cells #[ptr w1.heap.size, .int .i64 (-1)] 123)).alloc (.map #[] 0)).alloc (.cells (bdc w2.heap.size (w.heap.size + 1) w3.heap.size (.pointer none) (w3.heap.size + 1) (sl1 (w3.heap.size + 1 + 1 + 1)) (.slice none 0 0)) 81)) (.cells #[pt0 w2.heap.size] 83)
  rw [show (((w3.alloc (.cells #[ptr w1.heap.size, .int .i64 (-1)] 123)).alloc (.map #[] 0)).alloc (.cells (bdc w2.heap.size (w.heap.size + 1) w3.heap.size (.pointer none) (w3.heap.size + 1) (sl1 (w3.heap.size + 1 + 1 + 1)) (.slice none 0 0)) 81)).heap.size = w3.heap.size + 1 + 1 + 1 by simp] at a4
  rw [← h4] at a4
  have hb : Below w3.heap.size w3 w4 := by rw [h4]; exact ((((Below.refl _ _).alloc (Nat.le_refl _) _).alloc (by simp) _).alloc (by simp; omega) _).alloc (by simp; omega) _
  have t1 : w4.heap[w3.heap.size]? = some (.cells #[ptr w1.heap.size, .int .i64 (-1)] 123 (0, 0)) := by
    rw [h4]; exact (heap_alloc_old _ _ (by simp; omega)).trans ((heap_alloc_old _ _ (by simp; omega)).trans ((heap_alloc_old _ _ (by simp)).trans a1))
  have t2 : w4.heap[w3.heap.size + 1]? = some (.map #[] 0) := by
    rw [h4]; exact (heap_alloc_old _ _ (by simp)).trans ((heap_alloc_old _ _ (by simp)).trans a2)
  have t3 : w4.heap[w3.heap.size + 1 + 1]? = some (.cells (bdc w2.heap.size (w.heap.size + 1) w3.heap.size (.pointer none) (w3.heap.size + 1) (sl1 (w3.heap.size + 1 + 1 + 1)) (.slice none 0 0)) 81 (0, 0)) := by
    rw [h4]; exact (heap_alloc_old _ _ (by simp)).trans a3
  have b13 : Below w1.heap.size w1 w4 := B2.trans ((B3.mono s2).trans (hb.mono (by omega)))
  have b23 : Below w2.heap.size w2 w4 := B3.trans (hb.mono s3)
  have P2 : P.Bq w2 (fun x => x = w1.heap.size ∨ P.Ug u2 x) w1.heap.size 1 (P.fB fun i => P.sv0 (K i)) := ⟨⟨u2, by rw [← P.spn_fB]; exact P1, fun x => Iff.rfl⟩, by rw [← P.spn_fB]; exact P.spn_b K, by decide⟩
  refine ⟨fun k => if k < w1.heap.size then 2 else if k < w2.heap.size then 3 else if k < w3.heap.size then 1 else 0, ⟨B1.trans (b13.mono s1), t3, t1, t2, ⟨Fu, U1.only (T := fun _ => False) (.ofBelow hb) (fun _ _ z => z), fun k hk => ?_⟩, ⟨Fi, I1.only (T := fun _ => False) (.ofBelow b13) (fun _ _ z => z), fun k hk => ⟨if_pos (I1.lt hk), I2 k hk⟩⟩, ⟨_, P2.only (T := fun _ => False) (.ofBelow b23) (fun _ _ z => z), fun k hk => ?_⟩, hV, by decide, ⟨?_, ?_, ?_⟩, ⟨by omega, by omega, by omega⟩⟩, ?_, a4, ?_⟩
  · obtain rfl := U2 k hk
    show (if w2.heap.size < w1.heap.size then 2 else if w2.heap.size < w2.heap.size then 3 else if w2.heap.size < w3.heap.size then 1 else 0) = 1 ∧ _
    rw [if_neg (by omega), if_neg (by omega), if_pos hu]
    exact ⟨rfl, by omega⟩
  · have l1 : k < w2.heap.size := P2.lt hk
    have l2 : w1.heap.size ≤ k := by
      rcases hk with rfl | z
      · exact Nat.le_refl _
      · exact P3 k z
    show (if k < w1.heap.size then 2 else if k < w2.heap.size then 3 else if k < w3.heap.size then 1 else 0) = 3 ∧ _
    rw [if_neg (by omega), if_pos l1]
    exact ⟨rfl, by omega⟩
  all_goals first
    | (show (if _ < w1.heap.size then 2 else if _ < w2.heap.size then 3 else if _ < w3.heap.size then 1 else 0) = 0; rw [if_neg (by omega), if_neg (by omega), if_neg (by omega)])
    | (rw [h4]; simp)
end Go.Proofs.YtjkihlpckgaggaaGreat
namespace Go.Proofs.YtjkihlpckgaggaaGreat
open Go.RowKit
open C (Only hid Still ret_bool ret_int)
open P (Ls)
set_option linter.unusedVariables false
set_option maxRecDepth 100000

def vtB (bp g : Nat) (kd : Int) (ud en : Value) (d bb : Nat) (u : Value) : Nat → Value := fun dd => if dd = 56 then .pointer (some ⟨bp, 0, none⟩) else if dd = 57 then .pointer (some ⟨bp, 0, none⟩) else if dd = 58 then .pointer (some ⟨bp, 0, none⟩) else if dd = 59 then .pointer (some ⟨bp, 5, none⟩) else if dd = 60 then sl1 g else if dd = 61 then .pointer (some ⟨bp, 0, none⟩) else if dd = 62 then .int .i64 kd else if dd = 63 then ud else if dd = 64 then en else if dd = 65 then ptD d else if dd = 66 then .slice (some ⟨bb, 0, none⟩) 1 1 else if dd = 67 then u else if dd = 68 then .pointer (some ⟨bp, 0, none⟩) else if dd = 69 then .pointer (some ⟨bp, 5, none⟩) else undef
/-- the board whole, behind its places -/
theorem SB.fin {W w w' : World} {bp pu pi ps pb mm q kc : Nat} {I : L.IV} {V : Nat → P.Sv} {kd : Int} (h : SB W bp pu pi ps pb mm 1 I V kd w) (hb : Below w.heap.size w w') (hq : w'.heap[q]? = some (.cells (plc pu pi ps kc) 145 (0, 0))) (hl : w.heap.size ≤ q) (hkc : w'.heap[kc]? = some ckO) (hkl : w.heap.size ≤ kc) (hkq : kc ≠ q) :
    ∃ X u dk, X.bp = bp ∧ Bo W (w'.setCell ⟨bp, 6, none⟩ (.slice (some ⟨q, 0, none⟩) 4 4)) X ∧ X.n = 1 ∧ X.U = L.uv0 ∧ X.I = I ∧ X.V = V ∧ X.dv 0 = nv kd u dk ∧ X.E = (fun _ => none) := by
  obtain ⟨c, es, cn, d, g, gc, u, dk, p1, own, cg, wg, dv, cd, wd⟩ := h.ex
  have hs := hb.size
  have p2 := p1.below hb (fun k => if k < w.heap.size then c k else if k = kc then 5 else 0) fun k hk => if_pos hk
  have p3 := p2.set 6 (.slice (some ⟨q, 0, none⟩) 4 4) (e5' := .slice (some ⟨g, 0, none⟩) 2 gc) (e6' := .slice (some ⟨q, 0, none⟩) 4 4) (eng' := .pointer none) rfl
  have ho := only_c w' bp 6 (.slice (some ⟨q, 0, none⟩) 4 4)
  have own' := own_only own (T := fun _ => False) (.ofBelow hb) (fun _ _ z => z)
  have dv' := dv.below hb
  have nd : d ≠ bp := fun z => by
    obtain ⟨dd, kk, hb⟩ := dv'.blk
    rw [z, p2.top] at hb; simp at hb
  have nq : q ≠ bp := fun z => by have := p2.top; rw [← z, hq] at this; simp at this
  have nk : kc ≠ bp := fun z => by have := p2.top; rw [← z, hkc] at this; simp [ckO] at this
  have lg : g < w.heap.size := L.own_lt own g rfl
  have wq : W.heap.size ≤ q := Nat.le_trans p1.bel.size hl
  refine ⟨⟨bp, pu, pi, ps, pb, g, gc, q, kc, mm, 1, .pointer none, fun _ => d, fun _ => nv kd u dk, L.uv0, I, V, fun _ => none⟩, u, dk, rfl, ⟨_, ⟨p3.bel, p3.top, p3.sp, own_only own' ho fun k hk z => ?_, ho.old hq nq, p3.u, p3.i, p3.b, p3.vok, fun j hj => ⟨dv'.only ho nd (fun k z => by subst z; exact ⟨_, _, _, p2.top, by decide⟩), (if_pos dv.lt).trans cd, wd⟩, show (1 : Nat) ≤ 8 by decide, ⟨p3.c0.1, p3.c0.2.1, (if_pos lg).trans cg, (if_neg (show ¬ q < w.heap.size by omega)).trans (if_neg fun z => hkq z.symm)⟩, ⟨p3.w0.1, p3.w0.2.1, wg, wq⟩, (fun k o hk => by cases hk), ⟨0, ho.old hkc nk⟩, (if_neg (show ¬ kc < w.heap.size by omega)).trans (if_pos rfl), Nat.le_trans p1.bel.size hkl⟩⟩, rfl, rfl, rfl, rfl, rfl, rfl⟩
  obtain ⟨cur, hc⟩ := own_typ own' hk
  rw [z, p2.top] at hc
  simp at hc
theorem SB.drew {W w : World} {bp pu pi ps pb mm n : Nat} {I : L.IV} {V : Nat → P.Sv} {kd : Int} (h : SB W bp pu pi ps pb mm n I V kd w) : ∃ e5, w.heap[bp]? = some (.cells (bdc pu pi ps (.pointer none) mm e5 (.slice none 0 0)) 81 (0, 0)) := by
  obtain ⟨c, es, cn, d, g, gc, u, dk, p1, -⟩ := h.ex
  exact ⟨_, p1.top⟩
set_option maxHeartbeats 4000000 in
theorem g_New1 (w : World) (hh : Nat) (h1 : 1 ≤ hh) (h2 : hh ≤ 64) (ad : Option Addr) (cap b o : Nat) (K : Nat → Int) (hL : Ls w ad 1 cap b o K) (kd : Int) (hK : K 0 = kd) (hV : P.VOk (fun i => P.sv0 (K i))) (hk : kd = 1 ∨ kd = 2 ∨ kd = 3) (ud en : Value) (dl : List Int) (hd : w.ownsRow 0 5 1 ud dl.length (bys dl)) (hl : dl.length ≤ 32768) (hm : dl.length % 512 = 0) (hz : kd = 2 ∨ dl.length = 0) :
    Calls Tryz.prog 22 #[.int .i64 hh, .slice ad 1 cap, ud, en] w fun r w' => ∃ X u dk, r = .returned (.tuple #[ptr X.bp, .int .i64 0]) ∧ Bo w w' X ∧ X.n = 1 ∧ X.U = L.uv0 ∧ X.I = L.iv0 hh ∧ X.V = (fun i => P.sv0 (K i)) ∧ X.dv 0 = nv kd u dk ∧ X.E = (fun _ => none) := by
  obtain ⟨adu, cpu, rfl⟩ := own_form hd
  have hr := g_Right w (hh : Int) (by omega) (by omega) ad 1 cap b o K hL adu dl.length cpu (by omega)
  rw [rgt_1 hh h1 h2 K kd hK hk dl.length hl hm hz] at hr
  have HR := hid hr
  have HLs := hid hL
  have HD := hid hd
  have HKK := hid hK
  have HKD := hid hk
  have HV := hid hV
  have HDL := hid (show dl.length ≤ 32768 ∧ dl.length % 512 = 0 ∧ (kd = 2 ∨ dl.length = 0) from ⟨hl, hm, hz⟩)
  have hkj : ∀ j, j < 1 → 0 ≤ K j ∧ K j ≤ 255 := fun j hj => by
    obtain rfl : j = 0 := by omega
    rw [hK]; omega
  have HKJ := hid hkj
  have HI := hid (fun w8 => L.i_New w8 hh h1 h2)
  have HH := hid h1
  obtain ⟨rfl, hbl⟩ := hL.at0 (by decide)
  have lcap := hL.len
  have lcap2 := hL.cap
  clear hr hL hd hbl hl hm hz hk hV hkj
  have hmm := @run_makeMap Tryz.prog
  go_enter Tryz.func22, Tryz.ntmps22
  go_wp2_with (first
    | (go_at_call 7; refine HR.out.mono ?_; rintro r w0 ⟨rfl, q⟩; obtain rfl := q.symm)
    | (go_at_call 31; refine (HI.out w).mono ?_; rintro r w1 ⟨rfl, ⟨Fi, i1, i2⟩, q⟩; have I1 := hid i1; have I2 := hid i2; have B1 := hid q; clear i1 i2 q)
    | (go_at_call 32; refine (P.c_New w1 _ 1 cap b o K (HLs.out.below B1.out) (by decide) HKJ.out).mono ?_; rintro r w2 ⟨rfl, u2, q1, q2, q3⟩; have P1 := hid q1; have B2 := hid q2; have P3 := hid q3; clear q1 q2 q3)
    | (go_at_call 33; refine (L.u_New w2).mono ?_; rintro r w3 ⟨rfl, ⟨Fu, u1, u2⟩, q⟩; have U1 := hid u1; have U2 := hid u2; have B3 := hid q; clear u1 u2 q))
  obtain ⟨w4, h4⟩ : ∃ w4, w4 = ((((w3.alloc (.cells #[ptr w1.heap.size, .int .i64 (-1)] 123)).alloc (.map #[] 0)).alloc (.cells (bdc w2.heap.size (w.heap.size + 1) w3.heap.size (.pointer none) (w3.heap.size + 1) (sl1 (w3.heap.size + 1 + 1 + 1)) (.slice none 0 0)) 81)).alloc (.cells #[pt0 w2.heap.size] 83)) := ⟨_, rfl⟩
  refine wp_atG h4.symm ?_
  have hst := pb_start w w1 w2 w3 Fi Fu hh u2 K HKJ.out HV.out I1.out I2.out B1.out P1.out B2.out P3.out U1.out U2.out B3.out w4 h4
  obtain ⟨bp, hbp⟩ : ∃ bp, bp = w3.heap.size + 1 + 1 := ⟨_, rfl⟩
  obtain ⟨g, hg⟩ : ∃ g, g = w3.heap.size + 1 + 1 + 1 := ⟨_, rfl⟩
  rw [← hg, ← hbp] at hst
  have HST := hid hst
  have HBP := hid hbp
  have HG := hid hg
  clear I1 I2 B1 P1 B2 P3 U1 U2 B3 hst h4 HR HI hmm
  rw [← hbp]
  clear hbp hg
  generalize w2.heap.size = pu at *
  generalize w.heap.size + 1 = pi at *
  generalize w1.heap.size = pb at *
  generalize w3.heap.size = ps at *
  go_loopw [52] (fun i wr => (i = .int .i64 0 ∧ wr = w4) ∨ (i = .int .i64 1 ∧ Hid (SB w bp pu pi ps pb (ps + 1) 1 (L.iv0 hh) (fun i => P.sv0 (K i)) kd wr))) (fun i _ => 1 - (intOf i).toNat)
  case atStart => exact .inl ⟨rfl, rfl⟩
  case round =>
    rcases hrel with ⟨rfl, rfl⟩ | ⟨rfl, hS⟩
    · have cK : wr.cell? ⟨b, o, none⟩ = some (.int .i64 kd) := by
        obtain ⟨c, p1, -⟩ := HST.out
        have := (HLs.out.below p1.bel).cell 0 (by decide)
        rw [HKK.out] at this
        simpa using this
      go_upto_region 10 with fail
      obtain ⟨wa, hwa⟩ : ∃ wa, wa = wr.drew := ⟨_, rfl⟩
      have HD2 : Hid (∃ c, Pb w wa c bp pu pi ps pb (ps + 1) 1 (.pointer none) (sl1 g) (.slice none 0 0) #[] 0 (L.iv0 hh) (fun i => P.sv0 (K i)) ∧ c g = 0 ∧ wa.heap[g]? = some (.cells #[pt0 pu] 83 (0, 0)) ∧ g < wa.heap.size ∧ w.heap.size ≤ g ∧ w.heap.size ≤ wa.heap.size) := by
        obtain ⟨c, p1, p2, p3, p4⟩ := HST.out
        have hbd : Below wr.heap.size wr wa := by rw [hwa]; exact (Below.refl _ _).drew
        have hsz : wa.heap.size = wr.heap.size := by rw [hwa]; rfl
        have := p1.w0.1
        have e1 := HBP.out
        have e2 := HG.out
        have e3 := p1.bel.size
        exact ⟨c, p1.below hbd c (fun _ _ => rfl), p2, (hbd.block _ p4).trans p3, by omega, by omega, by omega⟩
      obtain ⟨c, hP⟩ := HD2.out
      have HP := hid hP
      have HDk : Hid (wa.ownsRow 0 5 1 (.slice adu dl.length cpu) dl.length (bys dl)) := own_only HD.out (T := fun _ => False) (.ofBelow hP.1.bel) (fun _ _ z => z)
      have hc5 : wa.cell? ⟨bp, 5, none⟩ = some (sl1 g) := cell_of_row wa bp 5 _ _ _ hP.1.top
      have HC5 := hid hc5
      have HNP := hid (g_newPort w wa c bp pu pi ps pb (ps + 1) 1 (.pointer none) (sl1 g) (.slice none 0 0) 0 (L.iv0 hh) (fun i => P.sv0 (K i)) hP.1 kd HKD.out (.slice adu dl.length cpu) en dl HDk.out HDL.out.1 HDL.out.2.1 HDL.out.2.2)
      refine wp_region_any (by kernel_rfl) ?_
      rw [show ({ wr with drawn := wr.drawn + 1 } : World) = wa from hwa.symm]
      clear hwa hP hc5 cK HD2 HST
      have HLD : Hid (∀ (x : Nat × Nat × Value) (listed : Array Bool) w8, VS [9, 10, 11, 14] (MN w wa c bp pu pi ps pb (ps + 1) 1 g (L.iv0 hh) (fun i => P.sv0 (K i)) kd) x listed w8 → listed.getD 11 false = false → w8.cell? ⟨bp, 5, none⟩ = some (sl1 g)) := by
        rintro x listed w8 ⟨t, ht, hm⟩ h11
        have := ht 2 11 rfl
        rw [h11] at this
        have ht2 : ¬ 2 < t := by simpa using this.symm
        exact MN.cell hm (by omega) HC5.out
      refine wpAny_fz (α := Nat × Nat × Value) (fun x => vtB bp g kd (.slice adu dl.length cpu) en x.1 x.2.1 x.2.2) (fun x listed w8 => VS [9, 10, 11, 14] (MN w wa c bp pu pi ps pb (ps + 1) 1 g (L.iv0 hh) (fun i => P.sv0 (K i)) kd) x listed w8) ?step ?fin (0, 0, .slice none 0 0) ?start
      case start => exact .start rfl
      case step =>
        rintro listed fr wr2 x hF hW hC i hj
        obtain ⟨hl, o, ho, he⟩ := mem_ready.1 hj
        have hjl : i < listed.size := by rw [hF.q.ls]; exact (Array.getElem?_eq_some_iff.1 ho).1
        have hl0 := getD_tf hjl hl
        clear hj
        have HF := hid hF
        have HW := hid hW
        have HE := hid he
        have HC := hid hC
        clear hF hW he hl hC
        match i, ho with
        | 0, ho =>
          obtain rfl := Option.some.inj ho
          have e14 : fr.tmps[14]?.getD undef = .pointer (some ⟨bp, 0, none⟩) := HF.out.base 14 (by kernel_rfl) rfl
          exact wp_q rfl rfl (by simp [execOp, go_sem, e14]; try rfl) ⟨x, HF.out.put (by kernel_rfl) rfl rfl rfl (of_decide_eq_true rfl), HW.out.q hjl (by decide)⟩
        | 1, ho =>
          obtain rfl := Option.some.inj ho
          have e14 : fr.tmps[14]?.getD undef = .pointer (some ⟨bp, 0, none⟩) := HF.out.base 14 (by kernel_rfl) rfl
          exact wp_q rfl rfl (by simp [execOp, go_sem, e14]; try rfl) ⟨x, HF.out.put (by kernel_rfl) rfl rfl rfl (of_decide_eq_true rfl), HW.out.q hjl (by decide)⟩
        | 2, ho =>
          obtain rfl := Option.some.inj ho
          have e57 : fr.tmps[57]?.getD undef = .pointer (some ⟨bp, 0, none⟩) := HF.out.ev (i := 1) rfl rfl (HE.out ⟨1, .data⟩ (by simp) rfl)
          exact wp_q rfl rfl (by simp [execOp, go_sem, e57]; try rfl) ⟨x, HF.out.put (by kernel_rfl) rfl rfl rfl (of_decide_eq_true rfl), HW.out.q hjl (by decide)⟩
        | 3, ho =>
          obtain rfl := Option.some.inj ho
          have e58 : fr.tmps[58]?.getD undef = .pointer (some ⟨bp, 0, none⟩) := HF.out.ev (i := 2) rfl rfl (HE.out ⟨2, .data⟩ (by simp) rfl)
          exact wp_q rfl rfl (by simp [execOp, go_sem, e58]; try rfl) ⟨x, HF.out.put (by kernel_rfl) rfl rfl rfl (of_decide_eq_true rfl), HW.out.q hjl (by decide)⟩
        | 4, ho =>
          obtain rfl := Option.some.inj ho
          have e59 : fr.tmps[59]?.getD undef = .pointer (some ⟨bp, 5, none⟩) := HF.out.ev (i := 3) rfl rfl (HE.out ⟨3, .data⟩ (by simp) rfl)
          have hc := HLD.out _ _ _ HW.out (not_yet HC.out hl0 rfl ⟨4, .data⟩ (by simp) rfl rfl)
          exact wp_q rfl rfl (by simp [execOp, go_sem, e59, hc]; try rfl) ⟨x, HF.out.put (by kernel_rfl) rfl rfl rfl (of_decide_eq_true rfl), HW.out.q hjl (by decide)⟩
        | 5, ho =>
          obtain rfl := Option.some.inj ho
          have e14 : fr.tmps[14]?.getD undef = .pointer (some ⟨bp, 0, none⟩) := HF.out.base 14 (by kernel_rfl) rfl
          exact wp_q rfl rfl (by simp [execOp, go_sem, e14]; try rfl) ⟨x, HF.out.put (by kernel_rfl) rfl rfl rfl (of_decide_eq_true rfl), HW.out.q hjl (by decide)⟩
        | 6, ho =>
          obtain rfl := Option.some.inj ho
          have e16 : fr.tmps[16]?.getD undef = .int .i64 kd := HF.out.base 16 (by kernel_rfl) rfl
          exact wp_q rfl rfl (by simp [execOp, go_sem, e16]; try rfl) ⟨x, HF.out.put (by kernel_rfl) rfl rfl rfl (of_decide_eq_true rfl), HW.out.q hjl (by decide)⟩
        | 7, ho =>
          obtain rfl := Option.some.inj ho
          have e2 : fr.tmps[2]?.getD undef = .slice adu dl.length cpu := HF.out.base 2 (by kernel_rfl) rfl
          exact wp_q rfl rfl (by simp [execOp, go_sem, e2]; try rfl) ⟨x, HF.out.put (by kernel_rfl) rfl rfl rfl (of_decide_eq_true rfl), HW.out.q hjl (by decide)⟩
        | 8, ho =>
          obtain rfl := Option.some.inj ho
          have e3 : fr.tmps[3]?.getD undef = en := HF.out.base 3 (by kernel_rfl) rfl
          exact wp_q rfl rfl (by simp [execOp, go_sem, e3]; try rfl) ⟨x, HF.out.put (by kernel_rfl) rfl rfl rfl (of_decide_eq_true rfl), HW.out.q hjl (by decide)⟩
        | 9, ho =>
          obtain rfl := Option.some.inj ho
          have e61 : fr.tmps[61]?.getD undef = .pointer (some ⟨bp, 0, none⟩) := HF.out.ev (i := 5) rfl rfl (HE.out ⟨5, .data⟩ (by simp) rfl)
          have e62 : fr.tmps[62]?.getD undef = .int .i64 kd := HF.out.ev (i := 6) rfl rfl (HE.out ⟨6, .data⟩ (by simp) rfl)
          have e63 : fr.tmps[63]?.getD undef = .slice adu dl.length cpu := HF.out.ev (i := 7) rfl rfl (HE.out ⟨7, .data⟩ (by simp) rfl)
          have e64 : fr.tmps[64]?.getD undef = en := HF.out.ev (i := 8) rfl rfl (HE.out ⟨8, .data⟩ (by simp) rfl)
          have m0 : wr2 = wa := HW.out.at 0 rfl hl0 (fun j hj => by omega)
          subst m0
          refine wp_g4 rfl rfl _ _ _ _ _ _ rfl (ptr bp) (.int .i64 kd) (.slice adu dl.length cpu) en (by simp [Act.eval, e61]) (by simp [Act.eval, e62]) (by simp [Act.eval, e63]) (by simp [Act.eval, e64]) (Tryz.call34 _ _) HNP.out ?_
          rintro e' w7 ⟨d, rfl, q1, w9, es9, cn9, q2, q3⟩
          have hsw := HF.out.swapD (vt' := vtB bp g kd (.slice adu dl.length cpu) en d x.2.1 x.2.2) (by kernel_rfl) (fun d => ?_)
          · refine ⟨_, rfl, (d, x.2.1, x.2.2), hsw.put (by kernel_rfl) rfl rfl rfl (of_decide_eq_true rfl), HW.out.go 0 hjl rfl hl0 (fun j hj => by omega) (by intro a ha; match a, ha with | 0, _ => rfl | 1, ha => simp at ha | 2, ha => simp at ha | 3, ha => simp at ha) ⟨q1, ?_⟩⟩
            obtain ⟨p1, p2, p3, p4, p5, p6⟩ := HP.out
            have nm : ps + 1 ≠ g := fun z => by have := p1.mp; rw [z, p3] at this; simp at this
            rw [q3]
            show (w9.heap.setIfInBounds (ps + 1) (.map es9 cn9))[g]? = _
            rw [Array.getElem?_setIfInBounds, if_neg nm]
            exact (q2.block _ p4).trans p3
          · by_cases z0 : d = 65
            · subst z0; exact .inr ⟨9, _, rfl, rfl, hl0⟩
            · left; simp only [vtB, if_neg z0]
        | 10, ho =>
          obtain rfl := Option.some.inj ho
          have e65 : fr.tmps[65]?.getD undef = ptD x.1 := HF.out.ev (i := 9) rfl rfl (HE.out ⟨9, .data⟩ (by simp) rfl)
          have hp := HE.out ⟨9, .data⟩ (by simp) rfl
          have m0 := HW.out.at 1 rfl hl0 (fun j hj => by obtain rfl : j = 0 := (by omega); exact ⟨9, rfl, hp⟩)
          obtain ⟨i0, hi0, hz0, hs0, hb0⟩ := info_parts info_port
          refine wp_bs rfl rfl 78 83 1 _ rfl #[ptD x.1] i0 _ u_sport hi0 hz0 (by rw [hs0]; decide) (by rw [hs0]; decide) (by rw [hs0]; simp [Act.eval, e65]; kernel_rfl) ?_
          have hsw := HF.out.swapD (vt' := vtB bp g kd (.slice adu dl.length cpu) en x.1 wr2.heap.size x.2.2) (by kernel_rfl) (fun d => ?_)
          · exact ⟨(x.1, wr2.heap.size, x.2.2), hsw.put (by kernel_rfl) rfl rfl rfl (of_decide_eq_true rfl), HW.out.go 1 hjl rfl hl0 (fun j hj => by obtain rfl : j = 0 := (by omega); exact ⟨9, rfl, hp⟩) (by intro a ha; match a, ha with | 0, ha => simp at ha | 1, _ => rfl | 2, ha => simp at ha | 3, ha => simp at ha) ⟨wr2, m0, rfl, rfl⟩⟩
          · by_cases z0 : d = 66
            · subst z0; exact .inr ⟨10, _, rfl, rfl, hl0⟩
            · left; simp only [vtB, if_neg z0]
        | 11, ho =>
          obtain rfl := Option.some.inj ho
          have e60 : fr.tmps[60]?.getD undef = sl1 g := HF.out.ev (i := 4) rfl rfl (HE.out ⟨4, .data⟩ (by simp) rfl)
          have e66 : fr.tmps[66]?.getD undef = .slice (some ⟨x.2.1, 0, none⟩) 1 1 := HF.out.ev (i := 10) rfl rfl (HE.out ⟨10, .data⟩ (by simp) rfl)
          have hp := HE.out ⟨10, .data⟩ (by simp) rfl
          obtain ⟨w8, m1, m2, m3⟩ := HW.out.at 2 rfl hl0 (fun j hj => by obtain rfl : j = 1 := (by omega); exact ⟨10, rfl, hp⟩)
          obtain ⟨i0, hi0, hz0, hs0, hb0⟩ := info_parts info_port
          have m4 := m1.alloc (.cells #[ptD x.1] 83)
          rw [← m3] at m4
          have e60' : Act.eval fr (.tmp 60) = sl1 g := by simp [Act.eval, e60]
          have e66' : Act.eval fr (.tmp 66) = .slice (some ⟨x.2.1, 0, none⟩) 1 1 := by simp [Act.eval, e66]
          refine wpOp_step rfl fun K' hK => ?_
          refine step_append_blk _ (.tmp 60) (.tmp 66) 78 rfl 83 i0 _ 1 16 u_sport hi0 hz0 hs0 hb0 rfl (by decide) (sl1 g) 1 [pt0 pu] e60' m4.own ⟨x.2.1, 0, none⟩ 1 1 [ptD x.1] e66' rfl ?_ (by intro v hv; simp at hv; subst hv; rfl) (by decide) (by decide) rfl ?_
          · intro j v hv
            match j, hv with
            | 0, hv =>
              simp at hv
              subst hv
              rw [m3, m2]
              exact cell_of_row _ _ 0 _ _ _ (heap_alloc_new w8 (.cells #[ptD x.1] 83))
          intro v' w9 hown hgrow hblk
          have hsw := HF.out.swapD (vt' := vtB bp g kd (.slice adu dl.length cpu) en x.1 x.2.1 v') (by kernel_rfl) (fun d => ?_)
          · refine hK _ _ ⟨(x.1, x.2.1, v'), hsw.put (by kernel_rfl) rfl rfl rfl (of_decide_eq_true rfl), HW.out.go 2 hjl rfl hl0 (fun j hj => by obtain rfl : j = 1 := (by omega); exact ⟨10, rfl, hp⟩) (by intro a ha; match a, ha with | 0, ha => simp at ha | 1, ha => simp at ha | 2, _ => rfl | 3, ha => simp at ha) ⟨wr2, m4, hown, (grown_ug hgrow).mono fun k _ hk => ?_, fun k hk => ?_⟩⟩
            · have : some g = some k := hk
              exact (Option.some.inj this).symm
            · rcases hblk k hk with q | q
              · have : some g = some k := q
                exact .inl (Option.some.inj this).symm
              · exact .inr q
          · by_cases z0 : d = 67
            · subst z0; exact .inr ⟨11, _, rfl, rfl, hl0⟩
            · left; simp only [vtB, if_neg z0]
        | 12, ho =>
          obtain rfl := Option.some.inj ho
          have e56 : fr.tmps[56]?.getD undef = .pointer (some ⟨bp, 0, none⟩) := HF.out.ev (i := 0) rfl rfl (HE.out ⟨0, .data⟩ (by simp) rfl)
          exact wp_q rfl rfl (by simp [execOp, go_sem, e56]; try rfl) ⟨x, HF.out.put (by kernel_rfl) rfl rfl rfl (of_decide_eq_true rfl), HW.out.q hjl (by decide)⟩
        | 13, ho =>
          obtain rfl := Option.some.inj ho
          have e68 : fr.tmps[68]?.getD undef = .pointer (some ⟨bp, 0, none⟩) := HF.out.ev (i := 12) rfl rfl (HE.out ⟨12, .data⟩ (by simp) rfl)
          exact wp_q rfl rfl (by simp [execOp, go_sem, e68]; try rfl) ⟨x, HF.out.put (by kernel_rfl) rfl rfl rfl (of_decide_eq_true rfl), HW.out.q hjl (by decide)⟩
        | 14, ho =>
          obtain rfl := Option.some.inj ho
          have e69 : fr.tmps[69]?.getD undef = .pointer (some ⟨bp, 5, none⟩) := HF.out.ev (i := 13) rfl rfl (HE.out ⟨13, .data⟩ (by simp) rfl)
          have e67 : fr.tmps[67]?.getD undef = x.2.2 := HF.out.ev (i := 11) rfl rfl (HE.out ⟨11, .data⟩ (by simp) rfl)
          have hp := HE.out ⟨11, .data⟩ (by simp) rfl
          obtain ⟨w8, m1, m2, m3, m5⟩ := HW.out.at 3 rfl hl0 (fun j hj => by obtain rfl : j = 2 := (by omega); exact ⟨11, rfl, hp⟩)
          obtain ⟨c2, es2, cn2, p1, -⟩ := m1.pn.pb
          have nb : bp ≠ g := fun z => by have := p1.top; rw [z, m1.g] at this; simp at this
          have tb := m3.old p1.top nb
          have c5 : wr2.cell? ⟨bp, 5, none⟩ = some (sl1 g) := cell_of_row wr2 bp 5 _ _ _ tb
          have z5 : wr2.frozen? ⟨bp, 5, none⟩ = false := frozen_of_row _ _ 5 _ _ tb
          obtain ⟨ax, cx, hx⟩ := own_form m2
          rw [hx] at e67
          exact wp_s rfl rfl (by simp [execOp, go_sem, e69, e67, c5, z5]; try rfl) ⟨x, HF.out.skip rfl rfl _, HW.out.go 3 hjl rfl hl0 (fun j hj => by obtain rfl : j = 2 := (by omega); exact ⟨11, rfl, hp⟩) (by intro a ha; match a, ha with | 0, ha => simp at ha | 1, ha => simp at ha | 2, ha => simp at ha | 3, _ => rfl) ⟨w8, wr2, m1, m2, m3, m5, by rw [hx]⟩⟩
      case fin =>
        rintro listed fr w2 x hF hW hr
        have all := allDone hr hF.q.ls (by kernel_rfl)
        have hb : SB w bp pu pi ps pb (ps + 1) 1 (L.iv0 hh) (fun i => P.sv0 (K i)) kd w2 := by
          obtain ⟨p1, p2, p3, p4, p5, p6⟩ := HP.out
          exact MN.fin (hW.end 3 rfl (all _ (by decide)) (fun t ht q => by match t, ht with | t + 4, _ => exact q)) p2 p4 p5 p6
        rw [hF.full all]
        have HB := hid hb
        clear hF hr all hW hb HLD HP HNP HC5 HDk
        simp only [List.foldl_cons, List.foldl_nil, fillF]
        go_simp
        go_wp2_with fail
        go_roundw
        case rel => exact .inr ⟨rfl, HB⟩
        case measure => simp [intOf]
    · have HS := hS
      obtain ⟨e5, ht⟩ := hS.out.drew
      have HT := hid ht
      clear hS ht
      go_wp2_with (go_at_call 35; refine (g_newPlaces wr bp pu pi ps (ps + 1) (.pointer none) e5 (.slice none 0 0) HT.out).mono ?_; rintro r w7 ⟨q, kc, rfl, q1, q2, q3, q4, q5, q6⟩; have Q4 := hid q4; have Q5 := hid q5; have Q6 := hid q6; have Q1 := hid q1; have Q2 := hid q2; have Q3 := hid q3; have z6 : w7.frozen? ⟨bp, 6, none⟩ = false := frozen_of_row _ _ 6 _ _ ((q2.block _ (lt_of_block HT.out)).trans HT.out); have c6 : w7.cell? ⟨bp, 6, none⟩ = some (.slice none 0 0) := cell_of_row w7 bp 6 _ _ _ ((q2.block _ (lt_of_block HT.out)).trans HT.out); clear q1 q2 q3 q4 q5 q6)
      go_returns
      obtain ⟨X, u, dk, e1, e2, e3⟩ := HS.out.fin Q2.out Q1.out Q3.out Q4.out Q5.out Q6.out
      exact ⟨X, u, dk, by rw [e1]; rfl, e2, e3⟩
end Go.Proofs.YtjkihlpckgaggaaGreat
