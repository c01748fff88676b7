/- Entries of a TLB as they stand in memory, four cells each; what the small functions answer. -/
import Derived.Test.YtdncendokbjnjaaProg
import Derived.Test.YtdncendokbjnjaaMC1
import Derived.BigQuiet
import Derived.Handy
import Derived.Laws.Cover3
import Derived.Test.YtdncendokbjnjaaRows
import Derived.OpenShut
import Derived.SizedLaws
import Derived.Deep.Slices
namespace Go.Proofs.Ytdncendokbjnjaa.E
open Go.Proofs.Ytdncendokbjnjaa.C
open Go.RowKit
set_option linter.unusedVariables false
set_option maxRecDepth 100000

structure TV where
  v : Int
  p : Int
  f : Int
  r : Int
def TV.zero : TV := ⟨0, 0, 0, 0⟩
def TV.cs (x : TV) : List Value := [.int .i64 x.v, .int .u64 x.p, .int .u64 x.f, .int .i64 x.r]
abbrev TV.ag (x : TV) : Value := .agg #[.int .i64 x.v, .int .u64 x.p, .int .u64 x.f, .int .i64 x.r]
def TV.here (x : TV) (v p : Int) : Bool := decide (x.v = v) && decide (x.p = p)
theorem TV.one (x : TV) : ∀ u ∈ x.cs, u.oneCell' = true := by
  intro u hu
  simp [TV.cs] at hu
  rcases hu with rfl | rfl | rfl | rfl <;> rfl
def flat : List TV → List Value
  | [] => []
  | x :: l => x.cs ++ flat l
theorem flat_length (l : List TV) : (flat l).length = l.length * 4 := by
  induction l with
  | nil => rfl
  | cons x l ih => simp [flat, ih, TV.cs]; omega
theorem flat_append (a b : List TV) : flat (a ++ b) = flat a ++ flat b := by
  induction a with
  | nil => rfl
  | cons x l ih => simp [flat, ih]
theorem flat_one (x : TV) : flat [x] = x.cs := by simp [flat]
theorem flat_take (l : List TV) (k : Nat) : (flat l).take (k * 4) = flat (l.take k) := by
  induction l generalizing k with
  | nil => simp [flat]
  | cons x l ih =>
    cases k with
    | zero => simp [flat]
    | succ k =>
      rw [List.take_succ_cons, flat, flat, ← ih k, show (k + 1) * 4 = 4 + k * 4 by omega, List.take_append, show x.cs.length = 4 from rfl, List.take_of_length_le (by show 4 ≤ _; omega)]
      congr 2; omega
theorem flat_drop (l : List TV) (k : Nat) : (flat l).drop (k * 4) = flat (l.drop k) := by
  induction l generalizing k with
  | nil => simp [flat]
  | cons x l ih =>
    cases k with
    | zero => simp [flat]
    | succ k =>
      rw [List.drop_succ_cons, flat, ← ih k, show (k + 1) * 4 = 4 + k * 4 by omega, List.drop_append, show x.cs.length = 4 from rfl, List.drop_of_length_le (by show 4 ≤ _; omega)]
      simp
theorem flat_get (l : List TV) (i : Nat) (x : TV) (h : l[i]? = some x) (j : Nat) (hj : j < 4) : (flat l)[i * 4 + j]? = x.cs[j]? := by
  induction l generalizing i with
  | nil => simp at h
  | cons y l ih =>
    cases i with
    | zero =>
      simp at h
      subst h
      rw [flat, List.getElem?_append_left (by show _ < 4; omega)]
      congr 1; omega
    | succ i =>
      rw [flat, List.getElem?_append_right (by show 4 ≤ _; omega), ← ih i (by simpa using h)]
      congr 1
      show _ - 4 = _
      omega
theorem flat_one' (l : List TV) : ∀ u ∈ flat l, u.oneCell' = true := by
  induction l with
  | nil => intro u hu; simp [flat] at hu
  | cons x l ih =>
    intro u hu
    rw [flat, List.mem_append] at hu
    rcases hu with q | q
    · exact x.one u q
    · exact ih u q
theorem flat_inj {a b : List TV} (h : flat a = flat b) : a = b := by
  induction a generalizing b with
  | nil =>
    cases b with
    | nil => rfl
    | cons y b => simp [flat, TV.cs] at h
  | cons x a ih =>
    cases b with
    | nil => simp [flat, TV.cs] at h
    | cons y b =>
      simp [flat, TV.cs] at h
      obtain ⟨h1, h2, h3, h4, h5⟩ := h
      cases x; cases y
      simp at h1 h2 h3 h4
      subst h1 h2 h3 h4
      rw [ih h5]
theorem flat_set (l : List TV) (k : Nat) (x : TV) (h : k < l.length) : (flat l).take (k * 4) ++ x.cs ++ (flat l).drop (k * 4 + x.cs.length) = flat (l.set k x) := by
  rw [flat_take, show k * 4 + x.cs.length = (k + 1) * 4 by show k * 4 + 4 = _; omega, flat_drop, List.set_eq_take_append_cons_drop, if_pos h, flat_append, flat]
  simp
theorem zeros_flat (z : Array Value) (hz : z = #[.int .i64 0, .int .u64 0, .int .u64 0, .int .i64 0]) (n : Nat) : ((Array.range (n * 4)).map fun i => z[i % 4]!) = (flat (List.replicate n TV.zero)).toArray := by
  subst hz
  apply Array.ext'
  apply List.ext_getElem?
  intro m
  rcases Nat.lt_or_ge m (n * 4) with h | h
  · have e := flat_get (List.replicate n TV.zero) (m / 4) TV.zero (by rw [List.getElem?_replicate, if_pos (by omega)]) (m % 4) (Nat.mod_lt _ (by decide))
    rw [show m / 4 * 4 + m % 4 = m by omega] at e
    rw [show (flat (List.replicate n TV.zero)).toArray.toList = flat (List.replicate n TV.zero) from rfl, e]
    simp [h]
    have h4 : m % 4 < 4 := Nat.mod_lt _ (by decide)
    generalize m % 4 = q at h4
    match q, h4 with
    | 0, _ => rfl
    | 1, _ => rfl
    | 2, _ => rfl
    | 3, _ => rfl
  · rw [List.getElem?_eq_none (by simpa using h), List.getElem?_eq_none (by simpa [flat_length] using h)]
theorem info_t : (Try.prog.info? 92).map (fun i => (i.zero, i.size, i.bytes)) = some (some (.agg #[.int .i64 0, .int .u64 0, .int .u64 0, .int .i64 0]), 4, 32) := by kernel_rfl
theorem u_sT : Try.prog.underlying 97 = some (.slice 92) := by kernel_rfl
theorem under_t : Try.prog.underlying 92 = some (.struct (Try.prog.fieldsOf 92)) := by kernel_rfl
theorem stood_t : Try.prog.stoodInHeld 92 = false := by kernel_rfl
set_option maxRecDepth 100000 in
theorem run_eqT (x : TV) (w : World) : (Op.equalIn 10000 92 x.ag x.ag).run Try.prog w = .ok true w := by
  rw [run_equalIn_struct w 9999 92 _ _ under_t stood_t]
  go_simp
/-- a row of entries -/
def Rw (w : World) (g : Nat) (Z : List TV) : Prop := w.heap[g]? = some (.cells (flat Z).toArray 92 (0, 0))
section
variable {w : World} {g : Nat} {Z : List TV}
theorem Rw.lt (h : Rw w g Z) : g < w.heap.size := lt_of_block h
theorem Rw.below {w' : World} (h : Rw w g Z) (hb : Below w.heap.size w w') : Rw w' g Z := (hb.block g h.lt).trans h
theorem Rw.z (h : Rw w g Z) (j : Nat) : w.frozen? ⟨g, j, none⟩ = false := frozen_of_row w g j _ _ h
theorem Rw.cell (h : Rw w g Z) {i : Nat} {x : TV} (hx : Z[i]? = some x) (j : Nat) (hj : j < 4) : w.cell? ⟨g, i * 4 + j, none⟩ = x.cs[j]? := by
  rw [cell_of_row w g _ _ _ _ h]
  simpa using flat_get Z i x hx j hj
theorem Rw.cs (h : Rw w g Z) {i : Nat} {x : TV} (hx : Z[i]? = some x) : w.cell? ⟨g, i * 4, none⟩ = some (.int .i64 x.v) ∧ w.cell? ⟨g, i * 4 + 1, none⟩ = some (.int .u64 x.p) ∧ w.cell? ⟨g, i * 4 + 2, none⟩ = some (.int .u64 x.f) ∧ w.cell? ⟨g, i * 4 + 3, none⟩ = some (.int .i64 x.r) :=
  ⟨h.cell hx 0 (by decide), h.cell hx 1 (by decide), h.cell hx 2 (by decide), h.cell hx 3 (by decide)⟩
end
theorem c_isOf (w : World) (x : TV) (v p : Int) : Calls Try.prog 135 #[x.ag, .int .i64 v, .int .u64 p] w fun e w' => e = .returned (.bool (x.here v p)) ∧ Below w.heap.size w w' := by
  obtain ⟨a, b, c, d⟩ := x
  unfold TV.here
  simp only []
  by_cases h1 : a = v <;> by_cases h2 : b = p
  all_goals
    go_enter Try.func135, Try.ntmps135
    go_wp2
    go_ret
    exact ⟨by simp [h1, h2], (Below.refl _ _).alloc (Nat.le_refl _) _⟩
end Go.Proofs.Ytdncendokbjnjaa.E
namespace Go.Proofs.Ytdncendokbjnjaa.E
open Go.Proofs.Ytdncendokbjnjaa.C
open Go.RowKit
set_option linter.unusedVariables false
set_option maxRecDepth 100000

/-- an entry more where there is room, as one step -/
theorem wpL_append {ops : Array Oper} {rest : List Oper} {o : Oper} {a : Act} {w : World} {Q : Exit → Act → World → Prop} (hgd : o.guard = none) (s x : Operand)
    (ho : o.op = .call { callee := .builtin .append, args := #[s, x], argTypes := #[97, 97] })
    (g n cap : Nat) (Z : List TV) (hs : a.eval s = .slice (some ⟨g, 0, none⟩) n cap) (hZ : Rw w g Z) (hn : n < Z.length) (hc : n < cap)
    (b m : Nat) (y : TV) (hx : a.eval x = .slice (some ⟨b, 0, none⟩) 1 m) (hy : ∀ j u, y.cs[j]? = some u → w.cell? ⟨b, j, none⟩ = some u)
    (h : ∀ w', Rw w' g (Z.set n y) → Only (· = g) w w' → wpList Try.prog ops Q rest (a.put o.dst (.slice (some ⟨g, 0, none⟩) (n + 1) cap)) w') : wpList Try.prog ops Q (o :: rest) a w := by
  obtain ⟨i, hi, hz, hsz, hby⟩ := info_parts info_t
  have hr := run_append_room (P := Try.prog) w 97 o.type 92 i u_sT hi g n cap (flat Z).toArray hZ ⟨b, 0, none⟩ 1 m y.cs (by rw [hsz]; rfl) (fun j u hj => by rw [addr_add, Nat.zero_add]; exact hy j u hj) y.one (by omega) (by rw [hsz]; simp [flat_length, TV.cs]; omega)
  rw [hsz] at hr
  refine wpList_plain hgd fun _ hK => ?_
  unfold Oper.wp execOp
  simp only [ho, resolve, invoke, builtin, Sem.run_bind, Sem.run_pure, Result.andThen_ok, List.map_toArray, List.map_cons, List.map_nil, hs, hx, hr]
  refine hK _ _ (h _ ?_ ((Only.refl (S := (· = g)) w).setRow (.inl rfl) _))
  unfold Rw
  rw [← flat_set Z n y hn]
  exact setRow_heap w g _ _ _ _ hZ
/-- the rest of a row cleared -/
theorem run_clear (w : World) (g k n cap : Nat) (Z : List TV) (hZ : Rw w g Z) (hk : k + n ≤ Z.length) (ty : TypeId) : ∃ w', (Builtin.clear_ #[97] ty #[.slice (some ⟨g, k * 4, none⟩) n cap]).run Try.prog w = .ok (.tuple #[]) w' ∧ Only (· = g) w w' ∧ ∃ Z', Rw w' g Z' ∧ Z'.length = Z.length ∧ Z'.take k = Z.take k := by
  obtain ⟨i, hi, hz, hsz, hby⟩ := info_parts info_t
  rcases Nat.eq_zero_or_pos n with rfl | h0
  · refine ⟨w, ?_, Only.refl w, Z, hZ, rfl, rfl⟩
    simp [Builtin.clear_, run_underlying u_sT]
  · have hzz := zeros_flat _ rfl n
    have hst := run_storeCells_at Try.prog g (k * 4) 92 (flat (List.replicate n TV.zero)) 0 (flat Z).toArray w hZ (by simp [flat_length]; omega) (flat_one' _)
    rw [show (flat Z).toArray.toList = flat Z from rfl, flat_length, List.length_replicate, Nat.add_zero, ← Nat.add_mul, flat_take, flat_drop, ← flat_append, ← flat_append] at hst
    refine ⟨w.setRow g (flat (Z.take k ++ List.replicate n TV.zero ++ Z.drop (k + n))).toArray, ?_, (Only.refl (S := (· = g)) w).setRow (.inl rfl) _, Z.take k ++ List.replicate n TV.zero ++ Z.drop (k + n), setRow_heap w g _ _ _ _ hZ, by simp; omega, ?_⟩
    · obtain ⟨n', rfl⟩ : ∃ n', n = n' + 1 := ⟨n - 1, by omega⟩
      have hzr : (Builtin.zeroCells #[Value.int IntKind.i64 0, Value.int IntKind.u64 0, Value.int IntKind.u64 0, Value.int IntKind.i64 0] (n' + 1)).toList = flat (List.replicate (n' + 1) TV.zero) := by
        unfold Builtin.zeroCells
        show (Array.map _ (Array.range ((n' + 1) * 4))).toList = _
        exact (congrArg Array.toList hzz)
      simp [Builtin.clear_, run_underlying u_sT, zeroValue, typeInfo, hi, hz, Value.cells, hzr, hst]
    · rw [List.append_assoc, List.take_append_of_le_length (by simp; omega), List.take_take, Nat.min_self]
end Go.Proofs.Ytdncendokbjnjaa.E
namespace Go.Proofs.Ytdncendokbjnjaa.E
open Go.Proofs.Ytdncendokbjnjaa.C
open Go.RowKit
set_option linter.unusedVariables false
set_option maxRecDepth 100000

theorem take_succ_filter (Z : List TV) (K : TV → Bool) (i : Nat) (x : TV) (h : Z[i]? = some x) : (Z.take (i + 1)).filter K = (Z.take i).filter K ++ (if K x = true then [x] else []) := by
  rw [List.take_add_one, h, List.filter_append]
  simp [List.filter_cons]
theorem filter_le (Z : List TV) (K : TV → Bool) (i : Nat) : ((Z.take i).filter K).length ≤ i := Nat.le_trans (List.length_filter_le _ _) (by simp; omega)
set_option maxHeartbeats 1000000 in
theorem c_keep (w : World) (g n room : Nat) (Z : List TV) (hZ : Rw w g Z) (hl : Z.length = room) (hn : n ≤ room) (h64 : room ≤ 64) (N : FuncId) (caps : Array Value) (K : TV → Bool)
    (e0 : ∀ args w, (callFunc N args).run Try.prog w = .ok (.enter N args) w)
    (hK : ∀ wr x, Only (· = g) w wr → Calls Try.prog N (#[x.ag] ++ caps) wr fun e w' => e = .returned (.bool (K x)) ∧ Below wr.heap.size wr w') :
    Calls Try.prog 150 #[.slice (some ⟨g, 0, none⟩) n room, .func (.func N) #[] caps] w fun e w' => e = .returned (.slice (some ⟨g, 0, none⟩) ((Z.take n).filter K).length room) ∧ Only (· = g) w w' ∧ ∃ Z', Rw w' g Z' ∧ Z'.length = room ∧ Z'.take ((Z.take n).filter K).length = (Z.take n).filter K := by
  have HZ := hid hZ
  have HK := hid hK
  clear hZ hK
  go_enter Try.func150, Try.ntmps150
  go_wp2_with fail
  go_loopw [5, 12] (fun s i wr => ∃ (k : Nat) (Y : List TV), k ≤ n ∧ i = .int .i64 k ∧ s = .slice (some ⟨g, 0, none⟩) ((Z.take k).filter K).length room ∧ Rw wr g Y ∧ Y.length = room ∧ Y.take ((Z.take k).filter K).length = (Z.take k).filter K ∧ (∀ j, k ≤ j → Y[j]? = Z[j]?) ∧ Only (· = g) w wr) (fun _ i _ => n - (intOf i).toNat)
  case atStart => exact ⟨0, Z, by omega, rfl, by simp, HZ.out, hl, by simp, fun _ _ => rfl, Only.refl w⟩
  case round =>
    obtain ⟨k, Y, hk, rfl, rfl, hY, hYl, hYt, hYr, ho⟩ := hrel
    have HY := hid hY
    have HYt := hid hYt
    have HYr := hid hYr
    have HO := hid ho
    have hfl := filter_le Z K k
    have HF := hid hfl
    obtain ⟨m, hm⟩ : ∃ m, ((Z.take k).filter K).length = m := ⟨_, rfl⟩
    rw [hm] at HYt hfl ⊢
    have HMm := hid hm
    clear hY hYt hYr ho hm HF
    by_cases hlt : k < n
    · obtain ⟨x, hx⟩ : ∃ x, Z[k]? = some x := ⟨_, List.getElem?_eq_getElem (by omega)⟩
      have HX := hid hx
      obtain ⟨x0, x1, x2, x3⟩ := HY.out.cs ((HYr.out k (Nat.le_refl _)).trans hx)
      have HS := hid (take_succ_filter Z K k x hx)
      clear hx
      cases hb : K x
      · go_wp2_with (refine (HK.out _ x (HO.out.alloc _)).mono ?_; rintro e w1 ⟨rfl, hb1⟩; have HB1 := hid hb1; clear hb1)
        go_roundw
        case rel =>
          have e1 : (Z.take (k + 1)).filter K = (Z.take k).filter K := by rw [HS.out, hb]; simp
          exact ⟨k + 1, Y, by omega, by go_num, by rw [e1, HMm.out], (show Rw (wr.alloc _) g Y from (Below.heap_alloc wr _ _ HY.out.lt).trans HY.out).below HB1.out, hYl, by rw [e1, HMm.out]; exact HYt.out, fun j hj => HYr.out j (by omega), (HO.out.alloc _).trans (.ofBelow HB1.out)⟩
        case measure => simp [intOf]; omega
      · have HA : Hid (∀ w1, Below (wr.alloc (Obj.cells x.cs.toArray 92)).heap.size (wr.alloc (Obj.cells x.cs.toArray 92)) w1 → Rw w1 wr.heap.size [x]) := fun w1 hb1 => (hb1.block _ (by simp)).trans (by unfold TV.cs; rw [heap_alloc_new]; simp [flat, TV.cs])
        go_wp2_with (first
          | (refine (HK.out _ x (HO.out.alloc _)).mono ?_; rintro e w1 ⟨rfl, hb1⟩; have HB1 := hid hb1; have HR := hid (HA.out w1 hb1); obtain ⟨y0, y1, y2, y3⟩ := Rw.cs HR.out (i := 0) (x := x) rfl; simp only [Nat.zero_mul, Nat.zero_add] at y0 y1 y2 y3; have HY1 := hid ((show Rw (wr.alloc _) g Y from (Below.heap_alloc wr _ _ HY.out.lt).trans HY.out).below hb1); clear hb1)
          | (at_builtin; refine wpL_append rfl _ _ rfl g m room Y rfl ((Below.heap_alloc w1 _ _ HY1.out.lt).trans HY1.out) (by omega) (by omega) w1.heap.size 1 x rfl (by
              intro j u hj
              unfold TV.cs at hj
              match j, hj with
              | 0, hj => simp at hj; subst hj; simp
              | 1, hj => simp at hj; subst hj; simp
              | 2, hj => simp at hj; subst hj; simp
              | 3, hj => simp at hj; subst hj; simp) ?_; intro w2 hY2 ho2; have HY2 := hid hY2; have HO2 := hid ho2; clear hY2 ho2))
        go_roundw
        case rel =>
          have e1 : (Z.take (k + 1)).filter K = (Z.take k).filter K ++ [x] := by rw [HS.out, hb]; simp
          have e2 : ((Z.take (k + 1)).filter K).length = m + 1 := by rw [e1, List.length_append, HMm.out]; rfl
          refine ⟨k + 1, Y.set m x, by omega, by go_num, by rw [e2], HY2.out, by simpa using hYl, ?_, fun j hj => ?_, ?_⟩
          · rw [e2, e1, ← HYt.out, List.take_add_one, List.getElem?_set_self (by omega), List.take_set_of_le (Nat.le_refl _)]; rfl
          · rw [List.getElem?_set_ne (by omega)]; exact HYr.out j (by omega)
          · exact ((HO.out.alloc _).trans (.ofBelow HB1.out)).trans ((Only.refl (S := (· = g)) w1).alloc _ |>.trans HO2.out)
        case measure => simp [intOf]; omega
    · obtain rfl : k = n := by omega
      by_cases hrm : room = m
      · obtain rfl := hrm
        obtain rfl : k = room := by omega
        have hr0 : (Builtin.clear_ #[97] 0 #[.slice (some ⟨g, 0, none⟩) 0 0]).run Try.prog wr = .ok (.tuple #[]) wr := by simp [Builtin.clear_, run_underlying u_sT]
        go_wp2_with fail
        go_ret
        exact ⟨by rw [HMm.out]; rfl, HO.out, Y, HY.out, hYl, by rw [HMm.out, HYt.out]⟩
      · obtain ⟨w2, hr, ho2, Z2, h1, h2, h3⟩ := run_clear wr g m (k - m) (room - m) Y HY.out (by omega) 0
        have HO2 := hid ho2
        have HZ2 := hid h1
        have HL2 := hid h2
        have HT2 := hid h3
        clear ho2 h1 h2 h3
        go_wp2_with fail
        go_ret
        refine ⟨by rw [HMm.out]; rfl, HO.out.trans HO2.out, Z2, HZ2.out, by rw [HL2.out, hYl], by rw [HMm.out, HT2.out, HYt.out]⟩

/-- a TLB as it stands: its struct at p, its row at g -/
structure TM (w : World) (p g room : Nat) (L : List TV) : Prop where
  top : w.heap[p]? = some (.cells #[.int .i64 room, .slice (some ⟨g, 0, none⟩) L.length room] 185 (0, 0))
  row : ∃ Z, Rw w g Z ∧ Z.length = room ∧ Z.take L.length = L
  len : L.length ≤ room
  r0 : 0 < room
  r1 : room ≤ 64
abbrev Ft (p g : Nat) : Nat → Prop := fun k => k = p ∨ k = g
section
variable {w : World} {p g room : Nat} {L : List TV}
theorem TM.lt (h : TM w p g room L) {k : Nat} (hk : Ft p g k) : k < w.heap.size := by
  obtain ⟨Z, hZ, _⟩ := h.row
  rcases hk with rfl | rfl
  · exact lt_of_block h.top
  · exact hZ.lt
theorem TM.ne (h : TM w p g room L) : p ≠ g := by
  obtain ⟨Z, hZ, _⟩ := h.row
  rintro rfl
  have := h.top.symm.trans hZ
  simp at this
theorem TM.only {w' : World} (h : TM w p g room L) {S : Nat → Prop} (ho : Only S w w') (hd : ∀ k, Ft p g k → ¬ S k) : TM w' p g room L := by
  obtain ⟨Z, hZ, h1, h2⟩ := h.row
  exact ⟨ho.old h.top (hd _ (.inl rfl)), ⟨Z, ho.old hZ (hd _ (.inr rfl)), h1, h2⟩, h.len, h.r0, h.r1⟩
theorem TM.below {w' : World} (h : TM w p g room L) (hb : Below w.heap.size w w') : TM w' p g room L := h.only (S := fun _ => False) (.ofBelow hb) fun _ _ q => q
theorem TM.c0 (h : TM w p g room L) : w.cell? ⟨p, 0, none⟩ = some (.int .i64 room) := by rw [cell_of_row w _ 0 _ _ _ h.top]; rfl
theorem TM.c1 (h : TM w p g room L) : w.cell? ⟨p, 1, none⟩ = some (.slice (some ⟨g, 0, none⟩) L.length room) := by rw [cell_of_row w _ 1 _ _ _ h.top]; rfl
theorem TM.z (h : TM w p g room L) (j : Nat) : w.frozen? ⟨p, j, none⟩ = false := frozen_of_row w p j _ _ h.top
end
theorem c_leave (w : World) (p g room : Nat) (L : List TV) (h : TM w p g room L) (N : FuncId) (caps : Array Value) (K : TV → Bool)
    (e0 : ∀ args w, (callFunc N args).run Try.prog w = .ok (.enter N args) w)
    (hK : ∀ wr x, Only (· = g) w wr → Calls Try.prog N (#[x.ag] ++ caps) wr fun e w' => e = .returned (.bool (K x)) ∧ Below wr.heap.size wr w') :
    Calls Try.prog 132 #[.pointer (some ⟨p, 0, none⟩), .func (.func N) #[] caps] w fun e w' => e = .returned (.tuple #[]) ∧ TM w' p g room (L.filter K) ∧ Only (Ft p g) w w' := by
  have hne := h.ne
  obtain ⟨Z, hZ, hl, ht⟩ := h.row
  have c1 := h.c1
  have H := hid h
  have HZ := hid hZ
  have HT := hid ht
  have HKK := hid hK
  have hn := h.len
  have h64 := h.r1
  clear h hZ ht hK
  go_enter Try.func132, Try.ntmps132
  go_wp2_with (go_at_call 150; refine (c_keep _ g L.length room Z HZ.out hl hn h64 N caps K e0 HKK.out).mono ?_; rintro e w1 ⟨rfl, ho, Z', hZ', hl', ht'⟩; have HO := hid ho; have HZ' := hid hZ'; have HL' := hid hl'; have HT' := hid ht'; have hp1 := hid (HO.out.old H.out.top hne); have k1 : w1.cell? ⟨p, 1, none⟩ = some (.slice (some ⟨g, 0, none⟩) L.length room) := (by rw [cell_of_row w1 _ 1 _ _ _ hp1.out]; rfl); have z1 : w1.frozen? ⟨p, 1, none⟩ = false := frozen_of_row w1 _ 1 _ _ hp1.out; clear ho hZ' hl' ht')
  go_returns
  rw [HT.out] at HT'
  refine ⟨rfl, ⟨?_, ⟨Z', (Below.heap_setCell w1 ⟨p, 1, none⟩ _ g (Ne.symm hne)).trans HZ'.out, HL'.out, HT'.out⟩, Nat.le_trans (List.length_filter_le _ _) hn, H.out.r0, h64⟩, ?_⟩
  · rw [heap_setCell_same _ _ 1 _ _ _ hp1.out, HT.out]; rfl
  · exact (HO.out.mono fun k _ q => .inr q).setCell (.inl (.inl rfl)) _
end Go.Proofs.Ytdncendokbjnjaa.E
namespace Go.Proofs.Ytdncendokbjnjaa.E
open Go.Proofs.Ytdncendokbjnjaa.C
open Go.RowKit
set_option linter.unusedVariables false
set_option maxRecDepth 100000

theorem run_makeT (w : World) (n : Nat) (hn : n ≤ 64) : (Instr.makeSlice 97 (.int .i64 0) (.int .i64 (n : Int))).run Try.prog w = .ok (.slice (some ⟨w.heap.size, 0, none⟩) 0 n) (w.alloc (.cells (flat (List.replicate n TV.zero)).toArray 92)) := by
  obtain ⟨i, hi1, hz, hs, hb⟩ := info_parts info_t
  have hr := run_make (P := Try.prog) w 97 92 i _ u_sT hi1 hz .i64 .i64 0 n (by omega) (by omega) (by rw [hb]; omega) (by omega)
  rw [hs] at hr
  have hcs : madeCells (Value.agg #[.int .i64 0, .int .u64 0, .int .u64 0, .int .i64 0]).cells ((n : Int).toNat * 4) = (flat (List.replicate n TV.zero)).toArray := zeros_flat _ rfl n
  rw [hcs] at hr
  simpa using hr
theorem c_New_bad (w : World) (room : Int) (h : room < 1 ∨ 64 < room) : Calls Try.prog 28 #[.int .i64 room] w fun e w' => e = .returned (.tuple #[.pointer none, .int .i64 1]) ∧ w' = w := by
  rcases h with h | h
  · go_enter Try.func28, Try.ntmps28
    go_wp2
    go_returns
    exact ⟨rfl, rfl⟩
  · have h1 : ¬ room < 1 := by omega
    go_enter Try.func28, Try.ntmps28
    go_wp2
    go_returns
    exact ⟨rfl, rfl⟩
theorem c_New (w : World) (room : Nat) (h0 : 0 < room) (h1 : room ≤ 64) (n : Int) (hn : n = room) : Calls Try.prog 28 #[.int .i64 n] w fun e w' => ∃ p g, e = .returned (.tuple #[.pointer (some ⟨p, 0, none⟩), .int .i64 0]) ∧ TM w' p g room [] ∧ Below w.heap.size w w' ∧ ∀ k, Ft p g k → w.heap.size ≤ k := by
  subst hn
  have g1 : ¬ (room : Int) < 1 := by omega
  have g2 : ¬ 64 < (room : Int) := by omega
  have hmk : ∀ W, (Instr.makeSlice 97 (.int .i64 0) (.int .i64 (room : Int))).run Try.prog W = _ := fun W => run_makeT W room h1
  go_enter Try.func28, Try.ntmps28
  go_wp2
  go_returns
  refine ⟨w.heap.size + 1, rfl, w.heap.size, ⟨?_, ⟨List.replicate room TV.zero, ?_, by simp, by simp⟩, by simp, h0, h1⟩, ((Below.refl _ _).alloc (Nat.le_refl _) _).alloc (by simp) _, by omega, by omega⟩
  · exact heap_alloc2_new w _ _
  · exact heap_alloc2_old w _ _
theorem c_f1 (w : World) (b : Nat) (v : Int) (hb : w.cell? ⟨b, 0, none⟩ = some (.int .i64 v)) (hl : b < w.heap.size) (x : TV) : Calls Try.prog 133 #[x.ag, .pointer (some ⟨b, 0, none⟩)] w fun e w' => e = .returned (.bool (!decide (x.v = v))) ∧ Below w.heap.size w w' := by
  go_enter Try.func133, Try.ntmps133
  go_wp2
  go_ret
  exact ⟨by by_cases q : x.v = v <;> simp [q], (Below.refl _ _).alloc (Nat.le_refl _) _⟩
theorem c_f2 (w : World) (b b' : Nat) (v p : Int) (hb : w.cell? ⟨b, 0, none⟩ = some (.int .i64 v)) (hb' : w.cell? ⟨b', 0, none⟩ = some (.int .u64 p)) (hl : b < w.heap.size) (hl' : b' < w.heap.size) (x : TV) : Calls Try.prog 134 #[x.ag, .pointer (some ⟨b, 0, none⟩), .pointer (some ⟨b', 0, none⟩)] w fun e w' => e = .returned (.bool (!x.here v p)) ∧ Below w.heap.size w w' := by
  go_enter Try.func134, Try.ntmps134
  go_wp2_with (go_at_call 135; refine (c_isOf _ x v p).mono ?_; rintro e w1 ⟨rfl, hb1⟩; have HB1 := hid hb1; clear hb1)
  go_ret
  exact ⟨rfl, ((Below.refl _ _).alloc (Nat.le_refl _) _).trans (HB1.out.mono (by simp))⟩
def fl (L : List TV) (v : Int) : List TV := L.filter fun x => !decide (x.v = v)
def fp (L : List TV) (v p : Int) : List TV := L.filter fun x => !x.here v p
theorem c_Flush (w : World) (p g room : Nat) (L : List TV) (h : TM w p g room L) (v : Int) :
    Calls Try.prog 93 #[.pointer (some ⟨p, 0, none⟩), .int .i64 v] w fun e w' => e = .returned (.tuple #[]) ∧ TM w' p g room (fl L v) ∧ Only (Ft p g) w w' := by
  have hgl := h.lt (.inr rfl)
  have H : Hid (TM (w.alloc (.cells #[.int .i64 v] 3)) p g room L) := h.below ((Below.refl _ _).alloc (Nat.le_refl _) _)
  have HK : Hid (∀ wr (x : TV), Only (· = g) (w.alloc (.cells #[.int .i64 v] 3)) wr → Calls Try.prog 133 (#[x.ag] ++ #[.pointer (some ⟨w.heap.size, 0, none⟩)]) wr fun e w' => e = .returned (.bool (!decide (x.v = v))) ∧ Below wr.heap.size wr w') := fun wr (x : TV) ho => by
    have hb := ho.old (heap_alloc_new w _) (show ¬ w.heap.size = g by omega)
    exact c_f1 wr w.heap.size v (by rw [cell_of_row wr _ 0 _ _ _ hb]; rfl) (lt_of_block hb) x
  clear h
  go_enter Try.func93, Try.ntmps93
  go_wp2_with (go_at_call 132; refine (c_leave _ p g room L H.out 133 #[.pointer (some ⟨w.heap.size, 0, none⟩)] (fun x => !decide (x.v = v)) (Try.call133) HK.out).mono ?_; rintro e w1 ⟨rfl, hm, ho⟩; have HM := hid hm; have HO := hid ho; clear hm ho)
  go_returns
  exact ⟨rfl, HM.out, ((Only.refl w).alloc _).trans HO.out⟩
theorem c_FlushPage (w : World) (p g room : Nat) (L : List TV) (h : TM w p g room L) (v pg : Int) :
    Calls Try.prog 95 #[.pointer (some ⟨p, 0, none⟩), .int .i64 v, .int .u64 pg] w fun e w' => e = .returned (.tuple #[]) ∧ TM w' p g room (fp L v pg) ∧ Only (Ft p g) w w' := by
  have hgl := h.lt (.inr rfl)
  have H : Hid (TM ((w.alloc (.cells #[.int .i64 v] 3)).alloc (.cells #[.int .u64 pg] 22)) p g room L) := h.below (((Below.refl _ _).alloc (Nat.le_refl _) _).alloc (by simp) _)
  have HK : Hid (∀ wr (x : TV), Only (· = g) ((w.alloc (.cells #[.int .i64 v] 3)).alloc (.cells #[.int .u64 pg] 22)) wr → Calls Try.prog 134 (#[x.ag] ++ #[.pointer (some ⟨w.heap.size, 0, none⟩), .pointer (some ⟨w.heap.size + 1, 0, none⟩)]) wr fun e w' => e = .returned (.bool (!x.here v pg)) ∧ Below wr.heap.size wr w') := fun wr (x : TV) ho => by
    have hb := ho.old (heap_alloc2_old w _ _) (show ¬ w.heap.size = g by omega)
    have hb' := ho.old (heap_alloc2_new w _ _) (show ¬ w.heap.size + 1 = g by omega)
    exact c_f2 wr w.heap.size (w.heap.size + 1) v pg (by rw [cell_of_row wr _ 0 _ _ _ hb]; rfl) (by rw [cell_of_row wr _ 0 _ _ _ hb']; rfl) (lt_of_block hb) (lt_of_block hb') x
  clear h
  go_enter Try.func95, Try.ntmps95
  go_wp2_with (go_at_call 132; refine (c_leave _ p g room L H.out 134 #[.pointer (some ⟨w.heap.size, 0, none⟩), .pointer (some ⟨w.heap.size + 1, 0, none⟩)] (fun x => !x.here v pg) (Try.call134) HK.out).mono ?_; rintro e w1 ⟨rfl, hm, ho⟩; have HM := hid hm; have HO := hid ho; clear hm ho)
  go_returns
  exact ⟨rfl, HM.out, (((Only.refl w).alloc _).alloc _).trans HO.out⟩
end Go.Proofs.Ytdncendokbjnjaa.E
namespace Go.Proofs.Ytdncendokbjnjaa.E
open Go.Proofs.Ytdncendokbjnjaa.C
open Go.RowKit
set_option linter.unusedVariables false
set_option maxRecDepth 100000

theorem step_call3 {P : Program} {ops : Array Oper} {o : Oper} {a : Act} {w : World} {K : Act → World → Prop} {Q : Exit → Act → World → Prop} {E : Prop} (hw : Region.wanted o (yielded ops a.tmps) = true) (f : FuncId) (x y z : Operand) (ts : Array TypeId)
    (ho : o.op = .call { callee := .value (.func f), args := #[x, y, z], argTypes := ts }) (vx vy vz : Value) (hx : a.eval x = vx) (hy : a.eval y = vy) (hz : a.eval z = vz) (hnf : (callFunc f #[vx, vy, vz]).run P w = .ok (.enter f #[vx, vy, vz]) w) {R : Ending → World → Prop} (hc : Calls P f #[vx, vy, vz] w R)
    (h : ∀ e w', R e w' → ∃ v, e = .returned v ∧ K (a.put o.dst v) w') :
    if Region.wanted o (yielded ops a.tmps) = true then Oper.wp P o a w K Q else E := by
  rw [if_pos hw]
  have he : (execOp a.eval o).run P w = .ok (.enter f #[vx, vy, vz]) w := by
    have hf : a.eval (.func f) = .func (.func f) #[] #[] := rfl
    simp [execOp, ho, resolve, invoke, Deferred.ofValue, hf, hx, hy, hz, hnf]
  unfold Oper.wp
  rw [he, Oper.upon_enter]
  refine hc.mono fun e w' hR => ?_
  obtain ⟨v, rfl, hk⟩ := h e w' hR
  exact hk
theorem step_append {ops : Array Oper} {o : Oper} {a : Act} {w : World} {K : Act → World → Prop} {Q : Exit → Act → World → Prop} {E : Prop} (hgd : o.guard = none) (s x : Operand)
    (ho : o.op = .call { callee := .builtin .append, args := #[s, x], argTypes := #[97, 97] })
    (g n cap : Nat) (Z : List TV) (hs : a.eval s = .slice (some ⟨g, 0, none⟩) n cap) (hZ : Rw w g Z) (hn : n < Z.length) (hc : n < cap)
    (b m : Nat) (y : TV) (hx : a.eval x = .slice (some ⟨b, 0, none⟩) 1 m) (hy : ∀ j u, y.cs[j]? = some u → w.cell? ⟨b, j, none⟩ = some u)
    (h : ∀ w', Rw w' g (Z.set n y) → Only (· = g) w w' → K (a.put o.dst (.slice (some ⟨g, 0, none⟩) (n + 1) cap)) w') : if Region.wanted o (yielded ops a.tmps) = true then Oper.wp Try.prog o a w K Q else E := by
  have hw : Region.wanted o (yielded ops a.tmps) = true := by simp [Region.wanted, hgd]
  rw [if_pos hw]
  obtain ⟨i, hi, hz, hsz, hby⟩ := info_parts info_t
  have hr := run_append_room (P := Try.prog) w 97 o.type 92 i u_sT hi g n cap (flat Z).toArray hZ ⟨b, 0, none⟩ 1 m y.cs (by rw [hsz]; rfl) (fun j u hj => by rw [addr_add, Nat.zero_add]; exact hy j u hj) y.one (by omega) (by rw [hsz]; simp [flat_length, TV.cs]; omega)
  rw [hsz] at hr
  unfold Oper.wp execOp
  simp only [ho, resolve, invoke, builtin, Sem.run_bind, Sem.run_pure, Result.andThen_ok, List.map_toArray, List.map_cons, List.map_nil, hs, hx, hr]
  refine h _ ?_ ((Only.refl (S := (· = g)) w).setRow (.inl rfl) _)
  unfold Rw
  rw [← flat_set Z n y hn]
  exact setRow_heap w g _ _ _ _ hZ
theorem TM.cell {w : World} {p g room : Nat} {L : List TV} (h : TM w p g room L) {i : Nat} {x : TV} (hx : L[i]? = some x) : w.cell? ⟨g, i * 4, none⟩ = some (.int .i64 x.v) ∧ w.cell? ⟨g, i * 4 + 1, none⟩ = some (.int .u64 x.p) ∧ w.cell? ⟨g, i * 4 + 2, none⟩ = some (.int .u64 x.f) ∧ w.cell? ⟨g, i * 4 + 3, none⟩ = some (.int .i64 x.r) := by
  obtain ⟨Z, hZ, h1, h2⟩ := h.row
  refine hZ.cs ?_
  rw [← h2, List.getElem?_take] at hx
  split at hx
  · exact hx
  · cases hx
theorem c_Evict_no (w : World) (p g room : Nat) (L : List TV) (h : TM w p g room L) (i : Int) (hi : i < 0 ∨ (L.length : Int) ≤ i) : Calls Try.prog 96 #[.pointer (some ⟨p, 0, none⟩), .int .i64 i] w fun e w' => e = .returned (.bool false) ∧ w' = w := by
  have c1 := h.c1
  have hl := h.len
  have h64 := h.r1
  clear h
  rcases hi with hi | hi
  · go_enter Try.func96, Try.ntmps96
    go_wp2
    go_ret
    exact ⟨rfl, rfl⟩
  · have h1 : ¬ i < 0 := by omega
    go_enter Try.func96, Try.ntmps96
    go_wp2
    go_ret
    exact ⟨rfl, rfl⟩
set_option maxHeartbeats 1000000 in
theorem c_Evict (w : World) (p g room : Nat) (L : List TV) (h : TM w p g room L) (k : Nat) (x : TV) (hx : L[k]? = some x) (i : Int) (hi : i = k) : Calls Try.prog 96 #[.pointer (some ⟨p, 0, none⟩), .int .i64 i] w fun e w' => e = .returned (.bool true) ∧ TM w' p g room (fp L x.v x.p) ∧ Only (Ft p g) w w' := by
  subst hi
  have c1 := h.c1
  have hk : k < L.length := (List.getElem?_eq_some_iff.1 hx).1
  obtain ⟨x0, x1, x2, x3⟩ := h.cell hx
  have hl := h.len
  have h64 := h.r1
  have H : Hid (TM w.drew p g room L) := h.below (Below.refl _ _).drew
  have g1 : ¬ (k : Int) < 0 := by omega
  have g2 : ¬ (L.length : Int) ≤ k := by omega
  clear h hx
  go_enter Try.func96, Try.ntmps96
  go_wp2_with fail
  go_region_law (refine step_call3 (by simp [Region.wanted]) 95 (.tmp 16) (.tmp 24) (.tmp 32) _ rfl (.pointer (some ⟨p, 0, none⟩)) (.int .i64 x.v) (.int .u64 x.p) (by go_simp) (by go_simp) (by go_simp) (Try.call95 _ _) (c_FlushPage _ p g room L H.out x.v x.p) ?_; rintro e w4 ⟨rfl, hm, ho⟩; have HM := hid hm; have HO := hid ho; clear hm ho; refine ⟨_, rfl, ?_⟩)
  all_goals
    go_wp2_with fail
    go_ret
    exact ⟨rfl, HM.out, (Only.refl w).drew.trans HO.out⟩
/-- what Put leaves -/
def ev (M : List TV) : List TV := match M with | [] => [] | y :: M' => fp (y :: M') y.v y.p
def pu (room : Nat) (L : List TV) (e : TV) : List TV := (if (fp L e.v e.p).length = room then ev (fp L e.v e.p) else fp L e.v e.p) ++ [e]
theorem fp_le (L : List TV) (v p : Int) : (fp L v p).length ≤ L.length := List.length_filter_le _ _
theorem ev_lt {M : List TV} (h : 0 < M.length) : (ev M).length < M.length := by
  cases M with
  | nil => simp at h
  | cons y M =>
    have : (fp (y :: M) y.v y.p) = fp M y.v y.p := by simp [fp, TV.here]
    show (fp (y :: M) y.v y.p).length < _
    rw [this]
    have := fp_le M y.v y.p
    simp; omega
theorem TM.push {w w' : World} {p g room : Nat} {L : List TV} {e : TV} {Z : List TV} (h : TM w p g room L) (hL : L.length < room) (hZ : Rw w g Z) (hl : Z.length = room) (ht : Z.take L.length = L) (h' : Rw w' g (Z.set L.length e)) (ho : Only (· = g) w w') : TM (w'.setCell ⟨p, 1, none⟩ (.slice (some ⟨g, 0, none⟩) (L.length + 1) room)) p g room (L ++ [e]) := by
  have hp := ho.old h.top h.ne
  refine ⟨?_, ⟨Z.set L.length e, (Below.heap_setCell w' ⟨p, 1, none⟩ _ g (Ne.symm h.ne)).trans h', by simpa using hl, ?_⟩, by simp; omega, h.r0, h.r1⟩
  · rw [heap_setCell_same _ _ 1 _ _ _ hp]; simp
  · rw [List.length_append, List.length_singleton, List.take_add_one, List.getElem?_set_self (by omega), List.take_set_of_le (Nat.le_refl _), ht]; rfl
end Go.Proofs.Ytdncendokbjnjaa.E
namespace Go.Proofs.Ytdncendokbjnjaa.E
open Go.Proofs.Ytdncendokbjnjaa.C
open Go.RowKit
set_option linter.unusedVariables false
set_option maxRecDepth 100000

theorem _root_.Go.Proofs.Ytdncendokbjnjaa.C.Only.rw {S : Nat → Prop} {a w : World} (h : Only S a w) {k : Nat} {Z : List TV} (hk : Rw a k Z) (hs : ¬ S k) : Rw w k Z := h.old hk hs
theorem cells1 {w : World} {b : Nat} {x : TV} (h : Rw w b [x]) : w.cell? ⟨b, 0, none⟩ = some (.int .i64 x.v) ∧ w.cell? ⟨b, 1, none⟩ = some (.int .u64 x.p) ∧ w.cell? ⟨b, 2, none⟩ = some (.int .u64 x.f) ∧ w.cell? ⟨b, 3, none⟩ = some (.int .i64 x.r) := by
  have := h.cs (i := 0) (x := x) rfl
  simpa using this
theorem drewN_heap (w : World) (n : Nat) : (w.drewN n).heap = w.heap := by
  first | rfl | (induction n with | zero => rfl | succ n ih => exact ih)
theorem drewN_still (w : World) (n : Nat) : Still w (w.drewN n) := by
  first | exact ⟨rfl, rfl, rfl, rfl⟩ | (induction n with | zero => exact Still.refl w | succ n ih => exact ih.drew)
theorem TM.drewN {w : World} {p g room : Nat} {L : List TV} (h : TM w p g room L) (n : Nat) : TM (w.drewN n) p g room L := h.below ((drewN_still w n).below _)
theorem Rw.drewN {w : World} {g : Nat} {Z : List TV} (h : Rw w g Z) (n : Nat) : Rw (w.drewN n) g Z := h.below ((drewN_still w n).below _)
set_option maxHeartbeats 2000000 in
theorem c_Put (w : World) (p g room : Nat) (L : List TV) (h : TM w p g room L) (e : TV) : Calls Try.prog 34 #[.pointer (some ⟨p, 0, none⟩), e.ag] w fun r w' => r = .returned (.tuple #[]) ∧ TM w' p g room (pu room L e) ∧ Only (Ft p g) w w' := by
  have hpl := h.lt (.inl rfl)
  have hgl := h.lt (.inr rfl)
  have h64 := h.r1
  have h00 := h.r0
  have H : Hid (TM (w.alloc (.cells #[.int .i64 e.v, .int .u64 e.p, .int .u64 e.f, .int .i64 e.r] 92)) p g room L) := h.below ((Below.refl _ _).alloc (Nat.le_refl _) _)
  have HE : Hid (Rw (w.alloc (.cells #[.int .i64 e.v, .int .u64 e.p, .int .u64 e.f, .int .i64 e.r] 92)) w.heap.size [e]) := by show _ = _; rw [heap_alloc_new]; rfl
  have HN : Hid (¬ Ft p g w.heap.size) := by rintro (q | q) <;> omega
  clear h
  by_cases hf : (fp L e.v e.p).length = room
  · have HFU : Hid (pu room L e = ev (fp L e.v e.p) ++ [e]) := by show _ = _; unfold pu; rw [if_pos hf]
    obtain ⟨y, hy⟩ : ∃ y, (fp L e.v e.p)[0]? = some y := ⟨_, List.getElem?_eq_getElem (by omega)⟩
    have HEV : Hid (ev (fp L e.v e.p) = fp (fp L e.v e.p) y.v y.p) := by
      show _ = _
      generalize fp L e.v e.p = M at hy
      cases M with
      | nil => simp at hy
      | cons z M => simp at hy; subst hy; rfl
    have HLT : Hid ((ev (fp L e.v e.p)).length < room) := by have := ev_lt (M := fp L e.v e.p) (by omega); show _ < _; omega
    have HY := hid hy
    generalize hM : fp L e.v e.p = M at *
    have HMM := hid hM
    clear hy hM
    go_enter Try.func34, Try.ntmps34
    go_wp2_with (go_at_call 95; refine (c_FlushPage _ p g room L H.out e.v e.p).mono ?_; rintro r w1 ⟨rfl, hm, ho⟩; rw [HMM.out] at hm; have HM1 := hid hm; have HO1 := hid ho; have HE1 := hid (ho.rw HE.out HN.out); have k0 := hm.c0; have k1 := hm.c1; rw [hf] at k1; clear hm ho)
    go_quiet (fail)
    go_wp2_with (go_at_call 96; refine (c_Evict _ p g room M (HM1.out.drewN _) 0 y HY.out 0 rfl).mono ?_; rintro r w2 ⟨rfl, hm, ho⟩; rw [← HEV.out] at hm; have HM2 := hid hm; have HO2 := hid ho; have HE2 := hid (ho.rw (HE1.out.drewN _) HN.out); have q1 := hm.c1; have q2 := hm.z 1; obtain ⟨y0, y1, y2, y3⟩ := cells1 HE2.out; clear hm ho)
    obtain ⟨Z, hZ, hl, ht⟩ := HM2.out.row
    have HZ := hid hZ
    have HT := hid ht
    have hlt := HLT.out
    have hb2 := HE2.out.lt
    clear hZ ht
    have HP2 := hid (HM2.out.top)
    have hp2 := lt_of_block HP2.out
    go_region_law (refine step_append rfl (.tmp 26) (.tmp 28) rfl g (ev M).length room Z (by go_simp) ((Below.heap_alloc w2.drew _ _ HZ.out.lt).trans HZ.out) (by omega) (by omega) w2.heap.size 1 e (by go_simp) (by
        intro j u hj
        unfold TV.cs at hj
        match j, hj with
        | 0, hj => simp at hj; subst hj; simp
        | 1, hj => simp at hj; subst hj; simp
        | 2, hj => simp at hj; subst hj; simp
        | 3, hj => simp at hj; subst hj; simp) ?_; intro w3 hY3 ho3; have HY3 := hid hY3; have HO3 := hid ho3; have u1 := hid (ho3.old ((Below.heap_alloc w2.drew _ _ (lt_of_block HP2.out)).trans HP2.out) (TM.ne HM2.out)); have v1 : w3.cell? ⟨p, 1, none⟩ = some (.slice (some ⟨g, 0, none⟩) (ev M).length room) := (by rw [cell_of_row w3 _ 1 _ _ _ u1.out]; rfl); have v2 : w3.frozen? ⟨p, 1, none⟩ = false := frozen_of_row w3 _ 1 _ _ u1.out; clear hY3 ho3)
    all_goals
      go_returns
      rw [HFU.out]
      refine ⟨rfl, TM.push (w := (w2.alloc _).drew) (Z := Z) (TM.below HM2.out (((Below.refl _ _).alloc (Nat.le_refl _) _).drew)) hlt (HZ.out.below (((Below.refl _ _).alloc (Nat.le_refl _) _).drew)) hl HT.out HY3.out HO3.out, ?_⟩
      exact ((((Only.refl w).alloc _).trans HO1.out).trans ((drewN_still w1 nq).only.trans HO2.out)).trans' (((Only.refl w2).alloc _).drew.trans (HO3.out.mono (T := (· = g)) fun _ _ q => q)) (fun _ _ q => .inr q) |>.setCell (.inl (.inl rfl)) _
  · have HFU : Hid (pu room L e = fp L e.v e.p ++ [e]) := by show _ = _; unfold pu; rw [if_neg hf]
    have hle := fp_le L e.v e.p
    have hln := H.out.len
    generalize hM : fp L e.v e.p = M at *
    have HMM := hid hM
    clear hM
    have hlt : M.length < room := by omega
    go_enter Try.func34, Try.ntmps34
    go_wp2_with (go_at_call 95; refine (c_FlushPage _ p g room L H.out e.v e.p).mono ?_; rintro r w1 ⟨rfl, hm, ho⟩; rw [HMM.out] at hm; have HM1 := hid hm; have HO1 := hid ho; have HE1 := hid (ho.rw HE.out HN.out); have k0 := hm.c0; have k1 := hm.c1; have k2 := hm.z 1; obtain ⟨y0, y1, y2, y3⟩ := cells1 HE1.out; clear hm ho)
    go_quiet (fail)
    go_wp2_with fail
    obtain ⟨w2, hw2⟩ : ∃ w2, w2 = w1.drewN nq := ⟨_, rfl⟩
    have HM2 : Hid (TM w2 p g room M) := by rw [hw2]; exact HM1.out.drewN nq
    have HO2 : Hid (Only (Ft p g) w1 w2) := by rw [hw2]; exact (drewN_still w1 nq).only
    have HE2 : Hid (Rw w2 w.heap.size [e]) := by rw [hw2]; exact HE1.out.drewN nq
    rw [← hw2]
    have q1 := HM2.out.c1
    have q2 := HM2.out.z 1
    clear hw2 k0 k1 k2 y0 y1 y2 y3
    obtain ⟨y0, y1, y2, y3⟩ := cells1 HE2.out
    obtain ⟨Z, hZ, hl, ht⟩ := HM2.out.row
    have HZ := hid hZ
    have HT := hid ht
    have hb2 := HE2.out.lt
    clear hZ ht
    have HP2 := hid (HM2.out.top)
    have hp2 := lt_of_block HP2.out
    go_region_law (refine step_append rfl (.tmp 26) (.tmp 28) rfl g M.length room Z (by go_simp) ((Below.heap_alloc w2.drew _ _ HZ.out.lt).trans HZ.out) (by omega) (by omega) w2.heap.size 1 e (by go_simp) (by
        intro j u hj
        unfold TV.cs at hj
        match j, hj with
        | 0, hj => simp at hj; subst hj; simp
        | 1, hj => simp at hj; subst hj; simp
        | 2, hj => simp at hj; subst hj; simp
        | 3, hj => simp at hj; subst hj; simp) ?_; intro w3 hY3 ho3; have HY3 := hid hY3; have HO3 := hid ho3; have u1 := hid (ho3.old ((Below.heap_alloc w2.drew _ _ (lt_of_block HP2.out)).trans HP2.out) (TM.ne HM2.out)); have v1 : w3.cell? ⟨p, 1, none⟩ = some (.slice (some ⟨g, 0, none⟩) M.length room) := (by rw [cell_of_row w3 _ 1 _ _ _ u1.out]; rfl); have v2 : w3.frozen? ⟨p, 1, none⟩ = false := frozen_of_row w3 _ 1 _ _ u1.out; clear hY3 ho3)
    all_goals
      go_returns
      rw [HFU.out]
      refine ⟨rfl, TM.push (w := (w2.alloc _).drew) (Z := Z) (TM.below HM2.out (((Below.refl _ _).alloc (Nat.le_refl _) _).drew)) hlt (HZ.out.below (((Below.refl _ _).alloc (Nat.le_refl _) _).drew)) hl HT.out HY3.out HO3.out, ?_⟩
      exact ((((Only.refl w).alloc _).trans HO1.out).trans (HO2.out)).trans' (((Only.refl w2).alloc _).drew.trans (HO3.out.mono (T := (· = g)) fun _ _ q => q)) (fun _ _ q => .inr q) |>.setCell (.inl (.inl rfl)) _
end Go.Proofs.Ytdncendokbjnjaa.E
namespace Go.Proofs.Ytdncendokbjnjaa.E
open Go.Proofs.Ytdncendokbjnjaa.C
open Go.RowKit
set_option linter.unusedVariables false
set_option maxRecDepth 100000

def lk (L : List TV) (v p : Int) : TV × Bool := match L.find? (fun x => x.here v p) with | some x => (x, true) | none => (TV.zero, false)
theorem lk_some {L : List TV} {v p : Int} {k : Nat} {x : TV} (hx : L[k]? = some x) (h : x.here v p = true) (hn : ∀ j y, j < k → L[j]? = some y → y.here v p = false) : lk L v p = (x, true) := by
  have : L.find? (fun x => x.here v p) = some x := by
    induction L generalizing k with
    | nil => simp at hx
    | cons z L ih =>
      cases k with
      | zero => simp at hx; subst hx; simp [List.find?, h]
      | succ k =>
        have := hn 0 z (by omega) rfl
        rw [List.find?, this]
        exact ih (by simpa using hx) (fun j y hj hy => hn (j + 1) y (by omega) (by simpa using hy))
  unfold lk
  rw [this]
theorem lk_none {L : List TV} {v p : Int} (hn : ∀ (j : Nat) (y : TV), L[j]? = some y → y.here v p = false) : lk L v p = (TV.zero, false) := by
  have : L.find? (fun x => x.here v p) = none := by
    rw [List.find?_eq_none]
    intro x hx
    obtain ⟨j, hj⟩ := List.mem_iff_getElem?.1 hx
    rw [hn j x hj]; decide
  unfold lk
  rw [this]
theorem set4 {w : World} {b : Nat} {x : TV} (h : Rw w b [x]) (y : TV) : Rw ((((w.setCell ⟨b, 0, none⟩ (.int .i64 y.v)).setCell ⟨b, 1, none⟩ (.int .u64 y.p)).setCell ⟨b, 2, none⟩ (.int .u64 y.f)).setCell ⟨b, 3, none⟩ (.int .i64 y.r)) b [y] := by
  have h0 := heap_setCell_same w b 0 _ 92 (.int .i64 y.v) h
  have h1 := heap_setCell_same _ b 1 _ 92 (.int .u64 y.p) h0
  have h2 := heap_setCell_same _ b 2 _ 92 (.int .u64 y.f) h1
  have h3 := heap_setCell_same _ b 3 _ 92 (.int .i64 y.r) h2
  exact h3.trans (by simp [flat, TV.cs])
theorem below4 {B : Nat} {w0 w : World} (h : Below B w0 w) {b : Nat} (hb : B ≤ b) (y : TV) : Below B w0 ((((w.setCell ⟨b, 0, none⟩ (.int .i64 y.v)).setCell ⟨b, 1, none⟩ (.int .u64 y.p)).setCell ⟨b, 2, none⟩ (.int .u64 y.f)).setCell ⟨b, 3, none⟩ (.int .i64 y.r)) :=
  (((h.setCell (p := ⟨b, 0, none⟩) hb _).setCell (p := ⟨b, 1, none⟩) hb _).setCell (p := ⟨b, 2, none⟩) hb _).setCell (p := ⟨b, 3, none⟩) hb _
/-- a list of entries in memory of its own -/
def Es (w : World) (base : Nat) (v : Value) (L : List TV) : Prop := w.ownsRow base 92 4 v L.length (flat L)
theorem eq_nil (w : World) (a : Option Addr) (l c : Nat) : (binOp .eql 97 (.slice a l c) (.slice none 0 0)).run Try.prog w = .ok (.bool a.isNone) w := by
  simp only [binOp]
  simp [run_equal_slice_nil w 97 92 a l c u_sT]
theorem c_Clone (w : World) (g n cap : Nat) (L Z : List TV) (hZ : Rw w g Z) (ht : Z.take n = L) (hn : L.length = n) (h64 : n ≤ 64) (hc : n ≤ cap) : Calls Try.prog 98 #[.slice (some ⟨g, 0, none⟩) n cap] w fun e w' => ∃ v, e = .returned v ∧ Es w' w.heap.size v L ∧ Below w.heap.size w w' := by
  obtain ⟨i0, hi, hz0, hz1, hz2⟩ := info_parts info_t
  have hne := eq_nil
  have HZ := hid hZ
  have HT := hid ht
  have HC : Hid (∀ (o : Obj) j u, (flat L)[j]? = some u → (w.alloc o).cell? ((⟨g, 0, none⟩ : Addr).add j) = some u) := fun o j u hu => by
    rw [addr_add, Nat.zero_add, cell_of_row (w.alloc o) g j _ _ _ ((Below.heap_alloc w _ _ HZ.out.lt).trans HZ.out)]
    rw [← HT.out, ← flat_take, List.getElem?_take] at hu
    split at hu
    · simpa using hu
    · cases hu
  clear hZ ht
  go_enter Try.func98, Try.ntmps98
  go_wp2_with (at_builtin; refine wpList_append_own _ rfl _ _ 97 rfl w.heap.size 92 i0 (.agg #[.int .i64 0, .int .u64 0, .int .u64 0, .int .i64 0]) 4 32 u_sT hi hz0 hz1 hz2 rfl (by decide) _ 0 [] rfl (World.ownsRow_lit w #[] 0 (Nat.le_refl _) (by decide) rfl) ⟨g, 0, none⟩ n cap (flat L) rfl (by rw [flat_length, hn]) (HC.out _) (flat_one' _) (by unfold maxLen; omega) (by omega) (by simp) ?_; intro v' w2 hown hgrow _; have HO3 := hid hown; have HG3 := hid hgrow; clear hown hgrow)
  go_ret
  have e1 := HO3.out
  rw [Nat.zero_add, List.nil_append, ← hn] at e1
  refine ⟨v', rfl, e1, ((Below.refl _ _).alloc (Nat.le_refl _) _).grown HG3.out (by simp) (fun r q => ?_)⟩
  obtain rfl : w.heap.size = r := by simpa [Value.ownBlock, Act.eval] using q
  exact Nat.le_refl _
theorem c_Entries (w : World) (p g room : Nat) (L : List TV) (h : TM w p g room L) : Calls Try.prog 37 #[.pointer (some ⟨p, 0, none⟩)] w fun e w' => ∃ v, e = .returned v ∧ Es w' w.heap.size v L ∧ Below w.heap.size w w' := by
  obtain ⟨Z, hZ, hl, ht⟩ := h.row
  have HZ := hid hZ
  have HT := hid ht
  have c1 := h.c1
  have h64 := h.r1
  have hn := h.len
  clear h hZ ht
  go_enter Try.func37, Try.ntmps37
  go_wp2_with (go_at_call 98; refine (c_Clone _ g L.length room L Z HZ.out HT.out rfl (by omega) hn).mono ?_; rintro e w1 ⟨v, rfl, he, hb⟩; have HE := hid he; have HB := hid hb; clear he hb)
  go_ret
  exact ⟨v, rfl, HE.out, HB.out⟩
/-- a list of entries that can be read -/
def Rd (w : World) (v : Value) (L : List TV) : Prop := ∃ ad cap, v = .slice ad L.length cap ∧ ∀ i x, L[i]? = some x → ∃ g, ad = some ⟨g, 0, none⟩ ∧ g < w.heap.size ∧ w.cell? ⟨g, i * 4, none⟩ = some (.int .i64 x.v) ∧ w.cell? ⟨g, i * 4 + 1, none⟩ = some (.int .u64 x.p) ∧ w.cell? ⟨g, i * 4 + 2, none⟩ = some (.int .u64 x.f) ∧ w.cell? ⟨g, i * 4 + 3, none⟩ = some (.int .i64 x.r)
theorem Rd.below {w w' : World} {v : Value} {L : List TV} (h : Rd w v L) (hb : Below w.heap.size w w') : Rd w' v L := by
  obtain ⟨ad, cap, rfl, hc⟩ := h
  refine ⟨ad, cap, rfl, fun i x hx => ?_⟩
  obtain ⟨g, e, hg, h0⟩ := hc i x hx
  have e1 : ∀ o, w'.cell? ⟨g, o, none⟩ = w.cell? ⟨g, o, none⟩ := fun o => World.cell?_of_block (w := w) (hb.block g hg)
  refine ⟨g, e, Nat.lt_of_lt_of_le hg hb.size, ?_⟩
  rw [e1, e1, e1, e1]; exact h0
theorem Es.rd {w : World} {base : Nat} {v : Value} {L : List TV} (h : Es w base v L) : Rd w v L := by
  rcases h.2 with ⟨rfl, hn⟩ | ⟨g, cap, cur, rfl, hbg, hg, hnc, hcm, hcs, ht⟩
  · obtain rfl : L = [] := List.eq_nil_of_length_eq_zero hn
    exact ⟨none, 0, rfl, fun i x hx => by simp at hx⟩
  · refine ⟨_, cap, rfl, fun i x hx => ⟨g, rfl, lt_of_block hg, ?_⟩⟩
    have hi : i < L.length := (List.getElem?_eq_some_iff.1 hx).1
    have e : ∀ j, j < 4 → w.cell? ⟨g, i * 4 + j, none⟩ = x.cs[j]? := fun j hj => by
      rw [cell_of_row w g _ _ _ _ hg, ← flat_get L i x hx j hj, ← ht, List.getElem?_take, if_pos (by omega)]
      simp
    exact ⟨e 0 (by decide), e 1 (by decide), e 2 (by decide), e 3 (by decide)⟩
set_option maxHeartbeats 1000000 in
theorem c_Same (w : World) (a b : Value) (L : List TV) (ha : Rd w a L) (hb : Rd w b L) (hl : L.length ≤ 64) : Calls Try.prog 36 #[a, b] w fun e w' => e = .returned (.bool true) ∧ Still w w' := by
  obtain ⟨ad, ca, rfl, ha⟩ := ha
  obtain ⟨bd, cb, rfl, hb⟩ := hb
  have HA := hid ha
  have HB := hid hb
  have heq := run_eqT
  clear ha hb
  go_enter Try.func36, Try.ntmps36
  go_wp2_with fail
  go_loopw [5] (fun i wr => ∃ (k : Nat), k ≤ L.length ∧ i = .int .i64 k ∧ Still w wr) (fun i _ => L.length - (intOf i).toNat)
  case atStart => exact ⟨0, by omega, rfl, Still.refl w⟩
  case round =>
    obtain ⟨k, hk, rfl, hs⟩ := hrel
    have HS := hid hs
    have HC := hid hs.cell
    clear hs
    by_cases hlt : k < L.length
    · obtain ⟨x, hx⟩ : ∃ x, L[k]? = some x := ⟨_, List.getElem?_eq_getElem hlt⟩
      obtain ⟨g, rfl, hg, a0, a1, a2, a3⟩ := HA.out k x hx
      obtain ⟨g', rfl, hg', b0, b1, b2, b3⟩ := HB.out k x hx
      rw [← HC.out] at a0 a1 a2 a3 b0 b1 b2 b3
      have hq := run_eqT x wr
      have hq2 := fun n => run_eqT x (wr.drewN n)
      clear hx
      go_wp2_with fail
      go_quiet (fail)
      go_wp2_with fail
      go_roundw
      case rel => exact ⟨k + 1, by omega, by go_num, ⟨HS.out.heap, HS.out.os, HS.out.tape, HS.out.output⟩⟩
      case measure => simp [intOf]; omega
    · obtain rfl : k = L.length := by omega
      go_wp2_with fail
      go_ret
      exact ⟨rfl, HS.out⟩
end Go.Proofs.Ytdncendokbjnjaa.E
namespace Go.Proofs.Ytdncendokbjnjaa.E
open Go.Proofs.Ytdncendokbjnjaa.C
open Go.RowKit
set_option linter.unusedVariables false
set_option maxRecDepth 100000

def xa : TV := ⟨1, 5, 9, 2⟩
theorem pu_xa : pu 2 [] xa = [xa] := rfl
theorem lk_xa : lk [xa] 1 5 = (xa, true) := by rfl
end Go.Proofs.Ytdncendokbjnjaa.E
namespace Go.Proofs.Ytdncendokbjnjaa.E
open Go.Proofs.Ytdncendokbjnjaa.C
open Go.ChangeShapes Go.WideShapes Go.ChangeAt Go.RowKit Go.Deep
set_option linter.unusedVariables false
set_option maxRecDepth 100000

set_option maxRecDepth 100000 in
theorem own : ownKnob Try.prog.godebug = none := by kernel_rfl
set_option maxRecDepth 100000 in
theorem laidOut_prog : laidOutB Try.prog = true := by kernel_rfl
structure OpV where
  kind : Int
  n : Int
  e : TV
structure Sc (w : World) (ad : Option Addr) (la cap ab ao : Nat) (X : Nat → OpV) : Prop where
  len : la ≤ cap
  cap : cap ≤ 9223372036854775807
  at0 : 0 < la → ad = some ⟨ab, ao, none⟩ ∧ ab < w.heap.size
  cell : ∀ i, i < la → w.cell? ⟨ab, ao + i * 6, none⟩ = some (.int .i64 (X i).kind) ∧ w.cell? ⟨ab, ao + i * 6 + 1, none⟩ = some (.int .i64 (X i).n) ∧ w.cell? ⟨ab, ao + i * 6 + 2, none⟩ = some (.int .i64 (X i).e.v) ∧ w.cell? ⟨ab, ao + i * 6 + 3, none⟩ = some (.int .u64 (X i).e.p) ∧ w.cell? ⟨ab, ao + i * 6 + 4, none⟩ = some (.int .u64 (X i).e.f) ∧ w.cell? ⟨ab, ao + i * 6 + 5, none⟩ = some (.int .i64 (X i).e.r)
  num : ∀ i, i < la → -9223372036854775808 ≤ (X i).kind ∧ (X i).kind ≤ 9223372036854775807
theorem Sc.below {w w' : World} {ad : Option Addr} {la cap ab ao : Nat} {X : Nat → OpV} (h : Sc w ad la cap ab ao X) (hb : Below w.heap.size w w') : Sc w' ad la cap ab ao X :=
  ⟨h.len, h.cap, fun q => ⟨(h.at0 q).1, Nat.lt_of_lt_of_le (h.at0 q).2 hb.size⟩, fun i hi => by
    have hlt := (h.at0 (by omega)).2
    have e : ∀ o, w'.cell? ⟨ab, o, none⟩ = w.cell? ⟨ab, o, none⟩ := fun o => World.cell?_of_block (w := w) (hb.block _ hlt)
    rw [e, e, e, e, e, e]; exact h.cell i hi, h.num⟩
theorem cells_t : Try.prog.cellsOf 92 = 4 := by kernel_rfl
theorem cells_i : Try.prog.cellsOf 3 = 1 := by kernel_rfl
theorem cells_u : Try.prog.cellsOf 22 = 1 := by kernel_rfl
theorem addr_two (a : Addr) (i j : Nat) : (a.add i).add j = a.add (i + j) := by
  unfold Addr.add
  by_cases hi : i = 0
  · subst hi; simp
  · by_cases hj : j = 0
    · subst hj; simp
    · have : ¬ i + j = 0 := by omega
      simp [hi, hj, Nat.add_assoc]
theorem fldOf {T k : Nat} {t : TypeId} {o : Nat} (h : ((Try.prog.fieldsOf T)[k]?).map (fun f => (f.type, f.offset)) = some (t, o)) : ∃ f, (Try.prog.fieldsOf T)[k]? = some f ∧ f.type = t ∧ f.offset = o := by
  cases hq : (Try.prog.fieldsOf T)[k]? with
  | none => rw [hq] at h; cases h
  | some f => rw [hq] at h; simp at h; exact ⟨f, rfl, h.1, h.2⟩
set_option maxRecDepth 100000 in
theorem open_t {H : Type} {enc : TypeId × Value → H} {W : World} {base fuel : Nat} {cs : List Value} {x : DataW H × List MemPlace} (h : DataW.trod enc Try.prog W base (fun _ => true) true fuel 92 cs = some x) : ∃ e : TV, cs = e.cs := by
  obtain ⟨xs, n, _, rfl, hcl, hlen, hfs⟩ := DataW.trod_struct under_t h
  have hl : xs.length = 4 := by rw [hlen]; kernel_rfl
  rw [cells_t] at hcl
  have get : ∀ (k : Nat) (t : TypeId), k < 4 → ((Try.prog.fieldsOf 92)[k]?).map (fun f => (f.type, f.offset)) = some (t, k) → Try.prog.cellsOf t = 1 → ∃ y, DataW.trod enc Try.prog W base (fun _ => true) true n t ((cs.drop k).take 1) = some y := by
    intro k t hk hm hc
    obtain ⟨f, e1, e2, e3⟩ := fldOf hm
    have q := hfs k f e1
    rw [e2, e3, hc, List.getElem?_eq_getElem (by omega)] at q
    exact ⟨_, q⟩
  obtain ⟨y0, q0⟩ := get 0 3 (by omega) (by kernel_rfl) cells_i
  obtain ⟨y1, q1⟩ := get 1 22 (by omega) (by kernel_rfl) cells_u
  obtain ⟨y2, q2⟩ := get 2 22 (by omega) (by kernel_rfl) cells_u
  obtain ⟨y3, q3⟩ := get 3 3 (by omega) (by kernel_rfl) cells_i
  obtain ⟨z0, r0, _, w0⟩ := DataW.trod_int Try.underlying3 q0
  obtain ⟨z1, r1, _, w1⟩ := DataW.trod_int Try.underlying22 q1
  obtain ⟨z2, r2, _, w2⟩ := DataW.trod_int Try.underlying22 q2
  obtain ⟨z3, r3, _, w3⟩ := DataW.trod_int Try.underlying3 q3
  obtain ⟨c0, c1, c2, c3, rfl⟩ : ∃ c0 c1 c2 c3, cs = [c0, c1, c2, c3] := by
    match cs, hcl with
    | [c0, c1, c2, c3], _ => exact ⟨c0, c1, c2, c3, rfl⟩
  simp at r0 r1 r2 r3
  subst r0 r1 r2 r3
  exact ⟨⟨z0, z1, z2, z3⟩, rfl⟩
end Go.Proofs.Ytdncendokbjnjaa.E
