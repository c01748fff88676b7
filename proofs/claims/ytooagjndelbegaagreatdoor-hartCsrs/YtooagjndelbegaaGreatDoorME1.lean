/- Entries of a TLB as they stand in memory, four cells each; what the small functions answer. -/
import Derived.Test.YtooagjndelbegaaGreatDoorProg
import Derived.Test.YtooagjndelbegaaGreatDoorMC1
import Derived.BigQuiet
import Derived.Handy
namespace Go.Proofs.YtooagjndelbegaaGreatDoor.E
open Go.Proofs.YtooagjndelbegaaGreatDoor.C
open Go.RowKit
set_option linter.unusedVariables false
set_option maxRecDepth 100000

structure TV where
  v : Int
  p : Int
  f : Int
  r : Int
def TV.zero : TV := ⟨0, 0, 0, 0⟩
def TV.cs (x : TV) : List Value := [.int .i64 x.v, .int .u64 x.p, .int .u64 x.f, .int .i64 x.r]
abbrev TV.ag (x : TV) : Value := .agg #[.int .i64 x.v, .int .u64 x.p, .int .u64 x.f, .int .i64 x.r]
def TV.here (x : TV) (v p : Int) : Bool := decide (x.v = v) && decide (x.p = p)
theorem TV.one (x : TV) : ∀ u ∈ x.cs, u.oneCell' = true := by
  intro u hu
  simp [TV.cs] at hu
  rcases hu with rfl | rfl | rfl | rfl <;> rfl
def flat : List TV → List Value
  | [] => []
  | x :: l => x.cs ++ flat l
theorem flat_length (l : List TV) : (flat l).length = l.length * 4 := by
  induction l with
  | nil => rfl
  | cons x l ih => simp [flat, ih, TV.cs]; omega
theorem flat_append (a b : List TV) : flat (a ++ b) = flat a ++ flat b := by
  induction a with
  | nil => rfl
  | cons x l ih => simp [flat, ih]
theorem flat_one (x : TV) : flat [x] = x.cs := by simp [flat]
theorem flat_take (l : List TV) (k : Nat) : (flat l).take (k * 4) = flat (l.take k) := by
  induction l generalizing k with
  | nil => simp [flat]
  | cons x l ih =>
    cases k with
    | zero => simp [flat]
    | succ k =>
      rw [List.take_succ_cons, flat, flat, ← ih k, show (k + 1) * 4 = 4 + k * 4 by omega, List.take_append, show x.cs.length = 4 from rfl, List.take_of_length_le (by show 4 ≤ _; omega)]
      congr 2; omega
theorem flat_drop (l : List TV) (k : Nat) : (flat l).drop (k * 4) = flat (l.drop k) := by
  induction l generalizing k with
  | nil => simp [flat]
  | cons x l ih =>
    cases k with
    | zero => simp [flat]
    | succ k =>
      rw [List.drop_succ_cons, flat, ← ih k, show (k + 1) * 4 = 4 + k * 4 by omega, List.drop_append, show x.cs.length = 4 from rfl, List.drop_of_length_le (by show 4 ≤ _; omega)]
      simp
theorem flat_get (l : List TV) (i : Nat) (x : TV) (h : l[i]? = some x) (j : Nat) (hj : j < 4) : (flat l)[i * 4 + j]? = x.cs[j]? := by
  induction l generalizing i with
  | nil => simp at h
  | cons y l ih =>
    cases i with
    | zero =>
      simp at h
      subst h
      rw [flat, List.getElem?_append_left (by show _ < 4; omega)]
      congr 1; omega
    | succ i =>
      rw [flat, List.getElem?_append_right (by show 4 ≤ _; omega), ← ih i (by simpa using h)]
      congr 1
      show _ - 4 = _
      omega
theorem flat_one' (l : List TV) : ∀ u ∈ flat l, u.oneCell' = true := by
  induction l with
  | nil => intro u hu; simp [flat] at hu
  | cons x l ih =>
    intro u hu
    rw [flat, List.mem_append] at hu
    rcases hu with q | q
    · exact x.one u q
    · exact ih u q
theorem flat_inj {a b : List TV} (h : flat a = flat b) : a = b := by
  induction a generalizing b with
  | nil =>
    cases b with
    | nil => rfl
    | cons y b => simp [flat, TV.cs] at h
  | cons x a ih =>
    cases b with
    | nil => simp [flat, TV.cs] at h
    | cons y b =>
      simp [flat, TV.cs] at h
      obtain ⟨h1, h2, h3, h4, h5⟩ := h
      cases x; cases y
      simp at h1 h2 h3 h4
      subst h1 h2 h3 h4
      rw [ih h5]
theorem flat_set (l : List TV) (k : Nat) (x : TV) (h : k < l.length) : (flat l).take (k * 4) ++ x.cs ++ (flat l).drop (k * 4 + x.cs.length) = flat (l.set k x) := by
  rw [flat_take, show k * 4 + x.cs.length = (k + 1) * 4 by show k * 4 + 4 = _; omega, flat_drop, List.set_eq_take_append_cons_drop, if_pos h, flat_append, flat]
  simp
theorem zeros_flat (z : Array Value) (hz : z = #[.int .i64 0, .int .u64 0, .int .u64 0, .int .i64 0]) (n : Nat) : ((Array.range (n * 4)).map fun i => z[i % 4]!) = (flat (List.replicate n TV.zero)).toArray := by
  subst hz
  apply Array.ext'
  apply List.ext_getElem?
  intro m
  rcases Nat.lt_or_ge m (n * 4) with h | h
  · have e := flat_get (List.replicate n TV.zero) (m / 4) TV.zero (by rw [List.getElem?_replicate, if_pos (by omega)]) (m % 4) (Nat.mod_lt _ (by decide))
    rw [show m / 4 * 4 + m % 4 = m by omega] at e
    rw [show (flat (List.replicate n TV.zero)).toArray.toList = flat (List.replicate n TV.zero) from rfl, e]
    simp [h]
    have h4 : m % 4 < 4 := Nat.mod_lt _ (by decide)
    generalize m % 4 = q at h4
    match q, h4 with
    | 0, _ => rfl
    | 1, _ => rfl
    | 2, _ => rfl
    | 3, _ => rfl
  · rw [List.getElem?_eq_none (by simpa using h), List.getElem?_eq_none (by simpa [flat_length] using h)]
theorem info_t : (Tryz.prog.info? 81).map (fun i => (i.zero, i.size, i.bytes)) = some (some (.agg #[.int .i64 0, .int .u64 0, .int .u64 0, .int .i64 0]), 4, 32) := by kernel_rfl
theorem u_sT : Tryz.prog.underlying 25 = some (.slice 81) := by kernel_rfl
theorem under_t : Tryz.prog.underlying 81 = some (.struct (Tryz.prog.fieldsOf 81)) := by kernel_rfl
theorem stood_t : Tryz.prog.stoodInHeld 81 = false := by kernel_rfl
set_option maxRecDepth 100000 in
theorem run_eqT (x : TV) (w : World) : (Op.equalIn 10000 81 x.ag x.ag).run Tryz.prog w = .ok true w := by
  rw [run_equalIn_struct w 9999 81 _ _ under_t stood_t]
  go_simp
/-- a row of entries -/
def Rw (w : World) (g : Nat) (Z : List TV) : Prop := w.heap[g]? = some (.cells (flat Z).toArray 81 (0, 0))
section
variable {w : World} {g : Nat} {Z : List TV}
theorem Rw.lt (h : Rw w g Z) : g < w.heap.size := lt_of_block h
theorem Rw.below {w' : World} (h : Rw w g Z) (hb : Below w.heap.size w w') : Rw w' g Z := (hb.block g h.lt).trans h
theorem Rw.z (h : Rw w g Z) (j : Nat) : w.frozen? ⟨g, j, none⟩ = false := frozen_of_row w g j _ _ h
theorem Rw.cell (h : Rw w g Z) {i : Nat} {x : TV} (hx : Z[i]? = some x) (j : Nat) (hj : j < 4) : w.cell? ⟨g, i * 4 + j, none⟩ = x.cs[j]? := by
  rw [cell_of_row w g _ _ _ _ h]
  simpa using flat_get Z i x hx j hj
theorem Rw.cs (h : Rw w g Z) {i : Nat} {x : TV} (hx : Z[i]? = some x) : w.cell? ⟨g, i * 4, none⟩ = some (.int .i64 x.v) ∧ w.cell? ⟨g, i * 4 + 1, none⟩ = some (.int .u64 x.p) ∧ w.cell? ⟨g, i * 4 + 2, none⟩ = some (.int .u64 x.f) ∧ w.cell? ⟨g, i * 4 + 3, none⟩ = some (.int .i64 x.r) :=
  ⟨h.cell hx 0 (by decide), h.cell hx 1 (by decide), h.cell hx 2 (by decide), h.cell hx 3 (by decide)⟩
end
theorem c_isOf (w : World) (x : TV) (v p : Int) : Calls Tryz.prog 97 #[x.ag, .int .i64 v, .int .u64 p] w fun e w' => e = .returned (.bool (x.here v p)) ∧ Below w.heap.size w w' := by
  obtain ⟨a, b, c, d⟩ := x
  unfold TV.here
  simp only []
  by_cases h1 : a = v <;> by_cases h2 : b = p
  all_goals
    go_enter Tryz.func97, Tryz.ntmps97
    go_wp2
    go_ret
    exact ⟨by simp [h1, h2], (Below.refl _ _).alloc (Nat.le_refl _) _⟩
end Go.Proofs.YtooagjndelbegaaGreatDoor.E
namespace Go.Proofs.YtooagjndelbegaaGreatDoor.E
open Go.Proofs.YtooagjndelbegaaGreatDoor.C
open Go.RowKit
set_option linter.unusedVariables false
set_option maxRecDepth 100000

/-- an entry more where there is room, as one step -/
theorem wpL_append {ops : Array Oper} {rest : List Oper} {o : Oper} {a : Act} {w : World} {Q : Exit → Act → World → Prop} (hgd : o.guard = none) (s x : Operand)
    (ho : o.op = .call { callee := .builtin .append, args := #[s, x], argTypes := #[25, 25] })
    (g n cap : Nat) (Z : List TV) (hs : a.eval s = .slice (some ⟨g, 0, none⟩) n cap) (hZ : Rw w g Z) (hn : n < Z.length) (hc : n < cap)
    (b m : Nat) (y : TV) (hx : a.eval x = .slice (some ⟨b, 0, none⟩) 1 m) (hy : ∀ j u, y.cs[j]? = some u → w.cell? ⟨b, j, none⟩ = some u)
    (h : ∀ w', Rw w' g (Z.set n y) → Only (· = g) w w' → wpList Tryz.prog ops Q rest (a.put o.dst (.slice (some ⟨g, 0, none⟩) (n + 1) cap)) w') : wpList Tryz.prog ops Q (o :: rest) a w := by
  obtain ⟨i, hi, hz, hsz, hby⟩ := info_parts info_t
  have hr := run_append_room (P := Tryz.prog) w 25 o.type 81 i u_sT hi g n cap (flat Z).toArray hZ ⟨b, 0, none⟩ 1 m y.cs (by rw [hsz]; rfl) (fun j u hj => by rw [addr_add, Nat.zero_add]; exact hy j u hj) y.one (by omega) (by rw [hsz]; simp [flat_length, TV.cs]; omega)
  rw [hsz] at hr
  refine wpList_plain hgd fun _ hK => ?_
  unfold Oper.wp execOp
  simp only [ho, resolve, invoke, builtin, Sem.run_bind, Sem.run_pure, Result.andThen_ok, List.map_toArray, List.map_cons, List.map_nil, hs, hx, hr]
  refine hK _ _ (h _ ?_ ((Only.refl (S := (· = g)) w).setRow (.inl rfl) _))
  unfold Rw
  rw [← flat_set Z n y hn]
  exact setRow_heap w g _ _ _ _ hZ
/-- the rest of a row cleared -/
theorem run_clear (w : World) (g k n cap : Nat) (Z : List TV) (hZ : Rw w g Z) (hk : k + n ≤ Z.length) (ty : TypeId) : ∃ w', (Builtin.clear_ #[25] ty #[.slice (some ⟨g, k * 4, none⟩) n cap]).run Tryz.prog w = .ok (.tuple #[]) w' ∧ Only (· = g) w w' ∧ ∃ Z', Rw w' g Z' ∧ Z'.length = Z.length ∧ Z'.take k = Z.take k := by
  obtain ⟨i, hi, hz, hsz, hby⟩ := info_parts info_t
  rcases Nat.eq_zero_or_pos n with rfl | h0
  · refine ⟨w, ?_, Only.refl w, Z, hZ, rfl, rfl⟩
    simp [Builtin.clear_, run_underlying u_sT]
  · have hzz := zeros_flat _ rfl n
    have hst := run_storeCells_at Tryz.prog g (k * 4) 81 (flat (List.replicate n TV.zero)) 0 (flat Z).toArray w hZ (by simp [flat_length]; omega) (flat_one' _)
    rw [show (flat Z).toArray.toList = flat Z from rfl, flat_length, List.length_replicate, Nat.add_zero, ← Nat.add_mul, flat_take, flat_drop, ← flat_append, ← flat_append] at hst
    refine ⟨w.setRow g (flat (Z.take k ++ List.replicate n TV.zero ++ Z.drop (k + n))).toArray, ?_, (Only.refl (S := (· = g)) w).setRow (.inl rfl) _, Z.take k ++ List.replicate n TV.zero ++ Z.drop (k + n), setRow_heap w g _ _ _ _ hZ, by simp; omega, ?_⟩
    · obtain ⟨n', rfl⟩ : ∃ n', n = n' + 1 := ⟨n - 1, by omega⟩
      have hzr : (Builtin.zeroCells #[Value.int IntKind.i64 0, Value.int IntKind.u64 0, Value.int IntKind.u64 0, Value.int IntKind.i64 0] (n' + 1)).toList = flat (List.replicate (n' + 1) TV.zero) := by
        unfold Builtin.zeroCells
        show (Array.map _ (Array.range ((n' + 1) * 4))).toList = _
        exact (congrArg Array.toList hzz)
      simp [Builtin.clear_, run_underlying u_sT, zeroValue, typeInfo, hi, hz, Value.cells, hzr, hst]
    · rw [List.append_assoc, List.take_append_of_le_length (by simp; omega), List.take_take, Nat.min_self]
end Go.Proofs.YtooagjndelbegaaGreatDoor.E
namespace Go.Proofs.YtooagjndelbegaaGreatDoor.E
open Go.Proofs.YtooagjndelbegaaGreatDoor.C
open Go.RowKit
set_option linter.unusedVariables false
set_option maxRecDepth 100000

theorem take_succ_filter (Z : List TV) (K : TV → Bool) (i : Nat) (x : TV) (h : Z[i]? = some x) : (Z.take (i + 1)).filter K = (Z.take i).filter K ++ (if K x = true then [x] else []) := by
  rw [List.take_add_one, h, List.filter_append]
  simp [List.filter_cons]
theorem filter_le (Z : List TV) (K : TV → Bool) (i : Nat) : ((Z.take i).filter K).length ≤ i := Nat.le_trans (List.length_filter_le _ _) (by simp; omega)
set_option maxHeartbeats 1000000 in
theorem c_keep (w : World) (g n room : Nat) (Z : List TV) (hZ : Rw w g Z) (hl : Z.length = room) (hn : n ≤ room) (h64 : room ≤ 64) (N : FuncId) (caps : Array Value) (K : TV → Bool)
    (e0 : ∀ args w, (callFunc N args).run Tryz.prog w = .ok (.enter N args) w)
    (hK : ∀ wr x, Only (· = g) w wr → Calls Tryz.prog N (#[x.ag] ++ caps) wr fun e w' => e = .returned (.bool (K x)) ∧ Below wr.heap.size wr w') :
    Calls Tryz.prog 126 #[.slice (some ⟨g, 0, none⟩) n room, .func (.func N) #[] caps] w fun e w' => e = .returned (.slice (some ⟨g, 0, none⟩) ((Z.take n).filter K).length room) ∧ Only (· = g) w w' ∧ ∃ Z', Rw w' g Z' ∧ Z'.length = room ∧ Z'.take ((Z.take n).filter K).length = (Z.take n).filter K := by
  have HZ := hid hZ
  have HK := hid hK
  clear hZ hK
  go_enter Tryz.func126, Tryz.ntmps126
  go_wp2_with fail
  go_loopw [5, 12] (fun s i wr => ∃ (k : Nat) (Y : List TV), k ≤ n ∧ i = .int .i64 k ∧ s = .slice (some ⟨g, 0, none⟩) ((Z.take k).filter K).length room ∧ Rw wr g Y ∧ Y.length = room ∧ Y.take ((Z.take k).filter K).length = (Z.take k).filter K ∧ (∀ j, k ≤ j → Y[j]? = Z[j]?) ∧ Only (· = g) w wr) (fun _ i _ => n - (intOf i).toNat)
  case atStart => exact ⟨0, Z, by omega, rfl, by simp, HZ.out, hl, by simp, fun _ _ => rfl, Only.refl w⟩
  case round =>
    obtain ⟨k, Y, hk, rfl, rfl, hY, hYl, hYt, hYr, ho⟩ := hrel
    have HY := hid hY
    have HYt := hid hYt
    have HYr := hid hYr
    have HO := hid ho
    have hfl := filter_le Z K k
    have HF := hid hfl
    obtain ⟨m, hm⟩ : ∃ m, ((Z.take k).filter K).length = m := ⟨_, rfl⟩
    rw [hm] at HYt hfl ⊢
    have HMm := hid hm
    clear hY hYt hYr ho hm HF
    by_cases hlt : k < n
    · obtain ⟨x, hx⟩ : ∃ x, Z[k]? = some x := ⟨_, List.getElem?_eq_getElem (by omega)⟩
      have HX := hid hx
      obtain ⟨x0, x1, x2, x3⟩ := HY.out.cs ((HYr.out k (Nat.le_refl _)).trans hx)
      have HS := hid (take_succ_filter Z K k x hx)
      clear hx
      cases hb : K x
      · go_wp2_with (refine (HK.out _ x (HO.out.alloc _)).mono ?_; rintro e w1 ⟨rfl, hb1⟩; have HB1 := hid hb1; clear hb1)
        go_roundw
        case rel =>
          have e1 : (Z.take (k + 1)).filter K = (Z.take k).filter K := by rw [HS.out, hb]; simp
          exact ⟨k + 1, Y, by omega, by go_num, by rw [e1, HMm.out], (show Rw (wr.alloc _) g Y from (Below.heap_alloc wr _ _ HY.out.lt).trans HY.out).below HB1.out, hYl, by rw [e1, HMm.out]; exact HYt.out, fun j hj => HYr.out j (by omega), (HO.out.alloc _).trans (.ofBelow HB1.out)⟩
        case measure => simp [intOf]; omega
      · have HA : Hid (∀ w1, Below (wr.alloc (Obj.cells x.cs.toArray 81)).heap.size (wr.alloc (Obj.cells x.cs.toArray 81)) w1 → Rw w1 wr.heap.size [x]) := fun w1 hb1 => (hb1.block _ (by simp)).trans (by unfold TV.cs; rw [heap_alloc_new]; simp [flat, TV.cs])
        go_wp2_with (first
          | (refine (HK.out _ x (HO.out.alloc _)).mono ?_; rintro e w1 ⟨rfl, hb1⟩; have HB1 := hid hb1; have HR := hid (HA.out w1 hb1); obtain ⟨y0, y1, y2, y3⟩ := Rw.cs HR.out (i := 0) (x := x) rfl; simp only [Nat.zero_mul, Nat.zero_add] at y0 y1 y2 y3; have HY1 := hid ((show Rw (wr.alloc _) g Y from (Below.heap_alloc wr _ _ HY.out.lt).trans HY.out).below hb1); clear hb1)
          | (at_builtin; refine wpL_append rfl _ _ rfl g m room Y rfl ((Below.heap_alloc w1 _ _ HY1.out.lt).trans HY1.out) (by omega) (by omega) w1.heap.size 1 x rfl (by
              intro j u hj
              unfold TV.cs at hj
              match j, hj with
              | 0, hj => simp at hj; subst hj; simp
              | 1, hj => simp at hj; subst hj; simp
              | 2, hj => simp at hj; subst hj; simp
              | 3, hj => simp at hj; subst hj; simp) ?_; intro w2 hY2 ho2; have HY2 := hid hY2; have HO2 := hid ho2; clear hY2 ho2))
        go_roundw
        case rel =>
          have e1 : (Z.take (k + 1)).filter K = (Z.take k).filter K ++ [x] := by rw [HS.out, hb]; simp
          have e2 : ((Z.take (k + 1)).filter K).length = m + 1 := by rw [e1, List.length_append, HMm.out]; rfl
          refine ⟨k + 1, Y.set m x, by omega, by go_num, by rw [e2], HY2.out, by simpa using hYl, ?_, fun j hj => ?_, ?_⟩
          · rw [e2, e1, ← HYt.out, List.take_add_one, List.getElem?_set_self (by omega), List.take_set_of_le (Nat.le_refl _)]; rfl
          · rw [List.getElem?_set_ne (by omega)]; exact HYr.out j (by omega)
          · exact ((HO.out.alloc _).trans (.ofBelow HB1.out)).trans ((Only.refl (S := (· = g)) w1).alloc _ |>.trans HO2.out)
        case measure => simp [intOf]; omega
    · obtain rfl : k = n := by omega
      by_cases hrm : room = m
      · obtain rfl := hrm
        obtain rfl : k = room := by omega
        have hr0 : (Builtin.clear_ #[25] 0 #[.slice (some ⟨g, 0, none⟩) 0 0]).run Tryz.prog wr = .ok (.tuple #[]) wr := by simp [Builtin.clear_, run_underlying u_sT]
        go_wp2_with fail
        go_ret
        exact ⟨by rw [HMm.out]; rfl, HO.out, Y, HY.out, hYl, by rw [HMm.out, HYt.out]⟩
      · obtain ⟨w2, hr, ho2, Z2, h1, h2, h3⟩ := run_clear wr g m (k - m) (room - m) Y HY.out (by omega) 0
        have HO2 := hid ho2
        have HZ2 := hid h1
        have HL2 := hid h2
        have HT2 := hid h3
        clear ho2 h1 h2 h3
        go_wp2_with fail
        go_ret
        refine ⟨by rw [HMm.out]; rfl, HO.out.trans HO2.out, Z2, HZ2.out, by rw [HL2.out, hYl], by rw [HMm.out, HT2.out, HYt.out]⟩

/-- a TLB as it stands: its struct at p, its row at g -/
structure TM (w : World) (p g room : Nat) (L : List TV) : Prop where
  top : w.heap[p]? = some (.cells #[.int .i64 room, .slice (some ⟨g, 0, none⟩) L.length room] 102 (0, 0))
  row : ∃ Z, Rw w g Z ∧ Z.length = room ∧ Z.take L.length = L
  len : L.length ≤ room
  r0 : 0 < room
  r1 : room ≤ 64
abbrev Ft (p g : Nat) : Nat → Prop := fun k => k = p ∨ k = g
section
variable {w : World} {p g room : Nat} {L : List TV}
theorem TM.lt (h : TM w p g room L) {k : Nat} (hk : Ft p g k) : k < w.heap.size := by
  obtain ⟨Z, hZ, _⟩ := h.row
  rcases hk with rfl | rfl
  · exact lt_of_block h.top
  · exact hZ.lt
theorem TM.ne (h : TM w p g room L) : p ≠ g := by
  obtain ⟨Z, hZ, _⟩ := h.row
  rintro rfl
  have := h.top.symm.trans hZ
  simp at this
theorem TM.only {w' : World} (h : TM w p g room L) {S : Nat → Prop} (ho : Only S w w') (hd : ∀ k, Ft p g k → ¬ S k) : TM w' p g room L := by
  obtain ⟨Z, hZ, h1, h2⟩ := h.row
  exact ⟨ho.old h.top (hd _ (.inl rfl)), ⟨Z, ho.old hZ (hd _ (.inr rfl)), h1, h2⟩, h.len, h.r0, h.r1⟩
theorem TM.below {w' : World} (h : TM w p g room L) (hb : Below w.heap.size w w') : TM w' p g room L := h.only (S := fun _ => False) (.ofBelow hb) fun _ _ q => q
theorem TM.c0 (h : TM w p g room L) : w.cell? ⟨p, 0, none⟩ = some (.int .i64 room) := by rw [cell_of_row w _ 0 _ _ _ h.top]; rfl
theorem TM.c1 (h : TM w p g room L) : w.cell? ⟨p, 1, none⟩ = some (.slice (some ⟨g, 0, none⟩) L.length room) := by rw [cell_of_row w _ 1 _ _ _ h.top]; rfl
theorem TM.z (h : TM w p g room L) (j : Nat) : w.frozen? ⟨p, j, none⟩ = false := frozen_of_row w p j _ _ h.top
end
theorem c_leave (w : World) (p g room : Nat) (L : List TV) (h : TM w p g room L) (N : FuncId) (caps : Array Value) (K : TV → Bool)
    (e0 : ∀ args w, (callFunc N args).run Tryz.prog w = .ok (.enter N args) w)
    (hK : ∀ wr x, Only (· = g) w wr → Calls Tryz.prog N (#[x.ag] ++ caps) wr fun e w' => e = .returned (.bool (K x)) ∧ Below wr.heap.size wr w') :
    Calls Tryz.prog 89 #[.pointer (some ⟨p, 0, none⟩), .func (.func N) #[] caps] w fun e w' => e = .returned (.tuple #[]) ∧ TM w' p g room (L.filter K) ∧ Only (Ft p g) w w' := by
  have hne := h.ne
  obtain ⟨Z, hZ, hl, ht⟩ := h.row
  have c1 := h.c1
  have H := hid h
  have HZ := hid hZ
  have HT := hid ht
  have HKK := hid hK
  have hn := h.len
  have h64 := h.r1
  clear h hZ ht hK
  go_enter Tryz.func89, Tryz.ntmps89
  go_wp2_with (go_at_call 126; refine (c_keep _ g L.length room Z HZ.out hl hn h64 N caps K e0 HKK.out).mono ?_; rintro e w1 ⟨rfl, ho, Z', hZ', hl', ht'⟩; have HO := hid ho; have HZ' := hid hZ'; have HL' := hid hl'; have HT' := hid ht'; have hp1 := hid (HO.out.old H.out.top hne); have k1 : w1.cell? ⟨p, 1, none⟩ = some (.slice (some ⟨g, 0, none⟩) L.length room) := (by rw [cell_of_row w1 _ 1 _ _ _ hp1.out]; rfl); have z1 : w1.frozen? ⟨p, 1, none⟩ = false := frozen_of_row w1 _ 1 _ _ hp1.out; clear ho hZ' hl' ht')
  go_returns
  rw [HT.out] at HT'
  refine ⟨rfl, ⟨?_, ⟨Z', (Below.heap_setCell w1 ⟨p, 1, none⟩ _ g (Ne.symm hne)).trans HZ'.out, HL'.out, HT'.out⟩, Nat.le_trans (List.length_filter_le _ _) hn, H.out.r0, h64⟩, ?_⟩
  · rw [heap_setCell_same _ _ 1 _ _ _ hp1.out, HT.out]; rfl
  · exact (HO.out.mono fun k _ q => .inr q).setCell (.inl (.inl rfl)) _
end Go.Proofs.YtooagjndelbegaaGreatDoor.E
namespace Go.Proofs.YtooagjndelbegaaGreatDoor.E
open Go.Proofs.YtooagjndelbegaaGreatDoor.C
open Go.RowKit
set_option linter.unusedVariables false
set_option maxRecDepth 100000

theorem run_makeT (w : World) (n : Nat) (hn : n ≤ 64) : (Instr.makeSlice 25 (.int .i64 0) (.int .i64 (n : Int))).run Tryz.prog w = .ok (.slice (some ⟨w.heap.size, 0, none⟩) 0 n) (w.alloc (.cells (flat (List.replicate n TV.zero)).toArray 81)) := by
  obtain ⟨i, hi1, hz, hs, hb⟩ := info_parts info_t
  have hr := run_make (P := Tryz.prog) w 25 81 i _ u_sT hi1 hz .i64 .i64 0 n (by omega) (by omega) (by rw [hb]; omega) (by omega)
  rw [hs] at hr
  have hcs : madeCells (Value.agg #[.int .i64 0, .int .u64 0, .int .u64 0, .int .i64 0]).cells ((n : Int).toNat * 4) = (flat (List.replicate n TV.zero)).toArray := zeros_flat _ rfl n
  rw [hcs] at hr
  simpa using hr
theorem c_New_bad (w : World) (room : Int) (h : room < 1 ∨ 64 < room) : Calls Tryz.prog 29 #[.int .i64 room] w fun e w' => e = .returned (.tuple #[.pointer none, .int .i64 1]) ∧ w' = w := by
  rcases h with h | h
  · go_enter Tryz.func29, Tryz.ntmps29
    go_wp2
    go_returns
    exact ⟨rfl, rfl⟩
  · have h1 : ¬ room < 1 := by omega
    go_enter Tryz.func29, Tryz.ntmps29
    go_wp2
    go_returns
    exact ⟨rfl, rfl⟩
theorem c_New (w : World) (room : Nat) (h0 : 0 < room) (h1 : room ≤ 64) (n : Int) (hn : n = room) : Calls Tryz.prog 29 #[.int .i64 n] w fun e w' => ∃ p g, e = .returned (.tuple #[.pointer (some ⟨p, 0, none⟩), .int .i64 0]) ∧ TM w' p g room [] ∧ Below w.heap.size w w' ∧ ∀ k, Ft p g k → w.heap.size ≤ k := by
  subst hn
  have g1 : ¬ (room : Int) < 1 := by omega
  have g2 : ¬ 64 < (room : Int) := by omega
  have hmk : ∀ W, (Instr.makeSlice 25 (.int .i64 0) (.int .i64 (room : Int))).run Tryz.prog W = _ := fun W => run_makeT W room h1
  go_enter Tryz.func29, Tryz.ntmps29
  go_wp2
  go_returns
  refine ⟨w.heap.size + 1, rfl, w.heap.size, ⟨?_, ⟨List.replicate room TV.zero, ?_, by simp, by simp⟩, by simp, h0, h1⟩, ((Below.refl _ _).alloc (Nat.le_refl _) _).alloc (by simp) _, by omega, by omega⟩
  · exact heap_alloc2_new w _ _
  · exact heap_alloc2_old w _ _
theorem c_f2 (w : World) (b b' : Nat) (v p : Int) (hb : w.cell? ⟨b, 0, none⟩ = some (.int .i64 v)) (hb' : w.cell? ⟨b', 0, none⟩ = some (.int .u64 p)) (hl : b < w.heap.size) (hl' : b' < w.heap.size) (x : TV) : Calls Tryz.prog 96 #[x.ag, .pointer (some ⟨b, 0, none⟩), .pointer (some ⟨b', 0, none⟩)] w fun e w' => e = .returned (.bool (!x.here v p)) ∧ Below w.heap.size w w' := by
  go_enter Tryz.func96, Tryz.ntmps96
  go_wp2_with (go_at_call 97; refine (c_isOf _ x v p).mono ?_; rintro e w1 ⟨rfl, hb1⟩; have HB1 := hid hb1; clear hb1)
  go_ret
  exact ⟨rfl, ((Below.refl _ _).alloc (Nat.le_refl _) _).trans (HB1.out.mono (by simp))⟩
theorem c_f0 (w : World) (x : TV) : Calls Tryz.prog 90 #[x.ag] w fun e w' => e = .returned (.bool false) ∧ Below w.heap.size w w' := by
  go_enter Tryz.func90, Tryz.ntmps90
  go_wp2
  go_ret
  exact ⟨rfl, (Below.refl _ _).alloc (Nat.le_refl _) _⟩
def fl (L : List TV) (v : Int) : List TV := L.filter fun x => !decide (x.v = v)
def fp (L : List TV) (v p : Int) : List TV := L.filter fun x => !x.here v p
theorem c_FlushPage (w : World) (p g room : Nat) (L : List TV) (h : TM w p g room L) (v pg : Int) :
    Calls Tryz.prog 63 #[.pointer (some ⟨p, 0, none⟩), .int .i64 v, .int .u64 pg] w fun e w' => e = .returned (.tuple #[]) ∧ TM w' p g room (fp L v pg) ∧ Only (Ft p g) w w' := by
  have hgl := h.lt (.inr rfl)
  have H : Hid (TM ((w.alloc (.cells #[.int .i64 v] 3)).alloc (.cells #[.int .u64 pg] 22)) p g room L) := h.below (((Below.refl _ _).alloc (Nat.le_refl _) _).alloc (by simp) _)
  have HK : Hid (∀ wr (x : TV), Only (· = g) ((w.alloc (.cells #[.int .i64 v] 3)).alloc (.cells #[.int .u64 pg] 22)) wr → Calls Tryz.prog 96 (#[x.ag] ++ #[.pointer (some ⟨w.heap.size, 0, none⟩), .pointer (some ⟨w.heap.size + 1, 0, none⟩)]) wr fun e w' => e = .returned (.bool (!x.here v pg)) ∧ Below wr.heap.size wr w') := fun wr (x : TV) ho => by
    have hb := ho.old (heap_alloc2_old w _ _) (show ¬ w.heap.size = g by omega)
    have hb' := ho.old (heap_alloc2_new w _ _) (show ¬ w.heap.size + 1 = g by omega)
    exact c_f2 wr w.heap.size (w.heap.size + 1) v pg (by rw [cell_of_row wr _ 0 _ _ _ hb]; rfl) (by rw [cell_of_row wr _ 0 _ _ _ hb']; rfl) (lt_of_block hb) (lt_of_block hb') x
  clear h
  go_enter Tryz.func63, Tryz.ntmps63
  go_wp2_with (go_at_call 89; refine (c_leave _ p g room L H.out 96 #[.pointer (some ⟨w.heap.size, 0, none⟩), .pointer (some ⟨w.heap.size + 1, 0, none⟩)] (fun x => !x.here v pg) (Tryz.call96) HK.out).mono ?_; rintro e w1 ⟨rfl, hm, ho⟩; have HM := hid hm; have HO := hid ho; clear hm ho)
  go_returns
  exact ⟨rfl, HM.out, (((Only.refl w).alloc _).alloc _).trans HO.out⟩
theorem c_FlushAll (w : World) (p g room : Nat) (L : List TV) (h : TM w p g room L) :
    Calls Tryz.prog 46 #[.pointer (some ⟨p, 0, none⟩)] w fun e w' => e = .returned (.tuple #[]) ∧ TM w' p g room [] ∧ Only (Ft p g) w w' := by
  have H := hid h
  have HK : Hid (∀ wr (x : TV), Only (· = g) w wr → Calls Tryz.prog 90 (#[x.ag] ++ #[]) wr fun e w' => e = .returned (.bool false) ∧ Below wr.heap.size wr w') := fun wr x ho => c_f0 wr x
  clear h
  go_enter Tryz.func46, Tryz.ntmps46
  go_wp2_with (go_at_call 89; refine (c_leave _ p g room L H.out 90 #[] (fun x => false) (Tryz.call90) HK.out).mono ?_; rintro e w1 ⟨rfl, hm, ho⟩; have HM := hid hm; have HO := hid ho; clear hm ho)
  go_returns
  have e1 : L.filter (fun _ => false) = [] := by simp
  exact ⟨rfl, by rw [← e1]; exact HM.out, HO.out⟩
end Go.Proofs.YtooagjndelbegaaGreatDoor.E
