/- A TLB: Evict, Put. -/
import Derived.Test.YtgenjhcpcjhpmaaTD
namespace Go.Proofs.Ytgenjhcpcjhpmaa
open Go.RowKit
set_option linter.unusedVariables false

theorem step_call3 {P : Program} {ops : Array Oper} {o : Oper} {a : Act} {w : World} {K : Act → World → Prop} {Q : Exit → Act → World → Prop} {E : Prop} (hw : Region.wanted o (yielded ops a.tmps) = true) (f : FuncId) (x y z : Operand) (ts : Array TypeId)
    (ho : o.op = .call { callee := .value (.func f), args := #[x, y, z], argTypes := ts }) (vx vy vz : Value) (hx : a.eval x = vx) (hy : a.eval y = vy) (hz : a.eval z = vz) (hnf : (callFunc f #[vx, vy, vz]).run P w = .ok (.enter f #[vx, vy, vz]) w) {R : Ending → World → Prop} (hc : Calls P f #[vx, vy, vz] w R)
    (h : ∀ e w', R e w' → ∃ v, e = .returned v ∧ K (a.put o.dst v) w') :
    if Region.wanted o (yielded ops a.tmps) = true then Oper.wp P o a w K Q else E := by
  rw [if_pos hw]
  have he : (execOp a.eval o).run P w = .ok (.enter f #[vx, vy, vz]) w := by
    have hf : a.eval (.func f) = .func (.func f) #[] #[] := rfl
    simp [execOp, ho, resolve, invoke, Deferred.ofValue, hf, hx, hy, hz, hnf]
  unfold Oper.wp
  rw [he, Oper.upon_enter]
  refine hc.mono fun e w' hR => ?_
  obtain ⟨v, rfl, hk⟩ := h e w' hR
  exact hk
theorem step_append {ops : Array Oper} {o : Oper} {a : Act} {w : World} {K : Act → World → Prop} {Q : Exit → Act → World → Prop} {E : Prop} (hgd : o.guard = none) (s x : Operand)
    (ho : o.op = .call { callee := .builtin .append, args := #[s, x], argTypes := #[43, 43] })
    (g n cap : Nat) (Z : List TV) (hs : a.eval s = .slice (some ⟨g, 0, none⟩) n cap) (hZ : Rw w g Z) (hn : n < Z.length) (hc : n < cap)
    (b m : Nat) (y : TV) (hx : a.eval x = .slice (some ⟨b, 0, none⟩) 1 m) (hy : ∀ j u, y.cs[j]? = some u → w.cell? ⟨b, j, none⟩ = some u)
    (h : ∀ w', Rw w' g (Z.set n y) → Only (· = g) w w' → K (a.put o.dst (.slice (some ⟨g, 0, none⟩) (n + 1) cap)) w') : if Region.wanted o (yielded ops a.tmps) = true then Oper.wp Try.prog o a w K Q else E := by
  have hw : Region.wanted o (yielded ops a.tmps) = true := by simp [Region.wanted, hgd]
  rw [if_pos hw]
  obtain ⟨i, hi, hz, hsz, hby⟩ := info_parts info_t
  have hr := run_append_room (P := Try.prog) w 43 o.type 33 i u_sT hi g n cap (flat Z).toArray hZ ⟨b, 0, none⟩ 1 m y.cs (by rw [hsz]; rfl) (fun j u hj => by rw [addr_add, Nat.zero_add]; exact hy j u hj) y.one (by omega) (by rw [hsz]; simp [flat_length, TV.cs]; omega)
  rw [hsz] at hr
  unfold Oper.wp execOp
  simp only [ho, resolve, invoke, builtin, Sem.run_bind, Sem.run_pure, Result.andThen_ok, List.map_toArray, List.map_cons, List.map_nil, hs, hx, hr]
  refine h _ ?_ ((Only.refl (S := (· = g)) w).setRow (.inl rfl) _)
  unfold Rw
  rw [← flat_set Z n y hn]
  exact setRow_heap w g _ _ _ _ hZ
theorem TM.cell {w : World} {p g room : Nat} {L : List TV} (h : TM w p g room L) {i : Nat} {x : TV} (hx : L[i]? = some x) : w.cell? ⟨g, i * 4, none⟩ = some (.int .i64 x.v) ∧ w.cell? ⟨g, i * 4 + 1, none⟩ = some (.int .u64 x.p) ∧ w.cell? ⟨g, i * 4 + 2, none⟩ = some (.int .u64 x.f) ∧ w.cell? ⟨g, i * 4 + 3, none⟩ = some (.int .i64 x.r) := by
  obtain ⟨Z, hZ, h1, h2⟩ := h.row
  refine hZ.cs ?_
  rw [← h2, List.getElem?_take] at hx
  split at hx
  · exact hx
  · cases hx
theorem c_Evict_no (w : World) (p g room : Nat) (L : List TV) (h : TM w p g room L) (i : Int) (hi : i < 0 ∨ (L.length : Int) ≤ i) : Calls Try.prog 14 #[.pointer (some ⟨p, 0, none⟩), .int .i64 i] w fun e w' => e = .returned (.bool false) ∧ w' = w := by
  have c1 := h.c1
  have hl := h.len
  have h64 := h.r1
  clear h
  rcases hi with hi | hi
  · go_enter Try.func14, Try.ntmps14
    go_wp2
    go_ret
    exact ⟨rfl, rfl⟩
  · have h1 : ¬ i < 0 := by omega
    go_enter Try.func14, Try.ntmps14
    go_wp2
    go_ret
    exact ⟨rfl, rfl⟩
set_option maxHeartbeats 1000000 in
theorem c_Evict (w : World) (p g room : Nat) (L : List TV) (h : TM w p g room L) (k : Nat) (x : TV) (hx : L[k]? = some x) (i : Int) (hi : i = k) : Calls Try.prog 14 #[.pointer (some ⟨p, 0, none⟩), .int .i64 i] w fun e w' => e = .returned (.bool true) ∧ TM w' p g room (fp L x.v x.p) ∧ Only (Ft p g) w w' := by
  subst hi
  have c1 := h.c1
  have hk : k < L.length := (List.getElem?_eq_some_iff.1 hx).1
  obtain ⟨x0, x1, x2, x3⟩ := h.cell hx
  have hl := h.len
  have h64 := h.r1
  have H : Hid (TM w.drew p g room L) := h.below (Below.refl _ _).drew
  have g1 : ¬ (k : Int) < 0 := by omega
  have g2 : ¬ (L.length : Int) ≤ k := by omega
  clear h hx
  go_enter Try.func14, Try.ntmps14
  go_wp2_with fail
  go_region_law (refine step_call3 (by simp [Region.wanted]) 18 (.tmp 16) (.tmp 24) (.tmp 32) _ rfl (.pointer (some ⟨p, 0, none⟩)) (.int .i64 x.v) (.int .u64 x.p) (by go_simp) (by go_simp) (by go_simp) (Try.call18 _ _) (c_FlushPage _ p g room L H.out x.v x.p) ?_; rintro e w4 ⟨rfl, hm, ho⟩; have HM := hid hm; have HO := hid ho; clear hm ho; refine ⟨_, rfl, ?_⟩)
  all_goals
    go_wp2_with fail
    go_ret
    exact ⟨rfl, HM.out, (Only.refl w).drew.trans HO.out⟩
/-- what Put leaves -/
def ev (M : List TV) : List TV := match M with | [] => [] | y :: M' => fp (y :: M') y.v y.p
def pu (room : Nat) (L : List TV) (e : TV) : List TV := (if (fp L e.v e.p).length = room then ev (fp L e.v e.p) else fp L e.v e.p) ++ [e]
theorem fp_le (L : List TV) (v p : Int) : (fp L v p).length ≤ L.length := List.length_filter_le _ _
theorem ev_lt {M : List TV} (h : 0 < M.length) : (ev M).length < M.length := by
  cases M with
  | nil => simp at h
  | cons y M =>
    have : (fp (y :: M) y.v y.p) = fp M y.v y.p := by simp [fp, TV.here]
    show (fp (y :: M) y.v y.p).length < _
    rw [this]
    have := fp_le M y.v y.p
    simp; omega
theorem TM.push {w w' : World} {p g room : Nat} {L : List TV} {e : TV} {Z : List TV} (h : TM w p g room L) (hL : L.length < room) (hZ : Rw w g Z) (hl : Z.length = room) (ht : Z.take L.length = L) (h' : Rw w' g (Z.set L.length e)) (ho : Only (· = g) w w') : TM (w'.setCell ⟨p, 1, none⟩ (.slice (some ⟨g, 0, none⟩) (L.length + 1) room)) p g room (L ++ [e]) := by
  have hp := ho.old h.top h.ne
  refine ⟨?_, ⟨Z.set L.length e, (Below.heap_setCell w' ⟨p, 1, none⟩ _ g (Ne.symm h.ne)).trans h', by simpa using hl, ?_⟩, by simp; omega, h.r0, h.r1⟩
  · rw [heap_setCell_same _ _ 1 _ _ _ hp]; simp
  · rw [List.length_append, List.length_singleton, List.take_add_one, List.getElem?_set_self (by omega), List.take_set_of_le (Nat.le_refl _), ht]; rfl
end Go.Proofs.Ytgenjhcpcjhpmaa
