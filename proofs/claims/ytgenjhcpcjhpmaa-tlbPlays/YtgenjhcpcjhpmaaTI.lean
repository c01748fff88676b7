/- Lists that grow. -/
import Derived.Test.YtgenjhcpcjhpmaaTH
import Derived.Test.YtgenjhcpcjhpmaaTO
namespace Go.Proofs.Ytgenjhcpcjhpmaa
open Go.RowKit
set_option linter.unusedVariables false

theorem wpL_push {ops : Array Oper} {rest : List Oper} {o : Oper} {a : Act} {w : World} {Q : Exit → Act → World → Prop} (hgd : o.guard = none) (s x : Operand)
    (ho : o.op = .call { callee := .builtin .append, args := #[s, x], argTypes := #[43, 43] })
    (base : Nat) (v : Value) (M : List TV) (hs : a.eval s = v) (hown : Es w base v M) (h64 : M.length ≤ 64) (b m : Nat) (y : TV) (hx : a.eval x = .slice (some ⟨b, 0, none⟩) 1 m) (hy : ∀ j u, y.cs[j]? = some u → w.cell? ⟨b, j, none⟩ = some u) (hb : base ≤ w.heap.size)
    (h : ∀ v' w', Es w' base v' (M ++ [y]) → w.grownBy w' v.ownBlock → wpList Try.prog ops Q rest (a.put o.dst v') w') : wpList Try.prog ops Q (o :: rest) a w := by
  obtain ⟨i0, hi, hz0, hz1, hz2⟩ := info_parts info_t
  refine wpList_append_own _ hgd s x 43 ho base 33 i0 (.agg #[.int .i64 0, .int .u64 0, .int .u64 0, .int .i64 0]) 4 32 u_sT hi hz0 hz1 hz2 rfl (by decide) v M.length (flat M) hs hown ⟨b, 0, none⟩ 1 m y.cs hx rfl (fun j u hj => by rw [addr_add, Nat.zero_add]; exact hy j u hj) y.one (by unfold maxLen; omega) (by omega) hb ?_
  intro v' w' h1 h2 _
  refine h v' w' ?_ h2
  unfold Es
  rw [flat_append, flat_one, List.length_append]
  exact h1
theorem Es.nil (w : World) (base : Nat) : Es w base (.slice none 0 0) [] := World.ownsRow_nil w base _ _
theorem Es.form {w : World} {base : Nat} {v : Value} {L : List TV} (h : Es w base v L) (hn : 0 < L.length) : ∃ g cap, v = .slice (some ⟨g, 0, none⟩) L.length cap := by
  rcases h.2 with ⟨_, h0⟩ | ⟨g, cap, cur, rfl, hbg, hg, _⟩
  · omega
  · exact ⟨g, cap, rfl⟩
theorem Es.lt {w : World} {base : Nat} {v : Value} {L : List TV} (h : Es w base v L) {k : Nat} (hk : v.ownBlock = some k) : base ≤ k ∧ k < w.heap.size := World.ownsRow.lt h k hk
theorem Es.below {w w' : World} {base : Nat} {v : Value} {L : List TV} (h : Es w base v L) (hb : Below w.heap.size w w') : Es w' base v L :=
  World.ownsRow.kept (row := none) h ⟨hb.os, hb.tape, hb.output, hb.size, fun k hk _ => hb.block k hk⟩ (by cases v.ownBlock <;> simp)
theorem Es.kept {w w' : World} {base : Nat} {v : Value} {L : List TV} {row : Option Nat} (h : Es w base v L) (hg : w.grownBy w' row) (hne : ∀ k, v.ownBlock = some k → row ≠ some k) : Es w' base v L :=
  World.ownsRow.kept h hg (by
    cases q : v.ownBlock with
    | none => exact .inl rfl
    | some k => exact .inr fun e => hne k q e.symm)
theorem Es.only {w w' : World} {base : Nat} {v : Value} {L : List TV} {S : Nat → Prop} (h : Es w base v L) (ho : Only S w w') (hd : ∀ k, v.ownBlock = some k → ¬ S k) : Es w' base v L :=
  ⟨h.1, h.2.imp id fun ⟨g, cap, cur, e, hb, hg, rest⟩ => ⟨g, cap, cur, e, hb, ho.old hg (hd g (by rw [e]; rfl)), rest⟩⟩
theorem flat_f (M : List TV) (i : Nat) (x : TV) (hx : M[i]? = some x) (n : Int) : (flat M).set (i * 4 + 2) (.int .u64 n) = flat (M.set i ⟨x.v, x.p, n, x.r⟩) := by
  induction M generalizing i with
  | nil => simp at hx
  | cons y M ih =>
    cases i with
    | zero =>
      simp at hx
      subst hx
      simp [flat, TV.cs]
    | succ i =>
      have := ih i (by simpa using hx)
      rw [List.set_cons_succ, flat, flat, ← this, List.set_append_right _ _ (by show 4 ≤ _; omega)]
      congr 2
      show _ - 4 = _
      omega
theorem Es.stored {w : World} {base g cap : Nat} {M : List TV} (h : Es w base (.slice (some ⟨g, 0, none⟩) M.length cap) M) {i : Nat} {x : TV} (hx : M[i]? = some x) (n : Int) : Es (w.setCell ⟨g, i * 4 + 2, none⟩ (.int .u64 n)) base (.slice (some ⟨g, 0, none⟩) M.length cap) (M.set i ⟨x.v, x.p, n, x.r⟩) ∧ w.grownBy (w.setCell ⟨g, i * 4 + 2, none⟩ (.int .u64 n)) (some g) := by
  have := World.ownsRow.stored h (i * 4 + 2) (.int .u64 n)
  rw [flat_f M i x hx n] at this
  refine ⟨?_, this.2⟩
  unfold Es
  rw [List.length_set]
  exact this.1
theorem fl_step (L : List TV) (k : Nat) (x : TV) (h : L[k]? = some x) (v : Int) : fl (L.take (k + 1)) v = fl (L.take k) v ++ (if x.v = v then [] else [x]) := by
  have := take_succ_filter L (fun x => !decide (x.v = v)) k x h
  unfold fl
  rw [this]
  by_cases q : x.v = v <;> simp [q]
theorem fl_le (L : List TV) (v : Int) (k : Nat) : (fl (L.take k) v).length ≤ L.length := Nat.le_trans (List.length_filter_le _ _) (by simp; omega)
theorem Below.grownBy {B : Nat} {w0 w w' : World} {row : Option Nat} (h : Below B w0 w) (hg : w.grownBy w' row) (hr : ∀ k, row = some k → B ≤ k) (hs : B ≤ w.heap.size) : Below B w0 w' := h.grown hg hs hr
end Go.Proofs.Ytgenjhcpcjhpmaa
