/- keep: what a function lets of a list, in its own memory. -/
import Derived.Test.YtgenjhcpcjhpmaaTA
namespace Go.Proofs.Ytgenjhcpcjhpmaa
open Go.RowKit
set_option linter.unusedVariables false

/-- an entry more where there is room, as one step -/
theorem wpL_append {ops : Array Oper} {rest : List Oper} {o : Oper} {a : Act} {w : World} {Q : Exit → Act → World → Prop} (hgd : o.guard = none) (s x : Operand)
    (ho : o.op = .call { callee := .builtin .append, args := #[s, x], argTypes := #[43, 43] })
    (g n cap : Nat) (Z : List TV) (hs : a.eval s = .slice (some ⟨g, 0, none⟩) n cap) (hZ : Rw w g Z) (hn : n < Z.length) (hc : n < cap)
    (b m : Nat) (y : TV) (hx : a.eval x = .slice (some ⟨b, 0, none⟩) 1 m) (hy : ∀ j u, y.cs[j]? = some u → w.cell? ⟨b, j, none⟩ = some u)
    (h : ∀ w', Rw w' g (Z.set n y) → Only (· = g) w w' → wpList Try.prog ops Q rest (a.put o.dst (.slice (some ⟨g, 0, none⟩) (n + 1) cap)) w') : wpList Try.prog ops Q (o :: rest) a w := by
  obtain ⟨i, hi, hz, hsz, hby⟩ := info_parts info_t
  have hr := run_append_room (P := Try.prog) w 43 o.type 33 i u_sT hi g n cap (flat Z).toArray hZ ⟨b, 0, none⟩ 1 m y.cs (by rw [hsz]; rfl) (fun j u hj => by rw [addr_add, Nat.zero_add]; exact hy j u hj) y.one (by omega) (by rw [hsz]; simp [flat_length, TV.cs]; omega)
  rw [hsz] at hr
  refine wpList_plain hgd fun _ hK => ?_
  unfold Oper.wp execOp
  simp only [ho, resolve, invoke, builtin, Sem.run_bind, Sem.run_pure, Result.andThen_ok, List.map_toArray, List.map_cons, List.map_nil, hs, hx, hr]
  refine hK _ _ (h _ ?_ ((Only.refl (S := (· = g)) w).setRow (.inl rfl) _))
  unfold Rw
  rw [← flat_set Z n y hn]
  exact setRow_heap w g _ _ _ _ hZ
/-- the rest of a row cleared -/
theorem run_clear (w : World) (g k n cap : Nat) (Z : List TV) (hZ : Rw w g Z) (hk : k + n ≤ Z.length) (ty : TypeId) : ∃ w', (Builtin.clear_ #[43] ty #[.slice (some ⟨g, k * 4, none⟩) n cap]).run Try.prog w = .ok (.tuple #[]) w' ∧ Only (· = g) w w' ∧ ∃ Z', Rw w' g Z' ∧ Z'.length = Z.length ∧ Z'.take k = Z.take k := by
  obtain ⟨i, hi, hz, hsz, hby⟩ := info_parts info_t
  rcases Nat.eq_zero_or_pos n with rfl | h0
  · refine ⟨w, ?_, Only.refl w, Z, hZ, rfl, rfl⟩
    simp [Builtin.clear_, run_underlying u_sT]
  · have hzz := zeros_flat _ rfl n
    have hst := run_storeCells_at Try.prog g (k * 4) 33 (flat (List.replicate n TV.zero)) 0 (flat Z).toArray w hZ (by simp [flat_length]; omega) (flat_one' _)
    rw [show (flat Z).toArray.toList = flat Z from rfl, flat_length, List.length_replicate, Nat.add_zero, ← Nat.add_mul, flat_take, flat_drop, ← flat_append, ← flat_append] at hst
    refine ⟨w.setRow g (flat (Z.take k ++ List.replicate n TV.zero ++ Z.drop (k + n))).toArray, ?_, (Only.refl (S := (· = g)) w).setRow (.inl rfl) _, Z.take k ++ List.replicate n TV.zero ++ Z.drop (k + n), setRow_heap w g _ _ _ _ hZ, by simp; omega, ?_⟩
    · obtain ⟨n', rfl⟩ : ∃ n', n = n' + 1 := ⟨n - 1, by omega⟩
      have hzr : (Builtin.zeroCells #[Value.int IntKind.i64 0, Value.int IntKind.u64 0, Value.int IntKind.u64 0, Value.int IntKind.i64 0] (n' + 1)).toList = flat (List.replicate (n' + 1) TV.zero) := by
        unfold Builtin.zeroCells
        show (Array.map _ (Array.range ((n' + 1) * 4))).toList = _
        exact (congrArg Array.toList hzz)
      simp [Builtin.clear_, run_underlying u_sT, zeroValue, typeInfo, hi, hz, Value.cells, hzr, hst]
    · rw [List.append_assoc, List.take_append_of_le_length (by simp; omega), List.take_take, Nat.min_self]
end Go.Proofs.Ytgenjhcpcjhpmaa
