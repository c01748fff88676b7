/- A page of the document's memory. -/
import Derived.Test.YtfoafgbhelgjcaaIT
import Derived.Test.YtfoafgbhelgjcaaMC3
import Derived.Laws.AppendOwnNone
namespace Go.Proofs.Ytfoafgbhelgjcaa
open Go.RowKit
open C (Only hid Mem Still ret_int ret_bool put byt nu fcl c_Place Cl RMem QM fv Sl row eq_nil)
set_option linter.unusedVariables false
set_option maxRecDepth 100000

theorem sl_row {w : World} {b n : Nat} {f : Nat → Int} {t : TypeId} (h : w.heap[b]? = some (.cells (row f 0 n).toArray t (0, 0))) : Sl w (.slice (some ⟨b, 0, none⟩) n n) n f :=
  ⟨_, n, rfl, Nat.le_refl _, ⟨b, 0, none⟩, fun _ => ⟨rfl, lt_of_block h, fun j hj => by rw [C.addr_add, Nat.zero_add, C.row_cell h j hj, Nat.zero_add]⟩⟩
theorem sl_below {w w' : World} {v : Value} {n : Nat} {f : Nat → Int} (h : Sl w v n f) (hb : Below w.heap.size w w') : Sl w' v n f := by
  obtain ⟨ad, cap, rfl, hc, a, hh⟩ := h
  refine ⟨ad, cap, rfl, hc, a, fun q => ⟨(hh q).1, Nat.lt_of_lt_of_le (hh q).2.1 hb.size, fun j hj => ?_⟩⟩
  rw [← (hh q).2.2 j hj]
  exact hb.cell (by rw [C.add_block]; exact (hh q).2.1)
set_option maxHeartbeats 1000000 in
theorem q_Page (w : World) (T : Nat → Prop) (q n : Nat) (f : Nat → Int) (h : RMem w T q 0 n f) (i : Nat) (hi : i < n) : Calls Try.prog 25 #[.pointer (some ⟨q, 0, none⟩), .int .i64 i] w fun e w' => ∃ v, e = .returned v ∧ Sl w' v 4096 (fun j => f (4096 * i + j)) ∧ Below w.heap.size w w' := by
  obtain ⟨g, hs, hq, rfl, hT⟩ := h
  obtain ⟨i0, hinf, hz0, hz1, hz2⟩ := info_parts C.info_u8
  have c1 : w.cell? ⟨q, 1, none⟩ = some (.int .i64 hs.length) := by rw [cell_of_row w _ 1 _ _ _ hq.top]; rfl
  have c2 : w.cell? ⟨q, 2, none⟩ = some (.slice (some ⟨g, 0, none⟩) hs.length hs.length) := by rw [cell_of_row w _ 2 _ _ _ hq.top]; rfl
  have hl1 := hq.len1
  have hil : hs[i]? = some hs[i] := List.getElem?_eq_getElem hi
  have ct : w.cell? ⟨g, i, none⟩ = some (fv hs[i]) := by rw [cell_of_row w _ i _ _ _ hq.tab]; simp [hi]
  have e1 : ((hs.length : Int) ≤ (i : Int)) = False := by simp; omega
  have hnil := eq_nil
  have HQ := hid hq
  clear hq
  cases hx : hs[i] with
  | none =>
    rw [hx] at ct hil
    simp only [fv] at ct
    have HB := hid (HQ.out.bare i hil)
    go_enter Try.func25, Try.ntmps25
    go_wp2_with (first
      | (refine C.wpList_makes w rfl _ _ 45 rfl 5 (.int .u8 0) 1 C.u_su8 C.info_u8 rfl 4096 rfl rfl (by decide) (by decide) (row (fun _ => 0) 0 4096).toArray (C.rowz 4096) ?_))
    go_ret
    refine ⟨_, rfl, ?_, (Below.refl _ _).alloc (Nat.le_refl _) _⟩
    have := sl_row (f := fun _ => 0) (heap_alloc_new w (.cells (row (fun _ => 0) 0 4096).toArray 5))
    obtain ⟨ad, cap, e, hc, a, hh⟩ := this
    exact ⟨ad, cap, e, hc, a, fun z => ⟨(hh z).1, (hh z).2.1, fun j hj => by rw [(hh z).2.2 j hj]; show some (Value.int .u8 0) = some (.int .u8 (f (4096 * i + j))); rw [HB.out j hj]⟩⟩
  | some hc =>
    obtain ⟨b, c⟩ := hc
    rw [hx] at ct hil
    simp only [fv] at ct
    obtain ⟨hcap, cur, hcur, hcj⟩ := HQ.out.full i b c hil
    have HC := hid (And.intro hcur hcj)
    clear hcur hcj
    go_enter Try.func25, Try.ntmps25
    go_wp2_with ((at_builtin; refine wpList_append_own _ rfl _ _ 45 rfl w.heap.size 5 i0 (.int .u8 0) 1 1 C.u_su8 hinf hz0 hz1 hz2 rfl (by decide) _ 0 [] rfl (World.ownsRow_nil _ _ _ _) ⟨b, 0, none⟩ 4096 c (row (fun j => f (4096 * i + j)) 0 4096) rfl (by rw [C.row_length]) (by
      intro j u hu
      have hj : j < 4096 := by
        rcases Nat.lt_or_ge j 4096 with q | q
        · exact q
        · rw [List.getElem?_eq_none (by simpa [C.row_length] using q)] at hu; cases hu
      rw [C.row_get _ _ _ _ hj, Nat.zero_add] at hu
      rw [C.addr_add, Nat.zero_add, cell_of_row w b j _ _ _ HC.out.1, HC.out.2 j hj]; exact hu) (C.row_one _ _ _) (by unfold maxLen; omega) (by omega) (Nat.le_refl _) ?_; intro v' w1 hown hgrow _; have HO := hid hown; have HG := hid hgrow; clear hown hgrow))
    go_ret
    refine ⟨v', rfl, ?_, (Below.refl _ _).grown HG.out (Nat.le_refl _) (fun k q => by have q' : (none : Option Nat) = some k := q; cases q')⟩
    have ho : w1.ownsRow w.heap.size 5 1 v' 4096 (row (fun j => f (4096 * i + j)) 0 4096) := by simpa using HO.out
    rcases ho.2 with ⟨_, h0⟩ | ⟨g', cap', cur', rfl, _, hcur', hnc, _, hsz, htake⟩
    · exact absurd h0 (by decide)
    · refine ⟨_, cap', rfl, hnc, ⟨g', 0, none⟩, fun _ => ⟨rfl, lt_of_block hcur', fun j hj => ?_⟩⟩
      rw [C.addr_add, Nat.zero_add, cell_of_row w1 g' j _ _ _ hcur']
      have e := congrArg (fun l : List Value => l[j]?) htake
      simp only [Nat.mul_one] at e
      rw [List.getElem?_take_of_lt hj, C.row_get _ _ _ _ hj, Nat.zero_add] at e
      rw [← e]
      simp
end Go.Proofs.Ytfoafgbhelgjcaa
