/- What the statements of layer 4 ask of a case, and the answer that they ask for. -/
import Derived.Test.YtlfdokkopgmfjaaGreatDoorCPF
import Derived.Test.YtlfdokkopgmfjaaGreatDoorMC2
import Derived.Laws.AppendOwnNone
import Derived.Deep.QuietTactic
import Derived.BigQuiet
namespace Go.Proofs.YtlfdokkopgmfjaaGreatDoor.C
open Go.RowKit
set_option linter.unusedVariables false
set_option maxRecDepth 100000
end Go.Proofs.YtlfdokkopgmfjaaGreatDoor.C
namespace Go.Proofs.YtlfdokkopgmfjaaGreatDoor.C
open Go.RowKit
set_option linter.unusedVariables false
set_option maxRecDepth 100000
def hsN (k m : Nat) : Bool := decide (k &&& m = m)
def pmN (k : Nat) : Nat := if hsN k 128 = true then k &&& 14 else k &&& 10
theorem pm_N (e : Int) : pm e = (pmN (lo e) : Int) := by unfold pm pmN hs hsN; split <;> rfl
end Go.Proofs.YtlfdokkopgmfjaaGreatDoor.C
namespace Go.Proofs.YtlfdokkopgmfjaaGreatDoor.C
open Go.RowKit
set_option linter.unusedVariables false
set_option maxRecDepth 100000
/-- a pair of memories that lies in a block of its own -/
def TB (w : World) (b p q : Nat) : Prop := w.heap[b]? = some (.cells #[.pointer (some ⟨p, 0, none⟩), .pointer (some ⟨q, 0, none⟩)] 33 (0, 0))
theorem TB.c0 {w : World} {b p q : Nat} (h : TB w b p q) : w.cell? ⟨b, 0, none⟩ = some (.pointer (some ⟨p, 0, none⟩)) := by rw [cell_of_row w b 0 _ _ _ h]; rfl
theorem TB.c1 {w : World} {b p q : Nat} (h : TB w b p q) : w.cell? ⟨b, 1, none⟩ = some (.pointer (some ⟨q, 0, none⟩)) := by rw [cell_of_row w b 1 _ _ _ h]; rfl
theorem TB.below {w w' : World} {b p q : Nat} (h : TB w b p q) (hb : Below w.heap.size w w') : TB w' b p q := (hb.block b (lt_of_block h)).trans h
theorem TB.new (w : World) (p q : Nat) : TB (w.alloc (.cells #[.pointer (some ⟨p, 0, none⟩), .pointer (some ⟨q, 0, none⟩)] 33)) w.heap.size p q := heap_alloc_new w _
end Go.Proofs.YtlfdokkopgmfjaaGreatDoor.C
namespace Go.Proofs.YtlfdokkopgmfjaaGreatDoor.C
open Go.RowKit
set_option linter.unusedVariables false
set_option maxRecDepth 100000
theorem c_CopyBytes (w : World) (ad : Option Addr) (n cap : Nat) (f : Nat → Int) (aa : Addr) (hn : n ≤ 140737488355328) (hnone : ad = none → n = 0 ∧ cap = 0) (hsl : 0 < n → ad = some aa ∧ aa.block < w.heap.size ∧ ∀ j, j < n → w.cell? (aa.add j) = some (.int .u8 (f j))) :
    Calls Tryz.prog 27 #[.slice ad n cap] w fun e w' => ∃ v, e = .returned v ∧ w'.ownsRow w.heap.size 5 1 v n (row f 0 n) ∧ Below w.heap.size w w' := by
  obtain ⟨i0, hi, hz0, hz1, hz2⟩ := info_parts info_u8
  have HSL := hid hsl
  clear hsl
  go_enter Tryz.func27, Tryz.ntmps27
  cases ad with
  | none =>
    obtain ⟨rfl, rfl⟩ := hnone rfl
    go_wp2_with (at_builtin; refine wpList_append_own_none rfl _ _ 23 rfl w.heap.size 5 i0 1 u_su8 hi _ _ _ rfl (World.ownsRow_nil _ _ _ _) rfl ?_)
    go_ret
    exact ⟨_, rfl, World.ownsRow_nil _ _ _ _, Below.refl _ _⟩
  | some b =>
    go_wp2_with (at_builtin; refine wpList_append_own _ rfl _ _ 23 rfl w.heap.size 5 i0 (.int .u8 0) 1 1 u_su8 hi hz0 hz1 hz2 rfl (by decide) _ 0 [] rfl (World.ownsRow_nil _ _ _ _) b n cap (row f 0 n) rfl (by rw [row_length]; omega) (by
      intro j u hu
      have hj : j < n := by
        rcases Nat.lt_or_ge j n with q | q
        · exact q
        · rw [List.getElem?_eq_none (by simpa [row_length] using q)] at hu; cases hu
      rw [row_get _ _ _ _ hj, Nat.zero_add] at hu
      obtain ⟨e, _, hc⟩ := HSL.out (by omega)
      obtain rfl := Option.some.inj e
      rw [hc j hj]; exact hu) (row_one _ _ _) (by unfold maxLen; omega) (by omega) (Nat.le_refl _) ?_; intro v' w1 hown hgrow _; have HO := hid hown; have HG := hid hgrow; clear hown hgrow)
    go_ret
    refine ⟨v', rfl, by simpa using HO.out, (Below.refl _ _).grown HG.out (Nat.le_refl _) (fun k q => by have q' : (none : Option Nat) = some k := q; cases q')⟩
end Go.Proofs.YtlfdokkopgmfjaaGreatDoor.C
