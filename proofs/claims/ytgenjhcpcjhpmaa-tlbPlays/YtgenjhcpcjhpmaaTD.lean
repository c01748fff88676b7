/- A TLB: New, Flush, FlushPage, FlushAll, Evict, Put. -/
import Derived.Test.YtgenjhcpcjhpmaaTC
namespace Go.Proofs.Ytgenjhcpcjhpmaa
open Go.RowKit
set_option linter.unusedVariables false

theorem run_makeT (w : World) (n : Nat) (hn : n ≤ 64) : (Instr.makeSlice 43 (.int .i64 0) (.int .i64 (n : Int))).run Try.prog w = .ok (.slice (some ⟨w.heap.size, 0, none⟩) 0 n) (w.alloc (.cells (flat (List.replicate n TV.zero)).toArray 33)) := by
  obtain ⟨i, hi1, hz, hs, hb⟩ := info_parts info_t
  have hr := run_make (P := Try.prog) w 43 33 i _ u_sT hi1 hz .i64 .i64 0 n (by omega) (by omega) (by rw [hb]; omega) (by omega)
  rw [hs] at hr
  have hcs : madeCells (Value.agg #[.int .i64 0, .int .u64 0, .int .u64 0, .int .i64 0]).cells ((n : Int).toNat * 4) = (flat (List.replicate n TV.zero)).toArray := zeros_flat _ rfl n
  rw [hcs] at hr
  simpa using hr
theorem c_New_bad (w : World) (room : Int) (h : room < 1 ∨ 64 < room) : Calls Try.prog 6 #[.int .i64 room] w fun e w' => e = .returned (.tuple #[.pointer none, .int .i64 1]) ∧ w' = w := by
  rcases h with h | h
  · go_enter Try.func6, Try.ntmps6
    go_wp2
    go_returns
    exact ⟨rfl, rfl⟩
  · have h1 : ¬ room < 1 := by omega
    go_enter Try.func6, Try.ntmps6
    go_wp2
    go_returns
    exact ⟨rfl, rfl⟩
theorem c_New (w : World) (room : Nat) (h0 : 0 < room) (h1 : room ≤ 64) (n : Int) (hn : n = room) : Calls Try.prog 6 #[.int .i64 n] w fun e w' => ∃ p g, e = .returned (.tuple #[.pointer (some ⟨p, 0, none⟩), .int .i64 0]) ∧ TM w' p g room [] ∧ Below w.heap.size w w' ∧ ∀ k, Ft p g k → w.heap.size ≤ k := by
  subst hn
  have g1 : ¬ (room : Int) < 1 := by omega
  have g2 : ¬ 64 < (room : Int) := by omega
  have hmk : ∀ W, (Instr.makeSlice 43 (.int .i64 0) (.int .i64 (room : Int))).run Try.prog W = _ := fun W => run_makeT W room h1
  go_enter Try.func6, Try.ntmps6
  go_wp2
  go_returns
  refine ⟨w.heap.size + 1, rfl, w.heap.size, ⟨?_, ⟨List.replicate room TV.zero, ?_, by simp, by simp⟩, by simp, h0, h1⟩, ((Below.refl _ _).alloc (Nat.le_refl _) _).alloc (by simp) _, by omega, by omega⟩
  · exact heap_alloc2_new w _ _
  · exact heap_alloc2_old w _ _
theorem c_f1 (w : World) (b : Nat) (v : Int) (hb : w.cell? ⟨b, 0, none⟩ = some (.int .i64 v)) (hl : b < w.heap.size) (x : TV) : Calls Try.prog 26 #[x.ag, .pointer (some ⟨b, 0, none⟩)] w fun e w' => e = .returned (.bool (!decide (x.v = v))) ∧ Below w.heap.size w w' := by
  go_enter Try.func26, Try.ntmps26
  go_wp2
  go_ret
  exact ⟨by by_cases q : x.v = v <;> simp [q], (Below.refl _ _).alloc (Nat.le_refl _) _⟩
theorem c_f2 (w : World) (b b' : Nat) (v p : Int) (hb : w.cell? ⟨b, 0, none⟩ = some (.int .i64 v)) (hb' : w.cell? ⟨b', 0, none⟩ = some (.int .u64 p)) (hl : b < w.heap.size) (hl' : b' < w.heap.size) (x : TV) : Calls Try.prog 27 #[x.ag, .pointer (some ⟨b, 0, none⟩), .pointer (some ⟨b', 0, none⟩)] w fun e w' => e = .returned (.bool (!x.here v p)) ∧ Below w.heap.size w w' := by
  go_enter Try.func27, Try.ntmps27
  go_wp2_with (go_at_call 24; refine (c_isOf _ x v p).mono ?_; rintro e w1 ⟨rfl, hb1⟩; have HB1 := hid hb1; clear hb1)
  go_ret
  exact ⟨rfl, ((Below.refl _ _).alloc (Nat.le_refl _) _).trans (HB1.out.mono (by simp))⟩
theorem c_f0 (w : World) (x : TV) : Calls Try.prog 28 #[x.ag] w fun e w' => e = .returned (.bool false) ∧ Below w.heap.size w w' := by
  go_enter Try.func28, Try.ntmps28
  go_wp2
  go_ret
  exact ⟨rfl, (Below.refl _ _).alloc (Nat.le_refl _) _⟩
def fl (L : List TV) (v : Int) : List TV := L.filter fun x => !decide (x.v = v)
def fp (L : List TV) (v p : Int) : List TV := L.filter fun x => !x.here v p
theorem c_Flush (w : World) (p g room : Nat) (L : List TV) (h : TM w p g room L) (v : Int) :
    Calls Try.prog 16 #[.pointer (some ⟨p, 0, none⟩), .int .i64 v] w fun e w' => e = .returned (.tuple #[]) ∧ TM w' p g room (fl L v) ∧ Only (Ft p g) w w' := by
  have hgl := h.lt (.inr rfl)
  have H : Hid (TM (w.alloc (.cells #[.int .i64 v] 3)) p g room L) := h.below ((Below.refl _ _).alloc (Nat.le_refl _) _)
  have HK : Hid (∀ wr (x : TV), Only (· = g) (w.alloc (.cells #[.int .i64 v] 3)) wr → Calls Try.prog 26 (#[x.ag] ++ #[.pointer (some ⟨w.heap.size, 0, none⟩)]) wr fun e w' => e = .returned (.bool (!decide (x.v = v))) ∧ Below wr.heap.size wr w') := fun wr (x : TV) ho => by
    have hb := ho.old (heap_alloc_new w _) (show ¬ w.heap.size = g by omega)
    exact c_f1 wr w.heap.size v (by rw [cell_of_row wr _ 0 _ _ _ hb]; rfl) (lt_of_block hb) x
  clear h
  go_enter Try.func16, Try.ntmps16
  go_wp2_with (go_at_call 25; refine (c_leave _ p g room L H.out 26 #[.pointer (some ⟨w.heap.size, 0, none⟩)] (fun x => !decide (x.v = v)) (Try.call26) HK.out).mono ?_; rintro e w1 ⟨rfl, hm, ho⟩; have HM := hid hm; have HO := hid ho; clear hm ho)
  go_returns
  exact ⟨rfl, HM.out, ((Only.refl w).alloc _).trans HO.out⟩
theorem c_FlushPage (w : World) (p g room : Nat) (L : List TV) (h : TM w p g room L) (v pg : Int) :
    Calls Try.prog 18 #[.pointer (some ⟨p, 0, none⟩), .int .i64 v, .int .u64 pg] w fun e w' => e = .returned (.tuple #[]) ∧ TM w' p g room (fp L v pg) ∧ Only (Ft p g) w w' := by
  have hgl := h.lt (.inr rfl)
  have H : Hid (TM ((w.alloc (.cells #[.int .i64 v] 3)).alloc (.cells #[.int .u64 pg] 31)) p g room L) := h.below (((Below.refl _ _).alloc (Nat.le_refl _) _).alloc (by simp) _)
  have HK : Hid (∀ wr (x : TV), Only (· = g) ((w.alloc (.cells #[.int .i64 v] 3)).alloc (.cells #[.int .u64 pg] 31)) wr → Calls Try.prog 27 (#[x.ag] ++ #[.pointer (some ⟨w.heap.size, 0, none⟩), .pointer (some ⟨w.heap.size + 1, 0, none⟩)]) wr fun e w' => e = .returned (.bool (!x.here v pg)) ∧ Below wr.heap.size wr w') := fun wr (x : TV) ho => by
    have hb := ho.old (heap_alloc2_old w _ _) (show ¬ w.heap.size = g by omega)
    have hb' := ho.old (heap_alloc2_new w _ _) (show ¬ w.heap.size + 1 = g by omega)
    exact c_f2 wr w.heap.size (w.heap.size + 1) v pg (by rw [cell_of_row wr _ 0 _ _ _ hb]; rfl) (by rw [cell_of_row wr _ 0 _ _ _ hb']; rfl) (lt_of_block hb) (lt_of_block hb') x
  clear h
  go_enter Try.func18, Try.ntmps18
  go_wp2_with (go_at_call 25; refine (c_leave _ p g room L H.out 27 #[.pointer (some ⟨w.heap.size, 0, none⟩), .pointer (some ⟨w.heap.size + 1, 0, none⟩)] (fun x => !x.here v pg) (Try.call27) HK.out).mono ?_; rintro e w1 ⟨rfl, hm, ho⟩; have HM := hid hm; have HO := hid ho; clear hm ho)
  go_returns
  exact ⟨rfl, HM.out, (((Only.refl w).alloc _).alloc _).trans HO.out⟩
theorem c_FlushAll (w : World) (p g room : Nat) (L : List TV) (h : TM w p g room L) :
    Calls Try.prog 20 #[.pointer (some ⟨p, 0, none⟩)] w fun e w' => e = .returned (.tuple #[]) ∧ TM w' p g room [] ∧ Only (Ft p g) w w' := by
  have H := hid h
  have HK : Hid (∀ wr (x : TV), Only (· = g) w wr → Calls Try.prog 28 (#[x.ag] ++ #[]) wr fun e w' => e = .returned (.bool false) ∧ Below wr.heap.size wr w') := fun wr x ho => c_f0 wr x
  clear h
  go_enter Try.func20, Try.ntmps20
  go_wp2_with (go_at_call 25; refine (c_leave _ p g room L H.out 28 #[] (fun x => false) (Try.call28) HK.out).mono ?_; rintro e w1 ⟨rfl, hm, ho⟩; have HM := hid hm; have HO := hid ho; clear hm ho)
  go_returns
  have e1 : L.filter (fun _ => false) = [] := by simp
  exact ⟨rfl, by rw [← e1]; exact HM.out, HO.out⟩
end Go.Proofs.Ytgenjhcpcjhpmaa
