/- The list of bits, made once. -/
import Derived.Test.YtehghhonhfmieaaMH1
namespace Go.Proofs.Ytehghhonhfmieaa
open Go.RowKit
open C (Only hid Mem Still ret_bool ret_int put)
set_option linter.unusedVariables false
set_option maxRecDepth 100000

theorem info_u64 : (Try.prog.info? 30).map (fun i => (i.zero, i.size, i.bytes)) = some (some (.int .u64 0), 1, 8) := by kernel_rfl
theorem u_su64 : Try.prog.underlying 79 = some (.slice 30) := by kernel_rfl
/-- the bits so far, as cells -/
def btc (h j : Nat) : List Value := (List.range j).map fun i => .int .u64 (btN h i)
theorem btc_step (h j : Nat) : btc h (j + 1) = btc h j ++ [.int .u64 (btN h j)] := by simp [btc, List.range_succ]
theorem shl_bit (h j : Nat) (hj : j < h) (h1 : h ≤ 8) : ((2 : Int) ^ j) = (btN h j : Int) := by
  unfold btN ps bkN
  rw [if_pos hj, if_pos (by omega)]
  simp
theorem own_old {w w' : World} {base : Nat} {e : TypeId} {size : Nat} {v : Value} {n : Nat} {xs : List Value} (h : w.ownsRow base e size v n xs) (hb : ∀ k, k < w.heap.size → w'.heap[k]? = w.heap[k]?) : w'.ownsRow base e size v n xs := by
  refine ⟨h.1, ?_⟩
  rcases h.2 with z | ⟨g, cap, cur, h1, h2, h3, h4⟩
  · exact .inl z
  · exact .inr ⟨g, cap, cur, h1, h2, (hb g (lt_of_block h3)).trans h3, h4⟩
theorem own_slice {w : World} {base : Nat} {e : TypeId} {size : Nat} {v : Value} {n : Nat} {xs : List Value} (h : w.ownsRow base e size v n xs) : ∃ ad c, v = .slice ad n c ∧ ∀ a, ad = some a → base ≤ a.block := by
  rcases h.2 with ⟨h1, h2⟩ | ⟨g, cap, cur, h1, h2, h3, h4⟩
  · exact ⟨none, 0, by rw [h1, h2], fun a q => by cases q⟩
  · exact ⟨_, cap, h1, fun a q => by cases q; exact h2⟩
theorem one_new (w : World) (V : Value) (t : TypeId) (i : Nat) (u : Value) (h : [V][i]? = some u) : (w.alloc (.cells #[V] t)).drew.cell? ((⟨w.heap.size, 0, none⟩ : Addr).add i) = some u := by
  obtain rfl : i = 0 := by
    rcases Nat.eq_zero_or_pos i with z | z
    · exact z
    · rw [List.getElem?_eq_none (by simp; omega)] at h; cases h
  rw [C.addr_add]
  have : (w.alloc (.cells #[V] t)).cell? ⟨w.heap.size, 0, none⟩ = some V := cell_of_row _ _ 0 _ _ _ (heap_alloc_new w _)
  simp at h
  subst h
  exact this
/-- what grows is a list of its own: older blocks stay -/
theorem grown_own {w w' : World} {ad : Option Addr} {n c base : Nat} (hg : w.grownBy w' (Value.slice ad n c).ownBlock) (ha : ∀ a, ad = some a → base ≤ a.block) {k : Nat} (hk : k < w.heap.size) (hb : k < base) : w'.heap[k]? = w.heap[k]? := by
  refine hg.block k hk fun q => ?_
  cases ad with
  | none => cases q
  | some a =>
    have := ha a rfl
    simp [Value.ownBlock] at q
    omega
theorem grown_only {w w' : World} {ad : Option Addr} {n c base : Nat} {S : Nat → Prop} (hg : w.grownBy w' (Value.slice ad n c).ownBlock) (ha : ∀ a, ad = some a → base ≤ a.block) : Only (fun k => base ≤ k) w w' :=
  ⟨hg.os, hg.tape, hg.output, hg.size, fun k hk hs => grown_own hg ha hk (by omega)⟩
theorem one_new' (w : World) (V : Value) (t : TypeId) (i : Nat) (u : Value) (h : [V][i]? = some u) : (w.alloc (.cells #[V] t)).cell? ((⟨w.heap.size, 0, none⟩ : Addr).add i) = some u := one_new w V t i u h
theorem lay_step {w wr w2 : World} {p : Nat} {cs cs' : Array Value} {v' : Value} {n : Nat} {xs : List Value} (h1 : wr.heap[p]? = some (.cells cs 81 (0, 0))) (he : cs.setIfInBounds 7 v' = cs') (h2 : w2.heap[p]? = wr.heap[p]?) (hp : p < w.heap.size) (h3 : Only (fun k => w.heap.size ≤ k) wr w2) (h4 : Only (· = p) w wr) (ho : w2.ownsRow w.heap.size 30 1 v' n xs) :
    (w2.setCell ⟨p, 7, none⟩ v').heap[p]? = some (.cells cs' 81 (0, 0)) ∧ (w2.setCell ⟨p, 7, none⟩ v').ownsRow w.heap.size 30 1 v' n xs ∧ Only (· = p) w (w2.setCell ⟨p, 7, none⟩ v') := by
  refine ⟨setRowB w2 p 7 _ _ _ _ (h2.trans h1) he, ?_, ?_⟩
  · refine ⟨ho.1, ?_⟩
    rcases ho.2 with z | ⟨g, cap, cur, z1, z2, z3, z4⟩
    · exact .inl z
    · exact .inr ⟨g, cap, cur, z1, z2, (only_c w2 p 7 v').old z3 (by omega), z4⟩
  · exact (h4.trans' h3 (fun i hi q => by omega)).trans (only_c w2 p 7 v')
set_option maxHeartbeats 2000000 in
theorem x_lay (w : World) (p g : Nat) (d s : Int) (v : PV) (h1 : v.h ≤ 8) (h : w.heap[p]? = some (.cells (v.cells g d s (.slice none 0 0)) 81 (0, 0))) :
    Calls Try.prog 55 #[.pointer (some ⟨p, 0, none⟩)] w fun r w' => r = .returned (.tuple #[]) ∧ ∃ b c cur, w'.heap[p]? = some (.cells (v.cells g d s (.slice (some ⟨b, 0, none⟩) (v.h + 1) c)) 81 (0, 0)) ∧ v.h + 1 ≤ c ∧ w'.heap[b]? = some (.cells cur 30 (0, 0)) ∧ (∀ j, j ≤ v.h → cur[j]? = some (.int .u64 (btN v.h j))) ∧ w.heap.size ≤ b ∧ Only (· = p) w w' := by
  have hlt := lt_of_block h
  have c2 : w.cell? ⟨p, 2, none⟩ = some (.int .i64 v.h) := cell_of_row w p 2 _ _ _ h
  obtain ⟨i0, hi0, hz0, hz1, hz2⟩ := info_parts info_u64
  go_enter Try.func55, Try.ntmps55
  go_wp2
  go_loopw [7] (fun i wr => ∃ (j : Nat) (k : Value), j ≤ v.h ∧ i = .int .i64 j ∧ Hid (wr.heap[p]? = some (.cells (v.cells g d s k) 81 (0, 0)) ∧ wr.ownsRow w.heap.size 30 1 k j (btc v.h j) ∧ Only (· = p) w wr)) (fun i _ => v.h - (intOf i).toNat)
  case atStart => exact ⟨0, .slice none 0 0, by omega, rfl, h, World.ownsRow_nil _ _ _ _, .refl w⟩
  case round =>
    obtain ⟨j, k, hj, rfl, hI⟩ := hrel
    have d2 : wr.cell? ⟨p, 2, none⟩ = some (.int .i64 v.h) := cell_of_row wr p 2 _ _ _ hI.out.1
    have d7 : wr.cell? ⟨p, 7, none⟩ = some k := cell_of_row wr p 7 _ _ _ hI.out.1
    have z7 : wr.frozen? ⟨p, 7, none⟩ = false := frozen_of_row wr p 7 _ _ hI.out.1
    have hlt2 := lt_of_block hI.out.1
    by_cases hq : j < v.h
    · obtain ⟨ad, c, rfl, had⟩ := own_slice hI.out.2.1
      have HAD := hid had
      clear had
      have HD : Hid (∀ x, Below wr.heap.size wr (wr.alloc x).drew) := fun x => ((Below.refl _ _).alloc (Nat.le_refl _) x).drew
      have HS : Hid (IntKind.u64.wrap (2 ^ j) = (btN v.h j : Int)) := by
        show _ = _
        rw [shl_bit v.h j hq h1, IntKind.wrap_u64]
        have : btN v.h j < 18446744073709551616 := bk_lt _
        omega
      have HN := hid (one_new wr (.int .u64 (IntKind.u64.wrap (2 ^ j))) 30)
      have hW : w.heap.size ≤ wr.heap.size := hI.out.2.2.size
      have hz : ∀ w2, (wr.alloc (.cells #[.int .u64 (IntKind.u64.wrap (2 ^ j))] 30)).drew.grownBy w2 (Value.slice ad j c).ownBlock → w2.heap[p]? = wr.heap[p]? ∧ Only (fun k => w.heap.size ≤ k) wr w2 := fun w2 hg => ⟨(grown_own hg HAD.out (by simp; omega) hlt).trans ((HD.out _).block p hlt2), ((Only.ofBelow (HD.out _)).trans (grown_only (S := fun _ => False) hg HAD.out))⟩
      have HZ := hid hz
      clear hz
      go_wp2
      go_region_law (refine C.step_append_own rfl (.tmp 14) (.tmp 17) 79 rfl w.heap.size 30 i0 (.int .u64 0) 1 8 u_su64 hi0 hz0 hz1 hz2 rfl (by decide) (.slice ad j c) j (btc v.h j) (by go_simp) (own_old hI.out.2.1 (HD.out _).block) ⟨wr.heap.size, 0, none⟩ 1 1 [.int .u64 (IntKind.u64.wrap (2 ^ j))] (by go_simp) rfl HN.out (by intro u hu; simp at hu; subst hu; rfl) (show j + 1 ≤ 9223372036854775807 by omega) (by omega) (by simp; omega) ?_; intro v' w2 hown hgrow; obtain ⟨ad2, c2', rfl, had2⟩ := own_slice hown; have HO2 := hid hown; have HG2 := hid (HZ.out w2 hgrow); have y7 : w2.cell? ⟨p, 7, none⟩ = some (.slice ad j c) := (World.cell?_of_block (w := wr) HG2.out.1).trans d7; have y8 : w2.frozen? ⟨p, 7, none⟩ = false := (World.frozen?_of_block (w := wr) HG2.out.1).trans z7; clear hown hgrow had2)
      all_goals (
        go_wp2
        go_roundw
        case rel => exact ⟨j + 1, .slice ad2 (j + 1) c2', by omega, by go_num, lay_step (cs := v.cells g d s (.slice ad j c)) (cs' := v.cells g d s (.slice ad2 (j + 1) c2')) hI.out.1 rfl HG2.out.1 hlt HG2.out.2 hI.out.2.2 (by rw [btc_step, ← HS.out]; exact HO2.out)⟩
        case measure => simp [intOf]; omega)
    · obtain rfl : j = v.h := by omega
      obtain ⟨ad, c, rfl, had⟩ := own_slice hI.out.2.1
      have HAD := hid had
      clear had
      have hW : w.heap.size ≤ wr.heap.size := hI.out.2.2.size
      have HD : Hid (∀ x, Below wr.heap.size wr (wr.alloc x)) := fun x => (Below.refl _ _).alloc (Nat.le_refl _) x
      have HN := hid (one_new' wr (.int .u64 9223372036854775808) 30)
      have HZ : Hid (∀ w2, (wr.alloc (.cells #[.int .u64 9223372036854775808] 30)).grownBy w2 (Value.slice ad v.h c).ownBlock → w2.heap[p]? = wr.heap[p]? ∧ Only (fun k => w.heap.size ≤ k) wr w2) := fun w2 hg => ⟨(grown_own hg HAD.out (by simp; omega) hlt).trans ((HD.out _).block p hlt2), ((Only.ofBelow (HD.out _)).trans (grown_only (S := fun _ => False) hg HAD.out))⟩
      go_wp2_with (at_builtin; refine wpList_append_own _ rfl (.tmp 26) (.tmp 27) 79 rfl w.heap.size 30 i0 (.int .u64 0) 1 8 u_su64 hi0 hz0 hz1 hz2 rfl (by decide) (.slice ad v.h c) v.h (btc v.h v.h) rfl (own_old hI.out.2.1 (HD.out _).block) ⟨wr.heap.size, 0, none⟩ 1 1 [.int .u64 9223372036854775808] rfl rfl HN.out (by intro u hu; simp at hu; subst hu; rfl) (show v.h + 1 ≤ 9223372036854775807 by omega) (by omega) (by simp; omega) ?_; intro v' w2 hown hgrow _; obtain ⟨ad2, c2', rfl, had2⟩ := own_slice hown; have HO2 := hid hown; have HG2 := hid (HZ.out w2 hgrow); have y7 : w2.cell? ⟨p, 7, none⟩ = some (.slice ad v.h c) := (World.cell?_of_block (w := wr) HG2.out.1).trans d7; have y8 : w2.frozen? ⟨p, 7, none⟩ = false := (World.frozen?_of_block (w := wr) HG2.out.1).trans z7; clear hown hgrow had2)
      go_returns
      have hL := lay_step (cs := v.cells g d s (.slice ad v.h c)) (cs' := v.cells g d s (.slice ad2 (v.h + 1) c2')) hI.out.1 rfl HG2.out.1 hlt HG2.out.2 hI.out.2.2 (xs := btc v.h (v.h + 1)) (by rw [btc_step, show btN v.h v.h = 9223372036854775808 by unfold btN ps bkN; rw [if_neg (Nat.lt_irrefl _)]; rfl]; exact HO2.out)
      obtain ⟨q1, q2, q3⟩ := hL
      obtain ⟨b, c3, cur, e1, e2, e3, e4, e5⟩ := C.own_some q2 (by omega)
      cases e1
      refine ⟨rfl, b, _, cur, q1, e4, e3, fun j hj => ?_, e2, q3⟩
      have h5 : (btc v.h (v.h + 1))[j]? = some (.int .u64 (btN v.h j)) := by simp [btc, List.getElem?_range (show j < v.h + 1 by omega)]
      rw [← e5, List.getElem?_take_of_lt (by omega)] at h5
      simpa using h5
end Go.Proofs.Ytehghhonhfmieaa
