/- sync.Once: the list of bits is made at the first call; what all who may remember a frame come to. -/
import Derived.Test.YtehghhonhfmieaaFD
namespace Go.Proofs.Ytehghhonhfmieaa
open Go.RowKit
open C (Only hid Mem Still ret_bool ret_int put)
set_option linter.unusedVariables false
set_option maxRecDepth 100000

theorem k_disable (w : World) : (callFunc 73 #[]).run Try.prog w = .ok (.value (.tuple #[])) w := run_call_mark0 Try.func73 (by kernel_rfl) (by kernel_rfl) (by kernel_rfl) .disable (by kernel_rfl) w
theorem k_enable (w : World) : (callFunc 75 #[]).run Try.prog w = .ok (.value (.tuple #[])) w := run_call_mark0 Try.func75 (by kernel_rfl) (by kernel_rfl) (by kernel_rfl) .enable (by kernel_rfl) w
theorem k_acquire (a : Addr) (w : World) : (callFunc 76 #[.pointer (some a)]).run Try.prog w = .ok (.value (.tuple #[])) w := run_call_marked Try.func76 (by kernel_rfl) (by kernel_rfl) (by kernel_rfl) .acquire (by kernel_rfl) a w
theorem k_release (a : Addr) (w : World) : (callFunc 78 #[.pointer (some a)]).run Try.prog w = .ok (.value (.tuple #[])) w := run_call_marked Try.func78 (by kernel_rfl) (by kernel_rfl) (by kernel_rfl) .releaseMerge (by kernel_rfl) a w
theorem k_stored (a : Addr) (x : Value) (u : FrameMode) (w : World) (hc : w.cell? a = some x) (hz : w.frozen? a = false) :
    CallsD Try.prog 68 #[.pointer (some a), .bool true] u w fun e u' w' => u' = u ∧ (e = .returned (.tuple #[]) ∧ w' = w.drew.setCell a (.int .u32 1)) := by
  have hc' : w.drew.cell? a = some x := by go_simp
  have hz' : w.drew.frozen? a = false := by go_simp
  have hst := run_call_store (P := Try.prog) Try.func71 (by kernel_rfl) (by kernel_rfl) (by kernel_rfl) (by kernel_rfl) (k := .u32) (y := 1) hc' hz'
  go_enter_d Try.func68, Try.ntmps68
  go_wp2
  go_region_calls
  all_goals (go_end0; exact ⟨rfl, rfl⟩)
theorem k_unlock (a : Addr) (u : FrameMode) (w : World) (hc : w.cell? a = some (.int .i32 1)) (hz : w.frozen? a = false) :
    CallsD Try.prog 67 #[.pointer (some a)] u w fun e u' w' => u' = u ∧ (e = .returned (.tuple #[]) ∧ w' = w.setCell a (.int .i32 0)) := by
  have hd := k_disable
  have he := k_enable
  have hr := k_release
  have hadd := run_call_add (P := Try.prog) Try.func79 (by kernel_rfl) (by kernel_rfl) (by kernel_rfl) .i32 (by kernel_rfl) (y := -1) (s := 0) hc hz (by simp [go_sem]; rfl)
  have hcv := run_convert_to_unsafe (P := Try.prog) (src := 134) (dst := 138) Try.underlying134 Try.underlying138 (by kernel_rfl) hc
  go_enter_d Try.func67, Try.ntmps67
  go_wp2
  go_end0
  go_wp2
  all_goals (go_end0; exact ⟨rfl, rfl⟩)
theorem k_lock (a : Addr) (w : World) (hc : w.cell? a = some (.int .i32 0)) (hz : w.frozen? a = false) :
    Calls Try.prog 66 #[.pointer (some a)] w fun e w' => e = .returned (.tuple #[]) ∧ w' = w.setCell a (.int .i32 1) := by
  have hd := k_disable
  have he := k_enable
  have ha := k_acquire
  have hcas := run_call_cas_hit (P := Try.prog) Try.func74 (by kernel_rfl) (by kernel_rfl) (by kernel_rfl) .i32 (by kernel_rfl) (y := 1) hc hz
  have hc' : (w.setCell a (.int .i32 1)).cell? a = some (.int .i32 1) := World.cell?_setCell_same w a _ hc
  have hcv := run_convert_to_unsafe (P := Try.prog) (src := 134) (dst := 138) Try.underlying134 Try.underlying138 (by kernel_rfl) hc'
  go_enter Try.func66, Try.ntmps66
  go_wp2
  first | go_end0 | (simp only [Exit.inBlock, Exit.then]; refine bodyPost_ret (results_none rfl _ _ _) rfl ?_) | refine bodyPost_ret (results_none rfl _ _ _) rfl ?_
  go_wp2
  all_goals (go_end0; exact ⟨rfl, rfl⟩)
/-- a list of bits that was made -/
def Mb (w' : World) (p g b c : Nat) (v : PV) (d s : Int) : Prop := w'.heap[p]? = some (.cells (v.cells g d s (.slice (some ⟨b, 0, none⟩) (v.h + 1) c)) 81 (0, 0)) ∧ v.h + 1 ≤ c ∧ ∃ cur, w'.heap[b]? = some (.cells cur 30 (0, 0)) ∧ ∀ j, j ≤ v.h → cur[j]? = some (.int .u64 (btN v.h j))
set_option maxHeartbeats 1600000 in
theorem k_slow (c g : Nat) (w : World) (v : PV) (v1 : v.h ≤ 8) (h : w.heap[c]? = some (.cells (v.cells g 0 0 (.slice none 0 0)) 81 (0, 0))) :
    Calls Try.prog 64 #[.pointer (some ⟨c, 4, none⟩), .func (.func 55) #[.pointer (some ⟨c, 0, none⟩)] #[]] w fun e w' => e = .returned (.tuple #[]) ∧
      (∃ b q, Mb w' c g b q v 1 0 ∧ w.heap.size ≤ b) ∧ Only (· = c) w w' := by
  have hlt := lt_of_block h
  have h0 : w.cell? ⟨c, 4, none⟩ = some (.int .u32 0) := cell_of_row w c 4 _ _ _ h
  have h1 : w.cell? ⟨c, 5, none⟩ = some (.int .i32 0) := cell_of_row w c 5 _ _ _ h
  have fz : ∀ k, w.frozen? ⟨c, k, none⟩ = false := fun k => by simp [World.frozen?, h]
  have e1 := setRowB w c 5 _ (v.cells g 0 1 (.slice none 0 0)) 81 (.int .i32 1) h rfl
  have ho1 : Only (· = c) w (w.setCell ⟨c, 5, none⟩ (.int .i32 1)) := only_c w c 5 _
  have hl := run_call_load (P := Try.prog) Try.func65 (by kernel_rfl) (by kernel_rfl) (by kernel_rfl) .u32 (by kernel_rfl) (w := w.setCell ⟨c, 5, none⟩ (.int .i32 1)) (a := ⟨c, 4, none⟩) (x := 0) ((World.cell?_setCell_other _ ⟨c, 5, none⟩ ⟨c, 4, none⟩ _ (by simp)).trans h0)
  have hnot : ∀ (x : Bool) (w : World), (Op.unary .not (.bool x)).run Try.prog w = .ok (.bool (!x)) w := fun _ _ => rfl
  have E1 := hid e1
  have O1 := hid ho1
  clear e1 ho1
  go_enter_defers Try.func64, Try.ntmps64
  go_wp2_with (first
    | (go_at_call 66; refine (k_lock ⟨c, 5, none⟩ _ h1 (fz _)).mono ?_; rintro e w' ⟨rfl, rfl⟩)
    | (go_at_call 55; refine (x_lay _ c g 0 1 v v1 E1.out).mono ?_; rintro e w2 ⟨rfl, b, q, cur, m1, m2, m3, m4, m5, m6⟩; have E2 := hid m1; have T2 : Hid (v.h + 1 ≤ q ∧ ∃ cur : Array Value, w2.heap[b]? = some (.cells cur 30 (0, 0)) ∧ ∀ j, j ≤ v.h → cur[j]? = some (.int .u64 (btN v.h j))) := ⟨m2, cur, m3, m4⟩; have O2 := hid m6; have B2 := hid m5; clear m1 m2 m3 m4 m5 m6)
    | (go_at_call 63; go_in))
  refine leaves_cons (f := 68) (args := #[.pointer (some ⟨c, 4, none⟩), .bool true]) (by simp) (by simp [go_sem]) ?_
  have g0 : w2.cell? ⟨c, 4, none⟩ = some (.int .u32 0) := cell_of_row w2 c 4 _ _ _ E2.out
  have g1 : w2.cell? ⟨c, 5, none⟩ = some (.int .i32 1) := cell_of_row w2 c 5 _ _ _ E2.out
  have z0 : ∀ k, w2.frozen? ⟨c, k, none⟩ = false := fun k => frozen_of_row w2 c k _ _ E2.out
  refine (k_stored ⟨c, 4, none⟩ (.int .u32 0) .returning _ g0 (z0 _)).mono ?_
  rintro e u' w'' ⟨rfl, rfl, rfl⟩
  refine leaves_cons (f := 67) (args := #[.pointer (some ⟨c, 5, none⟩)]) (by simp [settle]) (by simp [go_sem]) ?_
  refine (k_unlock ⟨c, 5, none⟩ _ _ ?_ (by simp [z0])).mono ?_
  · exact (World.cell?_setCell_other _ ⟨c, 4, none⟩ ⟨c, 5, none⟩ _ (by simp)).trans g1
  rintro e u' w'' ⟨rfl, rfl, rfl⟩
  have e4 := setRowB w2.drew c 4 _ (v.cells g 1 1 (.slice (some ⟨b, 0, none⟩) (v.h + 1) q)) 81 (.int .u32 1) E2.out rfl
  have e5 := setRowB _ c 5 _ (v.cells g 1 0 (.slice (some ⟨b, 0, none⟩) (v.h + 1) q)) 81 (.int .i32 0) e4 rfl
  have hM : Mb ((w2.drew.setCell ⟨c, 4, none⟩ (.int .u32 1)).setCell ⟨c, 5, none⟩ (.int .i32 0)) c g b q v 1 0 := by
    obtain ⟨q1, cur, q2, q3⟩ := T2.out
    have hne : b ≠ c := fun q => by subst q; rw [E2.out] at q2; simp at q2
    exact ⟨e5, q1, cur, (only_c _ c 5 _).old ((only_c w2.drew c 4 _).old q2 hne) hne, q3⟩
  have hO : Only (· = c) w ((w2.drew.setCell ⟨c, 4, none⟩ (.int .u32 1)).setCell ⟨c, 5, none⟩ (.int .i32 0)) := ((O1.out.trans O2.out).drew.trans (only_c _ _ _ _)).trans (only_c _ _ _ _)
  have hB : w.heap.size ≤ b := Nat.le_trans O1.out.size B2.out
  simp [Leaves, settle, results, Try.results64]
  exact ⟨⟨b, ⟨q, hM⟩, hB⟩, hO⟩
theorem k_Do (c g : Nat) (w : World) (v : PV) (v1 : v.h ≤ 8) (d : Int) (k : Value) (B : Nat → Prop) (h : w.heap[c]? = some (.cells (v.cells g d 0 k) 81 (0, 0))) (hb : Bt w v.h d k B) :
    Calls Try.prog 54 #[.pointer (some ⟨c, 4, none⟩), .func (.func 55) #[.pointer (some ⟨c, 0, none⟩)] #[]] w fun e w' => e = .returned (.tuple #[]) ∧
      (∃ b q, Mb w' c g b q v 1 0 ∧ (B b ∨ w.heap.size ≤ b)) ∧ Only (· = c) w w' := by
  have hnot : ∀ (x : Bool) (w : World), (Op.unary .not (.bool x)).run Try.prog w = .ok (.bool (!x)) w := fun _ _ => rfl
  rcases hb with ⟨rfl, rfl, _⟩ | ⟨rfl, b, q, cur, rfl, z1, z2, z3, z4⟩
  · have h0 : w.cell? ⟨c, 4, none⟩ = some (.int .u32 0) := cell_of_row w c 4 _ _ _ h
    have hl := run_call_load (P := Try.prog) Try.func65 (by kernel_rfl) (by kernel_rfl) (by kernel_rfl) .u32 (by kernel_rfl) h0
    go_enter Try.func54, Try.ntmps54
    go_wp2_with (first
      | (go_at_call 64; refine (k_slow c g _ v v1 h).mono ?_; rintro e w' ⟨rfl, ⟨b, q, hE, hB⟩, hO⟩)
      | (go_at_call 63; go_in))
    go_end0
    exact ⟨rfl, ⟨b, q, hE, .inr hB⟩, hO⟩
  · have h0 : w.cell? ⟨c, 4, none⟩ = some (.int .u32 1) := cell_of_row w c 4 _ _ _ h
    have hl := run_call_load (P := Try.prog) Try.func65 (by kernel_rfl) (by kernel_rfl) (by kernel_rfl) .u32 (by kernel_rfl) h0
    have HM := hid (⟨h, z1, cur, z2, z3⟩ : Mb w c g b q v 1 0)
    have HB := hid ((z4 b).2 rfl)
    clear z2 z3 z4
    go_enter Try.func54, Try.ntmps54
    go_wp2
    go_end0
    exact ⟨rfl, ⟨b, q, HM.out, .inl HB.out⟩, .refl w⟩
/-- the list: what it is, and that only the pool's own block, and new ones, have turned -/
theorem x_list (w : World) (p g : Nat) (d : Int) (k : Value) (B S : Nat → Prop) (v : PV) (f : Nat → Int) (v1 : v.h ≤ 8) (h : PL w p g d k B S v f) :
    Calls Try.prog 38 #[.pointer (some ⟨p, 0, none⟩)] w fun e w' => ∃ b q, e = .returned (.slice (some ⟨b, 0, none⟩) (v.h + 1) q) ∧ v.h + 1 ≤ q ∧ PL w' p g 1 (.slice (some ⟨b, 0, none⟩) (v.h + 1) q) (· = b) S v f ∧ (∀ j, j ≤ v.h → w'.cell? ⟨b, j, none⟩ = some (.int .u64 (btN v.h j))) ∧ Only (· = p) w w' ∧ (B b ∨ w.heap.size ≤ b) := by
  have hd := k_Do p g w v v1 d k B h.top h.bits
  have H := hid h
  clear h
  go_enter Try.func38, Try.ntmps38
  go_wp2_with (go_at_call 54; refine hd.mono ?_; rintro e w' ⟨rfl, ⟨b, q, hM, hB⟩, hO⟩; have HM := hid hM; have HB := hid hB; have HO := hid hO; have c7 : w'.cell? ⟨p, 7, none⟩ = some (.slice (some ⟨b, 0, none⟩) (v.h + 1) q) := cell_of_row w' p 7 _ _ _ hM.1; clear hM hB hO)
  go_ret
  obtain ⟨m1, m2, cur, m3, m4⟩ := HM.out
  refine ⟨b, q, rfl, m2, ⟨m1, HO.out.old H.out.tab (fun e => H.out.pg e.symm), .inr ⟨rfl, b, q, cur, rfl, m2, m3, m4, fun x => Iff.rfl⟩, H.out.mem.only HO.out fun x hx e => H.out.pS (e ▸ hx)⟩, fun j hj => ?_, HO.out, HB.out⟩
  rw [cell_of_row w' b j _ _ _ m3]
  exact m4 j hj
theorem or_step (h j : Nat) (h1 : h ≤ 8) (hj : j ≤ h) : bits .or .u64 (orN h j : Int) (btN h j : Int) = (orN h (j + 1) : Int) := by
  have a : orN h j < 18446744073709551616 := by
    have : ∀ h j : Fin 9, orN h j < 18446744073709551616 := by decide +kernel
    exact this ⟨h, by omega⟩ ⟨j, by omega⟩
  rw [bits_or_u64_nat _ _ a (show btN h j < _ from bk_lt _), or_step0 ⟨h, by omega⟩ ⟨j, by omega⟩ hj]
theorem x_everybody (w : World) (p g : Nat) (d : Int) (k : Value) (B S : Nat → Prop) (v : PV) (f : Nat → Int) (v1 : v.h ≤ 8) (h : PL w p g d k B S v f) :
    Calls Try.prog 36 #[.pointer (some ⟨p, 0, none⟩)] w fun e w' => e = .returned (.int .u64 (encN (msk v.h))) ∧ ∃ b q, PL w' p g 1 (.slice (some ⟨b, 0, none⟩) (v.h + 1) q) (· = b) S v f ∧ Only (· = p) w w' ∧ (B b ∨ w.heap.size ≤ b) := by
  have hd := x_list w p g d k B S v f v1 h
  clear h
  go_enter Try.func36, Try.ntmps36
  go_wp2_with (go_at_call 38; refine hd.mono ?_; rintro e w' ⟨b, q, rfl, m1, m2, m3, m4, m5⟩; have M2 := hid m2; have M3 := hid m3; have M4 := hid m4; have M5 := hid m5; clear m2 m3 m4 m5)
  go_loopw [3, 5, 9] (fun a u i wr => ∃ j : Nat, j ≤ v.h + 1 ∧ i = .int .i64 j ∧ a = .int .u64 (orN v.h j) ∧ wr = w') (fun a u i _ => v.h + 1 - (intOf i).toNat)
  case atStart => exact ⟨0, by omega, rfl, by simp [orN], rfl⟩
  case round =>
    obtain ⟨j, hj, rfl, rfl, hw⟩ := hrel
    obtain rfl := hw.symm
    by_cases hlt : j < v.h + 1
    · have c4 := M3.out j (by omega)
      have ho := or_step v.h j v1 (by omega)
      go_wp2
      go_roundw
      case rel => exact ⟨j + 1, by omega, by go_num, by rw [← ho], trivial⟩
      case measure => simp [intOf]; omega
    · obtain rfl : j = v.h + 1 := by omega
      have he : orN v.h (v.h + 1) = encN (msk v.h) := or_end0 ⟨v.h, by omega⟩
      go_wp2
      go_ret
      exact ⟨by rw [← he]; rfl, b, ⟨q, M2.out⟩, M4.out, M5.out⟩
end Go.Proofs.Ytehghhonhfmieaa
