/- IommuPlays: the walk. -/
import Derived.Test.YtfoafgbhelgjcaaGreatMH7
import Derived.Test.YtfoafgbhelgjcaaGreatMC4
import Derived.Test.YtfoafgbhelgjcaaGreatMC3
namespace Go.Proofs.YtfoafgbhelgjcaaGreat
open Go.RowKit
open C (Only hid Mem Still ret_int ret_bool put byt nu RMem hasB fcl Cl)
set_option linter.unusedVariables false
set_option maxRecDepth 100000

theorem m_New_bad (w : World) (m : Nat) (x : Int) (h : x < 1 ∨ 64 < x) : Calls Tryz.prog 12 #[.pointer (some ⟨m, 0, none⟩), .int .i64 x] w fun e w' => e = .returned (.tuple #[.pointer none, .int .i64 1]) ∧ Below w.heap.size w w' := by
  go_enter Tryz.func12, Tryz.ntmps12
  go_wp2_with ((go_at_call 45; refine (E.c_New_bad _ x h).mono ?_; rintro e w1 ⟨rfl, hw1⟩; obtain rfl := hw1.symm))
  go_ret2
  exact ⟨rfl, Below.refl _ _⟩
set_option maxHeartbeats 1000000 in
theorem l_New_bad (w : World) (x : Int) (h : x < 1 ∨ 64 < x) (ad : Option Addr) (la cap ab ao : Nat) (X : Nat → Int × Int) (hX : Cl w ad la cap ab ao X) :
    Calls Tryz.prog 4 #[.int .i64 x, .slice ad la cap] w fun e w' => ∃ m q, e = .returned (.tuple #[.agg #[.pointer none, .pointer none, .pointer (some ⟨m, 0, none⟩), .pointer (some ⟨q, 0, none⟩)], .bool true]) ∧ Below w.heap.size w w' := by
  have HX := hid hX
  clear hX
  go_enter Tryz.func4, Tryz.ntmps4
  go_wp2_with (first
    | (go_at_call 11; refine (C.c_Memory _ 8 (by decide) (by decide) ad la cap ab ao X (HX.out.below ((Below.refl _ _).alloc (Nat.le_refl _) _))).mono ?_; rintro e w1 ⟨m, q, U, rfl, ht, hb, hu⟩; have HT := hid ht; have P0 := hid ((hb.block w.heap.size (by simp)).trans (heap_alloc_new w _)); have HB := hid (((Below.refl w.heap.size w).alloc (Nat.le_refl _) _).trans (hb.mono (by simp))); have HU : Hid (∀ k, U k → w.heap.size < k) := (fun k hk => by have := hu k hk; simp at this; omega); clear ht hb hu)
    | (go_at_call 12; refine (m_New_bad _ m x h).mono ?_; rintro e w2 ⟨rfl, i3⟩; have I3 : Hid (Below w1.heap.size w1 w2) := ((Below.refl _ _).alloc (Nat.le_refl _) _).trans (i3.mono (by simp)); have P1 := hid ((i3.block w1.heap.size (by simp)).trans (heap_alloc_new w1 _)); have y0 : w2.cell? ⟨w1.heap.size, 0, none⟩ = some (.pointer (some ⟨m, 0, none⟩)) := (by rw [cell_of_row w2 _ 0 _ _ _ P1.out]; rfl); have y1 : w2.cell? ⟨w1.heap.size, 1, none⟩ = some (.pointer (some ⟨q, 0, none⟩)) := (by rw [cell_of_row w2 _ 1 _ _ _ P1.out]; rfl); clear i3)
    | (go_at_call 13; refine (r7_New_bad _ q x h).mono ?_; rintro e w3 ⟨rfl, hb3⟩; have HB3 := hid hb3; have z0 : w3.cell? ⟨w1.heap.size, 0, none⟩ = some (.pointer (some ⟨m, 0, none⟩)) := (by rw [cell_of_row w3 _ 0 _ _ _ ((hb3.block _ (lt_of_block P1.out)).trans P1.out)]; rfl); have z1 : w3.cell? ⟨w1.heap.size, 1, none⟩ = some (.pointer (some ⟨q, 0, none⟩)) := (by rw [cell_of_row w3 _ 1 _ _ _ ((hb3.block _ (lt_of_block P1.out)).trans P1.out)]; rfl); have p3 := ((I3.out.trans (hb3.mono I3.out.size)).block _ (lt_of_block P0.out)).trans P0.out; have P3 := hid p3; have c0 : w3.cell? ⟨w.heap.size, 0, none⟩ = some (.pointer none) := (by rw [cell_of_row w3 _ 0 _ _ _ p3]; rfl); have c1 : w3.cell? ⟨w.heap.size, 1, none⟩ = some (.pointer none) := (by rw [cell_of_row w3 _ 1 _ _ _ p3]; rfl); have c2 : w3.cell? ⟨w.heap.size, 2, none⟩ = some (.pointer none) := (by rw [cell_of_row w3 _ 2 _ _ _ p3]; rfl); have c3 : w3.cell? ⟨w.heap.size, 3, none⟩ = some (.pointer none) := (by rw [cell_of_row w3 _ 3 _ _ _ p3]; rfl); have cf : ∀ j, w3.frozen? ⟨w.heap.size, j, none⟩ = false := (fun j => frozen_of_row w3 _ j _ _ p3); clear hb3 p3))
  have ho6 := (((only1 w3 w.heap.size 0 (.pointer none)).trans (only1 _ w.heap.size 1 (.pointer none))).trans (only1 _ w.heap.size 2 (.pointer (some ⟨m, 0, none⟩)))).trans (only1 _ w.heap.size 3 (.pointer (some ⟨q, 0, none⟩)))
  have h6 := setFour P3.out (.pointer none) (.pointer none) (.pointer (some ⟨m, 0, none⟩)) (.pointer (some ⟨q, 0, none⟩))
  generalize (((w3.setCell ⟨w.heap.size, 0, none⟩ (.pointer none)).setCell ⟨w.heap.size, 1, none⟩ (.pointer none)).setCell ⟨w.heap.size, 2, none⟩ (.pointer (some ⟨m, 0, none⟩))).setCell ⟨w.heap.size, 3, none⟩ (.pointer (some ⟨q, 0, none⟩)) = w6 at *
  clear y0 y1 c0 c1 c2 c3 cf z0 z1
  have y0 : w6.cell? ⟨w.heap.size, 0, none⟩ = some (.pointer none) := by rw [cell_of_row w6 _ 0 _ _ _ h6]; rfl
  have y1 : w6.cell? ⟨w.heap.size, 1, none⟩ = some (.pointer none) := by rw [cell_of_row w6 _ 1 _ _ _ h6]; rfl
  have y2 : w6.cell? ⟨w.heap.size, 2, none⟩ = some (.pointer (some ⟨m, 0, none⟩)) := by rw [cell_of_row w6 _ 2 _ _ _ h6]; rfl
  have y3 : w6.cell? ⟨w.heap.size, 3, none⟩ = some (.pointer (some ⟨q, 0, none⟩)) := by rw [cell_of_row w6 _ 3 _ _ _ h6]; rfl
  refine bodyPost_ret (by simp [results, Tryz.results4, go_sem, y0, y1, y2, y3]; rfl) rfl ?_
  have B13 : Below w1.heap.size w1 w3 := I3.out.trans (HB3.out.mono I3.out.size)
  exact ⟨m, q, rfl, (HB.out.trans (B13.mono HB.out.size)).trans ((ho6.below w.heap.size (Nat.le_trans HB.out.size B13.size) fun k e => by omega))⟩
/-- a round of the loop: whether the call is done (a), whether the entries are there (c) -/
structure JZ (W wl : World) (ob : Nat) (F G : Nat → Prop) (u b q r : Nat) (v : UV) (f : Nat → Int) (room : Nat) (L : List E.TV) (M : List MV) (a c lo : Bool) (lv ev : Value) (wr : World) : Prop where
  on : wr.heap[ob]? = some (.cells #[.pointer (some ⟨u, 0, none⟩), .pointer (some ⟨b, 0, none⟩), .pointer (some ⟨v.m, 0, none⟩), .pointer (some ⟨q, 0, none⟩)] 31 (0, 0))
  bw : Below W.heap.size W wr
  p0 : a = false → PW wr W.heap.size F G u b q r v 8 f room L M ∧ Kp W.heap.size wl F G wr F G
  p1 : a = true → ∃ F' G' v' f' L' M', PW wr W.heap.size F' G' u b q r v' 8 f' room L' M' ∧ Kp W.heap.size wl F G wr F' G' ∧ M'.length ≤ M.length + 1 ∧ v'.t = v.t ∧ v'.m = v.m ∧ v'.lost = lo ∧ wr.cell? ⟨r, 1, none⟩ = some lv ∧ E.Rd wr lv L' ∧ (c = true → E.Rd wr ev L')
section
variable {W wl wr w3 : World} {ob : Nat} {F G : Nat → Prop} {u b q r : Nat} {v : UV} {f : Nat → Int} {room : Nat} {L : List E.TV} {M : List MV} {a c lo : Bool} {lv ev : Value}
theorem JZ.c0 (h : JZ W wl ob F G u b q r v f room L M a c lo lv ev wr) : wr.cell? ⟨ob, 0, none⟩ = some (.pointer (some ⟨u, 0, none⟩)) := by rw [cell_of_row wr _ 0 _ _ _ h.on]; rfl
theorem JZ.c1 (h : JZ W wl ob F G u b q r v f room L M a c lo lv ev wr) : wr.cell? ⟨ob, 1, none⟩ = some (.pointer (some ⟨b, 0, none⟩)) := by rw [cell_of_row wr _ 1 _ _ _ h.on]; rfl
theorem JZ.c2 (h : JZ W wl ob F G u b q r v f room L M a c lo lv ev wr) : wr.cell? ⟨ob, 2, none⟩ = some (.pointer (some ⟨v.m, 0, none⟩)) := by rw [cell_of_row wr _ 2 _ _ _ h.on]; rfl
theorem JZ.c3 (h : JZ W wl ob F G u b q r v f room L M a c lo lv ev wr) : wr.cell? ⟨ob, 3, none⟩ = some (.pointer (some ⟨q, 0, none⟩)) := by rw [cell_of_row wr _ 3 _ _ _ h.on]; rfl
theorem JZ.tu (h : JZ W wl ob F G u b q r v f room L M a c lo lv ev wr) : wr.cell? ⟨u, 0, none⟩ = some (.pointer (some ⟨v.t, 0, none⟩)) := by
  cases a
  · exact (h.p0 rfl).1.us.iu.c0
  · obtain ⟨F', G', v', f', L', M', z, -, -, et, -⟩ := h.p1 rfl; have := z.us.iu.c0; rwa [et] at this
theorem JZ.tr (h : JZ W wl ob F G u b q r v f room L M a c lo lv ev wr) : wr.cell? ⟨b, 1, none⟩ = some (.pointer (some ⟨r, 0, none⟩)) := by
  cases a
  · exact (h.p0 rfl).1.ds.tr
  · obtain ⟨F', G', v', f', L', M', z, -⟩ := h.p1 rfl; exact z.ds.tr
theorem DS.over {w : World} {base n : Nat} (h : DS w G base b q r v n f room L M) : w.cell? ⟨b, 15, none⟩ = some (.bool v.lost) := by obtain ⟨S, mv, vv, h1, -⟩ := h; exact h1.c15
theorem DS.rl {w : World} {base n : Nat} (h : DS w G base b q r v n f room L M) : r < w.heap.size := by obtain ⟨S, mv, vv, h1, h2, h3, -⟩ := h; exact h3.lt
theorem JZ.over (h : JZ W wl ob F G u b q r v f room L M true c lo lv ev wr) : wr.cell? ⟨b, 15, none⟩ = some (.bool lo) := by
  obtain ⟨F', G', v', f', L', M', z, -, -, -, -, e, -⟩ := h.p1 rfl; rw [← e]; exact z.ds.over
theorem JZ.list (h : JZ W wl ob F G u b q r v f room L M true c lo lv ev wr) : wr.cell? ⟨r, 1, none⟩ = some lv := by
  obtain ⟨F', G', v', f', L', M', z, -, -, -, -, -, e, -⟩ := h.p1 rfl; exact e
theorem JZ.below (h : JZ W wl ob F G u b q r v f room L M true c lo lv ev wr) (hb : Below wr.heap.size wr w3) : JZ W wl ob F G u b q r v f room L M true c lo lv ev w3 := by
  obtain ⟨F', G', v', f', L', M', z1, z2, z3, z4, z5, z6, z7, z8, z9⟩ := h.p1 rfl
  refine ⟨(hb.block ob (lt_of_block h.on)).trans h.on, h.bw.trans (hb.mono h.bw.size), (fun y => by cases y), fun _ => ⟨F', G', v', f', L', M', z1.below hb, z2.trans (Kp.below hb z1.sz), z3, z4, z5, z6, ?_, z8.below hb, fun y => (z9 y).below hb⟩⟩
  exact (World.cell?_of_block (w := wr) (hb.block r z1.ds.rl)).trans z7
theorem JZ.ents (h : JZ W wl ob F G u b q r v f room L M true c lo lv ev wr) {ev' : Value} (he : ∀ F' G' v' f' L' M', PW wr W.heap.size F' G' u b q r v' 8 f' room L' M' → v'.t = v.t → E.Rd wr ev' L') : JZ W wl ob F G u b q r v f room L M true true lo lv ev' wr := by
  obtain ⟨F', G', v', f', L', M', z1, z2, z3, z4, z5, z6, z7, z8, z9⟩ := h.p1 rfl
  exact ⟨h.on, h.bw, (fun y => by cases y), fun _ => ⟨F', G', v', f', L', M', z1, z2, z3, z4, z5, z6, z7, z8, fun _ => he F' G' v' f' L' M' z1 z4⟩⟩
end
end Go.Proofs.YtfoafgbhelgjcaaGreat
