/- The document's IOMMU: a message. -/
import Derived.Test.YtmdconecigenfaaGreatKD
namespace Go.Proofs.YtmdconecigenfaaGreat
open Go.RowKit
open C (Only hid Mem Still ret_int ret_bool put byt nu RMem hasB)
set_option linter.unusedVariables false
set_option maxRecDepth 100000

def mhit (x : MV) (d i : Int) : Bool := decide (x.d = d) && decide (x.i = i)
/-- what the list says last of a device and an index -/
def mto (L : List MV) (d i : Int) : Int × Int := L.foldl (fun a x => bif mhit x d i then (x.g, x.q) else a) (0, 0)
theorem mto_snoc (L : List MV) (x : MV) (d i : Int) : mto (L ++ [x]) d i = bif mhit x d i then (x.g, x.q) else mto L d i := by unfold mto; rw [List.foldl_append]; rfl
theorem mto_step (L : List MV) (k : Nat) (x : MV) (h : L[k]? = some x) (d i : Int) : mto (L.take (k + 1)) d i = bif mhit x d i then (x.g, x.q) else mto (L.take k) d i := by
  have hk : k < L.length := (List.getElem?_eq_some_iff.1 h).1
  have : L.take (k + 1) = L.take k ++ [x] := by
    rw [List.take_add_one, h]; rfl
  rw [this, mto_snoc]
def Mb (w : World) (b : Nat) (g q : Int) : Prop := w.heap[b]? = some (.cells #[.int .i64 g, .int .i64 q] 50 (0, 0))
section
variable {w w' : World} {b : Nat} {g q : Int}
theorem Mb.c0 (h : Mb w b g q) : w.cell? ⟨b, 0, none⟩ = some (.int .i64 g) := by rw [cell_of_row w _ 0 _ _ _ h]; rfl
theorem Mb.c1 (h : Mb w b g q) : w.cell? ⟨b, 1, none⟩ = some (.int .i64 q) := by rw [cell_of_row w _ 1 _ _ _ h]; rfl
theorem Mb.z (h : Mb w b g q) (j : Nat) : w.frozen? ⟨b, j, none⟩ = false := frozen_of_row w b j _ _ h
theorem Mb.set (h : Mb w b g q) (x y : Int) : Mb ((w.setCell ⟨b, 0, none⟩ (.int .i64 x)).setCell ⟨b, 1, none⟩ (.int .i64 y)) b x y := by
  have s1 : (w.setCell ⟨b, 0, none⟩ (.int .i64 x)).heap[b]? = some (.cells #[.int .i64 x, .int .i64 q] 50 (0, 0)) := by rw [setCell_eq_setRow w b 0 _ _ (0, 0) _ h]; exact setRow_heap w b _ _ _ _ h
  unfold Mb
  rw [setCell_eq_setRow _ b 1 _ _ (0, 0) _ s1]; exact setRow_heap _ b _ _ _ _ s1
end
theorem k_Message_no (w : World) (b : Nat) (d a i : Int) (hd : isDev d = false) : Calls Tryz.prog 64 #[.pointer (some ⟨b, 0, none⟩), .int .i64 d, .int .u64 a, .int .u64 i] w fun e w' => e = .returned (.tuple #[.agg #[.int .i64 0, .int .i64 0], .bool false]) ∧ Below w.heap.size w w' := by
  go_enter Tryz.func64, Tryz.ntmps64
  go_wp2_with ((go_at_call 95; refine (k_none _ d false hd).mono ?_; rintro e w2 ⟨rfl, hw2⟩; obtain rfl := hw2.symm))
  go_returns
  exact ⟨rfl, (Below.refl _ _).alloc (Nat.le_refl _) _⟩
set_option maxHeartbeats 2000000 in
theorem k_Message (w : World) (b q r : Nat) (v : UV) (mv : Value) (hu : Ru w b q r v mv) (S : Nat → Prop) (n : Nat) (f : Nat → Int) (hm : RMem w S q 0 n f) (base : Nat) (L : List MV) (hl : Ms w base mv L) (hlen : L.length ≤ 2199023255552) (ok : VOk v n) (d a i : Int) (hd : isDev d = true) (a0 : 0 ≤ a) (a1 : a < 18446744073709551616) (g z : Int) (ht : mto L d i = (g, z)) (go : Bool) (hgo : (decide (a = 4276092928) && !(g == 0)) = go) :
    Calls Tryz.prog 64 #[.pointer (some ⟨b, 0, none⟩), .int .i64 d, .int .u64 a, .int .u64 i] w fun e w' => ∃ S', e = .returned (.tuple #[.agg #[.int .i64 (bif go then g else 0), .int .i64 (bif go then z else 0)], .bool go]) ∧ Ru w' b q r (bif go then v else rcV v) mv ∧ RMem w' S' q 0 n (bif go then f else rcF v f d 5 a) ∧ Only (fun k => k = b ∨ S k) w w' ∧ ∀ k, S' k → S k ∨ w.heap.size ≤ k := by
  obtain ⟨q0, q1⟩ := dev_cases hd
  obtain ⟨ad, cap, rfl, hrd⟩ := hl.rd
  have HU := hid hu
  have HM := hid hm
  have HL := hid hl
  have hlt := hu.lt
  have c1 := hu.c10
  have HT := hid ht
  clear hu hm hl ht hrd
  go_enter Tryz.func64, Tryz.ntmps64
  go_wp2_with ((go_at_call 95; refine (k_none _ d true hd).mono ?_; rintro e w2 ⟨rfl, hw2⟩; obtain rfl := hw2.symm))
  go_loopw [11] (fun j wr => ∃ (k : Nat), k ≤ L.length ∧ j = .int .i64 k ∧ Mb wr w.heap.size 0 0 ∧ Mb wr (w.heap.size + 1) (mto (L.take k) d i).1 (mto (L.take k) d i).2 ∧ Below w.heap.size w wr) (fun j _ => L.length - (intOf j).toNat)
  case atStart => exact ⟨0, Nat.zero_le _, rfl, (Below.heap_alloc _ _ _ (by simp)).trans (heap_alloc_new w _), by (show Mb _ _ 0 0; unfold Mb; have := heap_alloc_new (w.alloc (.cells #[.int .i64 0, .int .i64 0] 50)) (.cells #[.int .i64 0, .int .i64 0] 50); rwa [show (w.alloc (.cells #[.int .i64 0, .int .i64 0] 50)).heap.size = w.heap.size + 1 by simp] at this), ((Below.refl _ _).alloc (Nat.le_refl _) _).alloc (by simp) _⟩
  case round =>
    obtain ⟨k, hk, rfl, hb0, hb1, hb⟩ := hrel
    have HB0 := hid hb0
    have HB1 := hid hb1
    have HB := hid hb
    have HUr := hid (HU.out.below hb)
    have HLr := hid (HL.out.below hb)
    have d1 := HUr.out.c10
    clear hb0 hb1 hb c1
    by_cases hlt2 : k < L.length
    · obtain ⟨x, hx⟩ : ∃ x, L[k]? = some x := ⟨_, List.getElem?_eq_getElem hlt2⟩
      obtain ⟨ad2, cap2, e2, hrd⟩ := HLr.out.rd
      obtain ⟨g1, e3, hg1, x0, x1, x2, x3⟩ := hrd k x hx
      simp only [Value.slice.injEq] at e2
      obtain ⟨rfl, -, rfl⟩ := e2
      subst e3
      have HS := hid (mto_step L k x hx d i)
      clear hx hrd
      have y0 := HB1.out.c0
      have y1 := HB1.out.c1
      have yz := HB1.out.z
      have x2' : wr.cell? ⟨g1, k * 4 + 2 + 1, none⟩ = some (.int .i64 x.q) := x3
      by_cases e1 : x.d = d
      · by_cases e2 : x.i = i
        · have hh : mhit x d i = true := by simp [mhit, e1, e2]
          rw [hh] at HS
          go_wp2_with fail
          go_roundw
          case rel =>
            refine ⟨k + 1, by omega, by go_num, ?_, ?_, ?_⟩
            · exact ((only1 wr (w.heap.size + 1) _ _).trans (only1 _ (w.heap.size + 1) _ _)).old HB0.out (by omega)
            · rw [HS.out]; exact HB1.out.set _ _
            · exact (HB.out.setCell (by simp) _).setCell (by simp) _
          case measure => simp [intOf]; omega
        · have hh : mhit x d i = false := by simp [mhit, e2]
          rw [hh] at HS
          go_wp2_with fail
          go_roundw
          case rel => exact ⟨k + 1, by omega, by go_num, HB0.out, by rw [HS.out]; exact HB1.out, HB.out⟩
          case measure => simp [intOf]; omega
      · have hh : mhit x d i = false := by simp [mhit, e1]
        rw [hh] at HS
        go_wp2_with fail
        go_roundw
        case rel => exact ⟨k + 1, by omega, by go_num, HB0.out, by rw [HS.out]; exact HB1.out, HB.out⟩
        case measure => simp [intOf]; omega
    · obtain rfl : k = L.length := by omega
      rw [List.take_length] at HB1
      rw [HT.out] at HB1
      have y0 : wr.cell? ⟨w.heap.size + 1, 0, none⟩ = some (.int .i64 g) := HB1.out.c0
      have y1 : wr.cell? ⟨w.heap.size + 1, 1, none⟩ = some (.int .i64 z) := HB1.out.c1
      have r0 := HB0.out.c0
      have r1 := HB0.out.c1
      have rz := HB0.out.z
      have HMr := hid (HM.out.below HB.out)
      by_cases e1 : a = 4276092928
      · subst e1
        by_cases e2 : g = 0
        · subst e2
          obtain rfl : go = false := by simpa using hgo.symm
          clear hgo
          go_wp2_with ((go_at_call 96; refine (k_rec _ b q r v _ HUr.out S n f HMr.out ok d 5 _ q0 q1 (by decide) (by decide) a0 a1).mono ?_; rintro e w3 ⟨rfl, S', i1, i2, i3, i4⟩; have HB3 := hid (i3.old HB0.out (by rintro (z | z); omega; exact rmem_typ HMr.out HB0.out (by decide) (by decide) (by decide) z)); have I := hid (And.intro i1 (And.intro i2 (And.intro i3 i4))); clear i1 i2 i3 i4 r0 r1 rz; have r0 := Mb.c0 HB3.out; have r1 := Mb.c1 HB3.out; have rz := Mb.z HB3.out))
          have h6 := HB3.out
          have h6 := Mb.set h6 0 0
          have ho6 := ((Only.refl (S := (· = w.heap.size)) w3).setCell (p := ⟨w.heap.size, 0, none⟩) (.inl rfl) (.int .i64 0)).setCell (p := ⟨w.heap.size, 1, none⟩) (.inl rfl) (.int .i64 0)
          clear r0 r1 rz
          generalize (w3.setCell ⟨w.heap.size, 0, none⟩ (.int .i64 0)).setCell ⟨w.heap.size, 1, none⟩ (.int .i64 0) = w6 at *
          have r0 := h6.c0
          have r1 := h6.c1
          refine bodyPost_ret (by simp [results, Tryz.results64, go_sem, r0, r1]; rfl) rfl ?_
          obtain ⟨i1, i2, i3, i4⟩ := I.out
          refine ⟨S', rfl, i1.only ho6 (by omega), i2.only ho6 (fun k hk e => rmem_typ i2 HB3.out (by decide) (by decide) (by decide) (e ▸ hk)), ?_, fun k hk => (i4 k hk).imp id fun z => Nat.le_trans HB.out.size z⟩
          exact ((Only.ofBelow HB.out).trans i3).trans' (ho6.mono (T := fun k => w.heap.size ≤ k) fun k _ q => by omega) fun i hi q => by omega
        · have HG : Hid (go = true) := by show _ = _; rw [← hgo]; simp [e2]
          clear hgo
          go_wp2_with fail
          have h6 := Mb.set HB0.out g z
          have ho6 := ((Only.refl (S := (· = w.heap.size)) wr).setCell (p := ⟨w.heap.size, 0, none⟩) (.inl rfl) (.int .i64 g)).setCell (p := ⟨w.heap.size, 1, none⟩) (.inl rfl) (.int .i64 z)
          clear r0 r1 rz y0 y1
          generalize (wr.setCell ⟨w.heap.size, 0, none⟩ (.int .i64 g)).setCell ⟨w.heap.size, 1, none⟩ (.int .i64 z) = w6 at *
          have r0 := h6.c0
          have r1 := h6.c1
          refine bodyPost_ret (by simp [results, Tryz.results64, go_sem, r0, r1]; rfl) rfl ?_
          have hg := HG.out
          subst hg
          refine ⟨rfl, HUr.out.only ho6 (by omega), S, HMr.out.only ho6 (fun k hk e => rmem_typ HMr.out HB0.out (by decide) (by decide) (by decide) (e ▸ hk)), ?_, fun k hk => .inl hk⟩
          exact (Only.ofBelow HB.out).trans' (ho6.mono (T := fun k => w.heap.size ≤ k) fun k _ q => by omega) fun i hi q => by omega
      · obtain rfl : go = false := by rw [← hgo]; simp [e1]
        clear hgo
        go_wp2_with ((go_at_call 96; refine (k_rec _ b q r v _ HUr.out S n f HMr.out ok d 5 _ q0 q1 (by decide) (by decide) a0 a1).mono ?_; rintro e w3 ⟨rfl, S', i1, i2, i3, i4⟩; have HB3 := hid (i3.old HB0.out (by rintro (z | z); omega; exact rmem_typ HMr.out HB0.out (by decide) (by decide) (by decide) z)); have I := hid (And.intro i1 (And.intro i2 (And.intro i3 i4))); clear i1 i2 i3 i4 r0 r1 rz; have r0 := Mb.c0 HB3.out; have r1 := Mb.c1 HB3.out; have rz := Mb.z HB3.out))
        have h6 := HB3.out
        have h6 := Mb.set h6 0 0
        have ho6 := ((Only.refl (S := (· = w.heap.size)) w3).setCell (p := ⟨w.heap.size, 0, none⟩) (.inl rfl) (.int .i64 0)).setCell (p := ⟨w.heap.size, 1, none⟩) (.inl rfl) (.int .i64 0)
        clear r0 r1 rz
        generalize (w3.setCell ⟨w.heap.size, 0, none⟩ (.int .i64 0)).setCell ⟨w.heap.size, 1, none⟩ (.int .i64 0) = w6 at *
        have r0 := h6.c0
        have r1 := h6.c1
        refine bodyPost_ret (by simp [results, Tryz.results64, go_sem, r0, r1]; rfl) rfl ?_
        obtain ⟨i1, i2, i3, i4⟩ := I.out
        refine ⟨S', rfl, i1.only ho6 (by omega), i2.only ho6 (fun k hk e => rmem_typ i2 HB3.out (by decide) (by decide) (by decide) (e ▸ hk)), ?_, fun k hk => (i4 k hk).imp id fun z => Nat.le_trans HB.out.size z⟩
        exact ((Only.ofBelow HB.out).trans i3).trans' (ho6.mono (T := fun k => w.heap.size ≤ k) fun k _ q => by omega) fun i hi q => by omega
end Go.Proofs.YtmdconecigenfaaGreat
