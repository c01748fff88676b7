/- Read, Write, Bytes, Fill, Clear by what a memory holds. -/
import Derived.Test.YtioodijiejipiaaRW
namespace Go.Proofs.Ytioodijiejipiaa
open Go.RowKit
set_option linter.unusedVariables false

def wid (z : Int) : Bool := decide (z = 1 ∨ z = 2 ∨ z = 4 ∨ z = 8)
theorem hasB_of {base : Int} {n : Nat} {off size : Nat} (hl : off + size ≤ 4096 * n) : hasB base n (base + off) size = true := by simp [hasB]; omega
theorem nu_tail (b : Nat → Int) (s : Nat) (h : ∀ j, s ≤ j → b j = 0) : ∀ k, nu b (s + k) = nu b s
  | 0 => rfl
  | k + 1 => by show nu b (s + k) + b (s + k) * 256 ^ (s + k) = _; rw [nu_tail b s h k, h _ (by omega)]; simp
theorem nu_congr {b c : Nat → Int} : ∀ k, (∀ j, j < k → b j = c j) → nu b k = nu c k
  | 0, _ => rfl
  | k + 1, h => by show nu b k + b k * _ = nu c k + c k * _; rw [nu_congr k fun j hj => h j (by omega), h k (by omega)]
theorem nu_put (g : Nat → Int) (s : Nat) (h : s ≤ 8) : nu (put (fun _ => 0) 0 s g) 8 = nu g s := by
  obtain ⟨k, hk⟩ : ∃ k, 8 = s + k := ⟨8 - s, by omega⟩
  rw [hk, nu_tail (put (fun _ => 0) 0 s g) s (fun j hj => put_out _ _ _ _ _ (by omega))]
  exact nu_congr _ fun j hj => by rw [put_in' _ _ _ _ _ (by omega) (by omega)]; rfl
theorem Mem.drew {w : World} {S : Nat → Prop} {p : Nat} {base : Int} {n : Nat} {f : Nat → Int} (h : Mem w S p base n f) : Mem w.drew S p base n f := h.only (T := fun _ => False) (Only.refl w).drew fun _ _ q => q
theorem RM.alloc {w : World} {p g : Nat} {base : Int} {hs : List (Option Nat)} {f : Nat → Int} (h : RM w p g base hs f) (o : Obj) : RM (w.alloc o) p g base hs f :=
  h.only (T := fun _ => False) ((Only.refl w).alloc o) fun _ _ q => q
theorem RM.still {w w' : World} {p g : Nat} {base : Int} {hs : List (Option Nat)} {f : Nat → Int} (h : RM w p g base hs f) (hs' : Still w w') : RM w' p g base hs f :=
  h.only (T := fun _ => False) hs'.only fun _ _ q => q
theorem RM.below {w w' : World} {p g : Nat} {base : Int} {hs : List (Option Nat)} {f : Nat → Int} (h : RM w p g base hs f) (hb : Below w.heap.size w w') : RM w' p g base hs f :=
  h.only (T := fun _ => False) (.ofBelow hb) fun _ _ q => q
theorem only_below {w w' : World} {b : Nat} (h : Only (· = b) w w') {B : Nat} (hb : B ≤ b) (hB : B ≤ w.heap.size) : Below B w w' := h.below B hB (by rintro k rfl; exact hb)
theorem c_Bytes (w : World) (S : Nat → Prop) (p : Nat) (base : Int) (n : Nat) (f : Nat → Int) (h : Mem w S p base n f) (off len : Nat) (hl : off + len ≤ 4096 * n) (addr : Int) (ha : addr = base + off) :
    Calls Try.prog 20 #[.pointer (some ⟨p, 0, none⟩), .int .u64 addr, .int .i64 len] w fun e w' => ∃ b, e = .returned (.tuple #[.slice (some ⟨b, 0, none⟩) len len, .bool true]) ∧ w'.heap[b]? = some (.cells (row (fun j => f (off + j)) 0 len).toArray 5 (0, 0)) ∧ w.heap.size ≤ b ∧ Below w.heap.size w w' := by
  subst ha
  obtain ⟨g, hs, hr, rfl, hS⟩ := h
  have l1 := hr.len1
  have b0 := hr.base0
  have b1 := hr.base1
  have hh := hasB_of (base := base) hl
  go_enter Try.func20, Try.ntmps20
  go_wp2_with (first
    | (go_at_call 10; refine (c_Has w p g base hs f hr _ _ (by omega) (by omega) (by omega) (by omega)).mono ?_; rintro e w1 ⟨rfl, hst⟩; rw [hh])
    | (at_make; refine wpList_makes _ rfl _ _ 35 rfl 5 _ 1 u_su8 info_u8 rfl len rfl rfl (by omega) (by omega) _ (rowz len) ?_)
    | (go_at_call 36; refine (c_load _ p g base hs f ((hr.still hst).alloc _) off len len _ rfl hl w1.heap.size len (fun _ => 0) 5 (heap_alloc_new w1 _) (by omega) (by omega) (fun _ _ => rfl) (by decide) (by decide) (by decide)).mono ?_; rintro e w2 ⟨rfl, hg2, ho2⟩; have HG := hid (hg2); have HO := hid (ho2); clear hg2 ho2))
  go_ret2
  have hsz : w1.heap.size = w.heap.size := by rw [hst.heap]
  refine ⟨w1.heap.size, by simp, ?_, by omega, ?_⟩
  · rw [HG.out]
    have : row (put (fun _ => 0) 0 len fun j => f (off + j)) 0 len = row (fun j => f (off + j)) 0 len := row_congr fun j hj => by simp only [Nat.zero_add]; rw [put_in' _ _ _ _ _ (by omega) (by omega)]; rfl
    rw [this]
  · exact (((hst.below _).alloc (by omega) _).trans (only_below HO.out (by omega) (by simp; omega)))
theorem Mem.of_store {w w1 w' : World} {S : Nat → Prop} {p g : Nat} {base : Int} {hs hs' : List (Option Nat)} {f : Nat → Int} (hS : ∀ k, S k ↔ Foot p g hs k) (h1 : Below w.heap.size w w1) (hr : RM w' p g base hs' f) (ho : Only (Foot p g hs) w1 w') (hlen : hs'.length = hs.length)
    (hn : ∀ (j h' : Nat), hs'[j]? = some (some h') → hs[j]? = some (some h') ∨ w1.heap.size ≤ h') : ∃ S', Mem w' S' p base hs.length f ∧ Only S w w' ∧ ∀ k, S' k → S k ∨ w.heap.size ≤ k := by
  refine ⟨Foot p g hs', ⟨g, hs', hr, hlen, fun k => Iff.rfl⟩, (Only.ofBelow h1).trans' ho fun i _ q => (hS i).2 q, ?_⟩
  rintro k (rfl | rfl | ⟨i, hi⟩)
  · exact .inl ((hS _).2 (.inl rfl))
  · exact .inl ((hS _).2 (.inr (.inl rfl)))
  · rcases hn i k hi with e | e
    · exact .inl ((hS _).2 (.inr (.inr ⟨i, e⟩)))
    · exact .inr (Nat.le_trans h1.size e)
theorem c_Fill (w : World) (S : Nat → Prop) (p : Nat) (base : Int) (n : Nat) (f : Nat → Int) (h : Mem w S p base n f) (off len cap : Nat) (hl : off + len ≤ 4096 * n) (hc : len ≤ cap) (addr : Int) (ha : addr = base + off) (ad : Option Addr) (s : Nat → Int) (hs0 : ∀ j, 0 ≤ s j ∧ s j < 256)
    (src : ∃ sb so, 0 < len → ad = some ⟨sb, so, none⟩ ∧ sb < w.heap.size ∧ ¬ S sb ∧ ∀ j, j < len → w.cell? ⟨sb, so + j, none⟩ = some (.int .u8 (s j))) :
    Calls Try.prog 17 #[.pointer (some ⟨p, 0, none⟩), .int .u64 addr, .slice ad len cap] w fun e w' => ∃ S', e = .returned (.bool true) ∧ Mem w' S' p base n (put f off len s) ∧ Only S w w' ∧ ∀ k, S' k → S k ∨ w.heap.size ≤ k := by
  subst ha
  obtain ⟨g, hs, hr, rfl, hS⟩ := h
  have l1 := hr.len1
  have b0 := hr.base0
  have b1 := hr.base1
  have hh := hasB_of (base := base) hl
  obtain ⟨sb, so, hsrc⟩ := src
  have HS := hid (hsrc)
  clear hsrc
  go_enter Try.func17, Try.ntmps17
  go_wp2_with (first
    | (go_at_call 10; refine (c_Has w p g base hs f hr _ _ (by omega) (by omega) (by omega) (by omega)).mono ?_; rintro e w1 ⟨rfl, hst⟩; rw [hh])
    | (go_at_call 33; refine (c_store w1 p g base hs f (hr.still hst) off len cap ad s hs0 _ rfl hl hc ⟨sb, so, fun q => ⟨(HS.out q).1, by rw [hst.heap]; exact (HS.out q).2.1, fun e => (HS.out q).2.2.1 ((hS _).2 e), fun j hj => by rw [hst.cell]; exact (HS.out q).2.2.2 j hj⟩⟩).mono ?_; rintro e w2 ⟨hs', rfl, hr2, hlen2, ho2, hn2⟩; have HX := hid (Mem.of_store hS (hst.below _) hr2 ho2 hlen2 hn2); clear hr2 hlen2 ho2 hn2))
  go_ret
  obtain ⟨S', a, b, c⟩ := HX.out
  exact ⟨S', rfl, a, b, c⟩
theorem RM.clear {w : World} {p g : Nat} {base : Int} {hs : List (Option Nat)} {f : Nat → Int} (h : RM w p g base hs f) (i : Nat) (hil : i < hs.length) :
    RM (w.setCell ⟨g, i, none⟩ (.pointer none)) p g base (hs.set i none) (put f (4096 * i) 4096 fun _ => 0) := by
  have hpg : p ≠ g := by rintro rfl; have := h.top; rw [h.tab] at this; simp at this
  have hold : ∀ k, k ≠ g → (w.setCell ⟨g, i, none⟩ (.pointer none)).heap[k]? = w.heap[k]? := fun k hkg => Below.heap_setCell _ _ _ k hkg
  refine ⟨?_, ?_, ?_, ?_, ?_, ?_, h.base0, h.base1, by simpa using h.len0, by simpa using h.len1⟩
  · rw [hold p hpg, List.length_set]; exact h.top
  · rw [heap_setCell_same _ g i _ _ _ h.tab]
    congr 2
    simp [List.map_set, ptr]
  · intro j hj k hk
    by_cases e : j = i
    · subst e; rw [put_in _ _ _ _ _ hk]
    · rw [List.getElem?_set_ne (by omega)] at hj; rw [put_out _ _ _ _ _ (by omega)]; exact h.bare j hj k hk
  · intro j hh hj
    by_cases e : j = i
    · subst e; rw [List.getElem?_set_self hil] at hj; cases hj
    · rw [List.getElem?_set_ne (by omega)] at hj
      have := h.full j hh hj
      rw [hold hh (by rintro rfl; rw [h.tab] at this; simp at this), this]
      have : row f (4096 * j) 4096 = row (put f (4096 * i) 4096 fun _ => 0) (4096 * j) 4096 := row_congr fun k hk => (put_out _ _ _ _ _ (by omega)).symm
      rw [this]
  · intro j k hh hj hk
    by_cases e : j = i
    · subst e; rw [List.getElem?_set_self hil] at hj; cases hj
    · by_cases e' : k = i
      · subst e'; rw [List.getElem?_set_self hil] at hk; cases hk
      · rw [List.getElem?_set_ne (by omega)] at hj hk
        exact h.inj j k hh hj hk
  · intro j
    unfold put
    split
    · exact ⟨Int.le_refl _, show (0 : Int) < 256 by decide⟩
    · exact h.byt j
theorem c_Clear (w : World) (S : Nat → Prop) (p : Nat) (base : Int) (n : Nat) (f : Nat → Int) (h : Mem w S p base n f) (i : Nat) (hi : i < n) :
    Calls Try.prog 23 #[.pointer (some ⟨p, 0, none⟩), .int .i64 i] w fun e w' => ∃ S', e = .returned (.bool true) ∧ Mem w' S' p base n (put f (4096 * i) 4096 (fun _ => 0)) ∧ Only S w w' ∧ (∀ k, S' k → S k) := by
  obtain ⟨g, hs, hr, rfl, hS⟩ := h
  have l1 := hr.len1
  obtain ⟨x, hx⟩ : ∃ x, hs[i]? = some x := ⟨_, List.getElem?_eq_getElem hi⟩
  have c1 := hr.cell1
  have cT := hr.cellT _ x hx
  have hf : w.frozen? ⟨g, i, none⟩ = false := frozen_of_row w g i _ _ hr.tab
  go_enter Try.func23, Try.ntmps23
  go_wp2
  go_ret
  refine ⟨Foot p g (hs.set i none), rfl, ⟨g, hs.set i none, hr.clear i hi, by simp, fun k => Iff.rfl⟩, (Only.refl w).setCell (p := ⟨g, i, none⟩) (.inl ((hS _).2 (.inr (.inl rfl)))) _, ?_⟩
  rintro k (rfl | rfl | ⟨j, hj⟩)
  · exact (hS _).2 (.inl rfl)
  · exact (hS _).2 (.inr (.inl rfl))
  · by_cases e : j = i
    · subst e; rw [List.getElem?_set_self hi] at hj; cases hj
    · rw [List.getElem?_set_ne (by omega)] at hj; exact (hS _).2 (.inr (.inr ⟨j, hj⟩))
theorem c_Clear_bad (w : World) (S : Nat → Prop) (p : Nat) (base : Int) (n : Nat) (f : Nat → Int) (h : Mem w S p base n f) (i : Int) (hi : i < 0 ∨ (n : Int) ≤ i) :
    Calls Try.prog 23 #[.pointer (some ⟨p, 0, none⟩), .int .i64 i] w fun e w' => e = .returned (.bool false) ∧ w' = w := by
  obtain ⟨g, hs, hr, rfl, hS⟩ := h
  have l1 := hr.len1
  have c1 := hr.cell1
  go_enter Try.func23, Try.ntmps23
  by_cases q : i < 0
  · go_wp2
    go_ret
    exact ⟨rfl, rfl⟩
  · have q2 : (hs.length : Int) ≤ i := by omega
    go_wp2
    go_ret
    exact ⟨rfl, rfl⟩
set_option maxHeartbeats 1000000 in
theorem c_Read (w : World) (S : Nat → Prop) (p : Nat) (base : Int) (n : Nat) (f : Nat → Int) (h : Mem w S p base n f) (off size : Nat) (hl : off + size ≤ 4096 * n) (hw : size = 1 ∨ size = 2 ∨ size = 4 ∨ size = 8) (addr : Int) (ha : addr = base + off) :
    Calls Try.prog 15 #[.pointer (some ⟨p, 0, none⟩), .int .u64 addr, .int .i64 size] w fun e w' => e = .returned (.tuple #[.int .u64 (nu (fun j => f (off + j)) size), .bool true]) ∧ Below w.heap.size w w' := by
  subst ha
  obtain ⟨g, hs, hr, rfl, hS⟩ := h
  have l1 := hr.len1
  have b0 := hr.base0
  have b1 := hr.base1
  have hh := hasB_of (base := base) hl
  have hwd : decide ((size : Int) = 1 ∨ (size : Int) = 2 ∨ (size : Int) = 4 ∨ (size : Int) = 8) = true := by simp; omega
  have hcut : ∀ b w, (Instr.sliceAt 71 (.pointer (some ⟨b, 0, none⟩)) none (some (.int .i64 (size : Int))) none).run Try.prog w = .ok (.slice (some ⟨b, 0, none⟩) size 8) w := fun b w => run_cut8 b size (by omega) (by omega) w
  obtain ⟨D, hD⟩ : ∃ D, D = put (fun _ => 0) 0 size fun j => f (off + j) := ⟨_, rfl⟩
  have HD : Hid (put (fun _ => 0) 0 size (fun j => f (off + j)) = D) := hD.symm
  have HV : Hid (nu D 8 = nu (fun j => f (off + j)) size) := by show _ = _; rw [hD]; exact nu_put _ _ (by omega)
  have HB : Hid (∀ j, 0 ≤ D j ∧ D j < 256) := by
    intro j; rw [hD]; unfold put; split
    · exact hr.byt _
    · exact ⟨Int.le_refl _, show (0 : Int) < 256 by decide⟩
  have hs8 : size ≤ 8 := by omega
  clear hD hw
  go_enter Try.func15, Try.ntmps15
  go_wp2_with (first
    | (go_at_call 31; refine (c_isWidth _ w).mono ?_; rintro e w1 ⟨rfl, hw1⟩; obtain rfl := hw1.symm; rw [hwd])
    | (go_at_call 10; refine (c_Has w p g base hs f hr _ _ (by omega) (by omega) (by omega) (by omega)).mono ?_; rintro e w1 ⟨rfl, hst⟩; rw [hh])
    | (go_at_call 36; refine (c_load _ p g base hs f ((hr.still hst).alloc _) off size 8 _ rfl hl w1.heap.size 8 (fun _ => 0) 71 (heap_alloc_new w1 _) hs8 hs8 (fun _ _ => rfl) (by decide) (by decide) (by decide)).mono ?_; rintro e w2 ⟨rfl, hg2, ho2⟩; rw [HD.out] at hg2; have HO := hid (ho2); have k0 := row_cell hg2 0 (by decide); have k1 := row_cell hg2 1 (by decide); have k2 := row_cell hg2 2 (by decide); have k3 := row_cell hg2 3 (by decide); have k4 := row_cell hg2 4 (by decide); have k5 := row_cell hg2 5 (by decide); have k6 := row_cell hg2 6 (by decide); have k7 := row_cell hg2 7 (by decide); clear hg2 ho2)
    | (go_at_call 37; refine (c_number D HB.out w2).mono ?_; rintro e w3 ⟨rfl, hb3⟩; have HB3 := hid (hb3); clear hb3))
  go_ret2
  have hsz : w1.heap.size = w.heap.size := by rw [hst.heap]
  refine ⟨by rw [← HV.out]; simp, ?_⟩
  have q1 : Below w.heap.size w (w1.alloc (.cells #[.int .u8 0, .int .u8 0, .int .u8 0, .int .u8 0, .int .u8 0, .int .u8 0, .int .u8 0, .int .u8 0] 71)) := (hst.below _).alloc (by omega) _
  exact (q1.trans (only_below HO.out (by omega) q1.size)).trans (HB3.out.mono (Nat.le_trans q1.size HO.out.size))
theorem by8 (v : Int) (w : World) (j : Nat) (hj : j < 8) : (w.alloc (.cells #[.int .u8 (byt v 0), .int .u8 (byt v 1), .int .u8 (byt v 2), .int .u8 (byt v 3), .int .u8 (byt v 4), .int .u8 (byt v 5), .int .u8 (byt v 6), .int .u8 (byt v 7)] 71)).cell? ⟨w.heap.size, 0 + j, none⟩ = some (.int .u8 (byt v j)) := by
  have := row_cell (f := byt v) (s := 0) (N := 8) (t := 71) (heap_alloc_new w (.cells (row (byt v) 0 8).toArray 71 (0, 0))) j hj
  rw [Nat.zero_add] at this
  rw [Nat.zero_add]
  exact this
set_option maxHeartbeats 1000000 in
theorem c_Write (w : World) (S : Nat → Prop) (p : Nat) (base : Int) (n : Nat) (f : Nat → Int) (h : Mem w S p base n f) (off size : Nat) (hl : off + size ≤ 4096 * n) (hw : size = 1 ∨ size = 2 ∨ size = 4 ∨ size = 8) (addr : Int) (ha : addr = base + off) (v : Int) (v0 : 0 ≤ v) (v1 : v < 18446744073709551616) :
    Calls Try.prog 13 #[.pointer (some ⟨p, 0, none⟩), .int .u64 addr, .int .i64 size, .int .u64 v] w fun e w' => ∃ S', e = .returned (.bool true) ∧ Mem w' S' p base n (put f off size (byt v)) ∧ Only S w w' ∧ ∀ k, S' k → S k ∨ w.heap.size ≤ k := by
  subst ha
  obtain ⟨g, hs, hr, rfl, hS⟩ := h
  have l1 := hr.len1
  have b0 := hr.base0
  have b1 := hr.base1
  have hh := hasB_of (base := base) hl
  have hwd : decide ((size : Int) = 1 ∨ (size : Int) = 2 ∨ (size : Int) = 4 ∨ (size : Int) = 8) = true := by simp; omega
  have hcut : ∀ b w, (Instr.sliceAt 71 (.pointer (some ⟨b, 0, none⟩)) none (some (.int .i64 (size : Int))) none).run Try.prog w = .ok (.slice (some ⟨b, 0, none⟩) size 8) w := fun b w => run_cut8 b size (by omega) (by omega) w
  have hs8 : size ≤ 8 := by omega
  clear hw
  go_enter Try.func13, Try.ntmps13
  go_wp2_with (first
    | (go_at_call 31; refine (c_isWidth _ w).mono ?_; rintro e w1 ⟨rfl, hw1⟩; obtain rfl := hw1.symm; rw [hwd])
    | (go_at_call 10; refine (c_Has w p g base hs f hr _ _ (by omega) (by omega) (by omega) (by omega)).mono ?_; rintro e w1 ⟨rfl, hst⟩; rw [hh])
    | (go_at_call 32; refine (c_bytesOf2 v v0 v1 w1).mono ?_; rintro e w2 ⟨rfl, hb2⟩; have HB2 := hid (hb2); clear hb2)
    | (go_at_call 33; (refine (c_store _ p g base hs f (((hr.still hst).below HB2.out).alloc _) off size 8 _ (byt v) (byt_b v) _ rfl hl hs8 ⟨w2.heap.size, 0, fun _ => ⟨rfl, by simp, fun e => Nat.lt_irrefl _ (((hr.still hst).below HB2.out).lt e), fun j hj => by8 v w2 j (by omega)⟩⟩).mono ?_); rintro e w3 ⟨hs', rfl, hr3, hlen3, ho3, hn3⟩; have HX := hid (Mem.of_store (w := w) hS (((hst.below _).trans (HB2.out.mono (by rw [hst.heap]; exact Nat.le_refl _))).alloc (by have := HB2.out.size; rw [hst.heap] at this; exact this) _) hr3 ho3 hlen3 hn3); clear hr3 hlen3 ho3 hn3))
  go_ret
  obtain ⟨S', a, b, c⟩ := HX.out
  exact ⟨S', rfl, a, b, c⟩
end Go.Proofs.Ytioodijiejipiaa
