/- Rights that are turned. -/
import Derived.Test.YtekkjalfiogenaaSQ
import Derived.Test.YtekkjalfiogenaaSGU
namespace Go.Proofs.Ytekkjalfiogenaa
open Go.RowKit
open C (Only hid Mem RMem Still ret_bool ret_int put byt rd8 lo nu c_Place gst rdmB)
set_option linter.unusedVariables false
set_option maxRecDepth 100000

section
variable (w : World) (F : Nat → Prop) (u : Value) (q pl : Nat) (s : SV) (v : PV) (f : Nat → Int) (vm : Int) (h : SPs w F u q pl s v f vm)
include h
/-- an entry of level 0 is written: the space with it -/
theorem r_store (p fr pm : Nat) (hq : s.k0 (p / 512) ≠ 0) (hp : pm = 0 ∨ okP pm ∧ fr < v.n ∧ v.o fr ≠ -1) (hf : fr ≤ 1024) (w1 : World) (hb : Below w.heap.size w w1) : Calls Try.prog 56 #[.pointer (some ⟨q, 0, none⟩), .int .u64 (v.b + (lfO s p : Nat)), .int .u64 (lE v.b fr pm)] w1 fun r w' => r = .returned (.tuple #[]) ∧ ∃ F', SPs w' F' u q pl (s.leaf p fr pm) v (w8 f (lfO s p) (lE v.b fr pm)) vm ∧ Only F w w' ∧ ∀ k, F' k → F k ∨ w.heap.size ≤ k := by
  have h1 := h.below hb
  have hk := (h.iv.k0lt hq).1
  have n2 := h.iv.ba.n2
  have lb := lE_b (t := fr) (pm := pm) h.iv.ba.b0 h.iv.ba.b1 hf (hp.imp id (·.1))
  have hi := h.iv.mkl (p := p) hq hp hf
  refine (x_store w1 F q pl v f h1.pl h1.sq.c0 (lfO s p) (by unfold lfO; omega) _ rfl _ lb.1 lb.2).mono ?_
  rintro r w2 ⟨rfl, F2, k1, k2, k3⟩
  have z := hb.size
  exact ⟨rfl, F2, ⟨k1, h1.sq.only k2 h1.nq, own_only h1.ls k2 fun k hk => (h1.nu hk).1, hi⟩, (Only.ofBelow hb).trans k2, fun k hk => (k3 k hk).imp id fun y => by omega⟩
theorem x_Protect (p pm : Nat) (hp : s.pp p ≠ 0) (hpm : okP pm) : Calls Try.prog 18 #[.pointer (some ⟨q, 0, none⟩), .int .u64 p, .int .i64 pm] w fun r w' => r = .returned (.int .i64 0) ∧ ∃ F', SPs w' F' u q pl (s.leaf p (s.pf p) pm) v (w8 f (lfO s p) (lE v.b (s.pf p) pm)) vm ∧ Only F w w' ∧ ∀ k, F' k → F k ∨ w.heap.size ≤ k := by
  obtain ⟨hq, hk, hf, ho⟩ := h.iv.ap p hp
  have n2 := h.iv.ba.n2
  have b0 := h.iv.ba.b0
  have b1 := h.iv.ba.b1
  have lb := lE_b (t := s.pf p) (pm := s.pp p) b0 b1 (by omega) (.inr hk)
  have hn := c_number _ lb.1 lb.2
  rw [num_l _ _ _ hk] at hn
  have hl := c_leafAt (v.b / 4096 + s.pf p) (by omega) (by omega) pm hpm
  rw [lE_of v.b (s.pf p) pm hpm] at hl
  have hlt := h.iv.pplt hp
  exact t_prot_yes w q p pm _ _ _ _ (fun w' => ∃ F', SPs w' F' u q pl (s.leaf p (s.pf p) pm) v (w8 f (lfO s p) (lE v.b (s.pf p) pm)) vm ∧ Only F w w' ∧ ∀ k, F' k → F k ∨ w.heap.size ≤ k) (by unfold okP at hpm; omega) (by unfold okP at hpm; omega) (by omega) (by unfold okP at hpm; unfold okPb; simp; omega) (r_leaf_yes w F u q pl s v f vm h p hp) (fun w1 hb => r_store w F u q pl s v f vm h p (s.pf p) pm hq (.inr ⟨hpm, hf, ho⟩) (by omega) w1 hb) hn hl
theorem x_Unmap (p : Nat) (hp : s.pp p ≠ 0) : Calls Try.prog 17 #[.pointer (some ⟨q, 0, none⟩), .int .u64 p] w fun r w' => r = .returned (.tuple #[.int .i64 (s.pf p : Nat), .int .i64 0]) ∧ ∃ F', SPs w' F' u q pl (s.leaf p 0 0) v (w8 f (lfO s p) 0) vm ∧ Only F w w' ∧ ∀ k, F' k → F k ∨ w.heap.size ≤ k := by
  obtain ⟨hq, hk, hf, ho⟩ := h.iv.ap p hp
  have n2 := h.iv.ba.n2
  have b0 := h.iv.ba.b0
  have b1 := h.iv.ba.b1
  have lb := lE_b (t := s.pf p) (pm := s.pp p) b0 b1 (by omega) (.inr hk)
  have hn := c_number _ lb.1 lb.2
  rw [num_l _ _ _ hk] at hn
  have hs := fun w1 hb => r_store w F u q pl s v f vm h p 0 0 hq (.inl rfl) (by decide) w1 hb
  rw [show lE v.b 0 0 = 0 from rfl] at hs
  refine (t_unmap_yes w q (s.pf p) p _ _ _ (fun w' => ∃ F', SPs w' F' u q pl (s.leaf p 0 0) v (w8 f (lfO s p) 0) vm ∧ Only F w w' ∧ ∀ k, F' k → F k ∨ w.heap.size ≤ k) (r_leaf_yes w F u q pl s v f vm h p hp) hs hn (fun w1 n hQ => by obtain ⟨F', k1, -, -⟩ := hQ; exact r_frameOf (w1.drewN n) F' u q pl _ v _ vm (k1.below (below_dn (Below.refl _ _) n)) (s.pf p) (by omega) _ rfl)).mono ?_
  rintro r w' ⟨rfl, w2, n, ⟨F', k1, k2, k3⟩, rfl⟩
  exact ⟨rfl, F', k1.below (below_dn (Below.refl _ _) n), k2.trans (.ofBelow (below_dn (Below.refl _ _) n)), k3⟩
theorem x_TakeS (x : Int) (hx : may x = true) (hx1 : 1 ≤ x) (hc : 0 < cnt v.o 0 v.n) : Calls Try.prog 20 #[.pointer (some ⟨pl, 0, none⟩), .int .i64 x] w fun r w' => r = .returned (.tuple #[.int .i64 (ff v.o v.n : Nat), .int .i64 0]) ∧ SPs w' F u q pl s (v.own (ff v.o v.n) x) f vm ∧ Only F w w' := by
  have := x_Take w F pl v f h.pl x
  rw [tk_free v x hx hc] at this
  obtain ⟨h1, h2⟩ := cnt_pos hc
  refine this.mono ?_
  rintro r w' ⟨rfl, k1, k2⟩
  exact ⟨rfl, h.turn k1 k2 rfl rfl (h.iv.own h1 h2 (.inl hx1) (fun e => by omega)), k2⟩
end
theorem r_WriteAny (w : World) (F : Nat → Prop) (u : Value) (q pl : Nat) (s : SV) (v : PV) (f : Nat → Int) (vm : Int) (h : SPs w F u q pl s v f vm) (a : Int) (a0 : 0 ≤ a) (a1 : a < 18446744073709551616) (n : Nat) (hn : wdt n = true) (x : Int) (x0 : 0 ≤ x) (x1 : x < 18446744073709551616) (b : Bool) (hb : (∀ j, j < n → pgOk s 4 ((a.toNat + j) / 4096) = true) ↔ b = true) :
    Calls Try.prog 19 #[.pointer (some ⟨q, 0, none⟩), .int .u64 a, .int .i64 n, .int .u64 x] w fun r w' => r = .returned (.bool b) ∧ ∃ F' f', SPs w' F' u q pl s v f' vm ∧ f' = (if b = true then wG s f a.toNat x n else f) ∧ Only F w w' ∧ ∀ k, F' k → F k ∨ w.heap.size ≤ k := by
  cases hbc : b
  · have hp := x_places w F u q pl s v f vm h a a0 a1 n hn 4 (.inr rfl) false (by rw [← hbc]; exact hb)
    refine (t_write_no w q a n x (hp.mono fun r w' hQ => ⟨⟨hQ.1.choose, hQ.1.choose_spec.1⟩, hQ.2⟩)).mono ?_
    rintro r w' ⟨rfl, h2⟩
    exact ⟨rfl, F, f, h.below h2, rfl, .ofBelow h2, fun _ z => .inl z⟩
  · refine (x_Write w F u q pl s v f vm h a a0 a1 n hn x x0 x1 (hb.2 hbc)).mono ?_
    rintro r w' ⟨rfl, F', h1, h2, h3⟩
    exact ⟨rfl, F', _, h1, rfl, h2, h3⟩
theorem leaf_pp (s : SV) (p fr pm : Nat) : (s.leaf p fr pm).pp p = pm := upd_same s.pp p pm
theorem leaf_pf (s : SV) (p fr pm : Nat) : (s.leaf p fr pm).pf p = fr := upd_same s.pf p fr
theorem leaf_ppo (s : SV) (p fr pm x : Nat) (h : x ≠ p) : (s.leaf p fr pm).pp x = s.pp x := upd_other s.pp p pm x h
theorem leaf_pfo (s : SV) (p fr pm x : Nat) (h : x ≠ p) : (s.leaf p fr pm).pf x = s.pf x := upd_other s.pf p fr x h
theorem and_i64 : ∀ n c : Fin 16, bits .and .i64 ((n : Nat) : Int) ((c : Nat) : Int) = (((n : Nat) &&& (c : Nat) : Nat) : Int) := by decide +kernel
theorem okP_lt {p : Nat} (h : okP p) : p < 16 := by unfold okP at h; omega
theorem okR_w {p : Nat} (h : okP p) : okR 4 p = decide (p &&& 4 ≠ 0) := by
  rcases h with h | h | h | h | h <;> subst h <;> rfl
def pmT (j : Nat) : Nat := if j = 0 then 2 else if j = 1 then 6 else if j = 2 then 8 else if j = 3 then 10 else 14
theorem pmT_ok (j : Nat) : okP (pmT j) := by unfold pmT okP; split <;> (try split) <;> (try split) <;> (try split) <;> omega
theorem pmT_at (j : Nat) (hj : j < 5) : (#[Value.int .i64 2, .int .i64 6, .int .i64 8, .int .i64 10, .int .i64 14] : Array Value)[j]? = some (.int .i64 (pmT j : Nat)) := by
  rcases j with _ | _ | _ | _ | _ | j
  · rfl
  · rfl
  · rfl
  · rfl
  · rfl
  · omega
theorem ff_sp2 (m : Nat) : ff (spV m).o 16 = 3 := by kernel_rfl
theorem cnt_sp2 (m : Nat) : cnt (spV m).o 0 16 = 13 := by kernel_rfl
theorem cnt_sp3 (m : Nat) : cnt ((spV m).own 3 1).o 0 16 = 12 := by kernel_rfl
end Go.Proofs.Ytekkjalfiogenaa
