/- What is remembered truly is what the table says. -/
import Derived.Test.YtfoafgbhelgjcaaMH3
namespace Go.Proofs.Ytfoafgbhelgjcaa
open Go.RowKit
open C (gst rdm hasB D plc pm al hs lo num pw)
set_option linter.unusedVariables false
set_option maxRecDepth 100000

theorem atF_page {a b : Int} (h : a / 4096 = b / 4096) (k : Nat) (t : Int) : C.atF a k t = C.atF b k t := by unfold C.atF; rw [h]
theorem D_page (R : Int → Int × Int) {a b : Int} (h : a / 4096 = b / 4096) (wrong : Int) : ∀ (k : Nat) (t : Int), D R a wrong k t = D R b wrong k t
  | 0, t => by unfold D; rw [atF_page h]
  | k + 1, t => by unfold D; rw [atF_page h, D_page R h wrong k]
def pmL (l : Nat) : Nat := if l &&& 128 = 128 then l &&& 14 else l &&& 10
theorem pm_lo (e : Int) : pm e = ((pmL (lo e) : Nat) : Int) := by
  unfold pm pmL hs
  by_cases h : lo e &&& 128 = 128
  · simp [h]
  · simp [h]
theorem pmL_w : ∀ l : Fin 256, (bits .and .i64 ((pmL l : Nat) : Int) 4 == 0) = false → l.val &&& 132 = 132 := of_decide_eq_true (by kernel_rfl)
theorem pmL_r : ∀ l : Fin 256, (bits .and .i64 ((pmL l : Nat) : Int) 2 == 0) = false → l.val &&& 2 = 2 := of_decide_eq_true (by kernel_rfl)
theorem al_of {e k : Int} {wt : Bool} (h : al e k = true) (hp : (bits .and .i64 (pm e) (art wt) == 0) = false) : al e (akd wt) = true := by
  have h80 : hs e 80 = true := by unfold al at h; simp at h; exact h.1
  rw [pm_lo] at hp
  unfold al
  rw [h80]
  cases wt
  · have := pmL_r ⟨lo e, C.lo_lt e⟩ hp
    simp [akd, hs, this]
  · have := pmL_w ⟨lo e, C.lo_lt e⟩ hp
    simp [akd, hs, this]
/-- an entry that a device's table says -/
def Te (n : Nat) (f : Nat → Int) (root : Int) (e : E.TV) : Prop := ∃ b k x, b / 4096 = e.p ∧ 0 ≤ b ∧ b < 18446744073709551616 ∧ gst (rdm n f) root b k = (x, e.r, 0) ∧ e.f = x / 4096
theorem te_gst {n : Nat} {f : Nat → Int} (hf : ∀ j, 0 ≤ f j ∧ f j < 256) {root : Int} (h0 : root ≠ 0) (r0 : 0 ≤ root) (r1 : root < 18446744073709551616) {e : E.TV} (he : Te n f root e) {a : Int} (ha : a / 4096 = e.p) (a0 : 0 ≤ a) (a1 : a < 18446744073709551616) {wt : Bool} (hp : (bits .and .i64 e.r (art wt) == 0) = false) : ∃ y, gst (rdm n f) root a (akd wt) = (plf e.f a, y, 0) := by
  obtain ⟨b, k, x, hb, b0, b1, hg, hx⟩ := he
  have hbx := gst_b hf root b k b0 b1 r0 r1 hg
  unfold gst at hg
  rw [if_neg h0] at hg
  revert hg
  split
  · intro hg; simp at hg
  · rename_i h39
    split
    · intro hg; simp at hg; rename_i hz; exact absurd hg.2.2 hz
    · rename_i hz
      split
      · rename_i hal
        intro hg
        simp only [Prod.mk.injEq] at hg
        obtain ⟨g1, g2, -⟩ := hg
        refine ⟨pm (D (rdm n f) b 2 2 root).leaf, ?_⟩
        have hD : D (rdm n f) a 2 2 root = D (rdm n f) b 2 2 root := D_page _ (by rw [ha, hb]) 2 2 root
        rw [← g2] at hp
        unfold gst
        rw [if_neg h0, if_neg (by omega), hD, if_neg hz, if_pos (al_of hal hp)]
        have e1 : plc (D (rdm n f) b 2 2 root) a = plf e.f a := by
          rw [hx, plf_eq x a hbx.1 hbx.2, ← g1]
          unfold plc
          rw [show a / 4096 = b / 4096 by rw [ha, hb]]
          omega
        rw [e1]
      · intro hg; simp at hg
/-- a TLB whose entries all are true -/
def Tr (n : Nat) (f : Nat → Int) (v : UV) (L : List E.TV) : Prop := ∀ e ∈ L, v.root e.v.toNat ≠ 0 ∧ Te n f (v.root e.v.toNat) e
theorem Tr.nil (n : Nat) (f : Nat → Int) (v : UV) : Tr n f v [] := fun e h => by cases h
theorem Tr.sub {n : Nat} {f : Nat → Int} {v : UV} {L L' : List E.TV} (h : Tr n f v L) (hs : ∀ e ∈ L', e ∈ L) : Tr n f v L' := fun e he => h e (hs e he)
theorem fl_sub {L : List E.TV} {d : Int} : ∀ e ∈ E.fl L d, e ∈ L := fun e h => (List.mem_filter.1 h).1
theorem fp_sub {L : List E.TV} {d p : Int} : ∀ e ∈ E.fp L d p, e ∈ L := fun e h => (List.mem_filter.1 h).1
theorem pu_sub {room : Nat} {L : List E.TV} {x : E.TV} : ∀ e ∈ E.pu room L x, e ∈ L ∨ e = x := by
  intro e h
  unfold E.pu at h
  rcases List.mem_append.1 h with q | q
  · left
    split at q
    · unfold E.ev at q
      split at q
      · cases q
      · rename_i y M hm
        have := fp_sub _ q
        rw [← hm] at this
        exact fp_sub _ this
    · exact fp_sub _ q
  · right; simpa using q
theorem lk_mem {L : List E.TV} {d p : Int} {e : E.TV} (h : E.lk L d p = (e, true)) : e ∈ L ∧ e.v = d ∧ e.p = p := by
  unfold E.lk at h
  cases q : L.find? (fun x => x.here d p) with
  | none => rw [q] at h; cases h
  | some x =>
    rw [q] at h
    cases h
    have h1 := List.find?_some q
    simp [E.TV.here] at h1
    exact ⟨List.mem_of_find?_eq_some q, h1.1, h1.2⟩
/-- what an access comes to by its table alone -/
def acN (n : Nat) (f : Nat → Int) (root : Int) (a s : Int) (wt : Bool) : Int × Int :=
  if whole a s = false then (4, 0) else if root = 0 then (1, 0) else
  if (gst (rdm n f) root a (akd wt)).2.2 = 0 then (if hasB 0 n (plf ((gst (rdm n f) root a (akd wt)).1 / 4096) a) s = true then (0, plf ((gst (rdm n f) root a (akd wt)).1 / 4096) a) else (3, 0)) else (2, 0)
theorem acF_true {n : Nat} {f : Nat → Int} (hf : ∀ j, 0 ≤ f j ∧ f j < 256) {v : UV} (hr : ∀ j, 0 ≤ v.root j ∧ v.root j < 18446744073709551616) {room : Nat} {L : List E.TV} (hT : Tr n f v L) {d a s : Int} {wt : Bool} (a0 : 0 ≤ a) (a1 : a < 18446744073709551616) {k p : Int} {L' : List E.TV} (h : acF n f v room L d a s wt = (k, p, L')) :
    acN n f (v.root d.toNat) a s wt = (k, p) ∧ Tr n f v L' := by
  unfold acF at h
  unfold acN
  cases e1 : whole a s
  · rw [if_pos e1] at h; cases h; exact ⟨rfl, hT⟩
  · rw [if_neg (by rw [e1]; decide)] at h
    rw [if_neg (by decide)]
    by_cases e2 : v.root d.toNat = 0
    · rw [if_pos e2] at h; cases h; rw [if_pos e2]; exact ⟨rfl, hT⟩
    · rw [if_neg e2] at h
      rw [if_neg e2]
      obtain ⟨e, ok, hl⟩ : ∃ e ok, E.lk L d (a / 4096) = (e, ok) := ⟨_, _, rfl⟩
      by_cases hh : ok = true ∧ (bits .and .i64 e.r (art wt) == 0) = false
      · obtain ⟨rfl, hp⟩ := hh
        obtain ⟨m1, m2, m3⟩ := lk_mem hl
        rw [fnd_hit hl hp] at h
        obtain ⟨y, hy⟩ := te_gst hf e2 (hr _).1 (hr _).2 (by have := (hT e m1).2; rwa [m2] at this) m3.symm a0 a1 hp
        have hb := plf_b e.f a
        have e3 : plf (plf e.f a / 4096) a = plf e.f a := by
          rw [plf_eq _ a hb.1 hb.2]
          unfold plf
          rw [wrap_u64, wrap_u64]
          omega
        rw [hy]
        simp only [if_true, e3]
        cases e4 : hasB 0 n (plf e.f a) s
        · simp only [e4] at h; cases h; exact ⟨rfl, hT⟩
        · simp only [e4] at h; cases h; exact ⟨rfl, hT⟩
      · obtain ⟨x, y, z, hg⟩ : ∃ x y z, gst (rdm n f) (v.root d.toNat) a (akd wt) = (x, y, z) := ⟨_, _, _, rfl⟩
        have hm := fnd_miss (room := room) hl hh hg
        rw [hg]
        by_cases hz : z = 0
        · rw [hm.1 hz] at h
          have hT' : Tr n f v (E.pu room L ⟨d, a / 4096, x / 4096, y⟩) := fun e he => by
            rcases pu_sub e he with q | rfl
            · exact hT e q
            · exact ⟨e2, a, akd wt, x, rfl, a0, a1, by rw [hg, hz], rfl⟩
          simp only [hz, if_true]
          cases e4 : hasB 0 n (plf (x / 4096) a) s
          · simp only [e4] at h; cases h; exact ⟨rfl, hT'⟩
          · simp only [e4] at h; cases h; exact ⟨rfl, hT'⟩
        · rw [hm.2 hz] at h
          cases h
          simp only [hz, if_false]
          exact ⟨trivial, hT⟩
end Go.Proofs.Ytfoafgbhelgjcaa
