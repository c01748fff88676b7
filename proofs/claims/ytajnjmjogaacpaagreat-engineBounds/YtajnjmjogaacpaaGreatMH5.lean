/- What a statement's walk carries along. -/
import Derived.Test.YtajnjmjogaacpaaGreatMH4
import Derived.Test.YtajnjmjogaacpaaGreatMC2
import Derived.Test.YtajnjmjogaacpaaGreatMH2
import Derived.Test.YtajnjmjogaacpaaGreatMC4
import Derived.Test.YtajnjmjogaacpaaGreatMH1
namespace Go.Proofs.YtajnjmjogaacpaaGreat
open Go.RowKit
open C (Only hid Mem Still ret_int ret_bool put byt nu)
set_option linter.unusedVariables false

/-- an IOMMU of this walk's own, and the block that names it -/
structure LW (W w : World) (F : Nat → Prop) (ob u : Nat) (v : UV) (n : Nat) (f : Nat → Int) (room : Nat) (L : List E.TV) : Prop where
  us : US w F u v n f room L
  new : Below W.heap.size W w
  fnew : ∀ k, F k → W.heap.size ≤ k
  obk : ∃ x y z, w.heap[ob]? = some (.cells #[.pointer (some ⟨u, 0, none⟩), x, y, z] 36 (0, 0))
  nob : ¬ F ob
section
variable {W w w' : World} {F F' : Nat → Prop} {ob u : Nat} {v v' : UV} {n : Nat} {f f' : Nat → Int} {room : Nat} {L L' : List E.TV}
theorem LW.lt (h : LW W w F ob u v n f room L) : ob < w.heap.size := by obtain ⟨x, y, z, h1⟩ := h.obk; exact lt_of_block h1
theorem LW.c (h : LW W w F ob u v n f room L) : w.cell? ⟨ob, 0, none⟩ = some (.pointer (some ⟨u, 0, none⟩)) := by
  obtain ⟨x, y, z, h1⟩ := h.obk
  rw [cell_of_row w _ 0 _ _ _ h1]; rfl
theorem LW.step (h : LW W w F ob u v n f room L) (hs : US w' F' u v' n f' room L') (ht : Tn w F w' F') : LW W w' F' ob u v' n f' room L' where
  us := hs
  new := h.new.trans (ht.1.below _ h.new.size h.fnew)
  fnew := fun k hk => (ht.2 k hk).elim (h.fnew k) fun q => Nat.le_trans h.new.size q
  obk := by obtain ⟨x, y, z, h1⟩ := h.obk; exact ⟨x, y, z, ht.1.old h1 h.nob⟩
  nob := fun q => (ht.2 ob q).elim h.nob fun z => by have := h.lt; omega
theorem LW.below (h : LW W w F ob u v n f room L) (hb : Below w.heap.size w w') : LW W w' F ob u v n f room L := h.step (h.us.below hb) (Tn.ofBelow hb)
theorem LW.alloc (h : LW W w F ob u v n f room L) (o : Obj) : LW W (w.alloc o) F ob u v n f room L := h.below ((Below.refl _ _).alloc (Nat.le_refl _) o)
/-- the walk's beginning -/
theorem LW.start {W0 : World} (hb0 : Below W.heap.size W W0) {t m x q : Nat} {T : Nat → Prop} {f : Nat → Int} (hs : US w F u v n f room L) (hb : Below W0.heap.size W0 w) (hf : ∀ k, F k ∨ T k → W0.heap.size ≤ k) (a b c : Value) : LW W (w.alloc (.cells #[.pointer (some ⟨u, 0, none⟩), a, b, c] 36)) F w.heap.size u v n f room L where
  us := hs.below ((Below.refl _ _).alloc (Nat.le_refl _) _)
  new := (hb0.trans (hb.mono hb0.size)).alloc (Nat.le_trans hb0.size hb.size) _
  fnew := fun k hk => Nat.le_trans hb0.size (hf k (.inl hk))
  obk := ⟨a, b, c, heap_alloc_new w _⟩
  nob := fun q => by have := hs.lt q; omega
end
/-- a ring under way: how many records were not told, the flag; those are G told .. -/
structure Rg (v : UV) (f : Nat → Int) (G : Nat → Int × Int × Int) (told c : Nat) (l : Bool) : Prop where
  there : v.there = true
  count : v.count = c
  lost : v.lost = l
  rl : RL v f G told
theorem Rg.next {v : UV} {f : Nat → Int} {G : Nat → Int × Int × Int} {told c : Nat} {l : Bool} (h : Rg v f G told c l) (hc : 0 < c) : Rg (nxV v) f G (told + 1) (c - 1) l :=
  ⟨h.there, by show v.count - 1 = c - 1; rw [h.count], h.lost, h.rl.next (by rw [h.count]; exact hc)⟩
theorem Rg.clear {v : UV} {f : Nat → Int} {G : Nat → Int × Int × Int} {told c : Nat} {l : Bool} (h : Rg v f G told c l) : Rg (v.setLost false) f G told c false := ⟨h.there, h.count, rfl, h.rl⟩
theorem Rg.recd {v : UV} {f : Nat → Int} {G : Nat → Int × Int × Int} {told c n : Nat} {l : Bool} (h : Rg v f G told c l) (ok : VOk v n) (d k a : Int) (d0 : 0 ≤ d) (d1 : d < 8) (k0 : 0 ≤ k) (k1 : k < 8) (a0 : 0 ≤ a) (a1 : a < 18446744073709551616) (hG : c < 255 → G (told + c) = (d, k, a)) :
    Rg (rcV v) (rcF v f d k a) G told (if c < 255 then c + 1 else c) (if c < 255 then l else true) := by
  have hr := h.rl.rec ok d k a d0 d1 k0 k1 a0 a1 (fun e => by simp [rcB] at e; rw [h.count] at e ⊢; exact hG e.2)
  by_cases q : c < 255
  · have e : rcB v = true := by simp [rcB, h.there, h.count, q]
    rw [if_pos q, if_pos q]
    refine ⟨?_, ?_, ?_, hr⟩
    · unfold rcV; rw [e]; exact h.there
    · unfold rcV; rw [e]; show v.count + 1 = c + 1; rw [h.count]
    · unfold rcV; rw [e]; exact h.lost
  · have e : rcB v = false := by simp [rcB, h.there, h.count]; omega
    rw [if_neg q, if_neg q]
    refine ⟨?_, ?_, ?_, hr⟩
    · unfold rcV; rw [e]; exact h.there
    · unfold rcV; rw [e]; exact h.count
    · unfold rcV; rw [e]; rfl
theorem acF_none {n : Nat} {f : Nat → Int} {v : UV} {room : Nat} {L : List E.TV} {d a s : Int} {wt : Bool} (h1 : whole a s = true) (h2 : v.root d.toNat = 0) : acF n f v room L d a s wt = (1, 0, L) := by
  unfold acF; rw [if_neg (by rw [h1]; decide), if_pos h2]
theorem whole8 (a : Int) (h : a % 8 = 0) : whole a 8 = true := by simp [whole, h]
/-- an access of a device without a table, at a multiple of eight -/
theorem s_AccessNone (w : World) (F : Nat → Prop) (u : Nat) (v : UV) (n : Nat) (f : Nat → Int) (room : Nat) (L : List E.TV) (h : US w F u v n f room L) (d a : Int) (wt : Bool) (hd : isDev d = true) (a0 : 0 ≤ a) (a1 : a < 18446744073709551616) (ha : a % 8 = 0) (h2 : v.root d.toNat = 0) :
    Calls Tryz.prog 12 #[.pointer (some ⟨u, 0, none⟩), .int .i64 d, .int .u64 a, .int .i64 8, .bool wt] w fun e w' => e = .returned (.tuple #[.int .u64 0, .bool false]) ∧ ∃ F', US w' F' u (rcV v) n (rcF v f d 1 a) room L ∧ Tn w F w' F' :=
  s_Access w F u v n f room L h d a 8 wt hd a0 a1 (by decide) (by decide) 1 0 L (acF_none (whole8 a ha) h2)
end Go.Proofs.YtajnjmjogaacpaaGreat
namespace Go.Proofs.YtajnjmjogaacpaaGreat
open Go.RowKit
open C (gst rdm hasB D plc pm al hs lo num pw)
set_option linter.unusedVariables false
set_option maxRecDepth 100000

theorem atF_page {a b : Int} (h : a / 4096 = b / 4096) (k : Nat) (t : Int) : C.atF a k t = C.atF b k t := by unfold C.atF; rw [h]
theorem D_page (R : Int → Int × Int) {a b : Int} (h : a / 4096 = b / 4096) (wrong : Int) : ∀ (k : Nat) (t : Int), D R a wrong k t = D R b wrong k t
  | 0, t => by unfold D; rw [atF_page h]
  | k + 1, t => by unfold D; rw [atF_page h, D_page R h wrong k]
def pmL (l : Nat) : Nat := if l &&& 128 = 128 then l &&& 14 else l &&& 10
theorem pm_lo (e : Int) : pm e = ((pmL (lo e) : Nat) : Int) := by
  unfold pm pmL hs
  by_cases h : lo e &&& 128 = 128
  · simp [h]
  · simp [h]
theorem pmL_w : ∀ l : Fin 256, (bits .and .i64 ((pmL l : Nat) : Int) 4 == 0) = false → l.val &&& 132 = 132 := of_decide_eq_true (by kernel_rfl)
theorem pmL_r : ∀ l : Fin 256, (bits .and .i64 ((pmL l : Nat) : Int) 2 == 0) = false → l.val &&& 2 = 2 := of_decide_eq_true (by kernel_rfl)
theorem al_of {e k : Int} {wt : Bool} (h : al e k = true) (hp : (bits .and .i64 (pm e) (art wt) == 0) = false) : al e (akd wt) = true := by
  have h80 : hs e 80 = true := by unfold al at h; simp at h; exact h.1
  rw [pm_lo] at hp
  unfold al
  rw [h80]
  cases wt
  · have := pmL_r ⟨lo e, C.lo_lt e⟩ hp
    simp [akd, hs, this]
  · have := pmL_w ⟨lo e, C.lo_lt e⟩ hp
    simp [akd, hs, this]
/-- an entry that a device's table says -/
def Te (n : Nat) (f : Nat → Int) (root : Int) (e : E.TV) : Prop := ∃ b k x, b / 4096 = e.p ∧ 0 ≤ b ∧ b < 18446744073709551616 ∧ gst (rdm n f) root b k = (x, e.r, 0) ∧ e.f = x / 4096
theorem te_gst {n : Nat} {f : Nat → Int} (hf : ∀ j, 0 ≤ f j ∧ f j < 256) {root : Int} (h0 : root ≠ 0) (r0 : 0 ≤ root) (r1 : root < 18446744073709551616) {e : E.TV} (he : Te n f root e) {a : Int} (ha : a / 4096 = e.p) (a0 : 0 ≤ a) (a1 : a < 18446744073709551616) {wt : Bool} (hp : (bits .and .i64 e.r (art wt) == 0) = false) : ∃ y, gst (rdm n f) root a (akd wt) = (plf e.f a, y, 0) := by
  obtain ⟨b, k, x, hb, b0, b1, hg, hx⟩ := he
  have hbx := gst_b hf root b k b0 b1 r0 r1 hg
  unfold gst at hg
  rw [if_neg h0] at hg
  revert hg
  split
  · intro hg; simp at hg
  · rename_i h39
    split
    · intro hg; simp at hg; rename_i hz; exact absurd hg.2.2 hz
    · rename_i hz
      split
      · rename_i hal
        intro hg
        simp only [Prod.mk.injEq] at hg
        obtain ⟨g1, g2, -⟩ := hg
        refine ⟨pm (D (rdm n f) b 2 2 root).leaf, ?_⟩
        have hD : D (rdm n f) a 2 2 root = D (rdm n f) b 2 2 root := D_page _ (by rw [ha, hb]) 2 2 root
        rw [← g2] at hp
        unfold gst
        rw [if_neg h0, if_neg (by omega), hD, if_neg hz, if_pos (al_of hal hp)]
        have e1 : plc (D (rdm n f) b 2 2 root) a = plf e.f a := by
          rw [hx, plf_eq x a hbx.1 hbx.2, ← g1]
          unfold plc
          rw [show a / 4096 = b / 4096 by rw [ha, hb]]
          omega
        rw [e1]
      · intro hg; simp at hg
/-- a TLB whose entries all are true -/
def Tr (n : Nat) (f : Nat → Int) (v : UV) (L : List E.TV) : Prop := ∀ e ∈ L, v.root e.v.toNat ≠ 0 ∧ Te n f (v.root e.v.toNat) e
theorem Tr.nil (n : Nat) (f : Nat → Int) (v : UV) : Tr n f v [] := fun e h => by cases h
theorem Tr.sub {n : Nat} {f : Nat → Int} {v : UV} {L L' : List E.TV} (h : Tr n f v L) (hs : ∀ e ∈ L', e ∈ L) : Tr n f v L' := fun e he => h e (hs e he)
theorem fl_sub {L : List E.TV} {d : Int} : ∀ e ∈ E.fl L d, e ∈ L := fun e h => (List.mem_filter.1 h).1
theorem fp_sub {L : List E.TV} {d p : Int} : ∀ e ∈ E.fp L d p, e ∈ L := fun e h => (List.mem_filter.1 h).1
theorem pu_sub {room : Nat} {L : List E.TV} {x : E.TV} : ∀ e ∈ E.pu room L x, e ∈ L ∨ e = x := by
  intro e h
  unfold E.pu at h
  rcases List.mem_append.1 h with q | q
  · left
    split at q
    · unfold E.ev at q
      split at q
      · cases q
      · rename_i y M hm
        have := fp_sub _ q
        rw [← hm] at this
        exact fp_sub _ this
    · exact fp_sub _ q
  · right; simpa using q
theorem lk_mem {L : List E.TV} {d p : Int} {e : E.TV} (h : E.lk L d p = (e, true)) : e ∈ L ∧ e.v = d ∧ e.p = p := by
  unfold E.lk at h
  cases q : L.find? (fun x => x.here d p) with
  | none => rw [q] at h; cases h
  | some x =>
    rw [q] at h
    cases h
    have h1 := List.find?_some q
    simp [E.TV.here] at h1
    exact ⟨List.mem_of_find?_eq_some q, h1.1, h1.2⟩
/-- what an access comes to by its table alone -/
def acN (n : Nat) (f : Nat → Int) (root : Int) (a s : Int) (wt : Bool) : Int × Int :=
  if whole a s = false then (4, 0) else if root = 0 then (1, 0) else
  if (gst (rdm n f) root a (akd wt)).2.2 = 0 then (if hasB 0 n (plf ((gst (rdm n f) root a (akd wt)).1 / 4096) a) s = true then (0, plf ((gst (rdm n f) root a (akd wt)).1 / 4096) a) else (3, 0)) else (2, 0)
theorem acF_true {n : Nat} {f : Nat → Int} (hf : ∀ j, 0 ≤ f j ∧ f j < 256) {v : UV} (hr : ∀ j, 0 ≤ v.root j ∧ v.root j < 18446744073709551616) {room : Nat} {L : List E.TV} (hT : Tr n f v L) {d a s : Int} {wt : Bool} (a0 : 0 ≤ a) (a1 : a < 18446744073709551616) {k p : Int} {L' : List E.TV} (h : acF n f v room L d a s wt = (k, p, L')) :
    acN n f (v.root d.toNat) a s wt = (k, p) ∧ Tr n f v L' := by
  unfold acF at h
  unfold acN
  cases e1 : whole a s
  · rw [if_pos e1] at h; cases h; exact ⟨rfl, hT⟩
  · rw [if_neg (by rw [e1]; decide)] at h
    rw [if_neg (by decide)]
    by_cases e2 : v.root d.toNat = 0
    · rw [if_pos e2] at h; cases h; rw [if_pos e2]; exact ⟨rfl, hT⟩
    · rw [if_neg e2] at h
      rw [if_neg e2]
      obtain ⟨e, ok, hl⟩ : ∃ e ok, E.lk L d (a / 4096) = (e, ok) := ⟨_, _, rfl⟩
      by_cases hh : ok = true ∧ (bits .and .i64 e.r (art wt) == 0) = false
      · obtain ⟨rfl, hp⟩ := hh
        obtain ⟨m1, m2, m3⟩ := lk_mem hl
        rw [fnd_hit hl hp] at h
        obtain ⟨y, hy⟩ := te_gst hf e2 (hr _).1 (hr _).2 (by have := (hT e m1).2; rwa [m2] at this) m3.symm a0 a1 hp
        have hb := plf_b e.f a
        have e3 : plf (plf e.f a / 4096) a = plf e.f a := by
          rw [plf_eq _ a hb.1 hb.2]
          unfold plf
          rw [wrap_u64, wrap_u64]
          omega
        rw [hy]
        simp only [if_true, e3]
        cases e4 : hasB 0 n (plf e.f a) s
        · simp only [e4] at h; cases h; exact ⟨rfl, hT⟩
        · simp only [e4] at h; cases h; exact ⟨rfl, hT⟩
      · obtain ⟨x, y, z, hg⟩ : ∃ x y z, gst (rdm n f) (v.root d.toNat) a (akd wt) = (x, y, z) := ⟨_, _, _, rfl⟩
        have hm := fnd_miss (room := room) hl hh hg
        rw [hg]
        by_cases hz : z = 0
        · rw [hm.1 hz] at h
          have hT' : Tr n f v (E.pu room L ⟨d, a / 4096, x / 4096, y⟩) := fun e he => by
            rcases pu_sub e he with q | rfl
            · exact hT e q
            · exact ⟨e2, a, akd wt, x, rfl, a0, a1, by rw [hg, hz], rfl⟩
          simp only [hz, if_true]
          cases e4 : hasB 0 n (plf (x / 4096) a) s
          · simp only [e4] at h; cases h; exact ⟨rfl, hT'⟩
          · simp only [e4] at h; cases h; exact ⟨rfl, hT'⟩
        · rw [hm.2 hz] at h
          cases h
          simp only [hz, if_false]
          exact ⟨trivial, hT⟩
end Go.Proofs.YtajnjmjogaacpaaGreat
namespace Go.Proofs.YtajnjmjogaacpaaGreat
open Go.RowKit
open C (Only hid Mem put byt nu hasB rdm gst)
set_option linter.unusedVariables false
set_option maxRecDepth 100000

theorem agr7_refl {f : Nat → Int} (h : ∀ i, i < 3584 → C.okT7 (C.rd8 f (8 * i))) (hb : ∀ j, 0 ≤ f j ∧ f j < 256) : C.Agr7 f f := ⟨fun _ _ => rfl, h, hb⟩
theorem agr7_acN {f g : Nat → Int} (h : C.Agr7 f g) (root a s : Int) (wt : Bool) (r0 : 0 ≤ root) (r1 : root ≤ 6) : acN 8 f root a s wt = acN 8 g root a s wt := by
  unfold acN
  rw [C.agr_gst7 h root a (akd wt) r0 r1]
theorem tr_agr {f g : Nat → Int} (h : C.Agr7 f g) {v v' : UV} (hr : ∀ j, 0 ≤ v.root j ∧ v.root j ≤ 6) (hv : v'.root = v.root) {L : List E.TV} (ht : Tr 8 f v L) : Tr 8 g v' L := fun e he => by
  obtain ⟨h1, b, k, x, b0, b1, b2, b3, b4⟩ := ht e he
  rw [hv]
  exact ⟨h1, b, k, x, b0, b1, b2, by rw [← C.agr_gst7 h _ b k (hr _).1 (hr _).2]; exact b3, b4⟩
theorem rcF_low {v : UV} (hg : v.there = true → v.addr = 28672) (f : Nat → Int) (d k a : Int) (j : Nat) (hj : j < 28672) : rcF v f d k a j = f j := by
  unfold rcF
  cases e : rcB v
  · rfl
  · simp [rcB] at e
    have h := hg e.1
    show rcf f (v.at v.count) d k a j = f j
    have hat : 28672 ≤ v.at v.count := by unfold UV.at; omega
    unfold rcf put
    repeat rw [if_neg (by omega)]
/-- a state whose memory below frame 7 is b, whose TLB is true -/
structure Sb (b : Nat → Int) (x : Int) (s : Us) : Prop where
  ag : C.Agr7 b s.f
  by8 : ∀ j, 0 ≤ s.f j ∧ s.f j < 256
  tr : Tr 8 s.f s.v s.L
  rt : ∀ j, 0 ≤ s.v.root j ∧ s.v.root j ≤ 6
  r3 : s.v.root 3 = x
  rg : s.v.there = true → s.v.addr = 28672
theorem rcF_byt {v : UV} {f : Nat → Int} (h : ∀ j, 0 ≤ f j ∧ f j < 256) (d k a : Int) (j : Nat) : 0 ≤ rcF v f d k a j ∧ rcF v f d k a j < 256 := by
  unfold rcF
  cases rcB v
  · exact h j
  · show 0 ≤ rcf f (v.at v.count) d k a j ∧ rcf f (v.at v.count) d k a j < 256
    unfold rcf put byt
    repeat' split
    all_goals first | exact h j | omega
theorem Sb.rcd {b : Nat → Int} {x : Int} {s : Us} (h : Sb b x s) (k a : Int) (L' : List E.TV) (hL : Tr 8 s.f s.v L') : Sb b x ⟨rcV s.v, rcF s.v s.f 3 k a, L'⟩ := by
  have hl := fun j hj => rcF_low h.rg s.f 3 k a j hj
  have hag : C.Agr7 b (rcF s.v s.f 3 k a) := ⟨fun j hj => (h.ag.same j hj).trans (hl j hj).symm, h.ag.tab, h.ag.byt⟩
  have hfg : C.Agr7 s.f (rcF s.v s.f 3 k a) := ⟨fun j hj => (hl j hj).symm, fun i hi => by rw [← C.agr_rd7 h.ag i hi]; exact h.ag.tab i hi, h.by8⟩
  refine ⟨hag, rcF_byt h.by8 3 k a, tr_agr hfg h.rt (rcV_root _) hL, fun j => ?_, ?_, ?_⟩
  · rw [rcV_root]; exact h.rt j
  · rw [rcV_root]; exact h.r3
  · show (rcV s.v).there = true → (rcV s.v).addr = 28672
    unfold rcV; cases rcB s.v <;> exact h.rg
theorem Sb.acc {b : Nat → Int} {x : Int} {s : Us} (h : Sb b x s) (u m t : Nat) (a : Int) (wt : Bool) (a0 : 0 ≤ a) (a1 : a < 18446744073709551616) :
    ((UG u 8 8 m t 3).acc s a wt).1 = (acN 8 b x a 8 wt).2 ∧ ((UG u 8 8 m t 3).acc s a wt).2.1 = decide ((acN 8 b x a 8 wt).1 = 0) ∧ Sb b x ((UG u 8 8 m t 3).acc s a wt).2.2 := by
  obtain ⟨⟨k, p, L'⟩, hk⟩ : ∃ z, acF 8 s.f s.v 8 s.L 3 a 8 wt = z := ⟨_, rfl⟩
  obtain ⟨h1, h2⟩ := acF_true h.by8 (fun j => ⟨(h.rt j).1, by have := (h.rt j).2; omega⟩) h.tr a0 a1 hk
  rw [show (3 : Int).toNat = 3 from rfl, h.r3, ← agr7_acN h.ag x a 8 wt (h.r3 ▸ (h.rt 3).1) (h.r3 ▸ (h.rt 3).2)] at h1
  have ea : (UG u 8 8 m t 3).acc s a wt = (p, decide (k = 0), ⟨bkV s.v k, bkF s.v s.f 3 k a, L'⟩) := by
    show (_, _, _) = _
    rw [hk]; rfl
  rw [ea, h1]
  refine ⟨rfl, rfl, ?_⟩
  show Sb b x ⟨bkV s.v k, bkF s.v s.f 3 k a, L'⟩
  unfold bkV bkF
  by_cases k0 : k = 0
  · rw [if_pos k0, if_pos k0]; exact ⟨h.ag, h.by8, h2, h.rt, h.r3, h.rg⟩
  · rw [if_neg k0, if_neg k0]; exact h.rcd k a L' h2
theorem Sb.msg {b : Nat → Int} {x : Int} {s : Us} (u m t : Nat) (h : s.v.there = true → s.v.addr = 28672) (a d : Int) (j : Nat) (hj : j < 28672) : ((UG u 8 8 m t 3).msg s a d).2.2.2.f j = s.f j := by
  show (bif goes s.v 3 a d then _ else _ : Int × Int × Bool × Us).2.2.2.f j = s.f j
  cases goes s.v 3 a d
  · exact rcF_low h s.f 3 5 a j hj
  · rfl
/-- what a step may turn below frame 7 -/
def okJ (b : Nat → Int) (x : Int) (r : Nat → Int) (f : Nat → Int) (j : Nat) : Prop := f j = b j ∨ ((acN 8 b x (w64 (r 1 + r 6)) 8 true).1 = 0 ∧ (acN 8 b x (w64 (r 1 + r 6)) 8 true).2 ≤ j ∧ (j : Int) < (acN 8 b x (w64 (r 1 + r 6)) 8 true).2 + 8)
theorem Sb.copy {b : Nat → Int} {x : Int} {s : Us} (h : Sb b x s) (u m t : Nat) (r : Nat → Int) (j : Nat) (hj : j < 28672) : okJ b x r (cpN (UG u 8 8 m t 3) r s).2.2.f j ∧ ((cpN (UG u 8 8 m t 3) r s).2.2.v.there = true → (cpN (UG u 8 8 m t 3) r s).2.2.v.addr = 28672) := by
  obtain ⟨p1, p2, p3⟩ := h.acc u m t (w64 (r 0 + r 6)) false (w64_b _).1 (w64_b _).2
  obtain ⟨q1, q2, q3⟩ := p3.acc u m t (w64 (r 1 + r 6)) true (w64_b _).1 (w64_b _).2
  unfold cpN
  cases e1 : ((UG u 8 8 m t 3).acc s (w64 (r 0 + r 6)) false).2.1
  · exact ⟨.inl (p3.ag.same j hj).symm, p3.rg⟩
  · cases e2 : ((UG u 8 8 m t 3).acc ((UG u 8 8 m t 3).acc s (w64 (r 0 + r 6)) false).2.2 (w64 (r 1 + r 6)) true).2.1
    · exact ⟨.inl (q3.ag.same j hj).symm, q3.rg⟩
    · rw [q2] at e2
      refine ⟨?_, q3.rg⟩
      show okJ b x r (put ((UG u 8 8 m t 3).acc ((UG u 8 8 m t 3).acc s (w64 (r 0 + r 6)) false).2.2 (w64 (r 1 + r 6)) true).2.2.f (((UG u 8 8 m t 3).acc ((UG u 8 8 m t 3).acc s (w64 (r 0 + r 6)) false).2.2 (w64 (r 1 + r 6)) true).1 - 0).toNat 8 _) j
      rw [q1]
      have k0 : (acN 8 b x (w64 (r 1 + r 6)) 8 true).1 = 0 := of_decide_eq_true e2
      have hh : hasB 0 8 (acN 8 b x (w64 (r 1 + r 6)) 8 true).2 8 = true := by
        have := (ugC u 8 8 m t 3 (by decide)).ok ((UG u 8 8 m t 3).acc s (w64 (r 0 + r 6)) false).2.2 (w64 (r 1 + r 6)) true (by rw [q2]; exact e2)
        rw [q1] at this
        exact this
      obtain ⟨z1, z2⟩ := has_off hh
      unfold okJ put
      by_cases hc : ((acN 8 b x (w64 (r 1 + r 6)) 8 true).2 - 0).toNat ≤ j ∧ j < ((acN 8 b x (w64 (r 1 + r 6)) 8 true).2 - 0).toNat + 8
      · exact .inr ⟨k0, by omega, by omega⟩
      · rw [if_neg hc]; exact .inl (q3.ag.same j hj).symm
theorem Sb.step {b : Nat → Int} {x : Int} {s : Us} (h : Sb b x s) (u m t : Nat) (r : Nat → Int) (j : Nat) (hj : j < 28672) : (stN (UG u 8 8 m t 3) r s).2.2.f j = b j ∨ (r 3 = 1 ∧ okJ b x r (stN (UG u 8 8 m t 3) r s).2.2.f j) := by
  obtain ⟨c1, c2⟩ := h.copy u m t r j hj
  unfold stN
  cases e3 : (r 3 == 1)
  · exact .inl (h.ag.same j hj).symm
  · refine .inr ⟨by simpa using e3, ?_⟩
    cases msB (UG u 8 8 m t 3) r s
    · exact c1
    · show okJ b x r ((UG u 8 8 m t 3).msg (cpN (UG u 8 8 m t 3) r s).2.2 (r 4) (r 5)).2.2.2.f j
      unfold okJ
      rw [Sb.msg (b := b) (x := x) u m t c2 (r 4) (r 5) j hj]
      exact c1
end Go.Proofs.YtajnjmjogaacpaaGreat
namespace Go.Proofs.YtajnjmjogaacpaaGreat
open Go.RowKit
open C (Only hid Mem put byt nu hasB rdm gst)
set_option linter.unusedVariables false
set_option maxRecDepth 100000

/-- a write leaves the number of copied bytes at 0 -/
theorem wr6 {r : Nat → Int} (h : r 6 = 0) (off size z : Int) : wrE r off size z 6 = 0 := by
  have hb : bgE r 6 = 0 := rfl
  have hc : ∀ x, cmE r x 6 = 0 := fun x => by
    unfold cmE
    cases (x % 2 != 0 && !(r 3 == 1))
    · cases (x / 2 % 2 != 0)
      · exact h
      · exact h
    · exact hb
  unfold wrE
  cases (r 3 == 1 && !(off == 24))
  · have key : ∀ k, ptE r off size z k 6 = 0 := fun k => by
      match k with
      | 0 => exact h
      | 1 => exact h
      | 2 => exact h
      | 3 => exact hc _
      | 4 => exact h
      | 5 => exact h
      | k + 6 => exact h
    exact key _
  · exact h
theorem w64_id {x : Int} (h0 : 0 ≤ x) (h1 : x < 18446744073709551616) : w64 x = x := by unfold w64; omega
/-- a record is taken out -/
theorem Sb.next {b : Nat → Int} {x : Int} {s : Us} (h : Sb b x s) : Sb b x ⟨nxV s.v, s.f, s.L⟩ := ⟨h.ag, h.by8, h.tr, h.rt, h.r3, h.rg⟩
/-- the ring is laid, a table is set (or none) -/
theorem Sb.start {b : Nat → Int} (hb : ∀ j, 0 ≤ b j ∧ b j < 256) (ht : ∀ i, i < 3584 → C.okT7 (C.rd8 b (8 * i))) (t m : Nat) : Sb b 0 ⟨(v0 t m).setRing 28672, b, []⟩ :=
  ⟨agr7_refl ht hb, hb, Tr.nil _ _ _, fun j => ⟨Int.le_refl _, by show (0 : Int) ≤ 6; decide⟩, rfl, fun _ => rfl⟩
theorem Sb.set {b : Nat → Int} (hb : ∀ j, 0 ≤ b j ∧ b j < 256) (ht : ∀ i, i < 3584 → C.okT7 (C.rd8 b (8 * i))) (t m : Nat) (x : Int) (x0 : 0 ≤ x) (x1 : x ≤ 6) : Sb b x ⟨((v0 t m).setRing 28672).setRoot 3 x, b, []⟩ := by
  refine ⟨agr7_refl ht hb, hb, Tr.nil _ _ _, fun j => ?_, ?_, fun _ => rfl⟩
  · show 0 ≤ upd (fun _ => 0) 3 x j ∧ upd (fun _ => 0) 3 x j ≤ 6
    unfold upd; split
    · exact ⟨x0, x1⟩
    · exact ⟨Int.le_refl _, (by decide : (0 : Int) ≤ 6)⟩
  · show upd (fun _ => 0) 3 x 3 = x
    simp [upd]
/-- what the last loops ask of a byte -/
theorem Sb.byte {b : Nat → Int} {x : Int} {s : Us} (h : Sb b x s) (u m t : Nat) (r : Nat → Int) (hr : RB r) (h6 : r 6 = 0) (p : Int) (l : Bool) (hp : p = (acN 8 b x (r 1) 8 true).2) (hl : l = decide ((acN 8 b x (r 1) 8 true).1 = 0)) (j : Nat) (hj : j < 28672) :
    (stN (UG u 8 8 m t 3) r s).2.2.f j = s.f j ∨ (r 3 = 1 ∧ l = true ∧ p ≤ j ∧ (j : Int) < p + 8) := by
  have e : w64 (r 1 + r 6) = r 1 := by rw [h6, Int.add_zero]; exact w64_id (hr 1).1 (hr 1).2
  rcases h.step u m t r j hj with q | ⟨q1, q2⟩
  · exact .inl (q.trans (h.ag.same j hj))
  · unfold okJ at q2
    rw [e] at q2
    rcases q2 with q | ⟨z1, z2, z3⟩
    · exact .inl (q.trans (h.ag.same j hj))
    · exact .inr ⟨q1, by rw [hl]; simpa using z1, by omega, by omega⟩
end Go.Proofs.YtajnjmjogaacpaaGreat
