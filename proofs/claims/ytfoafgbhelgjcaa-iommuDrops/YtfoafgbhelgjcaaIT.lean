/- Two IOMMUs of a walk's own. -/
import Derived.Test.YtfoafgbhelgjcaaIS
namespace Go.Proofs.Ytfoafgbhelgjcaa
open Go.RowKit
open C (Only hid Mem Still ret_int ret_bool put byt nu fcl c_Place Cl hasB)
set_option linter.unusedVariables false
set_option maxRecDepth 100000

theorem LW.other {W w w' : World} {F T : Nat → Prop} {ob u : Nat} {v : UV} {n : Nat} {f : Nat → Int} {room : Nat} {L : List E.TV} (h : LW W w F ob u v n f room L) (ho : Only T w w') (hd : ∀ k, F k → ¬ T k) (hn : ¬ T ob) (hT : ∀ k, T k → W.heap.size ≤ k) : LW W w' F ob u v n f room L where
  us := h.us.only ho hd
  new := h.new.trans (ho.below _ h.new.size hT)
  fnew := h.fnew
  obk := by obtain ⟨x, y, z, h1⟩ := h.obk; exact ⟨x, y, z, ho.old h1 hn⟩
  nob := h.nob
structure L2 (W w : World) (F : Nat → Prop) (ob u : Nat) (v : UV) (f : Nat → Int) (L : List E.TV) (F2 : Nat → Prop) (ob2 u2 : Nat) (v2 : UV) (f2 : Nat → Int) (M : List E.TV) (room : Nat) : Prop where
  a : LW W w F ob u v 8 f room L
  b : LW W w F2 ob2 u2 v2 8 f2 room M
  d : ∀ k, F k → ¬ F2 k
  nb : ¬ F ob2
  na : ¬ F2 ob
section
variable {W w w' : World} {F F' F2 : Nat → Prop} {ob u ob2 u2 : Nat} {v v' v2 : UV} {f f' f2 : Nat → Int} {L L' M : List E.TV} {room : Nat}
theorem L2.stepA (h : L2 W w F ob u v f L F2 ob2 u2 v2 f2 M room) (hs : US w' F' u v' 8 f' room L') (ht : Tn w F w' F') : L2 W w' F' ob u v' f' L' F2 ob2 u2 v2 f2 M room where
  a := h.a.step hs ht
  b := h.b.other ht.1 (fun k hk q => h.d k q hk) h.nb h.a.fnew
  d := fun k hk q => (ht.2 k hk).elim (fun z => h.d k z q) fun z => by have := h.b.us.lt q; omega
  nb := fun q => (ht.2 ob2 q).elim h.nb fun z => by have := h.b.lt; omega
  na := h.na
theorem L2.stepB (h : L2 W w F2 ob2 u2 v2 f2 M F ob u v f L room) (hs : US w' F' u v' 8 f' room L') (ht : Tn w F w' F') : L2 W w' F2 ob2 u2 v2 f2 M F' ob u v' f' L' room where
  b := h.b.step hs ht
  a := h.a.other ht.1 (fun k hk q => h.d k hk q) h.na h.b.fnew
  d := fun k hk q => (ht.2 k q).elim (fun z => h.d k hk z) fun z => by have := h.a.us.lt hk; omega
  na := fun q => (ht.2 ob2 q).elim h.na fun z => by have := h.a.lt; omega
  nb := h.nb
theorem L2.below (h : L2 W w F ob u v f L F2 ob2 u2 v2 f2 M room) (hb : Below w.heap.size w w') : L2 W w' F ob u v f L F2 ob2 u2 v2 f2 M room := ⟨h.a.below hb, h.b.below hb, h.d, h.nb, h.na⟩
theorem L2.alloc (h : L2 W w F ob u v f L F2 ob2 u2 v2 f2 M room) (o : Obj) : L2 W (w.alloc o) F ob u v f L F2 ob2 u2 v2 f2 M room := h.below ((Below.refl _ _).alloc (Nat.le_refl _) o)
theorem L2.start {w1 w2 : World} {T2 : Nat → Prop} (h1 : LW W w1 F ob u v 8 f room L) (hb : Below w1.heap.size w1 w2) (hs : US w2 F2 u2 v2 8 f2 room M) (hf : ∀ k, F2 k ∨ T2 k → w1.heap.size ≤ k) (x y z : Value) : L2 W (w2.alloc (.cells #[.pointer (some ⟨u2, 0, none⟩), x, y, z] 31)) F ob u v f L F2 w2.heap.size u2 v2 f2 M room where
  a := (h1.below hb).alloc _
  b := LW.start (T := T2) (t := 0) (m := 0) (x := 0) (q := 0) h1.new hs hb hf x y z
  d := fun k hk q => by have := h1.us.lt hk; have := hf k (.inl q); omega
  nb := fun q => by have := h1.us.lt q; have := hb.size; omega
  na := fun q => by have := h1.lt; have := hf ob (.inl q); omega
end
theorem bkF_off {v : UV} {f : Nat → Int} {d k a : Int} (h : v.there = false) : bkF v f d k a = f := by
  unfold bkF rcF rcB
  split
  · rfl
  · rw [h]; rfl
theorem bkV_root (v : UV) (k : Int) : (bkV v k).root = v.root := by unfold bkV; split; rfl; exact rcV_root v
theorem bkV_off {v : UV} {k : Int} (h : v.there = false) : (bkV v k).there = false := by
  unfold bkV rcV rcB
  split
  · exact h
  · rw [h]; exact h
theorem acF_dev {n : Nat} {f : Nat → Int} {v : UV} {room : Nat} {L : List E.TV} {d a s : Int} {wt : Bool} {k p : Int} {L' : List E.TV} (h : acF n f v room L d a s wt = (k, p, L')) : ∀ e ∈ L', e ∈ L ∨ e.v = d := by
  unfold acF at h
  intro e he
  cases e1 : whole a s
  · rw [if_pos e1] at h; cases h; exact .inl he
  · rw [if_neg (by rw [e1]; decide)] at h
    by_cases e2 : v.root d.toNat = 0
    · rw [if_pos e2] at h; cases h; exact .inl he
    · rw [if_neg e2] at h
      have key : ∀ p' L'', fnd n f (v.root d.toNat) room L d a wt = some (p', L'') → ∀ e ∈ L'', e ∈ L ∨ e.v = d := by
        intro p' L'' hf e he
        unfold fnd at hf
        revert hf
        split
        · intro hf; cases hf; exact .inl he
        · split
          · intro hf; cases hf
            rcases pu_sub e he with q | rfl
            · exact .inl q
            · exact .inr rfl
          · intro hf; cases hf
      cases e3 : fnd n f (v.root d.toNat) room L d a wt with
      | none => rw [e3] at h; cases h; exact .inl he
      | some q =>
        obtain ⟨pp, LL⟩ := q
        rw [e3] at h
        cases e4 : hasB 0 n pp s
        · simp only [e4] at h; cases h; exact key _ _ e3 e he
        · simp only [e4] at h; cases h; exact key _ _ e3 e he
theorem fl_nil {L : List E.TV} {d : Int} (h : ∀ e ∈ L, e.v = d) : E.fl L d = [] := by
  unfold E.fl
  rw [List.filter_eq_nil_iff]
  intro e he
  simp [h e he]
theorem US.tm {w : World} {F : Nat → Prop} {u : Nat} {v : UV} {n : Nat} {f : Nat → Int} {room : Nat} {L : List E.TV} (h : US w F u v n f room L) : ∃ g, E.TM w v.t g room L := by obtain ⟨S, g, -, -, h3, -, -⟩ := h; exact ⟨g, h3⟩
theorem s_Entries0 (w : World) (F : Nat → Prop) (u : Nat) (v : UV) (n : Nat) (f : Nat → Int) (room : Nat) (h : US w F u v n f room []) : Calls Try.prog 31 #[.pointer (some ⟨v.t, 0, none⟩)] w fun e w' => ∃ ad cap, e = .returned (.slice ad 0 cap) ∧ Below w.heap.size w w' := by
  obtain ⟨g, hg⟩ := h.tm
  refine (E.c_Entries w v.t g room [] hg).mono ?_
  rintro e w' ⟨x, rfl, he, hb⟩
  obtain ⟨ad, cap, rfl, -⟩ := he.rd
  exact ⟨ad, cap, rfl, hb⟩
def stV (v : UV) (d r : Int) : UV := if isDev d = true ∧ (r == 0) = false then v.setRoot d.toNat r else v
theorem s_SetV (w : World) (F : Nat → Prop) (u : Nat) (v : UV) (n : Nat) (f : Nat → Int) (room : Nat) (L : List E.TV) (h : US w F u v n f room L) (d r : Int) (r0 : 0 ≤ r) (r1 : r < 18446744073709551616) : Calls Try.prog 20 #[.pointer (some ⟨u, 0, none⟩), .int .i64 d, .int .u64 r] w fun e w' => ∃ c, e = .returned (.int .i64 c) ∧ US w' F u (stV v d r) n f room L ∧ Tn w F w' F := by
  unfold stV
  by_cases hh : isDev d = true ∧ (r == 0) = false
  · rw [if_pos hh]
    refine (s_Set w F u v n f room L h d r hh.1 hh.2 r0 r1).mono ?_
    rintro e w' ⟨rfl, h1, h2⟩
    exact ⟨0, rfl, h1, h2⟩
  · rw [if_neg hh]
    refine (m_Set_bad w u d r ?_).mono ?_
    · by_cases q : isDev d = true
      · right; by_cases z : r = 0; exact z; exact absurd ⟨q, by simpa using z⟩ hh
      · left; simpa using q
    · rintro e w' ⟨rfl, rfl⟩
      exact ⟨1, rfl, h, Tn.refl _ _⟩
theorem stV_there (v : UV) (d r : Int) : (stV v d r).there = v.there := by unfold stV; split <;> rfl
theorem stV_root {v v' : UV} (h : v.root = v'.root) (d r : Int) : (stV v d r).root = (stV v' d r).root := by
  unfold stV
  split
  · show upd v.root d.toNat r = upd v'.root d.toNat r; rw [h]
  · exact h
end Go.Proofs.Ytfoafgbhelgjcaa
