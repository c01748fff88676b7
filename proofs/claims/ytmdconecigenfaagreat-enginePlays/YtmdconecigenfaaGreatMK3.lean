/- The document's IOMMU as a whole. -/
import Derived.Test.YtmdconecigenfaaGreatKH
import Derived.Test.YtmdconecigenfaaGreatKI
import Derived.Test.YtmdconecigenfaaGreatKJ
import Derived.Test.YtmdconecigenfaaGreatMH3
import Derived.Test.YtmdconecigenfaaGreatMH4
import Derived.Test.YtmdconecigenfaaGreatMK1
import Derived.Test.YtmdconecigenfaaGreatMH7
namespace Go.Proofs.YtmdconecigenfaaGreat
open Go.RowKit
open C (Only hid Mem Still ret_int ret_bool put byt nu RMem hasB WB WB.cell Calls.wb wp_region_wb gst rdm)
set_option linter.unusedVariables false
set_option maxRecDepth 100000

theorem k_Access (w : World) (b q r : Nat) (v : UV) (mv : Value) (hu : Ru w b q r v mv) (S : Nat → Prop) (n : Nat) (f : Nat → Int) (hm : RMem w S q 0 n f) (room : Nat) (vv : Value) (L : List E.TV) (hr : E.RM w r room vv L) (ok : VOk v n) (d a s : Int) (wt : Bool) (hd : isDev d = true) (a0 : 0 ≤ a) (a1 : a < 18446744073709551616) (s0 : -9223372036854775808 ≤ s) (s1 : s ≤ 9223372036854775807) (h0 : 0 < room) (hL : L.length ≤ room) (hnd : E.Nd L) (k p : Int) (L' : List E.TV) (hk : acF n f v room L d a s wt = (k, p, L')) :
    Calls Tryz.prog 62 #[.pointer (some ⟨b, 0, none⟩), .int .i64 d, .int .u64 a, .int .i64 s, .bool wt] w fun e w' => e = .returned (.tuple #[.int .u64 p, .bool (decide (k = 0))]) ∧ DQ w w' b q r (bkV v k) mv S n (bkF v f d k a) room vv L' := by
  unfold acF at hk
  cases e1 : whole a s
  · rw [if_pos e1] at hk
    cases hk
    exact k_Access_size w b q r v mv hu S n f hm room vv L hr ok d a s wt hd a0 a1 s0 s1 e1
  · rw [if_neg (by rw [e1]; decide)] at hk
    by_cases e2 : v.root d.toNat = 0
    · rw [if_pos e2] at hk
      cases hk
      exact k_Access_none w b q r v mv hu S n f hm room vv L hr ok d a s wt hd a0 a1 s0 s1 e1 e2
    · rw [if_neg e2] at hk
      have e2' : (v.root d.toNat == 0) = false := by simpa using e2
      obtain ⟨e, okk, hl⟩ : ∃ e okk, E.lk L d (a / 4096) = (e, okk) := ⟨_, _, rfl⟩
      by_cases hh : okk = true ∧ (bits .and .i64 e.r (art wt) == 0) = false
      · obtain ⟨rfl, hh⟩ := hh
        rw [fnd_hit hl hh] at hk
        cases e4 : hasB 0 n (plf e.f a) s
        · simp only [e4] at hk
          cases hk
          exact k_Access_hit w b q r v mv hu S n f hm room vv L hr ok d a s wt hd a0 a1 s0 s1 e1 e2' e hl hh false e4
        · simp only [e4] at hk
          cases hk
          exact k_Access_hit w b q r v mv hu S n f hm room vv L hr ok d a s wt hd a0 a1 s0 s1 e1 e2' e hl hh true e4
      · obtain ⟨x, y, z, hg⟩ : ∃ x y z, gst (rdm n f) (v.root d.toNat) a (akd wt) = (x, y, z) := ⟨_, _, _, rfl⟩
        obtain ⟨f1, f2⟩ := fnd_miss (room := room) hl hh hg
        by_cases ez : z = 0
        · subst ez
          rw [f1 rfl, plf_x hm.byt e2 a0 a1 (ok.root d.toNat).1 (ok.root d.toNat).2 hg] at hk
          cases e4 : hasB 0 n x s
          · simp only [e4] at hk
            cases hk
            exact k_Access_bus w b q r v mv hu S n f hm room vv L hr ok d a s wt hd a0 a1 s0 s1 e1 h0 hL hnd e2' e okk hl hh x y 0 hg rfl e4
          · simp only [e4] at hk
            cases hk
            exact k_Access_miss w b q r v mv hu S n f hm room vv L hr ok d a s wt hd a0 a1 s0 s1 e1 h0 hL hnd e2' e okk hl hh _ y 0 hg rfl e4
        · rw [f2 ez] at hk
          cases hk
          exact k_Access_page w b q r v mv hu S n f hm room vv L hr ok d a s wt hd a0 a1 s0 s1 e1 h0 hL hnd e2' e okk hl hh x y z hg (by simpa using ez)
/-- the document's IOMMU, its memory, its TLB, its list: its blocks are G -/
def DS (w : World) (G : Nat → Prop) (base b q r : Nat) (v : UV) (n : Nat) (f : Nat → Int) (room : Nat) (L : List E.TV) (M : List MV) : Prop :=
  ∃ S mv vv, Ru w b q r v mv ∧ RMem w S q 0 n f ∧ E.RM w r room vv L ∧ Ms w base mv M ∧ (∀ k, G k ↔ (k = b ∨ S k ∨ k = r ∨ vv.ownBlock = some k ∨ mv.ownBlock = some k)) ∧ VOk v n
/-- what one call of the document's may turn -/
def Td (base : Nat) (w : World) (G : Nat → Prop) (w' : World) (G' : Nat → Prop) : Prop := Only G w w' ∧ ∀ k, G' k → G k ∨ w.heap.size ≤ k ∨ (base ≤ k ∧ ∃ c, w'.heap[k]? = some (.cells c 201 (0, 0)))
section
variable {w w' : World} {G : Nat → Prop} {base b q r : Nat} {v v' : UV} {n : Nat} {f : Nat → Int} {room : Nat} {L : List E.TV} {M : List MV}
theorem DS.lt (h : DS w G base b q r v n f room L M) {k : Nat} (hk : G k) : k < w.heap.size := by
  obtain ⟨S, mv, vv, h1, h2, h3, h4, h5, -⟩ := h
  rcases (h5 k).1 hk with rfl | z | rfl | z | z
  · exact h1.lt
  · exact h2.lt z
  · exact h3.lt
  · exact (h3.es.lt z).2
  · exact (h4.lt z).2
theorem DS.only (h : DS w G base b q r v n f room L M) {T : Nat → Prop} (ho : Only T w w') (hd : ∀ k, G k → ¬ T k) : DS w' G base b q r v n f room L M := by
  obtain ⟨S, mv, vv, h1, h2, h3, h4, h5, h6⟩ := h
  exact ⟨S, mv, vv, h1.only ho (hd _ ((h5 _).2 (.inl rfl))), h2.only ho (fun k hk => hd k ((h5 k).2 (.inr (.inl hk)))), h3.only ho (hd _ ((h5 _).2 (.inr (.inr (.inl rfl))))) (fun k hk => hd k ((h5 k).2 (.inr (.inr (.inr (.inl hk)))))), h4.only ho (fun k hk => hd k ((h5 k).2 (.inr (.inr (.inr (.inr hk)))))), h5, h6⟩
theorem DS.below (h : DS w G base b q r v n f room L M) (hb : Below w.heap.size w w') : DS w' G base b q r v n f room L M := h.only (T := fun _ => False) (Only.ofBelow hb) fun _ _ q => q
theorem Td.ofBelow (h : Below w.heap.size w w') : Td base w G w' G := ⟨Only.ofBelow h, fun _ z => .inl z⟩
theorem Td.refl (w : World) : Td base w G w G := ⟨Only.refl w, fun _ z => .inl z⟩
/-- its own block alone turns -/
theorem DS.upd (h : DS w G base b q r v n f room L M) (hu : ∀ mv, Ru w b q r v mv → Ru w' b q r v' mv) (ho : Only (· = b) w w') (ok : VOk v' n) : DS w' G base b q r v' n f room L M ∧ Td base w G w' G := by
  obtain ⟨S, mv, vv, h1, h2, h3, h4, h5, -⟩ := h
  obtain ⟨t1, t2⟩ := rm_u h1 h3
  have hb : G b := (h5 b).2 (.inl rfl)
  refine ⟨⟨S, mv, vv, hu mv h1, h2.only ho (fun k hk z => ru_mem h2 h1 (z ▸ hk)), h3.only ho t1 t2, h4.only ho (fun k hk z => ?_), h5, ok⟩, ho.mono fun k _ z => by subst z; exact hb, fun _ z => .inl z⟩
  obtain ⟨cur, hc⟩ := h4.block hk
  subst z
  unfold Ru at h1
  rw [h1] at hc
  simp at hc
end
section
variable {w w' : World} {G : Nat → Prop} {base b q r : Nat} {v v' : UV} {n : Nat} {f f' : Nat → Int} {room : Nat} {L L' : List E.TV} {M : List MV} {S : Nat → Prop} {mv vv : Value}
/-- behind a call that keeps the list of messages' places -/
theorem DS.dq (h1 : Ru w b q r v mv) (h2 : RMem w S q 0 n f) (h3 : E.RM w r room vv L) (h4 : Ms w base mv M) (h5 : ∀ k, G k ↔ (k = b ∨ S k ∨ k = r ∨ vv.ownBlock = some k ∨ mv.ownBlock = some k)) (ok : VOk v' n) (hq : DQ w w' b q r v' mv S n f' room vv L') : ∃ G', DS w' G' base b q r v' n f' room L' M ∧ Td base w G w' G' := by
  obtain ⟨S', vv', i1, i2, i3, i4, i5, i6⟩ := hq
  refine ⟨fun k => k = b ∨ S' k ∨ k = r ∨ vv'.ownBlock = some k ∨ mv.ownBlock = some k, ⟨S', mv, vv', i1, i2, i3, h4.only i4 (fun k hk z => ?_), fun k => Iff.rfl, ok⟩, i4.mono fun k _ z => ?_, fun k hk => ?_⟩
  · obtain ⟨cur, hc⟩ := h4.block hk
    rcases z with rfl | z | rfl
    · unfold Ru at h1; rw [h1] at hc; simp at hc
    · exact rmem_typ h2 hc (by decide) (by decide) (by decide) z
    · rw [h3.top] at hc; simp at hc
  · rcases z with z | z | z
    · exact (h5 k).2 (.inl z)
    · exact (h5 k).2 (.inr (.inl z))
    · exact (h5 k).2 (.inr (.inr (.inl z)))
  · rcases hk with z | z | z | z | z
    · exact .inl ((h5 k).2 (.inl z))
    · exact (i5 k z).elim (fun y => .inl ((h5 k).2 (.inr (.inl y)))) fun y => .inr (.inl y)
    · exact .inl ((h5 k).2 (.inr (.inr (.inl z))))
    · exact (i6 k z).elim (fun y => .inl ((h5 k).2 (.inr (.inr (.inr (.inl y)))))) fun y => .inr (.inl y)
    · exact .inl ((h5 k).2 (.inr (.inr (.inr (.inr z)))))
/-- its memory and its own block turn -/
theorem DQ.mem (h1 : Ru w b q r v mv) (h2 : RMem w S q 0 n f) (h3 : E.RM w r room vv L) {S' : Nat → Prop} (i1 : Ru w' b q r v' mv) (i2 : RMem w' S' q 0 n f') (i3 : Only (fun k => k = b ∨ S k) w w') (i4 : ∀ k, S' k → S k ∨ w.heap.size ≤ k) : DQ w w' b q r v' mv S n f' room vv L := by
  obtain ⟨t1, t2⟩ := rm_u h1 h3
  obtain ⟨t3, t4⟩ := rm_s h2 h3
  exact ⟨S', vv, i1, i2, h3.only i3 (fun z => z.elim t1 t3) (fun k hk z => z.elim (t2 k hk) (t4 k hk)), i3.mono fun k _ z => z.elim .inl fun y => .inr (.inl y), i4, fun j z => .inl z⟩
/-- its TLB turns -/
theorem DQ.tlb (h1 : Ru w b q r v mv) (h2 : RMem w S q 0 n f) (h3 : E.RM w r room vv L) {vv' : Value} (i1 : E.RM w' r room vv' L') (i2 : Only (· = r) w w') (i3 : ∀ k, vv'.ownBlock = some k → w.heap.size ≤ k) : DQ w w' b q r v mv S n f room vv L' := by
  obtain ⟨t1, t2⟩ := rm_u h1 h3
  obtain ⟨t3, t4⟩ := rm_s h2 h3
  exact ⟨S, vv', h1.only i2 (fun z => t1 z.symm), h2.only i2 (fun k hk z => t3 (z ▸ hk)), i1, i2.mono fun k _ z => .inr (.inr z), fun j z => .inl z, fun j z => .inr (i3 j z)⟩
end
section
variable (w : World) (G : Nat → Prop) (base b q r : Nat) (v : UV) (n : Nat) (f : Nat → Int) (room : Nat) (L : List E.TV) (M : List MV) (h : DS w G base b q r v n f room L M)
include h
theorem d_Access (d a s : Int) (wt : Bool) (hd : isDev d = true) (a0 : 0 ≤ a) (a1 : a < 18446744073709551616) (s0 : -9223372036854775808 ≤ s) (s1 : s ≤ 9223372036854775807) (h0 : 0 < room) (hL : L.length ≤ room) (hnd : E.Nd L) (k p : Int) (L' : List E.TV) (hk : acF n f v room L d a s wt = (k, p, L')) :
    Calls Tryz.prog 62 #[.pointer (some ⟨b, 0, none⟩), .int .i64 d, .int .u64 a, .int .i64 s, .bool wt] w fun e w' => e = .returned (.tuple #[.int .u64 p, .bool (decide (k = 0))]) ∧ ∃ G', DS w' G' base b q r (bkV v k) n (bkF v f d k a) room L' M ∧ Td base w G w' G' := by
  have h' := h
  obtain ⟨S, mv, vv, h1, h2, h3, h4, h5, h6⟩ := h'
  refine (k_Access w b q r v mv h1 S n f h2 room vv L h3 h6 d a s wt hd a0 a1 s0 s1 h0 hL hnd k p L' hk).mono ?_
  rintro e w' ⟨rfl, hq⟩
  have ok : VOk (bkV v k) n := by unfold bkV; split; exact h6; exact rcV_ok h6
  exact ⟨rfl, DS.dq h1 h2 h3 h4 h5 ok hq⟩
theorem d_Message (d a i : Int) (hd : isDev d = true) (a0 : 0 ≤ a) (a1 : a < 18446744073709551616) (hlen : M.length ≤ 2199023255552) (g z : Int) (ht : mto M d i = (g, z)) (go : Bool) (hgo : (decide (a = 4276092928) && !(g == 0)) = go) :
    Calls Tryz.prog 64 #[.pointer (some ⟨b, 0, none⟩), .int .i64 d, .int .u64 a, .int .u64 i] w fun e w' => e = .returned (.tuple #[.agg #[.int .i64 (bif go then g else 0), .int .i64 (bif go then z else 0)], .bool go]) ∧ ∃ G', DS w' G' base b q r (bif go then v else rcV v) n (bif go then f else rcF v f d 5 a) room L M ∧ Td base w G w' G' := by
  obtain ⟨S, mv, vv, h1, h2, h3, h4, h5, h6⟩ := h
  refine (k_Message w b q r v mv h1 S n f h2 base M h4 hlen h6 d a i hd a0 a1 g z ht go hgo).mono ?_
  rintro e w' ⟨S', rfl, i1, i2, i3, i4⟩
  have ok : VOk (bif go then v else rcV v) n := by cases go; exact rcV_ok h6; exact h6
  exact ⟨rfl, DS.dq h1 h2 h3 h4 h5 ok (DQ.mem h1 h2 h3 i1 i2 i3 i4)⟩
theorem d_Set (d x : Int) (hd : isDev d = true) (hx : (x == 0) = false) (x0 : 0 ≤ x) (x1 : x < 18446744073709551616) : Calls Tryz.prog 65 #[.pointer (some ⟨b, 0, none⟩), .int .i64 d, .int .u64 x] w fun e w' => e = .returned (.int .i64 0) ∧ DS w' G base b q r (v.setRoot d.toNat x) n f room L M ∧ Td base w G w' G := by
  have h' := h
  obtain ⟨S, mv, vv, h1, h2, h3, h4, h5, ok⟩ := h'
  refine (k_Set w b q r v mv h1 d x hd hx).mono ?_
  rintro e w' ⟨rfl, i1, ho⟩
  refine ⟨rfl, h.upd (fun mv' hh => ?_) ho ⟨fun j => by show 0 ≤ upd v.root d.toNat x j ∧ upd v.root d.toNat x j < _; unfold Go.Proofs.YtmdconecigenfaaGreat.upd; split; exact ⟨x0, x1⟩; exact ok.root j, ok.first, ok.count, ok.ring, ok.none⟩⟩
  obtain rfl : mv = mv' := by have e1 := h1.c10; rw [hh.c10] at e1; simpa using e1.symm
  exact i1
theorem d_Drop (d : Int) (hd : isDev d = true) : Calls Tryz.prog 69 #[.pointer (some ⟨b, 0, none⟩), .int .i64 d] w fun e w' => e = .returned (.int .i64 0) ∧ DS w' G base b q r (v.setRoot d.toNat 0) n f room L M ∧ Td base w G w' G := by
  have h' := h
  obtain ⟨S, mv, vv, h1, h2, h3, h4, h5, ok⟩ := h'
  refine (k_Drop w b q r v mv h1 d hd).mono ?_
  rintro e w' ⟨rfl, i1, ho⟩
  refine ⟨rfl, h.upd (fun mv' hh => ?_) ho ⟨fun j => by show 0 ≤ upd v.root d.toNat 0 j ∧ upd v.root d.toNat 0 j < _; unfold Go.Proofs.YtmdconecigenfaaGreat.upd; split; exact ⟨by decide, by decide⟩; exact ok.root j, ok.first, ok.count, ok.ring, ok.none⟩⟩
  obtain rfl : mv = mv' := by have e1 := h1.c10; rw [hh.c10] at e1; simpa using e1.symm
  exact i1
theorem d_Root (d : Int) : Calls Tryz.prog 67 #[.pointer (some ⟨b, 0, none⟩), .int .i64 d] w fun e w' => e = .returned (.int .u64 (rootOf v d)) ∧ w' = w := by
  obtain ⟨S, mv, vv, h1, -, -, -, -, -⟩ := h
  exact k_Root w b q r v mv h1 d
theorem d_Next_no (hc : v.count = 0) : Calls Tryz.prog 72 #[.pointer (some ⟨b, 0, none⟩)] w fun e w' => e = .returned (.tuple #[.agg #[.int .i64 0, .int .i64 0, .int .u64 0], .bool false]) ∧ Below w.heap.size w w' := by
  obtain ⟨S, mv, vv, h1, -, -, -, -, -⟩ := h
  exact k_Next_no w b q r v mv h1 hc
theorem d_Next (hc : 0 < v.count) : Calls Tryz.prog 72 #[.pointer (some ⟨b, 0, none⟩)] w fun e w' => e = .returned (.tuple #[.agg #[.int .i64 (rdn f (v.at 0) 4), .int .i64 (rdn f (v.at 0 + 4) 4), .int .u64 (rdn f (v.at 0 + 8) 8)], .bool true]) ∧ DS w' G base b q r (nxV v) n f room L M ∧ Td base w G w' G := by
  have h' := h
  obtain ⟨S, mv, vv, h1, h2, h3, h4, h5, ok⟩ := h'
  have ht : v.there = true := by cases e : v.there; have := ok.none e; omega; rfl
  refine (k_Next w b q r v mv h1 S n f h2 ht hc (by have := ok.count; omega) ok.first (ok.ring ht)).mono ?_
  rintro e w' ⟨rfl, i1, ho⟩
  refine ⟨rfl, h.upd (fun mv' hh => ?_) ho ⟨ok.root, ?_, ?_, ok.ring, fun q => ?_⟩⟩
  · obtain rfl : mv = mv' := by have e1 := h1.c10; rw [hh.c10] at e1; simpa using e1.symm
    exact i1
  · show (v.first + 1) % 256 < 256; omega
  · show v.count - 1 ≤ 255; have := ok.count; omega
  · have q : v.there = false := q; rw [ht] at q; cases q
theorem d_Ring (a : Nat) (ha : a % 4096 = 0) (hl : a + 4096 ≤ 4096 * n) (hn : n ≤ 1024) (i : Int) (hi : i = a) : Calls Tryz.prog 80 #[.pointer (some ⟨b, 0, none⟩), .int .u64 i] w fun e w' => e = .returned (.int .i64 0) ∧ DS w' G base b q r (v.setRing a) n f room L M ∧ Td base w G w' G := by
  have h' := h
  obtain ⟨S, mv, vv, h1, h2, h3, h4, h5, ok⟩ := h'
  refine (k_Ring w b q r v mv h1 S n f h2 a ha hl hn i hi).mono ?_
  rintro e w' ⟨rfl, i1, ho⟩
  refine ⟨rfl, h.upd (fun mv' hh => ?_) ho ⟨ok.root, by show 0 < 256; decide, by show 0 ≤ 255; decide, fun _ => hl, fun q => rfl⟩⟩
  obtain rfl : mv = mv' := by have e1 := h1.c10; rw [hh.c10] at e1; simpa using e1.symm
  exact i1
theorem d_Flush (d : Int) : Calls Tryz.prog 75 #[.pointer (some ⟨r, 0, none⟩), .int .i64 d] w fun e w' => e = .returned (.tuple #[]) ∧ ∃ G', DS w' G' base b q r v n f room (E.fl L d) M ∧ Td base w G w' G' := by
  obtain ⟨S, mv, vv, h1, h2, h3, h4, h5, ok⟩ := h
  refine (E.r_Flush w r room vv L h3 d).mono ?_
  rintro e w' ⟨rfl, vv', i1, i2, i3⟩
  exact ⟨rfl, DS.dq h1 h2 h3 h4 h5 ok (DQ.tlb h1 h2 h3 i1 i2 i3)⟩
theorem d_FlushPage (d p : Int) : Calls Tryz.prog 77 #[.pointer (some ⟨r, 0, none⟩), .int .i64 d, .int .u64 p] w fun e w' => e = .returned (.tuple #[]) ∧ ∃ G', DS w' G' base b q r v n f room (E.fp L d p) M ∧ Td base w G w' G' := by
  obtain ⟨S, mv, vv, h1, h2, h3, h4, h5, ok⟩ := h
  refine (E.r_FlushPage w r room vv L h3 d p).mono ?_
  rintro e w' ⟨rfl, vv', i1, i2, i3⟩
  exact ⟨rfl, DS.dq h1 h2 h3 h4 h5 ok (DQ.tlb h1 h2 h3 i1 i2 i3)⟩
theorem d_Evict (k : Nat) (hk : k < L.length) (i : Int) (hi : i = k) : Calls Tryz.prog 79 #[.pointer (some ⟨r, 0, none⟩), .int .i64 i] w fun e w' => e = .returned (.bool true) ∧ ∃ G', DS w' G' base b q r v n f room (L.take k ++ L.drop (k + 1)) M ∧ Td base w G w' G' := by
  obtain ⟨S, mv, vv, h1, h2, h3, h4, h5, ok⟩ := h
  refine (E.r_Evict w r room vv L h3 k hk i hi).mono ?_
  rintro e w' ⟨rfl, vv', i1, i2, i3⟩
  exact ⟨rfl, DS.dq h1 h2 h3 h4 h5 ok (DQ.tlb h1 h2 h3 i1 i2 i3)⟩
theorem d_Evict_no (i : Int) (hi : i < 0 ∨ (L.length : Int) ≤ i) : Calls Tryz.prog 79 #[.pointer (some ⟨r, 0, none⟩), .int .i64 i] w fun e w' => e = .returned (.bool false) ∧ w' = w := by
  obtain ⟨S, mv, vv, h1, h2, h3, h4, h5, ok⟩ := h
  exact E.r_Evict_no w r room vv L h3 i hi
theorem d_Remap (d i g z : Int) (hd : isDev d = true) (i1 : i < 32) (hlen : M.length ≤ 2199023255552) (hbs : base ≤ w.heap.size) : Calls Tryz.prog 71 #[.pointer (some ⟨b, 0, none⟩), .int .i64 d, .int .u64 i, .agg #[.int .i64 g, .int .i64 z]] w fun e w' => e = .returned (.int .i64 0) ∧ ∃ G', DS w' G' base b q r v n f room L (M ++ [⟨d, i, g, z⟩]) ∧ Td base w G w' G' := by
  obtain ⟨S, mv, vv, h1, h2, h3, h4, h5, ok⟩ := h
  refine (k_Remap w b q r v mv h1 base M h4 hlen hbs d i g z hd i1).mono ?_
  rintro e w' ⟨rfl, mv', j1, j2, j3⟩
  obtain ⟨t1, t2⟩ := rm_u h1 h3
  have hx : ∀ k, mv.ownBlock = some k → k ≠ r ∧ ¬ S k ∧ ¬ vv.ownBlock = some k := fun k hk => by
    obtain ⟨cur, hc⟩ := h4.block hk
    refine ⟨fun z => ?_, rmem_typ h2 hc (by decide) (by decide) (by decide), fun z => ?_⟩
    · subst z; rw [h3.top] at hc; simp at hc
    · obtain ⟨cur', hc'⟩ := h3.es.block z
      rw [hc'] at hc; simp at hc
  refine ⟨rfl, fun k => k = b ∨ S k ∨ k = r ∨ vv.ownBlock = some k ∨ mv'.ownBlock = some k, ⟨S, mv', vv, j1, h2.only j3 (fun k hk z => z.elim (fun y => ru_mem h2 h1 (y ▸ hk)) fun y => (hx k y).2.1 hk), h3.only j3 (fun z => z.elim t1 fun y => (hx _ y).1 rfl) (fun k hk z => z.elim (t2 k hk) fun y => (hx k y).2.2 hk), j2, fun k => Iff.rfl, ok⟩, j3.mono fun k _ z => ?_, fun k hk => ?_⟩
  · exact (h5 k).2 (z.elim .inl fun y => .inr (.inr (.inr (.inr y))))
  · rcases hk with z | z | z | z | z
    · exact .inl ((h5 k).2 (.inl z))
    · exact .inl ((h5 k).2 (.inr (.inl z)))
    · exact .inl ((h5 k).2 (.inr (.inr (.inl z))))
    · exact .inl ((h5 k).2 (.inr (.inr (.inr (.inl z)))))
    · exact .inr (.inr ⟨(j2.lt z).1, j2.block z⟩)
end
end Go.Proofs.YtmdconecigenfaaGreat
namespace Go.Proofs.YtmdconecigenfaaGreat
open Go.RowKit
open C (Only hid Mem Still ret_int ret_bool put byt nu RMem hasB WB WB.cell Calls.wb wp_region_wb gst rdm)
set_option linter.unusedVariables false
set_option maxRecDepth 100000

/-- what the list says is what the table says -/
def MR (v : UV) (M : List MV) : Prop := ∀ d i, isDev d = true → 0 ≤ i → mto M d i = if i < 32 then (v.mg (d.toNat * 32 + i.toNat), v.mi (d.toNat * 32 + i.toNat)) else (0, 0)
theorem US.typ {w : World} {F : Nat → Prop} {u : Nat} {v : UV} {n : Nat} {f : Nat → Int} {room : Nat} {L : List E.TV} (h : US w F u v n f room L) {k : Nat} {c : Array Value} (hk : w.heap[k]? = some (.cells c 201 (0, 0))) : ¬ F k := by
  obtain ⟨S, g, h1, h2, h3, h4, -⟩ := h
  intro z
  rcases (h4 k).1 z with rfl | y | y
  · unfold Iu at h1; rw [h1] at hk; simp at hk
  · obtain ⟨Z, hZ, -, -⟩ := h3.row
    rcases y with rfl | rfl
    · have := hk.symm.trans h3.top; simp at this
    · have := Eq.trans (Eq.symm hk) hZ; simp at this
  · exact h2.typ hk (by decide) (by decide) (by decide) y
/-- both IOMMUs, beside one another -/
structure PW (w : World) (base : Nat) (F G : Nat → Prop) (u b q r : Nat) (v : UV) (n : Nat) (f : Nat → Int) (room : Nat) (L : List E.TV) (M : List MV) : Prop where
  us : US w F u v n f room L
  ds : DS w G base b q r v n f room L M
  dj : ∀ k, F k → ¬ G k
  bf : ∀ k, F k → base ≤ k
  bg : ∀ k, G k → base ≤ k
  nd : E.Nd L
  ms : MR v M
  sz : base ≤ w.heap.size
/-- the program's has been called, the document's not yet -/
structure PH (w : World) (base : Nat) (F G : Nat → Prop) (u b q r : Nat) (v : UV) (n : Nat) (f : Nat → Int) (room : Nat) (L : List E.TV) (M : List MV) (v' : UV) (f' : Nat → Int) (L' : List E.TV) : Prop where
  us : US w F u v' n f' room L'
  ds : DS w G base b q r v n f room L M
  dj : ∀ k, F k → ¬ G k
  bf : ∀ k, F k → base ≤ k
  bg : ∀ k, G k → base ≤ k
  sz : base ≤ w.heap.size
section
variable {w w' : World} {base : Nat} {F F' G G' : Nat → Prop} {u b q r : Nat} {v v' : UV} {n : Nat} {f f' : Nat → Int} {room : Nat} {L L' : List E.TV} {M M' : List MV}
theorem PW.below (h : PW w base F G u b q r v n f room L M) (hb : Below w.heap.size w w') : PW w' base F G u b q r v n f room L M :=
  ⟨h.us.below hb, h.ds.below hb, h.dj, h.bf, h.bg, h.nd, h.ms, Nat.le_trans h.sz hb.size⟩
theorem PH.below {v2 : UV} {f2 : Nat → Int} {L2 : List E.TV} (h : PH w base F G u b q r v n f room L M v2 f2 L2) (hb : Below w.heap.size w w') : PH w' base F G u b q r v n f room L M v2 f2 L2 :=
  ⟨h.us.below hb, h.ds.below hb, h.dj, h.bf, h.bg, Nat.le_trans h.sz hb.size⟩
theorem PW.prog (h : PW w base F G u b q r v n f room L M) (h1 : US w' F' u v' n f' room L') (t : Tn w F w' F') : PH w' base F' G u b q r v n f room L M v' f' L' :=
  ⟨h1, h.ds.only t.1 (fun k hk z => h.dj k z hk), fun k hk z => (t.2 k hk).elim (fun y => h.dj k y z) fun y => by have := h.ds.lt z; omega, fun k hk => (t.2 k hk).elim (h.bf k) fun y => Nat.le_trans h.sz y, h.bg, Nat.le_trans h.sz t.1.size⟩
theorem PH.doc (h : PH w base F G u b q r v n f room L M v' f' L') (h1 : DS w' G' base b q r v' n f' room L' M') (t : Td base w G w' G') (nd : E.Nd L') (ms : MR v' M') : PW w' base F G' u b q r v' n f' room L' M' := by
  have hu : US w' F u v' n f' room L' := h.us.only t.1 h.dj
  refine ⟨hu, h1, fun k hk z => ?_, h.bf, fun k hk => ?_, nd, ms, Nat.le_trans h.sz t.1.size⟩
  · rcases t.2 k z with y | y | ⟨-, c, y⟩
    · exact h.dj k hk y
    · have := h.us.lt hk; omega
    · exact hu.typ y hk
  · rcases t.2 k hk with y | y | ⟨y, -⟩
    · exact h.bg k y
    · exact Nat.le_trans h.sz y
    · exact y
theorem MR.same (h : MR v M) (e1 : v'.mg = v.mg) (e2 : v'.mi = v.mi) : MR v' M := fun d i hd i0 => by rw [e1, e2]; exact h d i hd i0
theorem rcV_mg (v : UV) : (rcV v).mg = v.mg ∧ (rcV v).mi = v.mi := by unfold rcV; cases rcB v <;> exact ⟨rfl, rfl⟩
theorem bkV_mg (v : UV) (k : Int) : (bkV v k).mg = v.mg ∧ (bkV v k).mi = v.mi := by unfold bkV; split; exact ⟨rfl, rfl⟩; exact rcV_mg v
theorem bkV_mt (v : UV) (k : Int) : (bkV v k).m = v.m ∧ (bkV v k).t = v.t := by unfold bkV; split; exact ⟨rfl, rfl⟩; exact ⟨rcV_m v, rcV_t v⟩
theorem acF_nd (h : E.Nd L) (d a s : Int) (wt : Bool) {k p : Int} (hk : acF n f v room L d a s wt = (k, p, L')) : E.Nd L' := by
  unfold acF at hk
  split at hk
  · cases hk; exact h
  · split at hk
    · cases hk; exact h
    · split at hk
      · cases hk; exact h
      · rename_i p0 L0 e0
        have : E.Nd L0 := by
          unfold fnd at e0
          split at e0
          · cases e0; exact h
          · split at e0
            · cases e0; exact E.Nd.pu h _ _
            · cases e0
        split at hk <;> (cases hk; exact this)
theorem MR.remap (h : MR v M) (d i g z : Int) (hd : isDev d = true) (i0 : 0 ≤ i) (i1 : i < 32) : MR (v.setMsi (d.toNat * 32 + i.toNat) g z) (M ++ [⟨d, i, g, z⟩]) := fun d' j hd' j0 => by
  rw [mto_snoc]
  obtain ⟨q0, q1⟩ := dev_cases hd
  obtain ⟨q2, q3⟩ := dev_cases hd'
  by_cases e : d = d' ∧ i = j
  · obtain ⟨rfl, rfl⟩ := e
    have : mhit ⟨d, i, g, z⟩ d i = true := by simp [mhit]
    rw [this, if_pos i1]
    simp [UV.setMsi, UV.setG, UV.setI, upd]
  · have : mhit ⟨d, i, g, z⟩ d' j = false := by
      simp only [mhit, Bool.and_eq_false_iff, decide_eq_false_iff_not]
      by_cases x : d = d'
      · exact .inr fun y => e ⟨x, y⟩
      · exact .inl x
    rw [this]
    show mto M d' j = _
    rw [h d' j hd' j0]
    by_cases j1 : j < 32
    · rw [if_pos j1, if_pos j1]
      have hne : ¬ d'.toNat * 32 + j.toNat = d.toNat * 32 + i.toNat := fun y => e ⟨by omega, by omega⟩
      simp [UV.setMsi, UV.setG, UV.setI, upd, hne]
    · rw [if_neg j1, if_neg j1]
end
/-- what is kept: blocks that were there ahead of both; a pair of both that lies beside them -/
def Kp (base : Nat) (w : World) (F G : Nat → Prop) (w' : World) (F' G' : Nat → Prop) : Prop := Below base w w' ∧ ∀ o x, w.heap[o]? = some x → (∀ c, x ≠ .cells c 201 (0, 0)) → ¬ F o → ¬ G o → w'.heap[o]? = some x ∧ ¬ F' o ∧ ¬ G' o
section
variable {w w' w'' : World} {base : Nat} {F F' F'' G G' G'' : Nat → Prop} {u b q r : Nat} {v v' : UV} {n : Nat} {f f' : Nat → Int} {room : Nat} {L L' : List E.TV} {M M' : List MV}
theorem Kp.below (hb : Below w.heap.size w w') (hs : base ≤ w.heap.size) : Kp base w F G w' F G := ⟨hb.mono hs, fun o c h _ h1 h2 => ⟨(hb.block o (lt_of_block h)).trans h, h1, h2⟩⟩
theorem Kp.trans (h : Kp base w F G w' F' G') (k : Kp base w' F' G' w'' F'' G'') : Kp base w F G w'' F'' G'' := ⟨h.1.trans k.1, fun o c h0 hx h1 h2 => by
  obtain ⟨a1, a2, a3⟩ := h.2 o c h0 hx h1 h2
  exact k.2 o c a1 hx a2 a3⟩
theorem PW.kp (h : PW w base F G u b q r v n f room L M) (t : Tn w F w' F') : Kp base w F G w' F' G := ⟨t.1.below base h.sz h.bf, fun o c h0 _ h1 h2 => ⟨t.1.old h0 h1, fun z => (t.2 o z).elim h1 fun y => by have := lt_of_block h0; omega, h2⟩⟩
theorem PH.kp (h : PH w base F G u b q r v n f room L M v' f' L') (t : Td base w G w' G') : Kp base w F G w' F G' := ⟨t.1.below base h.sz h.bg, fun o c h0 hx h1 h2 => ⟨t.1.old h0 h2, h1, fun z => by
  rcases t.2 o z with y | y | ⟨-, c', y⟩
  · exact h2 y
  · have := lt_of_block h0; omega
  · rw [t.1.old h0 h2] at y; cases y; exact hx _ rfl⟩⟩
/-- the pair of both -/
theorem Kp.on (h : Kp base w F G w' F' G') (o : Nat) (c : Array Value) (h0 : w.heap[o]? = some (.cells c 31 (0, 0))) (h1 : ¬ F o) (h2 : ¬ G o) : w'.heap[o]? = some (.cells c 31 (0, 0)) ∧ ¬ F' o ∧ ¬ G' o := h.2 o _ h0 (fun c' z => by cases z) h1 h2
end
/-- what a call of a script leaves -/
def PQ (w w' : World) (base : Nat) (F G : Nat → Prop) (u b q r n room : Nat) (t m c : Nat) : Prop := ∃ F' G' v f L M, PW w' base F' G' u b q r v n f room L M ∧ Kp base w F G w' F' G' ∧ M.length ≤ c + 1 ∧ v.t = t ∧ v.m = m
/-- the blocks of a call: both IOMMUs, the call itself -/
structure BX (w : World) (o x : Nat) (u b m q : Nat) (X : OpV) : Prop where
  on : w.heap[o]? = some (.cells #[.pointer (some ⟨u, 0, none⟩), .pointer (some ⟨b, 0, none⟩), .pointer (some ⟨m, 0, none⟩), .pointer (some ⟨q, 0, none⟩)] 31 (0, 0))
  op : w.heap[x]? = some (.cells #[.int .i64 X.kind, .int .i64 X.dev, .int .i64 X.size, .int .u64 X.addr, .int .u64 X.data, .bool X.write, .int .i64 X.guest, .int .i64 X.irq] 79 (0, 0))
section
variable {w w' : World} {o x u b m q : Nat} {X : OpV}
theorem BX.only (h : BX w o x u b m q X) {T : Nat → Prop} (ho : Only T w w') (h1 : ¬ T o) (h2 : ¬ T x) : BX w' o x u b m q X := ⟨ho.old h.on h1, ho.old h.op h2⟩
theorem BX.below (h : BX w o x u b m q X) (hb : Below w.heap.size w w') : BX w' o x u b m q X := h.only (T := fun _ => False) (Only.ofBelow hb) (fun z => z) (fun z => z)
theorem BX.cu (h : BX w o x u b m q X) : w.cell? ⟨o, 0, none⟩ = some (.pointer (some ⟨u, 0, none⟩)) := by rw [cell_of_row w _ 0 _ _ _ h.on]; rfl
theorem BX.cb (h : BX w o x u b m q X) : w.cell? ⟨o, 1, none⟩ = some (.pointer (some ⟨b, 0, none⟩)) := by rw [cell_of_row w _ 1 _ _ _ h.on]; rfl
theorem BX.c1 (h : BX w o x u b m q X) : w.cell? ⟨x, 1, none⟩ = some (.int .i64 X.dev) := by rw [cell_of_row w _ 1 _ _ _ h.op]; rfl
theorem BX.c2 (h : BX w o x u b m q X) : w.cell? ⟨x, 2, none⟩ = some (.int .i64 X.size) := by rw [cell_of_row w _ 2 _ _ _ h.op]; rfl
theorem BX.c3 (h : BX w o x u b m q X) : w.cell? ⟨x, 3, none⟩ = some (.int .u64 X.addr) := by rw [cell_of_row w _ 3 _ _ _ h.op]; rfl
theorem BX.c4 (h : BX w o x u b m q X) : w.cell? ⟨x, 4, none⟩ = some (.int .u64 X.data) := by rw [cell_of_row w _ 4 _ _ _ h.op]; rfl
theorem BX.c5 (h : BX w o x u b m q X) : w.cell? ⟨x, 5, none⟩ = some (.bool X.write) := by rw [cell_of_row w _ 5 _ _ _ h.op]; rfl
theorem BX.c6 (h : BX w o x u b m q X) : w.cell? ⟨x, 6, none⟩ = some (.int .i64 X.guest) := by rw [cell_of_row w _ 6 _ _ _ h.op]; rfl
theorem BX.c7 (h : BX w o x u b m q X) : w.cell? ⟨x, 7, none⟩ = some (.int .i64 X.irq) := by rw [cell_of_row w _ 7 _ _ _ h.op]; rfl
end
end Go.Proofs.YtmdconecigenfaaGreat
namespace Go.Proofs.YtmdconecigenfaaGreat
open Go.RowKit
open C (Only hid Mem Still ret_int ret_bool put byt nu hasB RMem)
set_option linter.unusedVariables false
set_option maxRecDepth 100000

theorem pu_len {room : Nat} {L : List E.TV} (h0 : 0 < room) (h : L.length ≤ room) (e : E.TV) : (E.pu room L e).length ≤ room := by
  unfold E.pu
  have h1 := E.fp_le L e.v e.p
  split
  · next z =>
    have := E.ev_lt (M := E.fp L e.v e.p) (by omega)
    simp; omega
  · next z => simp; omega
theorem acF_len {n : Nat} {f : Nat → Int} {v : UV} {room : Nat} {L : List E.TV} (h0 : 0 < room) (h : L.length ≤ room) (d a s : Int) (wt : Bool) : (acF n f v room L d a s wt).2.2.length ≤ room := by
  unfold acF
  split
  · exact h
  · split
    · exact h
    · split
      · exact h
      · rename_i p0 L0 e0
        have : L0.length ≤ room := by
          unfold fnd at e0
          split at e0
          · cases e0; exact h
          · split at e0
            · cases e0; exact pu_len h0 h _
            · cases e0
        split <;> exact this
section
variable {w w' : World} {G : Nat → Prop} {base b q r : Nat} {v v' : UV} {n : Nat} {f f' : Nat → Int} {room : Nat} {L L' : List E.TV} {M : List MV} {S : Nat → Prop} {mv vv : Value}
theorem DS.dqN (h1 : Ru w b q r v mv) (h2 : RMem w S q 0 n f) (h3 : E.RM w r room vv L) (h4 : Ms w base mv M) (h5 : ∀ k, G k ↔ (k = b ∨ S k ∨ k = r ∨ vv.ownBlock = some k ∨ mv.ownBlock = some k)) (ok : VOk v' n) (hq : DQ w w' b q r v' mv S n f' room vv L') : ∃ G', DS w' G' base b q r v' n f' room L' M ∧ Tn w G w' G' := by
  obtain ⟨S', vv', i1, i2, i3, i4, i5, i6⟩ := hq
  refine ⟨fun k => k = b ∨ S' k ∨ k = r ∨ vv'.ownBlock = some k ∨ mv.ownBlock = some k, ⟨S', mv, vv', i1, i2, i3, h4.only i4 (fun k hk z => ?_), fun k => Iff.rfl, ok⟩, i4.mono fun k _ z => ?_, fun k hk => ?_⟩
  · obtain ⟨cur, hc⟩ := h4.block hk
    rcases z with rfl | z | rfl
    · unfold Ru at h1; rw [h1] at hc; simp at hc
    · exact rmem_typ h2 hc (by decide) (by decide) (by decide) z
    · rw [h3.top] at hc; simp at hc
  · rcases z with z | z | z
    · exact (h5 k).2 (.inl z)
    · exact (h5 k).2 (.inr (.inl z))
    · exact (h5 k).2 (.inr (.inr (.inl z)))
  · rcases hk with z | z | z | z | z
    · exact .inl ((h5 k).2 (.inl z))
    · exact (i5 k z).elim (fun y => .inl ((h5 k).2 (.inr (.inl y)))) fun y => .inr y
    · exact .inl ((h5 k).2 (.inr (.inr (.inl z))))
    · exact (i6 k z).elim (fun y => .inl ((h5 k).2 (.inr (.inr (.inr (.inl y)))))) fun y => .inr y
    · exact .inl ((h5 k).2 (.inr (.inr (.inr (.inr z)))))
end
section
variable (w : World) (G : Nat → Prop) (base b q r : Nat) (v : UV) (n : Nat) (f : Nat → Int) (room : Nat) (L : List E.TV) (M : List MV) (h : DS w G base b q r v n f room L M)
include h
theorem dn_Access (d a s : Int) (wt : Bool) (hd : isDev d = true) (a0 : 0 ≤ a) (a1 : a < 18446744073709551616) (s0 : -9223372036854775808 ≤ s) (s1 : s ≤ 9223372036854775807) (h0 : 0 < room) (hL : L.length ≤ room) (hnd : E.Nd L) (k p : Int) (L' : List E.TV) (hk : acF n f v room L d a s wt = (k, p, L')) :
    Calls Tryz.prog 62 #[.pointer (some ⟨b, 0, none⟩), .int .i64 d, .int .u64 a, .int .i64 s, .bool wt] w fun e w' => e = .returned (.tuple #[.int .u64 p, .bool (decide (k = 0))]) ∧ ∃ G', DS w' G' base b q r (bkV v k) n (bkF v f d k a) room L' M ∧ Tn w G w' G' := by
  have h' := h
  obtain ⟨S, mv, vv, h1, h2, h3, h4, h5, h6⟩ := h'
  refine (k_Access w b q r v mv h1 S n f h2 room vv L h3 h6 d a s wt hd a0 a1 s0 s1 h0 hL hnd k p L' hk).mono ?_
  rintro e w' ⟨rfl, hq⟩
  have ok : VOk (bkV v k) n := by unfold bkV; split; exact h6; exact rcV_ok h6
  exact ⟨rfl, DS.dqN h1 h2 h3 h4 h5 ok hq⟩
theorem dn_Message (d a i : Int) (hd : isDev d = true) (a0 : 0 ≤ a) (a1 : a < 18446744073709551616) (hlen : M.length ≤ 2199023255552) (g z : Int) (ht : mto M d i = (g, z)) (go : Bool) (hgo : (decide (a = 4276092928) && !(g == 0)) = go) :
    Calls Tryz.prog 64 #[.pointer (some ⟨b, 0, none⟩), .int .i64 d, .int .u64 a, .int .u64 i] w fun e w' => e = .returned (.tuple #[.agg #[.int .i64 (bif go then g else 0), .int .i64 (bif go then z else 0)], .bool go]) ∧ ∃ G', DS w' G' base b q r (bif go then v else rcV v) n (bif go then f else rcF v f d 5 a) room L M ∧ Tn w G w' G' := by
  obtain ⟨S, mv, vv, h1, h2, h3, h4, h5, h6⟩ := h
  refine (k_Message w b q r v mv h1 S n f h2 base M h4 hlen h6 d a i hd a0 a1 g z ht go hgo).mono ?_
  rintro e w' ⟨S', rfl, i1, i2, i3, i4⟩
  have ok : VOk (bif go then v else rcV v) n := by cases go; exact rcV_ok h6; exact h6
  exact ⟨rfl, DS.dqN h1 h2 h3 h4 h5 ok (DQ.mem h1 h2 h3 i1 i2 i3 i4)⟩
theorem dn_Write (p x : Int) (hp : hasB 0 n p 8 = true) (x0 : 0 ≤ x) (x1 : x < 18446744073709551616) :
    Calls Tryz.prog 61 #[.pointer (some ⟨q, 0, none⟩), .int .u64 p, .int .i64 8, .int .u64 x] w fun e w' => e = .returned (.bool true) ∧ ∃ G', DS w' G' base b q r v n (put f (p - 0).toNat 8 (byt x)) room L M ∧ Tn w G w' G' := by
  obtain ⟨S, mv, vv, h1, h2, h3, h4, h5, h6⟩ := h
  obtain ⟨q1, q2⟩ := has_off hp
  refine (C.q_Write w S q 0 n f h2 (p - 0).toNat 8 q1 (by decide) p q2 x x0 x1).mono ?_
  rintro e w' ⟨S', rfl, i1, i2, i3⟩
  exact ⟨rfl, DS.dqN h1 h2 h3 h4 h5 h6 (DQ.mem h1 h2 h3 (h1.only i2 (ru_mem h2 h1)) i1 (i2.mono fun k _ z => .inr z) i3)⟩
theorem ds_mem : ∃ S, RMem w S q 0 n f := by obtain ⟨S, mv, vv, h1, h2, -⟩ := h; exact ⟨S, h2⟩
theorem ds_sep (k : Nat) (hk : G k) : ∃ c t fr, w.heap[k]? = some (.cells c t fr) ∧ t ≠ 69 ∧ t ≠ 119 := by
  obtain ⟨S, mv, vv, h1, h2, h3, h4, h5, h6⟩ := h
  rcases (h5 k).1 hk with rfl | z | rfl | z | z
  · exact ⟨_, _, _, h1, by decide, by decide⟩
  · exact rmem_sep h2 k z
  · exact ⟨_, _, _, h3.top, by decide, by decide⟩
  · obtain ⟨cur, hc⟩ := h3.es.block z
    exact ⟨_, _, _, hc, by decide, by decide⟩
  · obtain ⟨cur, hc⟩ := h4.block z
    exact ⟨_, _, _, hc, by decide, by decide⟩
end
/-- the document's IOMMU in a state -/
def RUs (base b q r n room c : Nat) (w : World) (F : Nat → Prop) (s : Us) : Prop := ∃ M, DS w F base b q r s.v n s.f room s.L M ∧ E.Nd s.L ∧ MR s.v M ∧ M.length ≤ c ∧ 0 < room ∧ s.L.length ≤ room
theorem y_accessU (w : World) (dev : Int) (q b y : Nat) (r : Nat → Int) (c : Int) (hy : Ye w y ⟨dev, q, some ⟨b, 0, none⟩⟩ r c) (a : Int) (wt : Bool) (R : World → Prop) (hR : ∀ w1 w2, Below w1.heap.size w1 w2 → R w1 → R w2) (p : Int) (o : Bool)
    (hA : ∀ w0, Below w.heap.size w w0 → Calls Tryz.prog 62 #[.pointer (some ⟨b, 0, none⟩), .int .i64 dev, .int .u64 a, .int .i64 8, .bool wt] w0 fun e w' => e = .returned (.tuple #[.int .u64 p, .bool o]) ∧ R w') :
    Calls Tryz.prog 58 #[.pointer (some ⟨y, 0, none⟩), .int .u64 a, .bool wt] w fun e w' => e = .returned (.tuple #[.int .u64 p, .bool o]) ∧ R w' := by
  have k0 := hy.c0
  have k2 := hy.c2
  have HA := hid hA
  have HR := hid hR
  clear hA hy hR
  go_enter Tryz.func58, Tryz.ntmps58
  go_wp2_with fail
  refine wp_region_mid_dn 10 (by kernel_rfl) (by kernel_rfl) (by kernel_rfl) (by decide) (by kernel_rfl) ?_
  simp only [List.take, List.drop]
  repeat (go_big_quiet_step (fail))
  refine wpQuiet_nil ?_
  intro _ hwq
  obtain ⟨nq, hwq⟩ := hwq
  subst hwq
  refine wpOp_step rfl (fun K hK => ?_)
  go_simp
  refine (HA.out _ (below_dn (Below.refl _ _) nq)).mono ?_
  rintro e w1 ⟨rfl, h1⟩
  refine hK _ _ ?_
  have H1 := hid h1
  clear hK h1
  go_simp
  repeat (go_big_quiet_step (fail))
  refine wpQuiet_nil ?_
  intro nr
  go_wp2
  go_ret2
  exact ⟨rfl, HR.out _ _ (below_dn (Below.refl _ _) nr) H1.out⟩
theorem y_messageU0 (w : World) (v : YV) (y : Nat) (r : Nat → Int) (c : Int) (hy : Ye w y v r c) (h0 : (r 4 == 0) = true) :
    Calls Tryz.prog 59 #[.pointer (some ⟨y, 0, none⟩)] w fun e w' => e = .returned (.tuple #[.agg #[.int .i64 0, .int .i64 0], .bool false]) ∧ Below w.heap.size w w' := by
  have hb0 : Below w.heap.size w (w.alloc (.cells #[.int .i64 0, .int .i64 0] 50)) := (Below.refl _ _).alloc (Nat.le_refl _) _
  have hy' := hy.below hb0
  have k2 := hy'.c2
  have k8 := hy'.c8
  have k9 := hy'.c9
  clear hy hy' hb0
  go_enter Tryz.func59, Tryz.ntmps59
  go_wp2
  go_returns
  exact ⟨rfl, (Below.refl _ _).alloc (Nat.le_refl _) _⟩
theorem y_messageU (w : World) (dev : Int) (q b y : Nat) (r : Nat → Int) (c : Int) (hy : Ye w y ⟨dev, q, some ⟨b, 0, none⟩⟩ r c) (h0 : (r 4 == 0) = false) (g z : Int) (o : Bool) (R : World → Prop) (hR : ∀ w1 w2, Only (· = w.heap.size) w1 w2 → R w1 → R w2)
    (hA : ∀ w0, Below w.heap.size w w0 → w.heap.size < w0.heap.size → Calls Tryz.prog 64 #[.pointer (some ⟨b, 0, none⟩), .int .i64 dev, .int .u64 (r 4), .int .u64 (r 5)] w0 fun e w' => e = .returned (.tuple #[.agg #[.int .i64 g, .int .i64 z], .bool o]) ∧ w'.heap[w.heap.size]? = w0.heap[w.heap.size]? ∧ R w') :
    Calls Tryz.prog 59 #[.pointer (some ⟨y, 0, none⟩)] w fun e w' => e = .returned (.tuple #[.agg #[.int .i64 g, .int .i64 z], .bool o]) ∧ R w' := by
  have hb0 : Below w.heap.size w (w.alloc (.cells #[.int .i64 0, .int .i64 0] 50)) := (Below.refl _ _).alloc (Nat.le_refl _) _
  have hy' := hy.below hb0
  have k0 := hy'.c0
  have k2 := hy'.c2
  have k8 := hy'.c8
  have k9 := hy'.c9
  have HA := hid hA
  have HR := hid hR
  have HB := hid hb0
  have hn := heap_alloc_new w (.cells #[.int .i64 0, .int .i64 0] 50)
  have HN := hid hn
  clear hy hy' hb0 hA hR hn
  go_enter Tryz.func59, Tryz.ntmps59
  go_wp2_with fail
  refine wp_region_mid2 18 21 (by kernel_rfl) (by kernel_rfl) (by kernel_rfl) (by kernel_rfl) (by kernel_rfl) (by decide) (by decide) (by kernel_rfl) (by kernel_rfl) ?_
  simp only [List.take, List.drop]
  repeat (go_big_quiet_step (fail))
  refine wpQuiet_nil ?_
  intro _ hwq
  obtain ⟨nq, hwq⟩ := hwq
  subst hwq
  refine wpOp_step rfl (fun K hK => ?_)
  go_simp
  refine (HA.out _ (HB.out.trans (below_dn (Below.refl _ _) nq)) (lt_of_block HN.out)).mono ?_
  rintro e w1 ⟨rfl, h1, h2⟩
  refine hK _ _ ?_
  have H1 := hid (h1.trans HN.out)
  have H2 := hid h2
  clear hK h1 h2
  obtain ⟨d0, d1, df, dl⟩ := c_row H1.out
  go_simp
  repeat (go_big_quiet_step (fail))
  refine wpQuiet_nil ?_
  intro nr
  refine wpOp_step rfl (fun K hK => ?_)
  go_simp
  refine hK _ _ ?_
  clear hK
  repeat (go_big_quiet_step (fail))
  refine wpQuiet_nil ?_
  intro ns
  go_wp2
  refine bodyPost_ret (v := .tuple #[.agg #[.int .i64 g, .int .i64 z], .bool o]) (by simp [results, Tryz.results59, go_sem, d0, d1]) rfl ⟨rfl, HR.out _ _ ((((Only.refl w1).drewN nr).trans ((only_e _ w.heap.size 0 _).trans (only_e _ w.heap.size 1 _))).drewN ns) H2.out⟩
theorem ms_goes {v : UV} {M : List MV} (hm : MR v M) {dev a i : Int} (hd : isDev dev = true) (i0 : 0 ≤ i) : (decide (a = 4276092928) && !((mto M dev i).1 == 0)) = goes v dev a i := by
  rw [hm dev i hd i0]
  unfold goes
  by_cases h : i < 32
  · rw [if_pos h]; simp [h, bne]
  · rw [if_neg h]; simp [h]
theorem us_st {base b q r n room c : Nat} {w : World} {F : Nat → Prop} {s : Us} (w1 w2 : World) (ho : Only (· = w.heap.size) w1 w2) (h : ∃ F', RUs base b q r n room c w1 F' s ∧ Tx w F w1 F' ∧ ¬ F' w.heap.size) : ∃ F', RUs base b q r n room c w2 F' s ∧ Tx w F w2 F' ∧ ¬ F' w.heap.size := by
  obtain ⟨F', ⟨M, h1, h2⟩, h3, h4⟩ := h
  exact ⟨F', ⟨M, h1.only ho (fun k hk z => h4 (z ▸ hk)), h2⟩, ⟨h3.1.trans' ho fun i hi z => by omega, h3.2⟩, h4⟩
theorem urC (u n room m t : Nat) (dev : Int) (hd : isDev dev = true) (base b q r c : Nat) (hc : c ≤ 2199023255552) : RGateC (UG u n room m t dev) (RUs base b q r n room c) ⟨dev, q, some ⟨b, 0, none⟩⟩ where
  sep w F s h k hk := by
    obtain ⟨M, h1, -⟩ := h
    obtain ⟨c, t, f, z1, z2, -⟩ := ds_sep w F base b q r s.v n s.f room s.L M h1 k hk
    exact ⟨c, t, f, z1, z2⟩
  only w F s h w' T ho hd := by
    obtain ⟨M, h1, h2⟩ := h
    exact ⟨M, h1.only ho hd, h2⟩
  A w F s h y r' c' hy a wt a0 a1 := by
    obtain ⟨M, h1, h2, h3, h4, h5, h6⟩ := h
    obtain ⟨⟨k, p, L'⟩, hk⟩ : ∃ x, acF n s.f s.v room s.L dev a 8 wt = x := ⟨_, rfl⟩
    have ea : (UG u n room m t dev).acc s a wt = (p, decide (k = 0), ⟨bkV s.v k, bkF s.v s.f dev k a, L'⟩) := by
      show (_, _, _) = _
      rw [hk]; rfl
    have hl : L'.length ≤ room := by have := acF_len (n := n) (f := s.f) (v := s.v) h5 h6 dev a 8 wt; rw [hk] at this; exact this
    rw [ea]
    refine (y_accessU w dev q b y r' c' hy a wt (fun w' => ∃ F', RUs base b q r n room c w' F' ⟨bkV s.v k, bkF s.v s.f dev k a, L'⟩ ∧ Tx w F w' F') (fun w1 w2 hb hh => ?_) p (decide (k = 0)) (fun w0 hb => ?_)).mono ?_
    · obtain ⟨F', ⟨M', j1, j2⟩, j3⟩ := hh
      exact ⟨F', ⟨M', j1.below hb, j2⟩, j3.trans (.ofBelow hb)⟩
    · refine (dn_Access w0 F base b q r s.v n s.f room s.L M (h1.below hb) dev a 8 wt hd a0 a1 (by decide) (by decide) h5 h6 h2 k p L' hk).mono ?_
      rintro e w' ⟨rfl, G', i1, i2⟩
      exact ⟨rfl, G', ⟨M, i1, acF_nd h2 dev a 8 wt hk, h3.same (bkV_mg _ _).1 (bkV_mg _ _).2, h4, h5, hl⟩, (Tn.ofBelow hb).trans i2⟩
    · rintro e w' ⟨rfl, hh⟩
      exact ⟨_, rfl, fun _ => rfl, hh⟩
  Rd w F s h p hp := by
    obtain ⟨M, h1, -⟩ := h
    obtain ⟨S, hm⟩ := ds_mem w F base b q r s.v n s.f room s.L M h1
    obtain ⟨z1, z2⟩ := has_off hp
    refine (C.q_Read w S q 0 n s.f hm (p - 0).toNat 8 z1 (by decide) p z2).mono ?_
    rintro e w' ⟨rfl, hs⟩
    exact ⟨rfl, hs.below _⟩
  rb w F s h p := by
    obtain ⟨M, h1, -⟩ := h
    obtain ⟨S, hm⟩ := ds_mem w F base b q r s.v n s.f room s.L M h1
    exact C.nu_lt (fun j => s.f ((p - 0).toNat + j)) (fun j => hm.byt _) 8
  W w F s h p x hp x0 x1 := by
    obtain ⟨M, h1, h2⟩ := h
    refine (dn_Write w F base b q r s.v n s.f room s.L M h1 p x hp x0 x1).mono ?_
    rintro e w' ⟨rfl, G', i1, i2⟩
    exact ⟨rfl, G', ⟨M, i1, h2⟩, i2⟩
  M w F s h y r' c' hy hr := by
    obtain ⟨M, h1, h2, h3, h4, h5, h6⟩ := h
    have hF : ∀ k, w.heap.size ≤ k → ¬ F k := fun k hk z => by have := h1.lt z; omega
    cases h0 : (r' 4 == 0)
    · obtain ⟨a0, a1⟩ := hr 4
      obtain ⟨d0, d1⟩ := hr 5
      have hg := ms_goes h3 (a := r' 4) hd d0
      cases go : goes s.v dev (r' 4) (r' 5)
      · rw [go] at hg
        have e1 : mgE (UG u n room m t dev) r' s = ((0, 0, false), ⟨rcV s.v, rcF s.v s.f dev 5 (r' 4), s.L⟩) := by
          have hmm : (UG u n room m t dev).msg s (r' 4) (r' 5) = (0, 0, false, ⟨rcV s.v, rcF s.v s.f dev 5 (r' 4), s.L⟩) := by show (bif goes s.v dev (r' 4) (r' 5) then _ else _) = _; rw [go]; rfl
          unfold mgE; rw [h0, hmm]; rfl
        rw [e1]
        refine (y_messageU w dev q b y r' c' hy h0 0 0 false (fun w' => ∃ F', RUs base b q r n room c w' F' ⟨rcV s.v, rcF s.v s.f dev 5 (r' 4), s.L⟩ ∧ Tx w F w' F' ∧ ¬ F' w.heap.size) us_st (fun w0 hb hl => ?_)).mono (fun e w' hh => ⟨hh.1, hh.2.imp fun F' z => ⟨z.1, z.2.1⟩⟩)
        refine (dn_Message w0 F base b q r s.v n s.f room s.L M (h1.below hb) dev (r' 4) (r' 5) hd a0 a1 (by omega) _ _ rfl false hg).mono ?_
        rintro e w' ⟨rfl, G', i1, i2⟩
        exact ⟨rfl, i2.1.block _ hl (hF _ (Nat.le_refl _)), G', ⟨M, i1, h2, h3.same (rcV_mg _).1 (rcV_mg _).2, h4, h5, h6⟩, (Tn.ofBelow hb).trans i2, fun z => (i2.2 _ z).elim (hF _ (Nat.le_refl _)) fun x => by omega⟩
      · rw [go] at hg
        have hmm : (UG u n room m t dev).msg s (r' 4) (r' 5) = (s.v.mg (dev.toNat * 32 + (r' 5).toNat), s.v.mi (dev.toNat * 32 + (r' 5).toNat), true, s) := by show (bif goes s.v dev (r' 4) (r' 5) then _ else _) = _; rw [go]; rfl
        have e1 : mgE (UG u n room m t dev) r' s = ((s.v.mg (dev.toNat * 32 + (r' 5).toNat), s.v.mi (dev.toNat * 32 + (r' 5).toNat), true), s) := by
          unfold mgE; rw [h0, hmm]; rfl
        have e2 : mto M dev (r' 5) = (s.v.mg (dev.toNat * 32 + (r' 5).toNat), s.v.mi (dev.toNat * 32 + (r' 5).toNat)) := by
          rw [h3 dev (r' 5) hd d0]
          simp only [goes, Bool.and_eq_true, decide_eq_true_eq] at go
          rw [if_pos go.1.2]
        rw [e1]
        refine (y_messageU w dev q b y r' c' hy h0 _ _ true (fun w' => ∃ F', RUs base b q r n room c w' F' s ∧ Tx w F w' F' ∧ ¬ F' w.heap.size) us_st (fun w0 hb hl => ?_)).mono (fun e w' hh => ⟨hh.1, hh.2.imp fun F' z => ⟨z.1, z.2.1⟩⟩)
        rw [e2] at hg
        refine (dn_Message w0 F base b q r s.v n s.f room s.L M (h1.below hb) dev (r' 4) (r' 5) hd a0 a1 (by omega) _ _ e2 true hg).mono ?_
        rintro e w' ⟨rfl, G', i1, i2⟩
        exact ⟨rfl, i2.1.block _ hl (hF _ (Nat.le_refl _)), G', ⟨M, i1, h2, h3, h4, h5, h6⟩, (Tn.ofBelow hb).trans i2, fun z => (i2.2 _ z).elim (hF _ (Nat.le_refl _)) fun x => by omega⟩
    · have e1 : mgE (UG u n room m t dev) r' s = ((0, 0, false), s) := by unfold mgE; rw [h0]; rfl
      rw [e1]
      refine (y_messageU0 w _ y r' c' hy h0).mono ?_
      rintro e w' ⟨rfl, hb⟩
      exact ⟨rfl, F, ⟨M, h1.below hb, h2, h3, h4, h5, h6⟩, .ofBelow hb⟩
end Go.Proofs.YtmdconecigenfaaGreat
namespace Go.Proofs.YtmdconecigenfaaGreat
open Go.RowKit
open C (Only hid Mem Still ret_int ret_bool put byt nu hasB RMem)
set_option linter.unusedVariables false
set_option maxRecDepth 100000

/-- what stays: the world ahead, blocks that nobody touches, both IOMMUs' places -/
structure Kz where
  W : World
  kp : Nat → Obj → Prop
  u : Nat
  n : Nat
  room : Nat
  m : Nat
  t : Nat
  dev : Int
  d : Nat
  q : Nat
  l : Nat
abbrev Kz.G (K : Kz) : Gate := UG K.u K.n K.room K.m K.t K.dev
def Kz.V (K : Kz) : YV := ⟨K.dev, K.q, some ⟨K.d, 0, none⟩⟩
def Kz.R (K : Kz) (cm : Nat) : World → (Nat → Prop) → Us → Prop := RUs K.W.heap.size K.d K.q K.l K.n K.room cm
structure PX (K : Kz) (w : World) (e y : Nat) (v : EV) (r : Nat → Int) (c : Int) (S T : Nat → Prop) (cm : Nat) (s s' : Us) : Prop where
  eg : Eg w e v
  ye : Ye w y K.V r c
  us : K.G.R w S s
  ds : K.R cm w T s'
  hd : isDev K.dev = true
  cb : cm ≤ 2199023255552
  vm : v.m = K.m
  vg : v.g = gU K.u
  vd : v.dev = K.dev
  rb : RB v.r
  rr : RB r
  hc : r 3 = 1 → c = r 6
  hi : Inv r
  st : ∀ k, S k → ¬ T k
  ey : e ≠ y
  te : ¬ T e
  sy : ¬ S y
  new : Below K.W.heap.size K.W w
  own : ∀ k, k = e ∨ k = y ∨ S k ∨ T k → K.W.heap.size ≤ k
  kb : ∀ b x, K.kp b x → w.heap[b]? = some x ∧ ∀ c, x ≠ .cells c 201 (0, 0)
  nb : ∀ b x, K.kp b x → ¬ (b = e ∨ b = y ∨ S b ∨ T b)
section
variable {K : Kz} {w w' : World} {e y : Nat} {v v' : EV} {r r' : Nat → Int} {c c' : Int} {S S' T T' : Nat → Prop} {cm : Nat} {s s' z' : Us}
theorem PX.cG (H : PX K w e y v r c S T cm s s') : GateC K.G 24 (.pointer (some ⟨K.u, 0, none⟩)) K.m K.dev 22 63 (.pointer (some ⟨K.u, 0, none⟩)) := ugC K.u K.n K.room K.m K.t K.dev H.hd
theorem PX.cR (H : PX K w e y v r c S T cm s s') : RGateC K.G (K.R cm) K.V := urC K.u K.n K.room K.m K.t K.dev H.hd K.W.heap.size K.d K.q K.l cm H.cb
theorem PX.ltS (H : PX K w e y v r c S T cm s s') {k : Nat} (h : S k) : k < w.heap.size := H.cG.lt H.us h
theorem PX.ltT (H : PX K w e y v r c S T cm s s') {k : Nat} (h : T k) : k < w.heap.size := H.cR.lt H.ds h
theorem PX.ty (H : PX K w e y v r c S T cm s s') : ¬ T y := H.cR.ne H.ds H.ye
theorem PX.se (H : PX K w e y v r c S T cm s s') : ¬ S e := H.cG.ne H.us H.eg
theorem PX.turnE (H : PX K w e y v r c S T cm s s') (t : Txe w e S w' S') (he : Eg w' e v') (hm : K.G.R w' S' z') (h1 : v'.m = v.m) (h2 : v'.g = v.g) (h4 : v'.dev = v.dev) (h3 : RB v'.r) : PX K w' e y v' r c S' T cm z' s' where
  eg := he
  ye := H.ye.only t.1 fun z => z.elim (fun x => H.ey x.symm) H.sy
  us := hm
  ds := H.cR.only _ _ _ H.ds _ _ t.1 fun k hk z => z.elim (fun x => H.te (x ▸ hk)) fun x => H.st k x hk
  hd := H.hd
  cb := H.cb
  vm := h1.trans H.vm
  vg := h2.trans H.vg
  vd := h4.trans H.vd
  rb := h3
  rr := H.rr
  hc := H.hc
  hi := H.hi
  st := fun k hk z => (t.2 k hk).elim (fun x => H.st k x z) fun x => by have := H.ltT z; omega
  ey := H.ey
  te := H.te
  sy := fun z => (t.2 y z).elim H.sy fun x => by have := H.ye.lt; omega
  new := H.new.trans (t.1.below _ H.new.size fun k z => H.own k (z.elim .inl fun x => .inr (.inr (.inl x))))
  own := fun k z => by
    rcases z with z | z | z | z
    · exact H.own k (.inl z)
    · exact H.own k (.inr (.inl z))
    · exact (t.2 k z).elim (fun x => H.own k (.inr (.inr (.inl x)))) fun x => Nat.le_trans H.new.size x
    · exact H.own k (.inr (.inr (.inr z)))
  kb := fun b x hk => ⟨t.1.old (H.kb b x hk).1 fun z => H.nb b x hk (z.elim .inl fun x => .inr (.inr (.inl x))), (H.kb b x hk).2⟩
  nb := fun b x hk z => by
    rcases z with z | z | z | z
    · exact H.nb b x hk (.inl z)
    · exact H.nb b x hk (.inr (.inl z))
    · exact (t.2 _ z).elim (fun y => H.nb b x hk (.inr (.inr (.inl y)))) fun y => by have := lt_of_block (H.kb b x hk).1; omega
    · exact H.nb b x hk (.inr (.inr (.inr z)))
theorem PX.turnY (H : PX K w e y v r c S T cm s s') (t : Txe w y T w' T') (he : Ye w' y K.V r' c') (hm : K.R cm w' T' z') (h3 : RB r') (h5 : r' 3 = 1 → c' = r' 6) (h6 : Inv r') : PX K w' e y v r' c' S T' cm s z' where
  eg := H.eg.only t.1 (fun z => z.elim H.ey H.te) fun k hk => by
    rcases hk with z | z
    · subst z; exact ⟨_, _, _, H.ye⟩
    · obtain ⟨a, t, fr, x, -⟩ := H.cR.sep _ _ _ H.ds k z; exact ⟨a, t, fr, x⟩
  ye := he
  us := H.cG.only _ _ _ H.us _ _ t.1 fun k hk z => z.elim (fun x => H.sy (x ▸ hk)) fun x => H.st k hk x
  ds := hm
  hd := H.hd
  cb := H.cb
  vm := H.vm
  vg := H.vg
  vd := H.vd
  rb := H.rb
  rr := h3
  hc := h5
  hi := h6
  st := fun k hk z => (t.2 k z).elim (H.st k hk) fun x => by have := H.ltS hk; omega
  ey := H.ey
  te := fun z => (t.2 e z).elim H.te fun x => by have := H.eg.lt; omega
  sy := H.sy
  new := H.new.trans (t.1.below _ H.new.size fun k z => H.own k (z.elim (fun x => .inr (.inl x)) fun x => .inr (.inr (.inr x))))
  own := fun k z => by
    rcases z with z | z | z | z
    · exact H.own k (.inl z)
    · exact H.own k (.inr (.inl z))
    · exact H.own k (.inr (.inr (.inl z)))
    · exact (t.2 k z).elim (fun x => H.own k (.inr (.inr (.inr x)))) fun x => Nat.le_trans H.new.size x
  kb := fun b x hk => ⟨t.1.old (H.kb b x hk).1 fun z => H.nb b x hk (z.elim (fun x => .inr (.inl x)) fun x => .inr (.inr (.inr x))), (H.kb b x hk).2⟩
  nb := fun b x hk z => by
    rcases z with z | z | z | z
    · exact H.nb b x hk (.inl z)
    · exact H.nb b x hk (.inr (.inl z))
    · exact H.nb b x hk (.inr (.inr (.inl z)))
    · exact (t.2 _ z).elim (fun y => H.nb b x hk (.inr (.inr (.inr y)))) fun y => by have := lt_of_block (H.kb b x hk).1; omega
/-- one more block is kept -/
def Kz.and (K : Kz) (b : Nat) (x : Obj) : Kz := { K with kp := fun b' x' => K.kp b' x' ∨ (b' = b ∧ x' = x) }
theorem PX.and (H : PX K w e y v r c S T cm s s') (b : Nat) (x : Obj) (h : w.heap[b]? = some x) (hx : ∀ c, x ≠ .cells c 201 (0, 0)) (hn : ¬ (b = e ∨ b = y ∨ S b ∨ T b)) : PX (K.and b x) w e y v r c S T cm s s' :=
  ⟨H.eg, H.ye, H.us, H.ds, H.hd, H.cb, H.vm, H.vg, H.vd, H.rb, H.rr, H.hc, H.hi, H.st, H.ey, H.te, H.sy, H.new, H.own, fun b' x' hk => by
    rcases hk with hk | ⟨rfl, rfl⟩
    · exact H.kb b' x' hk
    · exact ⟨h, hx⟩, fun b' x' hk => by
    rcases hk with hk | ⟨rfl, rfl⟩
    · exact H.nb b' x' hk
    · exact hn⟩
theorem PX.less {b : Nat} {x : Obj} (H : PX (K.and b x) w e y v r c S T cm s s') : PX K w e y v r c S T cm s s' :=
  ⟨H.eg, H.ye, H.us, H.ds, H.hd, H.cb, H.vm, H.vg, H.vd, H.rb, H.rr, H.hc, H.hi, H.st, H.ey, H.te, H.sy, H.new, H.own, fun b' x' hk => H.kb b' x' (.inl hk), fun b' x' hk => H.nb b' x' (.inl hk)⟩
theorem PX.at {b : Nat} {x : Obj} (H : PX (K.and b x) w e y v r c S T cm s s') : w.heap[b]? = some x := (H.kb b x (.inr ⟨rfl, rfl⟩)).1
/-- both IOMMUs alone -/
theorem PX.pw (H : PX K w e y v r c S T cm s s) : ∃ M, PW w K.W.heap.size S T K.u K.d K.q K.l s.v K.n s.f K.room s.L M ∧ M.length ≤ cm := by
  obtain ⟨M, h1, h2, h3, h4, h5, h6⟩ := H.ds
  exact ⟨M, ⟨H.us.1, h1, H.st, fun k z => H.own k (.inr (.inr (.inl z))), fun k z => H.own k (.inr (.inr (.inr z))), h2, h3, H.new.size⟩, h4⟩
theorem PX.back (H : PX K w e y v r c S T cm s s) {F' G' : Nat → Prop} {v' : UV} {f' : Nat → Int} {L' : List E.TV} {M' : List MV} (h : PW w' K.W.heap.size F' G' K.u K.d K.q K.l v' K.n f' K.room L' M') (kp : Kp K.W.heap.size w S T w' F' G') (et : v'.t = K.t) (em : v'.m = K.m) (hl : M'.length ≤ cm + 1) (hc : cm + 1 ≤ 2199023255552) : PX K w' e y v r c F' G' (cm + 1) ⟨v', f', L'⟩ ⟨v', f', L'⟩ := by
  have key : ∀ b x, w.heap[b]? = some x → (∀ c, x ≠ .cells c 201 (0, 0)) → ¬ S b → ¬ T b → w'.heap[b]? = some x ∧ ¬ F' b ∧ ¬ G' b := kp.2
  obtain ⟨y1, y2, y3⟩ := key y _ H.ye (fun c z => by cases z) H.sy H.ty
  have eb : w'.heap[e]? = w.heap[e]? ∧ ¬ F' e ∧ ¬ G' e := by
    obtain ⟨d, x, q3⟩ := H.eg.blk
    obtain ⟨e1, e2, e3⟩ := key e _ q3 (fun c z => by cases z) H.se H.te
    exact ⟨e1.trans q3.symm, e2, e3⟩
  refine ⟨?_, y1, ⟨h.us, em, et⟩, ⟨M', h.ds, h.nd, h.ms, hl, h.us.r0.1, h.us.r0.2.2⟩, H.hd, hc, H.vm, H.vg, H.vd, H.rb, H.rr, H.hc, H.hi, h.dj, H.ey, eb.2.2, y2, H.new.trans kp.1, fun k z => ?_, fun b x hk => ?_, fun b x hk z => ?_⟩
  · rcases H.eg with g | ⟨N, g, es, cn, k1, k2⟩
    · exact .inl (eb.1.trans g)
    · refine .inr ⟨N, eb.1.trans g, es, cn, (key N _ k1 (fun c z => by cases z) (fun z => ?_) (fun z => ?_)).1, k2⟩
      · obtain ⟨a, t, f, q1, -⟩ := H.cG.sep _ _ _ H.us N z
        rw [k1] at q1; cases q1
      · obtain ⟨a, t, f, q1, -⟩ := H.cR.sep _ _ _ H.ds N z
        rw [k1] at q1; cases q1
  · rcases z with z | z | z | z
    · exact H.own k (.inl z)
    · exact H.own k (.inr (.inl z))
    · exact h.bf k z
    · exact h.bg k z
  · have hn := H.nb b x hk
    exact ⟨(key b x (H.kb b x hk).1 (H.kb b x hk).2 (fun z => hn (.inr (.inr (.inl z)))) (fun z => hn (.inr (.inr (.inr z))))).1, (H.kb b x hk).2⟩
  · have hn := H.nb b x hk
    have kk := key b x (H.kb b x hk).1 (H.kb b x hk).2 (fun z => hn (.inr (.inr (.inl z)))) (fun z => hn (.inr (.inr (.inr z))))
    rcases z with z | z | z | z
    · exact hn (.inl z)
    · exact hn (.inr (.inl z))
    · exact kk.2.1 z
    · exact kk.2.2 z
theorem PX.more (H : PX K w e y v r c S T cm s s') (c2 : Nat) (h1 : cm ≤ c2) (h2 : c2 ≤ 2199023255552) : PX K w e y v r c S T c2 s s' :=
  ⟨H.eg, H.ye, H.us, H.ds.imp fun M h => ⟨h.1, h.2.1, h.2.2.1, Nat.le_trans h.2.2.2.1 h1, h.2.2.2.2⟩, H.hd, h2, H.vm, H.vg, H.vd, H.rb, H.rr, H.hc, H.hi, H.st, H.ey, H.te, H.sy, H.new, H.own, H.kb, H.nb⟩
theorem PX.below (H : PX K w e y v r c S T cm s s') (hb : Below w.heap.size w w') : PX K w' e y v r c S T cm s s' :=
  H.turnE (.ofBelow hb) (H.eg.below hb) (H.cG.below H.us hb) rfl rfl rfl H.rb
end
section
variable (K : Kz) (w : World) (e y : Nat) (v : EV) (r : Nat → Int) (c : Int) (S T : Nat → Prop) (cm : Nat) (s s' : Us) (H : PX K w e y v r c S T cm s s')
include H
theorem zx_W (off size z : Int) (z0 : 0 ≤ z) (z1 : z < 18446744073709551616) (o0 : 0 ≤ off) (o1 : off < 18446744073709551616) :
    Calls Tryz.prog 19 #[.pointer (some ⟨e, 0, none⟩), .int .u64 off, .int .i64 size, .int .u64 z] w fun x w' => x = .returned (.bool (okE off size)) ∧ PX K w' e y (v.wr (bif okE off size then wrE v.r off size z else v.r)) r c S T cm s s' ∧ Txe w e S w' S := by
  refine (x_Write w e v H.eg H.rb off size z z0 z1 o0 o1).mono ?_
  rintro x w' ⟨rfl, h1, h2⟩
  refine ⟨rfl, H.turnE (.own S h2) h1 (H.cG.own H.us H.eg h2) rfl rfl rfl ?_, .own S h2⟩
  cases okE off size
  · exact H.rb
  · exact wrE_b H.rb z0 z1
theorem zx_YW (off size z : Int) (z0 : 0 ≤ z) (z1 : z < 18446744073709551616) (o0 : 0 ≤ off) (o1 : off < 18446744073709551616) (s0 : -9223372036854775808 ≤ size) (s1 : size ≤ 9223372036854775807) :
    Calls Tryz.prog 30 #[.pointer (some ⟨y, 0, none⟩), .int .u64 off, .int .i64 size, .int .u64 z] w fun x w' => x = .returned (.bool (okE off size)) ∧ ∃ c', PX K w' e y v (bif okE off size then wrE r off size z else r) c' S T cm s s' ∧ Only (· = y) w w' := by
  refine (y_Write w y _ r c H.ye H.rr off size z z0 z1 o0 o1 s0 s1).mono ?_
  rintro x w' ⟨rfl, ⟨c', h1, h2⟩, h3⟩
  refine ⟨rfl, c', H.turnY (.own T h3) h1 (H.cR.only _ _ _ H.ds _ _ h3 fun j hj x => H.ty (x ▸ hj)) ?_ (h2 H.hc) ?_, h3⟩
  · cases okE off size
    · exact H.rr
    · exact wrE_b H.rr z0 z1
  · cases okE off size
    · exact H.hi
    · exact inv_wr H.rr H.hi off size z
theorem zx_R (off size : Int) (o0 : 0 ≤ off) (o1 : off < 18446744073709551616) :
    Calls Tryz.prog 20 #[.pointer (some ⟨e, 0, none⟩), .int .u64 off, .int .i64 size] w fun x w' => x = .returned (.tuple #[.int .u64 (bif okE off size then rdE v.r off size else 0), .bool (okE off size)]) ∧ PX K w' e y v r c S T cm s s' ∧ Txe w e S w' S := by
  refine (x_Read w e v H.eg H.rb off size o0 o1).mono ?_
  rintro x w' ⟨rfl, h1, h2⟩
  exact ⟨rfl, H.turnE (.own S h2) h1 (H.cG.own H.us H.eg h2) rfl rfl rfl H.rb, .own S h2⟩
theorem zx_S (g i : Int) (k : Bool) (r' : Nat → Int) (f' : Us) (hs : stN K.G v.r s = ((g, i, k), r', f')) : Calls Tryz.prog 25 #[.pointer (some ⟨e, 0, none⟩)] w fun x w' => x = .returned (.tuple #[.agg #[.int .i64 g, .int .i64 i], .bool k]) ∧ ∃ S', PX K w' e y (v.wr r') r c S' T cm f' s' := by
  refine (x_Step H.cG w e v H.eg H.vm H.vg H.vd H.rb S s H.us).mono ?_
  have hb := stN_b (G := K.G) s H.rb
  rw [hs] at hb
  rw [hs]
  rintro x w' ⟨rfl, h1, F', h2, h3⟩
  exact ⟨rfl, F', H.turnE h3 h1 h2 rfl rfl rfl hb⟩
theorem zx_YS (g i : Int) (k : Bool) (r' : Nat → Int) (f' : Us) (hs : stN K.G r s' = ((g, i, k), r', f')) : Calls Tryz.prog 32 #[.pointer (some ⟨y, 0, none⟩)] w fun x w' => x = .returned (.tuple #[.agg #[.int .i64 g, .int .i64 i], .bool k]) ∧ ∃ c' T', PX K w' e y v r' c' S T' cm s f' ∧ Txe w y T w' T' := by
  refine (y_Step H.cG H.cR w y r c H.ye H.rr T s' H.ds H.hc H.hi).mono ?_
  have hb := stN_b (G := K.G) s' H.rr
  have hv := inv_st (G := K.G) H.rr H.hi s'
  rw [hs] at hb hv
  rw [hs]
  rintro x w' ⟨rfl, ⟨c', h1, h2⟩, F', h3, h4⟩
  exact ⟨rfl, c', F', H.turnY h4 h1 h3 hb h2 hv, h4⟩
theorem zx_E0 : Calls Tryz.prog 33 #[.pointer (some ⟨e, 0, none⟩)] w fun x w' => x = .returned (.tuple #[]) ∧ PX K w' e y (v.wr (fun _ => 0)) r c S T cm s s' := by
  refine (x_Reset w e v H.eg).mono ?_
  rintro x w' ⟨rfl, h1, h2⟩
  exact ⟨rfl, H.turnE (.own S h2) h1 (H.cG.own H.us H.eg h2) rfl rfl rfl (e0_b 0)⟩
theorem zx_Y0 : Calls Tryz.prog 34 #[.pointer (some ⟨y, 0, none⟩)] w fun x w' => x = .returned (.tuple #[]) ∧ PX K w' e y v (fun _ => 0) 0 S T cm s s' := by
  refine (y_Reset w y _ r c H.ye).mono ?_
  rintro x w' ⟨rfl, h1, h2⟩
  exact ⟨rfl, H.turnY (.own T h2) h1 (H.cR.only _ _ _ H.ds _ _ h2 fun j hj x => H.ty (x ▸ hj)) (e0_b 0) (fun z => absurd (show (0 : Int) = 1 from z) (by decide)) (fun z => absurd (show (0 : Int) = 1 from z) (by decide))⟩
end
end Go.Proofs.YtmdconecigenfaaGreat
namespace Go.Proofs.YtmdconecigenfaaGreat
open Go.RowKit
open C (Only hid Mem Still ret_int ret_bool put byt nu RMem hasB WB WB.cell Calls.wb wp_region_wb gst rdm c_Place)
set_option linter.unusedVariables false
set_option maxRecDepth 100000

set_option maxHeartbeats 2000000 in
theorem do_0 (w : World) (base : Nat) (F G : Nat → Prop) (u b q r : Nat) (v : UV) (n : Nat) (f : Nat → Int) (room : Nat) (L : List E.TV) (M : List MV) (h : PW w base F G u b q r v n f room L M) (X : OpV) (hX : OpB X) (hk : X.kind % 11 = 0) :
    Calls Tryz.prog 35 #[.agg #[.pointer (some ⟨u, 0, none⟩), .pointer (some ⟨b, 0, none⟩), .pointer (some ⟨v.m, 0, none⟩), .pointer (some ⟨q, 0, none⟩)], .agg #[.int .i64 X.kind, .int .i64 X.dev, .int .i64 X.size, .int .u64 X.addr, .int .u64 X.data, .bool X.write, .int .i64 X.guest, .int .i64 X.irq]] w fun e w' => e = .returned (.bool true) ∧ PQ w w' base F G u b q r n room v.t v.m M.length := by
  obtain ⟨k0, k1⟩ := hX.kind
  obtain ⟨d0, d1⟩ := hX.dev
  obtain ⟨s0, s1⟩ := hX.size
  obtain ⟨a0, a1⟩ := hX.addr
  obtain ⟨i0, i1⟩ := hX.data
  have HK := hid hk
  have hlt := fun k => @US.lt _ _ _ _ _ _ _ _ h.us k
  have hlg := fun k => @DS.lt _ _ _ _ _ _ _ _ _ _ _ _ h.ds k
  have HP := hid h
  clear h hX hk
  go_enter Tryz.func35, Tryz.ntmps35
  go_wp2_with fail
  obtain ⟨wa, hwa⟩ : ∃ wa, (w.alloc (.cells #[.pointer (some ⟨u, 0, none⟩), .pointer (some ⟨b, 0, none⟩), .pointer (some ⟨v.m, 0, none⟩), .pointer (some ⟨q, 0, none⟩)] 31)).alloc (.cells #[.int .i64 X.kind, .int .i64 X.dev, .int .i64 X.size, .int .u64 X.addr, .int .u64 X.data, .bool X.write, .int .i64 X.guest, .int .i64 X.irq] 79) = wa := ⟨_, rfl⟩
  have HBa : Hid (Below w.heap.size w wa) := hwa ▸ ((Below.refl _ _).alloc (Nat.le_refl _) _).alloc (by simp) _
  have HB0 : Hid (BX wa w.heap.size (w.heap.size + 1) u b v.m q X) := by
    refine ⟨?_, ?_⟩
    · rw [← hwa]; exact (Below.heap_alloc _ _ _ (by simp)).trans (heap_alloc_new w _)
    · rw [← hwa]
      have := heap_alloc_new (w.alloc (.cells #[.pointer (some ⟨u, 0, none⟩), .pointer (some ⟨b, 0, none⟩), .pointer (some ⟨v.m, 0, none⟩), .pointer (some ⟨q, 0, none⟩)] 31)) (.cells #[.int .i64 X.kind, .int .i64 X.dev, .int .i64 X.size, .int .u64 X.addr, .int .u64 X.data, .bool X.write, .int .i64 X.guest, .int .i64 X.irq] 79)
      rwa [show (w.alloc (.cells #[.pointer (some ⟨u, 0, none⟩), .pointer (some ⟨b, 0, none⟩), .pointer (some ⟨v.m, 0, none⟩), .pointer (some ⟨q, 0, none⟩)] 31)).heap.size = w.heap.size + 1 by simp] at this
  rw [hwa]
  clear hwa
  have HPa := hid (HP.out.below HBa.out)
  have HW0 : Hid (Kp base w F G wa F G) := Kp.below HBa.out HP.out.sz
  have nF0 : ¬ F w.heap.size := fun z => by have := hlt _ z; omega
  have nF1 : ¬ F (w.heap.size + 1) := fun z => by have := hlt _ z; omega
  have nG0 : ¬ G w.heap.size := fun z => by have := hlg _ z; omega
  have nG1 : ¬ G (w.heap.size + 1) := fun z => by have := hlg _ z; omega
  have HN := hid (And.intro nF0 (And.intro nF1 (And.intro nG0 nG1)))
  clear nF0 nF1 nG0 nG1 hlt hlg
  generalize w.heap.size + 1 = xb at *
  generalize hob : w.heap.size = ob at *
  go_at_call 16
  refine (c_Place X.kind 11 (by decide) (by decide) k0 k1 _).mono ?_
  rw [HK.out]
  rintro e wz ⟨rfl, hwz⟩
  obtain rfl := hwz.symm
  have tcu := HB0.out.cu
  have tcb := HB0.out.cb
  have tc1 := HB0.out.c1
  have tc2 := HB0.out.c2
  have tc3 := HB0.out.c3
  have tc5 := HB0.out.c5
  cases hd : isDev X.dev
  · go_wp2_with (first
      | (go_at_call 22; refine (m_Access_no _ u X.dev X.addr X.size X.write hd).mono ?_; rintro e w1 ⟨rfl, hw1⟩; obtain rfl := hw1.symm)
      | (go_at_call 62; refine (k_Access_no _ b X.dev X.addr X.size X.write hd).mono ?_; rintro e w2 ⟨rfl, hw2⟩; obtain rfl := hw2.symm))
    go_ret
    exact ⟨rfl, F, G, v, f, L, M, HPa.out, HW0.out, by omega, rfl, rfl⟩
  · obtain ⟨kk, p, L', hac⟩ : ∃ kk p L', acF n f v room L X.dev X.addr X.size X.write = (kk, p, L') := ⟨_, _, _, rfl⟩
    have HAC := hid hac
    clear hac
    obtain ⟨r0, r1, r2⟩ := HP.out.us.r0
    go_wp2_with (first
      | (go_at_call 22; refine (s_Access _ F u v n f room L HPa.out.us X.dev X.addr X.size X.write hd a0 a1 s0 s1 kk p L' HAC.out).mono ?_; rintro e w1 ⟨rfl, F', hu1, t1⟩; have HB1 := hid (HB0.out.only t1.1 HN.out.1 HN.out.2.1); have HW1 := hid (HW0.out.trans (HPa.out.kp t1)); have H1 := hid (HPa.out.prog hu1 t1); clear hu1 t1; clear tcu tcb tc1 tc2 tc3 tc5; have tcu := HB1.out.cu; have tcb := HB1.out.cb; have tc1 := HB1.out.c1; have tc2 := HB1.out.c2; have tc3 := HB1.out.c3; have tc5 := HB1.out.c5)
      | (go_at_call 62; refine (d_Access _ G base b q r v n f room L M H1.out.ds X.dev X.addr X.size X.write hd a0 a1 s0 s1 r0 r2 HP.out.nd kk p L' HAC.out).mono ?_; rintro e w2 ⟨rfl, G', hd2, t2⟩; have H2 := hid (H1.out.doc hd2 t2 (acF_nd HP.out.nd _ _ _ _ HAC.out) (HP.out.ms.same (bkV_mg v kk).1 (bkV_mg v kk).2)); have HW2 := hid (HW1.out.trans (H1.out.kp t2)); clear hd2 t2))
    go_ret
    exact ⟨ret_bool (by simp), F', G', _, _, L', M, H2.out, HW2.out, by omega, (bkV_mt v kk).2, (bkV_mt v kk).1⟩
end Go.Proofs.YtmdconecigenfaaGreat
namespace Go.Proofs.YtmdconecigenfaaGreat
open Go.RowKit
open C (Only hid Mem Still ret_int ret_bool put byt nu RMem hasB WB WB.cell Calls.wb wp_region_wb gst rdm c_Place)
set_option linter.unusedVariables false
set_option maxRecDepth 100000

theorem under_msi7 : Tryz.prog.underlying 50 = some (.struct (Tryz.prog.fieldsOf 50)) := by kernel_rfl
theorem stood_msi7 : Tryz.prog.stoodInHeld 50 = false := by kernel_rfl
theorem run_eqM (x y : Int) (w : World) : (Op.equalIn 10000 50 (.agg #[.int .i64 x, .int .i64 y]) (.agg #[.int .i64 x, .int .i64 y])).run Tryz.prog w = .ok true w := by
  rw [run_equalIn_struct w 9999 50 _ _ under_msi7 stood_msi7]
  go_simp
set_option maxHeartbeats 2000000 in
theorem do_1g (w : World) (base : Nat) (F G : Nat → Prop) (u b q r : Nat) (v : UV) (n : Nat) (f : Nat → Int) (room : Nat) (L : List E.TV) (M : List MV) (h : PW w base F G u b q r v n f room L M) (X : OpV) (hX : OpB X) (hk : X.kind % 11 = 1) (A B : Int) (c : Bool) (v' : UV) (f' : Nat → Int) (ms : MR v' M) (et : v'.t = v.t) (em : v'.m = v.m) (hP : ∀ wa, US wa F u v n f room L → Calls Tryz.prog 63 #[.pointer (some ⟨u, 0, none⟩), .int .i64 X.dev, .int .u64 X.addr, .int .u64 X.data] wa fun e w1 => e = .returned (.tuple #[.agg #[.int .i64 A, .int .i64 B], .bool c]) ∧ ∃ F', US w1 F' u v' n f' room L ∧ Tn wa F w1 F') (hD : ∀ w1, DS w1 G base b q r v n f room L M → Calls Tryz.prog 64 #[.pointer (some ⟨b, 0, none⟩), .int .i64 X.dev, .int .u64 X.addr, .int .u64 X.data] w1 fun e w2 => e = .returned (.tuple #[.agg #[.int .i64 A, .int .i64 B], .bool c]) ∧ ∃ G', DS w2 G' base b q r v' n f' room L M ∧ Td base w1 G w2 G') :
    Calls Tryz.prog 35 #[.agg #[.pointer (some ⟨u, 0, none⟩), .pointer (some ⟨b, 0, none⟩), .pointer (some ⟨v.m, 0, none⟩), .pointer (some ⟨q, 0, none⟩)], .agg #[.int .i64 X.kind, .int .i64 X.dev, .int .i64 X.size, .int .u64 X.addr, .int .u64 X.data, .bool X.write, .int .i64 X.guest, .int .i64 X.irq]] w fun e w' => e = .returned (.bool true) ∧ PQ w w' base F G u b q r n room v.t v.m M.length := by
  obtain ⟨k0, k1⟩ := hX.kind
  obtain ⟨d0, d1⟩ := hX.dev
  obtain ⟨s0, s1⟩ := hX.size
  obtain ⟨a0, a1⟩ := hX.addr
  obtain ⟨i0, i1⟩ := hX.data
  have HK := hid hk
  have hlt := fun k => @US.lt _ _ _ _ _ _ _ _ h.us k
  have hlg := fun k => @DS.lt _ _ _ _ _ _ _ _ _ _ _ _ h.ds k
  have HP := hid h
  clear h hX hk
  go_enter Tryz.func35, Tryz.ntmps35
  go_wp2_with fail
  obtain ⟨wa, hwa⟩ : ∃ wa, (w.alloc (.cells #[.pointer (some ⟨u, 0, none⟩), .pointer (some ⟨b, 0, none⟩), .pointer (some ⟨v.m, 0, none⟩), .pointer (some ⟨q, 0, none⟩)] 31)).alloc (.cells #[.int .i64 X.kind, .int .i64 X.dev, .int .i64 X.size, .int .u64 X.addr, .int .u64 X.data, .bool X.write, .int .i64 X.guest, .int .i64 X.irq] 79) = wa := ⟨_, rfl⟩
  have HBa : Hid (Below w.heap.size w wa) := hwa ▸ ((Below.refl _ _).alloc (Nat.le_refl _) _).alloc (by simp) _
  have HB0 : Hid (BX wa w.heap.size (w.heap.size + 1) u b v.m q X) := by
    refine ⟨?_, ?_⟩
    · rw [← hwa]; exact (Below.heap_alloc _ _ _ (by simp)).trans (heap_alloc_new w _)
    · rw [← hwa]
      have := heap_alloc_new (w.alloc (.cells #[.pointer (some ⟨u, 0, none⟩), .pointer (some ⟨b, 0, none⟩), .pointer (some ⟨v.m, 0, none⟩), .pointer (some ⟨q, 0, none⟩)] 31)) (.cells #[.int .i64 X.kind, .int .i64 X.dev, .int .i64 X.size, .int .u64 X.addr, .int .u64 X.data, .bool X.write, .int .i64 X.guest, .int .i64 X.irq] 79)
      rwa [show (w.alloc (.cells #[.pointer (some ⟨u, 0, none⟩), .pointer (some ⟨b, 0, none⟩), .pointer (some ⟨v.m, 0, none⟩), .pointer (some ⟨q, 0, none⟩)] 31)).heap.size = w.heap.size + 1 by simp] at this
  rw [hwa]
  clear hwa
  have HPa := hid (HP.out.below HBa.out)
  have HW0 : Hid (Kp base w F G wa F G) := Kp.below HBa.out HP.out.sz
  have nF0 : ¬ F w.heap.size := fun z => by have := hlt _ z; omega
  have nF1 : ¬ F (w.heap.size + 1) := fun z => by have := hlt _ z; omega
  have nG0 : ¬ G w.heap.size := fun z => by have := hlg _ z; omega
  have nG1 : ¬ G (w.heap.size + 1) := fun z => by have := hlg _ z; omega
  have HN := hid (And.intro nF0 (And.intro nF1 (And.intro nG0 nG1)))
  clear nF0 nF1 nG0 nG1 hlt hlg
  generalize w.heap.size + 1 = xb at *
  generalize hob : w.heap.size = ob at *
  go_at_call 16
  refine (c_Place X.kind 11 (by decide) (by decide) k0 k1 _).mono ?_
  rw [HK.out]
  rintro e wz ⟨rfl, hwz⟩
  obtain rfl := hwz.symm
  have tcu := HB0.out.cu
  have tcb := HB0.out.cb
  have tc1 := HB0.out.c1
  have tc3 := HB0.out.c3
  have tc4 := HB0.out.c4
  have HPc := hid hP
  have HDc := hid hD
  have heq := run_eqM
  clear hP hD
  go_wp2_with (go_at_call 63; refine (HPc.out _ HPa.out.us).mono ?_; rintro e w1 ⟨rfl, F', hu1, t1⟩; have HB1 := hid (HB0.out.only t1.1 HN.out.1 HN.out.2.1); have HW1 := hid (HW0.out.trans (HPa.out.kp t1)); have H1 := hid (HPa.out.prog hu1 t1); clear hu1 t1; clear tcu tcb tc1 tc3 tc4; have tcu := HB1.out.cu; have tcb := HB1.out.cb; have tc1 := HB1.out.c1; have tc3 := HB1.out.c3; have tc4 := HB1.out.c4; have lo := lt_of_block HB1.out.on; have lx := lt_of_block HB1.out.op)
  obtain ⟨wc, hwc⟩ : ∃ wc, w1.alloc (.cells #[.int .i64 A, .int .i64 B] 50) = wc := ⟨_, rfl⟩
  have HBc : Hid (Below w1.heap.size w1 wc) := hwc ▸ (Below.refl _ _).alloc (Nat.le_refl _) _
  have HMb : Hid (wc.heap[w1.heap.size]? = some (.cells #[.int .i64 A, .int .i64 B] 50 (0, 0))) := hwc ▸ heap_alloc_new w1 _
  have H1c := hid (H1.out.below HBc.out)
  have nGr : ¬ G w1.heap.size := fun z => by have := H1.out.ds.lt z; omega
  rw [hwc]
  clear hwc
  go_at_call 64
  refine (HDc.out _ H1c.out.ds).mono ?_
  rintro e w2 ⟨rfl, G', hd2, t2⟩
  have H2 := hid (H1c.out.doc hd2 t2 HP.out.nd ms)
  have HW2 := hid ((HW1.out.trans (Kp.below HBc.out H1.out.sz)).trans (H1c.out.kp t2))
  have hb2 := t2.1.old HMb.out nGr
  have HL2 := hid (lt_of_block hb2)
  have hl2 := lt_of_block hb2
  have y0 : w2.cell? ⟨w1.heap.size, 0, none⟩ = some (.int .i64 A) := by rw [cell_of_row w2 _ 0 _ _ _ hb2]; rfl
  have y1 : w2.cell? ⟨w1.heap.size, 1, none⟩ = some (.int .i64 B) := by rw [cell_of_row w2 _ 1 _ _ _ hb2]; rfl
  clear hd2 t2 hb2 tcu tcb tc1 tc3 tc4
  go_wp2_with fail
  go_ret
  exact ⟨ret_bool (by simp), F', G', v', f', L, M, H2.out.below ((Below.refl _ _).alloc (Nat.le_refl _) _), HW2.out.trans (Kp.below ((Below.refl _ _).alloc (Nat.le_refl _) _) H2.out.sz), by omega, et, em⟩
end Go.Proofs.YtmdconecigenfaaGreat
namespace Go.Proofs.YtmdconecigenfaaGreat
open Go.RowKit
open C (Only hid Mem Still ret_int ret_bool put byt nu RMem hasB WB WB.cell Calls.wb wp_region_wb gst rdm c_Place)
set_option linter.unusedVariables false
set_option maxRecDepth 100000

theorem under_rec7 : Tryz.prog.underlying 86 = some (.struct (Tryz.prog.fieldsOf 86)) := by kernel_rfl
theorem stood_rec7 : Tryz.prog.stoodInHeld 86 = false := by kernel_rfl
theorem run_eqRec (x y z : Int) (w : World) : (Op.equalIn 10000 86 (.agg #[.int .i64 x, .int .i64 y, .int .u64 z]) (.agg #[.int .i64 x, .int .i64 y, .int .u64 z])).run Tryz.prog w = .ok true w := by
  rw [run_equalIn_struct w 9999 86 _ _ under_rec7 stood_rec7]
  go_simp
set_option maxHeartbeats 2000000 in
theorem do_5g (w : World) (base : Nat) (F G : Nat → Prop) (u b q r : Nat) (v : UV) (n : Nat) (f : Nat → Int) (room : Nat) (L : List E.TV) (M : List MV) (h : PW w base F G u b q r v n f room L M) (X : OpV) (hX : OpB X) (hk : X.kind % 11 = 5) (A B C : Int) (c : Bool) (v' : UV) (f' : Nat → Int) (ms : MR v' M) (et : v'.t = v.t) (em : v'.m = v.m) (hP : ∀ wa, US wa F u v n f room L → Calls Tryz.prog 23 #[.pointer (some ⟨u, 0, none⟩)] wa fun e w1 => e = .returned (.tuple #[.agg #[.int .i64 A, .int .i64 B, .int .u64 C], .bool c]) ∧ ∃ F', US w1 F' u v' n f' room L ∧ Tn wa F w1 F') (hD : ∀ w1, DS w1 G base b q r v n f room L M → Calls Tryz.prog 72 #[.pointer (some ⟨b, 0, none⟩)] w1 fun e w2 => e = .returned (.tuple #[.agg #[.int .i64 A, .int .i64 B, .int .u64 C], .bool c]) ∧ ∃ G', DS w2 G' base b q r v' n f' room L M ∧ Td base w1 G w2 G') :
    Calls Tryz.prog 35 #[.agg #[.pointer (some ⟨u, 0, none⟩), .pointer (some ⟨b, 0, none⟩), .pointer (some ⟨v.m, 0, none⟩), .pointer (some ⟨q, 0, none⟩)], .agg #[.int .i64 X.kind, .int .i64 X.dev, .int .i64 X.size, .int .u64 X.addr, .int .u64 X.data, .bool X.write, .int .i64 X.guest, .int .i64 X.irq]] w fun e w' => e = .returned (.bool true) ∧ PQ w w' base F G u b q r n room v.t v.m M.length := by
  obtain ⟨k0, k1⟩ := hX.kind
  obtain ⟨d0, d1⟩ := hX.dev
  obtain ⟨s0, s1⟩ := hX.size
  obtain ⟨a0, a1⟩ := hX.addr
  obtain ⟨i0, i1⟩ := hX.data
  have HK := hid hk
  have hlt := fun k => @US.lt _ _ _ _ _ _ _ _ h.us k
  have hlg := fun k => @DS.lt _ _ _ _ _ _ _ _ _ _ _ _ h.ds k
  have HP := hid h
  clear h hX hk
  go_enter Tryz.func35, Tryz.ntmps35
  go_wp2_with fail
  obtain ⟨wa, hwa⟩ : ∃ wa, (w.alloc (.cells #[.pointer (some ⟨u, 0, none⟩), .pointer (some ⟨b, 0, none⟩), .pointer (some ⟨v.m, 0, none⟩), .pointer (some ⟨q, 0, none⟩)] 31)).alloc (.cells #[.int .i64 X.kind, .int .i64 X.dev, .int .i64 X.size, .int .u64 X.addr, .int .u64 X.data, .bool X.write, .int .i64 X.guest, .int .i64 X.irq] 79) = wa := ⟨_, rfl⟩
  have HBa : Hid (Below w.heap.size w wa) := hwa ▸ ((Below.refl _ _).alloc (Nat.le_refl _) _).alloc (by simp) _
  have HB0 : Hid (BX wa w.heap.size (w.heap.size + 1) u b v.m q X) := by
    refine ⟨?_, ?_⟩
    · rw [← hwa]; exact (Below.heap_alloc _ _ _ (by simp)).trans (heap_alloc_new w _)
    · rw [← hwa]
      have := heap_alloc_new (w.alloc (.cells #[.pointer (some ⟨u, 0, none⟩), .pointer (some ⟨b, 0, none⟩), .pointer (some ⟨v.m, 0, none⟩), .pointer (some ⟨q, 0, none⟩)] 31)) (.cells #[.int .i64 X.kind, .int .i64 X.dev, .int .i64 X.size, .int .u64 X.addr, .int .u64 X.data, .bool X.write, .int .i64 X.guest, .int .i64 X.irq] 79)
      rwa [show (w.alloc (.cells #[.pointer (some ⟨u, 0, none⟩), .pointer (some ⟨b, 0, none⟩), .pointer (some ⟨v.m, 0, none⟩), .pointer (some ⟨q, 0, none⟩)] 31)).heap.size = w.heap.size + 1 by simp] at this
  rw [hwa]
  clear hwa
  have HPa := hid (HP.out.below HBa.out)
  have HW0 : Hid (Kp base w F G wa F G) := Kp.below HBa.out HP.out.sz
  have nF0 : ¬ F w.heap.size := fun z => by have := hlt _ z; omega
  have nF1 : ¬ F (w.heap.size + 1) := fun z => by have := hlt _ z; omega
  have nG0 : ¬ G w.heap.size := fun z => by have := hlg _ z; omega
  have nG1 : ¬ G (w.heap.size + 1) := fun z => by have := hlg _ z; omega
  have HN := hid (And.intro nF0 (And.intro nF1 (And.intro nG0 nG1)))
  clear nF0 nF1 nG0 nG1 hlt hlg
  generalize w.heap.size + 1 = xb at *
  generalize hob : w.heap.size = ob at *
  go_at_call 16
  refine (c_Place X.kind 11 (by decide) (by decide) k0 k1 _).mono ?_
  rw [HK.out]
  rintro e wz ⟨rfl, hwz⟩
  obtain rfl := hwz.symm
  have tcu := HB0.out.cu
  have tcb := HB0.out.cb
  have HPc := hid hP
  have HDc := hid hD
  have heq := run_eqRec
  clear hP hD
  go_wp2_with (go_at_call 23; refine (HPc.out _ HPa.out.us).mono ?_; rintro e w1 ⟨rfl, F', hu1, t1⟩; have HB1 := hid (HB0.out.only t1.1 HN.out.1 HN.out.2.1); have HW1 := hid (HW0.out.trans (HPa.out.kp t1)); have H1 := hid (HPa.out.prog hu1 t1); clear hu1 t1; clear tcu tcb; have tcu := HB1.out.cu; have tcb := HB1.out.cb; have lo := lt_of_block HB1.out.on; have lx := lt_of_block HB1.out.op)
  obtain ⟨wc, hwc⟩ : ∃ wc, w1.alloc (.cells #[.int .i64 A, .int .i64 B, .int .u64 C] 86) = wc := ⟨_, rfl⟩
  have HBc : Hid (Below w1.heap.size w1 wc) := hwc ▸ (Below.refl _ _).alloc (Nat.le_refl _) _
  have HMb : Hid (wc.heap[w1.heap.size]? = some (.cells #[.int .i64 A, .int .i64 B, .int .u64 C] 86 (0, 0))) := hwc ▸ heap_alloc_new w1 _
  have H1c := hid (H1.out.below HBc.out)
  have nGr : ¬ G w1.heap.size := fun z => by have := H1.out.ds.lt z; omega
  rw [hwc]
  clear hwc
  go_at_call 72
  refine (HDc.out _ H1c.out.ds).mono ?_
  rintro e w2 ⟨rfl, G', hd2, t2⟩
  have H2 := hid (H1c.out.doc hd2 t2 HP.out.nd ms)
  have HW2 := hid ((HW1.out.trans (Kp.below HBc.out H1.out.sz)).trans (H1c.out.kp t2))
  have hb2 := t2.1.old HMb.out nGr
  have HL2 := hid (lt_of_block hb2)
  have hl2 := lt_of_block hb2
  have y0 : w2.cell? ⟨w1.heap.size, 0, none⟩ = some (.int .i64 A) := by rw [cell_of_row w2 _ 0 _ _ _ hb2]; rfl
  have y1 : w2.cell? ⟨w1.heap.size, 1, none⟩ = some (.int .i64 B) := by rw [cell_of_row w2 _ 1 _ _ _ hb2]; rfl
  have y2 : w2.cell? ⟨w1.heap.size, 2, none⟩ = some (.int .u64 C) := by rw [cell_of_row w2 _ 2 _ _ _ hb2]; rfl
  clear hd2 t2 hb2 tcu tcb
  go_wp2_with fail
  go_ret
  exact ⟨ret_bool (by simp), F', G', v', f', L, M, H2.out.below ((Below.refl _ _).alloc (Nat.le_refl _) _), HW2.out.trans (Kp.below ((Below.refl _ _).alloc (Nat.le_refl _) _) H2.out.sz), by omega, et, em⟩
end Go.Proofs.YtmdconecigenfaaGreat
namespace Go.Proofs.YtmdconecigenfaaGreat
open Go.RowKit
open C (Only hid Mem Still ret_int ret_bool put byt nu RMem hasB WB WB.cell Calls.wb wp_region_wb gst rdm c_Place)
set_option linter.unusedVariables false
set_option maxRecDepth 100000

set_option maxHeartbeats 2000000 in
theorem do_6 (w : World) (base : Nat) (F G : Nat → Prop) (u b q r : Nat) (v : UV) (n : Nat) (f : Nat → Int) (room : Nat) (L : List E.TV) (M : List MV) (h : PW w base F G u b q r v n f room L M) (X : OpV) (hX : OpB X) (hk : X.kind % 11 = 6) :
    Calls Tryz.prog 35 #[.agg #[.pointer (some ⟨u, 0, none⟩), .pointer (some ⟨b, 0, none⟩), .pointer (some ⟨v.m, 0, none⟩), .pointer (some ⟨q, 0, none⟩)], .agg #[.int .i64 X.kind, .int .i64 X.dev, .int .i64 X.size, .int .u64 X.addr, .int .u64 X.data, .bool X.write, .int .i64 X.guest, .int .i64 X.irq]] w fun e w' => e = .returned (.bool true) ∧ PQ w w' base F G u b q r n room v.t v.m M.length := by
  obtain ⟨k0, k1⟩ := hX.kind
  obtain ⟨d0, d1⟩ := hX.dev
  obtain ⟨s0, s1⟩ := hX.size
  obtain ⟨a0, a1⟩ := hX.addr
  obtain ⟨i0, i1⟩ := hX.data
  have HK := hid hk
  have hlt := fun k => @US.lt _ _ _ _ _ _ _ _ h.us k
  have hlg := fun k => @DS.lt _ _ _ _ _ _ _ _ _ _ _ _ h.ds k
  have HP := hid h
  clear h hX hk
  go_enter Tryz.func35, Tryz.ntmps35
  go_wp2_with fail
  obtain ⟨wa, hwa⟩ : ∃ wa, (w.alloc (.cells #[.pointer (some ⟨u, 0, none⟩), .pointer (some ⟨b, 0, none⟩), .pointer (some ⟨v.m, 0, none⟩), .pointer (some ⟨q, 0, none⟩)] 31)).alloc (.cells #[.int .i64 X.kind, .int .i64 X.dev, .int .i64 X.size, .int .u64 X.addr, .int .u64 X.data, .bool X.write, .int .i64 X.guest, .int .i64 X.irq] 79) = wa := ⟨_, rfl⟩
  have HBa : Hid (Below w.heap.size w wa) := hwa ▸ ((Below.refl _ _).alloc (Nat.le_refl _) _).alloc (by simp) _
  have HB0 : Hid (BX wa w.heap.size (w.heap.size + 1) u b v.m q X) := by
    refine ⟨?_, ?_⟩
    · rw [← hwa]; exact (Below.heap_alloc _ _ _ (by simp)).trans (heap_alloc_new w _)
    · rw [← hwa]
      have := heap_alloc_new (w.alloc (.cells #[.pointer (some ⟨u, 0, none⟩), .pointer (some ⟨b, 0, none⟩), .pointer (some ⟨v.m, 0, none⟩), .pointer (some ⟨q, 0, none⟩)] 31)) (.cells #[.int .i64 X.kind, .int .i64 X.dev, .int .i64 X.size, .int .u64 X.addr, .int .u64 X.data, .bool X.write, .int .i64 X.guest, .int .i64 X.irq] 79)
      rwa [show (w.alloc (.cells #[.pointer (some ⟨u, 0, none⟩), .pointer (some ⟨b, 0, none⟩), .pointer (some ⟨v.m, 0, none⟩), .pointer (some ⟨q, 0, none⟩)] 31)).heap.size = w.heap.size + 1 by simp] at this
  rw [hwa]
  clear hwa
  have HPa := hid (HP.out.below HBa.out)
  have HW0 : Hid (Kp base w F G wa F G) := Kp.below HBa.out HP.out.sz
  have nF0 : ¬ F w.heap.size := fun z => by have := hlt _ z; omega
  have nF1 : ¬ F (w.heap.size + 1) := fun z => by have := hlt _ z; omega
  have nG0 : ¬ G w.heap.size := fun z => by have := hlg _ z; omega
  have nG1 : ¬ G (w.heap.size + 1) := fun z => by have := hlg _ z; omega
  have HN := hid (And.intro nF0 (And.intro nF1 (And.intro nG0 nG1)))
  clear nF0 nF1 nG0 nG1 hlt hlg
  generalize w.heap.size + 1 = xb at *
  generalize hob : w.heap.size = ob at *
  go_at_call 16
  refine (c_Place X.kind 11 (by decide) (by decide) k0 k1 _).mono ?_
  rw [HK.out]
  rintro e wz ⟨rfl, hwz⟩
  obtain rfl := hwz.symm
  have tcu := HB0.out.cu
  have tcb := HB0.out.cb
  go_wp2_with (go_at_call 73; refine (s_Clear _ F u v n f room L HPa.out.us).mono ?_; rintro e w1 ⟨rfl, hu1, t1⟩; have HB1 := hid (HB0.out.only t1.1 HN.out.1 HN.out.2.1); have HW1 := hid (HW0.out.trans (HPa.out.kp t1)); have H1 := hid (HPa.out.prog hu1 t1); clear hu1 t1; clear tcu tcb; have tcu := HB1.out.cu; have tcb := HB1.out.cb; obtain ⟨S, mv, vv, j1, -, -, -, -, -⟩ := H1.out.ds; have b15 := j1.c15; have b1 := j1.c1; have bz := j1.z 15; have hbl := j1.lt; have HR := hid j1; clear j1)
  go_ret
  have ok := HP.out.us.ok
  have hz := H1.out.ds.upd (v' := v.setLost false) (w' := w1.setCell ⟨b, 15, none⟩ (.bool false)) (fun mv' hh => hh.set 15 _ rfl) (only1 w1 b 15 _) ⟨ok.root, ok.first, ok.count, ok.ring, ok.none⟩
  exact ⟨rfl, F, G, v.setLost false, f, L, M, H1.out.doc hz.1 hz.2 HP.out.nd (HP.out.ms.same rfl rfl), HW1.out.trans (H1.out.kp hz.2), by omega, rfl, rfl⟩
end Go.Proofs.YtmdconecigenfaaGreat
namespace Go.Proofs.YtmdconecigenfaaGreat
open Go.RowKit
open C (Only hid Mem Still ret_int ret_bool put byt nu RMem hasB WB WB.cell Calls.wb wp_region_wb gst rdm c_Place)
set_option linter.unusedVariables false
set_option maxRecDepth 100000

set_option maxHeartbeats 2000000 in
theorem do_7 (w : World) (base : Nat) (F G : Nat → Prop) (u b q r : Nat) (v : UV) (n : Nat) (f : Nat → Int) (room : Nat) (L : List E.TV) (M : List MV) (h : PW w base F G u b q r v n f room L M) (X : OpV) (hX : OpB X) (hk : X.kind % 11 = 7) :
    Calls Tryz.prog 35 #[.agg #[.pointer (some ⟨u, 0, none⟩), .pointer (some ⟨b, 0, none⟩), .pointer (some ⟨v.m, 0, none⟩), .pointer (some ⟨q, 0, none⟩)], .agg #[.int .i64 X.kind, .int .i64 X.dev, .int .i64 X.size, .int .u64 X.addr, .int .u64 X.data, .bool X.write, .int .i64 X.guest, .int .i64 X.irq]] w fun e w' => e = .returned (.bool true) ∧ PQ w w' base F G u b q r n room v.t v.m M.length := by
  obtain ⟨k0, k1⟩ := hX.kind
  obtain ⟨d0, d1⟩ := hX.dev
  obtain ⟨s0, s1⟩ := hX.size
  obtain ⟨a0, a1⟩ := hX.addr
  obtain ⟨i0, i1⟩ := hX.data
  have HK := hid hk
  have hlt := fun k => @US.lt _ _ _ _ _ _ _ _ h.us k
  have hlg := fun k => @DS.lt _ _ _ _ _ _ _ _ _ _ _ _ h.ds k
  have HP := hid h
  clear h hX hk
  go_enter Tryz.func35, Tryz.ntmps35
  go_wp2_with fail
  obtain ⟨wa, hwa⟩ : ∃ wa, (w.alloc (.cells #[.pointer (some ⟨u, 0, none⟩), .pointer (some ⟨b, 0, none⟩), .pointer (some ⟨v.m, 0, none⟩), .pointer (some ⟨q, 0, none⟩)] 31)).alloc (.cells #[.int .i64 X.kind, .int .i64 X.dev, .int .i64 X.size, .int .u64 X.addr, .int .u64 X.data, .bool X.write, .int .i64 X.guest, .int .i64 X.irq] 79) = wa := ⟨_, rfl⟩
  have HBa : Hid (Below w.heap.size w wa) := hwa ▸ ((Below.refl _ _).alloc (Nat.le_refl _) _).alloc (by simp) _
  have HB0 : Hid (BX wa w.heap.size (w.heap.size + 1) u b v.m q X) := by
    refine ⟨?_, ?_⟩
    · rw [← hwa]; exact (Below.heap_alloc _ _ _ (by simp)).trans (heap_alloc_new w _)
    · rw [← hwa]
      have := heap_alloc_new (w.alloc (.cells #[.pointer (some ⟨u, 0, none⟩), .pointer (some ⟨b, 0, none⟩), .pointer (some ⟨v.m, 0, none⟩), .pointer (some ⟨q, 0, none⟩)] 31)) (.cells #[.int .i64 X.kind, .int .i64 X.dev, .int .i64 X.size, .int .u64 X.addr, .int .u64 X.data, .bool X.write, .int .i64 X.guest, .int .i64 X.irq] 79)
      rwa [show (w.alloc (.cells #[.pointer (some ⟨u, 0, none⟩), .pointer (some ⟨b, 0, none⟩), .pointer (some ⟨v.m, 0, none⟩), .pointer (some ⟨q, 0, none⟩)] 31)).heap.size = w.heap.size + 1 by simp] at this
  rw [hwa]
  clear hwa
  have HPa := hid (HP.out.below HBa.out)
  have HW0 : Hid (Kp base w F G wa F G) := Kp.below HBa.out HP.out.sz
  have nF0 : ¬ F w.heap.size := fun z => by have := hlt _ z; omega
  have nF1 : ¬ F (w.heap.size + 1) := fun z => by have := hlt _ z; omega
  have nG0 : ¬ G w.heap.size := fun z => by have := hlg _ z; omega
  have nG1 : ¬ G (w.heap.size + 1) := fun z => by have := hlg _ z; omega
  have HN := hid (And.intro nF0 (And.intro nF1 (And.intro nG0 nG1)))
  clear nF0 nF1 nG0 nG1 hlt hlg
  generalize w.heap.size + 1 = xb at *
  generalize hob : w.heap.size = ob at *
  go_at_call 16
  refine (c_Place X.kind 11 (by decide) (by decide) k0 k1 _).mono ?_
  rw [HK.out]
  rintro e wz ⟨rfl, hwz⟩
  obtain rfl := hwz.symm
  have tcu := HB0.out.cu
  have tcb := HB0.out.cb
  have tc1 := HB0.out.c1
  go_wp2_with (go_at_call 74; refine (s_Invalidate _ F u v n f room L HPa.out.us X.dev).mono ?_; rintro e w1 ⟨rfl, hu1, t1⟩; have HB1 := hid (HB0.out.only t1.1 HN.out.1 HN.out.2.1); have HW1 := hid (HW0.out.trans (HPa.out.kp t1)); have H1 := hid (HPa.out.prog hu1 t1); clear hu1 t1; clear tcu tcb tc1; have tcu := HB1.out.cu; have tcb := HB1.out.cb; have tc1 := HB1.out.c1; obtain ⟨S, mv, vv, j1, -, -, -, -, -⟩ := H1.out.ds; have b15 := j1.c15; have b1 := j1.c1; have bz := j1.z 15; have hbl := j1.lt; have HR := hid j1; clear j1)
  refine wp_region_last_lit (by simp) (by kernel_rfl) (by kernel_rfl) (by kernel_rfl) ?_
  simp only [List.dropLast, List.getLast]
  repeat (go_big_quiet_step (fail))
  refine wpQuiet_nil ?_
  intro _ hwq
  obtain ⟨nq, hwq⟩ := hwq
  subst hwq
  obtain ⟨wb, hwb⟩ : ∃ wb, w1.drewN nq = wb := ⟨_, rfl⟩
  have HBb : Hid (Below w1.heap.size w1 wb) := hwb ▸ below_dn (Below.refl _ _) nq
  have H1b := hid (H1.out.below HBb.out)
  rw [hwb]
  clear hwb
  go_wp2_with (go_at_call 75; refine (d_Flush _ G base b q r v n f room L M H1b.out.ds X.dev).mono ?_; rintro e w2 ⟨rfl, G', hd2, t2⟩; have H2 := hid (H1b.out.doc hd2 t2 (E.Nd.fl HP.out.nd _) HP.out.ms); have HW2 := hid ((HW1.out.trans (Kp.below HBb.out H1.out.sz)).trans (H1b.out.kp t2)); clear hd2 t2)
  go_ret
  exact ⟨rfl, F, G', v, f, _, M, H2.out, HW2.out, by omega, rfl, rfl⟩
end Go.Proofs.YtmdconecigenfaaGreat
