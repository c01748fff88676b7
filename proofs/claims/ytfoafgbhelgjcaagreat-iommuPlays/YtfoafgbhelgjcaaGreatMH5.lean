/- The document's IOMMU as a whole. -/
import Derived.Test.YtfoafgbhelgjcaaGreatKH
import Derived.Test.YtfoafgbhelgjcaaGreatKI
import Derived.Test.YtfoafgbhelgjcaaGreatKJ
import Derived.Test.YtfoafgbhelgjcaaGreatMH4
import Derived.Test.YtfoafgbhelgjcaaGreatMC3
import Derived.Test.YtfoafgbhelgjcaaGreatMC2
import Derived.Test.YtfoafgbhelgjcaaGreatMC4
import Derived.OpenShut
import Derived.SizedLaws
import Derived.Deep.Slices
namespace Go.Proofs.YtfoafgbhelgjcaaGreat
open Go.RowKit
open C (Only hid Mem Still ret_int ret_bool put byt nu RMem hasB WB WB.cell Calls.wb wp_region_wb gst rdm)
set_option linter.unusedVariables false
set_option maxRecDepth 100000

theorem k_Access (w : World) (b q r : Nat) (v : UV) (mv : Value) (hu : Ru w b q r v mv) (S : Nat → Prop) (n : Nat) (f : Nat → Int) (hm : RMem w S q 0 n f) (room : Nat) (vv : Value) (L : List E.TV) (hr : E.RM w r room vv L) (ok : VOk v n) (d a s : Int) (wt : Bool) (hd : isDev d = true) (a0 : 0 ≤ a) (a1 : a < 18446744073709551616) (s0 : -9223372036854775808 ≤ s) (s1 : s ≤ 9223372036854775807) (h0 : 0 < room) (hL : L.length ≤ room) (hnd : E.Nd L) (k p : Int) (L' : List E.TV) (hk : acF n f v room L d a s wt = (k, p, L')) :
    Calls Tryz.prog 18 #[.pointer (some ⟨b, 0, none⟩), .int .i64 d, .int .u64 a, .int .i64 s, .bool wt] w fun e w' => e = .returned (.tuple #[.int .u64 p, .bool (decide (k = 0))]) ∧ DQ w w' b q r (bkV v k) mv S n (bkF v f d k a) room vv L' := by
  unfold acF at hk
  cases e1 : whole a s
  · rw [if_pos e1] at hk
    cases hk
    exact k_Access_size w b q r v mv hu S n f hm room vv L hr ok d a s wt hd a0 a1 s0 s1 e1
  · rw [if_neg (by rw [e1]; decide)] at hk
    by_cases e2 : v.root d.toNat = 0
    · rw [if_pos e2] at hk
      cases hk
      exact k_Access_none w b q r v mv hu S n f hm room vv L hr ok d a s wt hd a0 a1 s0 s1 e1 e2
    · rw [if_neg e2] at hk
      have e2' : (v.root d.toNat == 0) = false := by simpa using e2
      obtain ⟨e, okk, hl⟩ : ∃ e okk, E.lk L d (a / 4096) = (e, okk) := ⟨_, _, rfl⟩
      by_cases hh : okk = true ∧ (bits .and .i64 e.r (art wt) == 0) = false
      · obtain ⟨rfl, hh⟩ := hh
        rw [fnd_hit hl hh] at hk
        cases e4 : hasB 0 n (plf e.f a) s
        · simp only [e4] at hk
          cases hk
          exact k_Access_hit w b q r v mv hu S n f hm room vv L hr ok d a s wt hd a0 a1 s0 s1 e1 e2' e hl hh false e4
        · simp only [e4] at hk
          cases hk
          exact k_Access_hit w b q r v mv hu S n f hm room vv L hr ok d a s wt hd a0 a1 s0 s1 e1 e2' e hl hh true e4
      · obtain ⟨x, y, z, hg⟩ : ∃ x y z, gst (rdm n f) (v.root d.toNat) a (akd wt) = (x, y, z) := ⟨_, _, _, rfl⟩
        obtain ⟨f1, f2⟩ := fnd_miss (room := room) hl hh hg
        by_cases ez : z = 0
        · subst ez
          rw [f1 rfl, plf_x hm.byt e2 a0 a1 (ok.root d.toNat).1 (ok.root d.toNat).2 hg] at hk
          cases e4 : hasB 0 n x s
          · simp only [e4] at hk
            cases hk
            exact k_Access_bus w b q r v mv hu S n f hm room vv L hr ok d a s wt hd a0 a1 s0 s1 e1 h0 hL hnd e2' e okk hl hh x y 0 hg rfl e4
          · simp only [e4] at hk
            cases hk
            exact k_Access_miss w b q r v mv hu S n f hm room vv L hr ok d a s wt hd a0 a1 s0 s1 e1 h0 hL hnd e2' e okk hl hh _ y 0 hg rfl e4
        · rw [f2 ez] at hk
          cases hk
          exact k_Access_page w b q r v mv hu S n f hm room vv L hr ok d a s wt hd a0 a1 s0 s1 e1 h0 hL hnd e2' e okk hl hh x y z hg (by simpa using ez)
/-- the document's IOMMU, its memory, its TLB, its list: its blocks are G -/
def DS (w : World) (G : Nat → Prop) (base b q r : Nat) (v : UV) (n : Nat) (f : Nat → Int) (room : Nat) (L : List E.TV) (M : List MV) : Prop :=
  ∃ S mv vv, Ru w b q r v mv ∧ RMem w S q 0 n f ∧ E.RM w r room vv L ∧ Ms w base mv M ∧ (∀ k, G k ↔ (k = b ∨ S k ∨ k = r ∨ vv.ownBlock = some k ∨ mv.ownBlock = some k)) ∧ VOk v n
/-- what one call of the document's may turn -/
def Td (base : Nat) (w : World) (G : Nat → Prop) (w' : World) (G' : Nat → Prop) : Prop := Only G w w' ∧ ∀ k, G' k → G k ∨ w.heap.size ≤ k ∨ (base ≤ k ∧ ∃ c, w'.heap[k]? = some (.cells c 125 (0, 0)))
section
variable {w w' : World} {G : Nat → Prop} {base b q r : Nat} {v v' : UV} {n : Nat} {f : Nat → Int} {room : Nat} {L : List E.TV} {M : List MV}
theorem DS.lt (h : DS w G base b q r v n f room L M) {k : Nat} (hk : G k) : k < w.heap.size := by
  obtain ⟨S, mv, vv, h1, h2, h3, h4, h5, -⟩ := h
  rcases (h5 k).1 hk with rfl | z | rfl | z | z
  · exact h1.lt
  · exact h2.lt z
  · exact h3.lt
  · exact (h3.es.lt z).2
  · exact (h4.lt z).2
theorem DS.only (h : DS w G base b q r v n f room L M) {T : Nat → Prop} (ho : Only T w w') (hd : ∀ k, G k → ¬ T k) : DS w' G base b q r v n f room L M := by
  obtain ⟨S, mv, vv, h1, h2, h3, h4, h5, h6⟩ := h
  exact ⟨S, mv, vv, h1.only ho (hd _ ((h5 _).2 (.inl rfl))), h2.only ho (fun k hk => hd k ((h5 k).2 (.inr (.inl hk)))), h3.only ho (hd _ ((h5 _).2 (.inr (.inr (.inl rfl))))) (fun k hk => hd k ((h5 k).2 (.inr (.inr (.inr (.inl hk)))))), h4.only ho (fun k hk => hd k ((h5 k).2 (.inr (.inr (.inr (.inr hk)))))), h5, h6⟩
theorem DS.below (h : DS w G base b q r v n f room L M) (hb : Below w.heap.size w w') : DS w' G base b q r v n f room L M := h.only (T := fun _ => False) (Only.ofBelow hb) fun _ _ q => q
theorem Td.ofBelow (h : Below w.heap.size w w') : Td base w G w' G := ⟨Only.ofBelow h, fun _ z => .inl z⟩
theorem Td.refl (w : World) : Td base w G w G := ⟨Only.refl w, fun _ z => .inl z⟩
/-- its own block alone turns -/
theorem DS.upd (h : DS w G base b q r v n f room L M) (hu : ∀ mv, Ru w b q r v mv → Ru w' b q r v' mv) (ho : Only (· = b) w w') (ok : VOk v' n) : DS w' G base b q r v' n f room L M ∧ Td base w G w' G := by
  obtain ⟨S, mv, vv, h1, h2, h3, h4, h5, -⟩ := h
  obtain ⟨t1, t2⟩ := rm_u h1 h3
  have hb : G b := (h5 b).2 (.inl rfl)
  refine ⟨⟨S, mv, vv, hu mv h1, h2.only ho (fun k hk z => ru_mem h2 h1 (z ▸ hk)), h3.only ho t1 t2, h4.only ho (fun k hk z => ?_), h5, ok⟩, ho.mono fun k _ z => by subst z; exact hb, fun _ z => .inl z⟩
  obtain ⟨cur, hc⟩ := h4.block hk
  subst z
  unfold Ru at h1
  rw [h1] at hc
  simp at hc
end
section
variable {w w' : World} {G : Nat → Prop} {base b q r : Nat} {v v' : UV} {n : Nat} {f f' : Nat → Int} {room : Nat} {L L' : List E.TV} {M : List MV} {S : Nat → Prop} {mv vv : Value}
/-- behind a call that keeps the list of messages' places -/
theorem DS.dq (h1 : Ru w b q r v mv) (h2 : RMem w S q 0 n f) (h3 : E.RM w r room vv L) (h4 : Ms w base mv M) (h5 : ∀ k, G k ↔ (k = b ∨ S k ∨ k = r ∨ vv.ownBlock = some k ∨ mv.ownBlock = some k)) (ok : VOk v' n) (hq : DQ w w' b q r v' mv S n f' room vv L') : ∃ G', DS w' G' base b q r v' n f' room L' M ∧ Td base w G w' G' := by
  obtain ⟨S', vv', i1, i2, i3, i4, i5, i6⟩ := hq
  refine ⟨fun k => k = b ∨ S' k ∨ k = r ∨ vv'.ownBlock = some k ∨ mv.ownBlock = some k, ⟨S', mv, vv', i1, i2, i3, h4.only i4 (fun k hk z => ?_), fun k => Iff.rfl, ok⟩, i4.mono fun k _ z => ?_, fun k hk => ?_⟩
  · obtain ⟨cur, hc⟩ := h4.block hk
    rcases z with rfl | z | rfl
    · unfold Ru at h1; rw [h1] at hc; simp at hc
    · exact rmem_typ h2 hc (by decide) (by decide) (by decide) z
    · rw [h3.top] at hc; simp at hc
  · rcases z with z | z | z
    · exact (h5 k).2 (.inl z)
    · exact (h5 k).2 (.inr (.inl z))
    · exact (h5 k).2 (.inr (.inr (.inl z)))
  · rcases hk with z | z | z | z | z
    · exact .inl ((h5 k).2 (.inl z))
    · exact (i5 k z).elim (fun y => .inl ((h5 k).2 (.inr (.inl y)))) fun y => .inr (.inl y)
    · exact .inl ((h5 k).2 (.inr (.inr (.inl z))))
    · exact (i6 k z).elim (fun y => .inl ((h5 k).2 (.inr (.inr (.inr (.inl y)))))) fun y => .inr (.inl y)
    · exact .inl ((h5 k).2 (.inr (.inr (.inr (.inr z)))))
/-- its memory and its own block turn -/
theorem DQ.mem (h1 : Ru w b q r v mv) (h2 : RMem w S q 0 n f) (h3 : E.RM w r room vv L) {S' : Nat → Prop} (i1 : Ru w' b q r v' mv) (i2 : RMem w' S' q 0 n f') (i3 : Only (fun k => k = b ∨ S k) w w') (i4 : ∀ k, S' k → S k ∨ w.heap.size ≤ k) : DQ w w' b q r v' mv S n f' room vv L := by
  obtain ⟨t1, t2⟩ := rm_u h1 h3
  obtain ⟨t3, t4⟩ := rm_s h2 h3
  exact ⟨S', vv, i1, i2, h3.only i3 (fun z => z.elim t1 t3) (fun k hk z => z.elim (t2 k hk) (t4 k hk)), i3.mono fun k _ z => z.elim .inl fun y => .inr (.inl y), i4, fun j z => .inl z⟩
/-- its TLB turns -/
theorem DQ.tlb (h1 : Ru w b q r v mv) (h2 : RMem w S q 0 n f) (h3 : E.RM w r room vv L) {vv' : Value} (i1 : E.RM w' r room vv' L') (i2 : Only (· = r) w w') (i3 : ∀ k, vv'.ownBlock = some k → w.heap.size ≤ k) : DQ w w' b q r v mv S n f room vv L' := by
  obtain ⟨t1, t2⟩ := rm_u h1 h3
  obtain ⟨t3, t4⟩ := rm_s h2 h3
  exact ⟨S, vv', h1.only i2 (fun z => t1 z.symm), h2.only i2 (fun k hk z => t3 (z ▸ hk)), i1, i2.mono fun k _ z => .inr (.inr z), fun j z => .inl z, fun j z => .inr (i3 j z)⟩
end
section
variable (w : World) (G : Nat → Prop) (base b q r : Nat) (v : UV) (n : Nat) (f : Nat → Int) (room : Nat) (L : List E.TV) (M : List MV) (h : DS w G base b q r v n f room L M)
include h
theorem d_Access (d a s : Int) (wt : Bool) (hd : isDev d = true) (a0 : 0 ≤ a) (a1 : a < 18446744073709551616) (s0 : -9223372036854775808 ≤ s) (s1 : s ≤ 9223372036854775807) (h0 : 0 < room) (hL : L.length ≤ room) (hnd : E.Nd L) (k p : Int) (L' : List E.TV) (hk : acF n f v room L d a s wt = (k, p, L')) :
    Calls Tryz.prog 18 #[.pointer (some ⟨b, 0, none⟩), .int .i64 d, .int .u64 a, .int .i64 s, .bool wt] w fun e w' => e = .returned (.tuple #[.int .u64 p, .bool (decide (k = 0))]) ∧ ∃ G', DS w' G' base b q r (bkV v k) n (bkF v f d k a) room L' M ∧ Td base w G w' G' := by
  have h' := h
  obtain ⟨S, mv, vv, h1, h2, h3, h4, h5, h6⟩ := h'
  refine (k_Access w b q r v mv h1 S n f h2 room vv L h3 h6 d a s wt hd a0 a1 s0 s1 h0 hL hnd k p L' hk).mono ?_
  rintro e w' ⟨rfl, hq⟩
  have ok : VOk (bkV v k) n := by unfold bkV; split; exact h6; exact rcV_ok h6
  exact ⟨rfl, DS.dq h1 h2 h3 h4 h5 ok hq⟩
theorem d_Message (d a i : Int) (hd : isDev d = true) (a0 : 0 ≤ a) (a1 : a < 18446744073709551616) (hlen : M.length ≤ 2199023255552) (g z : Int) (ht : mto M d i = (g, z)) (go : Bool) (hgo : (decide (a = 4276092928) && !(g == 0)) = go) :
    Calls Tryz.prog 19 #[.pointer (some ⟨b, 0, none⟩), .int .i64 d, .int .u64 a, .int .u64 i] w fun e w' => e = .returned (.tuple #[.agg #[.int .i64 (bif go then g else 0), .int .i64 (bif go then z else 0)], .bool go]) ∧ ∃ G', DS w' G' base b q r (bif go then v else rcV v) n (bif go then f else rcF v f d 5 a) room L M ∧ Td base w G w' G' := by
  obtain ⟨S, mv, vv, h1, h2, h3, h4, h5, h6⟩ := h
  refine (k_Message w b q r v mv h1 S n f h2 base M h4 hlen h6 d a i hd a0 a1 g z ht go hgo).mono ?_
  rintro e w' ⟨S', rfl, i1, i2, i3, i4⟩
  have ok : VOk (bif go then v else rcV v) n := by cases go; exact rcV_ok h6; exact h6
  exact ⟨rfl, DS.dq h1 h2 h3 h4 h5 ok (DQ.mem h1 h2 h3 i1 i2 i3 i4)⟩
theorem d_Set (d x : Int) (hd : isDev d = true) (hx : (x == 0) = false) (x0 : 0 ≤ x) (x1 : x < 18446744073709551616) : Calls Tryz.prog 21 #[.pointer (some ⟨b, 0, none⟩), .int .i64 d, .int .u64 x] w fun e w' => e = .returned (.int .i64 0) ∧ DS w' G base b q r (v.setRoot d.toNat x) n f room L M ∧ Td base w G w' G := by
  have h' := h
  obtain ⟨S, mv, vv, h1, h2, h3, h4, h5, ok⟩ := h'
  refine (k_Set w b q r v mv h1 d x hd hx).mono ?_
  rintro e w' ⟨rfl, i1, ho⟩
  refine ⟨rfl, h.upd (fun mv' hh => ?_) ho ⟨fun j => by show 0 ≤ upd v.root d.toNat x j ∧ upd v.root d.toNat x j < _; unfold Go.Proofs.YtfoafgbhelgjcaaGreat.upd; split; exact ⟨x0, x1⟩; exact ok.root j, ok.first, ok.count, ok.ring, ok.none⟩⟩
  obtain rfl : mv = mv' := by have e1 := h1.c10; rw [hh.c10] at e1; simpa using e1.symm
  exact i1
theorem d_Drop (d : Int) (hd : isDev d = true) : Calls Tryz.prog 25 #[.pointer (some ⟨b, 0, none⟩), .int .i64 d] w fun e w' => e = .returned (.int .i64 0) ∧ DS w' G base b q r (v.setRoot d.toNat 0) n f room L M ∧ Td base w G w' G := by
  have h' := h
  obtain ⟨S, mv, vv, h1, h2, h3, h4, h5, ok⟩ := h'
  refine (k_Drop w b q r v mv h1 d hd).mono ?_
  rintro e w' ⟨rfl, i1, ho⟩
  refine ⟨rfl, h.upd (fun mv' hh => ?_) ho ⟨fun j => by show 0 ≤ upd v.root d.toNat 0 j ∧ upd v.root d.toNat 0 j < _; unfold Go.Proofs.YtfoafgbhelgjcaaGreat.upd; split; exact ⟨by decide, by decide⟩; exact ok.root j, ok.first, ok.count, ok.ring, ok.none⟩⟩
  obtain rfl : mv = mv' := by have e1 := h1.c10; rw [hh.c10] at e1; simpa using e1.symm
  exact i1
theorem d_Root (d : Int) : Calls Tryz.prog 23 #[.pointer (some ⟨b, 0, none⟩), .int .i64 d] w fun e w' => e = .returned (.int .u64 (rootOf v d)) ∧ w' = w := by
  obtain ⟨S, mv, vv, h1, -, -, -, -, -⟩ := h
  exact k_Root w b q r v mv h1 d
theorem d_Next_no (hc : v.count = 0) : Calls Tryz.prog 28 #[.pointer (some ⟨b, 0, none⟩)] w fun e w' => e = .returned (.tuple #[.agg #[.int .i64 0, .int .i64 0, .int .u64 0], .bool false]) ∧ Below w.heap.size w w' := by
  obtain ⟨S, mv, vv, h1, -, -, -, -, -⟩ := h
  exact k_Next_no w b q r v mv h1 hc
theorem d_Next (hc : 0 < v.count) : Calls Tryz.prog 28 #[.pointer (some ⟨b, 0, none⟩)] w fun e w' => e = .returned (.tuple #[.agg #[.int .i64 (rdn f (v.at 0) 4), .int .i64 (rdn f (v.at 0 + 4) 4), .int .u64 (rdn f (v.at 0 + 8) 8)], .bool true]) ∧ DS w' G base b q r (nxV v) n f room L M ∧ Td base w G w' G := by
  have h' := h
  obtain ⟨S, mv, vv, h1, h2, h3, h4, h5, ok⟩ := h'
  have ht : v.there = true := by cases e : v.there; have := ok.none e; omega; rfl
  refine (k_Next w b q r v mv h1 S n f h2 ht hc (by have := ok.count; omega) ok.first (ok.ring ht)).mono ?_
  rintro e w' ⟨rfl, i1, ho⟩
  refine ⟨rfl, h.upd (fun mv' hh => ?_) ho ⟨ok.root, ?_, ?_, ok.ring, fun q => ?_⟩⟩
  · obtain rfl : mv = mv' := by have e1 := h1.c10; rw [hh.c10] at e1; simpa using e1.symm
    exact i1
  · show (v.first + 1) % 256 < 256; omega
  · show v.count - 1 ≤ 255; have := ok.count; omega
  · have q : v.there = false := q; rw [ht] at q; cases q
theorem d_Ring (a : Nat) (ha : a % 4096 = 0) (hl : a + 4096 ≤ 4096 * n) (hn : n ≤ 1024) (i : Int) (hi : i = a) : Calls Tryz.prog 37 #[.pointer (some ⟨b, 0, none⟩), .int .u64 i] w fun e w' => e = .returned (.int .i64 0) ∧ DS w' G base b q r (v.setRing a) n f room L M ∧ Td base w G w' G := by
  have h' := h
  obtain ⟨S, mv, vv, h1, h2, h3, h4, h5, ok⟩ := h'
  refine (k_Ring w b q r v mv h1 S n f h2 a ha hl hn i hi).mono ?_
  rintro e w' ⟨rfl, i1, ho⟩
  refine ⟨rfl, h.upd (fun mv' hh => ?_) ho ⟨ok.root, by show 0 < 256; decide, by show 0 ≤ 255; decide, fun _ => hl, fun q => rfl⟩⟩
  obtain rfl : mv = mv' := by have e1 := h1.c10; rw [hh.c10] at e1; simpa using e1.symm
  exact i1
theorem d_Flush (d : Int) : Calls Tryz.prog 31 #[.pointer (some ⟨r, 0, none⟩), .int .i64 d] w fun e w' => e = .returned (.tuple #[]) ∧ ∃ G', DS w' G' base b q r v n f room (E.fl L d) M ∧ Td base w G w' G' := by
  obtain ⟨S, mv, vv, h1, h2, h3, h4, h5, ok⟩ := h
  refine (E.r_Flush w r room vv L h3 d).mono ?_
  rintro e w' ⟨rfl, vv', i1, i2, i3⟩
  exact ⟨rfl, DS.dq h1 h2 h3 h4 h5 ok (DQ.tlb h1 h2 h3 i1 i2 i3)⟩
theorem d_FlushPage (d p : Int) : Calls Tryz.prog 33 #[.pointer (some ⟨r, 0, none⟩), .int .i64 d, .int .u64 p] w fun e w' => e = .returned (.tuple #[]) ∧ ∃ G', DS w' G' base b q r v n f room (E.fp L d p) M ∧ Td base w G w' G' := by
  obtain ⟨S, mv, vv, h1, h2, h3, h4, h5, ok⟩ := h
  refine (E.r_FlushPage w r room vv L h3 d p).mono ?_
  rintro e w' ⟨rfl, vv', i1, i2, i3⟩
  exact ⟨rfl, DS.dq h1 h2 h3 h4 h5 ok (DQ.tlb h1 h2 h3 i1 i2 i3)⟩
theorem d_Evict (k : Nat) (hk : k < L.length) (i : Int) (hi : i = k) : Calls Tryz.prog 35 #[.pointer (some ⟨r, 0, none⟩), .int .i64 i] w fun e w' => e = .returned (.bool true) ∧ ∃ G', DS w' G' base b q r v n f room (L.take k ++ L.drop (k + 1)) M ∧ Td base w G w' G' := by
  obtain ⟨S, mv, vv, h1, h2, h3, h4, h5, ok⟩ := h
  refine (E.r_Evict w r room vv L h3 k hk i hi).mono ?_
  rintro e w' ⟨rfl, vv', i1, i2, i3⟩
  exact ⟨rfl, DS.dq h1 h2 h3 h4 h5 ok (DQ.tlb h1 h2 h3 i1 i2 i3)⟩
theorem d_Evict_no (i : Int) (hi : i < 0 ∨ (L.length : Int) ≤ i) : Calls Tryz.prog 35 #[.pointer (some ⟨r, 0, none⟩), .int .i64 i] w fun e w' => e = .returned (.bool false) ∧ w' = w := by
  obtain ⟨S, mv, vv, h1, h2, h3, h4, h5, ok⟩ := h
  exact E.r_Evict_no w r room vv L h3 i hi
theorem d_Remap (d i g z : Int) (hd : isDev d = true) (i1 : i < 32) (hlen : M.length ≤ 2199023255552) (hbs : base ≤ w.heap.size) : Calls Tryz.prog 26 #[.pointer (some ⟨b, 0, none⟩), .int .i64 d, .int .u64 i, .agg #[.int .i64 g, .int .i64 z]] w fun e w' => e = .returned (.int .i64 0) ∧ ∃ G', DS w' G' base b q r v n f room L (M ++ [⟨d, i, g, z⟩]) ∧ Td base w G w' G' := by
  obtain ⟨S, mv, vv, h1, h2, h3, h4, h5, ok⟩ := h
  refine (k_Remap w b q r v mv h1 base M h4 hlen hbs d i g z hd i1).mono ?_
  rintro e w' ⟨rfl, mv', j1, j2, j3⟩
  obtain ⟨t1, t2⟩ := rm_u h1 h3
  have hx : ∀ k, mv.ownBlock = some k → k ≠ r ∧ ¬ S k ∧ ¬ vv.ownBlock = some k := fun k hk => by
    obtain ⟨cur, hc⟩ := h4.block hk
    refine ⟨fun z => ?_, rmem_typ h2 hc (by decide) (by decide) (by decide), fun z => ?_⟩
    · subst z; rw [h3.top] at hc; simp at hc
    · obtain ⟨cur', hc'⟩ := h3.es.block z
      rw [hc'] at hc; simp at hc
  refine ⟨rfl, fun k => k = b ∨ S k ∨ k = r ∨ vv.ownBlock = some k ∨ mv'.ownBlock = some k, ⟨S, mv', vv, j1, h2.only j3 (fun k hk z => z.elim (fun y => ru_mem h2 h1 (y ▸ hk)) fun y => (hx k y).2.1 hk), h3.only j3 (fun z => z.elim t1 fun y => (hx _ y).1 rfl) (fun k hk z => z.elim (t2 k hk) fun y => (hx k y).2.2 hk), j2, fun k => Iff.rfl, ok⟩, j3.mono fun k _ z => ?_, fun k hk => ?_⟩
  · exact (h5 k).2 (z.elim .inl fun y => .inr (.inr (.inr (.inr y))))
  · rcases hk with z | z | z | z | z
    · exact .inl ((h5 k).2 (.inl z))
    · exact .inl ((h5 k).2 (.inr (.inl z)))
    · exact .inl ((h5 k).2 (.inr (.inr (.inl z))))
    · exact .inl ((h5 k).2 (.inr (.inr (.inr (.inl z)))))
    · exact .inr (.inr ⟨(j2.lt z).1, j2.block z⟩)
end
end Go.Proofs.YtfoafgbhelgjcaaGreat
namespace Go.Proofs.YtfoafgbhelgjcaaGreat
open Go.RowKit
open C (Only hid Mem Still ret_int ret_bool put byt nu WB WB.cell Calls.wb wp_region_wb hasB gst rdm Cl fcl RMem Tw)
set_option linter.unusedVariables false
set_option maxRecDepth 100000

theorem setFour {w : World} {b : Nat} {ty : TypeId} {a0 a1 a2 a3 : Value} (h : w.heap[b]? = some (.cells #[a0, a1, a2, a3] ty (0, 0))) (x y z t : Value) : ((((w.setCell ⟨b, 0, none⟩ x).setCell ⟨b, 1, none⟩ y).setCell ⟨b, 2, none⟩ z).setCell ⟨b, 3, none⟩ t).heap[b]? = some (.cells #[x, y, z, t] ty (0, 0)) := by
  have s1 : (w.setCell ⟨b, 0, none⟩ x).heap[b]? = some (.cells #[x, a1, a2, a3] ty (0, 0)) := by rw [setCell_eq_setRow w b 0 _ _ (0, 0) x h]; exact setRow_heap w b _ _ _ _ h
  have s2 : ((w.setCell ⟨b, 0, none⟩ x).setCell ⟨b, 1, none⟩ y).heap[b]? = some (.cells #[x, y, a2, a3] ty (0, 0)) := by rw [setCell_eq_setRow _ b 1 _ _ (0, 0) y s1]; exact setRow_heap _ b _ _ _ _ s1
  have s3 : (((w.setCell ⟨b, 0, none⟩ x).setCell ⟨b, 1, none⟩ y).setCell ⟨b, 2, none⟩ z).heap[b]? = some (.cells #[x, y, z, a3] ty (0, 0)) := by rw [setCell_eq_setRow _ b 2 _ _ (0, 0) z s2]; exact setRow_heap _ b _ _ _ _ s2
  rw [setCell_eq_setRow _ b 3 _ _ (0, 0) t s3]
  exact setRow_heap _ b _ _ _ _ s3
theorem r5_New (w : World) (room : Nat) (h0 : 0 < room) (h1 : room ≤ 64) : Calls Tryz.prog 46 #[.int .i64 room] w fun e w' => ∃ p, e = .returned (.tuple #[.pointer (some ⟨p, 0, none⟩), .int .i64 0]) ∧ Below w.heap.size w w' := by
  have e1 : ((room : Int) < 1) = False := by simp; omega
  have e2 : (64 < (room : Int)) = False := by simp; omega
  go_enter Tryz.func46, Tryz.ntmps46
  go_wp2
  go_ret2
  exact ⟨_, rfl, (Below.refl _ _).alloc (Nat.le_refl _) _⟩
theorem r7_New (w : World) (q room : Nat) (h0 : 0 < room) (h1 : room ≤ 64) : Calls Tryz.prog 13 #[.pointer (some ⟨q, 0, none⟩), .int .i64 room] w fun e w' => ∃ p, e = .returned (.tuple #[.pointer (some ⟨p, 0, none⟩), .int .i64 0]) ∧ Below w.heap.size w w' := by
  go_enter Tryz.func13, Tryz.ntmps13
  go_wp2_with ((go_at_call 46; refine (r5_New _ room h0 h1).mono ?_; rintro e w1 ⟨p, rfl, hb⟩))
  go_ret2
  exact ⟨_, rfl, hb.alloc hb.size _⟩
set_option maxHeartbeats 1000000 in
theorem l_New (w : World) (room : Nat) (h0 : 0 < room) (h1 : room ≤ 64) (ad : Option Addr) (la cap ab ao : Nat) (X : Nat → Int × Int) (hX : Cl w ad la cap ab ao X) :
    Calls Tryz.prog 4 #[.int .i64 room, .slice ad la cap] w fun e w' => ∃ u t m x q F T, e = .returned (.tuple #[.agg #[.pointer (some ⟨u, 0, none⟩), .pointer (some ⟨x, 0, none⟩), .pointer (some ⟨m, 0, none⟩), .pointer (some ⟨q, 0, none⟩)], .bool true]) ∧ US w' F u (v0 t m) 8 (fcl 8 X la) room [] ∧ RMem w' T q 0 8 (fcl 8 X la) ∧ (∀ k, F k → ¬ T k) ∧ Below w.heap.size w w' ∧ ∀ k, F k ∨ T k → w.heap.size ≤ k := by
  have HX := hid hX
  clear hX
  go_enter Tryz.func4, Tryz.ntmps4
  go_wp2_with (first
    | (go_at_call 11; refine (C.c_Memory _ 8 (by decide) (by decide) ad la cap ab ao X (HX.out.below ((Below.refl _ _).alloc (Nat.le_refl _) _))).mono ?_; rintro e w1 ⟨m, q, U, rfl, ht, hb, hu⟩; have HT := hid ht; have P0 := hid ((hb.block w.heap.size (by simp)).trans (heap_alloc_new w _)); have HB := hid (((Below.refl w.heap.size w).alloc (Nat.le_refl _) _).trans (hb.mono (by simp))); have HU : Hid (∀ k, U k → w.heap.size < k) := (fun k hk => by have := hu k hk; simp at this; omega); clear ht hb hu)
    | (go_at_call 12; refine (m_New _ m room h0 h1 _ rfl).mono ?_; rintro e w2 ⟨u, t, g, rfl, i1, i2, i3, i4, i5⟩; have I1 := hid i1; have I2 := hid i2; have I3 : Hid (Below w1.heap.size w1 w2) := ((Below.refl _ _).alloc (Nat.le_refl _) _).trans (i3.mono (by simp)); have P1 := hid ((i3.block w1.heap.size (by simp)).trans (heap_alloc_new w1 _)); have I4 : Hid (w1.heap.size < u ∧ ∀ k, E.Ft t g k → w1.heap.size < k) := ⟨by simp at i4; omega, fun k hk => by have := i5 k hk; simp at this; omega⟩; have y0 : w2.cell? ⟨w1.heap.size, 0, none⟩ = some (.pointer (some ⟨m, 0, none⟩)) := (by rw [cell_of_row w2 _ 0 _ _ _ P1.out]; rfl); have y1 : w2.cell? ⟨w1.heap.size, 1, none⟩ = some (.pointer (some ⟨q, 0, none⟩)) := (by rw [cell_of_row w2 _ 1 _ _ _ P1.out]; rfl); clear i1 i2 i3 i4 i5)
    | (go_at_call 13; refine (r7_New _ q room h0 h1).mono ?_; rintro e w3 ⟨x, rfl, hb3⟩; have HB3 := hid hb3; have z0 : w3.cell? ⟨w1.heap.size, 0, none⟩ = some (.pointer (some ⟨m, 0, none⟩)) := (by rw [cell_of_row w3 _ 0 _ _ _ ((hb3.block _ (lt_of_block P1.out)).trans P1.out)]; rfl); have z1 : w3.cell? ⟨w1.heap.size, 1, none⟩ = some (.pointer (some ⟨q, 0, none⟩)) := (by rw [cell_of_row w3 _ 1 _ _ _ ((hb3.block _ (lt_of_block P1.out)).trans P1.out)]; rfl); have p3 := ((I3.out.trans (hb3.mono I3.out.size)).block _ (lt_of_block P0.out)).trans P0.out; have P3 := hid p3; have c0 : w3.cell? ⟨w.heap.size, 0, none⟩ = some (.pointer none) := (by rw [cell_of_row w3 _ 0 _ _ _ p3]; rfl); have c1 : w3.cell? ⟨w.heap.size, 1, none⟩ = some (.pointer none) := (by rw [cell_of_row w3 _ 1 _ _ _ p3]; rfl); have c2 : w3.cell? ⟨w.heap.size, 2, none⟩ = some (.pointer none) := (by rw [cell_of_row w3 _ 2 _ _ _ p3]; rfl); have c3 : w3.cell? ⟨w.heap.size, 3, none⟩ = some (.pointer none) := (by rw [cell_of_row w3 _ 3 _ _ _ p3]; rfl); have cf : ∀ j, w3.frozen? ⟨w.heap.size, j, none⟩ = false := (fun j => frozen_of_row w3 _ j _ _ p3); clear hb3 p3))
  have ho6 := (((only1 w3 w.heap.size 0 (.pointer (some ⟨u, 0, none⟩))).trans (only1 _ w.heap.size 1 (.pointer (some ⟨x, 0, none⟩)))).trans (only1 _ w.heap.size 2 (.pointer (some ⟨m, 0, none⟩)))).trans (only1 _ w.heap.size 3 (.pointer (some ⟨q, 0, none⟩)))
  have h6 := setFour P3.out (.pointer (some ⟨u, 0, none⟩)) (.pointer (some ⟨x, 0, none⟩)) (.pointer (some ⟨m, 0, none⟩)) (.pointer (some ⟨q, 0, none⟩))
  generalize (((w3.setCell ⟨w.heap.size, 0, none⟩ (.pointer (some ⟨u, 0, none⟩))).setCell ⟨w.heap.size, 1, none⟩ (.pointer (some ⟨x, 0, none⟩))).setCell ⟨w.heap.size, 2, none⟩ (.pointer (some ⟨m, 0, none⟩))).setCell ⟨w.heap.size, 3, none⟩ (.pointer (some ⟨q, 0, none⟩)) = w6 at *
  clear y0 y1 c0 c1 c2 c3 cf z0 z1
  have y0 : w6.cell? ⟨w.heap.size, 0, none⟩ = some (.pointer (some ⟨u, 0, none⟩)) := by rw [cell_of_row w6 _ 0 _ _ _ h6]; rfl
  have y1 : w6.cell? ⟨w.heap.size, 1, none⟩ = some (.pointer (some ⟨x, 0, none⟩)) := by rw [cell_of_row w6 _ 1 _ _ _ h6]; rfl
  have y2 : w6.cell? ⟨w.heap.size, 2, none⟩ = some (.pointer (some ⟨m, 0, none⟩)) := by rw [cell_of_row w6 _ 2 _ _ _ h6]; rfl
  have y3 : w6.cell? ⟨w.heap.size, 3, none⟩ = some (.pointer (some ⟨q, 0, none⟩)) := by rw [cell_of_row w6 _ 3 _ _ _ h6]; rfl
  refine bodyPost_ret (by simp [results, Tryz.results4, go_sem, y0, y1, y2, y3]; rfl) rfl ?_
  obtain ⟨SS, TT, m1, m2, m3, m4⟩ := HT.out
  have B13 : Below w1.heap.size w1 w3 := I3.out.trans (HB3.out.mono I3.out.size)
  have sz : w.heap.size < w1.heap.size := lt_of_block P0.out
  have N1 : Mem w6 SS m 0 8 (fcl 8 X la) := (m1.below B13).only ho6 (fun k hk e => by have := HU.out k ((m3 k).2 (.inl hk)); omega)
  have N2 : RMem w6 TT q 0 8 (fcl 8 X la) := C.RMem.only (m2.below B13) ho6 (fun k hk e => by have := HU.out k ((m3 k).2 (.inr hk)); omega)
  have N3 : Iu w6 u (v0 t m) := (I1.out.below HB3.out).only ho6 (by have := I4.out.1; omega)
  have N4 : E.TM w6 t g room [] := (I2.out.below HB3.out).only ho6 (fun k hk e => by have := I4.out.2 k hk; omega)
  refine ⟨u, t, m, x, q, fun k => k = u ∨ E.Ft t g k ∨ SS k, TT, rfl, ⟨SS, g, N3, N1, N4, fun k => Iff.rfl, ⟨fun j => ⟨by show (0 : Int) ≤ 0; decide, by show (0 : Int) < _; decide⟩, by show 0 < 256; decide, by show 0 ≤ 255; decide, (fun q => by cases q), fun _ => rfl⟩⟩, N2, ?_, ?_, ?_⟩
  · intro k hk ht
    have := m2.lt ht
    rcases hk with e | e | e
    · have := I4.out.1; omega
    · have := I4.out.2 k e; omega
    · exact m4 k e ht
  · exact (HB.out.trans (B13.mono HB.out.size)).trans ((ho6.below w.heap.size (Nat.le_trans HB.out.size B13.size) fun k e => by omega))
  · intro k hk
    rcases hk with (e | e | e) | e
    · have := I4.out.1; omega
    · have := I4.out.2 k e; omega
    · have := HU.out k ((m3 k).2 (.inl e)); omega
    · have := HU.out k ((m3 k).2 (.inr e)); omega
theorem cl0 (w : World) : Cl w none 0 0 0 0 (fun _ => (0, 0)) := ⟨Nat.le_refl _, by decide, fun h => absurd h (by decide), fun i h => absurd h (by omega), fun i h => absurd h (by omega)⟩
set_option maxHeartbeats 1000000 in
theorem l_awake (w : World) : Calls Tryz.prog 5 #[] w fun e w' => e = .returned (.bool true) ∧ Below w.heap.size w w' := by
  go_enter Tryz.func5, Tryz.ntmps5
  go_wp2_with (first
    | (go_at_call 4; refine (l_New _ 4 (by decide) (by decide) none 0 0 0 0 _ (cl0 _)).mono ?_; rintro e w1 ⟨u, t, m, x, q, F, T, rfl, hs, -, -, hb, hf⟩; have HS := hid hs; have HB := hid hb; have HF := hid hf; clear hs hb hf)
    | (go_at_call 14; refine (s_Remap _ F u (v0 t m) 8 _ 4 [] (HS.out.below ((Below.refl _ _).alloc (Nat.le_refl _) _)) 1 3 2 9 rfl (by decide) (by decide)).mono ?_; rintro e w2 ⟨rfl, hs2, ht2⟩; have HS2 := hid hs2; have HT2 := hid ht2; have hb2 := ht2.1.old (heap_alloc_new w1 _) (fun z => by have := HS.out.lt z; omega); have y0 : w2.cell? ⟨w1.heap.size, 0, none⟩ = some (.pointer (some ⟨u, 0, none⟩)) := (by rw [cell_of_row w2 _ 0 _ _ _ hb2]; rfl); clear hs2 ht2 hb2)
    | (go_at_call 15; refine (show Calls _ _ _ _ (fun e w' => e = .returned (.tuple #[.agg #[.int .i64 2, .int .i64 9], .bool true]) ∧ Below w2.heap.size w2 w') from m_Message_go w2 u _ HS2.out.iu 1 3 rfl (by decide) (by decide) rfl).mono ?_; rintro e w3 ⟨rfl, hb3⟩; have HB3 := hid hb3; clear hb3))
  go_ret
  refine ⟨rfl, ?_⟩
  have e1 : Below w.heap.size w w2 := (HB.out.alloc HB.out.size _).trans (HT2.out.1.below _ (by have := HB.out.size; simp; omega) fun k hk => HF.out k (.inl hk))
  exact (e1.trans (HB3.out.mono e1.size)).alloc (Nat.le_trans e1.size HB3.out.size) _
end Go.Proofs.YtfoafgbhelgjcaaGreat
namespace Go.Proofs.YtfoafgbhelgjcaaGreat
open Go.RowKit
open C (Only hid Mem Still ret_int ret_bool put byt nu)
set_option linter.unusedVariables false

theorem rdn_out (f : Nat → Int) (off m : Nat) (g : Nat → Int) (p k : Nat) (h : p + k ≤ off ∨ off + m ≤ p) : rdn (put f off m g) p k = rdn f p k := by
  unfold rdn
  exact C.nu_congr k fun j hj => C.put_out _ _ _ _ _ (by omega)
theorem rdn_in (f : Nat → Int) (off m : Nat) (x : Int) (x0 : 0 ≤ x) : rdn (put f off m (byt x)) off m = x % 256 ^ m := by
  unfold rdn
  rw [← C.nu_byt x x0 m]
  exact C.nu_congr m fun j hj => C.put_in _ _ _ _ _ hj
/-- record i, counted from the first that was not told -/
def rd3 (f : Nat → Int) (p : Nat) : Int × Int × Int := (rdn f p 4, rdn f (p + 4) 4, rdn f (p + 8) 8)
/-- those that were not told are G told, G (told + 1) .. -/
def RL (v : UV) (f : Nat → Int) (G : Nat → Int × Int × Int) (told : Nat) : Prop := ∀ i, i < v.count → rd3 f (v.at i) = G (told + i)
theorem rd3_rcf (f : Nat → Int) (p : Nat) (d k a : Int) (d0 : 0 ≤ d) (d1 : d < 4294967296) (k0 : 0 ≤ k) (k1 : k < 4294967296) (a0 : 0 ≤ a) (a1 : a < 18446744073709551616) : rd3 (rcf f p d k a) p = (d, k, a) := by
  unfold rd3 rcf
  rw [rdn_out _ _ _ _ p 4 (by omega), rdn_out _ _ _ _ p 4 (by omega), rdn_in _ _ _ _ d0, rdn_out _ _ _ _ (p + 4) 4 (by omega), rdn_in _ _ _ _ k0, rdn_in _ _ _ _ a0]
  have e1 : d % 256 ^ 4 = d := by rw [show (256 : Int) ^ 4 = 4294967296 from rfl]; omega
  have e2 : k % 256 ^ 4 = k := by rw [show (256 : Int) ^ 4 = 4294967296 from rfl]; omega
  have e3 : a % 256 ^ 8 = a := by rw [show (256 : Int) ^ 8 = 18446744073709551616 from rfl]; omega
  rw [e1, e2, e3]
theorem rd3_other (f : Nat → Int) (p q : Nat) (d k a : Int) (h : q + 16 ≤ p ∨ p + 16 ≤ q) : rd3 (rcf f p d k a) q = rd3 f q := by
  unfold rd3 rcf
  rw [rdn_out _ _ _ _ q 4 (by omega), rdn_out _ _ _ _ q 4 (by omega), rdn_out _ _ _ _ q 4 (by omega), rdn_out _ _ _ _ (q + 4) 4 (by omega), rdn_out _ _ _ _ (q + 4) 4 (by omega), rdn_out _ _ _ _ (q + 4) 4 (by omega), rdn_out _ _ _ _ (q + 8) 8 (by omega), rdn_out _ _ _ _ (q + 8) 8 (by omega), rdn_out _ _ _ _ (q + 8) 8 (by omega)]
theorem RL.rec {v : UV} {f : Nat → Int} {G : Nat → Int × Int × Int} {told n : Nat} (h : RL v f G told) (ok : VOk v n) (d k a : Int) (d0 : 0 ≤ d) (d1 : d < 8) (k0 : 0 ≤ k) (k1 : k < 8) (a0 : 0 ≤ a) (a1 : a < 18446744073709551616) (hG : rcB v = true → G (told + v.count) = (d, k, a)) : RL (rcV v) (rcF v f d k a) G told := by
  unfold rcV rcF
  cases e : rcB v
  · exact h
  · have hG := hG e
    simp [rcB] at e
    have hf := ok.first
    intro i hi
    have hi : i < v.count + 1 := hi
    show rd3 (rcf f (v.at v.count) d k a) (v.at i) = _
    by_cases q : i = v.count
    · subst q
      rw [rd3_rcf _ _ _ _ _ d0 (by omega) k0 (by omega) a0 a1, hG]
    · rw [rd3_other _ _ _ _ _ _ (by unfold UV.at; omega)]
      exact h i (by omega)
theorem RL.next {v : UV} {f : Nat → Int} {G : Nat → Int × Int × Int} {told : Nat} (h : RL v f G told) (hc : 0 < v.count) : RL (nxV v) f G (told + 1) := by
  intro i hi
  have hi : i < v.count - 1 := hi
  have := h (i + 1) (by omega)
  rw [show (nxV v).at i = v.at (i + 1) from by unfold UV.at nxV UV.setFirst UV.setCount; simp only; omega, this]
  congr 1
  omega
/-- the next record, by its number -/
theorem s_NextG (w : World) (F : Nat → Prop) (u : Nat) (v : UV) (n : Nat) (f : Nat → Int) (room : Nat) (L : List E.TV) (h : US w F u v n f room L) (G : Nat → Int × Int × Int) (told : Nat) (hR : RL v f G told) (hc : 0 < v.count) (d k a : Int) (hG : G told = (d, k, a)) : Calls Tryz.prog 27 #[.pointer (some ⟨u, 0, none⟩)] w fun e w' => e = .returned (.tuple #[.agg #[.int .i64 d, .int .i64 k, .int .u64 a], .bool true]) ∧ US w' F u (nxV v) n f room L ∧ Tn w F w' F ∧ RL (nxV v) f G (told + 1) := by
  have := hR 0 hc
  rw [Nat.add_zero, hG] at this
  simp only [rd3, Prod.mk.injEq] at this
  refine (s_Next w F u v n f room L h hc).mono ?_
  rintro e w' ⟨rfl, h1, h2⟩
  rw [this.1, this.2.1, this.2.2]
  exact ⟨rfl, h1, h2, hR.next hc⟩
end Go.Proofs.YtfoafgbhelgjcaaGreat
namespace Go.Proofs.YtfoafgbhelgjcaaGreat
open Go.RowKit
open C (Only hid Mem Still ret_int ret_bool put byt nu)
set_option linter.unusedVariables false

/-- an IOMMU of this walk's own, and the block that names it -/
structure LW (W w : World) (F : Nat → Prop) (ob u : Nat) (v : UV) (n : Nat) (f : Nat → Int) (room : Nat) (L : List E.TV) : Prop where
  us : US w F u v n f room L
  new : Below W.heap.size W w
  fnew : ∀ k, F k → W.heap.size ≤ k
  obk : ∃ x y z, w.heap[ob]? = some (.cells #[.pointer (some ⟨u, 0, none⟩), x, y, z] 31 (0, 0))
  nob : ¬ F ob
section
variable {W w w' : World} {F F' : Nat → Prop} {ob u : Nat} {v v' : UV} {n : Nat} {f f' : Nat → Int} {room : Nat} {L L' : List E.TV}
theorem LW.lt (h : LW W w F ob u v n f room L) : ob < w.heap.size := by obtain ⟨x, y, z, h1⟩ := h.obk; exact lt_of_block h1
theorem LW.c (h : LW W w F ob u v n f room L) : w.cell? ⟨ob, 0, none⟩ = some (.pointer (some ⟨u, 0, none⟩)) := by
  obtain ⟨x, y, z, h1⟩ := h.obk
  rw [cell_of_row w _ 0 _ _ _ h1]; rfl
theorem LW.step (h : LW W w F ob u v n f room L) (hs : US w' F' u v' n f' room L') (ht : Tn w F w' F') : LW W w' F' ob u v' n f' room L' where
  us := hs
  new := h.new.trans (ht.1.below _ h.new.size h.fnew)
  fnew := fun k hk => (ht.2 k hk).elim (h.fnew k) fun q => Nat.le_trans h.new.size q
  obk := by obtain ⟨x, y, z, h1⟩ := h.obk; exact ⟨x, y, z, ht.1.old h1 h.nob⟩
  nob := fun q => (ht.2 ob q).elim h.nob fun z => by have := h.lt; omega
theorem LW.below (h : LW W w F ob u v n f room L) (hb : Below w.heap.size w w') : LW W w' F ob u v n f room L := h.step (h.us.below hb) (Tn.ofBelow hb)
theorem LW.alloc (h : LW W w F ob u v n f room L) (o : Obj) : LW W (w.alloc o) F ob u v n f room L := h.below ((Below.refl _ _).alloc (Nat.le_refl _) o)
/-- the walk's beginning -/
theorem LW.start {W0 : World} (hb0 : Below W.heap.size W W0) {t m x q : Nat} {T : Nat → Prop} {f : Nat → Int} (hs : US w F u v n f room L) (hb : Below W0.heap.size W0 w) (hf : ∀ k, F k ∨ T k → W0.heap.size ≤ k) (a b c : Value) : LW W (w.alloc (.cells #[.pointer (some ⟨u, 0, none⟩), a, b, c] 31)) F w.heap.size u v n f room L where
  us := hs.below ((Below.refl _ _).alloc (Nat.le_refl _) _)
  new := (hb0.trans (hb.mono hb0.size)).alloc (Nat.le_trans hb0.size hb.size) _
  fnew := fun k hk => Nat.le_trans hb0.size (hf k (.inl hk))
  obk := ⟨a, b, c, heap_alloc_new w _⟩
  nob := fun q => by have := hs.lt q; omega
end
/-- a ring under way: how many records were not told, the flag; those are G told .. -/
structure Rg (v : UV) (f : Nat → Int) (G : Nat → Int × Int × Int) (told c : Nat) (l : Bool) : Prop where
  there : v.there = true
  count : v.count = c
  lost : v.lost = l
  rl : RL v f G told
theorem Rg.next {v : UV} {f : Nat → Int} {G : Nat → Int × Int × Int} {told c : Nat} {l : Bool} (h : Rg v f G told c l) (hc : 0 < c) : Rg (nxV v) f G (told + 1) (c - 1) l :=
  ⟨h.there, by show v.count - 1 = c - 1; rw [h.count], h.lost, h.rl.next (by rw [h.count]; exact hc)⟩
theorem Rg.clear {v : UV} {f : Nat → Int} {G : Nat → Int × Int × Int} {told c : Nat} {l : Bool} (h : Rg v f G told c l) : Rg (v.setLost false) f G told c false := ⟨h.there, h.count, rfl, h.rl⟩
theorem Rg.recd {v : UV} {f : Nat → Int} {G : Nat → Int × Int × Int} {told c n : Nat} {l : Bool} (h : Rg v f G told c l) (ok : VOk v n) (d k a : Int) (d0 : 0 ≤ d) (d1 : d < 8) (k0 : 0 ≤ k) (k1 : k < 8) (a0 : 0 ≤ a) (a1 : a < 18446744073709551616) (hG : c < 255 → G (told + c) = (d, k, a)) :
    Rg (rcV v) (rcF v f d k a) G told (if c < 255 then c + 1 else c) (if c < 255 then l else true) := by
  have hr := h.rl.rec ok d k a d0 d1 k0 k1 a0 a1 (fun e => by simp [rcB] at e; rw [h.count] at e ⊢; exact hG e.2)
  by_cases q : c < 255
  · have e : rcB v = true := by simp [rcB, h.there, h.count, q]
    rw [if_pos q, if_pos q]
    refine ⟨?_, ?_, ?_, hr⟩
    · unfold rcV; rw [e]; exact h.there
    · unfold rcV; rw [e]; show v.count + 1 = c + 1; rw [h.count]
    · unfold rcV; rw [e]; exact h.lost
  · have e : rcB v = false := by simp [rcB, h.there, h.count]; omega
    rw [if_neg q, if_neg q]
    refine ⟨?_, ?_, ?_, hr⟩
    · unfold rcV; rw [e]; exact h.there
    · unfold rcV; rw [e]; exact h.count
    · unfold rcV; rw [e]; rfl
theorem acF_none {n : Nat} {f : Nat → Int} {v : UV} {room : Nat} {L : List E.TV} {d a s : Int} {wt : Bool} (h1 : whole a s = true) (h2 : v.root d.toNat = 0) : acF n f v room L d a s wt = (1, 0, L) := by
  unfold acF; rw [if_neg (by rw [h1]; decide), if_pos h2]
theorem whole8 (a : Int) (h : a % 8 = 0) : whole a 8 = true := by simp [whole, h]
/-- an access of a device without a table, at a multiple of eight -/
theorem s_AccessNone (w : World) (F : Nat → Prop) (u : Nat) (v : UV) (n : Nat) (f : Nat → Int) (room : Nat) (L : List E.TV) (h : US w F u v n f room L) (d a : Int) (wt : Bool) (hd : isDev d = true) (a0 : 0 ≤ a) (a1 : a < 18446744073709551616) (ha : a % 8 = 0) (h2 : v.root d.toNat = 0) :
    Calls Tryz.prog 17 #[.pointer (some ⟨u, 0, none⟩), .int .i64 d, .int .u64 a, .int .i64 8, .bool wt] w fun e w' => e = .returned (.tuple #[.int .u64 0, .bool false]) ∧ ∃ F', US w' F' u (rcV v) n (rcF v f d 1 a) room L ∧ Tn w F w' F' :=
  s_Access w F u v n f room L h d a 8 wt hd a0 a1 (by decide) (by decide) 1 0 L (acF_none (whole8 a ha) h2)
end Go.Proofs.YtfoafgbhelgjcaaGreat
namespace Go.Proofs.YtfoafgbhelgjcaaGreat
open Go.RowKit
open C (gst rdm hasB D plc pm al hs lo num pw)
set_option linter.unusedVariables false
set_option maxRecDepth 100000

theorem atF_page {a b : Int} (h : a / 4096 = b / 4096) (k : Nat) (t : Int) : C.atF a k t = C.atF b k t := by unfold C.atF; rw [h]
theorem D_page (R : Int → Int × Int) {a b : Int} (h : a / 4096 = b / 4096) (wrong : Int) : ∀ (k : Nat) (t : Int), D R a wrong k t = D R b wrong k t
  | 0, t => by unfold D; rw [atF_page h]
  | k + 1, t => by unfold D; rw [atF_page h, D_page R h wrong k]
def pmL (l : Nat) : Nat := if l &&& 128 = 128 then l &&& 14 else l &&& 10
theorem pm_lo (e : Int) : pm e = ((pmL (lo e) : Nat) : Int) := by
  unfold pm pmL hs
  by_cases h : lo e &&& 128 = 128
  · simp [h]
  · simp [h]
theorem pmL_w : ∀ l : Fin 256, (bits .and .i64 ((pmL l : Nat) : Int) 4 == 0) = false → l.val &&& 132 = 132 := of_decide_eq_true (by kernel_rfl)
theorem pmL_r : ∀ l : Fin 256, (bits .and .i64 ((pmL l : Nat) : Int) 2 == 0) = false → l.val &&& 2 = 2 := of_decide_eq_true (by kernel_rfl)
theorem al_of {e k : Int} {wt : Bool} (h : al e k = true) (hp : (bits .and .i64 (pm e) (art wt) == 0) = false) : al e (akd wt) = true := by
  have h80 : hs e 80 = true := by unfold al at h; simp at h; exact h.1
  rw [pm_lo] at hp
  unfold al
  rw [h80]
  cases wt
  · have := pmL_r ⟨lo e, C.lo_lt e⟩ hp
    simp [akd, hs, this]
  · have := pmL_w ⟨lo e, C.lo_lt e⟩ hp
    simp [akd, hs, this]
/-- an entry that a device's table says -/
def Te (n : Nat) (f : Nat → Int) (root : Int) (e : E.TV) : Prop := ∃ b k x, b / 4096 = e.p ∧ 0 ≤ b ∧ b < 18446744073709551616 ∧ gst (rdm n f) root b k = (x, e.r, 0) ∧ e.f = x / 4096
theorem te_gst {n : Nat} {f : Nat → Int} (hf : ∀ j, 0 ≤ f j ∧ f j < 256) {root : Int} (h0 : root ≠ 0) (r0 : 0 ≤ root) (r1 : root < 18446744073709551616) {e : E.TV} (he : Te n f root e) {a : Int} (ha : a / 4096 = e.p) (a0 : 0 ≤ a) (a1 : a < 18446744073709551616) {wt : Bool} (hp : (bits .and .i64 e.r (art wt) == 0) = false) : ∃ y, gst (rdm n f) root a (akd wt) = (plf e.f a, y, 0) := by
  obtain ⟨b, k, x, hb, b0, b1, hg, hx⟩ := he
  have hbx := gst_b hf root b k b0 b1 r0 r1 hg
  unfold gst at hg
  rw [if_neg h0] at hg
  revert hg
  split
  · intro hg; simp at hg
  · rename_i h39
    split
    · intro hg; simp at hg; rename_i hz; exact absurd hg.2.2 hz
    · rename_i hz
      split
      · rename_i hal
        intro hg
        simp only [Prod.mk.injEq] at hg
        obtain ⟨g1, g2, -⟩ := hg
        refine ⟨pm (D (rdm n f) b 2 2 root).leaf, ?_⟩
        have hD : D (rdm n f) a 2 2 root = D (rdm n f) b 2 2 root := D_page _ (by rw [ha, hb]) 2 2 root
        rw [← g2] at hp
        unfold gst
        rw [if_neg h0, if_neg (by omega), hD, if_neg hz, if_pos (al_of hal hp)]
        have e1 : plc (D (rdm n f) b 2 2 root) a = plf e.f a := by
          rw [hx, plf_eq x a hbx.1 hbx.2, ← g1]
          unfold plc
          rw [show a / 4096 = b / 4096 by rw [ha, hb]]
          omega
        rw [e1]
      · intro hg; simp at hg
/-- a TLB whose entries all are true -/
def Tr (n : Nat) (f : Nat → Int) (v : UV) (L : List E.TV) : Prop := ∀ e ∈ L, v.root e.v.toNat ≠ 0 ∧ Te n f (v.root e.v.toNat) e
theorem Tr.nil (n : Nat) (f : Nat → Int) (v : UV) : Tr n f v [] := fun e h => by cases h
theorem Tr.sub {n : Nat} {f : Nat → Int} {v : UV} {L L' : List E.TV} (h : Tr n f v L) (hs : ∀ e ∈ L', e ∈ L) : Tr n f v L' := fun e he => h e (hs e he)
theorem fl_sub {L : List E.TV} {d : Int} : ∀ e ∈ E.fl L d, e ∈ L := fun e h => (List.mem_filter.1 h).1
theorem fp_sub {L : List E.TV} {d p : Int} : ∀ e ∈ E.fp L d p, e ∈ L := fun e h => (List.mem_filter.1 h).1
theorem pu_sub {room : Nat} {L : List E.TV} {x : E.TV} : ∀ e ∈ E.pu room L x, e ∈ L ∨ e = x := by
  intro e h
  unfold E.pu at h
  rcases List.mem_append.1 h with q | q
  · left
    split at q
    · unfold E.ev at q
      split at q
      · cases q
      · rename_i y M hm
        have := fp_sub _ q
        rw [← hm] at this
        exact fp_sub _ this
    · exact fp_sub _ q
  · right; simpa using q
theorem lk_mem {L : List E.TV} {d p : Int} {e : E.TV} (h : E.lk L d p = (e, true)) : e ∈ L ∧ e.v = d ∧ e.p = p := by
  unfold E.lk at h
  cases q : L.find? (fun x => x.here d p) with
  | none => rw [q] at h; cases h
  | some x =>
    rw [q] at h
    cases h
    have h1 := List.find?_some q
    simp [E.TV.here] at h1
    exact ⟨List.mem_of_find?_eq_some q, h1.1, h1.2⟩
/-- what an access comes to by its table alone -/
def acN (n : Nat) (f : Nat → Int) (root : Int) (a s : Int) (wt : Bool) : Int × Int :=
  if whole a s = false then (4, 0) else if root = 0 then (1, 0) else
  if (gst (rdm n f) root a (akd wt)).2.2 = 0 then (if hasB 0 n (plf ((gst (rdm n f) root a (akd wt)).1 / 4096) a) s = true then (0, plf ((gst (rdm n f) root a (akd wt)).1 / 4096) a) else (3, 0)) else (2, 0)
theorem acF_true {n : Nat} {f : Nat → Int} (hf : ∀ j, 0 ≤ f j ∧ f j < 256) {v : UV} (hr : ∀ j, 0 ≤ v.root j ∧ v.root j < 18446744073709551616) {room : Nat} {L : List E.TV} (hT : Tr n f v L) {d a s : Int} {wt : Bool} (a0 : 0 ≤ a) (a1 : a < 18446744073709551616) {k p : Int} {L' : List E.TV} (h : acF n f v room L d a s wt = (k, p, L')) :
    acN n f (v.root d.toNat) a s wt = (k, p) ∧ Tr n f v L' := by
  unfold acF at h
  unfold acN
  cases e1 : whole a s
  · rw [if_pos e1] at h; cases h; exact ⟨rfl, hT⟩
  · rw [if_neg (by rw [e1]; decide)] at h
    rw [if_neg (by decide)]
    by_cases e2 : v.root d.toNat = 0
    · rw [if_pos e2] at h; cases h; rw [if_pos e2]; exact ⟨rfl, hT⟩
    · rw [if_neg e2] at h
      rw [if_neg e2]
      obtain ⟨e, ok, hl⟩ : ∃ e ok, E.lk L d (a / 4096) = (e, ok) := ⟨_, _, rfl⟩
      by_cases hh : ok = true ∧ (bits .and .i64 e.r (art wt) == 0) = false
      · obtain ⟨rfl, hp⟩ := hh
        obtain ⟨m1, m2, m3⟩ := lk_mem hl
        rw [fnd_hit hl hp] at h
        obtain ⟨y, hy⟩ := te_gst hf e2 (hr _).1 (hr _).2 (by have := (hT e m1).2; rwa [m2] at this) m3.symm a0 a1 hp
        have hb := plf_b e.f a
        have e3 : plf (plf e.f a / 4096) a = plf e.f a := by
          rw [plf_eq _ a hb.1 hb.2]
          unfold plf
          rw [wrap_u64, wrap_u64]
          omega
        rw [hy]
        simp only [if_true, e3]
        cases e4 : hasB 0 n (plf e.f a) s
        · simp only [e4] at h; cases h; exact ⟨rfl, hT⟩
        · simp only [e4] at h; cases h; exact ⟨rfl, hT⟩
      · obtain ⟨x, y, z, hg⟩ : ∃ x y z, gst (rdm n f) (v.root d.toNat) a (akd wt) = (x, y, z) := ⟨_, _, _, rfl⟩
        have hm := fnd_miss (room := room) hl hh hg
        rw [hg]
        by_cases hz : z = 0
        · rw [hm.1 hz] at h
          have hT' : Tr n f v (E.pu room L ⟨d, a / 4096, x / 4096, y⟩) := fun e he => by
            rcases pu_sub e he with q | rfl
            · exact hT e q
            · exact ⟨e2, a, akd wt, x, rfl, a0, a1, by rw [hg, hz], rfl⟩
          simp only [hz, if_true]
          cases e4 : hasB 0 n (plf (x / 4096) a) s
          · simp only [e4] at h; cases h; exact ⟨rfl, hT'⟩
          · simp only [e4] at h; cases h; exact ⟨rfl, hT'⟩
        · rw [hm.2 hz] at h
          cases h
          simp only [hz, if_false]
          exact ⟨trivial, hT⟩
end Go.Proofs.YtfoafgbhelgjcaaGreat
namespace Go.Proofs.YtfoafgbhelgjcaaGreat
open Go.ChangeShapes Go.WideShapes Go.ChangeAt Go.RowKit Go.Deep
set_option linter.unusedVariables false

structure OpV where
  kind : Int
  dev : Int
  size : Int
  addr : Int
  data : Int
  write : Bool
  guest : Int
  irq : Int
def OpV.cs (x : OpV) : List Value := [.int .i64 x.kind, .int .i64 x.dev, .int .i64 x.size, .int .u64 x.addr, .int .u64 x.data, .bool x.write, .int .i64 x.guest, .int .i64 x.irq]
structure OpB (x : OpV) : Prop where
  kind : -9223372036854775808 ≤ x.kind ∧ x.kind ≤ 9223372036854775807
  dev : -9223372036854775808 ≤ x.dev ∧ x.dev ≤ 9223372036854775807
  size : -9223372036854775808 ≤ x.size ∧ x.size ≤ 9223372036854775807
  addr : 0 ≤ x.addr ∧ x.addr < 18446744073709551616
  data : 0 ≤ x.data ∧ x.data < 18446744073709551616
structure Sc (w : World) (ad : Option Addr) (la cap ab ao : Nat) (X : Nat → OpV) : Prop where
  len : la ≤ cap
  cap : cap ≤ 9223372036854775807
  at0 : 0 < la → ad = some ⟨ab, ao, none⟩ ∧ ab < w.heap.size
  cell : ∀ i, i < la → ∀ j, j < 8 → w.cell? ⟨ab, ao + i * 8 + j, none⟩ = (X i).cs[j]?
  num : ∀ i, i < la → OpB (X i)
theorem Sc.below {w w' : World} {ad : Option Addr} {la cap ab ao : Nat} {X : Nat → OpV} (h : Sc w ad la cap ab ao X) (hb : Below w.heap.size w w') : Sc w' ad la cap ab ao X :=
  ⟨h.len, h.cap, fun q => ⟨(h.at0 q).1, Nat.lt_of_lt_of_le (h.at0 q).2 hb.size⟩, fun i hi j hj => by
    have hlt := (h.at0 (by omega)).2
    have e : ∀ o, w'.cell? ⟨ab, o, none⟩ = w.cell? ⟨ab, o, none⟩ := fun o => World.cell?_of_block (w := w) (hb.block _ hlt)
    rw [e]; exact h.cell i hi j hj, h.num⟩
theorem Sc.cells {w : World} {ad : Option Addr} {la cap ab ao : Nat} {X : Nat → OpV} (h : Sc w ad la cap ab ao X) (i : Nat) (hi : i < la) : w.cell? ⟨ab, ao + i * 8, none⟩ = some (.int .i64 (X i).kind) ∧ w.cell? ⟨ab, ao + i * 8 + 1, none⟩ = some (.int .i64 (X i).dev) ∧ w.cell? ⟨ab, ao + i * 8 + 2, none⟩ = some (.int .i64 (X i).size) ∧ w.cell? ⟨ab, ao + i * 8 + 3, none⟩ = some (.int .u64 (X i).addr) ∧ w.cell? ⟨ab, ao + i * 8 + 4, none⟩ = some (.int .u64 (X i).data) ∧ w.cell? ⟨ab, ao + i * 8 + 5, none⟩ = some (.bool (X i).write) ∧ w.cell? ⟨ab, ao + i * 8 + 6, none⟩ = some (.int .i64 (X i).guest) ∧ w.cell? ⟨ab, ao + i * 8 + 7, none⟩ = some (.int .i64 (X i).irq) :=
  ⟨h.cell i hi 0 (by decide), h.cell i hi 1 (by decide), h.cell i hi 2 (by decide), h.cell i hi 3 (by decide), h.cell i hi 4 (by decide), h.cell i hi 5 (by decide), h.cell i hi 6 (by decide), h.cell i hi 7 (by decide)⟩
theorem under_op : Tryz.prog.underlying 40 = some (.struct (Tryz.prog.fieldsOf 40)) := by kernel_rfl
theorem under_msi : Tryz.prog.underlying 38 = some (.struct (Tryz.prog.fieldsOf 38)) := by kernel_rfl
theorem cells_op : Tryz.prog.cellsOf 40 = 8 := by kernel_rfl
theorem cells_msi : Tryz.prog.cellsOf 38 = 2 := by kernel_rfl
theorem cells_i8 : Tryz.prog.cellsOf 3 = 1 := by kernel_rfl
theorem cells_u8 : Tryz.prog.cellsOf 36 = 1 := by kernel_rfl
theorem cells_b8 : Tryz.prog.cellsOf 4 = 1 := by kernel_rfl
theorem u_sIOp : Tryz.prog.underlying 23 = some (.slice 40) := by kernel_rfl
theorem addr_two (a : Addr) (i j : Nat) : (a.add i).add j = a.add (i + j) := by
  unfold Addr.add
  by_cases hi : i = 0
  · subst hi; simp
  · by_cases hj : j = 0
    · subst hj; simp
    · have : ¬ i + j = 0 := by omega
      simp [hi, hj, Nat.add_assoc]
theorem fld8 {T k : Nat} {t : TypeId} {o : Nat} (h : ((Tryz.prog.fieldsOf T)[k]?).map (fun f => (f.type, f.offset)) = some (t, o)) : ∃ f, (Tryz.prog.fieldsOf T)[k]? = some f ∧ f.type = t ∧ f.offset = o := by
  cases hq : (Tryz.prog.fieldsOf T)[k]? with
  | none => rw [hq] at h; cases h
  | some f => rw [hq] at h; simp at h; exact ⟨f, rfl, h.1, h.2⟩
set_option maxRecDepth 100000 in
theorem open_msi {H : Type} {enc : TypeId × Value → H} {W : World} {base fuel : Nat} {cs : List Value} {x : DataW H × List MemPlace} (h : DataW.trod enc Tryz.prog W base (fun _ => true) true fuel 38 cs = some x) : ∃ g i : Int, cs = [.int .i64 g, .int .i64 i] := by
  obtain ⟨xs, n, _, rfl, hcl, hlen, hfs⟩ := DataW.trod_struct under_msi h
  have hl : xs.length = 2 := by rw [hlen]; kernel_rfl
  rw [cells_msi] at hcl
  obtain ⟨f0, e0, t0, o0⟩ := fld8 (T := 38) (k := 0) (t := 3) (o := 0) (by kernel_rfl)
  obtain ⟨f1, e1, t1, o1⟩ := fld8 (T := 38) (k := 1) (t := 3) (o := 1) (by kernel_rfl)
  have q0 := hfs 0 f0 e0
  have q1 := hfs 1 f1 e1
  rw [t0, o0, cells_i8, List.getElem?_eq_getElem (by omega)] at q0
  rw [t1, o1, cells_i8, List.getElem?_eq_getElem (by omega)] at q1
  obtain ⟨z0, r0, _, w0⟩ := DataW.trod_int Tryz.underlying3 q0
  obtain ⟨z1, r1, _, w1⟩ := DataW.trod_int Tryz.underlying3 q1
  obtain ⟨c0, c1, rfl⟩ : ∃ c0 c1, cs = [c0, c1] := by
    match cs, hcl with
    | [c0, c1], _ => exact ⟨c0, c1, rfl⟩
  simp at r0 r1
  subst r0 r1
  exact ⟨z0, z1, rfl⟩
set_option maxRecDepth 100000 in
theorem open_op {H : Type} {enc : TypeId × Value → H} {W : World} {base fuel : Nat} {cs : List Value} {x : DataW H × List MemPlace} (h : DataW.trod enc Tryz.prog W base (fun _ => true) true fuel 40 cs = some x) :
    ∃ X : OpV, cs = X.cs ∧ OpB X := by
  obtain ⟨xs, n, _, rfl, hcl, hlen, hfs⟩ := DataW.trod_struct under_op h
  have hl : xs.length = 7 := by rw [hlen]; kernel_rfl
  rw [cells_op] at hcl
  obtain ⟨f0, e0, t0, o0⟩ := fld8 (T := 40) (k := 0) (t := 3) (o := 0) (by kernel_rfl)
  have q0 := hfs 0 f0 e0
  rw [t0, o0, cells_i8, List.getElem?_eq_getElem (by omega)] at q0
  obtain ⟨z0, r0, _, w0⟩ := DataW.trod_int Tryz.underlying3 q0
  obtain ⟨f1, e1, t1, o1⟩ := fld8 (T := 40) (k := 1) (t := 3) (o := 1) (by kernel_rfl)
  have q1 := hfs 1 f1 e1
  rw [t1, o1, cells_i8, List.getElem?_eq_getElem (by omega)] at q1
  obtain ⟨z1, r1, _, w1⟩ := DataW.trod_int Tryz.underlying3 q1
  obtain ⟨f2, e2, t2, o2⟩ := fld8 (T := 40) (k := 2) (t := 3) (o := 2) (by kernel_rfl)
  have q2 := hfs 2 f2 e2
  rw [t2, o2, cells_i8, List.getElem?_eq_getElem (by omega)] at q2
  obtain ⟨z2, r2, _, w2⟩ := DataW.trod_int Tryz.underlying3 q2
  obtain ⟨f3, e3, t3, o3⟩ := fld8 (T := 40) (k := 3) (t := 36) (o := 3) (by kernel_rfl)
  have q3 := hfs 3 f3 e3
  rw [t3, o3, cells_u8, List.getElem?_eq_getElem (by omega)] at q3
  obtain ⟨z3, r3, _, w3⟩ := DataW.trod_int Tryz.underlying36 q3
  obtain ⟨f4, e4, t4, o4⟩ := fld8 (T := 40) (k := 4) (t := 36) (o := 4) (by kernel_rfl)
  have q4 := hfs 4 f4 e4
  rw [t4, o4, cells_u8, List.getElem?_eq_getElem (by omega)] at q4
  obtain ⟨z4, r4, _, w4⟩ := DataW.trod_int Tryz.underlying36 q4
  obtain ⟨f5, e5, t5, o5⟩ := fld8 (T := 40) (k := 5) (t := 4) (o := 5) (by kernel_rfl)
  have q5 := hfs 5 f5 e5
  rw [t5, o5, cells_b8, List.getElem?_eq_getElem (by omega)] at q5
  obtain ⟨z5, r5, _⟩ := DataW.trod_bool Tryz.underlying4 q5
  obtain ⟨f6, e6, t6, o6⟩ := fld8 (T := 40) (k := 6) (t := 38) (o := 6) (by kernel_rfl)
  have q6 := hfs 6 f6 e6
  rw [t6, o6, cells_msi, List.getElem?_eq_getElem (by omega)] at q6
  obtain ⟨g, i, r6⟩ := open_msi q6
  obtain ⟨c0, c1, c2, c3, c4, c5, c6, c7, rfl⟩ : ∃ c0 c1 c2 c3 c4 c5 c6 c7, cs = [c0, c1, c2, c3, c4, c5, c6, c7] := by
    match cs, hcl with
    | [c0, c1, c2, c3, c4, c5, c6, c7], _ => exact ⟨c0, c1, c2, c3, c4, c5, c6, c7, rfl⟩
  simp at r0 r1 r2 r3 r4 r5 r6
  obtain ⟨r6, r7⟩ := r6
  subst r0 r1 r2 r3 r4 r5 r6 r7
  have b3 := bounds_u64 w3
  have b4 := bounds_u64 w4
  exact ⟨⟨z0, z1, z2, z3, z4, z5, g, i⟩, rfl, ⟨bounds_i64 w0, bounds_i64 w1, bounds_i64 w2, ⟨b3.1, by show z3 < _; omega⟩, ⟨b4.1, by show z4 < _; omega⟩⟩⟩
set_option maxRecDepth 100000 in
/-- a script, as it stands -/
theorem open_ops {H : Type} {enc : TypeId × Value → H} {W : World} {base : Nat} {r : Reach} {b : Nat} {v : Value} {d : DataW H} {p : List MemPlace}
    (hv : Value.okWide Tryz.prog W r b 23 v) (h : DataW.Trod enc Tryz.prog W base (fun _ => true) true 23 v d p) (hlt : ∀ x ∈ p, x.block < W.heap.size) :
    ∃ (ad : Option Addr) (la cap ab ao : Nat) (X : Nat → OpV), v = .slice ad la cap ∧ Sc W ad la cap ab ao X := by
  obtain ⟨a0, len, cap, rfl⟩ := okWide_slice u_sIOp hv
  obtain ⟨fuel, hf⟩ := h
  rcases open_slice u_sIOp hf with ⟨hcs, hx⟩ | ⟨a, len', cap', m, n, D, Pl, hcs, _, hl, hm, hmm, hx, hel⟩
  · simp [Value.cells] at hcs
    obtain ⟨rfl, rfl, rfl⟩ := hcs
    exact ⟨none, 0, 0, 0, 0, fun _ => ⟨0, 0, 0, 0, 0, false, 0, 0⟩, rfl, ⟨Nat.le_refl _, by decide, fun q => absurd q (by decide), fun i hi => absurd hi (Nat.not_lt_zero i), fun i hi => absurd hi (Nat.not_lt_zero i)⟩⟩
  · simp [Value.cells] at hcs
    obtain ⟨rfl, rfl, rfl⟩ := hcs
    simp only [if_true] at hmm
    have each : ∀ i, ∃ X : OpV, i < len → OpB X ∧ ∀ j, j < 8 → W.cell? (a.add (i * 8 + j)) = X.cs[j]? := fun i => by
      rcases Nat.lt_or_ge i len with hi | hi
      · obtain ⟨cs', h1, h2⟩ := hel i (by omega)
        obtain ⟨X, rfl, b0⟩ := open_op h2
        rw [cells_op] at h1
        obtain ⟨_, hlen, hcell⟩ := World.cells?_some h1
        refine ⟨X, fun _ => ⟨b0, fun j hj => ?_⟩⟩
        have := hcell j hj
        rw [addr_two] at this
        exact this
      · exact ⟨⟨0, 0, 0, 0, 0, false, 0, 0⟩, fun q => by omega⟩
    obtain ⟨X, hX⟩ := Classical.axiomOfChoice each
    clear each
    have hbl : ∀ h0 : 0 < len, a.spot = none ∧ a.block < W.heap.size := fun h0 => by
      have k0 := (hX 0 h0).2 0 (by decide)
      refine ⟨by simpa [Addr.add] using World.cell?_spot k0, ?_⟩
      obtain ⟨cs', h1, _⟩ := hel 0 (by omega)
      rw [cells_op] at h1
      have := World.cells?_block h1 (by decide)
      simpa [Addr.add] using this
    obtain ⟨ab, ao, asp⟩ := a
    refine ⟨some ⟨ab, ao, asp⟩, len, cap, ab, ao, X, rfl, ⟨hl, by simpa [maxLen] using hm, fun h0 => ?_, fun i hi j hj => ?_, fun i hi => (hX i hi).1⟩⟩
    · obtain ⟨q1, q2⟩ := hbl h0
      obtain rfl : asp = none := q1
      exact ⟨rfl, q2⟩
    · obtain ⟨q1, q2⟩ := hbl (by omega)
      obtain rfl : asp = none := q1
      have k := (hX i hi).2 j hj
      rw [C.addr_add, ← Nat.add_assoc] at k
      exact k
end Go.Proofs.YtfoafgbhelgjcaaGreat
namespace Go.Proofs.YtfoafgbhelgjcaaGreat
open Go.RowKit
open C (Only hid Mem Still ret_int ret_bool put byt nu RMem hasB WB WB.cell Calls.wb wp_region_wb gst rdm)
set_option linter.unusedVariables false
set_option maxRecDepth 100000

/-- what the list says is what the table says -/
def MR (v : UV) (M : List MV) : Prop := ∀ d i, isDev d = true → 0 ≤ i → mto M d i = if i < 32 then (v.mg (d.toNat * 32 + i.toNat), v.mi (d.toNat * 32 + i.toNat)) else (0, 0)
theorem US.typ {w : World} {F : Nat → Prop} {u : Nat} {v : UV} {n : Nat} {f : Nat → Int} {room : Nat} {L : List E.TV} (h : US w F u v n f room L) {k : Nat} {c : Array Value} (hk : w.heap[k]? = some (.cells c 125 (0, 0))) : ¬ F k := by
  obtain ⟨S, g, h1, h2, h3, h4, -⟩ := h
  intro z
  rcases (h4 k).1 z with rfl | y | y
  · unfold Iu at h1; rw [h1] at hk; simp at hk
  · obtain ⟨Z, hZ, -, -⟩ := h3.row
    rcases y with rfl | rfl
    · have := hk.symm.trans h3.top; simp at this
    · have := Eq.trans (Eq.symm hk) hZ; simp at this
  · exact h2.typ hk (by decide) (by decide) (by decide) y
/-- both IOMMUs, beside one another -/
structure PW (w : World) (base : Nat) (F G : Nat → Prop) (u b q r : Nat) (v : UV) (n : Nat) (f : Nat → Int) (room : Nat) (L : List E.TV) (M : List MV) : Prop where
  us : US w F u v n f room L
  ds : DS w G base b q r v n f room L M
  dj : ∀ k, F k → ¬ G k
  bf : ∀ k, F k → base ≤ k
  bg : ∀ k, G k → base ≤ k
  nd : E.Nd L
  ms : MR v M
  sz : base ≤ w.heap.size
/-- the program's has been called, the document's not yet -/
structure PH (w : World) (base : Nat) (F G : Nat → Prop) (u b q r : Nat) (v : UV) (n : Nat) (f : Nat → Int) (room : Nat) (L : List E.TV) (M : List MV) (v' : UV) (f' : Nat → Int) (L' : List E.TV) : Prop where
  us : US w F u v' n f' room L'
  ds : DS w G base b q r v n f room L M
  dj : ∀ k, F k → ¬ G k
  bf : ∀ k, F k → base ≤ k
  bg : ∀ k, G k → base ≤ k
  sz : base ≤ w.heap.size
section
variable {w w' : World} {base : Nat} {F F' G G' : Nat → Prop} {u b q r : Nat} {v v' : UV} {n : Nat} {f f' : Nat → Int} {room : Nat} {L L' : List E.TV} {M M' : List MV}
theorem PW.below (h : PW w base F G u b q r v n f room L M) (hb : Below w.heap.size w w') : PW w' base F G u b q r v n f room L M :=
  ⟨h.us.below hb, h.ds.below hb, h.dj, h.bf, h.bg, h.nd, h.ms, Nat.le_trans h.sz hb.size⟩
theorem PH.below {v2 : UV} {f2 : Nat → Int} {L2 : List E.TV} (h : PH w base F G u b q r v n f room L M v2 f2 L2) (hb : Below w.heap.size w w') : PH w' base F G u b q r v n f room L M v2 f2 L2 :=
  ⟨h.us.below hb, h.ds.below hb, h.dj, h.bf, h.bg, Nat.le_trans h.sz hb.size⟩
theorem PW.prog (h : PW w base F G u b q r v n f room L M) (h1 : US w' F' u v' n f' room L') (t : Tn w F w' F') : PH w' base F' G u b q r v n f room L M v' f' L' :=
  ⟨h1, h.ds.only t.1 (fun k hk z => h.dj k z hk), fun k hk z => (t.2 k hk).elim (fun y => h.dj k y z) fun y => by have := h.ds.lt z; omega, fun k hk => (t.2 k hk).elim (h.bf k) fun y => Nat.le_trans h.sz y, h.bg, Nat.le_trans h.sz t.1.size⟩
theorem PH.doc (h : PH w base F G u b q r v n f room L M v' f' L') (h1 : DS w' G' base b q r v' n f' room L' M') (t : Td base w G w' G') (nd : E.Nd L') (ms : MR v' M') : PW w' base F G' u b q r v' n f' room L' M' := by
  have hu : US w' F u v' n f' room L' := h.us.only t.1 h.dj
  refine ⟨hu, h1, fun k hk z => ?_, h.bf, fun k hk => ?_, nd, ms, Nat.le_trans h.sz t.1.size⟩
  · rcases t.2 k z with y | y | ⟨-, c, y⟩
    · exact h.dj k hk y
    · have := h.us.lt hk; omega
    · exact hu.typ y hk
  · rcases t.2 k hk with y | y | ⟨y, -⟩
    · exact h.bg k y
    · exact Nat.le_trans h.sz y
    · exact y
theorem MR.same (h : MR v M) (e1 : v'.mg = v.mg) (e2 : v'.mi = v.mi) : MR v' M := fun d i hd i0 => by rw [e1, e2]; exact h d i hd i0
theorem rcV_mg (v : UV) : (rcV v).mg = v.mg ∧ (rcV v).mi = v.mi := by unfold rcV; cases rcB v <;> exact ⟨rfl, rfl⟩
theorem bkV_mg (v : UV) (k : Int) : (bkV v k).mg = v.mg ∧ (bkV v k).mi = v.mi := by unfold bkV; split; exact ⟨rfl, rfl⟩; exact rcV_mg v
theorem bkV_mt (v : UV) (k : Int) : (bkV v k).m = v.m ∧ (bkV v k).t = v.t := by unfold bkV; split; exact ⟨rfl, rfl⟩; exact ⟨rcV_m v, rcV_t v⟩
theorem acF_nd (h : E.Nd L) (d a s : Int) (wt : Bool) {k p : Int} (hk : acF n f v room L d a s wt = (k, p, L')) : E.Nd L' := by
  unfold acF at hk
  split at hk
  · cases hk; exact h
  · split at hk
    · cases hk; exact h
    · split at hk
      · cases hk; exact h
      · rename_i p0 L0 e0
        have : E.Nd L0 := by
          unfold fnd at e0
          split at e0
          · cases e0; exact h
          · split at e0
            · cases e0; exact E.Nd.pu h _ _
            · cases e0
        split at hk <;> (cases hk; exact this)
theorem MR.remap (h : MR v M) (d i g z : Int) (hd : isDev d = true) (i0 : 0 ≤ i) (i1 : i < 32) : MR (v.setMsi (d.toNat * 32 + i.toNat) g z) (M ++ [⟨d, i, g, z⟩]) := fun d' j hd' j0 => by
  rw [mto_snoc]
  obtain ⟨q0, q1⟩ := dev_cases hd
  obtain ⟨q2, q3⟩ := dev_cases hd'
  by_cases e : d = d' ∧ i = j
  · obtain ⟨rfl, rfl⟩ := e
    have : mhit ⟨d, i, g, z⟩ d i = true := by simp [mhit]
    rw [this, if_pos i1]
    simp [UV.setMsi, UV.setG, UV.setI, upd]
  · have : mhit ⟨d, i, g, z⟩ d' j = false := by
      simp only [mhit, Bool.and_eq_false_iff, decide_eq_false_iff_not]
      by_cases x : d = d'
      · exact .inr fun y => e ⟨x, y⟩
      · exact .inl x
    rw [this]
    show mto M d' j = _
    rw [h d' j hd' j0]
    by_cases j1 : j < 32
    · rw [if_pos j1, if_pos j1]
      have hne : ¬ d'.toNat * 32 + j.toNat = d.toNat * 32 + i.toNat := fun y => e ⟨by omega, by omega⟩
      simp [UV.setMsi, UV.setG, UV.setI, upd, hne]
    · rw [if_neg j1, if_neg j1]
end
/-- what is kept: blocks that were there ahead of both; a pair of both that lies beside them -/
def Kp (base : Nat) (w : World) (F G : Nat → Prop) (w' : World) (F' G' : Nat → Prop) : Prop := Below base w w' ∧ ∀ o c, w.heap[o]? = some (.cells c 31 (0, 0)) → ¬ F o → ¬ G o → w'.heap[o]? = some (.cells c 31 (0, 0)) ∧ ¬ F' o ∧ ¬ G' o
section
variable {w w' w'' : World} {base : Nat} {F F' F'' G G' G'' : Nat → Prop} {u b q r : Nat} {v v' : UV} {n : Nat} {f f' : Nat → Int} {room : Nat} {L L' : List E.TV} {M M' : List MV}
theorem Kp.below (hb : Below w.heap.size w w') (hs : base ≤ w.heap.size) : Kp base w F G w' F G := ⟨hb.mono hs, fun o c h h1 h2 => ⟨(hb.block o (lt_of_block h)).trans h, h1, h2⟩⟩
theorem Kp.trans (h : Kp base w F G w' F' G') (k : Kp base w' F' G' w'' F'' G'') : Kp base w F G w'' F'' G'' := ⟨h.1.trans k.1, fun o c h0 h1 h2 => by
  obtain ⟨a1, a2, a3⟩ := h.2 o c h0 h1 h2
  exact k.2 o c a1 a2 a3⟩
theorem PW.kp (h : PW w base F G u b q r v n f room L M) (t : Tn w F w' F') : Kp base w F G w' F' G := ⟨t.1.below base h.sz h.bf, fun o c h0 h1 h2 => ⟨t.1.old h0 h1, fun z => (t.2 o z).elim h1 fun y => by have := lt_of_block h0; omega, h2⟩⟩
theorem PH.kp (h : PH w base F G u b q r v n f room L M v' f' L') (t : Td base w G w' G') : Kp base w F G w' F G' := ⟨t.1.below base h.sz h.bg, fun o c h0 h1 h2 => ⟨t.1.old h0 h2, h1, fun z => by
  rcases t.2 o z with y | y | ⟨-, c', y⟩
  · exact h2 y
  · have := lt_of_block h0; omega
  · rw [t.1.old h0 h2] at y; simp at y⟩⟩
end
/-- what a call of a script leaves -/
def PQ (w w' : World) (base : Nat) (F G : Nat → Prop) (u b q r n room : Nat) (t m c : Nat) : Prop := ∃ F' G' v f L M, PW w' base F' G' u b q r v n f room L M ∧ Kp base w F G w' F' G' ∧ M.length ≤ c + 1 ∧ v.t = t ∧ v.m = m
/-- the blocks of a call: both IOMMUs, the call itself -/
structure BX (w : World) (o x : Nat) (u b m q : Nat) (X : OpV) : Prop where
  on : w.heap[o]? = some (.cells #[.pointer (some ⟨u, 0, none⟩), .pointer (some ⟨b, 0, none⟩), .pointer (some ⟨m, 0, none⟩), .pointer (some ⟨q, 0, none⟩)] 31 (0, 0))
  op : w.heap[x]? = some (.cells #[.int .i64 X.kind, .int .i64 X.dev, .int .i64 X.size, .int .u64 X.addr, .int .u64 X.data, .bool X.write, .int .i64 X.guest, .int .i64 X.irq] 40 (0, 0))
section
variable {w w' : World} {o x u b m q : Nat} {X : OpV}
theorem BX.only (h : BX w o x u b m q X) {T : Nat → Prop} (ho : Only T w w') (h1 : ¬ T o) (h2 : ¬ T x) : BX w' o x u b m q X := ⟨ho.old h.on h1, ho.old h.op h2⟩
theorem BX.below (h : BX w o x u b m q X) (hb : Below w.heap.size w w') : BX w' o x u b m q X := h.only (T := fun _ => False) (Only.ofBelow hb) (fun z => z) (fun z => z)
theorem BX.cu (h : BX w o x u b m q X) : w.cell? ⟨o, 0, none⟩ = some (.pointer (some ⟨u, 0, none⟩)) := by rw [cell_of_row w _ 0 _ _ _ h.on]; rfl
theorem BX.cb (h : BX w o x u b m q X) : w.cell? ⟨o, 1, none⟩ = some (.pointer (some ⟨b, 0, none⟩)) := by rw [cell_of_row w _ 1 _ _ _ h.on]; rfl
theorem BX.c1 (h : BX w o x u b m q X) : w.cell? ⟨x, 1, none⟩ = some (.int .i64 X.dev) := by rw [cell_of_row w _ 1 _ _ _ h.op]; rfl
theorem BX.c2 (h : BX w o x u b m q X) : w.cell? ⟨x, 2, none⟩ = some (.int .i64 X.size) := by rw [cell_of_row w _ 2 _ _ _ h.op]; rfl
theorem BX.c3 (h : BX w o x u b m q X) : w.cell? ⟨x, 3, none⟩ = some (.int .u64 X.addr) := by rw [cell_of_row w _ 3 _ _ _ h.op]; rfl
theorem BX.c4 (h : BX w o x u b m q X) : w.cell? ⟨x, 4, none⟩ = some (.int .u64 X.data) := by rw [cell_of_row w _ 4 _ _ _ h.op]; rfl
theorem BX.c5 (h : BX w o x u b m q X) : w.cell? ⟨x, 5, none⟩ = some (.bool X.write) := by rw [cell_of_row w _ 5 _ _ _ h.op]; rfl
theorem BX.c6 (h : BX w o x u b m q X) : w.cell? ⟨x, 6, none⟩ = some (.int .i64 X.guest) := by rw [cell_of_row w _ 6 _ _ _ h.op]; rfl
theorem BX.c7 (h : BX w o x u b m q X) : w.cell? ⟨x, 7, none⟩ = some (.int .i64 X.irq) := by rw [cell_of_row w _ 7 _ _ _ h.op]; rfl
end
end Go.Proofs.YtfoafgbhelgjcaaGreat
namespace Go.Proofs.YtfoafgbhelgjcaaGreat
open Go.RowKit
open C (Only hid Mem Still ret_int ret_bool put byt nu RMem hasB WB WB.cell Calls.wb wp_region_wb gst rdm c_Place)
set_option linter.unusedVariables false
set_option maxRecDepth 100000

set_option maxHeartbeats 2000000 in
theorem do_0 (w : World) (base : Nat) (F G : Nat → Prop) (u b q r : Nat) (v : UV) (n : Nat) (f : Nat → Int) (room : Nat) (L : List E.TV) (M : List MV) (h : PW w base F G u b q r v n f room L M) (X : OpV) (hX : OpB X) (hk : X.kind % 11 = 0) :
    Calls Tryz.prog 6 #[.agg #[.pointer (some ⟨u, 0, none⟩), .pointer (some ⟨b, 0, none⟩), .pointer (some ⟨v.m, 0, none⟩), .pointer (some ⟨q, 0, none⟩)], .agg #[.int .i64 X.kind, .int .i64 X.dev, .int .i64 X.size, .int .u64 X.addr, .int .u64 X.data, .bool X.write, .int .i64 X.guest, .int .i64 X.irq]] w fun e w' => e = .returned (.bool true) ∧ PQ w w' base F G u b q r n room v.t v.m M.length := by
  obtain ⟨k0, k1⟩ := hX.kind
  obtain ⟨d0, d1⟩ := hX.dev
  obtain ⟨s0, s1⟩ := hX.size
  obtain ⟨a0, a1⟩ := hX.addr
  obtain ⟨i0, i1⟩ := hX.data
  have HK := hid hk
  have hlt := fun k => @US.lt _ _ _ _ _ _ _ _ h.us k
  have hlg := fun k => @DS.lt _ _ _ _ _ _ _ _ _ _ _ _ h.ds k
  have HP := hid h
  clear h hX hk
  go_enter Tryz.func6, Tryz.ntmps6
  go_wp2_with fail
  obtain ⟨wa, hwa⟩ : ∃ wa, (w.alloc (.cells #[.pointer (some ⟨u, 0, none⟩), .pointer (some ⟨b, 0, none⟩), .pointer (some ⟨v.m, 0, none⟩), .pointer (some ⟨q, 0, none⟩)] 31)).alloc (.cells #[.int .i64 X.kind, .int .i64 X.dev, .int .i64 X.size, .int .u64 X.addr, .int .u64 X.data, .bool X.write, .int .i64 X.guest, .int .i64 X.irq] 40) = wa := ⟨_, rfl⟩
  have HBa : Hid (Below w.heap.size w wa) := hwa ▸ ((Below.refl _ _).alloc (Nat.le_refl _) _).alloc (by simp) _
  have HB0 : Hid (BX wa w.heap.size (w.heap.size + 1) u b v.m q X) := by
    refine ⟨?_, ?_⟩
    · rw [← hwa]; exact (Below.heap_alloc _ _ _ (by simp)).trans (heap_alloc_new w _)
    · rw [← hwa]
      have := heap_alloc_new (w.alloc (.cells #[.pointer (some ⟨u, 0, none⟩), .pointer (some ⟨b, 0, none⟩), .pointer (some ⟨v.m, 0, none⟩), .pointer (some ⟨q, 0, none⟩)] 31)) (.cells #[.int .i64 X.kind, .int .i64 X.dev, .int .i64 X.size, .int .u64 X.addr, .int .u64 X.data, .bool X.write, .int .i64 X.guest, .int .i64 X.irq] 40)
      rwa [show (w.alloc (.cells #[.pointer (some ⟨u, 0, none⟩), .pointer (some ⟨b, 0, none⟩), .pointer (some ⟨v.m, 0, none⟩), .pointer (some ⟨q, 0, none⟩)] 31)).heap.size = w.heap.size + 1 by simp] at this
  rw [hwa]
  clear hwa
  have HPa := hid (HP.out.below HBa.out)
  have HW0 : Hid (Kp base w F G wa F G) := Kp.below HBa.out HP.out.sz
  have nF0 : ¬ F w.heap.size := fun z => by have := hlt _ z; omega
  have nF1 : ¬ F (w.heap.size + 1) := fun z => by have := hlt _ z; omega
  have nG0 : ¬ G w.heap.size := fun z => by have := hlg _ z; omega
  have nG1 : ¬ G (w.heap.size + 1) := fun z => by have := hlg _ z; omega
  have HN := hid (And.intro nF0 (And.intro nF1 (And.intro nG0 nG1)))
  clear nF0 nF1 nG0 nG1 hlt hlg
  generalize w.heap.size + 1 = xb at *
  generalize hob : w.heap.size = ob at *
  go_at_call 16
  refine (c_Place X.kind 11 (by decide) (by decide) k0 k1 _).mono ?_
  rw [HK.out]
  rintro e wz ⟨rfl, hwz⟩
  obtain rfl := hwz.symm
  have tcu := HB0.out.cu
  have tcb := HB0.out.cb
  have tc1 := HB0.out.c1
  have tc2 := HB0.out.c2
  have tc3 := HB0.out.c3
  have tc5 := HB0.out.c5
  cases hd : isDev X.dev
  · go_wp2_with (first
      | (go_at_call 17; refine (m_Access_no _ u X.dev X.addr X.size X.write hd).mono ?_; rintro e w1 ⟨rfl, hw1⟩; obtain rfl := hw1.symm)
      | (go_at_call 18; refine (k_Access_no _ b X.dev X.addr X.size X.write hd).mono ?_; rintro e w2 ⟨rfl, hw2⟩; obtain rfl := hw2.symm))
    go_ret
    exact ⟨rfl, F, G, v, f, L, M, HPa.out, HW0.out, by omega, rfl, rfl⟩
  · obtain ⟨kk, p, L', hac⟩ : ∃ kk p L', acF n f v room L X.dev X.addr X.size X.write = (kk, p, L') := ⟨_, _, _, rfl⟩
    have HAC := hid hac
    clear hac
    obtain ⟨r0, r1, r2⟩ := HP.out.us.r0
    go_wp2_with (first
      | (go_at_call 17; refine (s_Access _ F u v n f room L HPa.out.us X.dev X.addr X.size X.write hd a0 a1 s0 s1 kk p L' HAC.out).mono ?_; rintro e w1 ⟨rfl, F', hu1, t1⟩; have HB1 := hid (HB0.out.only t1.1 HN.out.1 HN.out.2.1); have HW1 := hid (HW0.out.trans (HPa.out.kp t1)); have H1 := hid (HPa.out.prog hu1 t1); clear hu1 t1; clear tcu tcb tc1 tc2 tc3 tc5; have tcu := HB1.out.cu; have tcb := HB1.out.cb; have tc1 := HB1.out.c1; have tc2 := HB1.out.c2; have tc3 := HB1.out.c3; have tc5 := HB1.out.c5)
      | (go_at_call 18; refine (d_Access _ G base b q r v n f room L M H1.out.ds X.dev X.addr X.size X.write hd a0 a1 s0 s1 r0 r2 HP.out.nd kk p L' HAC.out).mono ?_; rintro e w2 ⟨rfl, G', hd2, t2⟩; have H2 := hid (H1.out.doc hd2 t2 (acF_nd HP.out.nd _ _ _ _ HAC.out) (HP.out.ms.same (bkV_mg v kk).1 (bkV_mg v kk).2)); have HW2 := hid (HW1.out.trans (H1.out.kp t2)); clear hd2 t2))
    go_ret
    exact ⟨ret_bool (by simp), F', G', _, _, L', M, H2.out, HW2.out, by omega, (bkV_mt v kk).2, (bkV_mt v kk).1⟩
end Go.Proofs.YtfoafgbhelgjcaaGreat
namespace Go.Proofs.YtfoafgbhelgjcaaGreat
open Go.RowKit
open C (Only hid Mem Still ret_int ret_bool put byt nu RMem hasB WB WB.cell Calls.wb wp_region_wb gst rdm c_Place)
set_option linter.unusedVariables false
set_option maxRecDepth 100000

theorem under_msi7 : Tryz.prog.underlying 38 = some (.struct (Tryz.prog.fieldsOf 38)) := by kernel_rfl
theorem stood_msi7 : Tryz.prog.stoodInHeld 38 = false := by kernel_rfl
theorem run_eqM (x y : Int) (w : World) : (Op.equalIn 10000 38 (.agg #[.int .i64 x, .int .i64 y]) (.agg #[.int .i64 x, .int .i64 y])).run Tryz.prog w = .ok true w := by
  rw [run_equalIn_struct w 9999 38 _ _ under_msi7 stood_msi7]
  go_simp
set_option maxHeartbeats 2000000 in
theorem do_1g (w : World) (base : Nat) (F G : Nat → Prop) (u b q r : Nat) (v : UV) (n : Nat) (f : Nat → Int) (room : Nat) (L : List E.TV) (M : List MV) (h : PW w base F G u b q r v n f room L M) (X : OpV) (hX : OpB X) (hk : X.kind % 11 = 1) (A B : Int) (c : Bool) (v' : UV) (f' : Nat → Int) (ms : MR v' M) (et : v'.t = v.t) (em : v'.m = v.m) (hP : ∀ wa, US wa F u v n f room L → Calls Tryz.prog 15 #[.pointer (some ⟨u, 0, none⟩), .int .i64 X.dev, .int .u64 X.addr, .int .u64 X.data] wa fun e w1 => e = .returned (.tuple #[.agg #[.int .i64 A, .int .i64 B], .bool c]) ∧ ∃ F', US w1 F' u v' n f' room L ∧ Tn wa F w1 F') (hD : ∀ w1, DS w1 G base b q r v n f room L M → Calls Tryz.prog 19 #[.pointer (some ⟨b, 0, none⟩), .int .i64 X.dev, .int .u64 X.addr, .int .u64 X.data] w1 fun e w2 => e = .returned (.tuple #[.agg #[.int .i64 A, .int .i64 B], .bool c]) ∧ ∃ G', DS w2 G' base b q r v' n f' room L M ∧ Td base w1 G w2 G') :
    Calls Tryz.prog 6 #[.agg #[.pointer (some ⟨u, 0, none⟩), .pointer (some ⟨b, 0, none⟩), .pointer (some ⟨v.m, 0, none⟩), .pointer (some ⟨q, 0, none⟩)], .agg #[.int .i64 X.kind, .int .i64 X.dev, .int .i64 X.size, .int .u64 X.addr, .int .u64 X.data, .bool X.write, .int .i64 X.guest, .int .i64 X.irq]] w fun e w' => e = .returned (.bool true) ∧ PQ w w' base F G u b q r n room v.t v.m M.length := by
  obtain ⟨k0, k1⟩ := hX.kind
  obtain ⟨d0, d1⟩ := hX.dev
  obtain ⟨s0, s1⟩ := hX.size
  obtain ⟨a0, a1⟩ := hX.addr
  obtain ⟨i0, i1⟩ := hX.data
  have HK := hid hk
  have hlt := fun k => @US.lt _ _ _ _ _ _ _ _ h.us k
  have hlg := fun k => @DS.lt _ _ _ _ _ _ _ _ _ _ _ _ h.ds k
  have HP := hid h
  clear h hX hk
  go_enter Tryz.func6, Tryz.ntmps6
  go_wp2_with fail
  obtain ⟨wa, hwa⟩ : ∃ wa, (w.alloc (.cells #[.pointer (some ⟨u, 0, none⟩), .pointer (some ⟨b, 0, none⟩), .pointer (some ⟨v.m, 0, none⟩), .pointer (some ⟨q, 0, none⟩)] 31)).alloc (.cells #[.int .i64 X.kind, .int .i64 X.dev, .int .i64 X.size, .int .u64 X.addr, .int .u64 X.data, .bool X.write, .int .i64 X.guest, .int .i64 X.irq] 40) = wa := ⟨_, rfl⟩
  have HBa : Hid (Below w.heap.size w wa) := hwa ▸ ((Below.refl _ _).alloc (Nat.le_refl _) _).alloc (by simp) _
  have HB0 : Hid (BX wa w.heap.size (w.heap.size + 1) u b v.m q X) := by
    refine ⟨?_, ?_⟩
    · rw [← hwa]; exact (Below.heap_alloc _ _ _ (by simp)).trans (heap_alloc_new w _)
    · rw [← hwa]
      have := heap_alloc_new (w.alloc (.cells #[.pointer (some ⟨u, 0, none⟩), .pointer (some ⟨b, 0, none⟩), .pointer (some ⟨v.m, 0, none⟩), .pointer (some ⟨q, 0, none⟩)] 31)) (.cells #[.int .i64 X.kind, .int .i64 X.dev, .int .i64 X.size, .int .u64 X.addr, .int .u64 X.data, .bool X.write, .int .i64 X.guest, .int .i64 X.irq] 40)
      rwa [show (w.alloc (.cells #[.pointer (some ⟨u, 0, none⟩), .pointer (some ⟨b, 0, none⟩), .pointer (some ⟨v.m, 0, none⟩), .pointer (some ⟨q, 0, none⟩)] 31)).heap.size = w.heap.size + 1 by simp] at this
  rw [hwa]
  clear hwa
  have HPa := hid (HP.out.below HBa.out)
  have HW0 : Hid (Kp base w F G wa F G) := Kp.below HBa.out HP.out.sz
  have nF0 : ¬ F w.heap.size := fun z => by have := hlt _ z; omega
  have nF1 : ¬ F (w.heap.size + 1) := fun z => by have := hlt _ z; omega
  have nG0 : ¬ G w.heap.size := fun z => by have := hlg _ z; omega
  have nG1 : ¬ G (w.heap.size + 1) := fun z => by have := hlg _ z; omega
  have HN := hid (And.intro nF0 (And.intro nF1 (And.intro nG0 nG1)))
  clear nF0 nF1 nG0 nG1 hlt hlg
  generalize w.heap.size + 1 = xb at *
  generalize hob : w.heap.size = ob at *
  go_at_call 16
  refine (c_Place X.kind 11 (by decide) (by decide) k0 k1 _).mono ?_
  rw [HK.out]
  rintro e wz ⟨rfl, hwz⟩
  obtain rfl := hwz.symm
  have tcu := HB0.out.cu
  have tcb := HB0.out.cb
  have tc1 := HB0.out.c1
  have tc3 := HB0.out.c3
  have tc4 := HB0.out.c4
  have HPc := hid hP
  have HDc := hid hD
  have heq := run_eqM
  clear hP hD
  go_wp2_with (go_at_call 15; refine (HPc.out _ HPa.out.us).mono ?_; rintro e w1 ⟨rfl, F', hu1, t1⟩; have HB1 := hid (HB0.out.only t1.1 HN.out.1 HN.out.2.1); have HW1 := hid (HW0.out.trans (HPa.out.kp t1)); have H1 := hid (HPa.out.prog hu1 t1); clear hu1 t1; clear tcu tcb tc1 tc3 tc4; have tcu := HB1.out.cu; have tcb := HB1.out.cb; have tc1 := HB1.out.c1; have tc3 := HB1.out.c3; have tc4 := HB1.out.c4; have lo := lt_of_block HB1.out.on; have lx := lt_of_block HB1.out.op)
  obtain ⟨wc, hwc⟩ : ∃ wc, w1.alloc (.cells #[.int .i64 A, .int .i64 B] 38) = wc := ⟨_, rfl⟩
  have HBc : Hid (Below w1.heap.size w1 wc) := hwc ▸ (Below.refl _ _).alloc (Nat.le_refl _) _
  have HMb : Hid (wc.heap[w1.heap.size]? = some (.cells #[.int .i64 A, .int .i64 B] 38 (0, 0))) := hwc ▸ heap_alloc_new w1 _
  have H1c := hid (H1.out.below HBc.out)
  have nGr : ¬ G w1.heap.size := fun z => by have := H1.out.ds.lt z; omega
  rw [hwc]
  clear hwc
  go_at_call 19
  refine (HDc.out _ H1c.out.ds).mono ?_
  rintro e w2 ⟨rfl, G', hd2, t2⟩
  have H2 := hid (H1c.out.doc hd2 t2 HP.out.nd ms)
  have HW2 := hid ((HW1.out.trans (Kp.below HBc.out H1.out.sz)).trans (H1c.out.kp t2))
  have hb2 := t2.1.old HMb.out nGr
  have HL2 := hid (lt_of_block hb2)
  have hl2 := lt_of_block hb2
  have y0 : w2.cell? ⟨w1.heap.size, 0, none⟩ = some (.int .i64 A) := by rw [cell_of_row w2 _ 0 _ _ _ hb2]; rfl
  have y1 : w2.cell? ⟨w1.heap.size, 1, none⟩ = some (.int .i64 B) := by rw [cell_of_row w2 _ 1 _ _ _ hb2]; rfl
  clear hd2 t2 hb2 tcu tcb tc1 tc3 tc4
  go_wp2_with fail
  go_ret
  exact ⟨ret_bool (by simp), F', G', v', f', L, M, H2.out.below ((Below.refl _ _).alloc (Nat.le_refl _) _), HW2.out.trans (Kp.below ((Below.refl _ _).alloc (Nat.le_refl _) _) H2.out.sz), by omega, et, em⟩
end Go.Proofs.YtfoafgbhelgjcaaGreat
