/- A script's length out of its weight. -/
import Derived.Test.YtmdconecigenfaaGreatMH4
import Derived.Test.YtmdconecigenfaaGreatMH6
import Derived.Test.YtmdconecigenfaaGreatMH3
namespace Go.Proofs.YtmdconecigenfaaGreat
open Go.ChangeShapes Go.WideShapes Go.ChangeAt Go.RowKit Go.Deep
set_option linter.unusedVariables false

set_option maxRecDepth 100000 in
theorem eops_len {H : Type} {enc : TypeId × Value → H} {W : World} {base : Nat} {ad : Option Addr} {la cap : Nat} {d : DataW H} {p : List MemPlace} (h : DataW.Trod enc Tryz.prog W base (fun _ => true) true 23 (.slice ad la cap) d p) (hw : ∀ n ∈ d.weights Tryz.prog 23, n ≤ reachBytes) : la ≤ 2199023255552 := by
  obtain ⟨fuel, hf⟩ := h
  rcases open_slice u_sEOp hf with ⟨hcs, hx⟩ | ⟨a, len', cap', m, n, D, Pl, hcs, _, hl, hm, hmm, hx, hel⟩
  · simp [Value.cells] at hcs
    obtain ⟨rfl, rfl, rfl⟩ := hcs
    exact Nat.zero_le _
  · simp [Value.cells] at hcs
    obtain ⟨rfl, rfl, rfl⟩ := hcs
    simp only [Prod.mk.injEq] at hx
    obtain ⟨rfl, rfl⟩ := hx
    have h2 := hw ((((List.range la).map D).length + ((List.range (m - la)).map fun j => D (la + j)).length) * Tryz.prog.bytesOf 81) (by simp [DataW.weights])
    rw [bytes_eop] at h2
    simp [reachBytes] at h2
    omega
end Go.Proofs.YtmdconecigenfaaGreat
namespace Go.Proofs.YtmdconecigenfaaGreat
open Go.RowKit
open C (Only hid Mem Still ret_int ret_bool put byt nu hasB)
set_option linter.unusedVariables false
set_option maxRecDepth 100000

/-- the state of an IOMMU over its memory -/
structure Us where
  v : UV
  f : Nat → Int
  L : List E.TV
def gU (u : Nat) : Value := .iface 24 (.pointer (some ⟨u, 0, none⟩))
def UG (u n room m t : Nat) (dev : Int) : Gate where
  σ := Us
  R w F s := US w F u s.v n s.f room s.L ∧ s.v.m = m ∧ s.v.t = t
  acc s a wt := ((acF n s.f s.v room s.L dev a 8 wt).2.1, decide ((acF n s.f s.v room s.L dev a 8 wt).1 = 0), ⟨bkV s.v (acF n s.f s.v room s.L dev a 8 wt).1, bkF s.v s.f dev (acF n s.f s.v room s.L dev a 8 wt).1 a, (acF n s.f s.v room s.L dev a 8 wt).2.2⟩)
  vld s p := hasB 0 n p 8 = true
  rd s p := nu (fun j => s.f ((p - 0).toNat + j)) 8
  st s p x := ⟨s.v, put s.f (p - 0).toNat 8 (byt x), s.L⟩
  msg s a d := bif goes s.v dev a d then (s.v.mg (dev.toNat * 32 + d.toNat), s.v.mi (dev.toNat * 32 + d.toNat), true, s) else (0, 0, false, ⟨rcV s.v, rcF s.v s.f dev 5 a, s.L⟩)
theorem us_sep {w : World} {F : Nat → Prop} {u : Nat} {v : UV} {n : Nat} {f : Nat → Int} {room : Nat} {L : List E.TV} (h : US w F u v n f room L) (k : Nat) (hk : F k) : ∃ c t fr, w.heap[k]? = some (.cells c t fr) ∧ (t = 56 ∨ t = 130 ∨ t = 127 ∨ t = 157 ∨ t = 158 ∨ t = 160) := by
  obtain ⟨S, g, h1, h2, h3, h4, -⟩ := h
  rcases (h4 k).1 hk with rfl | y | y
  · exact ⟨_, _, _, h1, .inl rfl⟩
  · obtain ⟨Z, hZ, -, -⟩ := h3.row
    rcases y with rfl | rfl
    · exact ⟨_, _, _, h3.top, .inr (.inl rfl)⟩
    · exact ⟨_, _, _, hZ, .inr (.inr (.inl rfl))⟩
  · obtain ⟨c, t, fr, q, z⟩ := mem_sep h2 k y
    exact ⟨c, t, fr, q, .inr (.inr (.inr z))⟩
theorem us_Write {w : World} {F : Nat → Prop} {u : Nat} {v : UV} {n : Nat} {f : Nat → Int} {room : Nat} {L : List E.TV} (h : US w F u v n f room L) (p x : Int) (hp : hasB 0 n p 8 = true) (x0 : 0 ≤ x) (x1 : x < 18446744073709551616) :
    Calls Tryz.prog 81 #[.pointer (some ⟨v.m, 0, none⟩), .int .u64 p, .int .i64 8, .int .u64 x] w fun e w' => e = .returned (.bool true) ∧ ∃ F', US w' F' u v n (put f (p - 0).toNat 8 (byt x)) room L ∧ Tn w F w' F' := by
  obtain ⟨S, g, h1, h2, h3, h4, h5⟩ := h
  obtain ⟨q1, q2⟩ := has_off hp
  refine (C.c_Write w S v.m 0 n f h2 (p - 0).toNat 8 q1 (by decide) p q2 x x0 x1).mono ?_
  rintro e w' ⟨S', rfl, i1, i2, i3⟩
  have nu' : ¬ S u := iu_mem h2 h1
  have nt : ∀ k, E.Ft v.t g k → ¬ S k := fun k hk z => by
    obtain ⟨Z, hZ, -, -⟩ := h3.row
    rcases hk with rfl | rfl
    · exact h2.typ h3.top (by decide) (by decide) (by decide) z
    · exact h2.typ hZ (by decide) (by decide) (by decide) z
  refine ⟨rfl, fun k => k = u ∨ E.Ft v.t g k ∨ S' k, ⟨S', g, h1.only i2 nu', i1, h3.only i2 nt, fun k => Iff.rfl, h5⟩, i2.mono fun k _ z => (h4 k).2 (.inr (.inr z)), fun k z => ?_⟩
  rcases z with z | z | z
  · exact .inl ((h4 k).2 (.inl z))
  · exact .inl ((h4 k).2 (.inr (.inl z)))
  · exact (i3 k z).imp (fun y => (h4 k).2 (.inr (.inr y))) id
theorem us_mem {w : World} {F : Nat → Prop} {u : Nat} {v : UV} {n : Nat} {f : Nat → Int} {room : Nat} {L : List E.TV} (h : US w F u v n f room L) : ∃ S, Mem w S v.m 0 n f := by obtain ⟨S, g, h1, h2, -⟩ := h; exact ⟨S, h2⟩
theorem acF_0 {n : Nat} {f : Nat → Int} {v : UV} {room : Nat} {L : List E.TV} {d a s : Int} {wt : Bool} (h : (acF n f v room L d a s wt).1 = 0) : hasB 0 n (acF n f v room L d a s wt).2.1 s = true := by
  revert h
  unfold acF
  split
  · intro h; cases h
  · split
    · intro h; cases h
    · split
      · intro h; cases h
      · split
        · next z => intro _; exact z
        · intro h; cases h
theorem bk_m (v : UV) (k : Int) : (bkV v k).m = v.m := by unfold bkV; split; rfl; exact rcV_m v
theorem bk_t (v : UV) (k : Int) : (bkV v k).t = v.t := by unfold bkV; split; rfl; exact rcV_t v
theorem ug_cA (u : Nat) (args : Array Value) (w : World) : (callMethod (gU u) "Access" args).run Tryz.prog w = .ok (.enter 22 (#[.pointer (some ⟨u, 0, none⟩)] ++ args)) w := by
  rfl
theorem ug_cM (u : Nat) (args : Array Value) (w : World) : (callMethod (gU u) "Message" args).run Tryz.prog w = .ok (.enter 63 (#[.pointer (some ⟨u, 0, none⟩)] ++ args)) w := by
  rfl
theorem ugC (u n room m t : Nat) (dev : Int) (hd : isDev dev = true) : GateC (UG u n room m t dev) 24 (.pointer (some ⟨u, 0, none⟩)) m dev 22 63 (.pointer (some ⟨u, 0, none⟩)) where
  cA := ug_cA u
  cM := ug_cM u
  sep w F s h k hk := by
    obtain ⟨c, t, f, q, z⟩ := us_sep h.1 k hk
    exact ⟨c, t, f, q, by rcases z with rfl | rfl | rfl | rfl | rfl | rfl <;> decide⟩
  only w F s h w' T ho hd := ⟨h.1.only ho hd, h.2⟩
  A w F s h a wt a0 a1 := (s_Access w F u s.v n s.f room s.L h.1 dev a 8 wt hd a0 a1 (by decide) (by decide) _ _ _ rfl).mono (by
    rintro e w' ⟨rfl, F', h1, h2⟩
    exact ⟨rfl, F', ⟨h1, (bk_m _ _).trans h.2.1, (bk_t _ _).trans h.2.2⟩, h2⟩)
  ok s a wt h := acF_0 (of_decide_eq_true h)
  kp s a wt p h := h
  Rd w F s h p hp := by
    obtain ⟨h1, h2⟩ := has_off hp
    obtain ⟨S, hm⟩ := us_mem h.1
    rw [h.2.1] at hm
    exact C.c_Read w S m 0 n s.f hm (p - 0).toNat 8 h1 (by decide) p h2
  rb w F s h p := C.nu_lt (fun j => s.f ((p - 0).toNat + j)) (fun j => h.1.byt _) 8
  W w F s h p x hp x0 x1 := by
    have := us_Write h.1 p x hp x0 x1
    rw [h.2.1] at this
    refine this.mono ?_
    rintro e w' ⟨rfl, F', h1, h2⟩
    exact ⟨rfl, F', ⟨h1, h.2⟩, h2⟩
  M w F s h a d a0 a1 d0 d1 := by
    cases hg : goes s.v dev a d
    · have e1 : (UG u n room m t dev).msg s a d = (0, 0, false, ⟨rcV s.v, rcF s.v s.f dev 5 a, s.L⟩) := by show (bif goes s.v dev a d then _ else _) = _; rw [hg]; rfl
      rw [e1]
      refine (s_Message_bad w F u s.v n s.f room s.L h.1 dev a d hd a0 a1 d0 hg).mono ?_
      rintro e w' ⟨rfl, F', h1, h2⟩
      exact ⟨rfl, F', ⟨h1, (rcV_m _).trans h.2.1, (rcV_t _).trans h.2.2⟩, h2⟩
    · have e1 : (UG u n room m t dev).msg s a d = (s.v.mg (dev.toNat * 32 + d.toNat), s.v.mi (dev.toNat * 32 + d.toNat), true, s) := by show (bif goes s.v dev a d then _ else _) = _; rw [hg]; rfl
      rw [e1]
      simp only [goes, Bool.and_eq_true, decide_eq_true_eq] at hg
      obtain ⟨⟨rfl, g2⟩, g3⟩ := hg
      refine (m_Message_go w u s.v h.1.iu dev d hd d0 g2 g3).mono ?_
      rintro e w' ⟨rfl, hb⟩
      exact ⟨rfl, F, ⟨h.1.below hb, h.2⟩, .ofBelow hb⟩
end Go.Proofs.YtmdconecigenfaaGreat
namespace Go.Proofs.YtmdconecigenfaaGreat
open Go.RowKit
open C (Only hid Mem Still ret_int ret_bool put byt nu RMem hasB)
set_option linter.unusedVariables false
set_option maxRecDepth 100000

/-- its cells: memory, TLB, roots, the list of messages' places, the ring, the flag -/
def RU (q r : Nat) (v : UV) (mv : Value) : Array Value := #[.pointer (some ⟨q, 0, none⟩), .pointer (some ⟨r, 0, none⟩), .int .u64 (v.root 0), .int .u64 (v.root 1), .int .u64 (v.root 2), .int .u64 (v.root 3), .int .u64 (v.root 4), .int .u64 (v.root 5), .int .u64 (v.root 6), .int .u64 (v.root 7), mv, .int .u64 v.addr, .bool v.there, .int .i64 v.first, .int .i64 v.count, .bool v.lost]
def Ru (w : World) (b q r : Nat) (v : UV) (mv : Value) : Prop := w.heap[b]? = some (.cells (RU q r v mv) 62 (0, 0))
section
variable {w w' : World} {b q r : Nat} {v v' : UV} {mv mv' : Value}
theorem Ru.lt (h : Ru w b q r v mv) : b < w.heap.size := lt_of_block h
theorem Ru.c (h : Ru w b q r v mv) (k : Nat) : w.cell? ⟨b, k, none⟩ = (RU q r v mv)[k]? := cell_of_row w b k _ _ _ h
theorem Ru.z (h : Ru w b q r v mv) (k : Nat) : w.frozen? ⟨b, k, none⟩ = false := frozen_of_row w b k _ _ h
theorem Ru.only (h : Ru w b q r v mv) {T : Nat → Prop} (ho : Only T w w') (hb : ¬ T b) : Ru w' b q r v mv := ho.old h hb
theorem Ru.below (h : Ru w b q r v mv) (hb : Below w.heap.size w w') : Ru w' b q r v mv := (hb.block b h.lt).trans h
theorem Ru.set (h : Ru w b q r v mv) (k : Nat) (x : Value) (he : (RU q r v mv).setIfInBounds k x = RU q r v' mv') : Ru (w.setCell ⟨b, k, none⟩ x) b q r v' mv' := by
  unfold Ru
  rw [setCell_eq_setRow w b k _ _ (0, 0) x h, he]
  exact setRow_heap w b _ _ _ _ h
theorem Ru.c0 (h : Ru w b q r v mv) : w.cell? ⟨b, 0, none⟩ = some (.pointer (some ⟨q, 0, none⟩)) := h.c 0
theorem Ru.c1 (h : Ru w b q r v mv) : w.cell? ⟨b, 1, none⟩ = some (.pointer (some ⟨r, 0, none⟩)) := h.c 1
theorem Ru.c10 (h : Ru w b q r v mv) : w.cell? ⟨b, 10, none⟩ = some mv := h.c 10
theorem Ru.c11 (h : Ru w b q r v mv) : w.cell? ⟨b, 11, none⟩ = some (.int .u64 v.addr) := h.c 11
theorem Ru.c12 (h : Ru w b q r v mv) : w.cell? ⟨b, 12, none⟩ = some (.bool v.there) := h.c 12
theorem Ru.c13 (h : Ru w b q r v mv) : w.cell? ⟨b, 13, none⟩ = some (.int .i64 v.first) := h.c 13
theorem Ru.c14 (h : Ru w b q r v mv) : w.cell? ⟨b, 14, none⟩ = some (.int .i64 v.count) := h.c 14
theorem Ru.c15 (h : Ru w b q r v mv) : w.cell? ⟨b, 15, none⟩ = some (.bool v.lost) := h.c 15
theorem Ru.cr (h : Ru w b q r v mv) (d : Nat) (hd : d < 8) : w.cell? ⟨b, 2 + d, none⟩ = some (.int .u64 (v.root d)) := by
  rw [h.c]
  match d, hd with
  | 0, _ => rfl
  | 1, _ => rfl
  | 2, _ => rfl
  | 3, _ => rfl
  | 4, _ => rfl
  | 5, _ => rfl
  | 6, _ => rfl
  | 7, _ => rfl
theorem Ru.sr (h : Ru w b q r v mv) (d : Nat) (hd : d < 8) (x : Int) : Ru (w.setCell ⟨b, 2 + d, none⟩ (.int .u64 x)) b q r (v.setRoot d x) mv := by
  refine h.set _ _ ?_
  match d, hd with
  | 0, _ => rfl
  | 1, _ => rfl
  | 2, _ => rfl
  | 3, _ => rfl
  | 4, _ => rfl
  | 5, _ => rfl
  | 6, _ => rfl
  | 7, _ => rfl
end
theorem k_none (w : World) (d : Int) (x : Bool) (hx : isDev d = x) : Calls Tryz.prog 95 #[.int .i64 d] w fun e w' => e = .returned (.bool (!x)) ∧ w' = w := by
  subst hx
  go_enter Tryz.func95, Tryz.ntmps95
  by_cases a : d < 0
  · go_wp2
    go_ret
    exact ⟨ret_bool (by simp [isDev]; omega), rfl⟩
  · go_wp2
    go_ret
    exact ⟨ret_bool (by rw [Bool.eq_iff_iff]; simp [isDev]; omega), rfl⟩
theorem k_Set_bad (w : World) (b : Nat) (d x : Int) (h : isDev d = false ∨ x = 0) : Calls Tryz.prog 65 #[.pointer (some ⟨b, 0, none⟩), .int .i64 d, .int .u64 x] w fun e w' => e = .returned (.int .i64 1) ∧ w' = w := by
  cases hd : isDev d
  · clear h
    go_enter Tryz.func65, Tryz.ntmps65
    go_wp2_with ((go_at_call 95; refine (k_none _ d false hd).mono ?_; rintro e w2 ⟨rfl, hw2⟩; obtain rfl := hw2.symm))
    go_ret
    exact ⟨rfl, rfl⟩
  · obtain rfl : x = 0 := by simpa [hd] using h
    clear h
    go_enter Tryz.func65, Tryz.ntmps65
    go_wp2_with ((go_at_call 95; refine (k_none _ d true hd).mono ?_; rintro e w2 ⟨rfl, hw2⟩; obtain rfl := hw2.symm))
    go_ret
    exact ⟨rfl, rfl⟩
theorem k_Set (w : World) (b q r : Nat) (v : UV) (mv : Value) (h : Ru w b q r v mv) (d x : Int) (hd : isDev d = true) (hx : (x == 0) = false) : Calls Tryz.prog 65 #[.pointer (some ⟨b, 0, none⟩), .int .i64 d, .int .u64 x] w fun e w' => e = .returned (.int .i64 0) ∧ Ru w' b q r (v.setRoot d.toNat x) mv ∧ Only (· = b) w w' := by
  obtain ⟨q0, q1⟩ := dev_cases hd
  have c1 := h.cr d.toNat (by omega)
  have f1 := h.z (2 + d.toNat)
  go_enter Tryz.func65, Tryz.ntmps65
  go_wp2_with ((go_at_call 95; refine (k_none _ d true hd).mono ?_; rintro e w2 ⟨rfl, hw2⟩; obtain rfl := hw2.symm))
  go_ret
  exact ⟨rfl, h.sr _ (by omega) _, only1 w b _ _⟩
theorem k_Drop_bad (w : World) (b : Nat) (d : Int) (hd : isDev d = false) : Calls Tryz.prog 69 #[.pointer (some ⟨b, 0, none⟩), .int .i64 d] w fun e w' => e = .returned (.int .i64 1) ∧ w' = w := by
  go_enter Tryz.func69, Tryz.ntmps69
  go_wp2_with ((go_at_call 95; refine (k_none _ d false hd).mono ?_; rintro e w2 ⟨rfl, hw2⟩; obtain rfl := hw2.symm))
  go_ret
  exact ⟨rfl, rfl⟩
theorem k_Drop (w : World) (b q r : Nat) (v : UV) (mv : Value) (h : Ru w b q r v mv) (d : Int) (hd : isDev d = true) : Calls Tryz.prog 69 #[.pointer (some ⟨b, 0, none⟩), .int .i64 d] w fun e w' => e = .returned (.int .i64 0) ∧ Ru w' b q r (v.setRoot d.toNat 0) mv ∧ Only (· = b) w w' := by
  obtain ⟨q0, q1⟩ := dev_cases hd
  have c1 := h.cr d.toNat (by omega)
  have f1 := h.z (2 + d.toNat)
  go_enter Tryz.func69, Tryz.ntmps69
  go_wp2_with ((go_at_call 95; refine (k_none _ d true hd).mono ?_; rintro e w2 ⟨rfl, hw2⟩; obtain rfl := hw2.symm))
  go_ret
  exact ⟨rfl, h.sr _ (by omega) _, only1 w b _ _⟩
def rootOf (v : UV) (d : Int) : Int := if isDev d = true then v.root d.toNat else 0
theorem k_Root (w : World) (b q r : Nat) (v : UV) (mv : Value) (h : Ru w b q r v mv) (d : Int) : Calls Tryz.prog 67 #[.pointer (some ⟨b, 0, none⟩), .int .i64 d] w fun e w' => e = .returned (.int .u64 (rootOf v d)) ∧ w' = w := by
  cases hd : isDev d
  · go_enter Tryz.func67, Tryz.ntmps67
    go_wp2_with ((go_at_call 95; refine (k_none _ d false hd).mono ?_; rintro e w2 ⟨rfl, hw2⟩; obtain rfl := hw2.symm))
    go_ret
    exact ⟨ret_int (by simp [rootOf, hd]), rfl⟩
  · obtain ⟨q0, q1⟩ := dev_cases hd
    have c1 := h.cr d.toNat (by omega)
    go_enter Tryz.func67, Tryz.ntmps67
    go_wp2_with ((go_at_call 95; refine (k_none _ d true hd).mono ?_; rintro e w2 ⟨rfl, hw2⟩; obtain rfl := hw2.symm))
    go_ret
    exact ⟨ret_int (by simp [rootOf, hd]), rfl⟩
theorem k_Ring (w : World) (b q r : Nat) (v : UV) (mv : Value) (h : Ru w b q r v mv) (T : Nat → Prop) (n : Nat) (f : Nat → Int) (hm : RMem w T q 0 n f) (a : Nat) (ha : a % 4096 = 0) (hl : a + 4096 ≤ 4096 * n) (hn : n ≤ 1024) (i : Int) (hi : i = a) : Calls Tryz.prog 80 #[.pointer (some ⟨b, 0, none⟩), .int .u64 i] w fun e w' => e = .returned (.int .i64 0) ∧ Ru w' b q r (v.setRing a) mv ∧ Only (· = b) w w' := by
  subst hi
  have c0 := h.c0
  have HU := hid h
  have HM := hid hm
  have hz : ((a : Int) % 4096 != 0) = false := by simp; omega
  have hb : hasB 0 n a 4096 = true := by simp [hasB]; omega
  clear h hm
  go_enter Tryz.func80, Tryz.ntmps80
  go_wp2_with ((go_at_call 91; refine (C.q_HasM _ T q 0 n f HM.out a 4096 (by omega) (by omega) (by decide) (by decide)).mono ?_; rw [hb]; rintro e w1 ⟨rfl, hs1⟩; have HU1 := hid (HU.out.below (hs1.below _)); have HO1 := hid (hs1.only (S := (· = b))); have f1 := HU1.out.z; have c2 := HU1.out.c11; have c3 := HU1.out.c12; have c4 := HU1.out.c13; have c5 := HU1.out.c14; clear hs1))
  go_ret
  exact ⟨rfl, (((HU1.out.set (v' := { v with addr := a }) (mv' := mv) 11 _ rfl).set (v' := { v with addr := a, there := true }) (mv' := mv) 12 _ rfl).set (v' := { v with addr := a, there := true, first := 0 }) (mv' := mv) 13 _ rfl).set (v' := v.setRing a) (mv' := mv) 14 _ rfl, (((HO1.out.trans (only1 _ b _ _)).trans (only1 _ b _ _)).trans (only1 _ b _ _)).trans (only1 _ b _ _)⟩
end Go.Proofs.YtmdconecigenfaaGreat
namespace Go.Proofs.YtmdconecigenfaaGreat
open Go.RowKit
open C (Only hid Mem Still ret_int ret_bool put byt nu RMem hasB)
set_option linter.unusedVariables false
set_option maxRecDepth 100000

theorem rmem_typ {w : World} {S : Nat → Prop} {p : Nat} {base : Int} {n : Nat} {f : Nat → Int} (h : RMem w S p base n f) {b : Nat} {c : Array Value} {t : TypeId} {fr : Nat × Nat} (hb : w.heap[b]? = some (.cells c t fr)) (h1 : t ≠ 123) (h2 : t ≠ 92) (h3 : t ≠ 5) : ¬ S b := by
  obtain ⟨g, hs, hr, _, hS⟩ := h
  intro hk
  rcases (hS b).1 hk with rfl | rfl | ⟨i, cc, hi⟩
  · rw [hr.top] at hb; simp at hb; exact h1 hb.2.1.symm
  · rw [hr.tab] at hb; simp at hb; exact h2 hb.2.1.symm
  · obtain ⟨_, cur, hg, _⟩ := hr.full i b cc hi
    rw [hg] at hb; simp at hb; exact h3 hb.2.1.symm
theorem ru_mem {w : World} {S : Nat → Prop} {n : Nat} {f : Nat → Int} {b q r : Nat} {v : UV} {mv : Value} (h : RMem w S q 0 n f) (hu : Ru w b q r v mv) : ¬ S b := rmem_typ h hu (by decide) (by decide) (by decide)
/-- a record of the document's under way -/
structure KJ (w0 : World) (S0 : Nat → Prop) (b q r : Nat) (v : UV) (mv : Value) (n : Nat) (w : World) (S : Nat → Prop) (f : Nat → Int) : Prop where
  hu : Ru w b q r v mv
  hm : RMem w S q 0 n f
  ho : Only S0 w0 w
  hs : ∀ k, S k → S0 k ∨ w0.heap.size ≤ k
theorem KJ.step {w0 : World} {S0 : Nat → Prop} {b q r : Nat} {v : UV} {mv : Value} {n : Nat} {w w' : World} {S S' : Nat → Prop} {f f' : Nat → Int} (h : KJ w0 S0 b q r v mv n w S f) (hm : RMem w' S' q 0 n f') (ho : Only S w w') (hs : ∀ k, S' k → S k ∨ w.heap.size ≤ k) : KJ w0 S0 b q r v mv n w' S' f' where
  hu := h.hu.only ho (ru_mem h.hm h.hu)
  hm := hm
  ho := h.ho.trans' ho fun i hi q => (h.hs i q).resolve_right (by omega)
  hs := fun k q => (hs k q).elim (fun z => h.hs k z) fun z => .inr (Nat.le_trans h.ho.size z)
theorem KJ.dn {w0 : World} {S0 : Nat → Prop} {b q r : Nat} {v : UV} {mv : Value} {n : Nat} {w : World} {S : Nat → Prop} {f : Nat → Int} (h : KJ w0 S0 b q r v mv n w S f) (m : Nat) : KJ w0 S0 b q r v mv n (w.drewN m) S f :=
  h.step (h.hm.below (below_dn (Below.refl _ _) m)) (Only.ofBelow (below_dn (Below.refl _ _) m)) fun k q => .inl q
theorem k_blocked_lost (w : World) (b q r : Nat) (v : UV) (mv : Value) (hu : Ru w b q r v mv) (d k a : Int) (h : v.there = false ∨ 255 ≤ v.count) : Calls Tryz.prog 96 #[.pointer (some ⟨b, 0, none⟩), .int .i64 d, .int .i64 k, .int .u64 a] w fun e w' => e = .returned (.tuple #[]) ∧ Ru w' b q r (v.setLost true) mv ∧ Only (· = b) w w' := by
  have c1 : w.cell? ⟨b, 12, none⟩ = some (.bool v.there) := hu.c 12
  have c2 : w.cell? ⟨b, 14, none⟩ = some (.int .i64 v.count) := hu.c 14
  have c3 : w.cell? ⟨b, 15, none⟩ = some (.bool v.lost) := hu.c 15
  have f1 := hu.z 15
  have HU := hid hu
  clear hu
  by_cases ht : v.there = false
  · rw [ht] at c1
    clear h
    go_enter Tryz.func96, Tryz.ntmps96
    go_wp2
    exact bodyPost_ret (results_none Tryz.results96 _ _ _) rfl ⟨rfl, HU.out.set 15 _ rfl, only1 w b _ _⟩
  · have ht' : v.there = true := by simpa using ht
    have hc : (255 ≤ (v.count : Int)) = True := by have := h.resolve_left ht; simp; omega
    rw [ht'] at c1
    clear h
    go_enter Tryz.func96, Tryz.ntmps96
    go_wp2
    exact bodyPost_ret (results_none Tryz.results96 _ _ _) rfl ⟨rfl, HU.out.set 15 _ rfl, only1 w b _ _⟩
theorem k_blocked (w : World) (b q r : Nat) (v : UV) (mv : Value) (hu : Ru w b q r v mv) (S : Nat → Prop) (n : Nat) (f : Nat → Int) (hm : RMem w S q 0 n f) (d k a : Int) (d0 : 0 ≤ d) (d1 : d < 8) (k0 : 0 ≤ k) (k1 : k < 8) (a0 : 0 ≤ a) (a1 : a < 18446744073709551616) (h : v.there = true) (hc : v.count < 255) (hf : v.first < 256) (ha : v.addr + 4096 ≤ 4096 * n) :
    Calls Tryz.prog 96 #[.pointer (some ⟨b, 0, none⟩), .int .i64 d, .int .i64 k, .int .u64 a] w fun e w' => e = .returned (.tuple #[]) ∧ ∃ S', Ru w' b q r (v.setCount (v.count + 1)) mv ∧ RMem w' S' q 0 n (rcf f (v.at v.count) d k a) ∧ Only (fun k => k = b ∨ S k) w w' ∧ ∀ k, S' k → S k ∨ w.heap.size ≤ k := by
  have n1 := hm.nums.2.2.2
  have c1 : w.cell? ⟨b, 12, none⟩ = some (.bool v.there) := hu.c 12
  have c2 : w.cell? ⟨b, 14, none⟩ = some (.int .i64 v.count) := hu.c 14
  have c3 : w.cell? ⟨b, 11, none⟩ = some (.int .u64 v.addr) := hu.c 11
  have c4 : w.cell? ⟨b, 13, none⟩ = some (.int .i64 v.first) := hu.c 13
  rw [h] at c1
  have hcc : (255 ≤ (v.count : Int)) = False := by simp; omega
  have hat : v.at v.count + 16 ≤ 4096 * n := by unfold UV.at; omega
  have HA : Hid ((v.addr : Int) + 16 * (((v.first : Int) + v.count) % 256) = ((v.at v.count : Nat) : Int)) := by show _ = _; unfold UV.at; omega
  have HJ0 : Hid (KJ w S b q r v mv n w S f) := ⟨hu, hm, Only.refl _, fun k q => .inl q⟩
  clear hu hm
  go_enter Tryz.func96, Tryz.ntmps96
  go_wp2_with fail
  go_quiet (fail)
  rw [HA.out]
  clear c1 c2 c3 c4
  rename_i nq
  have HJ1 := hid (HJ0.out.dn nq)
  obtain ⟨wb, hwb⟩ : ∃ wb, w.drewN nq = wb := ⟨_, rfl⟩
  rw [hwb] at HJ1
  rw [hwb]
  clear hwb HJ0 
  have c1 : wb.cell? ⟨b, 0, none⟩ = some (.pointer (some ⟨q, 0, none⟩)) := HJ1.out.hu.c 0
  have T1 : Hid True := trivial
  have T2 : Hid True := trivial
  go_wp2_with (first
    | (have t := T1; go_at_call 61; refine (C.q_Write _ S q 0 n f HJ1.out.hm (v.at v.count) 4 (by omega) (by omega) _ (by omega) d d0 (by omega)).mono ?_; clear t T1; rintro e w1 ⟨S1, rfl, hm1, ho1, hs1⟩; have HJ2 := hid (HJ1.out.step hm1 ho1 hs1); clear hm1 ho1 hs1 HJ1 c1; have c1 : w1.cell? ⟨b, 0, none⟩ = some (.pointer (some ⟨q, 0, none⟩)) := HJ2.out.hu.c 0)
    | (have t := T2; go_at_call 61; refine (C.q_Write _ S1 q 0 n _ HJ2.out.hm (v.at v.count + 4) 4 (by omega) (by omega) _ (by omega) k k0 (by omega)).mono ?_; clear t T2; rintro e w2 ⟨S2, rfl, hm1, ho1, hs1⟩; have HJ3 := hid (HJ2.out.step hm1 ho1 hs1); clear hm1 ho1 hs1 HJ2 c1; have c1 : w2.cell? ⟨b, 0, none⟩ = some (.pointer (some ⟨q, 0, none⟩)) := HJ3.out.hu.c 0)
    | (go_at_call 61; refine (C.q_Write _ S2 q 0 n _ HJ3.out.hm (v.at v.count + 8) 8 (by omega) (by omega) _ (by omega) a a0 a1).mono ?_; rintro e w3 ⟨S3, rfl, hm1, ho1, hs1⟩; have HJ4 := hid (HJ3.out.step hm1 ho1 hs1); clear hm1 ho1 hs1 HJ3 c1; have c1 : w3.cell? ⟨b, 14, none⟩ = some (.int .i64 v.count) := HJ4.out.hu.c 14; have f1 := HJ4.out.hu.z 14))
  have e1 : (v.count : Int) + 1 = ((v.count + 1 : Nat) : Int) := by omega
  rw [e1]
  refine bodyPost_end (results_none Tryz.results96 _ _ _) rfl ⟨rfl, S3, ?_, ?_, ?_, fun k q => HJ4.out.hs k q⟩
  · exact HJ4.out.hu.set 14 _ rfl
  · exact HJ4.out.hm.only (only1 w3 b _ _) (fun j hj q => ru_mem HJ4.out.hm HJ4.out.hu (q ▸ hj))
  · exact (HJ4.out.ho.mono fun j _ q => .inr q).trans' (only1 w3 b _ _) fun i _ q => .inl q
/-- whatever comes of it -/
theorem k_rec (w : World) (b q r : Nat) (v : UV) (mv : Value) (hu : Ru w b q r v mv) (S : Nat → Prop) (n : Nat) (f : Nat → Int) (hm : RMem w S q 0 n f) (ok : VOk v n) (d k a : Int) (d0 : 0 ≤ d) (d1 : d < 8) (k0 : 0 ≤ k) (k1 : k < 8) (a0 : 0 ≤ a) (a1 : a < 18446744073709551616) :
    Calls Tryz.prog 96 #[.pointer (some ⟨b, 0, none⟩), .int .i64 d, .int .i64 k, .int .u64 a] w fun e w' => e = .returned (.tuple #[]) ∧ ∃ S', Ru w' b q r (rcV v) mv ∧ RMem w' S' q 0 n (rcF v f d k a) ∧ Only (fun k => k = b ∨ S k) w w' ∧ ∀ k, S' k → S k ∨ w.heap.size ≤ k := by
  cases e : rcB v
  · refine (k_blocked_lost w b q r v mv hu d k a (by by_cases q : v.there = true; simp [rcB, q] at e; exact .inr e; exact .inl (by simpa using q))).mono ?_
    rintro x w' ⟨rfl, h1, h2⟩
    have hm' := hm.only h2 (fun j hj q => ru_mem hm hu (q ▸ hj))
    refine ⟨rfl, S, ?_, ?_, h2.mono fun _ _ q => .inl q, fun _ q => .inl q⟩
    · unfold rcV; rw [e]; exact h1
    · unfold rcF; rw [e]; exact hm'
  · simp [rcB] at e
    refine (k_blocked w b q r v mv hu S n f hm d k a d0 d1 k0 k1 a0 a1 e.1 e.2 ok.first (ok.ring e.1)).mono ?_
    rintro x w' ⟨rfl, S', h1, h2, h3, h4⟩
    have e' : rcB v = true := by simp [rcB, e]
    refine ⟨rfl, S', ?_, ?_, h3, h4⟩
    · unfold rcV; rw [e']; exact h1
    · unfold rcF; rw [e']; exact h2
end Go.Proofs.YtmdconecigenfaaGreat
namespace Go.Proofs.YtmdconecigenfaaGreat
open Go.RowKit
open C (Only hid Mem Still ret_int ret_bool put byt nu RMem hasB)
set_option linter.unusedVariables false
set_option maxRecDepth 100000

theorem k_Next_no (w : World) (b q r : Nat) (v : UV) (mv : Value) (hu : Ru w b q r v mv) (h : v.count = 0) : Calls Tryz.prog 72 #[.pointer (some ⟨b, 0, none⟩)] w fun e w' => e = .returned (.tuple #[.agg #[.int .i64 0, .int .i64 0, .int .u64 0], .bool false]) ∧ Below w.heap.size w w' := by
  have c1 : w.cell? ⟨b, 14, none⟩ = some (.int .i64 v.count) := hu.c 14
  have c2 : w.cell? ⟨b, 12, none⟩ = some (.bool v.there) := hu.c 12
  rw [h] at c1
  have hlt := hu.lt
  clear hu
  go_enter Tryz.func72, Tryz.ntmps72
  cases ht : v.there
  · rw [ht] at c2
    go_wp2
    go_returns
    exact ⟨rfl, ((Below.refl _ _).alloc (Nat.le_refl _) _)⟩
  · rw [ht] at c2
    go_wp2
    go_returns
    exact ⟨rfl, ((Below.refl _ _).alloc (Nat.le_refl _) _)⟩
theorem k_Next (w : World) (b q r : Nat) (v : UV) (mv : Value) (hu : Ru w b q r v mv) (S : Nat → Prop) (n : Nat) (f : Nat → Int) (hm : RMem w S q 0 n f) (ht : v.there = true) (hc0 : 0 < v.count) (hc : v.count < 256) (hf : v.first < 256) (ha : v.addr + 4096 ≤ 4096 * n) :
    Calls Tryz.prog 72 #[.pointer (some ⟨b, 0, none⟩)] w fun e w' => e = .returned (.tuple #[.agg #[.int .i64 (rdn f (v.at 0) 4), .int .i64 (rdn f (v.at 0 + 4) 4), .int .u64 (rdn f (v.at 0 + 8) 8)], .bool true]) ∧ Ru w' b q r ((v.setFirst ((v.first + 1) % 256)).setCount (v.count - 1)) mv ∧ Only (· = b) w w' := by
  have n1 := hm.nums.2.2.2
  have q1 := rdn4 hm.byt (v.at 0)
  have q2 := rdn4 hm.byt (v.at 0 + 4)
  have q3 := rdn8 hm.byt (v.at 0 + 8)
  have c1 : w.cell? ⟨b, 12, none⟩ = some (.bool v.there) := hu.c 12
  have c2 : w.cell? ⟨b, 14, none⟩ = some (.int .i64 v.count) := hu.c 14
  have hz : ((v.count : Int) == 0) = false := by simp; omega
  rw [ht] at c1
  have hlt := hu.lt
  have HU := hid hu
  have HM := hid hm
  have hat : v.at 0 + 16 ≤ 4096 * n := by unfold UV.at; omega
  have T1 : Hid True := trivial
  have T2 : Hid True := trivial
  have HA : Hid ((v.addr : Int) + 16 * (v.first : Int) = ((v.at 0 : Nat) : Int)) := by show _ = _; unfold UV.at; omega
  have R1 : nu (fun j => f (v.at 0 + j)) 4 = rdn f (v.at 0) 4 := rfl
  have R2 : nu (fun j => f (v.at 0 + 4 + j)) 4 = rdn f (v.at 0 + 4) 4 := rfl
  have R3 : nu (fun j => f (v.at 0 + 8 + j)) 8 = rdn f (v.at 0 + 8) 8 := rfl
  have HRR := hid (And.intro R1 (And.intro R2 R3))
  clear hu hm R1 R2 R3
  generalize rdn f (v.at 0) 4 = x1 at *
  generalize rdn f (v.at 0 + 4) 4 = x2 at *
  generalize rdn f (v.at 0 + 8) 8 = x3 at *
  go_enter Tryz.func72, Tryz.ntmps72
  go_wp2_with fail
  obtain ⟨wa, hwa⟩ : ∃ wa, w.alloc (.cells #[.int .i64 0, .int .i64 0, .int .u64 0] 86) = wa := ⟨_, rfl⟩
  have HBa : Hid (Below w.heap.size w wa) := hwa ▸ (Below.refl _ _).alloc (Nat.le_refl _) _
  have HB0 : Hid (wa.heap[w.heap.size]? = some (.cells #[.int .i64 0, .int .i64 0, .int .u64 0] 86 (0, 0))) := hwa ▸ heap_alloc_new w _
  rw [hwa]
  clear c1 c2 hwa
  have c1 : wa.cell? ⟨b, 11, none⟩ = some (.int .u64 v.addr) := (HU.out.below HBa.out).c 11
  have c2 : wa.cell? ⟨b, 13, none⟩ = some (.int .i64 v.first) := (HU.out.below HBa.out).c 13
  go_quiet (fail)
  rw [HA.out]
  clear c1 c2
  obtain ⟨wb, hwb⟩ : ∃ wb, wa.drewN nq = wb := ⟨_, rfl⟩
  have HB1 : Hid (Below w.heap.size w wb) := hwb ▸ below_dn HBa.out nq
  have hb0 : wb.heap[w.heap.size]? = some (.cells #[.int .i64 0, .int .i64 0, .int .u64 0] 86 (0, 0)) := by rw [← hwb]; exact HB0.out
  clear HB0
  have HB0 := hid hb0
  clear hb0
  rw [hwb]
  clear hwb HBa
  have k1 : wb.cell? ⟨b, 0, none⟩ = some (.pointer (some ⟨q, 0, none⟩)) := (HU.out.below HB1.out).c 0
  go_wp2_with (first
    | (have t := T1; go_at_call 60; refine (C.q_Read _ S q 0 n f (HM.out.below HB1.out) (v.at 0) 4 (by omega) (by omega) _ (by omega)).mono ?_; rw [HRR.out.1]; clear t T1; rintro e w2 ⟨rfl, hs2⟩; have hb2 := hs2.below w.heap.size; have HB2 := hid (HB1.out.trans hb2); have hb0 := ((hs2.below wb.heap.size).block w.heap.size (lt_of_block HB0.out)).trans HB0.out; clear HB0 hb2 hs2; have HB0 := hid hb0; clear hb0; have k2 : w2.cell? ⟨b, 0, none⟩ = some (.pointer (some ⟨q, 0, none⟩)) := (HU.out.below HB2.out).c 0)
    | (have t := T2; go_at_call 60; refine (C.q_Read _ S q 0 n f (HM.out.below HB2.out) (v.at 0 + 4) 4 (by omega) (by omega) _ (by omega)).mono ?_; rw [HRR.out.2.1]; clear t T2; rintro e w3 ⟨rfl, hs2⟩; have hb2 := hs2.below w.heap.size; have HB3 := hid (HB2.out.trans hb2); have hb0 := ((hs2.below w2.heap.size).block w.heap.size (lt_of_block HB0.out)).trans HB0.out; clear HB0 hb2 hs2; have HB0 := hid hb0; clear hb0; have k3 : w3.cell? ⟨b, 0, none⟩ = some (.pointer (some ⟨q, 0, none⟩)) := (HU.out.below HB3.out).c 0))
  go_at_call 60
  refine (C.q_Read _ S q 0 n f (HM.out.below HB3.out) (v.at 0 + 8) 8 (by omega) (by omega) _ (by omega)).mono ?_
  rw [HRR.out.2.2]
  rintro e w4 ⟨rfl, hs2⟩
  have HB4 := hid (HB3.out.trans (hs2.below w.heap.size))
  have hb0 := ((hs2.below w3.heap.size).block w.heap.size (lt_of_block HB0.out)).trans HB0.out
  clear HB0 hs2
  have HU4 := hid (HU.out.below HB4.out)
  have k4 : w4.cell? ⟨b, 13, none⟩ = some (.int .i64 v.first) := HU4.out.c 13
  have k5 : w4.cell? ⟨b, 14, none⟩ = some (.int .i64 v.count) := HU4.out.c 14
  have kf := HU4.out.z
  have y0 : w4.cell? ⟨w.heap.size, 0, none⟩ = some (.int .i64 0) := by (rw [cell_of_row w4 _ 0 _ _ _ hb0]; rfl)
  have y1 : w4.cell? ⟨w.heap.size, 1, none⟩ = some (.int .i64 0) := by (rw [cell_of_row w4 _ 1 _ _ _ hb0]; rfl)
  have y2 : w4.cell? ⟨w.heap.size, 2, none⟩ = some (.int .u64 0) := by (rw [cell_of_row w4 _ 2 _ _ _ hb0]; rfl)
  have yf : ∀ j, w4.frozen? ⟨w.heap.size, j, none⟩ = false := fun j => frozen_of_row w4 _ j _ _ hb0
  have hne : (b = w.heap.size) = False := by (simp; omega)
  have hne' : (w.heap.size = b) = False := by (simp; omega)
  go_wp2
  have e1 : ((v.first : Int) + 1) % 256 = (((v.first + 1) % 256 : Nat) : Int) := by omega
  have e2 : (v.count : Int) - 1 = ((v.count - 1 : Nat) : Int) := by omega
  rw [e1, e2]
  have hb5 := ((only1 w4 b 13 (.int .i64 (((v.first + 1) % 256 : Nat) : Int))).trans (only1 _ b 14 (.int .i64 ((v.count - 1 : Nat) : Int)))).old hb0 (by omega)
  have hu5 := (HU4.out.set (v' := v.setFirst ((v.first + 1) % 256)) (mv' := mv) 13 (.int .i64 (((v.first + 1) % 256 : Nat) : Int)) rfl).set (v' := (v.setFirst ((v.first + 1) % 256)).setCount (v.count - 1)) (mv' := mv) 14 (.int .i64 ((v.count - 1 : Nat) : Int)) rfl
  have ho5 := (only1 w4 b 13 (.int .i64 (((v.first + 1) % 256 : Nat) : Int))).trans (only1 _ b 14 (.int .i64 ((v.count - 1 : Nat) : Int)))
  clear kf k4 k5 y0 y1 y2 yf
  generalize (w4.setCell ⟨b, 13, none⟩ (.int .i64 (((v.first + 1) % 256 : Nat) : Int))).setCell ⟨b, 14, none⟩ (.int .i64 ((v.count - 1 : Nat) : Int)) = w5 at *
  have h6 := set3 hb5 (.int .i64 x1) (.int .i64 x2) (.int .u64 x3)
  have ho6 := ((Only.refl (S := (· = w.heap.size)) w5).setCell (p := ⟨w.heap.size, 0, none⟩) (.inl rfl) (.int .i64 x1)).setCell (p := ⟨w.heap.size, 1, none⟩) (.inl rfl) (.int .i64 x2)
  have ho6 := ho6.setCell (p := ⟨w.heap.size, 2, none⟩) (.inl rfl) (.int .u64 x3)
  generalize ((w5.setCell ⟨w.heap.size, 0, none⟩ (.int .i64 x1)).setCell ⟨w.heap.size, 1, none⟩ (.int .i64 x2)).setCell ⟨w.heap.size, 2, none⟩ (.int .u64 x3) = w6 at *
  have y0 : w6.cell? ⟨w.heap.size, 0, none⟩ = some (.int .i64 x1) := by rw [cell_of_row w6 _ 0 _ _ _ h6]; rfl
  have y1 : w6.cell? ⟨w.heap.size, 1, none⟩ = some (.int .i64 x2) := by rw [cell_of_row w6 _ 1 _ _ _ h6]; rfl
  have y2 : w6.cell? ⟨w.heap.size, 2, none⟩ = some (.int .u64 x3) := by rw [cell_of_row w6 _ 2 _ _ _ h6]; rfl
  refine bodyPost_ret (by simp [results, Tryz.results72, go_sem, y0, y1, y2]; rfl) rfl ?_
  refine ⟨rfl, hu5.only ho6 (by omega), ?_⟩
  exact (Only.ofBelow HB4.out |>.trans ho5).trans' (ho6.mono (T := fun k => w.heap.size ≤ k) fun k _ q => by omega) fun i hi q => by omega
end Go.Proofs.YtmdconecigenfaaGreat
