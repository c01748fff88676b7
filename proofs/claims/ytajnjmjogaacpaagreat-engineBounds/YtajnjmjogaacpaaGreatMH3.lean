/- An IOMMU as it stands in memory. -/
import Derived.Test.YtajnjmjogaacpaaGreatMC2
import Derived.Test.YtajnjmjogaacpaaGreatME1
import Derived.BigQuiet
import Derived.Handy
import Derived.Test.YtajnjmjogaacpaaGreatHQ
import Derived.Test.YtajnjmjogaacpaaGreatMC4
import Derived.Test.YtajnjmjogaacpaaGreatMC3
namespace Go.Proofs.YtajnjmjogaacpaaGreat
open Go.RowKit
open C (Only hid Mem Still)
set_option linter.unusedVariables false
set_option maxRecDepth 100000

/-- what an IOMMU keeps: its TLB, its memory, roots, messages (guest, interrupt; 32 a device), the ring, the flag -/
structure UV where
  t : Nat
  m : Nat
  root : Nat → Int
  mg : Nat → Int
  mi : Nat → Int
  there : Bool
  addr : Nat
  first : Nat
  count : Nat
  lost : Bool
def UV.f (v : UV) (k : Nat) : Value :=
  if k = 0 then .pointer (some ⟨v.t, 0, none⟩) else if k = 1 then .pointer (some ⟨v.m, 0, none⟩) else if k < 10 then .int .u64 (v.root (k - 2)) else
  if k < 522 then (if k % 2 = 0 then .int .i64 (v.mg ((k - 10) / 2)) else .int .i64 (v.mi ((k - 10) / 2))) else
  if k = 522 then .bool v.there else if k = 523 then .int .u64 v.addr else if k = 524 then .int .i64 v.first else if k = 525 then .int .i64 v.count else .bool v.lost
def UV.ca (v : UV) : Array Value := ((List.range 527).map v.f).toArray
def Iu (w : World) (u : Nat) (v : UV) : Prop := w.heap[u]? = some (.cells v.ca 80 (0, 0))
theorem ca_get (v : UV) (k : Nat) (hk : k < 527) : v.ca[k]? = some (v.f k) := by simp [UV.ca, hk]
theorem ca_set (v v' : UV) (k : Nat) (x : Value) (he : ∀ j, j < 527 → (if j = k then x else v.f j) = v'.f j) : v.ca.setIfInBounds k x = v'.ca := by
  apply Array.ext_getElem?
  intro j
  rw [Array.getElem?_setIfInBounds]
  by_cases hj : j < 527
  · rw [ca_get v' j hj, ← he j hj]
    by_cases e : k = j
    · subst e; simp [UV.ca, hj]
    · have e' : ¬ j = k := fun q => e q.symm
      simp [e, e', ca_get v j hj]
  · have h1 : v.ca[j]? = none := by simp [UV.ca]; omega
    have h2 : v'.ca[j]? = none := by simp [UV.ca]; omega
    rw [h1, h2]
    by_cases e : k = j
    · subst e; simp [UV.ca, hj]
    · simp [e]
section
variable {w w' : World} {u : Nat} {v v' : UV}
theorem Iu.c (h : Iu w u v) (k : Nat) (hk : k < 527) : w.cell? ⟨u, k, none⟩ = some (v.f k) := by rw [cell_of_row w u k v.ca _ _ h, ca_get v k hk]
theorem Iu.z (h : Iu w u v) (k : Nat) : w.frozen? ⟨u, k, none⟩ = false := frozen_of_row w u k _ _ h
theorem Iu.lt (h : Iu w u v) : u < w.heap.size := lt_of_block h
theorem Iu.only (h : Iu w u v) {T : Nat → Prop} (ho : Only T w w') (hb : ¬ T u) : Iu w' u v := ho.old h hb
theorem Iu.below (h : Iu w u v) (hb : Below w.heap.size w w') : Iu w' u v := (hb.block u h.lt).trans h
theorem Iu.set (h : Iu w u v) (k : Nat) (x : Value) (he : ∀ j, j < 527 → (if j = k then x else v.f j) = v'.f j) : Iu (w.setCell ⟨u, k, none⟩ x) u v' := by
  unfold Iu
  rw [setCell_eq_setRow w u k v.ca _ (0, 0) x h, ca_set v v' k x he]
  exact setRow_heap w u v.ca _ _ _ h
theorem Iu.c0 (h : Iu w u v) : w.cell? ⟨u, 0, none⟩ = some (.pointer (some ⟨v.t, 0, none⟩)) := h.c 0 (by decide)
theorem Iu.c1 (h : Iu w u v) : w.cell? ⟨u, 1, none⟩ = some (.pointer (some ⟨v.m, 0, none⟩)) := h.c 1 (by decide)
theorem Iu.cr (h : Iu w u v) (d : Nat) (hd : d < 8) : w.cell? ⟨u, 2 + d, none⟩ = some (.int .u64 (v.root d)) := by
  rw [h.c _ (by omega)]; unfold UV.f
  rw [if_neg (by omega), if_neg (by omega), if_pos (by omega), Nat.add_sub_cancel_left]
theorem Iu.cg (h : Iu w u v) (d i : Nat) (hd : d < 8) (hi : i < 32) : w.cell? ⟨u, 10 + d * 64 + i * 2, none⟩ = some (.int .i64 (v.mg (d * 32 + i))) := by
  rw [h.c _ (by omega)]; unfold UV.f
  rw [if_neg (by omega), if_neg (by omega), if_neg (by omega), if_pos (by omega), if_pos (by omega), show (10 + d * 64 + i * 2 - 10) / 2 = d * 32 + i by omega]
theorem Iu.ci (h : Iu w u v) (d i : Nat) (hd : d < 8) (hi : i < 32) : w.cell? ⟨u, 10 + d * 64 + i * 2 + 1, none⟩ = some (.int .i64 (v.mi (d * 32 + i))) := by
  rw [h.c _ (by omega)]; unfold UV.f
  rw [if_neg (by omega), if_neg (by omega), if_neg (by omega), if_pos (by omega), if_neg (by omega), show (10 + d * 64 + i * 2 + 1 - 10) / 2 = d * 32 + i by omega]
theorem Iu.c522 (h : Iu w u v) : w.cell? ⟨u, 522, none⟩ = some (.bool v.there) := h.c 522 (by decide)
theorem Iu.c523 (h : Iu w u v) : w.cell? ⟨u, 523, none⟩ = some (.int .u64 v.addr) := h.c 523 (by decide)
theorem Iu.c524 (h : Iu w u v) : w.cell? ⟨u, 524, none⟩ = some (.int .i64 v.first) := h.c 524 (by decide)
theorem Iu.c525 (h : Iu w u v) : w.cell? ⟨u, 525, none⟩ = some (.int .i64 v.count) := h.c 525 (by decide)
theorem Iu.c526 (h : Iu w u v) : w.cell? ⟨u, 526, none⟩ = some (.bool v.lost) := h.c 526 (by decide)
end
def upd (x : Nat → Int) (r : Nat) (y : Int) : Nat → Int := fun k => if k = r then y else x k
def UV.setRoot (v : UV) (d : Nat) (r : Int) : UV := { v with root := upd v.root d r }
def UV.setLost (v : UV) (b : Bool) : UV := { v with lost := b }
def UV.setRing (v : UV) (a : Nat) : UV := { v with there := true, addr := a, first := 0, count := 0 }
def UV.setFirst (v : UV) (a : Nat) : UV := { v with first := a }
def UV.setCount (v : UV) (a : Nat) : UV := { v with count := a }
def UV.setG (v : UV) (k : Nat) (g : Int) : UV := { v with mg := upd v.mg k g }
def UV.setI (v : UV) (k : Nat) (i : Int) : UV := { v with mi := upd v.mi k i }
def UV.setMsi (v : UV) (k : Nat) (g i : Int) : UV := (v.setG k g).setI k i
section
variable {w w' : World} {u : Nat} {v v' : UV}
theorem Iu.sr (h : Iu w u v) (d : Nat) (hd : d < 8) (r : Int) : Iu (w.setCell ⟨u, 2 + d, none⟩ (.int .u64 r)) u (v.setRoot d r) := by
  refine h.set _ _ fun j hj => ?_
  by_cases e : j = 2 + d
  · subst e
    rw [if_pos rfl]
    unfold UV.f UV.setRoot upd
    rw [if_neg (by omega), if_neg (by omega), if_pos (by omega), Nat.add_sub_cancel_left]
    simp
  · rw [if_neg e]
    unfold UV.f UV.setRoot upd
    repeat' split
    all_goals first | rfl | omega | (dsimp only; rw [if_neg (by omega)])
theorem Iu.sl (h : Iu w u v) (b : Bool) : Iu (w.setCell ⟨u, 526, none⟩ (.bool b)) u (v.setLost b) := by
  refine h.set _ _ fun j hj => ?_
  unfold UV.f UV.setLost
  repeat' split
  all_goals first | rfl | omega
theorem Iu.sf (h : Iu w u v) (a : Nat) : Iu (w.setCell ⟨u, 524, none⟩ (.int .i64 a)) u (v.setFirst a) := by
  refine h.set _ _ fun j hj => ?_
  unfold UV.f UV.setFirst
  repeat' split
  all_goals first | rfl | omega
theorem Iu.sc (h : Iu w u v) (a : Nat) : Iu (w.setCell ⟨u, 525, none⟩ (.int .i64 a)) u (v.setCount a) := by
  refine h.set _ _ fun j hj => ?_
  unfold UV.f UV.setCount
  repeat' split
  all_goals first | rfl | omega
theorem Iu.sb (h : Iu w u v) (b : Bool) : Iu (w.setCell ⟨u, 522, none⟩ (.bool b)) u { v with there := b } := by
  refine h.set _ _ fun j hj => ?_
  unfold UV.f
  repeat' split
  all_goals first | rfl | omega
theorem Iu.sa (h : Iu w u v) (a : Nat) : Iu (w.setCell ⟨u, 523, none⟩ (.int .u64 a)) u { v with addr := a } := by
  refine h.set _ _ fun j hj => ?_
  unfold UV.f
  repeat' split
  all_goals first | rfl | omega
theorem Iu.ring (h : Iu w u v) (a : Nat) : Iu ((((w.setCell ⟨u, 522, none⟩ (.bool true)).setCell ⟨u, 523, none⟩ (.int .u64 a)).setCell ⟨u, 524, none⟩ (.int .i64 0)).setCell ⟨u, 525, none⟩ (.int .i64 0)) u (v.setRing a) := (((h.sb true).sa a).sf 0).sc 0
theorem Iu.sg (h : Iu w u v) (d i : Nat) (hd : d < 8) (hi : i < 32) (g : Int) : Iu (w.setCell ⟨u, 10 + d * 64 + i * 2, none⟩ (.int .i64 g)) u (v.setG (d * 32 + i) g) := by
  refine h.set _ _ fun j hj => ?_
  by_cases e : j = 10 + d * 64 + i * 2
  · subst e
    rw [if_pos rfl]
    unfold UV.f UV.setG upd
    rw [if_neg (by omega), if_neg (by omega), if_neg (by omega), if_pos (by omega), if_pos (by omega), show (10 + d * 64 + i * 2 - 10) / 2 = d * 32 + i by omega]
    simp
  · rw [if_neg e]
    unfold UV.f UV.setG upd
    repeat' split
    all_goals first | rfl | omega | (dsimp only; rw [if_neg (by omega)])
theorem Iu.si (h : Iu w u v) (d i : Nat) (hd : d < 8) (hi : i < 32) (g : Int) : Iu (w.setCell ⟨u, 10 + d * 64 + i * 2 + 1, none⟩ (.int .i64 g)) u (v.setI (d * 32 + i) g) := by
  refine h.set _ _ fun j hj => ?_
  by_cases e : j = 10 + d * 64 + i * 2 + 1
  · subst e
    rw [if_pos rfl]
    unfold UV.f UV.setI upd
    rw [if_neg (by omega), if_neg (by omega), if_neg (by omega), if_pos (by omega), if_neg (by omega), show (10 + d * 64 + i * 2 + 1 - 10) / 2 = d * 32 + i by omega]
    simp
  · rw [if_neg e]
    unfold UV.f UV.setI upd
    repeat' split
    all_goals first | rfl | omega | (dsimp only; rw [if_neg (by omega)])
end
end Go.Proofs.YtajnjmjogaacpaaGreat
namespace Go.Proofs.YtajnjmjogaacpaaGreat
open Go.RowKit
open C (Only hid Mem Still ret_int ret_bool)
set_option linter.unusedVariables false
set_option maxRecDepth 100000

theorem only1 (w : World) (u k : Nat) (x : Value) : Only (· = u) w (w.setCell ⟨u, k, none⟩ x) := C.Only.setCell (S := (· = u)) (Only.refl w) (p := ⟨u, k, none⟩) (.inl rfl) x
def isDev (d : Int) : Bool := decide (0 ≤ d ∧ d < 8)
theorem dev_cases {d : Int} (h : isDev d = true) : 0 ≤ d ∧ d < 8 := by simpa [isDev] using h
theorem m_isDevice (w : World) (d : Int) (r : Bool) (hr : isDev d = r) : Calls Tryz.prog 22 #[.int .i64 d] w fun e w' => e = .returned (.bool r) ∧ w' = w := by
  subst hr
  go_enter Tryz.func22, Tryz.ntmps22
  by_cases a : 0 ≤ d
  · go_wp2
    go_ret
    exact ⟨ret_bool (by simp [isDev, a]), rfl⟩
  · go_wp2
    go_ret
    exact ⟨ret_bool (by simp [isDev]; omega), rfl⟩
theorem m_Set_bad (w : World) (u : Nat) (d r : Int) (h : isDev d = false ∨ r = 0) : Calls Tryz.prog 7 #[.pointer (some ⟨u, 0, none⟩), .int .i64 d, .int .u64 r] w fun e w' => e = .returned (.int .i64 1) ∧ w' = w := by
  cases hd : isDev d
  · clear h
    go_enter Tryz.func7, Tryz.ntmps7
    go_wp2_with (first
      | (go_at_call 22; refine (m_isDevice _ d false hd).mono ?_; rintro e w2 ⟨rfl, hw2⟩; obtain rfl := hw2.symm))
    go_ret
    exact ⟨rfl, rfl⟩
  · obtain rfl : r = 0 := by simpa [hd] using h
    clear h
    go_enter Tryz.func7, Tryz.ntmps7
    go_wp2_with (first
      | (go_at_call 22; refine (m_isDevice _ d true hd).mono ?_; rintro e w2 ⟨rfl, hw2⟩; obtain rfl := hw2.symm))
    go_ret
    exact ⟨rfl, rfl⟩
theorem m_Set (w : World) (u : Nat) (v : UV) (hu : Iu w u v) (d r : Int) (hd : isDev d = true) (hr : (r == 0) = false) : Calls Tryz.prog 7 #[.pointer (some ⟨u, 0, none⟩), .int .i64 d, .int .u64 r] w fun e w' => e = .returned (.int .i64 0) ∧ Iu w' u (v.setRoot d.toNat r) ∧ Only (· = u) w w' := by
  obtain ⟨q0, q1⟩ := dev_cases hd
  have c1 := hu.cr d.toNat (by omega)
  have f1 := hu.z (2 + d.toNat)
  go_enter Tryz.func7, Tryz.ntmps7
  go_wp2_with (first
    | (go_at_call 22; refine (m_isDevice _ d true hd).mono ?_; rintro e w2 ⟨rfl, hw2⟩; obtain rfl := hw2.symm))
  go_ret
  exact ⟨rfl, hu.sr _ (by omega) _, only1 w u _ _⟩
/-- what is asked, and the right that allows it -/
def akd (wr : Bool) : Int := if wr = true then 3 else 2
def art (wr : Bool) : Int := if wr = true then 4 else 2
theorem m_asks (w : World) (b : Nat) (x : Bool) (h : w.cell? ⟨b, 3, none⟩ = some (.bool x)) : Calls Tryz.prog 41 #[.pointer (some ⟨b, 0, none⟩)] w fun e w' => e = .returned (.tuple #[.int .i64 (akd x), .int .i64 (art x)]) ∧ w' = w := by
  cases x
  all_goals
    go_enter Tryz.func41, Tryz.ntmps41
    go_wp2
    go_ret2
    exact ⟨rfl, rfl⟩
/-- a size that there is, and an address that is a multiple of it -/
def whole (addr size : Int) : Bool := decide (size = 1 ∨ size = 2 ∨ size = 4 ∨ size = 8) && addr % size == 0
theorem m_isWhole (w : World) (b : Nat) (addr size : Int) (a0 : 0 ≤ addr) (a1 : addr < 18446744073709551616) (h1 : w.cell? ⟨b, 1, none⟩ = some (.int .u64 addr)) (h2 : w.cell? ⟨b, 2, none⟩ = some (.int .i64 size)) : Calls Tryz.prog 24 #[.pointer (some ⟨b, 0, none⟩)] w fun e w' => e = .returned (.bool (whole addr size)) ∧ ∃ n, w' = w.drewN n := by
  have hs : size = 1 ∨ size = 2 ∨ size = 4 ∨ size = 8 ∨ ¬ (size = 1 ∨ size = 2 ∨ size = 4 ∨ size = 8) := by omega
  go_enter Tryz.func24, Tryz.ntmps24
  rcases hs with rfl | rfl | rfl | rfl | hs
  · go_wp2
    go_quiet (fail)
    go_wp2
    go_ret
    exact ⟨ret_bool (by simp [whole]), _, rfl⟩
  · go_wp2
    go_quiet (fail)
    go_wp2
    go_ret
    exact ⟨ret_bool (by simp [whole]), _, rfl⟩
  · go_wp2
    go_quiet (fail)
    go_wp2
    go_ret
    exact ⟨ret_bool (by simp [whole]), _, rfl⟩
  · go_wp2
    go_quiet (fail)
    go_wp2
    go_ret
    exact ⟨ret_bool (by simp [whole]), _, rfl⟩
  · have n1 : (size == 1) = false := by simp; omega
    have n2 : (size == 2) = false := by simp; omega
    have n4 : (size == 4) = false := by simp; omega
    have n8 : (size == 8) = false := by simp; omega
    go_wp2
    go_ret
    exact ⟨ret_bool (by simp [whole, hs]), 0, rfl⟩
end Go.Proofs.YtajnjmjogaacpaaGreat
namespace Go.Proofs.YtajnjmjogaacpaaGreat
open Go.RowKit
open C (Only hid Mem Still ret_int ret_bool put byt nu)
set_option linter.unusedVariables false
set_option maxRecDepth 100000

/-- where a record lies -/
def UV.at (v : UV) (k : Nat) : Nat := v.addr + (v.first + k) % 256 * 16
theorem m_at (w : World) (b : Bool) (a f c k : Nat) (ha : a < 9223372036854775808) (hf : f < 256) (hk : k < 256) (i : Int) (hi : i = k) : Calls Tryz.prog 28 #[.agg #[.bool b, .int .u64 a, .int .i64 f, .int .i64 c], .int .i64 i] w fun e w' => e = .returned (.int .u64 ((a + (f + k) % 256 * 16 : Nat) : Int)) ∧ Below w.heap.size w w' := by
  subst hi
  go_enter Tryz.func28, Tryz.ntmps28
  go_wp2
  go_ret
  exact ⟨ret_int (by omega), (Below.refl _ _).alloc (Nat.le_refl _) _⟩
theorem m_record_lost (w : World) (u : Nat) (v : UV) (hu : Iu w u v) (d k a : Int) (h : v.there = false ∨ 255 ≤ v.count) : Calls Tryz.prog 27 #[.pointer (some ⟨u, 0, none⟩), .agg #[.int .i64 d, .int .i64 k, .int .u64 a]] w fun e w' => e = .returned (.tuple #[]) ∧ Iu w' u (v.setLost true) ∧ Only (· = u) w w' := by
  have c1 := hu.c522
  have c2 := hu.c525
  have c3 := hu.c526
  have f1 := hu.z 526
  have hlt := hu.lt
  have HU := hid hu
  clear hu
  by_cases ht : v.there = false
  · rw [ht] at c1
    clear h
    go_enter Tryz.func27, Tryz.ntmps27
    go_wp2
    exact bodyPost_ret (results_none Tryz.results27 _ _ _) rfl ⟨rfl, (HU.out.sl true).below ((Below.refl _ _).alloc (Nat.le_refl _) _), (only1 w u 526 (.bool true)).alloc _⟩
  · have ht' : v.there = true := by simpa using ht
    have hc : (255 ≤ (v.count : Int)) = True := by have := h.resolve_left ht; simp; omega
    rw [ht'] at c1
    clear h
    go_enter Tryz.func27, Tryz.ntmps27
    go_wp2
    exact bodyPost_ret (results_none Tryz.results27 _ _ _) rfl ⟨rfl, (HU.out.sl true).below ((Below.refl _ _).alloc (Nat.le_refl _) _), (only1 w u 526 (.bool true)).alloc _⟩
end Go.Proofs.YtajnjmjogaacpaaGreat
namespace Go.Proofs.YtajnjmjogaacpaaGreat
open Go.RowKit
open C (Only hid Mem Still ret_int ret_bool put byt nu WB WB.cell Calls.wb wp_region_wb)
set_option linter.unusedVariables false
set_option maxRecDepth 100000

/-- the memory behind a record -/
def rcf (f : Nat → Int) (p : Nat) (d k a : Int) : Nat → Int := put (put (put f p 4 (byt d)) (p + 4) 4 (byt k)) (p + 8) 8 (byt a)
/-- a record under way -/
structure RJ (w0 : World) (S0 : Nat → Prop) (u : Nat) (v : UV) (n rb : Nat) (d k a : Int) (w : World) (S : Nat → Prop) (f : Nat → Int) : Prop where
  hu : Iu w u v
  hm : Mem w S v.m 0 n f
  ho : Only S0 w0 w
  hs : ∀ k, S k → S0 k ∨ w0.heap.size ≤ k
  hr : w.heap[rb]? = some (.cells #[.int .i64 d, .int .i64 k, .int .u64 a] 57 (0, 0))
theorem RJ.step {w0 : World} {S0 : Nat → Prop} {u : Nat} {v : UV} {n rb : Nat} {d k a : Int} {w w' : World} {S S' : Nat → Prop} {f f' : Nat → Int} (h : RJ w0 S0 u v n rb d k a w S f) (hm : Mem w' S' v.m 0 n f') (ho : Only S w w') (hs : ∀ k, S' k → S k ∨ w.heap.size ≤ k) : RJ w0 S0 u v n rb d k a w' S' f' where
  hu := h.hu.only ho (h.hm.typ h.hu (by decide) (by decide) (by decide))
  hm := hm
  ho := h.ho.trans' ho fun i hi q => (h.hs i q).resolve_right (by omega)
  hs := fun k q => (hs k q).elim (fun z => h.hs k z) fun z => .inr (Nat.le_trans h.ho.size z)
  hr := ho.old h.hr (h.hm.typ h.hr (by decide) (by decide) (by decide))
theorem RJ.dn {w0 : World} {S0 : Nat → Prop} {u : Nat} {v : UV} {n rb : Nat} {d k a : Int} {w : World} {S : Nat → Prop} {f : Nat → Int} (h : RJ w0 S0 u v n rb d k a w S f) (m : Nat) : RJ w0 S0 u v n rb d k a (w.drewN m) S f :=
  h.step (h.hm.below (below_dn (Below.refl _ _) m)) (Only.ofBelow (below_dn (Below.refl _ _) m)) fun k q => .inl q
theorem m_record (w : World) (u : Nat) (v : UV) (hu : Iu w u v) (S : Nat → Prop) (n : Nat) (f : Nat → Int) (hm : Mem w S v.m 0 n f) (d k a : Int) (d0 : 0 ≤ d) (d1 : d < 8) (k0 : 0 ≤ k) (k1 : k < 8) (a0 : 0 ≤ a) (a1 : a < 18446744073709551616) (h : v.there = true) (hc : v.count < 255) (hf : v.first < 256) (ha : v.addr + 4096 ≤ 4096 * n) :
    Calls Tryz.prog 27 #[.pointer (some ⟨u, 0, none⟩), .agg #[.int .i64 d, .int .i64 k, .int .u64 a]] w fun e w' => e = .returned (.tuple #[]) ∧ ∃ S', Iu w' u (v.setCount (v.count + 1)) ∧ Mem w' S' v.m 0 n (rcf f (v.at v.count) d k a) ∧ Only (fun k => k = u ∨ S k) w w' ∧ ∀ k, S' k → S k ∨ w.heap.size ≤ k := by
  have hnS : ∀ {w1 : World} {S1 : Nat → Prop} {f1 : Nat → Int}, Iu w1 u v → Mem w1 S1 v.m 0 n f1 → ¬ S1 u := fun h1 h2 => h2.typ h1 (by decide) (by decide) (by decide)
  have n1 := hm.nums.2.2.2
  have c1 := hu.c522
  have c2 := hu.c525
  have hlt := hu.lt
  have HU := hid hu
  have HM := hid hm
  rw [h] at c1
  have hcc : (255 ≤ (v.count : Int)) = False := by simp; omega
  have hat : v.at v.count + 16 ≤ 4096 * n := by unfold UV.at; omega
  have HA : Hid (((v.addr + (v.first + v.count) % 256 * 16 : Nat) : Int) = ((v.at v.count : Nat) : Int)) := rfl
  clear hu hm
  go_enter Tryz.func27, Tryz.ntmps27
  go_wp2_with fail
  obtain ⟨wa, hwa⟩ : ∃ wa, w.alloc (.cells #[.int .i64 d, .int .i64 k, .int .u64 a] 57) = wa := ⟨_, rfl⟩
  have HBa : Hid (Below w.heap.size w wa) := hwa ▸ (Below.refl _ _).alloc (Nat.le_refl _) _
  have r0 : wa.cell? ⟨w.heap.size, 0, none⟩ = some (.int .i64 d) := by rw [← hwa]; simp
  have r1 : wa.cell? ⟨w.heap.size, 1, none⟩ = some (.int .i64 k) := by rw [← hwa]; simp
  have r2 : wa.cell? ⟨w.heap.size, 2, none⟩ = some (.int .u64 a) := by rw [← hwa]; simp
  have hsz : w.heap.size < wa.heap.size := by rw [← hwa]; simp
  obtain ⟨rb, hrb⟩ : ∃ rb, w.heap.size = rb := ⟨_, rfl⟩
  rw [hwa, hrb]
  rw [hrb] at r0 r1 r2
  have HUa := hid (HU.out.below HBa.out)
  have c1 : ∀ x : WB wa, x.w.cell? ⟨u, 522, none⟩ = some (.bool true) := fun x => x.cell HUa.out.lt (h ▸ HUa.out.c522)
  have c2 : ∀ x : WB wa, x.w.cell? ⟨u, 523, none⟩ = some (.int .u64 v.addr) := fun x => x.cell HUa.out.lt HUa.out.c523
  have c3 : ∀ x : WB wa, x.w.cell? ⟨u, 524, none⟩ = some (.int .i64 v.first) := fun x => x.cell HUa.out.lt HUa.out.c524
  have c4 : ∀ x : WB wa, x.w.cell? ⟨u, 525, none⟩ = some (.int .i64 v.count) := fun x => x.cell HUa.out.lt HUa.out.c525
  refine wp_region_wb (by kernel_rfl) (by kernel_rfl) ?_
  repeat
    first
      | (refine wpQuiet_step (fun K hK => ?_)
         go_simp
         first
           | (refine hK _ ?_; clear hK K)
           | (refine ⟨_, fun _ => rfl, hK _ ?_⟩; clear hK K)
           | (refine ⟨.int .u64 ((v.at v.count : Nat) : Int), fun x => ?_, hK _ ?_⟩
              · (go_at_call 28; exact Calls.wb x (HA.out ▸ m_at x.w true v.addr v.first v.count v.count (by omega) hf (by omega) _ rfl))
              clear hK K))
  refine wpQuiet_nil ?_
  intro _ hx
  obtain ⟨x, rfl⟩ := hx
  have HJ0 : Hid (RJ w S u v n rb d k a x.w S f) := ⟨HUa.out.below x.h, (HM.out.below HBa.out).below x.h, Only.ofBelow (HBa.out.trans (x.h.mono HBa.out.size)), fun k q => .inl q, (x.h.block rb (by rw [← hrb]; exact hsz)).trans (by rw [← hrb, ← hwa]; exact heap_alloc_new w _)⟩
  clear c1 c2 c3 c4 r0 r1 r2 HUa HBa HU HM hwa
  obtain ⟨wb, hwb⟩ : ∃ wb, x.w = wb := ⟨_, rfl⟩
  rw [hwb] at HJ0
  rw [hwb]
  clear hwb x
  have c1 := HJ0.out.hu.c1
  have r0 : wb.cell? ⟨rb, 0, none⟩ = some (.int .i64 d) := by rw [cell_of_row wb rb 0 _ _ _ HJ0.out.hr]; rfl
  go_wp2_with fail
  refine wp_region_last_lit (by simp) (by kernel_rfl) (by kernel_rfl) (by kernel_rfl) ?_
  simp only [List.dropLast, List.getLast]
  repeat (go_big_quiet_step (fail))
  refine wpQuiet_nil ?_
  intro _ hwq
  obtain ⟨nq, hwq⟩ := hwq
  subst hwq
  go_wp2_with ((go_at_call 45; refine (C.c_Write _ S v.m 0 n f (HJ0.out.dn nq).hm (v.at v.count) 4 (by omega) (by omega) _ (by omega) d d0 (by omega)).mono ?_; rintro e w1 ⟨S1, rfl, hm1, ho1, hs1⟩; have HJ1 := hid ((HJ0.out.dn nq).step hm1 ho1 hs1); clear hm1 ho1 hs1 HJ0 c1 r0; have c1 := HJ1.out.hu.c1; have r1 : w1.cell? ⟨rb, 1, none⟩ = some (.int .i64 k) := by (rw [cell_of_row w1 rb 1 _ _ _ HJ1.out.hr]; rfl)))
  refine wp_region_last_lit (by simp) (by kernel_rfl) (by kernel_rfl) (by kernel_rfl) ?_
  simp only [List.dropLast, List.getLast]
  repeat (go_big_quiet_step (fail))
  refine wpQuiet_nil ?_
  intro _ hwq
  obtain ⟨nq, hwq⟩ := hwq
  subst hwq
  obtain ⟨nq1, hnq1⟩ : ∃ nq1 : Nat, nq1 = nq := ⟨_, rfl⟩
  go_wp2_with ((go_at_call 45; refine (C.c_Write _ S1 v.m 0 n _ (HJ1.out.dn nq).hm (v.at v.count + 4) 4 (by omega) (by omega) _ (by omega) k k0 (by omega)).mono ?_; rintro e w2 ⟨S2, rfl, hm1, ho1, hs1⟩; have HJ2 := hid ((HJ1.out.dn nq).step hm1 ho1 hs1); clear hm1 ho1 hs1 HJ1 c1 r1; have c1 := HJ2.out.hu.c1; have r1 : w2.cell? ⟨rb, 2, none⟩ = some (.int .u64 a) := by (rw [cell_of_row w2 rb 2 _ _ _ HJ2.out.hr]; rfl)))
  clear hnq1 nq1
  refine wp_region_last_lit (by simp) (by kernel_rfl) (by kernel_rfl) (by kernel_rfl) ?_
  simp only [List.dropLast, List.getLast]
  repeat (go_big_quiet_step (fail))
  refine wpQuiet_nil ?_
  intro _ hwq
  obtain ⟨nq, hwq⟩ := hwq
  subst hwq
  go_wp2_with ((go_at_call 45; refine (C.c_Write _ S2 v.m 0 n _ (HJ2.out.dn nq).hm (v.at v.count + 8) 8 (by omega) (by omega) _ (by omega) a a0 a1).mono ?_; rintro e w3 ⟨S3, rfl, hm1, ho1, hs1⟩; have HJ3 := hid ((HJ2.out.dn nq).step hm1 ho1 hs1); clear hm1 ho1 hs1 HJ2 c1 r1; have c1 := HJ3.out.hu.c525; have f1 := HJ3.out.hu.z 525))
  refine bodyPost_end (results_none Tryz.results27 _ _ _) rfl ⟨rfl, S3, ?_, ?_, ?_, fun k q => HJ3.out.hs k q⟩
  · exact HJ3.out.hu.sc (v.count + 1)
  · exact HJ3.out.hm.only (only1 w3 u _ _) (fun j hj q => hnS HJ3.out.hu HJ3.out.hm (q ▸ hj))
  · exact (HJ3.out.ho.mono fun j _ q => .inr q).trans' (only1 w3 u _ _) fun i _ q => .inl q
end Go.Proofs.YtajnjmjogaacpaaGreat
namespace Go.Proofs.YtajnjmjogaacpaaGreat
open Go.RowKit
open C (Only hid Mem Still ret_int ret_bool put byt nu WB WB.cell Calls.wb wp_region_wb hasB)
set_option linter.unusedVariables false
set_option maxRecDepth 100000

theorem m_Ring (w : World) (u : Nat) (v : UV) (hu : Iu w u v) (S : Nat → Prop) (n : Nat) (f : Nat → Int) (hm : Mem w S v.m 0 n f) (a : Nat) (ha : a % 4096 = 0) (hl : a + 4096 ≤ 4096 * n) (i : Int) (hi : i = a) :
    Calls Tryz.prog 6 #[.pointer (some ⟨u, 0, none⟩), .int .u64 i] w fun e w' => e = .returned (.int .i64 0) ∧ Iu w' u (v.setRing a) ∧ Only (· = u) w w' := by
  subst hi
  have n1 := hm.nums.2.2.2
  have c1 := hu.c1
  have HU := hid hu
  have HM := hid hm
  have hz : ((a : Int) % 4096 != 0) = false := by simp; omega
  have hb : hasB 0 n a 4096 = true := by simp [hasB]; omega
  clear hu hm
  go_enter Tryz.func6, Tryz.ntmps6
  go_wp2_with ((go_at_call 21; refine (C.c_HasM _ S v.m 0 n f HM.out a 4096 (by omega) (by omega) (by decide) (by decide) true hb).mono ?_; rintro e w1 ⟨rfl, hs1⟩; have HU1 := hid (HU.out.below (hs1.below _)); have HO1 := hid (hs1.only (S := (· = u))); have f1 := HU1.out.z; have c2 := HU1.out.c522; have c3 := HU1.out.c523; have c4 := HU1.out.c524; have c5 := HU1.out.c525; clear hs1))
  go_ret
  exact ⟨rfl, HU1.out.ring a, (((HO1.out.trans (only1 _ u _ _)).trans (only1 _ u _ _)).trans (only1 _ u _ _)).trans (only1 _ u _ _)⟩
theorem m_Next_no (w : World) (u : Nat) (v : UV) (hu : Iu w u v) (h : v.count = 0) : Calls Tryz.prog 13 #[.pointer (some ⟨u, 0, none⟩)] w fun e w' => e = .returned (.tuple #[.agg #[.int .i64 0, .int .i64 0, .int .u64 0], .bool false]) ∧ Below w.heap.size w w' := by
  have c1 := hu.c525
  rw [h] at c1
  have hlt := hu.lt
  clear hu
  go_enter Tryz.func13, Tryz.ntmps13
  go_wp2
  go_returns
  exact ⟨rfl, (Below.refl _ _).alloc (Nat.le_refl _) _⟩
theorem set3 {w : World} {b : Nat} {ty : TypeId} {a0 a1 a2 : Value} (h : w.heap[b]? = some (.cells #[a0, a1, a2] ty (0, 0))) (x y z : Value) : (((w.setCell ⟨b, 0, none⟩ x).setCell ⟨b, 1, none⟩ y).setCell ⟨b, 2, none⟩ z).heap[b]? = some (.cells #[x, y, z] ty (0, 0)) := by
  have s1 : (w.setCell ⟨b, 0, none⟩ x).heap[b]? = some (.cells #[x, a1, a2] ty (0, 0)) := by rw [setCell_eq_setRow w b 0 _ _ (0, 0) x h]; exact setRow_heap w b _ _ _ _ h
  have s2 : ((w.setCell ⟨b, 0, none⟩ x).setCell ⟨b, 1, none⟩ y).heap[b]? = some (.cells #[x, y, a2] ty (0, 0)) := by rw [setCell_eq_setRow _ b 1 _ _ (0, 0) y s1]; exact setRow_heap _ b _ _ _ _ s1
  rw [setCell_eq_setRow _ b 2 _ _ (0, 0) z s2]
  exact setRow_heap _ b _ _ _ _ s2
/-- what the memory says at a place -/
def rdn (f : Nat → Int) (p k : Nat) : Int := nu (fun j => f (p + j)) k
theorem rdn4 {f : Nat → Int} (hf : ∀ j, 0 ≤ f j ∧ f j < 256) (p : Nat) : 0 ≤ rdn f p 4 ∧ rdn f p 4 < 4294967296 := C.nu_lt _ (fun j => hf _) 4
theorem rdn8 {f : Nat → Int} (hf : ∀ j, 0 ≤ f j ∧ f j < 256) (p : Nat) : 0 ≤ rdn f p 8 ∧ rdn f p 8 < 18446744073709551616 := C.nu_lt _ (fun j => hf _) 8
theorem m_Next (w : World) (u : Nat) (v : UV) (hu : Iu w u v) (S : Nat → Prop) (n : Nat) (f : Nat → Int) (hm : Mem w S v.m 0 n f) (hc0 : 0 < v.count) (hc : v.count < 256) (hf : v.first < 256) (ha : v.addr + 4096 ≤ 4096 * n) :
    Calls Tryz.prog 13 #[.pointer (some ⟨u, 0, none⟩)] w fun e w' => e = .returned (.tuple #[.agg #[.int .i64 (rdn f (v.at 0) 4), .int .i64 (rdn f (v.at 0 + 4) 4), .int .u64 (rdn f (v.at 0 + 8) 8)], .bool true]) ∧ Iu w' u ((v.setFirst ((v.first + 1) % 256)).setCount (v.count - 1)) ∧ Only (· = u) w w' := by
  have n1 := hm.nums.2.2.2
  have q1 := rdn4 hm.byt (v.at 0)
  have q2 := rdn4 hm.byt (v.at 0 + 4)
  have q3 := rdn8 hm.byt (v.at 0 + 8)
  have c1 := hu.c1
  have c2 := hu.c522
  have c3 := hu.c523
  have c4 := hu.c524
  have c5 := hu.c525
  have hz : ((v.count : Int) == 0) = false := by simp; omega
  have hlt := hu.lt
  have HU := hid hu
  have HM := hid hm
  have hat : v.at 0 + 16 ≤ 4096 * n := by unfold UV.at; omega
  have T1 : Hid True := trivial
  have T2 : Hid True := trivial
  have HA : Hid (((v.addr + (v.first + 0) % 256 * 16 : Nat) : Int) = ((v.at 0 : Nat) : Int)) := rfl
  have R1 : nu (fun j => f (v.at 0 + j)) 4 = rdn f (v.at 0) 4 := rfl
  have R2 : nu (fun j => f (v.at 0 + 4 + j)) 4 = rdn f (v.at 0 + 4) 4 := rfl
  have R3 : nu (fun j => f (v.at 0 + 8 + j)) 8 = rdn f (v.at 0 + 8) 8 := rfl
  have HRR := hid (And.intro R1 (And.intro R2 R3))
  clear hu hm R1 R2 R3
  generalize rdn f (v.at 0) 4 = x1 at *
  generalize rdn f (v.at 0 + 4) 4 = x2 at *
  generalize rdn f (v.at 0 + 8) 8 = x3 at *
  go_enter Tryz.func13, Tryz.ntmps13
  go_wp2_with (first
    | (go_at_call 28; refine (HA.out ▸ m_at _ v.there v.addr v.first v.count 0 (by omega) hf (by decide) 0 rfl).mono ?_; rintro e w1 ⟨rfl, hb1⟩; have HB1 := hid (((Below.refl w.heap.size w).alloc (Nat.le_refl _) _).trans (hb1.mono (by simp))); have hb0 : w1.heap[w.heap.size]? = _ := (hb1.block w.heap.size (by simp)).trans (heap_alloc_new w _); have HB0 := hid hb0; clear hb1 hb0; have k1 := (HU.out.below HB1.out).c1)
    | (have t := T1; go_at_call 29; refine (C.c_Read _ S v.m 0 n f (HM.out.below HB1.out) (v.at 0) 4 (by omega) (by omega) _ (by omega)).mono ?_; rw [HRR.out.1]; clear t T1; rintro e w2 ⟨rfl, hb2⟩; have HB2 := hid (HB1.out.trans (hb2.mono HB1.out.size)); have hb0 := (hb2.block w.heap.size (lt_of_block HB0.out)).trans HB0.out; clear HB0 hb2; have HB0 := hid hb0; clear hb0; have k2 := (HU.out.below HB2.out).c1)
    | (have t := T2; go_at_call 29; refine (C.c_Read _ S v.m 0 n f (HM.out.below HB2.out) (v.at 0 + 4) 4 (by omega) (by omega) _ (by omega)).mono ?_; rw [HRR.out.2.1]; clear t T2; rintro e w3 ⟨rfl, hb2⟩; have HB3 := hid (HB2.out.trans (hb2.mono HB2.out.size)); have hb0 := (hb2.block w.heap.size (lt_of_block HB0.out)).trans HB0.out; clear HB0 hb2; have HB0 := hid hb0; clear hb0; have k3 := (HU.out.below HB3.out).c1))
  go_at_call 29
  refine (C.c_Read _ S v.m 0 n f (HM.out.below HB3.out) (v.at 0 + 8) 8 (by omega) (by omega) _ (by omega)).mono ?_
  rw [HRR.out.2.2]
  rintro e w4 ⟨rfl, hb2⟩
  have HB4 := hid (HB3.out.trans (hb2.mono HB3.out.size))
  have hb0 := (hb2.block w.heap.size (lt_of_block HB0.out)).trans HB0.out
  clear HB0 hb2
  have HU4 := hid (HU.out.below HB4.out)
  have k4 := HU4.out.c524
  have k5 := HU4.out.c525
  have kf := HU4.out.z
  have y0 : w4.cell? ⟨w.heap.size, 0, none⟩ = some (.int .i64 0) := by (rw [cell_of_row w4 _ 0 _ _ _ hb0]; rfl)
  have y1 : w4.cell? ⟨w.heap.size, 1, none⟩ = some (.int .i64 0) := by (rw [cell_of_row w4 _ 1 _ _ _ hb0]; rfl)
  have y2 : w4.cell? ⟨w.heap.size, 2, none⟩ = some (.int .u64 0) := by (rw [cell_of_row w4 _ 2 _ _ _ hb0]; rfl)
  have yf : ∀ j, w4.frozen? ⟨w.heap.size, j, none⟩ = false := fun j => frozen_of_row w4 _ j _ _ hb0
  have hne : (u = w.heap.size) = False := by (simp; omega)
  have hne' : (w.heap.size = u) = False := by (simp; omega)
  go_wp2
  have e1 : ((v.first : Int) + 1) % 256 = (((v.first + 1) % 256 : Nat) : Int) := by omega
  have e2 : (v.count : Int) - 1 = ((v.count - 1 : Nat) : Int) := by omega
  rw [e1, e2]
  have hb5 := ((only1 w4 u 524 (.int .i64 (((v.first + 1) % 256 : Nat) : Int))).trans (only1 _ u 525 (.int .i64 ((v.count - 1 : Nat) : Int)))).old hb0 (by omega)
  have hu5 := (HU4.out.sf ((v.first + 1) % 256)).sc (v.count - 1)
  have ho5 := (only1 w4 u 524 (.int .i64 (((v.first + 1) % 256 : Nat) : Int))).trans (only1 _ u 525 (.int .i64 ((v.count - 1 : Nat) : Int)))
  clear kf k4 k5 y0 y1 y2 yf
  generalize (w4.setCell ⟨u, 524, none⟩ (.int .i64 (((v.first + 1) % 256 : Nat) : Int))).setCell ⟨u, 525, none⟩ (.int .i64 ((v.count - 1 : Nat) : Int)) = w5 at *
  have h6 := set3 hb5 (.int .i64 x1) (.int .i64 x2) (.int .u64 x3)
  have ho6 := ((Only.refl (S := (· = w.heap.size)) w5).setCell (p := ⟨w.heap.size, 0, none⟩) (.inl rfl) (.int .i64 x1)).setCell (p := ⟨w.heap.size, 1, none⟩) (.inl rfl) (.int .i64 x2)
  have ho6 := ho6.setCell (p := ⟨w.heap.size, 2, none⟩) (.inl rfl) (.int .u64 x3)
  generalize ((w5.setCell ⟨w.heap.size, 0, none⟩ (.int .i64 x1)).setCell ⟨w.heap.size, 1, none⟩ (.int .i64 x2)).setCell ⟨w.heap.size, 2, none⟩ (.int .u64 x3) = w6 at *
  have y0 : w6.cell? ⟨w.heap.size, 0, none⟩ = some (.int .i64 x1) := by rw [cell_of_row w6 _ 0 _ _ _ h6]; rfl
  have y1 : w6.cell? ⟨w.heap.size, 1, none⟩ = some (.int .i64 x2) := by rw [cell_of_row w6 _ 1 _ _ _ h6]; rfl
  have y2 : w6.cell? ⟨w.heap.size, 2, none⟩ = some (.int .u64 x3) := by rw [cell_of_row w6 _ 2 _ _ _ h6]; rfl
  refine bodyPost_ret (by simp [results, Tryz.results13, go_sem, y0, y1, y2]; rfl) rfl ?_
  refine ⟨rfl, hu5.only ho6 (by omega), ?_⟩
  exact (Only.ofBelow HB4.out |>.trans ho5).trans' (ho6.mono (T := fun k => w.heap.size ≤ k) fun k _ q => by omega) fun i hi q => by omega
end Go.Proofs.YtajnjmjogaacpaaGreat
namespace Go.Proofs.YtajnjmjogaacpaaGreat
open Go.RowKit
open C (Only hid Mem Still ret_int ret_bool put byt nu WB WB.cell Calls.wb wp_region_wb hasB gst rdm)
set_option linter.unusedVariables false
set_option maxRecDepth 100000

def orI (k c : Int) : Int := if k = 0 then c else k
theorem m_Or (w : World) (b n : Nat) (k c : Int) (h0 : w.cell? ⟨b, 0, none⟩ = some (.int .i64 k)) (h1 : w.cell? ⟨b, 1, none⟩ = some (.int .i64 c)) (hc : (c != 0) = true) : Calls Tryz.prog 25 #[.slice (some ⟨b, 0, none⟩) 2 n] w fun e w' => e = .returned (.int .i64 (orI k c)) ∧ w' = w := by
  by_cases hk : k = 0
  · subst hk
    go_enter Tryz.func25, Tryz.ntmps25
    go_wp2
    go_loop [8] (fun t => t = .int .i64 0 ∨ t = .int .i64 1) (fun t => 2 - (intOf t).toNat)
    case atStart => exact .inl rfl
    case round =>
      rcases hrel with rfl | rfl
      · go_wp2
        go_round
        case rel => exact .inr (by go_num)
        case measure => simp [intOf]
      · go_wp2
        go_ret
        exact ⟨rfl, rfl⟩
  · have hk' : (k != 0) = true := by simpa using hk
    go_enter Tryz.func25, Tryz.ntmps25
    go_wp2
    go_loop [8] (fun t => t = .int .i64 0) (fun t => 2 - (intOf t).toNat)
    case atStart => rfl
    case round =>
      subst hrel
      go_wp2
      go_ret
      exact ⟨ret_int (by simp [orI, hk]), rfl⟩
/-- a device's access, as it stands in memory -/
def Ac (w : World) (b : Nat) (d a s : Int) (wr : Bool) (p : Int) : Prop := w.heap[b]? = some (.cells #[.int .i64 d, .int .u64 a, .int .i64 s, .bool wr, .int .u64 p] 112 (0, 0))
section
variable {w w' : World} {b : Nat} {d a s : Int} {wr : Bool} {p : Int}
theorem Ac.lt (h : Ac w b d a s wr p) : b < w.heap.size := lt_of_block h
theorem Ac.c0 (h : Ac w b d a s wr p) : w.cell? ⟨b, 0, none⟩ = some (.int .i64 d) := by rw [cell_of_row w b 0 _ _ _ h]; rfl
theorem Ac.c1 (h : Ac w b d a s wr p) : w.cell? ⟨b, 1, none⟩ = some (.int .u64 a) := by rw [cell_of_row w b 1 _ _ _ h]; rfl
theorem Ac.c2 (h : Ac w b d a s wr p) : w.cell? ⟨b, 2, none⟩ = some (.int .i64 s) := by rw [cell_of_row w b 2 _ _ _ h]; rfl
theorem Ac.c3 (h : Ac w b d a s wr p) : w.cell? ⟨b, 3, none⟩ = some (.bool wr) := by rw [cell_of_row w b 3 _ _ _ h]; rfl
theorem Ac.c4 (h : Ac w b d a s wr p) : w.cell? ⟨b, 4, none⟩ = some (.int .u64 p) := by rw [cell_of_row w b 4 _ _ _ h]; rfl
theorem Ac.z (h : Ac w b d a s wr p) (j : Nat) : w.frozen? ⟨b, j, none⟩ = false := frozen_of_row w b j _ _ h
theorem Ac.below (h : Ac w b d a s wr p) (hb : Below w.heap.size w w') : Ac w' b d a s wr p := (hb.block b h.lt).trans h
theorem Ac.only (h : Ac w b d a s wr p) {T : Nat → Prop} (ho : Only T w w') (hb : ¬ T b) : Ac w' b d a s wr p := ho.old h hb
theorem Ac.set (h : Ac w b d a s wr p) (q : Int) : Ac (w.setCell ⟨b, 4, none⟩ (.int .u64 q)) b d a s wr q := by
  unfold Ac
  rw [setCell_eq_setRow w b 4 _ _ (0, 0) _ h]
  exact setRow_heap w b _ _ _ _ h
end
/-- whether an entry allows it -/
def alw (e : E.TV) (wr : Bool) : Bool := !(bits .and .i64 e.r (art wr) == 0)
/-- where an address comes to by the page's frame -/
def plf (fr a : Int) : Int := IntKind.u64.wrap (IntKind.u64.wrap (fr * 4096) + a % 4096)
end Go.Proofs.YtajnjmjogaacpaaGreat
