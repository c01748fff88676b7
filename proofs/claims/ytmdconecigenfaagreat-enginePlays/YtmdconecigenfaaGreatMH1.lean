/- An IOMMU as it stands in memory. -/
import Derived.Test.YtmdconecigenfaaGreatMC2
import Derived.Test.YtmdconecigenfaaGreatME1
import Derived.BigQuiet
import Derived.Handy
namespace Go.Proofs.YtmdconecigenfaaGreat
open Go.RowKit
open C (Only hid Mem Still)
set_option linter.unusedVariables false
set_option maxRecDepth 100000

/-- what an IOMMU keeps: its TLB, its memory, roots, messages (guest, interrupt; 32 a device), the ring, the flag -/
structure UV where
  t : Nat
  m : Nat
  root : Nat → Int
  mg : Nat → Int
  mi : Nat → Int
  there : Bool
  addr : Nat
  first : Nat
  count : Nat
  lost : Bool
def UV.f (v : UV) (k : Nat) : Value :=
  if k = 0 then .pointer (some ⟨v.t, 0, none⟩) else if k = 1 then .pointer (some ⟨v.m, 0, none⟩) else if k < 10 then .int .u64 (v.root (k - 2)) else
  if k < 522 then (if k % 2 = 0 then .int .i64 (v.mg ((k - 10) / 2)) else .int .i64 (v.mi ((k - 10) / 2))) else
  if k = 522 then .bool v.there else if k = 523 then .int .u64 v.addr else if k = 524 then .int .i64 v.first else if k = 525 then .int .i64 v.count else .bool v.lost
def UV.ca (v : UV) : Array Value := ((List.range 527).map v.f).toArray
def Iu (w : World) (u : Nat) (v : UV) : Prop := w.heap[u]? = some (.cells v.ca 56 (0, 0))
theorem ca_get (v : UV) (k : Nat) (hk : k < 527) : v.ca[k]? = some (v.f k) := by simp [UV.ca, hk]
theorem ca_set (v v' : UV) (k : Nat) (x : Value) (he : ∀ j, j < 527 → (if j = k then x else v.f j) = v'.f j) : v.ca.setIfInBounds k x = v'.ca := by
  apply Array.ext_getElem?
  intro j
  rw [Array.getElem?_setIfInBounds]
  by_cases hj : j < 527
  · rw [ca_get v' j hj, ← he j hj]
    by_cases e : k = j
    · subst e; simp [UV.ca, hj]
    · have e' : ¬ j = k := fun q => e q.symm
      simp [e, e', ca_get v j hj]
  · have h1 : v.ca[j]? = none := by simp [UV.ca]; omega
    have h2 : v'.ca[j]? = none := by simp [UV.ca]; omega
    rw [h1, h2]
    by_cases e : k = j
    · subst e; simp [UV.ca, hj]
    · simp [e]
section
variable {w w' : World} {u : Nat} {v v' : UV}
theorem Iu.c (h : Iu w u v) (k : Nat) (hk : k < 527) : w.cell? ⟨u, k, none⟩ = some (v.f k) := by rw [cell_of_row w u k v.ca _ _ h, ca_get v k hk]
theorem Iu.z (h : Iu w u v) (k : Nat) : w.frozen? ⟨u, k, none⟩ = false := frozen_of_row w u k _ _ h
theorem Iu.lt (h : Iu w u v) : u < w.heap.size := lt_of_block h
theorem Iu.only (h : Iu w u v) {T : Nat → Prop} (ho : Only T w w') (hb : ¬ T u) : Iu w' u v := ho.old h hb
theorem Iu.below (h : Iu w u v) (hb : Below w.heap.size w w') : Iu w' u v := (hb.block u h.lt).trans h
theorem Iu.set (h : Iu w u v) (k : Nat) (x : Value) (he : ∀ j, j < 527 → (if j = k then x else v.f j) = v'.f j) : Iu (w.setCell ⟨u, k, none⟩ x) u v' := by
  unfold Iu
  rw [setCell_eq_setRow w u k v.ca _ (0, 0) x h, ca_set v v' k x he]
  exact setRow_heap w u v.ca _ _ _ h
theorem Iu.c0 (h : Iu w u v) : w.cell? ⟨u, 0, none⟩ = some (.pointer (some ⟨v.t, 0, none⟩)) := h.c 0 (by decide)
theorem Iu.c1 (h : Iu w u v) : w.cell? ⟨u, 1, none⟩ = some (.pointer (some ⟨v.m, 0, none⟩)) := h.c 1 (by decide)
theorem Iu.cr (h : Iu w u v) (d : Nat) (hd : d < 8) : w.cell? ⟨u, 2 + d, none⟩ = some (.int .u64 (v.root d)) := by
  rw [h.c _ (by omega)]; unfold UV.f
  rw [if_neg (by omega), if_neg (by omega), if_pos (by omega), Nat.add_sub_cancel_left]
theorem Iu.cg (h : Iu w u v) (d i : Nat) (hd : d < 8) (hi : i < 32) : w.cell? ⟨u, 10 + d * 64 + i * 2, none⟩ = some (.int .i64 (v.mg (d * 32 + i))) := by
  rw [h.c _ (by omega)]; unfold UV.f
  rw [if_neg (by omega), if_neg (by omega), if_neg (by omega), if_pos (by omega), if_pos (by omega), show (10 + d * 64 + i * 2 - 10) / 2 = d * 32 + i by omega]
theorem Iu.ci (h : Iu w u v) (d i : Nat) (hd : d < 8) (hi : i < 32) : w.cell? ⟨u, 10 + d * 64 + i * 2 + 1, none⟩ = some (.int .i64 (v.mi (d * 32 + i))) := by
  rw [h.c _ (by omega)]; unfold UV.f
  rw [if_neg (by omega), if_neg (by omega), if_neg (by omega), if_pos (by omega), if_neg (by omega), show (10 + d * 64 + i * 2 + 1 - 10) / 2 = d * 32 + i by omega]
theorem Iu.c522 (h : Iu w u v) : w.cell? ⟨u, 522, none⟩ = some (.bool v.there) := h.c 522 (by decide)
theorem Iu.c523 (h : Iu w u v) : w.cell? ⟨u, 523, none⟩ = some (.int .u64 v.addr) := h.c 523 (by decide)
theorem Iu.c524 (h : Iu w u v) : w.cell? ⟨u, 524, none⟩ = some (.int .i64 v.first) := h.c 524 (by decide)
theorem Iu.c525 (h : Iu w u v) : w.cell? ⟨u, 525, none⟩ = some (.int .i64 v.count) := h.c 525 (by decide)
theorem Iu.c526 (h : Iu w u v) : w.cell? ⟨u, 526, none⟩ = some (.bool v.lost) := h.c 526 (by decide)
end
def upd (x : Nat → Int) (r : Nat) (y : Int) : Nat → Int := fun k => if k = r then y else x k
def UV.setRoot (v : UV) (d : Nat) (r : Int) : UV := { v with root := upd v.root d r }
def UV.setLost (v : UV) (b : Bool) : UV := { v with lost := b }
def UV.setRing (v : UV) (a : Nat) : UV := { v with there := true, addr := a, first := 0, count := 0 }
def UV.setFirst (v : UV) (a : Nat) : UV := { v with first := a }
def UV.setCount (v : UV) (a : Nat) : UV := { v with count := a }
def UV.setG (v : UV) (k : Nat) (g : Int) : UV := { v with mg := upd v.mg k g }
def UV.setI (v : UV) (k : Nat) (i : Int) : UV := { v with mi := upd v.mi k i }
def UV.setMsi (v : UV) (k : Nat) (g i : Int) : UV := (v.setG k g).setI k i
section
variable {w w' : World} {u : Nat} {v v' : UV}
theorem Iu.sr (h : Iu w u v) (d : Nat) (hd : d < 8) (r : Int) : Iu (w.setCell ⟨u, 2 + d, none⟩ (.int .u64 r)) u (v.setRoot d r) := by
  refine h.set _ _ fun j hj => ?_
  by_cases e : j = 2 + d
  · subst e
    rw [if_pos rfl]
    unfold UV.f UV.setRoot upd
    rw [if_neg (by omega), if_neg (by omega), if_pos (by omega), Nat.add_sub_cancel_left]
    simp
  · rw [if_neg e]
    unfold UV.f UV.setRoot upd
    repeat' split
    all_goals first | rfl | omega | (dsimp only; rw [if_neg (by omega)])
theorem Iu.sl (h : Iu w u v) (b : Bool) : Iu (w.setCell ⟨u, 526, none⟩ (.bool b)) u (v.setLost b) := by
  refine h.set _ _ fun j hj => ?_
  unfold UV.f UV.setLost
  repeat' split
  all_goals first | rfl | omega
theorem Iu.sf (h : Iu w u v) (a : Nat) : Iu (w.setCell ⟨u, 524, none⟩ (.int .i64 a)) u (v.setFirst a) := by
  refine h.set _ _ fun j hj => ?_
  unfold UV.f UV.setFirst
  repeat' split
  all_goals first | rfl | omega
theorem Iu.sc (h : Iu w u v) (a : Nat) : Iu (w.setCell ⟨u, 525, none⟩ (.int .i64 a)) u (v.setCount a) := by
  refine h.set _ _ fun j hj => ?_
  unfold UV.f UV.setCount
  repeat' split
  all_goals first | rfl | omega
theorem Iu.sb (h : Iu w u v) (b : Bool) : Iu (w.setCell ⟨u, 522, none⟩ (.bool b)) u { v with there := b } := by
  refine h.set _ _ fun j hj => ?_
  unfold UV.f
  repeat' split
  all_goals first | rfl | omega
theorem Iu.sa (h : Iu w u v) (a : Nat) : Iu (w.setCell ⟨u, 523, none⟩ (.int .u64 a)) u { v with addr := a } := by
  refine h.set _ _ fun j hj => ?_
  unfold UV.f
  repeat' split
  all_goals first | rfl | omega
theorem Iu.ring (h : Iu w u v) (a : Nat) : Iu ((((w.setCell ⟨u, 522, none⟩ (.bool true)).setCell ⟨u, 523, none⟩ (.int .u64 a)).setCell ⟨u, 524, none⟩ (.int .i64 0)).setCell ⟨u, 525, none⟩ (.int .i64 0)) u (v.setRing a) := (((h.sb true).sa a).sf 0).sc 0
theorem Iu.sg (h : Iu w u v) (d i : Nat) (hd : d < 8) (hi : i < 32) (g : Int) : Iu (w.setCell ⟨u, 10 + d * 64 + i * 2, none⟩ (.int .i64 g)) u (v.setG (d * 32 + i) g) := by
  refine h.set _ _ fun j hj => ?_
  by_cases e : j = 10 + d * 64 + i * 2
  · subst e
    rw [if_pos rfl]
    unfold UV.f UV.setG upd
    rw [if_neg (by omega), if_neg (by omega), if_neg (by omega), if_pos (by omega), if_pos (by omega), show (10 + d * 64 + i * 2 - 10) / 2 = d * 32 + i by omega]
    simp
  · rw [if_neg e]
    unfold UV.f UV.setG upd
    repeat' split
    all_goals first | rfl | omega | (dsimp only; rw [if_neg (by omega)])
theorem Iu.si (h : Iu w u v) (d i : Nat) (hd : d < 8) (hi : i < 32) (g : Int) : Iu (w.setCell ⟨u, 10 + d * 64 + i * 2 + 1, none⟩ (.int .i64 g)) u (v.setI (d * 32 + i) g) := by
  refine h.set _ _ fun j hj => ?_
  by_cases e : j = 10 + d * 64 + i * 2 + 1
  · subst e
    rw [if_pos rfl]
    unfold UV.f UV.setI upd
    rw [if_neg (by omega), if_neg (by omega), if_neg (by omega), if_pos (by omega), if_neg (by omega), show (10 + d * 64 + i * 2 + 1 - 10) / 2 = d * 32 + i by omega]
    simp
  · rw [if_neg e]
    unfold UV.f UV.setI upd
    repeat' split
    all_goals first | rfl | omega | (dsimp only; rw [if_neg (by omega)])
end
end Go.Proofs.YtmdconecigenfaaGreat
namespace Go.Proofs.YtmdconecigenfaaGreat
open Go.RowKit
open C (Only hid Mem Still ret_int ret_bool)
set_option linter.unusedVariables false
set_option maxRecDepth 100000

theorem only1 (w : World) (u k : Nat) (x : Value) : Only (· = u) w (w.setCell ⟨u, k, none⟩ x) := C.Only.setCell (S := (· = u)) (Only.refl w) (p := ⟨u, k, none⟩) (.inl rfl) x
def isDev (d : Int) : Bool := decide (0 ≤ d ∧ d < 8)
theorem dev_cases {d : Int} (h : isDev d = true) : 0 ≤ d ∧ d < 8 := by simpa [isDev] using h
theorem m_isDevice (w : World) (d : Int) (r : Bool) (hr : isDev d = r) : Calls Tryz.prog 43 #[.int .i64 d] w fun e w' => e = .returned (.bool r) ∧ w' = w := by
  subst hr
  go_enter Tryz.func43, Tryz.ntmps43
  by_cases a : 0 ≤ d
  · go_wp2
    go_ret
    exact ⟨ret_bool (by simp [isDev, a]), rfl⟩
  · go_wp2
    go_ret
    exact ⟨ret_bool (by simp [isDev]; omega), rfl⟩
theorem m_Set_bad (w : World) (u : Nat) (d r : Int) (h : isDev d = false ∨ r = 0) : Calls Tryz.prog 18 #[.pointer (some ⟨u, 0, none⟩), .int .i64 d, .int .u64 r] w fun e w' => e = .returned (.int .i64 1) ∧ w' = w := by
  cases hd : isDev d
  · clear h
    go_enter Tryz.func18, Tryz.ntmps18
    go_wp2_with (first
      | (go_at_call 43; refine (m_isDevice _ d false hd).mono ?_; rintro e w2 ⟨rfl, hw2⟩; obtain rfl := hw2.symm))
    go_ret
    exact ⟨rfl, rfl⟩
  · obtain rfl : r = 0 := by simpa [hd] using h
    clear h
    go_enter Tryz.func18, Tryz.ntmps18
    go_wp2_with (first
      | (go_at_call 43; refine (m_isDevice _ d true hd).mono ?_; rintro e w2 ⟨rfl, hw2⟩; obtain rfl := hw2.symm))
    go_ret
    exact ⟨rfl, rfl⟩
theorem m_Set (w : World) (u : Nat) (v : UV) (hu : Iu w u v) (d r : Int) (hd : isDev d = true) (hr : (r == 0) = false) : Calls Tryz.prog 18 #[.pointer (some ⟨u, 0, none⟩), .int .i64 d, .int .u64 r] w fun e w' => e = .returned (.int .i64 0) ∧ Iu w' u (v.setRoot d.toNat r) ∧ Only (· = u) w w' := by
  obtain ⟨q0, q1⟩ := dev_cases hd
  have c1 := hu.cr d.toNat (by omega)
  have f1 := hu.z (2 + d.toNat)
  go_enter Tryz.func18, Tryz.ntmps18
  go_wp2_with (first
    | (go_at_call 43; refine (m_isDevice _ d true hd).mono ?_; rintro e w2 ⟨rfl, hw2⟩; obtain rfl := hw2.symm))
  go_ret
  exact ⟨rfl, hu.sr _ (by omega) _, only1 w u _ _⟩
theorem m_Drop (w : World) (u : Nat) (v : UV) (hu : Iu w u v) (d : Int) (hd : isDev d = true) : Calls Tryz.prog 68 #[.pointer (some ⟨u, 0, none⟩), .int .i64 d] w fun e w' => e = .returned (.int .i64 0) ∧ Iu w' u (v.setRoot d.toNat 0) ∧ Only (· = u) w w' := by
  obtain ⟨q0, q1⟩ := dev_cases hd
  have c1 := hu.cr d.toNat (by omega)
  have f1 := hu.z (2 + d.toNat)
  go_enter Tryz.func68, Tryz.ntmps68
  go_wp2_with (first
    | (go_at_call 43; refine (m_isDevice _ d true hd).mono ?_; rintro e w2 ⟨rfl, hw2⟩; obtain rfl := hw2.symm))
  go_ret
  exact ⟨rfl, hu.sr _ (by omega) _, only1 w u _ _⟩
theorem m_Root (w : World) (u : Nat) (v : UV) (hu : Iu w u v) (d : Int) (hd : isDev d = true) : Calls Tryz.prog 66 #[.pointer (some ⟨u, 0, none⟩), .int .i64 d] w fun e w' => e = .returned (.int .u64 (v.root d.toNat)) ∧ w' = w := by
  obtain ⟨q0, q1⟩ := dev_cases hd
  have c1 := hu.cr d.toNat (by omega)
  go_enter Tryz.func66, Tryz.ntmps66
  go_wp2_with (first
    | (go_at_call 43; refine (m_isDevice _ d true hd).mono ?_; rintro e w2 ⟨rfl, hw2⟩; obtain rfl := hw2.symm))
  go_ret
  exact ⟨rfl, rfl⟩
theorem m_Clear (w : World) (u : Nat) (v : UV) (hu : Iu w u v) : Calls Tryz.prog 73 #[.pointer (some ⟨u, 0, none⟩)] w fun e w' => e = .returned (.tuple #[]) ∧ Iu w' u (v.setLost false) ∧ Only (· = u) w w' := by
  have c1 := hu.c526
  have f1 := hu.z 526
  go_enter Tryz.func73, Tryz.ntmps73
  go_wp2
  go_end0
  exact ⟨rfl, hu.sl _, only1 w u _ _⟩
theorem m_Invalidate (w : World) (u : Nat) (v : UV) (hu : Iu w u v) (g room : Nat) (L : List E.TV) (ht : E.TM w v.t g room L) (d : Int) : Calls Tryz.prog 74 #[.pointer (some ⟨u, 0, none⟩), .int .i64 d] w fun e w' => e = .returned (.tuple #[]) ∧ E.TM w' v.t g room (E.fl L d) ∧ Only (E.Ft v.t g) w w' := by
  have c1 := hu.c0
  have HT := hid ht
  clear ht hu
  go_enter Tryz.func74, Tryz.ntmps74
  go_wp2_with (first
    | (go_at_call 100; refine (E.c_Flush _ v.t g room L HT.out d).mono ?_; rintro e w2 ⟨rfl, ht2, ho2⟩))
  go_end0
  exact ⟨rfl, ht2, ho2⟩
/-- what is asked, and the right that allows it -/
def akd (wr : Bool) : Int := if wr = true then 3 else 2
def art (wr : Bool) : Int := if wr = true then 4 else 2
theorem m_asks (w : World) (b : Nat) (x : Bool) (h : w.cell? ⟨b, 3, none⟩ = some (.bool x)) : Calls Tryz.prog 85 #[.pointer (some ⟨b, 0, none⟩)] w fun e w' => e = .returned (.tuple #[.int .i64 (akd x), .int .i64 (art x)]) ∧ w' = w := by
  cases x
  all_goals
    go_enter Tryz.func85, Tryz.ntmps85
    go_wp2
    go_ret2
    exact ⟨rfl, rfl⟩
/-- a size that there is, and an address that is a multiple of it -/
def whole (addr size : Int) : Bool := decide (size = 1 ∨ size = 2 ∨ size = 4 ∨ size = 8) && addr % size == 0
theorem m_isWhole (w : World) (b : Nat) (addr size : Int) (a0 : 0 ≤ addr) (a1 : addr < 18446744073709551616) (h1 : w.cell? ⟨b, 1, none⟩ = some (.int .u64 addr)) (h2 : w.cell? ⟨b, 2, none⟩ = some (.int .i64 size)) : Calls Tryz.prog 45 #[.pointer (some ⟨b, 0, none⟩)] w fun e w' => e = .returned (.bool (whole addr size)) ∧ ∃ n, w' = w.drewN n := by
  have hs : size = 1 ∨ size = 2 ∨ size = 4 ∨ size = 8 ∨ ¬ (size = 1 ∨ size = 2 ∨ size = 4 ∨ size = 8) := by omega
  go_enter Tryz.func45, Tryz.ntmps45
  rcases hs with rfl | rfl | rfl | rfl | hs
  · go_wp2
    go_quiet (fail)
    go_wp2
    go_ret
    exact ⟨ret_bool (by simp [whole]), _, rfl⟩
  · go_wp2
    go_quiet (fail)
    go_wp2
    go_ret
    exact ⟨ret_bool (by simp [whole]), _, rfl⟩
  · go_wp2
    go_quiet (fail)
    go_wp2
    go_ret
    exact ⟨ret_bool (by simp [whole]), _, rfl⟩
  · go_wp2
    go_quiet (fail)
    go_wp2
    go_ret
    exact ⟨ret_bool (by simp [whole]), _, rfl⟩
  · have n1 : (size == 1) = false := by simp; omega
    have n2 : (size == 2) = false := by simp; omega
    have n4 : (size == 4) = false := by simp; omega
    have n8 : (size == 8) = false := by simp; omega
    go_wp2
    go_ret
    exact ⟨ret_bool (by simp [whole, hs]), 0, rfl⟩
end Go.Proofs.YtmdconecigenfaaGreat
