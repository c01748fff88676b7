/- A bus: has, Slots, Kind, Read, Write. -/
import Derived.Test.YtjkihlpckgaggaaGreatMH2
namespace Go.Proofs.YtjkihlpckgaggaaGreat.P
open Go.RowKit
open C (Only hid Still ret_bool ret_int row)
set_option linter.unusedVariables false
set_option maxRecDepth 100000

/-- a bus, its blocks F -/
structure Bq (w : World) (F : Nat → Prop) (p n : Nat) (f : Nat → Int) : Prop where
  b : ∃ u, Bx w p u n f ∧ ∀ x, F x ↔ x = p ∨ Ug u x
  f : ∀ j, Byt (f j)
  n : n ≤ 8
theorem own_spR {w : World} {u : Value} {n : Nat} {f : Nat → Int} (h : w.ownsRow 0 168 256 u n (row f 0 (n * 256))) (hn : 0 < n) : ∃ g cap, u = .slice (some ⟨g, 0, none⟩) n cap ∧ n ≤ cap ∧ cap ≤ maxLen ∧ SpR w g 168 f (n * 256) (cap * 256) := by
  rcases h.2 with ⟨-, h2⟩ | ⟨g, cap, cur, h1, h2, h3, h4, h5, h6, h7⟩
  · omega
  · refine ⟨g, cap, h1, h4, h5, cur, h3, h6, by omega, fun j hj => ?_⟩
    have : (cur.toList.take (n * 256))[j]? = (row f 0 (n * 256))[j]? := by rw [h7]
    rw [List.getElem?_take_of_lt hj, Array.getElem?_toList, C.row_get _ _ _ _ hj, Nat.zero_add] at this
    exact this
theorem spR_own {w : World} {g n cap : Nat} {f : Nat → Int} (h : SpR w g 168 f (n * 256) (cap * 256)) (h1 : n ≤ cap) (h2 : cap ≤ maxLen) : w.ownsRow 0 168 256 (.slice (some ⟨g, 0, none⟩) n cap) n (row f 0 (n * 256)) := by
  obtain ⟨cur, k1, k2, k3, k4⟩ := h
  refine ⟨by simp [C.row_length], .inr ⟨g, cap, cur, rfl, Nat.zero_le _, k1, h1, h2, k2, ?_⟩⟩
  apply List.ext_getElem?
  intro j
  rcases Nat.lt_or_ge j (n * 256) with q | q
  · rw [List.getElem?_take_of_lt q, Array.getElem?_toList, k4 j q, C.row_get _ _ _ _ q, Nat.zero_add]
  · rw [List.getElem?_eq_none (by simp; omega), List.getElem?_eq_none (by simpa [C.row_length] using q)]
section
variable {w w' : World} {F : Nat → Prop} {p n : Nat} {f : Nat → Int}
theorem Bq.only (h : Bq w F p n f) {T : Nat → Prop} (ho : Only T w w') (hd : ∀ x, F x → ¬ T x) : Bq w' F p n f := by
  obtain ⟨u, h1, h2⟩ := h.b
  exact ⟨⟨u, ⟨ho.old h1.top (hd p ((h2 p).2 (.inl rfl))), own_only h1.own ho fun k hk => hd k ((h2 k).2 (.inr hk))⟩, h2⟩, h.f, h.n⟩
theorem Bq.below (h : Bq w F p n f) (hb : Below w.heap.size w w') : Bq w' F p n f := h.only (T := fun _ => False) (.ofBelow hb) fun _ _ z => z
theorem Bq.lt (h : Bq w F p n f) {x : Nat} (hx : F x) : x < w.heap.size := by
  obtain ⟨u, h1, h2⟩ := h.b
  rcases (h2 x).1 hx with z | z
  · subst z; exact lt_of_block h1.top
  · exact own_lt h1.own x z
end
def hasS (n : Nat) (s : Int) : Bool := decide (0 ≤ s) && decide (s < n)
theorem c_has (w : World) (p n : Nat) (u : Value) (f : Nat → Int) (h : Bx w p u n f) (n8 : n ≤ 8) (s : Int) (s0 : -9223372036854775808 ≤ s) (s1 : s ≤ 9223372036854775807) : Calls Tryz.prog 68 #[.pointer (some ⟨p, 0, none⟩), .int .i64 s] w fun e w' => e = .returned (.bool (hasS n s)) ∧ w' = w := by
  obtain ⟨ad, cp, rfl⟩ : ∃ ad c, u = .slice ad n c := by
    rcases h.own.2 with ⟨h1, h2⟩ | ⟨g, cap, cur, h1, h2⟩
    · exact ⟨none, 0, by rw [h1, h2]⟩
    · exact ⟨_, cap, h1⟩
  have c0 : w.cell? ⟨p, 0, none⟩ = some (.slice ad n cp) := cell_of_row w p 0 _ _ _ h.top
  clear h
  have HM : Hid (hasS n s = (decide (0 ≤ s) && decide (s < n))) := rfl
  generalize hasS n s = m at *
  by_cases q : 0 ≤ s
  all_goals
    go_enter Tryz.func68, Tryz.ntmps68
    go_wp2
    go_ret
    exact ⟨ret_bool (by rw [HM.out]; simp [q] <;> omega), rfl⟩
theorem c_Slots (w : World) (p n : Nat) (u : Value) (f : Nat → Int) (h : Bx w p u n f) : Calls Tryz.prog 43 #[.pointer (some ⟨p, 0, none⟩)] w fun e w' => e = .returned (.int .i64 n) ∧ w' = w := by
  obtain ⟨ad, cp, rfl⟩ : ∃ ad c, u = .slice ad n c := by
    rcases h.own.2 with ⟨h1, h2⟩ | ⟨g, cap, cur, h1, h2⟩
    · exact ⟨none, 0, by rw [h1, h2]⟩
    · exact ⟨_, cap, h1⟩
  have c0 : w.cell? ⟨p, 0, none⟩ = some (.slice ad n cp) := cell_of_row w p 0 _ _ _ h.top
  clear h
  go_enter Tryz.func43, Tryz.ntmps43
  go_wp2
  go_ret
  exact ⟨rfl, rfl⟩
/-- the number at an offset of a slot -/
def gtS (f : Nat → Int) (s o z : Nat) : Int := C.nu (fun j => f (s * 256 + o + j)) z
def rdB (n : Nat) (f : Nat → Int) (s o z : Int) : Int := if fitB o z then (if hasS n s then gtS f s.toNat o.toNat z.toNat else 256 ^ z.toNat - 1) else 0
theorem fitB_spec {o z : Int} (h : fitB o z = true) (o0 : 0 ≤ o) : (z = 1 ∨ z = 2 ∨ z = 4) ∧ o < 256 ∧ o % z = 0 ∧ o + z ≤ 256 := by
  unfold fitB at h
  simp at h
  obtain ⟨⟨h1, h2⟩, h3⟩ := h
  have h1' : z = 1 ∨ z = 2 ∨ z = 4 := by omega
  refine ⟨h1', h2, h3, ?_⟩
  rcases h1' with rfl | rfl | rfl <;> omega
theorem hasS_spec {n : Nat} {s : Int} (h : hasS n s = true) : 0 ≤ s ∧ s < n := by
  unfold hasS at h
  simpa using h
theorem c_Read (w : World) (F : Nat → Prop) (p n : Nat) (f : Nat → Int) (h : Bq w F p n f) (s o z : Int) (s0 : -9223372036854775808 ≤ s) (s1 : s ≤ 9223372036854775807) (o0 : 0 ≤ o) (o1 : o < 18446744073709551616) (z0 : -9223372036854775808 ≤ z) (z1 : z ≤ 9223372036854775807) :
    Calls Tryz.prog 233 #[.pointer (some ⟨p, 0, none⟩), .int .i64 s, .int .u64 o, .int .i64 z] w fun e w' => e = .returned (.tuple #[.int .u64 (rdB n f s o z), .bool (fitB o z)]) ∧ w' = w := by
  obtain ⟨u, h1, h2⟩ := h.b
  have hf := c_fits o z o0 o1 z0 z1
  have hh := c_has w p n u f h1 h.n s s0 s1
  have n8 := h.n
  have HR : Hid (rdB n f s o z = if fitB o z then (if hasS n s then gtS f s.toNat o.toNat z.toNat else 256 ^ z.toNat - 1) else 0) := rfl
  generalize rdB n f s o z = r at *
  cases e1 : fitB o z
  · rw [e1] at hf HR
    obtain rfl : r = 0 := HR.out
    clear h h1 h2 hh HR
    go_enter Tryz.func233, Tryz.ntmps233
    go_wp2_with (go_at_call 236; refine (hf _).mono ?_; rintro e w' ⟨rfl, hw⟩; obtain rfl := hw.symm)
    go_returns
    exact ⟨rfl, rfl⟩
  · obtain ⟨q1, q2, q3, q4⟩ := fitB_spec e1 o0
    rw [e1] at hf HR
    cases e2 : hasS n s
    · rw [e2] at hh HR
      obtain rfl : r = 256 ^ z.toNat - 1 := HR.out
      clear h h1 h2 HR
      rcases q1 with rfl | rfl | rfl
      all_goals
        go_enter Tryz.func233, Tryz.ntmps233
        go_wp2_with (first
          | (go_at_call 236; refine (hf _).mono ?_; rintro e w' ⟨rfl, hw⟩; obtain rfl := hw.symm)
          | (go_at_call 68; refine hh.mono ?_; rintro e w' ⟨rfl, hw⟩; obtain rfl := hw.symm))
        go_returns
        exact ⟨rfl, rfl⟩
    · obtain ⟨r1, r2⟩ := hasS_spec e2
      rw [e2] at hh HR
      obtain rfl : r = gtS f s.toNat o.toNat z.toNat := HR.out
      obtain ⟨g, cap, rfl, k1, k2, k3⟩ := own_spR h1.own (by omega)
      have hg := s_get w g 168 f _ _ k3 h.f (s.toNat * 256) o.toNat z.toNat (by omega) (by omega) (by omega)
      rw [Int.toNat_of_nonneg o0, Int.toNat_of_nonneg (by omega : 0 ≤ z)] at hg
      have c0 : w.cell? ⟨p, 0, none⟩ = some (.slice (some ⟨g, 0, none⟩) n cap) := cell_of_row w p 0 _ _ _ h1.top
      unfold gtS
      generalize C.nu (fun j => f (s.toNat * 256 + o.toNat + j)) z.toNat = V at *
      unfold maxLen at k2
      clear h h1 h2 HR k3
      obtain ⟨S, rfl⟩ : ∃ S : Nat, s = S := ⟨s.toNat, by omega⟩
      simp only [Int.toNat_natCast] at hg
      go_enter Tryz.func233, Tryz.ntmps233
      go_wp2_with (first
        | (go_at_call 236; refine (hf _).mono ?_; rintro e w' ⟨rfl, hw⟩; obtain rfl := hw.symm)
        | (go_at_call 68; refine hh.mono ?_; rintro e w' ⟨rfl, hw⟩; obtain rfl := hw.symm)
        | (go_at_call 69; refine hg.mono ?_; rintro e w' ⟨rfl, hw⟩; obtain rfl := hw.symm))
      go_returns
      exact ⟨rfl, rfl⟩
/-- the bytes behind a write -/
def wrF (n : Nat) (f : Nat → Int) (s o z v : Int) : Nat → Int := if fitB o z && hasS n s then C.put f (s.toNat * 256 + o.toNat) z.toNat (fun j => mxb (mkb (o.toNat + j)) (f (s.toNat * 256 + o.toNat + j)) (C.byt v j)) else f
theorem mxb_b (m x y : Int) : Byt (mxb m x y) := by
  unfold mxb bits
  simp only [IntKind.wrap, IntKind.signed, IntKind.bits]
  constructor
  · exact Int.emod_nonneg _ (by decide)
  · exact Int.emod_lt_of_pos _ (by decide)
theorem wrF_b (n : Nat) (f : Nat → Int) (s o z v : Int) (h : ∀ j, Byt (f j)) : ∀ j, Byt (wrF n f s o z v j) := by
  intro j
  unfold wrF
  split
  · unfold C.put
    split
    · exact mxb_b _ _ _
    · exact h j
  · exact h j
theorem c_Write (w : World) (F : Nat → Prop) (p n : Nat) (f : Nat → Int) (h : Bq w F p n f) (s o z v : Int) (s0 : -9223372036854775808 ≤ s) (s1 : s ≤ 9223372036854775807) (o0 : 0 ≤ o) (o1 : o < 18446744073709551616) (z0 : -9223372036854775808 ≤ z) (z1 : z ≤ 9223372036854775807) (v0 : 0 ≤ v) (v1 : v < 18446744073709551616) :
    Calls Tryz.prog 235 #[.pointer (some ⟨p, 0, none⟩), .int .i64 s, .int .u64 o, .int .i64 z, .int .u64 v] w fun e w' => e = .returned (.bool (fitB o z)) ∧ Bq w' F p n (wrF n f s o z v) ∧ Only F w w' := by
  have HB := hid h
  obtain ⟨u, h1, h2⟩ := h.b
  have hf := c_fits o z o0 o1 z0 z1
  have hh := c_has w p n u f h1 h.n s s0 s1
  have n8 := h.n
  have HR : Hid (wrF n f s o z v = if fitB o z && hasS n s then C.put f (s.toNat * 256 + o.toNat) z.toNat (fun j => mxb (mkb (o.toNat + j)) (f (s.toNat * 256 + o.toNat + j)) (C.byt v j)) else f) := rfl
  have HRB := hid (wrF_b n f s o z v h.f)
  generalize wrF n f s o z v = r at *
  cases e1 : fitB o z
  · rw [e1] at hf HR
    obtain rfl : r = f := HR.out
    clear h h1 h2 hh HR
    go_enter Tryz.func235, Tryz.ntmps235
    go_wp2_with (go_at_call 236; refine (hf _).mono ?_; rintro e w' ⟨rfl, hw⟩; obtain rfl := hw.symm)
    go_returns
    exact ⟨rfl, HB.out, .refl w⟩
  · obtain ⟨q1, q2, q3, q4⟩ := fitB_spec e1 o0
    rw [e1] at hf HR
    cases e2 : hasS n s
    · rw [e2] at hh HR
      obtain rfl : r = f := HR.out
      clear h h1 h2 HR
      go_enter Tryz.func235, Tryz.ntmps235
      go_wp2_with (first
        | (go_at_call 236; refine (hf _).mono ?_; rintro e w' ⟨rfl, hw⟩; obtain rfl := hw.symm)
        | (go_at_call 68; refine hh.mono ?_; rintro e w' ⟨rfl, hw⟩; obtain rfl := hw.symm))
      go_returns
      exact ⟨rfl, HB.out, .refl w⟩
    · obtain ⟨r1, r2⟩ := hasS_spec e2
      rw [e2] at hh HR
      have er : r = C.put f (s.toNat * 256 + o.toNat) z.toNat (fun j => mxb (mkb (o.toNat + j)) (f (s.toNat * 256 + o.toNat + j)) (C.byt v j)) := HR.out
      obtain ⟨g, cap, rfl, k1, k2, k3⟩ := own_spR h1.own (by omega)
      have hg := s_set w g 168 f _ _ k3 h.f (s.toNat * 256) o.toNat z.toNat v v0 v1 (by omega) (by omega) (by omega)
      rw [Int.toNat_of_nonneg o0, Int.toNat_of_nonneg (by omega : 0 ≤ z), ← er] at hg
      have c0 : w.cell? ⟨p, 0, none⟩ = some (.slice (some ⟨g, 0, none⟩) n cap) := cell_of_row w p 0 _ _ _ h1.top
      have HZ : Hid (∀ w', SpR w' g 168 r (n * 256) (cap * 256) → Only (· = g) w w' → Bq w' F p n r ∧ Only F w w') := fun w' m1 m2 => by
        have hne : p ≠ g := fun e => own_ne h1.own h1.top (by decide) g (by rfl) e.symm
        refine ⟨⟨⟨_, ⟨m2.old h1.top hne, spR_own m1 k1 k2⟩, h2⟩, HRB.out, n8⟩, m2.mono fun x _ hx => (h2 x).2 (.inr (by rw [hx]; rfl))⟩
      have hm : cap ≤ 9223372036854775807 := k2
      clear h h1 h2 HR k3 er HRB HB k2
      obtain ⟨S, rfl⟩ : ∃ S : Nat, s = S := ⟨s.toNat, by omega⟩
      simp only [Int.toNat_natCast] at hg
      go_enter Tryz.func235, Tryz.ntmps235
      go_wp2_with (first
        | (go_at_call 236; refine (hf _).mono ?_; rintro e w' ⟨rfl, hw⟩; obtain rfl := hw.symm)
        | (go_at_call 68; refine hh.mono ?_; rintro e w' ⟨rfl, hw⟩; obtain rfl := hw.symm)
        | (go_at_call 237; refine hg.mono ?_; rintro e w' ⟨rfl, m1, m2⟩; have HM := hid (HZ.out w' m1 m2); clear m1 m2))
      go_returns
      exact ⟨rfl, HM.out⟩
end Go.Proofs.YtjkihlpckgaggaaGreat.P
