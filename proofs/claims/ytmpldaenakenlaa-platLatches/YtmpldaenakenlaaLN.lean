/- PlatLatches. -/
import Derived.Test.YtmpldaenakenlaaMH2
namespace Go.Proofs.Ytmpldaenakenlaa
open Go.RowKit
open C (Only hid Still ret_bool ret_int)
set_option linter.unusedVariables false
set_option maxRecDepth 100000

def ls1 (x : Int) : UV := uv0.inn x
def ls2 (x : Int) : UV := (ls1 x).wr 1 3
def ls3 (x : Int) : UV := (ls2 x).wr 3 131
def ls4 (a x : Int) : UV := (ls3 x).wr 0 a
def ls5 (a b x : Int) : UV := (ls4 a x).wr 1 b
def ls6 (a b c x : Int) : UV := (ls5 a b x).wr 7 c
def ls7 (a b c x : Int) : UV := (ls6 a b c x).wr 3 3
theorem ls1_lat (x : Int) : (ls1 x).lat = false := by
  have : (ls1 x).h 3 = 0 := rfl
  unfold UV.lat
  rw [this]
  decide +kernel
theorem ls2_e (x : Int) : ls2 x = { ls1 x with h := up1 (ls1 x).h 1 3, em := (ls1 x).em || (bt 3 2 && !bt ((ls1 x).h 1) 2) } := by
  show (if (ls1 x).lat then _ else _) = _
  rw [ls1_lat]
  rfl
theorem ls3_e (x : Int) : ls3 x = { ls2 x with h := up1 (ls2 x).h 3 131 } := rfl
theorem ls3_lat (x : Int) : (ls3 x).lat = true := by
  have : (ls3 x).h 3 = 131 := rfl
  unfold UV.lat
  rw [this]
  decide +kernel
theorem ls4_e (a x : Int) : ls4 a x = { ls3 x with d := up1 (ls3 x).d 0 a } := by
  show (if (ls3 x).lat then _ else _) = _
  rw [ls3_lat]
  rfl
theorem ls4_lat (a x : Int) : (ls4 a x).lat = true := by
  rw [ls4_e]
  exact ls3_lat x
theorem ls5_e (a b x : Int) : ls5 a b x = { ls4 a x with d := up1 (ls4 a x).d 1 b } := by
  show (if (ls4 a x).lat then _ else _) = _
  rw [ls4_lat]
  rfl
theorem ls6_e (a b c x : Int) : ls6 a b c x = { ls5 a b x with h := up1 (ls5 a b x).h 7 c } := rfl
theorem ls6_lat (a b c x : Int) : (ls6 a b c x).lat = true := by
  rw [ls6_e, ls5_e]
  exact ls4_lat a x
theorem ls6_0 (a b c x : Int) : (ls6 a b c x).rd 0 = (a, ls6 a b c x) := by
  show (if (ls6 a b c x).lat then ((ls6 a b c x).d 0, ls6 a b c x) else _) = _
  rw [ls6_lat, if_pos rfl]
  have : (ls6 a b c x).d 0 = a := by rw [ls6_e, ls5_e, ls4_e, ls3_e, ls2_e]; rfl
  rw [this]
theorem ls6_1 (a b c x : Int) : (ls6 a b c x).rd 1 = (b, ls6 a b c x) := by
  show ((if (ls6 a b c x).lat then (ls6 a b c x).d 1 else _), ls6 a b c x) = _
  rw [ls6_lat, if_pos rfl]
  have : (ls6 a b c x).d 1 = b := by rw [ls6_e, ls5_e, ls4_e, ls3_e, ls2_e]; rfl
  rw [this]
theorem ls6_7 (a b c x : Int) : (ls6 a b c x).rd 7 = (c, ls6 a b c x) := rfl
theorem ls6_3 (a b c x : Int) : (ls6 a b c x).rd 3 = (131, ls6 a b c x) := by
  show ((ls6 a b c x).h 3, ls6 a b c x) = _
  have : (ls6 a b c x).h 3 = 131 := by rw [ls6_e, ls5_e, ls4_e, ls3_e, ls2_e]; rfl
  rw [this]
theorem ls6_s (a b c x : Int) : (ls6 a b c x).s = [] := by rw [ls6_e, ls5_e, ls4_e, ls3_e, ls2_e]; rfl
theorem ls7_e (a b c x : Int) : ls7 a b c x = { ls6 a b c x with h := up1 (ls6 a b c x).h 3 3 } := rfl
theorem ls7_lat (a b c x : Int) : (ls7 a b c x).lat = false := by
  have : (ls7 a b c x).h 3 = 3 := rfl
  unfold UV.lat
  rw [this]
  decide +kernel
theorem ls7_1 (a b c x : Int) : (ls7 a b c x).rd 1 = (3, ls7 a b c x) := by
  show ((if (ls7 a b c x).lat then _ else (ls7 a b c x).h 1), ls7 a b c x) = _
  rw [ls7_lat, if_neg (by decide)]
  have : (ls7 a b c x).h 1 = 3 := by
    rw [ls7_e, ls6_e, ls5_e, ls4_e, ls3_e, ls2_e]
    rfl
  rw [this]
theorem ls7_0 (a b c x : Int) : ((ls7 a b c x).rd 0).1 = x := by
  have h : (ls7 a b c x).rd 0 = if (ls7 a b c x).lat then ((ls7 a b c x).d 0, ls7 a b c x) else (ls7 a b c x).nxt := rfl
  rw [h, ls7_lat, if_neg (by decide)]
  have : (ls7 a b c x).q = [x] := by rw [ls7_e, ls6_e, ls5_e, ls4_e, ls3_e, ls2_e]; rfl
  unfold UV.nxt
  rw [this]
theorem own_len {w : World} {u : Value} {l : List Int} (h : w.ownsRow 0 5 1 u l.length (bys l)) : ∃ ad c, u = .slice ad l.length c := own_form h
theorem l_Out {W w : World} {p : Nat} {v : UV} (h : LU W w p v) (hn : v.s.length ≤ 1099511627776) : Calls Try.prog 23 #[.pointer (some ⟨p, 0, none⟩)] w fun r w' => ∃ ad c, r = .returned (.slice ad v.s.length c) ∧ w'.ownsRow 0 5 1 (.slice ad v.s.length c) v.s.length (bys v.s) ∧ LU W w' p v ∧ Below w.heap.size w w' := by
  have H := h
  obtain ⟨F, h1, h2, h3⟩ := h
  refine (u_Out w F p v h1 hn).mono ?_
  rintro r w' ⟨u, rfl, ho, hb⟩
  obtain ⟨ad, c, rfl⟩ := own_form ho
  exact ⟨ad, c, rfl, ho, H.below hb, hb⟩
set_option maxHeartbeats 4000000 in
theorem w_PlatLatches (W : World) (a : Int) (ha : Byt a) (b : Int) (hb : Byt b) (c : Int) (hc : Byt c) (x : Int) (hx : Byt x) : Calls Try.prog 9 #[.int .u8 a, .int .u8 b, .int .u8 c, .int .u8 x] W fun e w' => e = .returned (.bool true) ∧ Below W.heap.size W w' := by
  have b3 : Byt 3 := by constructor <;> decide
  have b131 : Byt 131 := by constructor <;> decide
  have hN := l_NewU W W (.refl _ _)
  have HI : Hid (∀ w, LU W w W.heap.size (uv0) → Calls Try.prog 18 #[.pointer (some ⟨W.heap.size, 0, none⟩), .int .u8 x] w fun e w' => e = .returned (.tuple #[]) ∧ LU W w' W.heap.size (ls1 x)) := fun w h => l_In h x hx
  have W1 : Hid (∀ w, LU W w W.heap.size (ls1 x) → Calls Try.prog 16 #[.pointer (some ⟨W.heap.size, 0, none⟩), .int .u64 1, .int .u8 3] w fun e w' => e = .returned (.tuple #[]) ∧ LU W w' W.heap.size (ls2 x)) := fun w h => l_Write h 1 3 (by decide) (by decide) b3 (by show 0 < _; decide)
  have W2 : Hid (∀ w, LU W w W.heap.size (ls2 x) → Calls Try.prog 16 #[.pointer (some ⟨W.heap.size, 0, none⟩), .int .u64 3, .int .u8 131] w fun e w' => e = .returned (.tuple #[]) ∧ LU W w' W.heap.size (ls3 x)) := fun w h => l_Write h 3 131 (by decide) (by decide) b131 (by rw [ls2_e]; show 0 < _; decide)
  have W3 : Hid (∀ w, LU W w W.heap.size (ls3 x) → Calls Try.prog 16 #[.pointer (some ⟨W.heap.size, 0, none⟩), .int .u64 0, .int .u8 a] w fun e w' => e = .returned (.tuple #[]) ∧ LU W w' W.heap.size (ls4 a x)) := fun w h => l_Write h 0 a (by decide) (by decide) ha (by rw [ls3_e, ls2_e]; show 0 < _; decide)
  have W4 : Hid (∀ w, LU W w W.heap.size (ls4 a x) → Calls Try.prog 16 #[.pointer (some ⟨W.heap.size, 0, none⟩), .int .u64 1, .int .u8 b] w fun e w' => e = .returned (.tuple #[]) ∧ LU W w' W.heap.size (ls5 a b x)) := fun w h => l_Write h 1 b (by decide) (by decide) hb (by rw [ls4_e, ls3_e, ls2_e]; show 0 < _; decide)
  have W5 : Hid (∀ w, LU W w W.heap.size (ls5 a b x) → Calls Try.prog 16 #[.pointer (some ⟨W.heap.size, 0, none⟩), .int .u64 7, .int .u8 c] w fun e w' => e = .returned (.tuple #[]) ∧ LU W w' W.heap.size (ls6 a b c x)) := fun w h => l_Write h 7 c (by decide) (by decide) hc (by rw [ls5_e, ls4_e, ls3_e, ls2_e]; show 0 < _; decide)
  have R0 : Hid (∀ w, LU W w W.heap.size (ls6 a b c x) → Calls Try.prog 14 #[.pointer (some ⟨W.heap.size, 0, none⟩), .int .u64 0] w fun e w' => e = .returned (.int .u8 a) ∧ LU W w' W.heap.size (ls6 a b c x)) := fun w h => by have := l_Read h 0 (by decide) (by decide); rw [ls6_0] at this; exact this
  have R1 : Hid (∀ w, LU W w W.heap.size (ls6 a b c x) → Calls Try.prog 14 #[.pointer (some ⟨W.heap.size, 0, none⟩), .int .u64 1] w fun e w' => e = .returned (.int .u8 b) ∧ LU W w' W.heap.size (ls6 a b c x)) := fun w h => by have := l_Read h 1 (by decide) (by decide); rw [ls6_1] at this; exact this
  have R7 : Hid (∀ w, LU W w W.heap.size (ls6 a b c x) → Calls Try.prog 14 #[.pointer (some ⟨W.heap.size, 0, none⟩), .int .u64 7] w fun e w' => e = .returned (.int .u8 c) ∧ LU W w' W.heap.size (ls6 a b c x)) := fun w h => by have := l_Read h 7 (by decide) (by decide); rw [ls6_7] at this; exact this
  have R3 : Hid (∀ w, LU W w W.heap.size (ls6 a b c x) → Calls Try.prog 14 #[.pointer (some ⟨W.heap.size, 0, none⟩), .int .u64 3] w fun e w' => e = .returned (.int .u8 131) ∧ LU W w' W.heap.size (ls6 a b c x)) := fun w h => by have := l_Read h 3 (by decide) (by decide); rw [ls6_3] at this; exact this
  have W6 : Hid (∀ w, LU W w W.heap.size (ls6 a b c x) → Calls Try.prog 16 #[.pointer (some ⟨W.heap.size, 0, none⟩), .int .u64 3, .int .u8 3] w fun e w' => e = .returned (.tuple #[]) ∧ LU W w' W.heap.size (ls7 a b c x)) := fun w h => l_Write h 3 3 (by decide) (by decide) b3 (by rw [ls6_s]; decide)
  have T1 : Hid (∀ w, LU W w W.heap.size (ls7 a b c x) → Calls Try.prog 14 #[.pointer (some ⟨W.heap.size, 0, none⟩), .int .u64 1] w fun e w' => e = .returned (.int .u8 3) ∧ LU W w' W.heap.size (ls7 a b c x)) := fun w h => by have := l_Read h 1 (by decide) (by decide); rw [ls7_1] at this; exact this
  have T0 : Hid (∀ w, LU W w W.heap.size (ls7 a b c x) → Calls Try.prog 14 #[.pointer (some ⟨W.heap.size, 0, none⟩), .int .u64 0] w fun e w' => e = .returned (.int .u8 x) ∧ LU W w' W.heap.size (((ls7 a b c x).rd 0).2)) := fun w h => by have := l_Read h 0 (by decide) (by decide); rw [ls7_0] at this; exact this
  have T6 : Hid (∀ w, LU W w W.heap.size (((ls7 a b c x).rd 0).2) → Calls Try.prog 14 #[.pointer (some ⟨W.heap.size, 0, none⟩), .int .u64 6] w fun e w' => e = .returned (.int .u8 176) ∧ LU W w' W.heap.size (((ls7 a b c x).rd 0).2)) := fun w h => l_Read h 6 (by decide) (by decide)
  have RO : Hid (∀ w, LU W w W.heap.size (ls6 a b c x) → Calls Try.prog 23 #[.pointer (some ⟨W.heap.size, 0, none⟩)] w fun e w' => ∃ ad c', e = .returned (.slice ad 0 c') ∧ LU W w' W.heap.size (ls6 a b c x)) := fun w h => by
    have := l_Out h (by rw [ls6_s]; decide)
    rw [ls6_s] at this
    exact this.mono fun e w' ⟨ad, c', h1, _, h3, _⟩ => ⟨ad, c', h1, h3⟩
  have hA := l_awake
  obtain ⟨a0, a1⟩ := ha
  obtain ⟨b0, b1⟩ := hb
  obtain ⟨c0, c1⟩ := hc
  obtain ⟨x0, x1⟩ := hx
  generalize ((ls7 a b c x).rd 0).2 = s8 at *
  generalize ls7 a b c x = s7 at *
  generalize ls6 a b c x = s6 at *
  generalize ls5 a b x = s5 at *
  generalize ls4 a x = s4 at *
  generalize ls3 x = s3 at *
  generalize ls2 x = s2 at *
  generalize ls1 x = s1 at *
  clear b3 b131
  go_enter Try.func9, Try.ntmps9
  go_wp2_with (first
    | (go_at_call 12; refine hN.mono ?_; rintro e w1 ⟨rfl, hl, -⟩; have HU := hid hl; clear hl hN)
    | (go_at_call 18; (with_reducible refine (HI.out _ HU.out).mono ?_); rintro e w' ⟨rfl, hl⟩; clear HU; have HU := hid hl; clear hl HI)
    | (go_at_call 16; (with_reducible refine (W1.out _ HU.out).mono ?_); rintro e w' ⟨rfl, hl⟩; clear HU; have HU := hid hl; clear hl W1)
    | (go_at_call 16; (with_reducible refine (W2.out _ HU.out).mono ?_); rintro e w' ⟨rfl, hl⟩; clear HU; have HU := hid hl; clear hl W2)
    | (go_at_call 16; (with_reducible refine (W3.out _ HU.out).mono ?_); rintro e w' ⟨rfl, hl⟩; clear HU; have HU := hid hl; clear hl W3)
    | (go_at_call 16; (with_reducible refine (W4.out _ HU.out).mono ?_); rintro e w' ⟨rfl, hl⟩; clear HU; have HU := hid hl; clear hl W4)
    | (go_at_call 16; (with_reducible refine (W5.out _ HU.out).mono ?_); rintro e w' ⟨rfl, hl⟩; clear HU; have HU := hid hl; clear hl W5)
    | (go_at_call 14; (with_reducible refine (R0.out _ HU.out).mono ?_); rintro e w' ⟨rfl, hl⟩; clear HU; have HU := hid hl; clear hl R0)
    | (go_at_call 14; (with_reducible refine (R1.out _ HU.out).mono ?_); rintro e w' ⟨rfl, hl⟩; clear HU; have HU := hid hl; clear hl R1)
    | (go_at_call 14; (with_reducible refine (R7.out _ HU.out).mono ?_); rintro e w' ⟨rfl, hl⟩; clear HU; have HU := hid hl; clear hl R7)
    | (go_at_call 14; (with_reducible refine (R3.out _ HU.out).mono ?_); rintro e w' ⟨rfl, hl⟩; clear HU; have HU := hid hl; clear hl R3)
    | (go_at_call 16; (with_reducible refine (W6.out _ HU.out).mono ?_); rintro e w' ⟨rfl, hl⟩; clear HU; have HU := hid hl; clear hl W6)
    | (go_at_call 14; (with_reducible refine (T1.out _ HU.out).mono ?_); rintro e w' ⟨rfl, hl⟩; clear HU; have HU := hid hl; clear hl T1)
    | (go_at_call 14; (with_reducible refine (T0.out _ HU.out).mono ?_); rintro e w' ⟨rfl, hl⟩; clear HU; have HU := hid hl; clear hl T0)
    | (go_at_call 14; (with_reducible refine (T6.out _ HU.out).mono ?_); rintro e w' ⟨rfl, hl⟩; clear HU; have HU := hid hl; clear hl T6)
    | (go_at_call 23; refine (RO.out _ HU.out).mono ?_; rintro e w' ⟨ad, c', rfl, hl⟩; clear HU; have HU := hid hl; clear hl RO)
    | (go_at_call 24; refine (hA _).mono ?_; rintro e w4 ⟨rfl, hb⟩; have HB4 := hid hb; clear hb hA))
  go_ret
  exact ⟨rfl, HU.out.bel.trans (HB4.out.mono HU.out.bel.size)⟩
end Go.Proofs.Ytmpldaenakenlaa
