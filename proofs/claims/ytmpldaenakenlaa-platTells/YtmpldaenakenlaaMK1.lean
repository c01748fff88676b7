/- PlatLatches. -/
import Derived.Test.YtmpldaenakenlaaMH2
namespace Go.Proofs.Ytmpldaenakenlaa
open Go.RowKit
open C (Only hid Still ret_bool ret_int)
set_option linter.unusedVariables false
set_option maxRecDepth 100000

def ls1 (x : Int) : UV := uv0.inn x
def ls2 (x : Int) : UV := (ls1 x).wr 1 3
def ls3 (x : Int) : UV := (ls2 x).wr 3 131
def ls4 (a x : Int) : UV := (ls3 x).wr 0 a
def ls5 (a b x : Int) : UV := (ls4 a x).wr 1 b
def ls6 (a b c x : Int) : UV := (ls5 a b x).wr 7 c
def ls7 (a b c x : Int) : UV := (ls6 a b c x).wr 3 3
theorem ls1_lat (x : Int) : (ls1 x).lat = false := by
  have : (ls1 x).h 3 = 0 := rfl
  unfold UV.lat
  rw [this]
  decide +kernel
theorem ls2_e (x : Int) : ls2 x = { ls1 x with h := up1 (ls1 x).h 1 3, em := (ls1 x).em || (bt 3 2 && !bt ((ls1 x).h 1) 2) } := by
  show (if (ls1 x).lat then _ else _) = _
  rw [ls1_lat]
  rfl
theorem ls3_e (x : Int) : ls3 x = { ls2 x with h := up1 (ls2 x).h 3 131 } := rfl
theorem ls3_lat (x : Int) : (ls3 x).lat = true := by
  have : (ls3 x).h 3 = 131 := rfl
  unfold UV.lat
  rw [this]
  decide +kernel
theorem ls4_e (a x : Int) : ls4 a x = { ls3 x with d := up1 (ls3 x).d 0 a } := by
  show (if (ls3 x).lat then _ else _) = _
  rw [ls3_lat]
  rfl
theorem ls4_lat (a x : Int) : (ls4 a x).lat = true := by
  rw [ls4_e]
  exact ls3_lat x
theorem ls5_e (a b x : Int) : ls5 a b x = { ls4 a x with d := up1 (ls4 a x).d 1 b } := by
  show (if (ls4 a x).lat then _ else _) = _
  rw [ls4_lat]
  rfl
theorem ls6_e (a b c x : Int) : ls6 a b c x = { ls5 a b x with h := up1 (ls5 a b x).h 7 c } := rfl
theorem ls6_lat (a b c x : Int) : (ls6 a b c x).lat = true := by
  rw [ls6_e, ls5_e]
  exact ls4_lat a x
theorem ls6_0 (a b c x : Int) : (ls6 a b c x).rd 0 = (a, ls6 a b c x) := by
  show (if (ls6 a b c x).lat then ((ls6 a b c x).d 0, ls6 a b c x) else _) = _
  rw [ls6_lat, if_pos rfl]
  have : (ls6 a b c x).d 0 = a := by rw [ls6_e, ls5_e, ls4_e, ls3_e, ls2_e]; rfl
  rw [this]
theorem ls6_1 (a b c x : Int) : (ls6 a b c x).rd 1 = (b, ls6 a b c x) := by
  show ((if (ls6 a b c x).lat then (ls6 a b c x).d 1 else _), ls6 a b c x) = _
  rw [ls6_lat, if_pos rfl]
  have : (ls6 a b c x).d 1 = b := by rw [ls6_e, ls5_e, ls4_e, ls3_e, ls2_e]; rfl
  rw [this]
theorem ls6_7 (a b c x : Int) : (ls6 a b c x).rd 7 = (c, ls6 a b c x) := rfl
theorem ls6_3 (a b c x : Int) : (ls6 a b c x).rd 3 = (131, ls6 a b c x) := by
  show ((ls6 a b c x).h 3, ls6 a b c x) = _
  have : (ls6 a b c x).h 3 = 131 := by rw [ls6_e, ls5_e, ls4_e, ls3_e, ls2_e]; rfl
  rw [this]
theorem ls6_s (a b c x : Int) : (ls6 a b c x).s = [] := by rw [ls6_e, ls5_e, ls4_e, ls3_e, ls2_e]; rfl
theorem ls7_e (a b c x : Int) : ls7 a b c x = { ls6 a b c x with h := up1 (ls6 a b c x).h 3 3 } := rfl
theorem ls7_lat (a b c x : Int) : (ls7 a b c x).lat = false := by
  have : (ls7 a b c x).h 3 = 3 := rfl
  unfold UV.lat
  rw [this]
  decide +kernel
theorem ls7_1 (a b c x : Int) : (ls7 a b c x).rd 1 = (3, ls7 a b c x) := by
  show ((if (ls7 a b c x).lat then _ else (ls7 a b c x).h 1), ls7 a b c x) = _
  rw [ls7_lat, if_neg (by decide)]
  have : (ls7 a b c x).h 1 = 3 := by
    rw [ls7_e, ls6_e, ls5_e, ls4_e, ls3_e, ls2_e]
    rfl
  rw [this]
theorem ls7_0 (a b c x : Int) : ((ls7 a b c x).rd 0).1 = x := by
  have h : (ls7 a b c x).rd 0 = if (ls7 a b c x).lat then ((ls7 a b c x).d 0, ls7 a b c x) else (ls7 a b c x).nxt := rfl
  rw [h, ls7_lat, if_neg (by decide)]
  have : (ls7 a b c x).q = [x] := by rw [ls7_e, ls6_e, ls5_e, ls4_e, ls3_e, ls2_e]; rfl
  unfold UV.nxt
  rw [this]
theorem own_len {w : World} {u : Value} {l : List Int} (h : w.ownsRow 0 5 1 u l.length (bys l)) : ∃ ad c, u = .slice ad l.length c := own_form h
theorem l_Out {W w : World} {p : Nat} {v : UV} (h : LU W w p v) (hn : v.s.length ≤ 140737488355328) : Calls Try.prog 23 #[.pointer (some ⟨p, 0, none⟩)] w fun r w' => ∃ ad c, r = .returned (.slice ad v.s.length c) ∧ w'.ownsRow 0 5 1 (.slice ad v.s.length c) v.s.length (bys v.s) ∧ LU W w' p v ∧ Below w.heap.size w w' := by
  have H := h
  obtain ⟨F, h1, h2, h3⟩ := h
  refine (u_Out w F p v h1 hn).mono ?_
  rintro r w' ⟨u, rfl, ho, hb⟩
  obtain ⟨ad, c, rfl⟩ := own_form ho
  exact ⟨ad, c, rfl, ho, H.below hb, hb⟩
set_option maxHeartbeats 4000000 in
theorem w_PlatLatches (W : World) (a : Int) (ha : Byt a) (b : Int) (hb : Byt b) (c : Int) (hc : Byt c) (x : Int) (hx : Byt x) : Calls Try.prog 9 #[.int .u8 a, .int .u8 b, .int .u8 c, .int .u8 x] W fun e w' => e = .returned (.bool true) ∧ Below W.heap.size W w' := by
  have b3 : Byt 3 := by constructor <;> decide
  have b131 : Byt 131 := by constructor <;> decide
  have hN := l_NewU W W (.refl _ _)
  have HI : Hid (∀ w, LU W w W.heap.size (uv0) → Calls Try.prog 18 #[.pointer (some ⟨W.heap.size, 0, none⟩), .int .u8 x] w fun e w' => e = .returned (.tuple #[]) ∧ LU W w' W.heap.size (ls1 x)) := fun w h => l_In h x hx
  have W1 : Hid (∀ w, LU W w W.heap.size (ls1 x) → Calls Try.prog 16 #[.pointer (some ⟨W.heap.size, 0, none⟩), .int .u64 1, .int .u8 3] w fun e w' => e = .returned (.tuple #[]) ∧ LU W w' W.heap.size (ls2 x)) := fun w h => l_Write h 1 3 (by decide) (by decide) b3 (by show 0 < _; decide)
  have W2 : Hid (∀ w, LU W w W.heap.size (ls2 x) → Calls Try.prog 16 #[.pointer (some ⟨W.heap.size, 0, none⟩), .int .u64 3, .int .u8 131] w fun e w' => e = .returned (.tuple #[]) ∧ LU W w' W.heap.size (ls3 x)) := fun w h => l_Write h 3 131 (by decide) (by decide) b131 (by rw [ls2_e]; show 0 < _; decide)
  have W3 : Hid (∀ w, LU W w W.heap.size (ls3 x) → Calls Try.prog 16 #[.pointer (some ⟨W.heap.size, 0, none⟩), .int .u64 0, .int .u8 a] w fun e w' => e = .returned (.tuple #[]) ∧ LU W w' W.heap.size (ls4 a x)) := fun w h => l_Write h 0 a (by decide) (by decide) ha (by rw [ls3_e, ls2_e]; show 0 < _; decide)
  have W4 : Hid (∀ w, LU W w W.heap.size (ls4 a x) → Calls Try.prog 16 #[.pointer (some ⟨W.heap.size, 0, none⟩), .int .u64 1, .int .u8 b] w fun e w' => e = .returned (.tuple #[]) ∧ LU W w' W.heap.size (ls5 a b x)) := fun w h => l_Write h 1 b (by decide) (by decide) hb (by rw [ls4_e, ls3_e, ls2_e]; show 0 < _; decide)
  have W5 : Hid (∀ w, LU W w W.heap.size (ls5 a b x) → Calls Try.prog 16 #[.pointer (some ⟨W.heap.size, 0, none⟩), .int .u64 7, .int .u8 c] w fun e w' => e = .returned (.tuple #[]) ∧ LU W w' W.heap.size (ls6 a b c x)) := fun w h => l_Write h 7 c (by decide) (by decide) hc (by rw [ls5_e, ls4_e, ls3_e, ls2_e]; show 0 < _; decide)
  have R0 : Hid (∀ w, LU W w W.heap.size (ls6 a b c x) → Calls Try.prog 14 #[.pointer (some ⟨W.heap.size, 0, none⟩), .int .u64 0] w fun e w' => e = .returned (.int .u8 a) ∧ LU W w' W.heap.size (ls6 a b c x)) := fun w h => by have := l_Read h 0 (by decide) (by decide); rw [ls6_0] at this; exact this
  have R1 : Hid (∀ w, LU W w W.heap.size (ls6 a b c x) → Calls Try.prog 14 #[.pointer (some ⟨W.heap.size, 0, none⟩), .int .u64 1] w fun e w' => e = .returned (.int .u8 b) ∧ LU W w' W.heap.size (ls6 a b c x)) := fun w h => by have := l_Read h 1 (by decide) (by decide); rw [ls6_1] at this; exact this
  have R7 : Hid (∀ w, LU W w W.heap.size (ls6 a b c x) → Calls Try.prog 14 #[.pointer (some ⟨W.heap.size, 0, none⟩), .int .u64 7] w fun e w' => e = .returned (.int .u8 c) ∧ LU W w' W.heap.size (ls6 a b c x)) := fun w h => by have := l_Read h 7 (by decide) (by decide); rw [ls6_7] at this; exact this
  have R3 : Hid (∀ w, LU W w W.heap.size (ls6 a b c x) → Calls Try.prog 14 #[.pointer (some ⟨W.heap.size, 0, none⟩), .int .u64 3] w fun e w' => e = .returned (.int .u8 131) ∧ LU W w' W.heap.size (ls6 a b c x)) := fun w h => by have := l_Read h 3 (by decide) (by decide); rw [ls6_3] at this; exact this
  have W6 : Hid (∀ w, LU W w W.heap.size (ls6 a b c x) → Calls Try.prog 16 #[.pointer (some ⟨W.heap.size, 0, none⟩), .int .u64 3, .int .u8 3] w fun e w' => e = .returned (.tuple #[]) ∧ LU W w' W.heap.size (ls7 a b c x)) := fun w h => l_Write h 3 3 (by decide) (by decide) b3 (by rw [ls6_s]; decide)
  have T1 : Hid (∀ w, LU W w W.heap.size (ls7 a b c x) → Calls Try.prog 14 #[.pointer (some ⟨W.heap.size, 0, none⟩), .int .u64 1] w fun e w' => e = .returned (.int .u8 3) ∧ LU W w' W.heap.size (ls7 a b c x)) := fun w h => by have := l_Read h 1 (by decide) (by decide); rw [ls7_1] at this; exact this
  have T0 : Hid (∀ w, LU W w W.heap.size (ls7 a b c x) → Calls Try.prog 14 #[.pointer (some ⟨W.heap.size, 0, none⟩), .int .u64 0] w fun e w' => e = .returned (.int .u8 x) ∧ LU W w' W.heap.size (((ls7 a b c x).rd 0).2)) := fun w h => by have := l_Read h 0 (by decide) (by decide); rw [ls7_0] at this; exact this
  have T6 : Hid (∀ w, LU W w W.heap.size (((ls7 a b c x).rd 0).2) → Calls Try.prog 14 #[.pointer (some ⟨W.heap.size, 0, none⟩), .int .u64 6] w fun e w' => e = .returned (.int .u8 176) ∧ LU W w' W.heap.size (((ls7 a b c x).rd 0).2)) := fun w h => l_Read h 6 (by decide) (by decide)
  have RO : Hid (∀ w, LU W w W.heap.size (ls6 a b c x) → Calls Try.prog 23 #[.pointer (some ⟨W.heap.size, 0, none⟩)] w fun e w' => ∃ ad c', e = .returned (.slice ad 0 c') ∧ LU W w' W.heap.size (ls6 a b c x)) := fun w h => by
    have := l_Out h (by rw [ls6_s]; decide)
    rw [ls6_s] at this
    exact this.mono fun e w' ⟨ad, c', h1, _, h3, _⟩ => ⟨ad, c', h1, h3⟩
  have hA := l_awake
  obtain ⟨a0, a1⟩ := ha
  obtain ⟨b0, b1⟩ := hb
  obtain ⟨c0, c1⟩ := hc
  obtain ⟨x0, x1⟩ := hx
  generalize ((ls7 a b c x).rd 0).2 = s8 at *
  generalize ls7 a b c x = s7 at *
  generalize ls6 a b c x = s6 at *
  generalize ls5 a b x = s5 at *
  generalize ls4 a x = s4 at *
  generalize ls3 x = s3 at *
  generalize ls2 x = s2 at *
  generalize ls1 x = s1 at *
  clear b3 b131
  go_enter Try.func9, Try.ntmps9
  go_wp2_with (first
    | (go_at_call 12; refine hN.mono ?_; rintro e w1 ⟨rfl, hl, -⟩; have HU := hid hl; clear hl hN)
    | (go_at_call 18; (with_reducible refine (HI.out _ HU.out).mono ?_); rintro e w' ⟨rfl, hl⟩; clear HU; have HU := hid hl; clear hl HI)
    | (go_at_call 16; (with_reducible refine (W1.out _ HU.out).mono ?_); rintro e w' ⟨rfl, hl⟩; clear HU; have HU := hid hl; clear hl W1)
    | (go_at_call 16; (with_reducible refine (W2.out _ HU.out).mono ?_); rintro e w' ⟨rfl, hl⟩; clear HU; have HU := hid hl; clear hl W2)
    | (go_at_call 16; (with_reducible refine (W3.out _ HU.out).mono ?_); rintro e w' ⟨rfl, hl⟩; clear HU; have HU := hid hl; clear hl W3)
    | (go_at_call 16; (with_reducible refine (W4.out _ HU.out).mono ?_); rintro e w' ⟨rfl, hl⟩; clear HU; have HU := hid hl; clear hl W4)
    | (go_at_call 16; (with_reducible refine (W5.out _ HU.out).mono ?_); rintro e w' ⟨rfl, hl⟩; clear HU; have HU := hid hl; clear hl W5)
    | (go_at_call 14; (with_reducible refine (R0.out _ HU.out).mono ?_); rintro e w' ⟨rfl, hl⟩; clear HU; have HU := hid hl; clear hl R0)
    | (go_at_call 14; (with_reducible refine (R1.out _ HU.out).mono ?_); rintro e w' ⟨rfl, hl⟩; clear HU; have HU := hid hl; clear hl R1)
    | (go_at_call 14; (with_reducible refine (R7.out _ HU.out).mono ?_); rintro e w' ⟨rfl, hl⟩; clear HU; have HU := hid hl; clear hl R7)
    | (go_at_call 14; (with_reducible refine (R3.out _ HU.out).mono ?_); rintro e w' ⟨rfl, hl⟩; clear HU; have HU := hid hl; clear hl R3)
    | (go_at_call 16; (with_reducible refine (W6.out _ HU.out).mono ?_); rintro e w' ⟨rfl, hl⟩; clear HU; have HU := hid hl; clear hl W6)
    | (go_at_call 14; (with_reducible refine (T1.out _ HU.out).mono ?_); rintro e w' ⟨rfl, hl⟩; clear HU; have HU := hid hl; clear hl T1)
    | (go_at_call 14; (with_reducible refine (T0.out _ HU.out).mono ?_); rintro e w' ⟨rfl, hl⟩; clear HU; have HU := hid hl; clear hl T0)
    | (go_at_call 14; (with_reducible refine (T6.out _ HU.out).mono ?_); rintro e w' ⟨rfl, hl⟩; clear HU; have HU := hid hl; clear hl T6)
    | (go_at_call 23; refine (RO.out _ HU.out).mono ?_; rintro e w' ⟨ad, c', rfl, hl⟩; clear HU; have HU := hid hl; clear hl RO)
    | (go_at_call 24; refine (hA _).mono ?_; rintro e w4 ⟨rfl, hb⟩; have HB4 := hid hb; clear hb hA))
  go_ret
  exact ⟨rfl, HU.out.bel.trans (HB4.out.mono HU.out.bel.size)⟩
end Go.Proofs.Ytmpldaenakenlaa
namespace Go.Proofs.Ytmpldaenakenlaa
open Go.RowKit
open C (Only hid Still ret_bool ret_int)
set_option linter.unusedVariables false
set_option maxRecDepth 100000

structure TV (L : Int) (e : Bool) (n : Nat) (o : Bool) (v : UV) : Prop where
  h1 : v.h 1 = L
  h2 : v.h 2 = 0
  h3 : v.h 3 = 0
  q : v.q.length = n
  ov : v.ov = o
  em : v.em = e
def cauT (L : Int) (e : Bool) (n : Nat) (o : Bool) : Int := if o && bt L 4 then 6 else if decide (0 < n) && bt L 1 then 4 else if e && bt L 2 then 2 else 1
section
variable {L : Int} {e o : Bool} {n : Nat} {v : UV}
theorem TV.cau (h : TV L e n o v) : v.cau = cauT L e n o := by unfold UV.cau cauT; rw [h.h1, h.q, h.ov, h.em]
theorem TV.lat (h : TV L e n o v) : v.lat = false := by unfold UV.lat; rw [h.h3]; decide +kernel
theorem TV.inn (h : TV L e n o v) (x : Int) (hn : n < 16) : TV L e (n + 1) o (v.inn x) := by
  unfold UV.inn
  rw [if_neg (by rw [h.q]; omega)]
  exact ⟨h.h1, h.h2, h.h3, by simp [h.q], h.ov, h.em⟩
theorem TV.inn16 (h : TV L e n o v) (x : Int) (hn : n = 16) : TV L e 16 true (v.inn x) := by
  unfold UV.inn
  rw [if_pos (by rw [h.q]; omega)]
  exact ⟨h.h1, h.h2, h.h3, by show v.q.length = 16; rw [h.q, hn], rfl, h.em⟩
theorem TV.rd2 (h : TV L e n o v) : (v.rd 2).1 = cauT L e n o ∧ TV L (if cauT L e n o = 2 then false else e) n o (v.rd 2).2 := by
  have e1 : v.rd 2 = (v.tca, v.tcv) := rfl
  rw [e1]
  refine ⟨?_, ?_⟩
  · show v.tca = _
    unfold UV.tca
    rw [if_pos h.h2, h.cau]
  · show TV _ _ _ _ v.tcv
    unfold UV.tcv
    rw [h.cau]
    by_cases q : cauT L e n o = 2
    · rw [if_pos q, if_pos q]; exact ⟨h.h1, h.h2, h.h3, h.q, h.ov, rfl⟩
    · rw [if_neg q, if_neg q]; exact h
theorem TV.rd5 (h : TV L e n o v) : TV L e n false (v.rd 5).2 := ⟨h.h1, h.h2, h.h3, h.q, rfl, h.em⟩
theorem TV.rd0 (h : TV L e n o v) : TV L e (n - 1) o (v.rd 0).2 := by
  have e1 : v.rd 0 = if v.lat then (v.d 0, v) else v.nxt := rfl
  rw [e1, h.lat, if_neg (by decide)]
  unfold UV.nxt
  cases z : v.q with
  | nil => exact ⟨h.h1, h.h2, h.h3, by have := h.q; rw [z] at this; show v.q.length = _; rw [z]; simp at this ⊢; omega, h.ov, h.em⟩
  | cons x l => exact ⟨h.h1, h.h2, h.h3, by have := h.q; rw [z] at this; show l.length = _; simp at this; omega, h.ov, h.em⟩
end
theorem cau_fin (L : Int) (e : Bool) : cauT L (if cauT L e 0 false = 2 then false else e) 0 false = 1 := by
  have h0 : ∀ e, cauT L e 0 false = if e && bt L 2 then 2 else 1 := fun e => by unfold cauT; simp
  rw [h0, h0]
  cases e <;> cases bt L 2 <;> rfl
def LT (W w : World) (p : Nat) (L : Int) (e : Bool) (n : Nat) (o : Bool) : Prop := ∃ v, LU W w p v ∧ TV L e n o v ∧ v.s.length < 140737488355328
theorem iand : ∀ L : Fin 16, (bits BinOp.and IntKind.i64 (L.val : Int) 4 != 0) = bt (L.val : Int) 4 ∧ (bits BinOp.and IntKind.i64 (L.val : Int) 1 != 0) = bt (L.val : Int) 1 ∧ (bits BinOp.and IntKind.i64 (L.val : Int) 2 != 0) = bt (L.val : Int) 2 := by decide +kernel
theorem rds_s (v : UV) (k : Int) (h : k = 0 ∨ k = 2 ∨ k = 5) : (v.rd k).2.s = v.s := by
  rcases h with rfl | rfl | rfl
  · show (if v.lat then (v.d 0, v) else v.nxt).2.s = v.s
    split
    · rfl
    · unfold UV.nxt; split <;> rfl
  · show v.tcv.s = v.s
    unfold UV.tcv
    split <;> rfl
  · rfl
theorem inn_s (v : UV) (x : Int) : (v.inn x).s = v.s := by unfold UV.inn; split <;> rfl
section
variable {W w : World} {p : Nat} {L : Int} {e o : Bool} {n : Nat}
theorem lt_Irq (h : LT W w p L e n o) : Calls Try.prog 20 #[.pointer (some ⟨p, 0, none⟩)] w fun r w' => r = .returned (.bool (cauT L e n o != 1)) ∧ w' = w := by
  obtain ⟨v, h1, h2, h3⟩ := h
  have := l_Irq h1
  rw [h2.cau] at this
  exact this
theorem lt_2 (h : LT W w p L e n o) : Calls Try.prog 14 #[.pointer (some ⟨p, 0, none⟩), .int .u64 2] w fun r w' => r = .returned (.int .u8 (cauT L e n o)) ∧ LT W w' p L (if cauT L e n o = 2 then false else e) n o := by
  obtain ⟨v, h1, h2, h3⟩ := h
  refine (l_Read h1 2 (by decide) (by decide)).mono ?_
  rintro r w' ⟨rfl, hl⟩
  exact ⟨by rw [h2.rd2.1], _, hl, h2.rd2.2, by rw [rds_s v 2 (by omega)]; exact h3⟩
theorem lt_5 (h : LT W w p L e n o) : Calls Try.prog 14 #[.pointer (some ⟨p, 0, none⟩), .int .u64 5] w fun r w' => ∃ y, r = .returned (.int .u8 y) ∧ LT W w' p L e n false := by
  obtain ⟨v, h1, h2, h3⟩ := h
  refine (l_Read h1 5 (by decide) (by decide)).mono ?_
  rintro r w' ⟨rfl, hl⟩
  exact ⟨_, rfl, _, hl, h2.rd5, by rw [rds_s v 5 (by omega)]; exact h3⟩
theorem lt_0 (h : LT W w p L e n o) : Calls Try.prog 14 #[.pointer (some ⟨p, 0, none⟩), .int .u64 0] w fun r w' => ∃ y, r = .returned (.int .u8 y) ∧ LT W w' p L e (n - 1) o := by
  obtain ⟨v, h1, h2, h3⟩ := h
  refine (l_Read h1 0 (by decide) (by decide)).mono ?_
  rintro r w' ⟨rfl, hl⟩
  exact ⟨_, rfl, _, hl, h2.rd0, by rw [rds_s v 0 (by omega)]; exact h3⟩
theorem lt_In (j : Nat) (h : LT W w p L e (min j 16) (decide (16 < j))) (x : Int) (hx : Byt x) : Calls Try.prog 18 #[.pointer (some ⟨p, 0, none⟩), .int .u8 x] w fun r w' => r = .returned (.tuple #[]) ∧ LT W w' p L e (min (j + 1) 16) (decide (16 < j + 1)) := by
  obtain ⟨v, h1, h2, h3⟩ := h
  refine (l_In h1 x hx).mono ?_
  rintro r w' ⟨rfl, hl⟩
  refine ⟨rfl, _, hl, ?_, by rw [inn_s]; exact h3⟩
  rcases Nat.lt_or_ge j 16 with z | z
  · have := h2.inn x (by omega)
    rw [show min (j + 1) 16 = min j 16 + 1 by omega, show decide (16 < j + 1) = decide (16 < j) by rw [Bool.eq_iff_iff]; simp; omega]
    exact this
  · have := h2.inn16 x (by omega)
    rw [show min (j + 1) 16 = 16 by omega, show decide (16 < j + 1) = true by simp; omega]
    exact this
end
/-- what stands when the registers are written -/
theorem lt_first (z : Bool) (L : Int) (l0 : 0 ≤ L) (l1 : L < 16) : TV L ((if z then uv0.wr 0 5 else uv0).em || bt L 2) 0 false ((if z then uv0.wr 0 5 else uv0).wr 1 L) := by
  have a : ∀ v : UV, v.lat = false → v.h 1 = 0 → v.h 2 = 0 → v.h 3 = 0 → v.q = [] → v.ov = false → TV L (v.em || bt L 2) 0 false (v.wr 1 L) := fun v k1 k2 k3 k4 k5 k6 => by
    have e1 : v.wr 1 L = if v.lat then { v with d := up1 v.d 1 L } else { v with h := up1 v.h 1 (L % 16), em := v.em || (bt L 2 && !bt (v.h 1) 2) } := rfl
    rw [e1, k1, if_neg (by decide)]
    refine ⟨by show L % 16 = L; omega, k3, k4, by show v.q.length = 0; rw [k5]; rfl, k6, ?_⟩
    show (v.em || (bt L 2 && !bt (v.h 1) 2)) = _
    rw [k2, show bt 0 2 = false by decide +kernel, Bool.not_false, Bool.and_true]
  have l : uv0.lat = false := by decide +kernel
  cases z
  · exact a uv0 l rfl rfl rfl rfl rfl
  · have e1 : uv0.wr 0 5 = { uv0 with s := uv0.s ++ [5], em := true } := by
      show (if uv0.lat then { uv0 with d := up1 uv0.d 0 5 } else { uv0 with s := uv0.s ++ [5], em := true }) = _
      rw [l]
      rfl
    rw [if_pos rfl, e1]
    exact a _ l rfl rfl rfl rfl rfl
end Go.Proofs.Ytmpldaenakenlaa
namespace Go.Proofs.Ytmpldaenakenlaa
open Go.RowKit
open C (Only hid Still ret_bool ret_int)
set_option linter.unusedVariables false
set_option maxRecDepth 100000

def LF (W w : World) (p : Nat) (L : Int) : Prop := ∃ e, LT W w p L e 0 false ∧ cauT L e 0 false = 1
theorem lf_1 {W w : World} {p : Nat} {L : Int} {e : Bool} (h : LT W w p L e 0 false) : Calls Try.prog 14 #[.pointer (some ⟨p, 0, none⟩), .int .u64 2] w fun r w' => ∃ y, r = .returned (.int .u8 y) ∧ LF W w' p L :=
  (lt_2 h).mono fun r w' hh => ⟨_, hh.1, _, hh.2, cau_fin L e⟩
theorem lf_2 {W w : World} {p : Nat} {L : Int} (h : LF W w p L) : Calls Try.prog 20 #[.pointer (some ⟨p, 0, none⟩)] w fun r w' => r = .returned (.bool false) ∧ w' = w := by
  obtain ⟨e, h1, h2⟩ := h
  have := lt_Irq h1
  rw [h2] at this
  exact this
theorem lf_3 {W w : World} {p : Nat} {L : Int} (h : LF W w p L) : Calls Try.prog 14 #[.pointer (some ⟨p, 0, none⟩), .int .u64 2] w fun r w' => r = .returned (.int .u8 1) ∧ Below W.heap.size W w' := by
  obtain ⟨e, h1, h2⟩ := h
  have := lt_2 h1
  rw [h2] at this
  exact this.mono fun r w' hh => ⟨hh.1, by obtain ⟨v, hv, _⟩ := hh.2; exact hv.bel⟩
/-- what is asked first, and what stands behind it -/
theorem lt_ask {W w : World} {p : Nat} {L : Int} {e o : Bool} {n : Nat} (h : LT W w p L e n o) (hn : n ≤ 16) (c : Int) (hc : cauT L e n o = c) : Calls Try.prog 14 #[.pointer (some ⟨p, 0, none⟩), .int .u64 2] w fun r w' => r = .returned (.int .u8 c) ∧ ∃ e' n' o', n' ≤ 16 ∧ LT W w' p L e' n' o' := by
  rw [← hc]
  exact (lt_2 h).mono fun r w' hh => ⟨hh.1, _, _, _, hn, hh.2⟩
theorem lt_irq {W w : World} {p : Nat} {L : Int} {e o : Bool} {n : Nat} (h : LT W w p L e n o) (b : Bool) (hc : (cauT L e n o != 1) = b) : Calls Try.prog 20 #[.pointer (some ⟨p, 0, none⟩)] w fun r w' => r = .returned (.bool b) ∧ w' = w := by
  rw [← hc]
  exact lt_Irq h
set_option maxHeartbeats 8000000 in
theorem w_PlatTells (W : World) (a : Int) (a0 : -9223372036854775808 ≤ a) (a1 : a ≤ 9223372036854775807) (b : Int) (b0 : -9223372036854775808 ≤ b) (b1 : b ≤ 9223372036854775807) (z : Bool) : Calls Try.prog 8 #[.int .i64 a, .int .i64 b, .bool z] W fun e w' => e = .returned (.bool true) ∧ Below W.heap.size W w' := by
  have hN := l_NewU W W (.refl _ _)
  have hP := C.c_Place a 16 (by decide) (by decide) a0 a1
  have hQ := C.c_Place b 20 (by decide) (by decide) b0 b1
  obtain ⟨k, hk⟩ : ∃ k : Nat, (k : Int) = b % 20 := ⟨(b % 20).toNat, by omega⟩
  have k20 : k < 20 := by omega
  obtain ⟨L, hL⟩ : ∃ L : Int, L = a % 16 := ⟨_, rfl⟩
  have l0 : 0 ≤ L := by omega
  have l1 : L < 16 := by omega
  rw [← hk] at hQ
  rw [← hL] at hP
  clear hk hL a0 a1 b0 b1
  have i4 : (bits BinOp.and IntKind.i64 L 4 != 0) = bt L 4 := by have := (iand ⟨L.toNat, by omega⟩).1; simpa [Int.toNat_of_nonneg l0] using this
  have i1 : (bits BinOp.and IntKind.i64 L 1 != 0) = bt L 1 := by have := (iand ⟨L.toNat, by omega⟩).2.1; simpa [Int.toNat_of_nonneg l0] using this
  have i2 : (bits BinOp.and IntKind.i64 L 2 != 0) = bt L 2 := by have := (iand ⟨L.toNat, by omega⟩).2.2; simpa [Int.toNat_of_nonneg l0] using this
  have HW0 : Hid (∀ w, LU W w W.heap.size uv0 → Calls Try.prog 16 #[.pointer (some ⟨W.heap.size, 0, none⟩), .int .u64 0, .int .u8 5] w fun e w' => e = .returned (.tuple #[]) ∧ LU W w' W.heap.size (uv0.wr 0 5)) := fun w h => l_Write h 0 5 (by decide) (by decide) (by constructor <;> decide) (by show 0 < _; decide)
  have HW1 : Hid (∀ w, LU W w W.heap.size (if z then uv0.wr 0 5 else uv0) → Calls Try.prog 16 #[.pointer (some ⟨W.heap.size, 0, none⟩), .int .u64 1, .int .u8 L] w fun e w' => e = .returned (.tuple #[]) ∧ LT W w' W.heap.size L ((if z then uv0.wr 0 5 else uv0).em || bt L 2) (min 0 16) (decide (16 < 0))) := fun w h => by
    refine (l_Write h 1 L (by decide) (by decide) ⟨l0, by omega⟩ ?_).mono ?_
    · cases z
      · show 0 < _; decide
      · have e1 : uv0.wr 0 5 = { uv0 with s := uv0.s ++ [5], em := true } := by
          show (if uv0.lat then { uv0 with d := up1 uv0.d 0 5 } else { uv0 with s := uv0.s ++ [5], em := true }) = _
          rw [show uv0.lat = false by decide +kernel]
          rfl
        rw [if_pos rfl, e1]
        show 1 < _; decide
    · rintro r w' ⟨rfl, hl⟩
      refine ⟨rfl, _, hl, lt_first z L l0 l1, ?_⟩
      have : ∀ v : UV, v.s.length ≤ 1 → ((v.wr 1 L).s).length < 140737488355328 := fun v hv => by
        show ((if v.lat then { v with d := up1 v.d 1 L } else { v with h := up1 v.h 1 (L % 16), em := v.em || (bt L 2 && !bt (v.h 1) 2) } : UV).s).length < _
        split <;> (show v.s.length < _; omega)
      cases z
      · exact this _ (by show 0 ≤ 1; decide)
      · have e1 : uv0.wr 0 5 = { uv0 with s := uv0.s ++ [5], em := true } := by
          show (if uv0.lat then { uv0 with d := up1 uv0.d 0 5 } else { uv0 with s := uv0.s ++ [5], em := true }) = _
          rw [show uv0.lat = false by decide +kernel]
          rfl
        rw [if_pos rfl, e1]
        exact this _ (by show 1 ≤ 1; decide)
  have hA := l_awake
  have he : bt L 2 = true → ((if z then uv0.wr 0 5 else uv0).em || bt L 2) = true := fun h => by rw [h, Bool.or_true]
  have HE := hid he
  clear he
  have HU0 : Hid (∀ w, LU W w W.heap.size uv0 → z = false → LU W w W.heap.size (if z then uv0.wr 0 5 else uv0)) := fun w h hz => by rw [hz]; exact h
  have HU1 : Hid (∀ w, LU W w W.heap.size (uv0.wr 0 5) → z = true → LU W w W.heap.size (if z then uv0.wr 0 5 else uv0)) := fun w h hz => by rw [hz]; exact h
  generalize ((if z then uv0.wr 0 5 else uv0).em || bt L 2) = e at *
  generalize (if z then uv0.wr 0 5 else uv0) = va at *
  generalize uv0.wr 0 5 = vb at *
  go_enter Try.func8, Try.ntmps8
  cases z
  all_goals
    go_wp2_with (first
      | (go_at_call 12; refine hN.mono ?_; rintro e w1 ⟨rfl, hl, -⟩; have HU := hid hl; clear hl hN)
      | (go_at_call 13; (with_reducible refine (hP _).mono ?_); rintro e w' ⟨rfl, hw⟩; obtain rfl := hw.symm; clear hP)
      | (go_at_call 13; (with_reducible refine (hQ _).mono ?_); rintro e w' ⟨rfl, hw⟩; obtain rfl := hw.symm; clear hQ)
      | (go_at_call 16; (with_reducible refine (HW0.out _ HU.out).mono ?_); rintro e w2 ⟨rfl, hl⟩; clear HU; have HV := hid (HU1.out w2 hl (by first | rfl | trivial)); clear hl)
      | (go_at_call 16; (with_reducible refine (HW1.out _ HV.out).mono ?_); rintro e w3 ⟨rfl, hl⟩; have HT := hid hl; clear hl)
      | (go_at_call 16; (with_reducible refine (HW1.out _ (HU0.out _ HU.out (by first | rfl | trivial))).mono ?_); rintro e w3 ⟨rfl, hl⟩; have HT := hid hl; clear hl))
    go_loopw [10] (fun i wr => ∃ j : Nat, j ≤ k ∧ i = .int .i64 j ∧ Hid (LT W wr W.heap.size L e (min j 16) (decide (16 < j)))) (fun i _ => k - (intOf i).toNat)
    case atStart => exact ⟨0, by omega, rfl, HT⟩
    case round =>
      obtain ⟨j, hj, rfl, ht⟩ := hrel
      by_cases hlt : j < k
      · have hI := lt_In j ht.out j ⟨by omega, by omega⟩
        have j20 : (j : Int) < 20 := by omega
        go_wp2_with (go_at_call 18; refine hI.mono ?_; rintro r w2 ⟨rfl, hl⟩; have HL := hid hl; clear hl hI)
        go_roundw
        case rel => exact ⟨j + 1, by omega, by go_num, HL⟩
        case measure => simp [intOf]; omega
      · obtain rfl : j = k := by omega
        clear HT hj hlt
        have HC : Hid (∃ b1 b2 b4 : Bool, bt L 1 = b1 ∧ bt L 2 = b2 ∧ bt L 4 = b4) := ⟨_, _, _, rfl, rfl, rfl⟩
        obtain ⟨b1, b2, b4, f1, f2, f4⟩ := HC
        rw [f1] at i1
        rw [f2] at i2
        rw [f4] at i4
        have hfin : ∃ c : Int, ∃ b : Bool, Hid (Calls Try.prog 20 #[.pointer (some ⟨W.heap.size, 0, none⟩)] wr fun r w' => r = .returned (.bool b) ∧ w' = wr) ∧ Hid (Calls Try.prog 14 #[.pointer (some ⟨W.heap.size, 0, none⟩), .int .u64 2] wr fun r w' => r = .returned (.int .u8 c) ∧ ∃ e' n' o', n' ≤ 16 ∧ LT W w' W.heap.size L e' n' o') ∧ c = (if decide (16 < j) && b4 then 6 else if decide (0 < j) && b1 then 4 else if b2 then 2 else 1) ∧ b = (decide (16 < j) && b4 || decide (0 < j) && b1 || b2) := by
          have hb : (e && b2) = b2 := by
            cases b2
            · simp
            · rw [HE.out f2]; rfl
          have hcc : cauT L e (min j 16) (decide (16 < j)) = (if decide (16 < j) && b4 then 6 else if decide (0 < j) && b1 then 4 else if b2 then 2 else 1) := by
            unfold cauT
            rw [f1, f2, f4, hb, show decide (0 < min j 16) = decide (0 < j) by rw [Bool.eq_iff_iff]; simp; omega]
          refine ⟨_, _, lt_irq ht.out _ rfl, lt_ask ht.out (by omega) _ rfl, hcc, ?_⟩
          rw [hcc]
          cases (decide (16 < j) && b4) <;> cases (decide (0 < j) && b1) <;> cases b2 <;> rfl
        obtain ⟨c, b, HI, H2, hc, hb⟩ := hfin
        clear f1 f2 f4 ht HE
        have hj0 : (0 : Int) ≤ j := by omega
        have hcase : (16 < j ∧ 0 < j) ∨ (j ≤ 16 ∧ 0 < j) ∨ (j ≤ 16 ∧ j = 0) := by omega
        rcases hcase with ⟨g1, g2⟩ | ⟨g1, g2⟩ | ⟨g1, g2⟩
        · rw [show decide (16 < j) = true by simpa using g1, show decide (0 < j) = true by simpa using g2] at hc hb
          cases b4
          · cases b1
            · cases b2
              · simp at hc hb
                subst hc
                subst hb
                go_wp2_with (first
                  | (go_at_call 20; refine HI.out.mono ?_; rintro r w' ⟨rfl, hw⟩; obtain rfl := hw.symm; clear HI)
                  | (go_at_call 14; (with_reducible refine H2.out.mono ?_); rintro r w2 ⟨rfl, e', n', o', hn, hl⟩; have HT := hid (lt_5 hl); clear hl H2)
                  | (go_at_call 14; (with_reducible refine HT.out.mono ?_); rintro r w3 ⟨y, rfl, hl⟩; have HT5 := hid hl; clear hl HT))
                go_loopw [15] (fun i wr => ∃ m : Nat, m ≤ 16 ∧ i = .int .i64 m ∧ Hid (LT W wr W.heap.size L e' (n' - m) false)) (fun i _ => 16 - (intOf i).toNat)
                case atStart => exact ⟨0, by omega, rfl, HT5⟩
                case round =>
                  obtain ⟨m, hm, rfl, ht⟩ := hrel
                  by_cases hlt : m < 16
                  · have hR := lt_0 ht.out
                    go_wp2_with (go_at_call 14; refine hR.mono ?_; rintro r w4 ⟨y, rfl, hl⟩; have HL := hid hl; clear hl hR)
                    go_roundw
                    case rel => exact ⟨m + 1, by omega, by go_num, HL⟩
                    case measure => simp [intOf]; omega
                  · obtain rfl : m = 16 := by omega
                    have h0 := ht.out
                    rw [show n' - 16 = 0 by omega] at h0
                    have hR := lf_1 h0
                    clear h0 ht HT5
                    go_wp2_with (first
                      | (go_at_call 14; (with_reducible refine hR.mono ?_); rintro r w4 ⟨y, rfl, hl⟩; have hI := lf_2 hl; have h3 := lf_3 hl; clear hl hR)
                      | (go_at_call 20; refine hI.mono ?_; rintro r w' ⟨rfl, hw⟩; obtain rfl := hw.symm; clear hI)
                      | (go_at_call 14; (with_reducible refine h3.mono ?_); rintro r w5 ⟨rfl, hl⟩; have HB := hid hl; clear hl h3)
                      | (go_at_call 24; refine (hA _).mono ?_; rintro r w6 ⟨rfl, hb⟩; have HB6 := hid hb; clear hb))
                    go_ret
                    exact ⟨rfl, HB.out.trans (HB6.out.mono HB.out.size)⟩
              · simp at hc hb
                subst hc
                subst hb
                go_wp2_with (first
                  | (go_at_call 20; refine HI.out.mono ?_; rintro r w' ⟨rfl, hw⟩; obtain rfl := hw.symm; clear HI)
                  | (go_at_call 14; (with_reducible refine H2.out.mono ?_); rintro r w2 ⟨rfl, e', n', o', hn, hl⟩; have HT := hid (lt_5 hl); clear hl H2)
                  | (go_at_call 14; (with_reducible refine HT.out.mono ?_); rintro r w3 ⟨y, rfl, hl⟩; have HT5 := hid hl; clear hl HT))
                go_loopw [15] (fun i wr => ∃ m : Nat, m ≤ 16 ∧ i = .int .i64 m ∧ Hid (LT W wr W.heap.size L e' (n' - m) false)) (fun i _ => 16 - (intOf i).toNat)
                case atStart => exact ⟨0, by omega, rfl, HT5⟩
                case round =>
                  obtain ⟨m, hm, rfl, ht⟩ := hrel
                  by_cases hlt : m < 16
                  · have hR := lt_0 ht.out
                    go_wp2_with (go_at_call 14; refine hR.mono ?_; rintro r w4 ⟨y, rfl, hl⟩; have HL := hid hl; clear hl hR)
                    go_roundw
                    case rel => exact ⟨m + 1, by omega, by go_num, HL⟩
                    case measure => simp [intOf]; omega
                  · obtain rfl : m = 16 := by omega
                    have h0 := ht.out
                    rw [show n' - 16 = 0 by omega] at h0
                    have hR := lf_1 h0
                    clear h0 ht HT5
                    go_wp2_with (first
                      | (go_at_call 14; (with_reducible refine hR.mono ?_); rintro r w4 ⟨y, rfl, hl⟩; have hI := lf_2 hl; have h3 := lf_3 hl; clear hl hR)
                      | (go_at_call 20; refine hI.mono ?_; rintro r w' ⟨rfl, hw⟩; obtain rfl := hw.symm; clear hI)
                      | (go_at_call 14; (with_reducible refine h3.mono ?_); rintro r w5 ⟨rfl, hl⟩; have HB := hid hl; clear hl h3)
                      | (go_at_call 24; refine (hA _).mono ?_; rintro r w6 ⟨rfl, hb⟩; have HB6 := hid hb; clear hb))
                    go_ret
                    exact ⟨rfl, HB.out.trans (HB6.out.mono HB.out.size)⟩
            · simp at hc hb
              subst hc
              subst hb
              go_wp2_with (first
                | (go_at_call 20; refine HI.out.mono ?_; rintro r w' ⟨rfl, hw⟩; obtain rfl := hw.symm; clear HI)
                | (go_at_call 14; (with_reducible refine H2.out.mono ?_); rintro r w2 ⟨rfl, e', n', o', hn, hl⟩; have HT := hid (lt_5 hl); clear hl H2)
                | (go_at_call 14; (with_reducible refine HT.out.mono ?_); rintro r w3 ⟨y, rfl, hl⟩; have HT5 := hid hl; clear hl HT))
              go_loopw [15] (fun i wr => ∃ m : Nat, m ≤ 16 ∧ i = .int .i64 m ∧ Hid (LT W wr W.heap.size L e' (n' - m) false)) (fun i _ => 16 - (intOf i).toNat)
              case atStart => exact ⟨0, by omega, rfl, HT5⟩
              case round =>
                obtain ⟨m, hm, rfl, ht⟩ := hrel
                by_cases hlt : m < 16
                · have hR := lt_0 ht.out
                  go_wp2_with (go_at_call 14; refine hR.mono ?_; rintro r w4 ⟨y, rfl, hl⟩; have HL := hid hl; clear hl hR)
                  go_roundw
                  case rel => exact ⟨m + 1, by omega, by go_num, HL⟩
                  case measure => simp [intOf]; omega
                · obtain rfl : m = 16 := by omega
                  have h0 := ht.out
                  rw [show n' - 16 = 0 by omega] at h0
                  have hR := lf_1 h0
                  clear h0 ht HT5
                  go_wp2_with (first
                    | (go_at_call 14; (with_reducible refine hR.mono ?_); rintro r w4 ⟨y, rfl, hl⟩; have hI := lf_2 hl; have h3 := lf_3 hl; clear hl hR)
                    | (go_at_call 20; refine hI.mono ?_; rintro r w' ⟨rfl, hw⟩; obtain rfl := hw.symm; clear hI)
                    | (go_at_call 14; (with_reducible refine h3.mono ?_); rintro r w5 ⟨rfl, hl⟩; have HB := hid hl; clear hl h3)
                    | (go_at_call 24; refine (hA _).mono ?_; rintro r w6 ⟨rfl, hb⟩; have HB6 := hid hb; clear hb))
                  go_ret
                  exact ⟨rfl, HB.out.trans (HB6.out.mono HB.out.size)⟩
          · simp at hc hb
            subst hc
            subst hb
            go_wp2_with (first
              | (go_at_call 20; refine HI.out.mono ?_; rintro r w' ⟨rfl, hw⟩; obtain rfl := hw.symm; clear HI)
              | (go_at_call 14; (with_reducible refine H2.out.mono ?_); rintro r w2 ⟨rfl, e', n', o', hn, hl⟩; have HT := hid (lt_5 hl); clear hl H2)
              | (go_at_call 14; (with_reducible refine HT.out.mono ?_); rintro r w3 ⟨y, rfl, hl⟩; have HT5 := hid hl; clear hl HT))
            go_loopw [15] (fun i wr => ∃ m : Nat, m ≤ 16 ∧ i = .int .i64 m ∧ Hid (LT W wr W.heap.size L e' (n' - m) false)) (fun i _ => 16 - (intOf i).toNat)
            case atStart => exact ⟨0, by omega, rfl, HT5⟩
            case round =>
              obtain ⟨m, hm, rfl, ht⟩ := hrel
              by_cases hlt : m < 16
              · have hR := lt_0 ht.out
                go_wp2_with (go_at_call 14; refine hR.mono ?_; rintro r w4 ⟨y, rfl, hl⟩; have HL := hid hl; clear hl hR)
                go_roundw
                case rel => exact ⟨m + 1, by omega, by go_num, HL⟩
                case measure => simp [intOf]; omega
              · obtain rfl : m = 16 := by omega
                have h0 := ht.out
                rw [show n' - 16 = 0 by omega] at h0
                have hR := lf_1 h0
                clear h0 ht HT5
                go_wp2_with (first
                  | (go_at_call 14; (with_reducible refine hR.mono ?_); rintro r w4 ⟨y, rfl, hl⟩; have hI := lf_2 hl; have h3 := lf_3 hl; clear hl hR)
                  | (go_at_call 20; refine hI.mono ?_; rintro r w' ⟨rfl, hw⟩; obtain rfl := hw.symm; clear hI)
                  | (go_at_call 14; (with_reducible refine h3.mono ?_); rintro r w5 ⟨rfl, hl⟩; have HB := hid hl; clear hl h3)
                  | (go_at_call 24; refine (hA _).mono ?_; rintro r w6 ⟨rfl, hb⟩; have HB6 := hid hb; clear hb))
                go_ret
                exact ⟨rfl, HB.out.trans (HB6.out.mono HB.out.size)⟩
        · rw [show decide (16 < j) = false by simpa using g1, show decide (0 < j) = true by simpa using g2] at hc hb
          cases b1
          · cases b2
            · simp at hc hb
              subst hc
              subst hb
              go_wp2_with (first
                | (go_at_call 20; refine HI.out.mono ?_; rintro r w' ⟨rfl, hw⟩; obtain rfl := hw.symm; clear HI)
                | (go_at_call 14; (with_reducible refine H2.out.mono ?_); rintro r w2 ⟨rfl, e', n', o', hn, hl⟩; have HT := hid (lt_5 hl); clear hl H2)
                | (go_at_call 14; (with_reducible refine HT.out.mono ?_); rintro r w3 ⟨y, rfl, hl⟩; have HT5 := hid hl; clear hl HT))
              go_loopw [15] (fun i wr => ∃ m : Nat, m ≤ 16 ∧ i = .int .i64 m ∧ Hid (LT W wr W.heap.size L e' (n' - m) false)) (fun i _ => 16 - (intOf i).toNat)
              case atStart => exact ⟨0, by omega, rfl, HT5⟩
              case round =>
                obtain ⟨m, hm, rfl, ht⟩ := hrel
                by_cases hlt : m < 16
                · have hR := lt_0 ht.out
                  go_wp2_with (go_at_call 14; refine hR.mono ?_; rintro r w4 ⟨y, rfl, hl⟩; have HL := hid hl; clear hl hR)
                  go_roundw
                  case rel => exact ⟨m + 1, by omega, by go_num, HL⟩
                  case measure => simp [intOf]; omega
                · obtain rfl : m = 16 := by omega
                  have h0 := ht.out
                  rw [show n' - 16 = 0 by omega] at h0
                  have hR := lf_1 h0
                  clear h0 ht HT5
                  go_wp2_with (first
                    | (go_at_call 14; (with_reducible refine hR.mono ?_); rintro r w4 ⟨y, rfl, hl⟩; have hI := lf_2 hl; have h3 := lf_3 hl; clear hl hR)
                    | (go_at_call 20; refine hI.mono ?_; rintro r w' ⟨rfl, hw⟩; obtain rfl := hw.symm; clear hI)
                    | (go_at_call 14; (with_reducible refine h3.mono ?_); rintro r w5 ⟨rfl, hl⟩; have HB := hid hl; clear hl h3)
                    | (go_at_call 24; refine (hA _).mono ?_; rintro r w6 ⟨rfl, hb⟩; have HB6 := hid hb; clear hb))
                  go_ret
                  exact ⟨rfl, HB.out.trans (HB6.out.mono HB.out.size)⟩
            · simp at hc hb
              subst hc
              subst hb
              go_wp2_with (first
                | (go_at_call 20; refine HI.out.mono ?_; rintro r w' ⟨rfl, hw⟩; obtain rfl := hw.symm; clear HI)
                | (go_at_call 14; (with_reducible refine H2.out.mono ?_); rintro r w2 ⟨rfl, e', n', o', hn, hl⟩; have HT := hid (lt_5 hl); clear hl H2)
                | (go_at_call 14; (with_reducible refine HT.out.mono ?_); rintro r w3 ⟨y, rfl, hl⟩; have HT5 := hid hl; clear hl HT))
              go_loopw [15] (fun i wr => ∃ m : Nat, m ≤ 16 ∧ i = .int .i64 m ∧ Hid (LT W wr W.heap.size L e' (n' - m) false)) (fun i _ => 16 - (intOf i).toNat)
              case atStart => exact ⟨0, by omega, rfl, HT5⟩
              case round =>
                obtain ⟨m, hm, rfl, ht⟩ := hrel
                by_cases hlt : m < 16
                · have hR := lt_0 ht.out
                  go_wp2_with (go_at_call 14; refine hR.mono ?_; rintro r w4 ⟨y, rfl, hl⟩; have HL := hid hl; clear hl hR)
                  go_roundw
                  case rel => exact ⟨m + 1, by omega, by go_num, HL⟩
                  case measure => simp [intOf]; omega
                · obtain rfl : m = 16 := by omega
                  have h0 := ht.out
                  rw [show n' - 16 = 0 by omega] at h0
                  have hR := lf_1 h0
                  clear h0 ht HT5
                  go_wp2_with (first
                    | (go_at_call 14; (with_reducible refine hR.mono ?_); rintro r w4 ⟨y, rfl, hl⟩; have hI := lf_2 hl; have h3 := lf_3 hl; clear hl hR)
                    | (go_at_call 20; refine hI.mono ?_; rintro r w' ⟨rfl, hw⟩; obtain rfl := hw.symm; clear hI)
                    | (go_at_call 14; (with_reducible refine h3.mono ?_); rintro r w5 ⟨rfl, hl⟩; have HB := hid hl; clear hl h3)
                    | (go_at_call 24; refine (hA _).mono ?_; rintro r w6 ⟨rfl, hb⟩; have HB6 := hid hb; clear hb))
                  go_ret
                  exact ⟨rfl, HB.out.trans (HB6.out.mono HB.out.size)⟩
          · simp at hc hb
            subst hc
            subst hb
            go_wp2_with (first
              | (go_at_call 20; refine HI.out.mono ?_; rintro r w' ⟨rfl, hw⟩; obtain rfl := hw.symm; clear HI)
              | (go_at_call 14; (with_reducible refine H2.out.mono ?_); rintro r w2 ⟨rfl, e', n', o', hn, hl⟩; have HT := hid (lt_5 hl); clear hl H2)
              | (go_at_call 14; (with_reducible refine HT.out.mono ?_); rintro r w3 ⟨y, rfl, hl⟩; have HT5 := hid hl; clear hl HT))
            go_loopw [15] (fun i wr => ∃ m : Nat, m ≤ 16 ∧ i = .int .i64 m ∧ Hid (LT W wr W.heap.size L e' (n' - m) false)) (fun i _ => 16 - (intOf i).toNat)
            case atStart => exact ⟨0, by omega, rfl, HT5⟩
            case round =>
              obtain ⟨m, hm, rfl, ht⟩ := hrel
              by_cases hlt : m < 16
              · have hR := lt_0 ht.out
                go_wp2_with (go_at_call 14; refine hR.mono ?_; rintro r w4 ⟨y, rfl, hl⟩; have HL := hid hl; clear hl hR)
                go_roundw
                case rel => exact ⟨m + 1, by omega, by go_num, HL⟩
                case measure => simp [intOf]; omega
              · obtain rfl : m = 16 := by omega
                have h0 := ht.out
                rw [show n' - 16 = 0 by omega] at h0
                have hR := lf_1 h0
                clear h0 ht HT5
                go_wp2_with (first
                  | (go_at_call 14; (with_reducible refine hR.mono ?_); rintro r w4 ⟨y, rfl, hl⟩; have hI := lf_2 hl; have h3 := lf_3 hl; clear hl hR)
                  | (go_at_call 20; refine hI.mono ?_; rintro r w' ⟨rfl, hw⟩; obtain rfl := hw.symm; clear hI)
                  | (go_at_call 14; (with_reducible refine h3.mono ?_); rintro r w5 ⟨rfl, hl⟩; have HB := hid hl; clear hl h3)
                  | (go_at_call 24; refine (hA _).mono ?_; rintro r w6 ⟨rfl, hb⟩; have HB6 := hid hb; clear hb))
                go_ret
                exact ⟨rfl, HB.out.trans (HB6.out.mono HB.out.size)⟩
        · rw [show decide (16 < j) = false by simpa using g1, show decide (0 < j) = false by simp; omega] at hc hb
          cases b2
          · simp at hc hb
            subst hc
            subst hb
            go_wp2_with (first
              | (go_at_call 20; refine HI.out.mono ?_; rintro r w' ⟨rfl, hw⟩; obtain rfl := hw.symm; clear HI)
              | (go_at_call 14; (with_reducible refine H2.out.mono ?_); rintro r w2 ⟨rfl, e', n', o', hn, hl⟩; have HT := hid (lt_5 hl); clear hl H2)
              | (go_at_call 14; (with_reducible refine HT.out.mono ?_); rintro r w3 ⟨y, rfl, hl⟩; have HT5 := hid hl; clear hl HT))
            go_loopw [15] (fun i wr => ∃ m : Nat, m ≤ 16 ∧ i = .int .i64 m ∧ Hid (LT W wr W.heap.size L e' (n' - m) false)) (fun i _ => 16 - (intOf i).toNat)
            case atStart => exact ⟨0, by omega, rfl, HT5⟩
            case round =>
              obtain ⟨m, hm, rfl, ht⟩ := hrel
              by_cases hlt : m < 16
              · have hR := lt_0 ht.out
                go_wp2_with (go_at_call 14; refine hR.mono ?_; rintro r w4 ⟨y, rfl, hl⟩; have HL := hid hl; clear hl hR)
                go_roundw
                case rel => exact ⟨m + 1, by omega, by go_num, HL⟩
                case measure => simp [intOf]; omega
              · obtain rfl : m = 16 := by omega
                have h0 := ht.out
                rw [show n' - 16 = 0 by omega] at h0
                have hR := lf_1 h0
                clear h0 ht HT5
                go_wp2_with (first
                  | (go_at_call 14; (with_reducible refine hR.mono ?_); rintro r w4 ⟨y, rfl, hl⟩; have hI := lf_2 hl; have h3 := lf_3 hl; clear hl hR)
                  | (go_at_call 20; refine hI.mono ?_; rintro r w' ⟨rfl, hw⟩; obtain rfl := hw.symm; clear hI)
                  | (go_at_call 14; (with_reducible refine h3.mono ?_); rintro r w5 ⟨rfl, hl⟩; have HB := hid hl; clear hl h3)
                  | (go_at_call 24; refine (hA _).mono ?_; rintro r w6 ⟨rfl, hb⟩; have HB6 := hid hb; clear hb))
                go_ret
                exact ⟨rfl, HB.out.trans (HB6.out.mono HB.out.size)⟩
          · simp at hc hb
            subst hc
            subst hb
            go_wp2_with (first
              | (go_at_call 20; refine HI.out.mono ?_; rintro r w' ⟨rfl, hw⟩; obtain rfl := hw.symm; clear HI)
              | (go_at_call 14; (with_reducible refine H2.out.mono ?_); rintro r w2 ⟨rfl, e', n', o', hn, hl⟩; have HT := hid (lt_5 hl); clear hl H2)
              | (go_at_call 14; (with_reducible refine HT.out.mono ?_); rintro r w3 ⟨y, rfl, hl⟩; have HT5 := hid hl; clear hl HT))
            go_loopw [15] (fun i wr => ∃ m : Nat, m ≤ 16 ∧ i = .int .i64 m ∧ Hid (LT W wr W.heap.size L e' (n' - m) false)) (fun i _ => 16 - (intOf i).toNat)
            case atStart => exact ⟨0, by omega, rfl, HT5⟩
            case round =>
              obtain ⟨m, hm, rfl, ht⟩ := hrel
              by_cases hlt : m < 16
              · have hR := lt_0 ht.out
                go_wp2_with (go_at_call 14; refine hR.mono ?_; rintro r w4 ⟨y, rfl, hl⟩; have HL := hid hl; clear hl hR)
                go_roundw
                case rel => exact ⟨m + 1, by omega, by go_num, HL⟩
                case measure => simp [intOf]; omega
              · obtain rfl : m = 16 := by omega
                have h0 := ht.out
                rw [show n' - 16 = 0 by omega] at h0
                have hR := lf_1 h0
                clear h0 ht HT5
                go_wp2_with (first
                  | (go_at_call 14; (with_reducible refine hR.mono ?_); rintro r w4 ⟨y, rfl, hl⟩; have hI := lf_2 hl; have h3 := lf_3 hl; clear hl hR)
                  | (go_at_call 20; refine hI.mono ?_; rintro r w' ⟨rfl, hw⟩; obtain rfl := hw.symm; clear hI)
                  | (go_at_call 14; (with_reducible refine h3.mono ?_); rintro r w5 ⟨rfl, hl⟩; have HB := hid hl; clear hl h3)
                  | (go_at_call 24; refine (hA _).mono ?_; rintro r w6 ⟨rfl, hb⟩; have HB6 := hid hb; clear hb))
                go_ret
                exact ⟨rfl, HB.out.trans (HB6.out.mono HB.out.size)⟩
end Go.Proofs.Ytmpldaenakenlaa
