/- PlatLatches. -/
import Derived.Test.YtmpldaenakenlaaMH2
import Derived.Test.YtmpldaenakenlaaRows
import Derived.Test.YtmpldaenakenlaaMC2
import Derived.OpenShut
import Derived.SizedLaws
import Derived.Deep.Slices
namespace Go.Proofs.Ytmpldaenakenlaa
open Go.RowKit
open C (Only hid Still ret_bool ret_int)
set_option linter.unusedVariables false
set_option maxRecDepth 100000

def ls1 (x : Int) : UV := uv0.inn x
def ls2 (x : Int) : UV := (ls1 x).wr 1 3
def ls3 (x : Int) : UV := (ls2 x).wr 3 131
def ls4 (a x : Int) : UV := (ls3 x).wr 0 a
def ls5 (a b x : Int) : UV := (ls4 a x).wr 1 b
def ls6 (a b c x : Int) : UV := (ls5 a b x).wr 7 c
def ls7 (a b c x : Int) : UV := (ls6 a b c x).wr 3 3
theorem ls1_lat (x : Int) : (ls1 x).lat = false := by
  have : (ls1 x).h 3 = 0 := rfl
  unfold UV.lat
  rw [this]
  decide +kernel
theorem ls2_e (x : Int) : ls2 x = { ls1 x with h := up1 (ls1 x).h 1 3, em := (ls1 x).em || (bt 3 2 && !bt ((ls1 x).h 1) 2) } := by
  show (if (ls1 x).lat then _ else _) = _
  rw [ls1_lat]
  rfl
theorem ls3_e (x : Int) : ls3 x = { ls2 x with h := up1 (ls2 x).h 3 131 } := rfl
theorem ls3_lat (x : Int) : (ls3 x).lat = true := by
  have : (ls3 x).h 3 = 131 := rfl
  unfold UV.lat
  rw [this]
  decide +kernel
theorem ls4_e (a x : Int) : ls4 a x = { ls3 x with d := up1 (ls3 x).d 0 a } := by
  show (if (ls3 x).lat then _ else _) = _
  rw [ls3_lat]
  rfl
theorem ls4_lat (a x : Int) : (ls4 a x).lat = true := by
  rw [ls4_e]
  exact ls3_lat x
theorem ls5_e (a b x : Int) : ls5 a b x = { ls4 a x with d := up1 (ls4 a x).d 1 b } := by
  show (if (ls4 a x).lat then _ else _) = _
  rw [ls4_lat]
  rfl
theorem ls6_e (a b c x : Int) : ls6 a b c x = { ls5 a b x with h := up1 (ls5 a b x).h 7 c } := rfl
theorem ls6_lat (a b c x : Int) : (ls6 a b c x).lat = true := by
  rw [ls6_e, ls5_e]
  exact ls4_lat a x
theorem ls6_0 (a b c x : Int) : (ls6 a b c x).rd 0 = (a, ls6 a b c x) := by
  show (if (ls6 a b c x).lat then ((ls6 a b c x).d 0, ls6 a b c x) else _) = _
  rw [ls6_lat, if_pos rfl]
  have : (ls6 a b c x).d 0 = a := by rw [ls6_e, ls5_e, ls4_e, ls3_e, ls2_e]; rfl
  rw [this]
theorem ls6_1 (a b c x : Int) : (ls6 a b c x).rd 1 = (b, ls6 a b c x) := by
  show ((if (ls6 a b c x).lat then (ls6 a b c x).d 1 else _), ls6 a b c x) = _
  rw [ls6_lat, if_pos rfl]
  have : (ls6 a b c x).d 1 = b := by rw [ls6_e, ls5_e, ls4_e, ls3_e, ls2_e]; rfl
  rw [this]
theorem ls6_7 (a b c x : Int) : (ls6 a b c x).rd 7 = (c, ls6 a b c x) := rfl
theorem ls6_3 (a b c x : Int) : (ls6 a b c x).rd 3 = (131, ls6 a b c x) := by
  show ((ls6 a b c x).h 3, ls6 a b c x) = _
  have : (ls6 a b c x).h 3 = 131 := by rw [ls6_e, ls5_e, ls4_e, ls3_e, ls2_e]; rfl
  rw [this]
theorem ls6_s (a b c x : Int) : (ls6 a b c x).s = [] := by rw [ls6_e, ls5_e, ls4_e, ls3_e, ls2_e]; rfl
theorem ls7_e (a b c x : Int) : ls7 a b c x = { ls6 a b c x with h := up1 (ls6 a b c x).h 3 3 } := rfl
theorem ls7_lat (a b c x : Int) : (ls7 a b c x).lat = false := by
  have : (ls7 a b c x).h 3 = 3 := rfl
  unfold UV.lat
  rw [this]
  decide +kernel
theorem ls7_1 (a b c x : Int) : (ls7 a b c x).rd 1 = (3, ls7 a b c x) := by
  show ((if (ls7 a b c x).lat then _ else (ls7 a b c x).h 1), ls7 a b c x) = _
  rw [ls7_lat, if_neg (by decide)]
  have : (ls7 a b c x).h 1 = 3 := by
    rw [ls7_e, ls6_e, ls5_e, ls4_e, ls3_e, ls2_e]
    rfl
  rw [this]
theorem ls7_0 (a b c x : Int) : ((ls7 a b c x).rd 0).1 = x := by
  have h : (ls7 a b c x).rd 0 = if (ls7 a b c x).lat then ((ls7 a b c x).d 0, ls7 a b c x) else (ls7 a b c x).nxt := rfl
  rw [h, ls7_lat, if_neg (by decide)]
  have : (ls7 a b c x).q = [x] := by rw [ls7_e, ls6_e, ls5_e, ls4_e, ls3_e, ls2_e]; rfl
  unfold UV.nxt
  rw [this]
theorem own_len {w : World} {u : Value} {l : List Int} (h : w.ownsRow 0 5 1 u l.length (bys l)) : ∃ ad c, u = .slice ad l.length c := own_form h
theorem l_Out {W w : World} {p : Nat} {v : UV} (h : LU W w p v) (hn : v.s.length ≤ 140737488355328) : Calls Try.prog 23 #[.pointer (some ⟨p, 0, none⟩)] w fun r w' => ∃ ad c, r = .returned (.slice ad v.s.length c) ∧ w'.ownsRow 0 5 1 (.slice ad v.s.length c) v.s.length (bys v.s) ∧ LU W w' p v ∧ Below w.heap.size w w' := by
  have H := h
  obtain ⟨F, h1, h2, h3⟩ := h
  refine (u_Out w F p v h1 hn).mono ?_
  rintro r w' ⟨u, rfl, ho, hb⟩
  obtain ⟨ad, c, rfl⟩ := own_form ho
  exact ⟨ad, c, rfl, ho, H.below hb, hb⟩
set_option maxHeartbeats 4000000 in
theorem w_PlatLatches (W : World) (a : Int) (ha : Byt a) (b : Int) (hb : Byt b) (c : Int) (hc : Byt c) (x : Int) (hx : Byt x) : Calls Try.prog 9 #[.int .u8 a, .int .u8 b, .int .u8 c, .int .u8 x] W fun e w' => e = .returned (.bool true) ∧ Below W.heap.size W w' := by
  have b3 : Byt 3 := by constructor <;> decide
  have b131 : Byt 131 := by constructor <;> decide
  have hN := l_NewU W W (.refl _ _)
  have HI : Hid (∀ w, LU W w W.heap.size (uv0) → Calls Try.prog 18 #[.pointer (some ⟨W.heap.size, 0, none⟩), .int .u8 x] w fun e w' => e = .returned (.tuple #[]) ∧ LU W w' W.heap.size (ls1 x)) := fun w h => l_In h x hx
  have W1 : Hid (∀ w, LU W w W.heap.size (ls1 x) → Calls Try.prog 16 #[.pointer (some ⟨W.heap.size, 0, none⟩), .int .u64 1, .int .u8 3] w fun e w' => e = .returned (.tuple #[]) ∧ LU W w' W.heap.size (ls2 x)) := fun w h => l_Write h 1 3 (by decide) (by decide) b3 (by show 0 < _; decide)
  have W2 : Hid (∀ w, LU W w W.heap.size (ls2 x) → Calls Try.prog 16 #[.pointer (some ⟨W.heap.size, 0, none⟩), .int .u64 3, .int .u8 131] w fun e w' => e = .returned (.tuple #[]) ∧ LU W w' W.heap.size (ls3 x)) := fun w h => l_Write h 3 131 (by decide) (by decide) b131 (by rw [ls2_e]; show 0 < _; decide)
  have W3 : Hid (∀ w, LU W w W.heap.size (ls3 x) → Calls Try.prog 16 #[.pointer (some ⟨W.heap.size, 0, none⟩), .int .u64 0, .int .u8 a] w fun e w' => e = .returned (.tuple #[]) ∧ LU W w' W.heap.size (ls4 a x)) := fun w h => l_Write h 0 a (by decide) (by decide) ha (by rw [ls3_e, ls2_e]; show 0 < _; decide)
  have W4 : Hid (∀ w, LU W w W.heap.size (ls4 a x) → Calls Try.prog 16 #[.pointer (some ⟨W.heap.size, 0, none⟩), .int .u64 1, .int .u8 b] w fun e w' => e = .returned (.tuple #[]) ∧ LU W w' W.heap.size (ls5 a b x)) := fun w h => l_Write h 1 b (by decide) (by decide) hb (by rw [ls4_e, ls3_e, ls2_e]; show 0 < _; decide)
  have W5 : Hid (∀ w, LU W w W.heap.size (ls5 a b x) → Calls Try.prog 16 #[.pointer (some ⟨W.heap.size, 0, none⟩), .int .u64 7, .int .u8 c] w fun e w' => e = .returned (.tuple #[]) ∧ LU W w' W.heap.size (ls6 a b c x)) := fun w h => l_Write h 7 c (by decide) (by decide) hc (by rw [ls5_e, ls4_e, ls3_e, ls2_e]; show 0 < _; decide)
  have R0 : Hid (∀ w, LU W w W.heap.size (ls6 a b c x) → Calls Try.prog 14 #[.pointer (some ⟨W.heap.size, 0, none⟩), .int .u64 0] w fun e w' => e = .returned (.int .u8 a) ∧ LU W w' W.heap.size (ls6 a b c x)) := fun w h => by have := l_Read h 0 (by decide) (by decide); rw [ls6_0] at this; exact this
  have R1 : Hid (∀ w, LU W w W.heap.size (ls6 a b c x) → Calls Try.prog 14 #[.pointer (some ⟨W.heap.size, 0, none⟩), .int .u64 1] w fun e w' => e = .returned (.int .u8 b) ∧ LU W w' W.heap.size (ls6 a b c x)) := fun w h => by have := l_Read h 1 (by decide) (by decide); rw [ls6_1] at this; exact this
  have R7 : Hid (∀ w, LU W w W.heap.size (ls6 a b c x) → Calls Try.prog 14 #[.pointer (some ⟨W.heap.size, 0, none⟩), .int .u64 7] w fun e w' => e = .returned (.int .u8 c) ∧ LU W w' W.heap.size (ls6 a b c x)) := fun w h => by have := l_Read h 7 (by decide) (by decide); rw [ls6_7] at this; exact this
  have R3 : Hid (∀ w, LU W w W.heap.size (ls6 a b c x) → Calls Try.prog 14 #[.pointer (some ⟨W.heap.size, 0, none⟩), .int .u64 3] w fun e w' => e = .returned (.int .u8 131) ∧ LU W w' W.heap.size (ls6 a b c x)) := fun w h => by have := l_Read h 3 (by decide) (by decide); rw [ls6_3] at this; exact this
  have W6 : Hid (∀ w, LU W w W.heap.size (ls6 a b c x) → Calls Try.prog 16 #[.pointer (some ⟨W.heap.size, 0, none⟩), .int .u64 3, .int .u8 3] w fun e w' => e = .returned (.tuple #[]) ∧ LU W w' W.heap.size (ls7 a b c x)) := fun w h => l_Write h 3 3 (by decide) (by decide) b3 (by rw [ls6_s]; decide)
  have T1 : Hid (∀ w, LU W w W.heap.size (ls7 a b c x) → Calls Try.prog 14 #[.pointer (some ⟨W.heap.size, 0, none⟩), .int .u64 1] w fun e w' => e = .returned (.int .u8 3) ∧ LU W w' W.heap.size (ls7 a b c x)) := fun w h => by have := l_Read h 1 (by decide) (by decide); rw [ls7_1] at this; exact this
  have T0 : Hid (∀ w, LU W w W.heap.size (ls7 a b c x) → Calls Try.prog 14 #[.pointer (some ⟨W.heap.size, 0, none⟩), .int .u64 0] w fun e w' => e = .returned (.int .u8 x) ∧ LU W w' W.heap.size (((ls7 a b c x).rd 0).2)) := fun w h => by have := l_Read h 0 (by decide) (by decide); rw [ls7_0] at this; exact this
  have T6 : Hid (∀ w, LU W w W.heap.size (((ls7 a b c x).rd 0).2) → Calls Try.prog 14 #[.pointer (some ⟨W.heap.size, 0, none⟩), .int .u64 6] w fun e w' => e = .returned (.int .u8 176) ∧ LU W w' W.heap.size (((ls7 a b c x).rd 0).2)) := fun w h => l_Read h 6 (by decide) (by decide)
  have RO : Hid (∀ w, LU W w W.heap.size (ls6 a b c x) → Calls Try.prog 23 #[.pointer (some ⟨W.heap.size, 0, none⟩)] w fun e w' => ∃ ad c', e = .returned (.slice ad 0 c') ∧ LU W w' W.heap.size (ls6 a b c x)) := fun w h => by
    have := l_Out h (by rw [ls6_s]; decide)
    rw [ls6_s] at this
    exact this.mono fun e w' ⟨ad, c', h1, _, h3, _⟩ => ⟨ad, c', h1, h3⟩
  have hA := l_awake
  obtain ⟨a0, a1⟩ := ha
  obtain ⟨b0, b1⟩ := hb
  obtain ⟨c0, c1⟩ := hc
  obtain ⟨x0, x1⟩ := hx
  generalize ((ls7 a b c x).rd 0).2 = s8 at *
  generalize ls7 a b c x = s7 at *
  generalize ls6 a b c x = s6 at *
  generalize ls5 a b x = s5 at *
  generalize ls4 a x = s4 at *
  generalize ls3 x = s3 at *
  generalize ls2 x = s2 at *
  generalize ls1 x = s1 at *
  clear b3 b131
  go_enter Try.func9, Try.ntmps9
  go_wp2_with (first
    | (go_at_call 12; refine hN.mono ?_; rintro e w1 ⟨rfl, hl, -⟩; have HU := hid hl; clear hl hN)
    | (go_at_call 18; (with_reducible refine (HI.out _ HU.out).mono ?_); rintro e w' ⟨rfl, hl⟩; clear HU; have HU := hid hl; clear hl HI)
    | (go_at_call 16; (with_reducible refine (W1.out _ HU.out).mono ?_); rintro e w' ⟨rfl, hl⟩; clear HU; have HU := hid hl; clear hl W1)
    | (go_at_call 16; (with_reducible refine (W2.out _ HU.out).mono ?_); rintro e w' ⟨rfl, hl⟩; clear HU; have HU := hid hl; clear hl W2)
    | (go_at_call 16; (with_reducible refine (W3.out _ HU.out).mono ?_); rintro e w' ⟨rfl, hl⟩; clear HU; have HU := hid hl; clear hl W3)
    | (go_at_call 16; (with_reducible refine (W4.out _ HU.out).mono ?_); rintro e w' ⟨rfl, hl⟩; clear HU; have HU := hid hl; clear hl W4)
    | (go_at_call 16; (with_reducible refine (W5.out _ HU.out).mono ?_); rintro e w' ⟨rfl, hl⟩; clear HU; have HU := hid hl; clear hl W5)
    | (go_at_call 14; (with_reducible refine (R0.out _ HU.out).mono ?_); rintro e w' ⟨rfl, hl⟩; clear HU; have HU := hid hl; clear hl R0)
    | (go_at_call 14; (with_reducible refine (R1.out _ HU.out).mono ?_); rintro e w' ⟨rfl, hl⟩; clear HU; have HU := hid hl; clear hl R1)
    | (go_at_call 14; (with_reducible refine (R7.out _ HU.out).mono ?_); rintro e w' ⟨rfl, hl⟩; clear HU; have HU := hid hl; clear hl R7)
    | (go_at_call 14; (with_reducible refine (R3.out _ HU.out).mono ?_); rintro e w' ⟨rfl, hl⟩; clear HU; have HU := hid hl; clear hl R3)
    | (go_at_call 16; (with_reducible refine (W6.out _ HU.out).mono ?_); rintro e w' ⟨rfl, hl⟩; clear HU; have HU := hid hl; clear hl W6)
    | (go_at_call 14; (with_reducible refine (T1.out _ HU.out).mono ?_); rintro e w' ⟨rfl, hl⟩; clear HU; have HU := hid hl; clear hl T1)
    | (go_at_call 14; (with_reducible refine (T0.out _ HU.out).mono ?_); rintro e w' ⟨rfl, hl⟩; clear HU; have HU := hid hl; clear hl T0)
    | (go_at_call 14; (with_reducible refine (T6.out _ HU.out).mono ?_); rintro e w' ⟨rfl, hl⟩; clear HU; have HU := hid hl; clear hl T6)
    | (go_at_call 23; refine (RO.out _ HU.out).mono ?_; rintro e w' ⟨ad, c', rfl, hl⟩; clear HU; have HU := hid hl; clear hl RO)
    | (go_at_call 24; refine (hA _).mono ?_; rintro e w4 ⟨rfl, hb⟩; have HB4 := hid hb; clear hb hA))
  go_ret
  exact ⟨rfl, HU.out.bel.trans (HB4.out.mono HU.out.bel.size)⟩
end Go.Proofs.Ytmpldaenakenlaa
namespace Go.Proofs.Ytmpldaenakenlaa
open Go.ChangeShapes Go.WideShapes Go.ChangeAt Go.RowKit Go.Deep
set_option linter.unusedVariables false

theorem cells_i8 : Try.prog.cellsOf 3 = 1 := by kernel_rfl
theorem cells_u8 : Try.prog.cellsOf 29 = 1 := by kernel_rfl
theorem addr_two (a : Addr) (i j : Nat) : (a.add i).add j = a.add (i + j) := by
  unfold Addr.add
  by_cases hi : i = 0
  · subst hi; simp
  · by_cases hj : j = 0
    · subst hj; simp
    · have : ¬ i + j = 0 := by omega
      simp [hi, hj, Nat.add_assoc]
theorem fld8 {T k : Nat} {t : TypeId} {o : Nat} (h : ((Try.prog.fieldsOf T)[k]?).map (fun f => (f.type, f.offset)) = some (t, o)) : ∃ f, (Try.prog.fieldsOf T)[k]? = some f ∧ f.type = t ∧ f.offset = o := by
  cases hq : (Try.prog.fieldsOf T)[k]? with
  | none => rw [hq] at h; cases h
  | some f => rw [hq] at h; simp at h; exact ⟨f, rfl, h.1, h.2⟩
structure PopV where
  kd : Int
  sz : Int
  sr : Int
  of : Int
  v : Int
def PopV.cs (x : PopV) : List Value := [.int .i64 x.kd, .int .i64 x.sz, .int .i64 x.sr, .int .u64 x.of, .int .u64 x.v]
structure PopB (x : PopV) : Prop where
  kd : -9223372036854775808 ≤ x.kd ∧ x.kd ≤ 9223372036854775807
  sz : -9223372036854775808 ≤ x.sz ∧ x.sz ≤ 9223372036854775807
  sr : -9223372036854775808 ≤ x.sr ∧ x.sr ≤ 9223372036854775807
  of : 0 ≤ x.of ∧ x.of < 18446744073709551616
  v : 0 ≤ x.v ∧ x.v < 18446744073709551616
structure Pc (w : World) (ad : Option Addr) (la cap ab ao : Nat) (X : Nat → PopV) : Prop where
  len : la ≤ cap
  cap : cap ≤ 9223372036854775807
  at0 : 0 < la → ad = some ⟨ab, ao, none⟩ ∧ ab < w.heap.size
  cell : ∀ i, i < la → ∀ j, j < 5 → w.cell? ⟨ab, ao + i * 5 + j, none⟩ = (X i).cs[j]?
  num : ∀ i, i < la → PopB (X i)
theorem Pc.below {w w' : World} {ad : Option Addr} {la cap ab ao : Nat} {X : Nat → PopV} (h : Pc w ad la cap ab ao X) (hb : Below w.heap.size w w') : Pc w' ad la cap ab ao X :=
  ⟨h.len, h.cap, fun q => ⟨(h.at0 q).1, Nat.lt_of_lt_of_le (h.at0 q).2 hb.size⟩, fun i hi j hj => by
    have hlt := (h.at0 (by omega)).2
    have e : ∀ o, w'.cell? ⟨ab, o, none⟩ = w.cell? ⟨ab, o, none⟩ := fun o => World.cell?_of_block (w := w) (hb.block _ hlt)
    rw [e]; exact h.cell i hi j hj, h.num⟩
theorem under_pop : Try.prog.underlying 31 = some (.struct (Try.prog.fieldsOf 31)) := by kernel_rfl
theorem cells_pop : Try.prog.cellsOf 31 = 5 := by kernel_rfl
theorem u_sPOp : Try.prog.underlying 22 = some (.slice 31) := by kernel_rfl
set_option maxRecDepth 100000 in
theorem open_pop {H : Type} {enc : TypeId × Value → H} {W : World} {base fuel : Nat} {cs : List Value} {x : DataW H × List MemPlace} (h : DataW.trod enc Try.prog W base (fun _ => true) true fuel 31 cs = some x) :
    ∃ X : PopV, cs = X.cs ∧ PopB X := by
  obtain ⟨xs, n, _, rfl, hcl, hlen, hfs⟩ := DataW.trod_struct under_pop h
  have hl : xs.length = 5 := by rw [hlen]; kernel_rfl
  rw [cells_pop] at hcl
  obtain ⟨f0, e0, t0, o0⟩ := fld8 (T := 31) (k := 0) (t := 3) (o := 0) (by kernel_rfl)
  have q0 := hfs 0 f0 e0
  rw [t0, o0, cells_i8, List.getElem?_eq_getElem (by omega)] at q0
  obtain ⟨z0, r0, _, w0⟩ := DataW.trod_int Try.underlying3 q0
  obtain ⟨f1, e1, t1, o1⟩ := fld8 (T := 31) (k := 1) (t := 3) (o := 1) (by kernel_rfl)
  have q1 := hfs 1 f1 e1
  rw [t1, o1, cells_i8, List.getElem?_eq_getElem (by omega)] at q1
  obtain ⟨z1, r1, _, w1⟩ := DataW.trod_int Try.underlying3 q1
  obtain ⟨f2, e2, t2, o2⟩ := fld8 (T := 31) (k := 2) (t := 3) (o := 2) (by kernel_rfl)
  have q2 := hfs 2 f2 e2
  rw [t2, o2, cells_i8, List.getElem?_eq_getElem (by omega)] at q2
  obtain ⟨z2, r2, _, w2⟩ := DataW.trod_int Try.underlying3 q2
  obtain ⟨f3, e3, t3, o3⟩ := fld8 (T := 31) (k := 3) (t := 29) (o := 3) (by kernel_rfl)
  have q3 := hfs 3 f3 e3
  rw [t3, o3, cells_u8, List.getElem?_eq_getElem (by omega)] at q3
  obtain ⟨z3, r3, _, w3⟩ := DataW.trod_int Try.underlying29 q3
  obtain ⟨f4, e4, t4, o4⟩ := fld8 (T := 31) (k := 4) (t := 29) (o := 4) (by kernel_rfl)
  have q4 := hfs 4 f4 e4
  rw [t4, o4, cells_u8, List.getElem?_eq_getElem (by omega)] at q4
  obtain ⟨z4, r4, _, w4⟩ := DataW.trod_int Try.underlying29 q4
  obtain ⟨c0, c1, c2, c3, c4, rfl⟩ : ∃ c0 c1 c2 c3 c4, cs = [c0, c1, c2, c3, c4] := by
    match cs, hcl with
    | [c0, c1, c2, c3, c4], _ => exact ⟨c0, c1, c2, c3, c4, rfl⟩
  simp at r0 r1 r2 r3 r4
  subst r0 r1 r2 r3 r4
  have b3 := bounds_u64 w3
  have b4 := bounds_u64 w4
  exact ⟨⟨z0, z1, z2, z3, z4⟩, rfl, ⟨bounds_i64 w0, bounds_i64 w1, bounds_i64 w2, ⟨b3.1, by show z3 < _; omega⟩, ⟨b4.1, by show z4 < _; omega⟩⟩⟩
set_option maxRecDepth 100000 in
/-- a script, as it stands -/
theorem open_pops {H : Type} {enc : TypeId × Value → H} {W : World} {base : Nat} {r : Reach} {b : Nat} {v : Value} {d : DataW H} {p : List MemPlace}
    (hv : Value.okWide Try.prog W r b 22 v) (h : DataW.Trod enc Try.prog W base (fun _ => true) true 22 v d p) (hlt : ∀ x ∈ p, x.block < W.heap.size) :
    ∃ (ad : Option Addr) (la cap ab ao : Nat) (X : Nat → PopV), v = .slice ad la cap ∧ Pc W ad la cap ab ao X := by
  obtain ⟨a0, len, cap, rfl⟩ := okWide_slice u_sPOp hv
  obtain ⟨fuel, hf⟩ := h
  rcases open_slice u_sPOp hf with ⟨hcs, hx⟩ | ⟨a, len', cap', m, n, D, Pl, hcs, _, hl, hm, hmm, hx, hel⟩
  · simp [Value.cells] at hcs
    obtain ⟨rfl, rfl, rfl⟩ := hcs
    exact ⟨none, 0, 0, 0, 0, fun _ => ⟨0, 0, 0, 0, 0⟩, rfl, ⟨Nat.le_refl _, by decide, fun q => absurd q (by decide), fun i hi => absurd hi (Nat.not_lt_zero i), fun i hi => absurd hi (Nat.not_lt_zero i)⟩⟩
  · simp [Value.cells] at hcs
    obtain ⟨rfl, rfl, rfl⟩ := hcs
    simp only [if_true] at hmm
    have each : ∀ i, ∃ X : PopV, i < len → PopB X ∧ ∀ j, j < 5 → W.cell? (a.add (i * 5 + j)) = X.cs[j]? := fun i => by
      rcases Nat.lt_or_ge i len with hi | hi
      · obtain ⟨cs', h1, h2⟩ := hel i (by omega)
        obtain ⟨X, rfl, b0⟩ := open_pop h2
        rw [cells_pop] at h1
        obtain ⟨_, hlen, hcell⟩ := World.cells?_some h1
        refine ⟨X, fun _ => ⟨b0, fun j hj => ?_⟩⟩
        have := hcell j hj
        rw [addr_two] at this
        exact this
      · exact ⟨⟨0, 0, 0, 0, 0⟩, fun q => by omega⟩
    obtain ⟨X, hX⟩ := Classical.axiomOfChoice each
    clear each
    have hbl : ∀ h0 : 0 < len, a.spot = none ∧ a.block < W.heap.size := fun h0 => by
      have k0 := (hX 0 h0).2 0 (by decide)
      refine ⟨by simpa [Addr.add] using World.cell?_spot k0, ?_⟩
      obtain ⟨cs', h1, _⟩ := hel 0 (by omega)
      rw [cells_pop] at h1
      have := World.cells?_block h1 (by decide)
      simpa [Addr.add] using this
    obtain ⟨ab, ao, asp⟩ := a
    refine ⟨some ⟨ab, ao, asp⟩, len, cap, ab, ao, X, rfl, ⟨hl, by simpa [maxLen] using hm, fun h0 => ?_, fun i hi j hj => ?_, fun i hi => (hX i hi).1⟩⟩
    · obtain ⟨q1, q2⟩ := hbl h0
      obtain rfl : asp = none := q1
      exact ⟨rfl, q2⟩
    · obtain ⟨q1, q2⟩ := hbl (by omega)
      obtain rfl : asp = none := q1
      have k := (hX i hi).2 j hj
      rw [C.addr_add, ← Nat.add_assoc] at k
      exact k
theorem bytes_pop : Try.prog.bytesOf 31 = 40 := by kernel_rfl
set_option maxRecDepth 100000 in
theorem pops_len {H : Type} {enc : TypeId × Value → H} {W : World} {base : Nat} {ad : Option Addr} {la cap : Nat} {d : DataW H} {p : List MemPlace} (h : DataW.Trod enc Try.prog W base (fun _ => true) true 22 (.slice ad la cap) d p) (hw : ∀ n ∈ d.weights Try.prog 22, n ≤ reachBytes) : la ≤ 8796093022208 := by
  obtain ⟨fuel, hf⟩ := h
  rcases open_slice u_sPOp hf with ⟨hcs, hx⟩ | ⟨a, len', cap', m, n, D, Pl, hcs, _, hl, hm, hmm, hx, hel⟩
  · simp [Value.cells] at hcs
    obtain ⟨rfl, rfl, rfl⟩ := hcs
    exact Nat.zero_le _
  · simp [Value.cells] at hcs
    obtain ⟨rfl, rfl, rfl⟩ := hcs
    simp only [Prod.mk.injEq] at hx
    obtain ⟨rfl, rfl⟩ := hx
    have h2 := hw ((((List.range la).map D).length + ((List.range (m - la)).map fun j => D (la + j)).length) * Try.prog.bytesOf 31) (by simp [DataW.weights])
    rw [bytes_pop] at h2
    simp [reachBytes] at h2
    omega
/-- a list of numbers of a kind, as it stands -/
structure Nu (k : IntKind) (B : Int → Prop) (w : World) (ad : Option Addr) (la cap ab ao : Nat) (A : Nat → Int) : Prop where
  len : la ≤ cap
  cap : cap ≤ 9223372036854775807
  at0 : 0 < la → ad = some ⟨ab, ao, none⟩ ∧ ab < w.heap.size
  cell : ∀ i, i < la → w.cell? ⟨ab, ao + i, none⟩ = some (.int k (A i))
  num : ∀ i, B (A i)
theorem Nu.below {k : IntKind} {B : Int → Prop} {w w' : World} {ad : Option Addr} {la cap ab ao : Nat} {A : Nat → Int} (h : Nu k B w ad la cap ab ao A) (hb : Below w.heap.size w w') : Nu k B w' ad la cap ab ao A :=
  ⟨h.len, h.cap, fun q => ⟨(h.at0 q).1, Nat.lt_of_lt_of_le (h.at0 q).2 hb.size⟩, fun i hi => by
    have hlt := (h.at0 (by omega)).2
    rw [World.cell?_of_block (w := w) (hb.block _ hlt)]; exact h.cell i hi, h.num⟩
def Bi (x : Int) : Prop := -9223372036854775808 ≤ x ∧ x ≤ 9223372036854775807
def Bu (x : Int) : Prop := 0 ≤ x ∧ x < 18446744073709551616
def Bb (x : Int) : Prop := 0 ≤ x ∧ x < 256
theorem cells_ints' : Try.prog.cellsOf 3 = 1 := by kernel_rfl
set_option maxRecDepth 100000 in
theorem open_ints {H : Type} {enc : TypeId × Value → H} {W : World} {base : Nat} {r : Reach} {b : Nat} {v : Value} {d : DataW H} {p : List MemPlace}
    (hv : Value.okWide Try.prog W r b 62 v) (h : DataW.Trod enc Try.prog W base (fun _ => true) true 62 v d p) (hlt : ∀ x ∈ p, x.block < W.heap.size) :
    ∃ (ad : Option Addr) (la cap ab ao : Nat) (A : Nat → Int), v = .slice ad la cap ∧ Nu .i64 Bi W ad la cap ab ao A := by
  obtain ⟨ad, la, cap, ar, aa, rfl, hl, hm, hw, hc⟩ := C.open_nums Try.underlying62 Try.underlying3 cells_ints' hv h hlt
  obtain ⟨ab, ao, asp⟩ := aa
  have hsp : 0 < la → asp = none := fun q => by
    have := (hc q).2.2 0 q
    simpa [Addr.add] using World.cell?_spot this
  refine ⟨ad, la, cap, ab, ao, ar, rfl, ⟨hl, hm, fun q => ?_, fun i hi => ?_, fun i => ?_⟩⟩
  · obtain rfl := hsp q
    exact ⟨(hc q).1, (hc q).2.1⟩
  · obtain rfl := hsp (by omega)
    have := (hc (by omega)).2.2 i hi
    rwa [C.addr_add] at this
  · rcases hw i with q | q
    · rw [q]; exact ⟨by decide, by decide⟩
    · exact bounds_i64 q
theorem u_ints9 : Try.prog.underlying 62 = some (.slice 3) := by kernel_rfl
theorem bytes_ints9 : Try.prog.bytesOf 3 = 8 := by kernel_rfl
set_option maxRecDepth 100000 in
theorem ints_len {H : Type} {enc : TypeId × Value → H} {W : World} {base : Nat} {ad : Option Addr} {la cap : Nat} {d : DataW H} {p : List MemPlace} (h : DataW.Trod enc Try.prog W base (fun _ => true) true 62 (.slice ad la cap) d p) (hw : ∀ n ∈ d.weights Try.prog 62, n ≤ reachBytes) : la ≤ 17592186044416 := by
  obtain ⟨fuel, hf⟩ := h
  rcases open_slice u_ints9 hf with ⟨hcs, hx⟩ | ⟨a, len', cap', m, n, D, Pl, hcs, _, hl, hm, hmm, hx, hel⟩
  · simp [Value.cells] at hcs
    obtain ⟨rfl, rfl, rfl⟩ := hcs
    exact Nat.zero_le _
  · simp [Value.cells] at hcs
    obtain ⟨rfl, rfl, rfl⟩ := hcs
    simp only [Prod.mk.injEq] at hx
    obtain ⟨rfl, rfl⟩ := hx
    have h2 := hw ((((List.range la).map D).length + ((List.range (m - la)).map fun j => D (la + j)).length) * Try.prog.bytesOf 3) (by simp [DataW.weights])
    rw [bytes_ints9] at h2
    simp [reachBytes] at h2
    omega
theorem cells_u64s' : Try.prog.cellsOf 29 = 1 := by kernel_rfl
set_option maxRecDepth 100000 in
theorem open_u64s {H : Type} {enc : TypeId × Value → H} {W : World} {base : Nat} {r : Reach} {b : Nat} {v : Value} {d : DataW H} {p : List MemPlace}
    (hv : Value.okWide Try.prog W r b 40 v) (h : DataW.Trod enc Try.prog W base (fun _ => true) true 40 v d p) (hlt : ∀ x ∈ p, x.block < W.heap.size) :
    ∃ (ad : Option Addr) (la cap ab ao : Nat) (A : Nat → Int), v = .slice ad la cap ∧ Nu .u64 Bu W ad la cap ab ao A := by
  obtain ⟨ad, la, cap, ar, aa, rfl, hl, hm, hw, hc⟩ := C.open_nums Try.underlying40 Try.underlying29 cells_u64s' hv h hlt
  obtain ⟨ab, ao, asp⟩ := aa
  have hsp : 0 < la → asp = none := fun q => by
    have := (hc q).2.2 0 q
    simpa [Addr.add] using World.cell?_spot this
  refine ⟨ad, la, cap, ab, ao, ar, rfl, ⟨hl, hm, fun q => ?_, fun i hi => ?_, fun i => ?_⟩⟩
  · obtain rfl := hsp q
    exact ⟨(hc q).1, (hc q).2.1⟩
  · obtain rfl := hsp (by omega)
    have := (hc (by omega)).2.2 i hi
    rwa [C.addr_add] at this
  · rcases hw i with q | q
    · rw [q]; exact ⟨by decide, by decide⟩
    · have := bounds_u64 q; exact ⟨this.1, by omega⟩
theorem u_u64s9 : Try.prog.underlying 40 = some (.slice 29) := by kernel_rfl
theorem bytes_u64s9 : Try.prog.bytesOf 29 = 8 := by kernel_rfl
set_option maxRecDepth 100000 in
theorem u64s_len {H : Type} {enc : TypeId × Value → H} {W : World} {base : Nat} {ad : Option Addr} {la cap : Nat} {d : DataW H} {p : List MemPlace} (h : DataW.Trod enc Try.prog W base (fun _ => true) true 40 (.slice ad la cap) d p) (hw : ∀ n ∈ d.weights Try.prog 40, n ≤ reachBytes) : la ≤ 17592186044416 := by
  obtain ⟨fuel, hf⟩ := h
  rcases open_slice u_u64s9 hf with ⟨hcs, hx⟩ | ⟨a, len', cap', m, n, D, Pl, hcs, _, hl, hm, hmm, hx, hel⟩
  · simp [Value.cells] at hcs
    obtain ⟨rfl, rfl, rfl⟩ := hcs
    exact Nat.zero_le _
  · simp [Value.cells] at hcs
    obtain ⟨rfl, rfl, rfl⟩ := hcs
    simp only [Prod.mk.injEq] at hx
    obtain ⟨rfl, rfl⟩ := hx
    have h2 := hw ((((List.range la).map D).length + ((List.range (m - la)).map fun j => D (la + j)).length) * Try.prog.bytesOf 29) (by simp [DataW.weights])
    rw [bytes_u64s9] at h2
    simp [reachBytes] at h2
    omega
theorem cells_byts' : Try.prog.cellsOf 5 = 1 := by kernel_rfl
set_option maxRecDepth 100000 in
theorem open_byts {H : Type} {enc : TypeId × Value → H} {W : World} {base : Nat} {r : Reach} {b : Nat} {v : Value} {d : DataW H} {p : List MemPlace}
    (hv : Value.okWide Try.prog W r b 26 v) (h : DataW.Trod enc Try.prog W base (fun _ => true) true 26 v d p) (hlt : ∀ x ∈ p, x.block < W.heap.size) :
    ∃ (ad : Option Addr) (la cap ab ao : Nat) (A : Nat → Int), v = .slice ad la cap ∧ Nu .u8 Bb W ad la cap ab ao A := by
  obtain ⟨ad, la, cap, ar, aa, rfl, hl, hm, hw, hc⟩ := C.open_nums Try.underlying26 Try.underlying5 cells_byts' hv h hlt
  obtain ⟨ab, ao, asp⟩ := aa
  have hsp : 0 < la → asp = none := fun q => by
    have := (hc q).2.2 0 q
    simpa [Addr.add] using World.cell?_spot this
  refine ⟨ad, la, cap, ab, ao, ar, rfl, ⟨hl, hm, fun q => ?_, fun i hi => ?_, fun i => ?_⟩⟩
  · obtain rfl := hsp q
    exact ⟨(hc q).1, (hc q).2.1⟩
  · obtain rfl := hsp (by omega)
    have := (hc (by omega)).2.2 i hi
    rwa [C.addr_add] at this
  · rcases hw i with q | q
    · rw [q]; exact ⟨by decide, by decide⟩
    · have := bounds_u8 q; exact ⟨this.1, by omega⟩
theorem u_byts9 : Try.prog.underlying 26 = some (.slice 5) := by kernel_rfl
theorem bytes_byts9 : Try.prog.bytesOf 5 = 1 := by kernel_rfl
set_option maxRecDepth 100000 in
theorem byts_len {H : Type} {enc : TypeId × Value → H} {W : World} {base : Nat} {ad : Option Addr} {la cap : Nat} {d : DataW H} {p : List MemPlace} (h : DataW.Trod enc Try.prog W base (fun _ => true) true 26 (.slice ad la cap) d p) (hw : ∀ n ∈ d.weights Try.prog 26, n ≤ reachBytes) : la ≤ 140737488351232 := by
  obtain ⟨fuel, hf⟩ := h
  rcases open_slice u_byts9 hf with ⟨hcs, hx⟩ | ⟨a, len', cap', m, n, D, Pl, hcs, _, hl, hm, hmm, hx, hel⟩
  · simp [Value.cells] at hcs
    obtain ⟨rfl, rfl, rfl⟩ := hcs
    exact Nat.zero_le _
  · simp [Value.cells] at hcs
    obtain ⟨rfl, rfl, rfl⟩ := hcs
    simp only [Prod.mk.injEq] at hx
    obtain ⟨rfl, rfl⟩ := hx
    have h2 := hw ((((List.range la).map D).length + ((List.range (m - la)).map fun j => D (la + j)).length) * Try.prog.bytesOf 5) (by simp [DataW.weights])
    rw [bytes_byts9] at h2
    simp [reachBytes] at h2
    omega
end Go.Proofs.Ytmpldaenakenlaa
namespace Go.Proofs.Ytmpldaenakenlaa
open Go.RowKit
open C (Only hid Still ret_bool ret_int)
set_option linter.unusedVariables false
set_option maxRecDepth 100000

def Wq (w : World) (u : Value) (l : List Int) : Prop := (u = .slice none 0 0 ∧ l = []) ∨ ∃ g off cap cur, u = .slice (some ⟨g, off, none⟩) l.length cap ∧ w.heap[g]? = some (.cells cur 5 (0, 0)) ∧ l.length ≤ cap ∧ off + cap ≤ cur.size ∧ ∀ j x, l[j]? = some x → cur[off + j]? = some (.int .u8 x)
theorem Wq.form {w : World} {u : Value} {l : List Int} (h : Wq w u l) : ∃ ad c, u = .slice ad l.length c := by
  rcases h with ⟨h1, h2⟩ | ⟨g, off, cap, cur, h1, _⟩
  · exact ⟨none, 0, by rw [h1, h2]; rfl⟩
  · exact ⟨_, cap, h1⟩
theorem Wq.only {w w' : World} {u : Value} {l : List Int} (h : Wq w u l) {T : Nat → Prop} (ho : Only T w w') (hd : ∀ k, Ug u k → ¬ T k) : Wq w' u l := by
  rcases h with h | ⟨g, off, cap, cur, h1, h2, h3⟩
  · exact .inl h
  · exact .inr ⟨g, off, cap, cur, h1, ho.old h2 (hd g (by rw [h1]; rfl)), h3⟩
theorem Wq.lt {w : World} {u : Value} {l : List Int} (h : Wq w u l) {k : Nat} (hk : Ug u k) : k < w.heap.size := by
  rcases h with ⟨h1, h2⟩ | ⟨g, off, cap, cur, h1, h2, h3⟩
  · rw [h1] at hk; cases hk
  · rw [h1] at hk
    have : g = k := by simpa [Ug, Value.ownBlock] using hk
    exact this ▸ lt_of_block h2
/-- append of one byte, wherever the list lies in its block -/
theorem wq_run (w : World) (u : Value) (l : List Int) (h : Wq w u l) (x : Int) (ad : Addr) (hx : ∀ j v, [Value.int .u8 x][j]? = some v → w.cell? (ad.add j) = some v) (hl : l.length ≤ 16) (ty : TypeId) (hxa : ∀ k, Ug u k → ad.block ≠ k) :
    ∃ u' w', (Builtin.append_ #[26, 26] ty #[u, .slice (some ad) 1 1]).run Try.prog w = .ok u' w' ∧ Wq w' u' (l ++ [x]) ∧ Only (Ug u) w w' ∧ ∀ k, Ug u' k → Ug u k ∨ w.heap.size ≤ k := by
  obtain ⟨i0, hi0, hz0, hz1, hz2⟩ := info_parts info_u8
  rcases h with ⟨rfl, rfl⟩ | ⟨g, off, cap, cur, rfl, hg, hc, hs, hcell⟩
  · obtain ⟨u', w', hr, h2, h3, h4⟩ := run_append_own (P := Try.prog) w w.heap.size 26 ty 5 i0 (.int .u8 0) 1 1 u_su8 hi0 hz0 hz1 hz2 rfl (by decide) (.slice none 0 0) 0 [] ⟨rfl, .inl ⟨rfl, rfl⟩⟩ ad 1 1 [.int .u8 x] rfl hx (by intro v hv; simp at hv; subst hv; rfl) (by decide) (by decide) (Nat.le_refl _)
    refine ⟨u', w', hr, ?_, grown_ug h3, fun k hk => .inr (h2.lt k hk).1⟩
    rcases h2.2 with ⟨_, z⟩ | ⟨g, cap, cur, e1, e2, e3, e4, e5, e6, e7⟩
    · omega
    · refine .inr ⟨g, 0, cap, cur, e1, e3, e4, by omega, fun j y hy => ?_⟩
      have : (cur.toList.take ((0 + 1) * 1))[j]? = some (.int .u8 y) := by
        rw [e7]
        rcases j with _ | j
        · simp at hy ⊢; exact hy
        · simp at hy
      have hj : j < 1 := by
        rcases j with _ | j
        · omega
        · simp at hy
      rw [List.getElem?_take_of_lt (by omega)] at this
      simpa using this
  · by_cases hroom : l.length + 1 ≤ cap
    · have hcl : ∀ j, j < cur.size → (w.cell? ⟨g, j, none⟩).isSome = true ∧ w.frozen? ⟨g, j, none⟩ = false := fun j hj => ⟨by rw [cell_of_row w g j _ _ _ hg]; simp [hj], frozen_of_row w g j _ _ hg⟩
      have hr := run_append_room_cells (P := Try.prog) w 26 ty 5 i0 u_su8 hi0 g off l.length cap ad 1 1 [.int .u8 x] (by rw [hz1]; rfl) hx (by intro v hv; simp at hv; subst hv; rfl) hroom (fun j hj => by rw [hz1]; simp at hj; exact (hcl _ (by omega)).1) (fun j hj => by rw [hz1]; simp at hj; exact (hcl _ (by omega)).2)
      rw [hz1, Nat.mul_one] at hr
      refine ⟨_, _, hr, .inr ⟨g, off, cap, cur.setIfInBounds (off + l.length) (.int .u8 x), by simp, setRowB w g _ _ _ _ _ hg rfl, by simpa using hroom, by simpa using hs, fun j y hy => ?_⟩, (only_c w g _ _).mono fun k _ z => by rw [z]; rfl, fun k hk => .inl hk⟩
      rw [Array.getElem?_setIfInBounds]
      rcases Nat.lt_or_ge j l.length with z | z
      · rw [if_neg (by omega)]
        rw [List.getElem?_append_left z] at hy
        exact hcell j y hy
      · have hj : j = l.length := by
          have := (List.getElem?_eq_some_iff.1 hy).1
          simp at this
          omega
        subst hj
        rw [if_pos rfl, if_pos (by omega)]
        simp at hy
        rw [hy]
    · have holds : ∀ j v, (bys l)[j]? = some v → w.cell? ((⟨g, off, none⟩ : Addr).add j) = some v := fun j v hv => by
        obtain ⟨y, hy, rfl⟩ := bys_get l j v hv
        rw [C.addr_add, cell_of_row w g _ _ _ _ hg]
        exact hcell j y hy
      have hr := run_append_grow (P := Try.prog) w 26 ty 5 i0 (.int .u8 0) u_su8 hi0 hz0 ⟨g, off, none⟩ l.length cap (bys l) (by rw [hz1, bys_len]; omega) holds ad 1 1 [.int .u8 x] (by rw [hz1]; rfl) hx (by omega) (by omega) (growslice_fits (by omega) (by rw [hz2]; omega))
      refine ⟨_, _, hr, .inr ⟨w.heap.size, 0, _, _, by simp; rfl, heap_alloc_new w.drew _, by simp; exact grownCap_ge w _ _ _, ?_, fun j y hy => ?_⟩, (Only.ofBelow ((Below.refl _ _).drew.alloc (Nat.le_refl _) _)), fun k hk => .inr (by simp [Ug, Value.ownBlock] at hk; omega)⟩
      · have := grownCap_ge w (l.length + 1) cap 5
        simp [bys, Builtin.zeroCells, Value.cells]
        omega
      · have hj : j < (bys l ++ [Value.int .u8 x]).length := by
          have := (List.getElem?_eq_some_iff.1 hy).1
          simp [bys] at this ⊢
          omega
        have e : (bys l ++ [Value.int .u8 x])[j]? = some (.int .u8 y) := by
          rw [bys_app]
          unfold bys
          rw [List.getElem?_map, hy]
          rfl
        rw [Nat.zero_add, Array.getElem?_append_left (by simpa using hj)]
        simpa using e
end Go.Proofs.Ytmpldaenakenlaa
namespace Go.Proofs.Ytmpldaenakenlaa
open Go.RowKit
open C (Only hid Still ret_bool ret_int)
set_option linter.unusedVariables false
set_option maxRecDepth 100000

theorem wpList_append_mid {w : World} {o : Oper} {a : Act} {Q : Exit → Act → World → Prop} {ops : Array Oper} {rest : List Oper} (s y : Operand) (ho : o.op = .call { callee := .builtin .append, args := #[s, y], argTypes := #[26, 26] }) (hgd : o.guard = none) (u : Value) (hs : a.eval s = u) (l : List Int) (h : Wq w u l) (x : Int) (ad : Addr) (hy : a.eval y = .slice (some ad) 1 1) (hx : ∀ j v, [Value.int .u8 x][j]? = some v → w.cell? (ad.add j) = some v) (hl : l.length ≤ 16) (hxa : ∀ k, Ug u k → ad.block ≠ k)
    (hk : ∀ u' w', Wq w' u' (l ++ [x]) → Only (Ug u) w w' → (∀ k, Ug u' k → Ug u k ∨ w.heap.size ≤ k) → wpList Try.prog ops Q rest (a.put o.dst u') w') : wpList Try.prog ops Q (o :: rest) a w := by
  obtain ⟨u', w', hr, h1, h2, h3⟩ := wq_run w u l h x ad hx hl o.type hxa
  refine wpList_plain hgd fun K hK => ?_
  unfold Oper.wp execOp
  simp only [ho, resolve, invoke, builtin, Sem.run_bind, Sem.run_pure, Result.andThen_ok, List.map_toArray, List.map_cons, List.map_nil, hs, hy, hr]
  exact hK _ _ (hk u' w' h1 h2 h3)
/-- the law's UART and its list of bytes that wait -/
structure Qc (W w : World) (p : Nat) (u : Value) (l : List Int) (v : UV) (F : Nat → Prop) : Prop where
  a : Ux w F p v
  f : ∀ x, F x → W.heap.size ≤ x
  q : Wq w u l
  d : ∀ k, Ug u k → W.heap.size ≤ k ∧ ¬ F k
  n : Below W.heap.size W w
def Qb (W w : World) (p : Nat) (u : Value) (l : List Int) (v : UV) : Prop := ∃ F, Qc W w p u l v F
section
variable {W w w' : World} {p : Nat} {u : Value} {l : List Int} {v v' : UV}
theorem Qb.bel (h : Qb W w p u l v) : Below W.heap.size W w := by obtain ⟨F, k⟩ := h; exact k.n
theorem Qb.call (h : Qb W w p u l v) {f : FuncId} {args : Array Value} {r : Value} (hc : ∀ F, Ux w F p v → Calls Try.prog f args w fun e w' => e = .returned r ∧ ∃ F', Ux w' F' p v' ∧ Tn w w' F F') : Calls Try.prog f args w fun e w' => e = .returned r ∧ Qb W w' p u l v' := by
  obtain ⟨F, k⟩ := h
  refine (hc F k.a).mono ?_
  rintro e w' ⟨rfl, F', k1, k2, k3⟩
  refine ⟨rfl, F', k1, fun x hx => (k3 x hx).elim (k.f x) fun z => Nat.le_trans k.n.size z, k.q.only k2 fun y hy fy => (k.d y hy).2 fy, fun y hy => ⟨(k.d y hy).1, fun fy => ?_⟩, k2.bel k.f k.n⟩
  rcases k3 y fy with z | z
  · exact (k.d y hy).2 z
  · have := k.q.lt hy; omega
theorem Qb.grow (h : Qb W w p u l v) {l' : List Int} {u' : Value} {w1 : World} (hb : Below w.heap.size w w1) (hq : Wq w' u' l') (ho : Only (Ug u) w1 w') (hu : ∀ k, Ug u' k → Ug u k ∨ w1.heap.size ≤ k) : Qb W w' p u' l' v := by
  obtain ⟨F, k⟩ := h
  have ho2 : Only (Ug u) w w' := (Only.ofBelow hb).trans ho
  refine ⟨F, k.a.only ho2 fun x fx ux => (k.d x ux).2 fx, k.f, hq, fun y hy => ?_, ho2.bel (fun x hx => (k.d x hx).1) k.n⟩
  rcases hu y hy with z | z
  · exact k.d y z
  · exact ⟨by have := k.n.size; have := hb.size; omega, fun fy => by have := k.a.lt fy; have := hb.size; omega⟩
theorem Qb.cut (h : Qb W w p u l v) {y : Int} {l' : List Int} (hl : l = y :: l') : ∃ g off cap, u = .slice (some ⟨g, off, none⟩) (l'.length + 1) cap ∧ l'.length + 1 ≤ cap ∧ w.cell? ⟨g, off, none⟩ = some (.int .u8 y) ∧ ∃ A : Addr, (if cap = 1 then some (⟨g, off, none⟩ : Addr) else some ⟨g, off + 1, none⟩) = some A ∧ Qb W w p (.slice (some A) l'.length (cap - 1)) l' v := by
  obtain ⟨F, k⟩ := h
  rcases k.q with ⟨_, h2⟩ | ⟨g, off, cap, cur, h1, h2, h3, h4, h5⟩
  · rw [hl] at h2; cases h2
  · have hlen : l.length = l'.length + 1 := by rw [hl]; rfl
    refine ⟨g, off, cap, by rw [h1, hlen], by omega, ?_, ?_⟩
    · rw [cell_of_row w g off _ _ _ h2]
      have := h5 0 y (by rw [hl]; rfl)
      simpa using this
    · by_cases e : cap = 1
      · refine ⟨⟨g, off, none⟩, by rw [if_pos e], F, k.a, k.f, .inr ⟨g, off, cap - 1, cur, rfl, h2, by omega, by omega, fun j x hx => ?_⟩, fun z hz => k.d z (by rw [h1]; exact hz), k.n⟩
        have : l'.length = 0 := by omega
        rw [List.length_eq_zero_iff.1 this] at hx
        simp at hx
      · refine ⟨⟨g, off + 1, none⟩, by rw [if_neg e], F, k.a, k.f, .inr ⟨g, off + 1, cap - 1, cur, rfl, h2, by omega, by omega, fun j x hx => ?_⟩, fun z hz => k.d z (by rw [h1]; exact hz), k.n⟩
        rw [show off + 1 + j = off + (j + 1) by omega]
        exact h5 (j + 1) x (by rw [hl]; simpa using hx)
end
/-- the UART as PlatBytes keeps it -/
structure Uq (v : UV) : Prop where
  h : v.h 3 = 0
  l : v.q.length ≤ 16
theorem Uq.lat {v : UV} (h : Uq v) : v.lat = false := by unfold UV.lat; rw [h.h]; decide +kernel
theorem inn_full {v : UV} (x : Int) (h : v.q.length = 16) : (v.inn x).q = v.q ∧ (v.inn x).h = v.h ∧ (v.inn x).s = v.s := by unfold UV.inn; rw [if_pos h]; exact ⟨rfl, rfl, rfl⟩
theorem inn_more {v : UV} (x : Int) (h : ¬ v.q.length = 16) : (v.inn x).q = v.q ++ [x] ∧ (v.inn x).h = v.h ∧ (v.inn x).s = v.s := by unfold UV.inn; rw [if_neg h]; exact ⟨rfl, rfl, rfl⟩
theorem rd0_q {v : UV} (h : v.lat = false) : v.rd 0 = v.nxt := by
  show (if v.lat then (v.d 0, v) else v.nxt) = _
  rw [h]
  rfl
theorem rd5_e (v : UV) : v.rd 5 = (v.lin, { v with ov := false }) := rfl
theorem lin_bit (v : UV) : (bits BinOp.and IntKind.u8 v.lin 1 == 1) = decide (0 < v.q.length) := by
  unfold UV.lin
  by_cases e : 0 < v.q.length
  · rw [if_pos e]
    cases v.ov
    · simp [e]; decide +kernel
    · simp [e]; decide +kernel
  · rw [if_neg e]
    cases v.ov
    · simp [e]; decide +kernel
    · simp [e]; decide +kernel
end Go.Proofs.Ytmpldaenakenlaa
namespace Go.Proofs.Ytmpldaenakenlaa
open Go.RowKit
open C (Only hid Still ret_bool ret_int)
set_option linter.unusedVariables false
set_option maxRecDepth 100000

theorem Qb.form {W w : World} {p : Nat} {u : Value} {l : List Int} {v : UV} (h : Qb W w p u l v) : ∃ ad c, u = .slice ad l.length c := by obtain ⟨F, k⟩ := h; exact k.q.form
theorem Qb.lu {W w : World} {p : Nat} {u : Value} {l : List Int} {v : UV} (h : Qb W w p u l v) : LU W w p v := by obtain ⟨F, k⟩ := h; exact ⟨F, k.a, k.f, k.n⟩
theorem own_slB {w : World} {u : Value} {l : List Int} (h : w.ownsRow 0 5 1 u l.length (bys l)) : C.Sl w u l.length fun j => l[j]?.getD 0 := by
  rcases h.2 with ⟨h1, h2⟩ | ⟨g, cap, cur, h1, -, h3, h4, h5, h6, h7⟩
  · refine ⟨none, 0, by rw [h1, h2], by omega, ⟨0, 0, none⟩, fun q => by omega⟩
  · refine ⟨_, cap, h1, h4, ⟨g, 0, none⟩, fun _ => ⟨rfl, lt_of_block h3, fun j hj => ?_⟩⟩
    rw [C.addr_add, Nat.zero_add, cell_of_row w g j _ _ _ h3]
    have : (cur.toList.take (l.length * 1))[j]? = (bys l)[j]? := by rw [h7]
    rw [List.getElem?_take_of_lt (by omega), Array.getElem?_toList] at this
    rw [this]
    unfold bys
    simp [hj]
theorem nu_sl {w : World} {ad : Option Addr} {la cap ab ao : Nat} {A : Nat → Int} (h : Nu .u8 Bb w ad la cap ab ao A) : C.Sl w (.slice ad la cap) la A :=
  ⟨ad, cap, rfl, h.len, ⟨ab, ao, none⟩, fun q => ⟨(h.at0 q).1, (h.at0 q).2, fun j hj => by rw [C.addr_add]; exact h.cell j hj⟩⟩
/-- the first k bytes of a list -/
def fst (A : Nat → Int) (k : Nat) : List Int := (List.range k).map A
theorem fst_len (A : Nat → Int) (k : Nat) : (fst A k).length = k := by simp [fst]
theorem fst_succ (A : Nat → Int) (k : Nat) : fst A k ++ [A k] = fst A (k + 1) := by simp [fst, List.range_succ]
theorem fst_at (A : Nat → Int) (k j : Nat) (h : j < k) : (fst A k)[j]?.getD 0 = A j := by simp [fst, h]
set_option maxHeartbeats 16000000 in
theorem w_PlatBytes (W : World) (ad : Option Addr) (la cap ab ao : Nat) (IN : Nat → Int) (hI : Nu .u8 Bb W ad la cap ab ao IN) (bd : Option Addr) (lb bcap bb bo : Nat) (RD : Nat → Int) (hR : Nu .i64 Bi W bd lb bcap bb bo RD) (cd : Option Addr) (lc ccap cb co : Nat) (OU : Nat → Int) (hO : Nu .u8 Bb W cd lc ccap cb co OU) (hlc : lc ≤ 140737488351232) : Calls Try.prog 6 #[.slice ad la cap, .slice bd lb bcap, .slice cd lc ccap] W fun e w' => e = .returned (.bool true) ∧ Below W.heap.size W w' := by
  have hAw := l_awake
  have HIn := hid hI
  have HRd := hid hR
  have HOu := hid hO
  have i1 := hI.len
  have i2 := hI.cap
  have i3 := hR.len
  have i4 := hR.cap
  have i5 := hO.len
  have i6 := hO.cap
  have hN := l_NewU W W (.refl _ _)
  clear hI hR hO
  go_enter Try.func6, Try.ntmps6
  go_wp2_with (go_at_call 12; refine hN.mono ?_; rintro e w1 ⟨rfl, hl, -⟩; have HQ0 : Hid (Qb W w1 W.heap.size (.slice none 0 0) uv0.q uv0) := (by obtain ⟨F, k1, k2, k3⟩ := hl; exact ⟨F, k1, k2, .inl ⟨rfl, rfl⟩, fun k z => (by cases z), k3⟩); clear hl hN)
  obtain ⟨p, hp⟩ : ∃ p, p = W.heap.size := ⟨_, rfl⟩
  rw [← hp]
  rw [← hp] at HQ0
  have HPp := hid hp
  clear hp
  go_loopw [8, 9, 10] (fun wt k i wr => ∃ (j : Nat) (u : Value) (v : UV), j ≤ la ∧ i = .int .i64 j ∧ k = .int .i64 j ∧ wt = u ∧ Hid (Qb W wr p u v.q v) ∧ Uq v ∧ v.s = []) (fun wt k i _ => la - (intOf i).toNat)
  case atStart => exact ⟨0, _, uv0, by omega, rfl, rfl, rfl, HQ0, ⟨rfl, Nat.zero_le _⟩, rfl⟩
  case round =>
    obtain ⟨j, u, v, hj, rfl, rfl, rfl, HQ, uq, hs⟩ := hrel
    obtain ⟨w0, rfl⟩ : ∃ w0, w0 = wr := ⟨_, rfl⟩
    clear HQ0
    by_cases hlt : j < la
    · obtain ⟨rfl, -⟩ := HIn.out.at0 (by omega)
      have cI := (HIn.out.below HQ.out.bel).cell j hlt
      have bx := HIn.out.num j
      have hjl : (j : Int) < la := by omega
      have HIr : Hid (∀ w', Below W.heap.size W w' → w'.cell? ⟨ab, ao + j, none⟩ = some (.int .u8 (IN j))) := fun w' hb => (HIn.out.below hb).cell j hlt
      have hIn := HQ.out.call (f := 18) (args := #[.pointer (some ⟨p, 0, none⟩), .int .u8 (IN j)]) (r := .tuple #[]) (v' := v.inn (IN j)) fun F hF => u_In w0 F p v (IN j) hF bx
      obtain ⟨b0, b1⟩ := bx
      obtain ⟨ad0, c0, rfl⟩ := HQ.out.form
      have hq16 := uq.l
      generalize IN j = x at *
      by_cases hf : v.q.length = 16
      · obtain ⟨f1, f2, f3⟩ := inn_full x hf
        have uq2 : Uq (v.inn x) := ⟨by rw [f2]; exact uq.h, by rw [f1]; exact uq.l⟩
        have hs2 : (v.inn x).s = [] := by rw [f3]; exact hs
        generalize v.inn x = v2 at *
        go_wp2_with (go_at_call 18; refine hIn.mono ?_; rintro r w2 ⟨rfl, k1⟩; have HQ2 : Hid (Qb W w2 p (.slice ad0 16 c0) v2.q v2) := (by have h := k1; rw [hf] at h; rw [f1]; exact h); clear k1 hIn)
        go_loopw [8, 11] (fun wt nn wr => ∃ (m : Nat) (u3 : Value) (v3 : UV), m ≤ 4 ∧ nn = .int .i64 m ∧ wt = u3 ∧ Hid (Qb W wr p u3 v3.q v3) ∧ Uq v3 ∧ v3.s = []) (fun wt nn _ => 4 - (intOf nn).toNat)
        case atStart => exact ⟨0, _, v2, by omega, rfl, rfl, HQ2, uq2, hs2⟩
        case round =>
          obtain ⟨m, u3, v3, hm, rfl, hwt, hq, uq, hs3⟩ := hrel
          obtain rfl := hwt.symm
          obtain ⟨w5, rfl⟩ : ∃ w5, w5 = wr := ⟨_, rfl⟩
          clear HQ2
          by_cases hlb : j < lb
          · have hPl := C.c_Place (RD j) 4 (by decide) (by decide) (HRd.out.num j).1 (HRd.out.num j).2
            have cR := (HRd.out.below hq.out.bel).cell j hlb
            obtain ⟨rfl, -⟩ := HRd.out.at0 (by omega)
            have hjb : (j : Int) < lb := by omega
            obtain ⟨r, hr⟩ : ∃ r, r = RD j % 4 := ⟨_, rfl⟩
            have r0 : 0 ≤ r := by omega
            have r4 : r < 4 := by omega
            rw [← hr] at hPl
            clear hr
            by_cases hmr : (m : Int) < r
            · have HR5 : Hid (∀ w3 u' l' v', Qb W w3 p u' l' v' → Calls Try.prog 14 #[.pointer (some ⟨p, 0, none⟩), .int .u64 5] w3 fun e w' => e = .returned (.int .u8 v'.lin) ∧ Qb W w' p u' l' { v' with ov := false }) := fun w3 u' l' v' h => h.call fun F hF => u_Read w3 F p v' 5 hF (by decide) (by decide)
              have HR5' := HR5
              clear HR5
              cases e : v3.q with
              | nil =>
                have hr0 : Calls Try.prog 14 #[.pointer (some ⟨p, 0, none⟩), .int .u64 0] w5 fun e w' => e = .returned (.int .u8 0) ∧ Qb W w' p u3 v3.q v3 := by
                  have := hq.out.call (f := 14) (args := #[.pointer (some ⟨p, 0, none⟩), .int .u64 0]) (r := .int .u8 (v3.rd 0).1) (v' := (v3.rd 0).2) fun F hF => u_Read w5 F p v3 0 hF (by decide) (by decide)
                  rw [rd0_q uq.lat, show v3.nxt = (0, v3) by unfold UV.nxt; rw [e]] at this
                  exact this
                have hlb5 : (bits BinOp.and IntKind.u8 v3.lin 1 == 1) = false := by rw [lin_bit, e]; rfl
                have uq4 : Uq { v3 with ov := false } := ⟨uq.h, uq.l⟩
                have hs4 : ({ v3 with ov := false } : UV).s = [] := hs3
                have hq4 : ({ v3 with ov := false } : UV).q = [] := e
                have HR5 : Hid (∀ w3, Qb W w3 p u3 v3.q v3 → Calls Try.prog 14 #[.pointer (some ⟨p, 0, none⟩), .int .u64 5] w3 fun e w' => e = .returned (.int .u8 v3.lin) ∧ Qb W w' p u3 v3.q { v3 with ov := false }) := fun w3 h => HR5'.out w3 _ _ _ h
                generalize ({ v3 with ov := false } : UV) = v4 at *
                generalize v3.lin = li at *
                obtain ⟨ad3, c3, hu⟩ := hq.out.form
                rw [e] at hr0 HR5 hu
                have hu2 : u3 = .slice ad3 0 c3 := hu
                subst hu2
                clear HR5' hu hq e uq
                go_wp2_with (first
                  | (go_at_call 13; refine (hPl _).mono ?_; rintro r w' ⟨rfl, hqq⟩; obtain rfl := hqq.symm; clear hPl)
                  | (go_at_call 14; (with_reducible refine hr0.mono ?_); rintro r w3 ⟨rfl, k1⟩; have hr5 := HR5.out w3 k1; clear k1 hr0)
                  | (go_at_call 14; (with_reducible refine hr5.mono ?_); rintro r w4 ⟨rfl, k1⟩; have H4 := hid k1; clear k1 hr5))
                go_roundw
                case rel => exact ⟨m + 1, _, v4, by omega, by go_num, rfl, by rw [hq4]; exact H4, uq4, hs4⟩
                case measure => simp [intOf]; omega
              | cons y l' =>
                obtain ⟨g, off, c3, hu, hc, cg, A, hA, hcut⟩ := hq.out.cut e
                subst hu
                have hr0 : Calls Try.prog 14 #[.pointer (some ⟨p, 0, none⟩), .int .u64 0] w5 fun e w' => e = .returned (.int .u8 y) ∧ Qb W w' p (.slice (some A) l'.length (c3 - 1)) l' { v3 with q := l' } := by
                  have := hcut.call (f := 14) (args := #[.pointer (some ⟨p, 0, none⟩), .int .u64 0]) (r := .int .u8 (v3.rd 0).1) (v' := (v3.rd 0).2) fun F hF => u_Read w5 F p v3 0 hF (by decide) (by decide)
                  rw [rd0_q uq.lat, show v3.nxt = (y, { v3 with q := l' }) by unfold UV.nxt; rw [e]] at this
                  exact this
                have HR5 : Hid (∀ w3, Qb W w3 p (.slice (some A) l'.length (c3 - 1)) l' { v3 with q := l' } → Calls Try.prog 14 #[.pointer (some ⟨p, 0, none⟩), .int .u64 5] w3 fun e w' => e = .returned (.int .u8 ({ v3 with q := l' } : UV).lin) ∧ Qb W w' p (.slice (some A) l'.length (c3 - 1)) l' { v3 with q := l', ov := false }) := fun w3 h => HR5'.out w3 _ _ _ h
                have hlb5 : (bits BinOp.and IntKind.u8 ({ v3 with q := l' } : UV).lin 1 == 1) = decide (0 < l'.length) := lin_bit _
                have hl16 : l'.length + 1 ≤ 16 := by have := uq.l; rw [e] at this; simpa using this
                have uq4 : Uq { v3 with q := l', ov := false } := ⟨uq.h, by show l'.length ≤ 16; omega⟩
                have hs4 : ({ v3 with q := l', ov := false } : UV).s = [] := hs3
                have hq4 : ({ v3 with q := l', ov := false } : UV).q = l' := rfl
                have h1l : (1 : Int) ≤ (l'.length : Int) + 1 := by omega
                clear HR5' hcut
                generalize ({ v3 with q := l', ov := false } : UV) = v4 at *
                generalize ({ v3 with q := l' } : UV).lin = li at *
                generalize ({ v3 with q := l' } : UV) = v3' at *
                clear e hq
                go_wp2_with (first
                  | (go_at_call 13; refine (hPl _).mono ?_; rintro r w' ⟨rfl, hqq⟩; obtain rfl := hqq.symm; clear hPl)
                  | (go_at_call 14; (with_reducible refine hr0.mono ?_); rintro r w3 ⟨rfl, k1⟩; have hr5 := HR5.out w3 k1; clear k1 hr0)
                  | (go_at_call 14; (with_reducible refine hr5.mono ?_); rintro r w4 ⟨rfl, k1⟩; have H4 := hid k1; clear k1 hr5))
                go_roundw
                case rel => exact ⟨m + 1, _, v4, by omega, by go_num, rfl, by rw [hq4]; exact H4, uq4, hs4⟩
                case measure => simp [intOf]; omega
            · obtain ⟨ad3, c3, rfl⟩ := hq.out.form
              go_wp2_with (go_at_call 13; refine (hPl _).mono ?_; rintro r w' ⟨rfl, hqq⟩; obtain rfl := hqq.symm; clear hPl)
              go_roundw
              case rel => exact ⟨j + 1, _, v3, by omega, by go_num, by go_num, rfl, hq, uq, hs3⟩
              case measure => simp [intOf]; omega
          · obtain ⟨ad3, c3, rfl⟩ := hq.out.form
            have hjb : ¬ (j : Int) < lb := by omega
            go_wp2
            go_roundw
            case rel => exact ⟨j + 1, _, v3, by omega, by go_num, by go_num, rfl, hq, uq, hs3⟩
            case measure => simp [intOf]; omega
      · obtain ⟨f1, f2, f3⟩ := inn_more x hf
        have uq2 : Uq (v.inn x) := ⟨by rw [f2]; exact uq.h, by rw [f1]; simp; omega⟩
        have hs2 : (v.inn x).s = [] := by rw [f3]; exact hs
        have hlt16 : (v.q.length : Int) < 16 := by omega
        generalize v.inn x = v2 at *
        have HGr : Hid (∀ w1, Qb W w1 p (.slice ad0 v.q.length c0) v.q v2 → w1.cell? ⟨ab, ao + j, none⟩ = some (.int .u8 x) ∧ Wq (w1.alloc (.cells #[.int .u8 x] 5)) (.slice ad0 v.q.length c0) v.q ∧ (∀ k, Ug (.slice ad0 v.q.length c0) k → w1.heap.size ≠ k) ∧ ∀ u' w', Wq w' u' (v.q ++ [x]) → Only (Ug (.slice ad0 v.q.length c0)) (w1.alloc (.cells #[.int .u8 x] 5)) w' → (∀ k, Ug u' k → Ug (.slice ad0 v.q.length c0) k ∨ (w1.alloc (.cells #[.int .u8 x] 5)).heap.size ≤ k) → Qb W w' p u' v2.q v2) := fun w1 h => by
          have hal : Below w1.heap.size w1 (w1.alloc (.cells #[.int .u8 x] 5)) := (Below.refl _ _).alloc (Nat.le_refl _) _
          refine ⟨HIr.out w1 h.bel, ?_, ?_, fun u' w' g1 g2 g3 => by rw [f1]; exact h.grow hal g1 g2 g3⟩
          · obtain ⟨F, k⟩ := h
            exact k.q.only (T := fun _ => False) (.ofBelow hal) fun _ _ z => z
          · intro k hk z
            obtain ⟨F, kk⟩ := h
            have := kk.q.lt hk
            omega
        have HNn : Hid (∀ w1 : World, ∀ j v, [Value.int .u8 x][j]? = some v → (w1.alloc (.cells #[.int .u8 x] 5)).cell? ((⟨w1.heap.size, 0, none⟩ : Addr).add j) = some v) := fun w1 => one_cell w1 _ _
        go_upto_region 12 with (first
          | (go_at_call 18; refine hIn.mono ?_; rintro r w1 ⟨rfl, k1⟩; obtain ⟨cI2, g1, g2, g3⟩ := HGr.out w1 k1; have G1 := hid g1; have G2 := hid g2; have G3 := hid g3; clear k1 hIn g1 g2 g3)
          | (at_builtin; refine wpList_append_mid (.tmp 32) (.tmp 37) rfl rfl (.slice ad0 v.q.length c0) rfl v.q G1.out x ⟨w1.heap.size, 0, none⟩ rfl (HNn.out w1) (by omega) G2.out ?_; intro u' w2 k1 k2 k3; have HQ2 := hid (G3.out u' w2 k1 k2 k3); clear k1 k2 k3))
        go_wp2_with fail
        have hqf := HQ2.out.form
        obtain ⟨ad2, c2, rfl⟩ := hqf
        clear HGr G1 G2 G3 HNn f1 f2 f3 hf hlt16 HQ
        go_loopw [8, 11] (fun wt nn wr => ∃ (m : Nat) (u3 : Value) (v3 : UV), m ≤ 4 ∧ nn = .int .i64 m ∧ wt = u3 ∧ Hid (Qb W wr p u3 v3.q v3) ∧ Uq v3 ∧ v3.s = []) (fun wt nn _ => 4 - (intOf nn).toNat)
        case atStart => exact ⟨0, _, v2, by omega, rfl, rfl, HQ2, uq2, hs2⟩
        case round =>
          obtain ⟨m, u3, v3, hm, rfl, hwt, hq, uq, hs3⟩ := hrel
          obtain rfl := hwt.symm
          obtain ⟨w5, rfl⟩ : ∃ w5, w5 = wr := ⟨_, rfl⟩
          clear HQ2
          by_cases hlb : j < lb
          · have hPl := C.c_Place (RD j) 4 (by decide) (by decide) (HRd.out.num j).1 (HRd.out.num j).2
            have cR := (HRd.out.below hq.out.bel).cell j hlb
            obtain ⟨rfl, -⟩ := HRd.out.at0 (by omega)
            have hjb : (j : Int) < lb := by omega
            obtain ⟨r, hr⟩ : ∃ r, r = RD j % 4 := ⟨_, rfl⟩
            have r0 : 0 ≤ r := by omega
            have r4 : r < 4 := by omega
            rw [← hr] at hPl
            clear hr
            by_cases hmr : (m : Int) < r
            · have HR5 : Hid (∀ w3 u' l' v', Qb W w3 p u' l' v' → Calls Try.prog 14 #[.pointer (some ⟨p, 0, none⟩), .int .u64 5] w3 fun e w' => e = .returned (.int .u8 v'.lin) ∧ Qb W w' p u' l' { v' with ov := false }) := fun w3 u' l' v' h => h.call fun F hF => u_Read w3 F p v' 5 hF (by decide) (by decide)
              have HR5' := HR5
              clear HR5
              cases e : v3.q with
              | nil =>
                have hr0 : Calls Try.prog 14 #[.pointer (some ⟨p, 0, none⟩), .int .u64 0] w5 fun e w' => e = .returned (.int .u8 0) ∧ Qb W w' p u3 v3.q v3 := by
                  have := hq.out.call (f := 14) (args := #[.pointer (some ⟨p, 0, none⟩), .int .u64 0]) (r := .int .u8 (v3.rd 0).1) (v' := (v3.rd 0).2) fun F hF => u_Read w5 F p v3 0 hF (by decide) (by decide)
                  rw [rd0_q uq.lat, show v3.nxt = (0, v3) by unfold UV.nxt; rw [e]] at this
                  exact this
                have hlb5 : (bits BinOp.and IntKind.u8 v3.lin 1 == 1) = false := by rw [lin_bit, e]; rfl
                have uq4 : Uq { v3 with ov := false } := ⟨uq.h, uq.l⟩
                have hs4 : ({ v3 with ov := false } : UV).s = [] := hs3
                have hq4 : ({ v3 with ov := false } : UV).q = [] := e
                have HR5 : Hid (∀ w3, Qb W w3 p u3 v3.q v3 → Calls Try.prog 14 #[.pointer (some ⟨p, 0, none⟩), .int .u64 5] w3 fun e w' => e = .returned (.int .u8 v3.lin) ∧ Qb W w' p u3 v3.q { v3 with ov := false }) := fun w3 h => HR5'.out w3 _ _ _ h
                generalize ({ v3 with ov := false } : UV) = v4 at *
                generalize v3.lin = li at *
                obtain ⟨ad3, c3, hu⟩ := hq.out.form
                rw [e] at hr0 HR5 hu
                have hu2 : u3 = .slice ad3 0 c3 := hu
                subst hu2
                clear HR5' hu hq e uq
                go_wp2_with (first
                  | (go_at_call 13; refine (hPl _).mono ?_; rintro r w' ⟨rfl, hqq⟩; obtain rfl := hqq.symm; clear hPl)
                  | (go_at_call 14; (with_reducible refine hr0.mono ?_); rintro r w3 ⟨rfl, k1⟩; have hr5 := HR5.out w3 k1; clear k1 hr0)
                  | (go_at_call 14; (with_reducible refine hr5.mono ?_); rintro r w4 ⟨rfl, k1⟩; have H4 := hid k1; clear k1 hr5))
                go_roundw
                case rel => exact ⟨m + 1, _, v4, by omega, by go_num, rfl, by rw [hq4]; exact H4, uq4, hs4⟩
                case measure => simp [intOf]; omega
              | cons y l' =>
                obtain ⟨g, off, c3, hu, hc, cg, A, hA, hcut⟩ := hq.out.cut e
                subst hu
                have hr0 : Calls Try.prog 14 #[.pointer (some ⟨p, 0, none⟩), .int .u64 0] w5 fun e w' => e = .returned (.int .u8 y) ∧ Qb W w' p (.slice (some A) l'.length (c3 - 1)) l' { v3 with q := l' } := by
                  have := hcut.call (f := 14) (args := #[.pointer (some ⟨p, 0, none⟩), .int .u64 0]) (r := .int .u8 (v3.rd 0).1) (v' := (v3.rd 0).2) fun F hF => u_Read w5 F p v3 0 hF (by decide) (by decide)
                  rw [rd0_q uq.lat, show v3.nxt = (y, { v3 with q := l' }) by unfold UV.nxt; rw [e]] at this
                  exact this
                have HR5 : Hid (∀ w3, Qb W w3 p (.slice (some A) l'.length (c3 - 1)) l' { v3 with q := l' } → Calls Try.prog 14 #[.pointer (some ⟨p, 0, none⟩), .int .u64 5] w3 fun e w' => e = .returned (.int .u8 ({ v3 with q := l' } : UV).lin) ∧ Qb W w' p (.slice (some A) l'.length (c3 - 1)) l' { v3 with q := l', ov := false }) := fun w3 h => HR5'.out w3 _ _ _ h
                have hlb5 : (bits BinOp.and IntKind.u8 ({ v3 with q := l' } : UV).lin 1 == 1) = decide (0 < l'.length) := lin_bit _
                have hl16 : l'.length + 1 ≤ 16 := by have := uq.l; rw [e] at this; simpa using this
                have uq4 : Uq { v3 with q := l', ov := false } := ⟨uq.h, by show l'.length ≤ 16; omega⟩
                have hs4 : ({ v3 with q := l', ov := false } : UV).s = [] := hs3
                have hq4 : ({ v3 with q := l', ov := false } : UV).q = l' := rfl
                have h1l : (1 : Int) ≤ (l'.length : Int) + 1 := by omega
                clear HR5' hcut
                generalize ({ v3 with q := l', ov := false } : UV) = v4 at *
                generalize ({ v3 with q := l' } : UV).lin = li at *
                generalize ({ v3 with q := l' } : UV) = v3' at *
                clear e hq
                go_wp2_with (first
                  | (go_at_call 13; refine (hPl _).mono ?_; rintro r w' ⟨rfl, hqq⟩; obtain rfl := hqq.symm; clear hPl)
                  | (go_at_call 14; (with_reducible refine hr0.mono ?_); rintro r w3 ⟨rfl, k1⟩; have hr5 := HR5.out w3 k1; clear k1 hr0)
                  | (go_at_call 14; (with_reducible refine hr5.mono ?_); rintro r w4 ⟨rfl, k1⟩; have H4 := hid k1; clear k1 hr5))
                go_roundw
                case rel => exact ⟨m + 1, _, v4, by omega, by go_num, rfl, by rw [hq4]; exact H4, uq4, hs4⟩
                case measure => simp [intOf]; omega
            · obtain ⟨ad3, c3, rfl⟩ := hq.out.form
              go_wp2_with (go_at_call 13; refine (hPl _).mono ?_; rintro r w' ⟨rfl, hqq⟩; obtain rfl := hqq.symm; clear hPl)
              go_roundw
              case rel => exact ⟨j + 1, _, v3, by omega, by go_num, by go_num, rfl, hq, uq, hs3⟩
              case measure => simp [intOf]; omega
          · obtain ⟨ad3, c3, rfl⟩ := hq.out.form
            have hjb : ¬ (j : Int) < lb := by omega
            go_wp2
            go_roundw
            case rel => exact ⟨j + 1, _, v3, by omega, by go_num, by go_num, rfl, hq, uq, hs3⟩
            case measure => simp [intOf]; omega
    · obtain rfl : j = la := by omega
      obtain ⟨ad0, c0, rfl⟩ := HQ.out.form
      have HLU := hid HQ.out.lu
      have hh3 := uq.h
      clear uq
      go_wp2_with fail
      go_loopw [13] (fun i wr => ∃ (k : Nat) (v3 : UV), k ≤ lc ∧ i = .int .i64 k ∧ Hid (LU W wr p v3) ∧ v3.h 3 = 0 ∧ v3.s = fst OU k) (fun i _ => lc - (intOf i).toNat)
      case atStart => exact ⟨0, v, by omega, rfl, HLU, hh3, by rw [hs]; rfl⟩
      case round =>
        obtain ⟨k, v3, hk, rfl, hl, h3, hs3⟩ := hrel
        obtain ⟨w5, rfl⟩ : ∃ w5, w5 = wr := ⟨_, rfl⟩
        by_cases hkl : k < lc
        · obtain ⟨rfl, -⟩ := HOu.out.at0 (by omega)
          have cO := (HOu.out.below hl.out.bel).cell k hkl
          have bx := HOu.out.num k
          have hkl' : (k : Int) < lc := by omega
          have hW := l_Write hl.out 0 (OU k) (by decide) (by decide) bx (by rw [hs3, fst_len]; omega)
          have e1 : v3.wr 0 (OU k) = { v3 with s := v3.s ++ [OU k], em := true } := by
            show (if v3.lat then _ else _) = _
            rw [show v3.lat = false by unfold UV.lat; rw [h3]; decide +kernel]
            rfl
          have f3 : (v3.wr 0 (OU k)).h 3 = 0 := by rw [e1]; exact h3
          have fs : (v3.wr 0 (OU k)).s = fst OU (k + 1) := by rw [e1]; show v3.s ++ [OU k] = _; rw [hs3, fst_succ]
          obtain ⟨b0, b1⟩ := bx
          clear e1
          generalize v3.wr 0 (OU k) = v4 at *
          generalize OU k = x at *
          go_wp2_with (go_at_call 16; refine hW.mono ?_; rintro r w6 ⟨rfl, k1⟩; have H6 := hid k1; clear k1 hW)
          go_roundw
          case rel => exact ⟨k + 1, v4, by omega, by go_num, H6, f3, fs⟩
          case measure => simp [intOf]; omega
        · obtain rfl : k = lc := by omega
          have hOut := l_Out hl.out (by rw [hs3, fst_len]; omega)
          rw [hs3, fst_len] at hOut
          have HSm : Hid (∀ w7 ad7 c7, w7.ownsRow 0 5 1 (.slice ad7 k c7) k (bys (fst OU k)) → LU W w7 p v3 → Calls Try.prog 22 #[.slice ad7 k c7, .slice cd k ccap] w7 fun e w' => e = .returned (.bool true) ∧ Below W.heap.size W w') := fun w7 ad7 c7 ho hb => by
            have ho' : w7.ownsRow 0 5 1 (.slice ad7 k c7) (fst OU k).length (bys (fst OU k)) := by rw [fst_len]; exact ho
            have hsl := own_slB ho'
            rw [fst_len] at hsl
            exact (C.c_SameBytes w7 k (by omega) _ _ _ OU hsl (nu_sl (HOu.out.below hb.bel)) fun i hi => fst_at OU k i hi).mono fun e w' hh => ⟨hh.1, hb.bel.trans ((hh.2.below w7.heap.size).mono hb.bel.size)⟩
          go_wp2_with (first
            | (go_at_call 23; refine hOut.mono ?_; rintro r w7 ⟨ad7, c7, rfl, k1, k2, k3⟩; have hSm := HSm.out w7 ad7 c7 k1 k2; clear k1 k2 k3 hOut)
            | (go_at_call 22; refine hSm.mono ?_; rintro r w8 ⟨rfl, k1⟩; have HB8 := hid k1; clear k1 hSm)
            | (go_at_call 24; refine (hAw _).mono ?_; rintro r w9 ⟨rfl, k1⟩; have HB9 := hid k1; clear k1))
          go_ret
          exact ⟨rfl, HB8.out.trans (HB9.out.mono HB8.out.size)⟩
end Go.Proofs.Ytmpldaenakenlaa
