/- TlbFlushes, walked. -/
import Derived.Test.YtgenjhcpcjhpmaaTI
namespace Go.Proofs.Ytgenjhcpcjhpmaa
open Go.RowKit
set_option linter.unusedVariables false

set_option maxHeartbeats 1000000 in
theorem w_TlbFlushes_bad (w : World) (room : Int) (hr : room < 1 ∨ 64 < room) (s : Value) (vm : Int) :
    Calls Try.prog 5 #[.int .i64 room, s, .int .i64 vm] w fun e w' => e = .returned (.bool true) ∧ Below w.heap.size w w' := by
  have HR := hid hr
  rcases hr with hr | hr
  · go_enter Try.func5, Try.ntmps5
    go_wp2_with (first
      | (go_at_call 6; refine (c_New_bad _ room HR.out).mono ?_; rintro e w1 ⟨rfl, hw⟩; obtain rfl := hw)
      | (go_at_call 8; refine (c_awake _).mono ?_; rintro e w2 ⟨rfl, hb⟩; have HB := hid hb; clear hb))
    go_ret
    exact ⟨rfl, HB.out⟩
  · have h1 : ¬ room < 1 := by omega
    go_enter Try.func5, Try.ntmps5
    go_wp2_with (first
      | (go_at_call 6; refine (c_New_bad _ room HR.out).mono ?_; rintro e w1 ⟨rfl, hw⟩; obtain rfl := hw)
      | (go_at_call 8; refine (c_awake _).mono ?_; rintro e w2 ⟨rfl, hb⟩; have HB := hid hb; clear hb))
    go_ret
    exact ⟨rfl, HB.out⟩
set_option maxHeartbeats 4000000 in
set_option maxRecDepth 100000 in
theorem w_TlbFlushes_ok (w : World) (room : Nat) (h0 : 0 < room) (h1 : room ≤ 64) (ad : Option Addr) (la cap ab ao : Nat) (X : Nat → OpV) (hX : Sc w ad la cap ab ao X) (vm : Int) :
    Calls Try.prog 5 #[.int .i64 room, .slice ad la cap, .int .i64 vm] w fun e w' => e = .returned (.bool true) ∧ Below w.heap.size w w' := by
  have HX := hid hX
  have hlc := hX.len
  have hcm := hX.cap
  clear hX
  go_enter Try.func5, Try.ntmps5
  go_wp2_with (go_at_call 6; refine (c_New _ room h0 h1 _ rfl).mono ?_; rintro e w1 ⟨p, g, rfl, hm, hb, hf⟩; have HM1 := hid hm; have HB1 := hid hb; have HF1 := hid hf; clear hm hb hf)
  go_loopw [9] (fun i wr => ∃ (k : Nat) (L : List TV), k ≤ la ∧ i = .int .i64 k ∧ TM wr p g room L ∧ Below w.heap.size w wr) (fun i _ => la - (intOf i).toNat)
  case atStart => exact ⟨0, [], by omega, rfl, HM1.out, HB1.out⟩
  case round =>
    obtain ⟨k, L, hk, rfl, hm, hb⟩ := hrel
    have HM := hid hm
    have HB := hid hb
    clear hm hb
    by_cases hlt : k < la
    · obtain ⟨rfl, hab⟩ := HX.out.at0 (by omega)
      obtain ⟨x0, x1, x2, x3, x4, x5⟩ := (Sc.below HX.out HB.out).cell k hlt
      obtain ⟨x, hx⟩ : ∃ x, (X k).e = x := ⟨_, rfl⟩
      rw [hx] at x2 x3 x4 x5
      go_wp2_with (go_at_call 10; refine (c_Put _ p g room L HM.out x).mono ?_; rintro e w2 ⟨rfl, hm, ho⟩; have HM2 := hid hm; have HO2 := hid ho; clear hm ho)
      go_roundw
      case rel => exact ⟨k + 1, _, by omega, by go_num, HM2.out, HB.out.trans (HO2.out.below _ HB.out.size (fun k' z => HF1.out k' z))⟩
      case measure => simp [intOf]; omega
    · obtain rfl : k = la := by omega
      obtain ⟨wo, rfl⟩ : ∃ wo : World, wo = wr := ⟨_, rfl⟩
      have hll := HM.out.len
      go_wp2_with (go_at_call 22; refine (c_Entries _ p g room L HM.out).mono ?_; rintro e w2 ⟨v1, rfl, he, hb⟩; have HE2 := hid he; have HB2 := hid hb; clear he hb; obtain ⟨ad1, cap1, rfl, _⟩ := HE2.out.rd)
      have HOB : Hid (∀ b, (Value.slice ad1 L.length cap1).ownBlock = some b → wo.heap.size ≤ b ∧ b < w2.heap.size) := fun b hb => HE2.out.lt hb
      have hs2 := HB2.out.size
      go_loopw [10, 12] (fun s i wr => ∃ (k : Nat) (M : List TV), k ≤ L.length ∧ i = .int .i64 k ∧ Es wr wo.heap.size (.slice ad1 L.length cap1) M ∧ M.length = L.length ∧ (∀ j : Nat, k ≤ j → M[j]? = L[j]?) ∧ Es wr w2.heap.size s (fl (L.take k) vm) ∧ Below wo.heap.size wo wr ∧ w2.heap.size ≤ wr.heap.size) (fun _ i _ => L.length - (intOf i).toNat)
      case atStart => exact ⟨0, L, by omega, rfl, HE2.out, rfl, fun _ _ => rfl, by rw [List.take_zero]; exact Es.nil _ _, HB2.out, Nat.le_refl _⟩
      case round =>
        obtain ⟨k, M, hk, rfl, hes, hml, hme, hel, hb, hsz⟩ := hrel
        have HES := hid hes
        have HME := hid hme
        have HEL := hid hel
        have HB3 := hid hb
        have HFL := hid (fl_le L vm k)
        clear hes hme hel hb
        by_cases hlt : k < L.length
        · obtain ⟨x, hx⟩ : ∃ x, L[k]? = some x := ⟨_, List.getElem?_eq_getElem hlt⟩
          have HMX := hid ((HME.out k (Nat.le_refl _)).trans hx)
          have HST := hid (fl_step L k x hx vm)
          obtain ⟨ad2, cap2, e2, hrd⟩ := HES.out.rd
          obtain ⟨g1, e3, hg1, x0, x1, x2, x3⟩ := hrd k x HMX.out
          simp only [Value.slice.injEq] at e2
          obtain ⟨rfl, -, rfl⟩ := e2
          subst e3
          have z2 : wr.frozen? ⟨g1, k * 4 + 2, none⟩ = false := by
            have := HES.out
            unfold Es at this
            rw [hml] at this
            exact this.frozenAt _
          have HG1 := hid (HOB.out g1 rfl)
          have HS77 : Hid (∀ w' : World, Es w' wo.heap.size (.slice (some ⟨g1, 0, none⟩) L.length cap1) M → Es (w'.setCell ⟨g1, k * 4 + 2, none⟩ (.int .u64 77)) wo.heap.size (.slice (some ⟨g1, 0, none⟩) L.length cap1) (M.set k ⟨x.v, x.p, 77, x.r⟩) ∧ w'.grownBy (w'.setCell ⟨g1, k * 4 + 2, none⟩ (.int .u64 77)) (some g1)) := fun w' h' => by
            rw [← hml] at h' ⊢
            exact Es.stored h' HMX.out 77
          clear hx hrd
          by_cases hv : x.v = vm
          · go_wp2_with fail
            go_roundw
            case rel =>
              obtain ⟨c1, c2⟩ := HS77.out wr HES.out
              refine ⟨k + 1, _, by omega, by go_num, c1, by simpa using hml, fun j hj => by rw [List.getElem?_set_ne (by omega)]; exact HME.out j (by omega), ?_, ?_, ?_⟩
              · rw [HST.out, if_pos hv, List.append_nil]
                exact HEL.out.kept c2 (fun k' q e => by have := (HEL.out.lt q).1; have := HG1.out.2; cases e; omega)
              · exact HB3.out.grown c2 HB3.out.size (fun k' q => by cases q; exact HG1.out.1)
              · exact Nat.le_trans hsz c2.size
            case measure => simp [intOf]; omega
          · go_wp2_with (at_builtin; refine wpL_push rfl _ _ rfl w2.heap.size u10 (fl (L.take k) vm) rfl (HEL.out.below ((Below.refl _ _).alloc (Nat.le_refl _) _)) (by have := HFL.out; omega) wr.heap.size 1 x rfl (by
                intro j u hj
                unfold TV.cs at hj
                match j, hj with
                | 0, hj => simp at hj; subst hj; simp
                | 1, hj => simp at hj; subst hj; simp
                | 2, hj => simp at hj; subst hj; simp
                | 3, hj => simp at hj; subst hj; simp) (by simp; omega) ?_; intro v' w4 he4 hg4; have HE4 := hid he4; have HG4 := hid hg4; have hne4 : some g1 ≠ u10.ownBlock := (fun q => by have := (HEL.out.lt q.symm).1; have := HG1.out.2; omega); have hES4 := HES.out.below ((Below.refl wr.heap.size wr).alloc (Nat.le_refl _) (.cells #[.int .i64 x.v, .int .u64 x.p, .int .u64 x.f, .int .i64 x.r] 33)) |>.kept hg4 (fun k' q e => by cases q; exact hne4 e.symm); have HES4 := hid hES4; obtain ⟨ad5, cap5, e5, hrd5⟩ := hES4.rd; obtain ⟨g5, e6, hg5, y0, y1, y2, y3⟩ := hrd5 k x HMX.out; simp only [Value.slice.injEq] at e5; obtain ⟨rfl, -, rfl⟩ := e5; simp only [Option.some.injEq, Addr.mk.injEq, and_true] at e6; subst e6; have z4 : w4.frozen? ⟨g1, k * 4 + 2, none⟩ = false := (by have := HES4.out; unfold Es at this; rw [hml] at this; exact this.frozenAt _); clear he4 hg4 hES4 hrd5 hne4)
            go_roundw
            case rel =>
              obtain ⟨c1, c2⟩ := HS77.out w4 HES4.out
              refine ⟨k + 1, _, by omega, by go_num, c1, by simpa using hml, fun j hj => by rw [List.getElem?_set_ne (by omega)]; exact HME.out j (by omega), ?_, ?_, ?_⟩
              · rw [HST.out, if_neg hv]
                refine HE4.out.kept c2 (fun k' q e => ?_)
                have := (HE4.out.lt q).1; have := HG1.out.2; cases e; omega
              · exact ((HB3.out.alloc HB3.out.size _).grown HG4.out (by have := HB3.out.size; simp; omega) (fun k' q => by have := (HEL.out.lt q).1; omega)).grown c2 (by have := HB3.out.size; have := HG4.out.size; simp at this; omega) (fun k' q => by cases q; exact HG1.out.1)
              · have := HG4.out.size; simp at this
                exact Nat.le_trans (by omega) c2.size
            case measure => simp [intOf]; omega
        · obtain rfl : k = L.length := by omega
          obtain ⟨w5, rfl⟩ : ∃ w5 : World, w5 = wr := ⟨_, rfl⟩
          obtain ⟨u5, hu5⟩ : ∃ u5 : Value, u5 = u10 := ⟨_, rfl⟩
          rw [← hu5] at HEL ⊢
          rw [List.take_length] at HEL
          clear hu5 HES HME HOB
          go_wp2_with (go_at_call 22; refine (c_Entries _ p g room L (HM.out.below HB3.out)).mono ?_; rintro e w6 ⟨v6, rfl, he, hb⟩; have HE6 := hid he; have HB6 := hid hb; clear he hb; obtain ⟨ad6, cap6, rfl, _⟩ := HE6.out.rd)
          have hs6 := HB6.out.size
          go_loopw [13, 14] (fun s i wr => ∃ (k : Nat), k ≤ L.length ∧ i = .int .i64 k ∧ Es wr w6.heap.size s (fl (L.take k) vm) ∧ Below w6.heap.size w6 wr) (fun _ i _ => L.length - (intOf i).toNat)
          case atStart => exact ⟨0, by omega, rfl, by rw [List.take_zero]; exact Es.nil _ _, Below.refl _ _⟩
          case round =>
            obtain ⟨k, hk, rfl, hel, hb⟩ := hrel
            have HEL2 := hid hel
            have HB7 := hid hb
            have HFL := hid (fl_le L vm k)
            clear hel hb
            by_cases hlt : k < L.length
            · obtain ⟨x, hx⟩ : ∃ x, L[k]? = some x := ⟨_, List.getElem?_eq_getElem hlt⟩
              have HST := hid (fl_step L k x hx vm)
              obtain ⟨ad2, cap2, e2, hrd⟩ := (HE6.out.below HB7.out).rd
              obtain ⟨g1, e3, hg1, x0, x1, x2, x3⟩ := hrd k x hx
              simp only [Value.slice.injEq] at e2
              obtain ⟨rfl, -, rfl⟩ := e2
              subst e3
              clear hx hrd
              by_cases hv : x.v = vm
              · go_wp2_with fail
                go_roundw
                case rel => exact ⟨k + 1, by omega, by go_num, by rw [HST.out, if_pos hv, List.append_nil]; exact HEL2.out, HB7.out⟩
                case measure => simp [intOf]; omega
              · go_wp2_with (at_builtin; refine wpL_push rfl _ _ rfl w6.heap.size u13 (fl (L.take k) vm) rfl (HEL2.out.below ((Below.refl _ _).alloc (Nat.le_refl _) _)) (by have := HFL.out; omega) wr.heap.size 1 x rfl (by
                    intro j u hj
                    unfold TV.cs at hj
                    match j, hj with
                    | 0, hj => simp at hj; subst hj; simp
                    | 1, hj => simp at hj; subst hj; simp
                    | 2, hj => simp at hj; subst hj; simp
                    | 3, hj => simp at hj; subst hj; simp) (by have := HB7.out.size; simp; omega) ?_; intro v' w4 he4 hg4; have HE4 := hid he4; have HG4 := hid hg4; clear he4 hg4)
                go_roundw
                case rel => exact ⟨k + 1, by omega, by go_num, by rw [HST.out, if_neg hv]; exact HE4.out, (HB7.out.alloc HB7.out.size _).grown HG4.out (by have := HB7.out.size; simp; omega) (fun k' q => (HEL2.out.lt q).1)⟩
                case measure => simp [intOf]; omega
            · obtain rfl : k = L.length := by omega
              rw [List.take_length] at HEL2
              have b7 : Below wo.heap.size wo wr := (HB3.out.trans (HB6.out.mono HB3.out.size)).trans (HB7.out.mono (by have := HB3.out.size; omega))
              have HMr := hid (HM.out.below b7)
              have HFo : Hid (∀ k, Ft p g k → k < wo.heap.size) := fun k hk => HM.out.lt hk
              have HW : Hid (Below w.heap.size w wr) := HB.out.trans (b7.mono HB.out.size)
              have HL7 : Hid (Es wr w2.heap.size u5 (fl L vm)) := (HEL.out.below HB6.out).below HB7.out
              have hfl : (fl L vm).length ≤ 64 := by have : (fl L vm).length ≤ L.length := List.length_filter_le _ _; omega
              have hs3 := HB3.out.size
              have T1 : Hid True := trivial
              clear b7 HFL HE6 HEL HM1 HX
              go_wp2_with (first
                | (go_at_call 16; refine (c_Flush _ p g room L HMr.out vm).mono ?_; rintro e w8 ⟨rfl, hm, ho⟩; have HM8 := hid hm; have HO8 := hid ho; have HA8 := hid (HL7.out.only ho (fun k q f => by have := (HL7.out.lt q).1; have := HFo.out k f; omega)); have HC8 := hid (HEL2.out.only ho (fun k q f => by have := (HEL2.out.lt q).1; have := HFo.out k f; omega)); clear hm ho)
                | (go_at_call 21; have := T1.out; clear T1; refine (c_Same _ _ _ (fl L vm) HA8.out.rd HC8.out.rd hfl).mono ?_; rintro e w9 ⟨rfl, hs⟩; have HS9 := hid hs; clear hs)
                | (go_at_call 22; refine (c_Entries _ p g room (fl L vm) (HM8.out.below (HS9.out.below _))).mono ?_; rintro e w10 ⟨v10, rfl, he, hb⟩; have HE10 := hid he; have HB10 := hid hb; clear he hb)
                | (go_at_call 21; refine (c_Same w10 v10 u13 (fl L vm) HE10.out.rd ((HC8.out.rd.below (HS9.out.below _)).below HB10.out) hfl).mono ?_; rintro e w11 ⟨rfl, hs⟩; have HS11 := hid hs; clear hs)
                | (go_at_call 8; refine (c_awake _).mono ?_; rintro e w12 ⟨rfl, hb⟩; have HB12 := hid hb; clear hb))
              go_ret
              refine ⟨rfl, ?_⟩
              have q1 : Below w.heap.size w w8 := HW.out.trans (HO8.out.below _ HW.out.size (fun k z => HF1.out k z))
              have q2 : Below w.heap.size w w9 := q1.trans (HS9.out.below _)
              have q3 : Below w.heap.size w w10 := q2.trans (HB10.out.mono q2.size)
              have q4 : Below w.heap.size w w11 := q3.trans (HS11.out.below _)
              exact q4.trans (HB12.out.mono q4.size)
theorem w_TlbFlushes (w : World) (room : Int) (_ : -9223372036854775808 ≤ room) (_ : room ≤ 9223372036854775807) (ad : Option Addr) (la cap ab ao : Nat) (X : Nat → OpV) (hX : Sc w ad la cap ab ao X) (vm : Int) (_ : -9223372036854775808 ≤ vm) (_ : vm ≤ 9223372036854775807) :
    Calls Try.prog 5 #[.int .i64 room, .slice ad la cap, .int .i64 vm] w fun e w' => e = .returned (.bool true) ∧ Below w.heap.size w w' := by
  by_cases h : room < 1 ∨ 64 < room
  · exact w_TlbFlushes_bad w room h _ vm
  · obtain ⟨n, rfl⟩ : ∃ n : Nat, room = n := ⟨room.toNat, by omega⟩
    exact w_TlbFlushes_ok w n (by omega) (by omega) ad la cap ab ao X hX vm
end Go.Proofs.Ytgenjhcpcjhpmaa
