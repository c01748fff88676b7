/- The document's posts and serves. -/
import Derived.Test.YtdncendokbjnjaaSHA
namespace Go.Proofs.Ytdncendokbjnjaa
open Go.RowKit
open C (Only hid Mem RMem Still ret_bool ret_int)
set_option linter.unusedVariables false
set_option maxRecDepth 100000

def pD (D : Nat → List Nat) (vm k : Nat) : Nat → List Nat := fun i => if i < k then peF vm (D i) else D i
theorem pD_step (D : Nat → List Nat) (vm k : Nat) : (fun i => if i = k then peF vm (D k) else pD D vm k i) = pD D vm (k + 1) := by
  funext i
  unfold pD
  by_cases e : i = k
  · rw [if_pos e, e, if_pos (by omega)]
  · rw [if_neg e]
    by_cases h : i < k
    · rw [if_pos h, if_pos (by omega)]
    · rw [if_neg h, if_neg (by omega)]
theorem app_own {w0 wr w3 : World} {B n : Nat} {u V : Value} {xs : List Value} (hb : Below B w0 wr) (hown : wr.ownsRow B 3 1 u n xs) (hg : (wr.alloc (.cells #[V] 3)).grownBy w3 u.ownBlock) (hB : B ≤ wr.heap.size) : Below B w0 w3 :=
  (hb.alloc hB _).grown hg (by simp; omega) fun r q => by
    obtain ⟨ad, cp, rfl, had⟩ := own_sliceS hown
    cases ad with
    | none => cases q
    | some a =>
      have := had a rfl
      simp [Value.ownBlock] at q
      omega
set_option maxHeartbeats 4000000 in
theorem hh_Post (w : World) (q gh h : Nat) (V : Nat → Value) (D : Nat → List Nat) (H : Hs w q gh h V D) (vm : Nat) (v1 : 1 ≤ vm) (v15 : vm ≤ 15) (hD : ∀ i, (D i).length ≤ 15) (hE : ∀ i, (peF vm (D i)).length ≤ 16) : Calls Try.prog 31 #[.pointer (some ⟨q, 0, none⟩), .int .i64 vm] w fun r w' => r = .returned (.tuple #[]) ∧ (∃ V', Hs w' q gh h V' (fun i => if i < h then peF vm (D i) else D i)) ∧ Only (· = gh) w w' := by
  obtain ⟨i0, hi0, hz0, hz1, hz2⟩ := info_parts info_intS
  have h8 := H.h8
  have HH := hid H
  clear H
  go_enter Try.func31, Try.ntmps31
  go_wp2_with fail
  go_loopw [4, 5, 6, 7] (fun i a b c wr => ∃ (k : Nat) (V' : Nat → Value), k ≤ h ∧ i = .int .i64 k ∧ Hid (Hs wr q gh h V' (pD D vm k) ∧ Only (· = gh) w wr)) (fun i a b c _ => h - (intOf i).toNat)
  case atStart => exact ⟨0, V, by omega, rfl, HH.out, .refl _⟩
  case round =>
    obtain ⟨k, V', hk, rfl, hI⟩ := hrel
    have c0 := hI.out.1.c0
    by_cases hlt : k < h
    · have cv := hI.out.1.cv hlt
      have hl := hI.out.1.ls k hlt
      have hDk : pD D vm k k = D k := by unfold pD; rw [if_neg (Nat.lt_irrefl _)]
      rw [hDk] at hl
      have hd := hD k
      generalize hV : V' k = u at cv hl
      obtain ⟨ad, cp, rfl⟩ := own_form hl
      have HL := hid hl
      have HV := hid hV
      have HDk := hid hDk
      clear hl hV hDk
      have HLT2 : Hid (q < wr.heap.size ∧ gh < wr.heap.size) := ⟨lt_of_block hI.out.1.top, lt_of_block hI.out.1.tab⟩
      go_wp2_with fail
      have hrn : ∃ wo, wo = wr := ⟨_, rfl⟩
      obtain ⟨wo, rfl⟩ := hrn
      go_loopw [5, 6, 7] (fun u bb c wr => ∃ (j : Nat), j ≤ (D k).length ∧ c = .int .i64 j ∧ bb = .bool (pfF vm ((D k).take j)).2 ∧ Hid (wr.ownsRow wo.heap.size 3 1 u (pfF vm ((D k).take j)).1.length (lsv (pfF vm ((D k).take j)).1) ∧ Below wo.heap.size wo wr)) (fun u bb c _ => (D k).length - (intOf c).toNat)
      case atStart => exact ⟨0, by omega, rfl, rfl, World.ownsRow_nil _ _ _ _, Below.refl _ _⟩
      case round =>
        obtain ⟨j, hj, rfl, rfl, hI2⟩ := hrel
        have hln := pfF_len vm ((D k).take j)
        rw [List.length_take] at hln
        by_cases hjl : j < (D k).length
        · obtain ⟨b, cp', cur, e1, e2, e3, e4, e5⟩ := C.own_some HL.out (by omega)
          simp only [Value.slice.injEq] at e1
          obtain ⟨rfl, -, rfl⟩ := e1
          obtain ⟨x, hx⟩ : ∃ x, (D k)[j]? = some x := ⟨(D k)[j], List.getElem?_eq_getElem hjl⟩
          have cx : wo.cell? ⟨b, j, none⟩ = some (.int .i64 (x : Int)) := by
            rw [cell_of_row wo b j _ _ _ e3]
            have : (lsv (D k))[j]? = some (.int .i64 (x : Int)) := by unfold lsv; rw [List.getElem?_map, hx]; rfl
            rw [← e5, List.getElem?_take_of_lt hjl] at this
            simpa using this
          have HLT : Hid (q < wo.heap.size ∧ gh < wo.heap.size ∧ b < wo.heap.size) := ⟨HLT2.out.1, HLT2.out.2, lt_of_block e3⟩
          have ht1 : (D k).take (j + 1) = (D k).take j ++ [x] := by rw [List.take_add_one, hx]; rfl
          have x0 : wr.cell? ⟨q, 0, none⟩ = some (.slice (some ⟨gh, 0, none⟩) h h) := (World.cell?_of_block (w := wo) (hI2.out.2.block _ HLT.out.1)).trans c0
          have x1 : wr.cell? ⟨gh, k, none⟩ = some (.slice (some ⟨b, 0, none⟩) (D k).length cp) := (World.cell?_of_block (w := wo) (hI2.out.2.block _ HLT.out.2.1)).trans cv
          have x2 : wr.cell? ⟨b, j, none⟩ = some (.int .i64 (x : Int)) := (World.cell?_of_block (w := wo) (hI2.out.2.block _ HLT.out.2.2)).trans cx
          have hsz := hI2.out.2.size
          obtain ⟨acc, inn, hs⟩ : ∃ acc inn, pfF vm ((D k).take j) = (acc, inn) := ⟨_, _, rfl⟩
          rw [hs] at hI2 hln ⊢
          simp only at hln
          obtain ⟨ad2, cp2, rfl, -⟩ := own_sliceS hI2.out.1
          clear e2 e3 e4 e5
          cases inn
          · by_cases hv : vm ≤ x
            · by_cases hv2 : vm < x
              · have e : pfF vm ((D k).take (j + 1)) = (acc ++ [vm] ++ [x], true) := by
                  rw [ht1, pfF_add, hs]
                  unfold psF
                  rw [if_pos ⟨rfl, hv⟩, if_pos hv2]
                have HE := hid e
                clear e hs
                go_wp2_with (first | (at_builtin; refine wpList_append_own _ rfl (.tmp 63) (.tmp 65) 58 rfl wo.heap.size 3 i0 (.int .i64 0) 1 8 u_sintS hi0 hz0 hz1 hz2 rfl (by decide) (.slice ad2 acc.length cp2) acc.length (lsv acc) rfl (own_old2 hI2.out.1 ((Below.refl _ _).alloc (Nat.le_refl _) _).block) ⟨wr.heap.size, 0, none⟩ 1 1 [.int .i64 (vm : Int)] rfl rfl (one_cell wr (.int .i64 (vm : Int)) 3) (by intro u hu; simp at hu; subst hu; rfl) (show acc.length + 1 ≤ 9223372036854775807 by omega) (by omega) (by simp; omega) ?_; intro u2 w2 hown hgrow _; obtain ⟨ad3, cp3, rfl, -⟩ := own_sliceS hown; have HO2 := hid hown; have HB2 := hid (app_own hI2.out.2 hI2.out.1 hgrow hsz); have z3 := HB2.out.size; have y0 : w2.cell? ⟨q, 0, none⟩ = some (.slice (some ⟨gh, 0, none⟩) h h) := (World.cell?_of_block (w := wo) (HB2.out.block _ HLT.out.1)).trans c0; have y1 : w2.cell? ⟨gh, k, none⟩ = some (.slice (some ⟨b, 0, none⟩) (D k).length cp) := (World.cell?_of_block (w := wo) (HB2.out.block _ HLT.out.2.1)).trans cv; have y2 : w2.cell? ⟨b, j, none⟩ = some (.int .i64 (x : Int)) := (World.cell?_of_block (w := wo) (HB2.out.block _ HLT.out.2.2)).trans cx; clear hown hgrow) | (at_builtin; refine wpList_append_own _ rfl (.tmp 67) (.tmp 78) 58 rfl wo.heap.size 3 i0 (.int .i64 0) 1 8 u_sintS hi0 hz0 hz1 hz2 rfl (by decide) (.slice ad3 (acc.length + 1) cp3) (acc.length + 1) (lsv acc ++ [.int .i64 (vm : Int)]) rfl (own_old2 HO2.out ((Below.refl _ _).alloc (Nat.le_refl _) _).block) ⟨w2.heap.size, 0, none⟩ 1 1 [.int .i64 (x : Int)] rfl rfl (one_cell w2 (.int .i64 (x : Int)) 3) (by intro u hu; simp at hu; subst hu; rfl) (show (acc.length + 1) + 1 ≤ 9223372036854775807 by omega) (by omega) (by simp; omega) ?_; intro u' w3 hown hgrow _; have HO3 := hid hown; have HB3 := hid (app_own HB2.out HO2.out hgrow z3); clear hown hgrow))
                go_roundw
                case rel => exact ⟨j + 1, by omega, by go_num, by rw [HE.out], by rw [HE.out, lsv_add, lsv_add]; simpa using HO3.out, HB3.out⟩
                case measure => first | (simp [intOf]; done) | (simp [intOf]; omega)

              · have e : pfF vm ((D k).take (j + 1)) = (acc ++ [x], true) := by
                  rw [ht1, pfF_add, hs]
                  unfold psF
                  rw [if_pos ⟨rfl, hv⟩, if_neg hv2]
                have HE := hid e
                clear e hs
                go_wp2_with (at_builtin; refine wpList_append_own _ rfl (.tmp 67) (.tmp 78) 58 rfl wo.heap.size 3 i0 (.int .i64 0) 1 8 u_sintS hi0 hz0 hz1 hz2 rfl (by decide) (.slice ad2 acc.length cp2) acc.length (lsv acc) rfl (own_old2 hI2.out.1 ((Below.refl _ _).alloc (Nat.le_refl _) _).block) ⟨wr.heap.size, 0, none⟩ 1 1 [.int .i64 (x : Int)] rfl rfl (one_cell wr (.int .i64 (x : Int)) 3) (by intro u hu; simp at hu; subst hu; rfl) (show acc.length + 1 ≤ 9223372036854775807 by omega) (by omega) (by simp; omega) ?_; intro u' w3 hown hgrow _; have HO3 := hid hown; have HB3 := hid (app_own hI2.out.2 hI2.out.1 hgrow hsz); clear hown hgrow)
                go_roundw
                case rel => exact ⟨j + 1, by omega, by go_num, by rw [HE.out], by rw [HE.out, lsv_add]; simpa using HO3.out, HB3.out⟩
                case measure => first | (simp [intOf]; done) | (simp [intOf]; omega)

            · have e : pfF vm ((D k).take (j + 1)) = (acc ++ [x], false) := by
                rw [ht1, pfF_add, hs]
                unfold psF
                rw [if_neg (fun z => hv z.2)]
              have HE := hid e
              clear e hs
              go_wp2_with (at_builtin; refine wpList_append_own _ rfl (.tmp 67) (.tmp 78) 58 rfl wo.heap.size 3 i0 (.int .i64 0) 1 8 u_sintS hi0 hz0 hz1 hz2 rfl (by decide) (.slice ad2 acc.length cp2) acc.length (lsv acc) rfl (own_old2 hI2.out.1 ((Below.refl _ _).alloc (Nat.le_refl _) _).block) ⟨wr.heap.size, 0, none⟩ 1 1 [.int .i64 (x : Int)] rfl rfl (one_cell wr (.int .i64 (x : Int)) 3) (by intro u hu; simp at hu; subst hu; rfl) (show acc.length + 1 ≤ 9223372036854775807 by omega) (by omega) (by simp; omega) ?_; intro u' w3 hown hgrow _; have HO3 := hid hown; have HB3 := hid (app_own hI2.out.2 hI2.out.1 hgrow hsz); clear hown hgrow)
              go_roundw
              case rel => exact ⟨j + 1, by omega, by go_num, by rw [HE.out], by rw [HE.out, lsv_add]; simpa using HO3.out, HB3.out⟩
              case measure => first | (simp [intOf]; done) | (simp [intOf]; omega)

          · have e : pfF vm ((D k).take (j + 1)) = (acc ++ [x], true) := by
              rw [ht1, pfF_add, hs]
              unfold psF
              rw [if_neg (fun z => by cases z.1)]
            have HE := hid e
            clear e hs
            go_wp2_with (at_builtin; refine wpList_append_own _ rfl (.tmp 67) (.tmp 78) 58 rfl wo.heap.size 3 i0 (.int .i64 0) 1 8 u_sintS hi0 hz0 hz1 hz2 rfl (by decide) (.slice ad2 acc.length cp2) acc.length (lsv acc) rfl (own_old2 hI2.out.1 ((Below.refl _ _).alloc (Nat.le_refl _) _).block) ⟨wr.heap.size, 0, none⟩ 1 1 [.int .i64 (x : Int)] rfl rfl (one_cell wr (.int .i64 (x : Int)) 3) (by intro u hu; simp at hu; subst hu; rfl) (show acc.length + 1 ≤ 9223372036854775807 by omega) (by omega) (by simp; omega) ?_; intro u' w3 hown hgrow _; have HO3 := hid hown; have HB3 := hid (app_own hI2.out.2 hI2.out.1 hgrow hsz); clear hown hgrow)
            go_roundw
            case rel => exact ⟨j + 1, by omega, by go_num, by rw [HE.out], by rw [HE.out, lsv_add]; simpa using HO3.out, HB3.out⟩
            case measure => first | (simp [intOf]; done) | (simp [intOf]; omega)

        · have hje : j = (D k).length := by omega
          rw [show (D k).take j = D k by rw [hje, List.take_length]] at hI2 hln ⊢
          have HLT : Hid (q < wo.heap.size ∧ gh < wo.heap.size) := HLT2
          have x0 : wr.cell? ⟨q, 0, none⟩ = some (.slice (some ⟨gh, 0, none⟩) h h) := (World.cell?_of_block (w := wo) (hI2.out.2.block _ HLT.out.1)).trans c0
          have x1 : wr.cell? ⟨gh, k, none⟩ = some (.slice ad (D k).length cp) := (World.cell?_of_block (w := wo) (hI2.out.2.block _ HLT.out.2)).trans cv
          have fz := hI.out.1.fz k
          have x3 : wr.frozen? ⟨gh, k, none⟩ = false := (World.frozen?_of_block (w := wo) (hI2.out.2.block _ HLT.out.2)).trans fz
          have hsz := hI2.out.2.size
          have HEk := hid (hE k)
          unfold peF at HEk
          obtain ⟨acc, inn, hs⟩ : ∃ acc inn, pfF vm (D k) = (acc, inn) := ⟨_, _, rfl⟩
          have HPE : Hid (peF vm (D k) = if inn = true then acc else acc ++ [vm]) := by unfold Hid peF; rw [hs]
          rw [hs] at hI2 hln HEk ⊢
          simp only at hln
          obtain ⟨ad2, cp2, rfl, -⟩ := own_sliceS hI2.out.1
          clear hs
          cases inn
          · go_wp2_with (at_builtin; refine wpList_append_own _ rfl (.tmp 82) (.tmp 84) 58 rfl wo.heap.size 3 i0 (.int .i64 0) 1 8 u_sintS hi0 hz0 hz1 hz2 rfl (by decide) (.slice ad2 acc.length cp2) acc.length (lsv acc) rfl (own_old2 hI2.out.1 ((Below.refl _ _).alloc (Nat.le_refl _) _).block) ⟨wr.heap.size, 0, none⟩ 1 1 [.int .i64 (vm : Int)] rfl rfl (one_cell wr (.int .i64 (vm : Int)) 3) (by intro u hu; simp at hu; subst hu; rfl) (show acc.length + 1 ≤ 9223372036854775807 by omega) (by omega) (by simp; omega) ?_; intro u2 w2 hown hgrow _; obtain ⟨ad3, cp3, rfl, -⟩ := own_sliceS hown; have HO2 := hid hown; have HB2 := hid (app_own hI2.out.2 hI2.out.1 hgrow hsz); have y0 : w2.cell? ⟨q, 0, none⟩ = some (.slice (some ⟨gh, 0, none⟩) h h) := (World.cell?_of_block (w := wo) (HB2.out.block _ HLT.out.1)).trans c0; have y1 : w2.cell? ⟨gh, k, none⟩ = some (.slice ad (D k).length cp) := (World.cell?_of_block (w := wo) (HB2.out.block _ HLT.out.2)).trans cv; have y3 : w2.frozen? ⟨gh, k, none⟩ = false := (World.frozen?_of_block (w := wo) (HB2.out.block _ HLT.out.2)).trans fz; clear hown hgrow)
            go_roundw
            case rel => exact ⟨k + 1, _, by omega, by go_num, by rw [← pD_step, HPE.out]; exact (hI.out.1.below HB2.out).set hlt (l := acc ++ [vm]) (by rw [lsv_add]; simpa using own_zero HO2.out) (by simpa using HEk.out), hI.out.2.trans ((Only.ofBelow HB2.out).trans (only_c _ _ _ _))⟩
            case measure => first | (simp [intOf]; done) | (simp [intOf]; omega)
          · go_wp2_with fail
            go_roundw
            case rel => exact ⟨k + 1, _, by omega, by go_num, by rw [← pD_step, HPE.out]; exact (hI.out.1.below hI2.out.2).set hlt (l := acc) (own_zero hI2.out.1) (by simpa using HEk.out), hI.out.2.trans ((Only.ofBelow hI2.out.2).trans (only_c _ _ _ _))⟩
            case measure => first | (simp [intOf]; done) | (simp [intOf]; omega)
    · obtain rfl : k = h := by omega
      go_wp2_with fail
      go_end0
      exact ⟨rfl, ⟨V', hI.out.1⟩, hI.out.2⟩
end Go.Proofs.Ytdncendokbjnjaa
