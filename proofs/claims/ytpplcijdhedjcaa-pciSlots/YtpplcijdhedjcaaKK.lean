/- PciSlots. -/
import Derived.Test.YtpplcijdhedjcaaKJ
import Derived.Deep.QuietTactic
namespace Go.Proofs.Ytpplcijdhedjcaa
open Go.RowKit
open C (Only hid Still ret_bool ret_int row)
set_option linter.unusedVariables false
set_option maxRecDepth 100000

/-- numbers as cells -/
def ixs (A : Nat → Int) (n : Nat) : List Value := (List.range n).map fun i => .int .i64 (A i)
theorem ixs_len (A : Nat → Int) (n : Nat) : (ixs A n).length = n := by simp [ixs]
theorem ixs_next (A : Nat → Int) (n : Nat) : ixs A n ++ [.int .i64 (A n)] = ixs A (n + 1) := by simp [ixs, List.range_succ]
theorem ixs_get (A : Nat → Int) (n i : Nat) (h : i < n) : (ixs A n)[i]? = some (.int .i64 (A i)) := by simp [ixs, h]
theorem ixs_one (A : Nat → Int) (n : Nat) : ∀ u ∈ ixs A n, u.oneCell' = true := by
  intro u hu
  simp only [ixs, List.mem_map] at hu
  obtain ⟨x, _, rfl⟩ := hu
  rfl
theorem own_ls {w : World} {u : Value} {n : Nat} {A : Nat → Int} (h : w.ownsRow 0 3 1 u n (ixs A n)) (hA : ∀ j, 0 ≤ A j ∧ A j ≤ 255) : ∃ ad cap b, u = .slice ad n cap ∧ Ls w ad n cap b 0 A ∧ ∀ x, 0 < n → (Ug u x ↔ x = b) := by
  rcases h.2 with ⟨h1, h2⟩ | ⟨g, cap, cur, h1, -, h3, h4, h5, h6, h7⟩
  · subst h2
    exact ⟨none, 0, 0, h1, ⟨Nat.le_refl _, by decide, fun q => by omega, fun j hj => by omega, fun j hj => by omega⟩, fun x q => by omega⟩
  · refine ⟨_, cap, g, h1, ⟨h4, h5, fun _ => ⟨rfl, lt_of_block h3⟩, fun j hj => ?_, fun j _ => ⟨by have := (hA j).1; omega, by have := (hA j).2; omega⟩⟩, fun x _ => ?_⟩
    · rw [Nat.zero_add, cell_of_row w g j _ _ _ h3]
      have : (cur.toList.take (n * 1))[j]? = (ixs A n)[j]? := by rw [h7]
      rw [List.getElem?_take_of_lt (by omega), Array.getElem?_toList, ixs_get _ _ _ hj] at this
      exact this
    · rw [h1]
      show some g = some x ↔ _
      constructor
      · intro q; exact (Option.some.inj q).symm
      · intro q; rw [q]
/-- the law's list grows: u of its own -/
structure Lg (W w : World) (u : Value) (n : Nat) (A : Nat → Int) : Prop where
  own : w.ownsRow 0 3 1 u n (ixs A n)
  ug : ∀ k, Ug u k → W.heap.size ≤ k
  bel : Below W.heap.size W w
/-- a slot's first four bytes tell its device, whatever was written -/
theorem id_gv (v : Sv) (hk : 0 ≤ v.k ∧ v.k ≤ 255) : gv v 0 4 = (4160 + v.k) * 65536 + 6900 := by
  have t0 : tab v (0 + 0) = 244 := by simp [tab, sp0, C.put, C.byt]
  have t1 : tab v (0 + 1) = 26 := by simp [tab, sp0, C.put, C.byt]
  have t2 : tab v (0 + 2) = (4160 + v.k) % 256 := by simp [tab, sp0, C.put, C.byt]
  have t3 : tab v (0 + 3) = (4160 + v.k) / 256 % 256 := by simp [tab, sp0, C.put, C.byt]
  unfold gv
  simp only [C.nu, t0, t1, t2, t3]
  omega
theorem or_id (k : Int) (h : 0 ≤ k ∧ k ≤ 255) : bits BinOp.or IntKind.u64 ((4160 + k) * 65536) 6900 = (4160 + k) * 65536 + 6900 := by
  obtain ⟨M, hM⟩ : ∃ M : Nat, (M : Int) = 4160 + k := ⟨(4160 + k).toNat, by omega⟩
  have hl : M < 5000 := by omega
  have e := u64_or_nat (M * 65536) 6900 (by omega) (by decide)
  rw [nat_join 16 _ _ (by omega) (by decide), Int.natCast_add, Int.natCast_mul, hM] at e
  exact e
theorem dnB (w : World) (n : Nat) : Below w.heap.size w (w.drewN n) := ⟨rfl, rfl, rfl, Nat.le_refl _, fun _ _ => rfl⟩
theorem fit4' (o : Nat) (h : o < 256) (h4 : o % 4 = 0) : fitB (o : Int) 4 = true := by
  have : decide ((o : Int) < 256) = true := by simp; omega
  simp [fitB, this]
  omega
set_option maxHeartbeats 4000000 in
theorem w_PciSlots (W : World) (ad : Option Addr) (la cap ab ao : Nat) (B : Nat → Int) (hB : Nu .i64 Bi W ad la cap ab ao B) (wh : Int) (wh0 : -9223372036854775808 ≤ wh) (wh1 : wh ≤ 9223372036854775807) (off : Int) (o0 : 0 ≤ off) (o1 : off < 18446744073709551616) (v : Int) (v0 : 0 ≤ v) (v1 : v < 18446744073709551616) : Calls Try.prog 7 #[.slice ad la cap, .int .i64 wh, .int .u64 off, .int .u64 v] W fun e w' => e = .returned (.bool true) ∧ Below W.heap.size W w' := by
  obtain ⟨n, hn⟩ : ∃ n : Nat, n = if 8 < la then 8 else la := ⟨_, rfl⟩
  have n8 : n ≤ 8 := by rw [hn]; split <;> omega
  have nla : n ≤ la := by rw [hn]; split <;> omega
  have hA := l_awake
  have hlen := hB.len
  have hcap := hB.cap
  have HB := hid hB
  clear hB
  obtain ⟨A, hAdef⟩ : ∃ A : Nat → Int, A = fun i => B i % 256 := ⟨_, rfl⟩
  have HAd : Hid (∀ i, B i % 256 = A i) := fun i => by rw [hAdef]
  have HAb : Hid (∀ j, 0 ≤ A j ∧ A j ≤ 255) := fun j => by rw [hAdef]; show 0 ≤ B j % 256 ∧ B j % 256 ≤ 255; omega
  clear hAdef
  have T8 : Hid (8 < la → n = 8) := fun q => by rw [hn, if_pos q]
  have Tl : Hid (¬ 8 < la → n = la) := fun q => by rw [hn, if_neg q]
  clear hn
  obtain ⟨i0, hi0, hz0, hz1, hz2⟩ := info_parts info_int
  go_enter Try.func7, Try.ntmps7
  by_cases h8 : 8 < la
  case' pos =>
    have e8 := T8.out h8
    go_upto_region 4 with fail
    rw [show Value.int IntKind.i64 8 = Value.int IntKind.i64 (n : Int) by rw [e8]; rfl]
    clear e8
    generalize Value.bool (decide (8 < (la : Int))) = s24
  case' neg =>
    have el := Tl.out h8
    go_upto_region 4 with fail
    subst el
  all_goals
    clear T8 Tl h8
    go_wp2_with fail
    go_loopw [10, 11] (fun x i wr => ∃ (j : Nat) (u : Value), j ≤ n ∧ i = .int .i64 j ∧ u = x ∧ Hid (Lg W wr u j A)) (fun _ i _ => n - (intOf i).toNat)
    case atStart => exact ⟨0, _, by omega, rfl, rfl, hid ⟨⟨rfl, .inl ⟨rfl, rfl⟩⟩, fun k hk => (by cases hk), .refl _ _⟩⟩
    case round =>
      obtain ⟨j, u, hj, rfl, rfl, HG⟩ := hrel
      by_cases hlt : j < n
      · obtain ⟨rfl, -⟩ := HB.out.at0 (by omega)
        have cB : wr.cell? ⟨ab, ao + j, none⟩ = some (.int .i64 (B j)) := (HB.out.below HG.out.bel).cell j (by omega)
        obtain ⟨x0, x1⟩ := HB.out.num j
        have hP := C.c_Place (B j) 256 (by decide) (by decide) x0 x1
        have hAj := HAd.out j
        rw [hAj] at hP
        obtain ⟨ua, uc, hu⟩ : ∃ ua uc, u = .slice ua j uc := by
          rcases HG.out.own.2 with ⟨h1, h2⟩ | ⟨g, cap, cur, h1, h2⟩
          · exact ⟨none, 0, by rw [h1, h2]⟩
          · exact ⟨_, cap, h1⟩
        subst hu
        clear hAj
        have HN := hid (one_cell wr (.int .i64 (A j)) 3)
        have HL := hid (own_below HG.out.own ((Below.refl _ _).alloc (Nat.le_refl _) (.cells #[.int .i64 (A j)] 3)))
        have HGR : Hid (∀ u' w3, w3.ownsRow 0 3 1 u' (j + 1) (ixs A j ++ [.int .i64 (A j)]) → (wr.alloc (.cells #[.int .i64 (A j)] 3)).grownBy w3 (Value.slice ua j uc).ownBlock → (∀ k, u'.ownBlock = some k → (Value.slice ua j uc).ownBlock = some k ∨ (wr.alloc (.cells #[.int .i64 (A j)] 3)).heap.size ≤ k) → Lg W w3 u' (j + 1) A) := fun u' w3 k1 k2 k3 => by
          rw [ixs_next] at k1
          have hs := HG.out.bel.size
          exact ⟨k1, fun k hk => (k3 k hk).elim (fun e => HG.out.ug k e) fun e => by simp at e; omega, (grew k2).bel (fun x hx => HG.out.ug x hx) HG.out.bel⟩
        go_wp2_with (first
          | (go_at_call 14; refine (hP _).mono ?_; rintro e w' ⟨rfl, hw⟩; obtain rfl := hw.symm; clear hP)
          | (at_builtin; refine wpList_append_blk _ (.tmp 30) (.tmp 36) 22 rfl 3 i0 (.int .i64 0) 1 8 u_sintP hi0 hz0 hz1 hz2 rfl (by decide) (.slice ua j uc) j (ixs A j) rfl HL.out ⟨wr.heap.size, 0, none⟩ 1 1 [.int .i64 (A j)] rfl rfl HN.out (by intro u hu; simp at hu; subst hu; rfl) (show j + 1 ≤ 9223372036854775807 by omega) (by omega) rfl ?_; intro u' w3 hown hgrow hblk; have HG3 := hid (HGR.out u' w3 hown hgrow hblk); clear hown hgrow hblk))
        go_roundw
        case rel => first | exact ⟨j + 1, _, by omega, by go_num, rfl, HG3⟩ | (refine ⟨_, _, _, _, _, _, _, _, _, _, _, _, _, _, _, ⟨j + 1, u', by omega, ?_, rfl, HG3⟩, rfl⟩; go_num)
        case measure => simp [intOf]; omega
      · obtain rfl : n = j := by omega
        obtain ⟨wz, hwz⟩ : ∃ wz, wz = wr := ⟨_, rfl⟩
        subst hwz
        obtain ⟨la2, lc2, lb2, rfl, hls, hug⟩ := own_ls HG.out.own HAb.out
        have hN := l_New wz wz (.refl _ _) la2 n lc2 lb2 0 A hls n8 HAb.out
        have HS := hid hls
        have HWr := hid HG.out.bel
        have hl2 := hls.len
        have hc2 := hls.cap
        clear hls hug HG hj hlt
        have HSl : Hid (∀ w p V, LB wz w p n V → Calls Try.prog 11 #[.pointer (some ⟨p, 0, none⟩)] w fun e w' => e = .returned (.int .i64 n) ∧ w' = w) := fun w p V h => l_Slots h
        obtain ⟨p, hp⟩ : ∃ p, p = wz.heap.size := ⟨_, rfl⟩
        rw [← hp] at hN
        clear hp
        go_upto_region 12 with (first
          | (go_at_call 8; refine hN.mono ?_; rintro e w2 ⟨rfl, hl, -⟩; have HL2 := hid hl; have hS := HSl.out w2 p _ hl; clear hl hN)
          | (go_at_call 11; refine hS.mono ?_; rintro e w' ⟨rfl, hw⟩; obtain rfl := hw.symm; clear hS))
        have HPO : Hid (0 < (n : Int) → 0 ≤ wh % (n : Int) ∧ wh % (n : Int) < n) := fun q => ⟨Int.emod_nonneg _ (by omega), Int.emod_lt_of_pos _ q⟩
        obtain ⟨q, hq⟩ : ∃ q : Int, q = wh % (n : Int) := ⟨_, rfl⟩
        have HPl : Hid (0 < n → ∀ w, Calls Try.prog 14 #[.int .i64 wh, .int .i64 (n : Int)] w fun e w' => e = .returned (.int .i64 q) ∧ w' = w) := fun z w => by rw [hq]; exact C.c_Place wh n (by omega) (by omega) wh0 wh1 w
        have HQ : Hid (0 < n → 0 ≤ q ∧ q < n) := fun z => by rw [hq]; exact HPO.out (by omega)
        clear HPO hq
        have HWt : Hid (0 < n → Calls Try.prog 17 #[.pointer (some ⟨p, 0, none⟩), .int .i64 q, .int .u64 (off % 64 * 4), .int .i64 4, .int .u64 v] w2 fun e w' => e = .returned (.bool true) ∧ ∃ V, LB wz w' p n V ∧ (∀ i, (V i).k = A i) ∧ ∀ i : Nat, (i : Int) ≠ q → (V i).base = 0) := fun z => by
          obtain ⟨q0, q1⟩ := HQ.out z
          refine (l_Write HL2.out q (off % 64 * 4) 4 v (by omega) (by omega) (by omega) (by omega) (by decide) (by decide) v0 v1).mono ?_
          rintro e w' ⟨rfl, hl⟩
          have ef : fitB (off % 64 * 4) 4 = true := by
            obtain ⟨O, hO⟩ : ∃ O : Nat, (O : Int) = off % 64 * 4 := ⟨(off % 64 * 4).toNat, by omega⟩
            rw [← hO]
            exact fit4' O (by omega) (by omega)
          rw [ef]
          refine ⟨rfl, _, hl, fun i => ?_, fun i hi => ?_⟩
          · unfold wrV
            split
            · unfold upV
              split
              · rename_i h; subst h; rfl
              · rfl
            · rfl
          · unfold wrV
            split
            · unfold upV
              rw [if_neg (by omega)]
              rfl
            · rfl
        have HL0 : Hid (∃ V, LB wz w2 p n V ∧ (∀ i, (V i).k = A i) ∧ (0 < n → ∀ i : Nat, (i : Int) ≠ q → (V i).base = 0)) := ⟨_, HL2.out, fun i => rfl, fun _ i _ => rfl⟩
        by_cases hn0 : 0 < n
        case' pos =>
          have hPl := HPl.out hn0
          have hWt := HWt.out hn0
          go_upto_region 14 with (first
            | (go_at_call 14; refine (hPl _).mono ?_; rintro e w' ⟨rfl, hw⟩; obtain rfl := hw.symm; clear hPl)
            | (go_at_call 17; refine hWt.mono ?_; rintro e w3 ⟨rfl, hl⟩; have HL3 := hid hl; clear hl hWt))
          have HV : Hid (∃ V, LB wz w3 p n V ∧ (∀ i, (V i).k = A i) ∧ (0 < n → ∀ i : Nat, (i : Int) ≠ q → (V i).base = 0)) := by
            obtain ⟨V, k1, k2, k3⟩ := HL3.out
            exact ⟨V, k1, k2, fun _ => k3⟩
          clear HL3 HL0 HL2 HWt
        case' neg =>
          go_upto_region 14 with fail
          have HV := HL0
          clear HL0 HL2 HWt
          obtain ⟨w3, hw3⟩ : ∃ w3, w3 = w2 := ⟨_, rfl⟩
          rw [← hw3] at HV ⊢
          clear hw3
        all_goals
          obtain ⟨V, hV⟩ := HV.out
          have HLV := hid hV.1
          have HVk := hid hV.2.1
          have HV0 := hid hV.2.2
          clear hV HV
          have HLs : Hid (∀ w, LB wz w p n V → Ls w la2 n lc2 lb2 0 A) := fun w h => HS.out.below h.bel
          go_wp2_with fail
          go_loopw [14] (fun i wr => ∃ j : Nat, j ≤ n ∧ i = .int .i64 j ∧ Hid (LB wz wr p n V)) (fun i _ => n - (intOf i).toNat)
          case atStart => exact ⟨0, by omega, rfl, HLV⟩
          case round =>
            obtain ⟨j, hj, rfl, HLq⟩ := hrel
            by_cases hlt : j < n
            · have hls := HLs.out wr HLq.out
              obtain ⟨rfl, -⟩ := hls.at0 (by omega)
              have cA : wr.cell? ⟨lb2, 0 + j, none⟩ = some (.int .i64 (A j)) := hls.cell j hlt
              rw [Nat.zero_add] at cA
              obtain ⟨a0, a1⟩ := HAb.out j
              have hor := or_id (A j) ⟨a0, a1⟩
              have eh : hasS n (j : Int) = true := by unfold hasS; simp; omega
              have hr1 : Calls Try.prog 15 #[.pointer (some ⟨p, 0, none⟩), .int .i64 (j : Int), .int .u64 0, .int .i64 4] wr fun e w' => e = .returned (.tuple #[.int .u64 ((4160 + A j) * 65536 + 6900), .bool true]) ∧ w' = wr := by
                have := l_Read HLq.out j 0 4 (by omega) (by omega) (by decide) (by decide) (by decide) (by decide)
                have er : rdV n V j 0 4 = (4160 + A j) * 65536 + 6900 := by
                  unfold rdV
                  rw [eh]
                  show gv (V j) 0 4 = _
                  rw [id_gv _ (by rw [HVk.out]; exact ⟨a0, a1⟩), HVk.out]
                rw [er] at this
                exact this
              have hr2 : Calls Try.prog 15 #[.pointer (some ⟨p, 0, none⟩), .int .i64 (j : Int), .int .u64 16, .int .i64 4] wr fun e w' => e = .returned (.tuple #[.int .u64 (V j).base, .bool true]) ∧ w' = wr := by
                have := l_Read HLq.out j 16 4 (by omega) (by omega) (by decide) (by decide) (by decide) (by decide)
                have er : rdV n V j 16 4 = (V j).base := by
                  unfold rdV
                  rw [eh]
                  exact gv_base (V j)
                rw [er] at this
                exact this
              have HKd : Hid (∀ m, Calls Try.prog 12 #[.pointer (some ⟨p, 0, none⟩), .int .i64 (j : Int)] (wr.drewN m) fun e w' => e = .returned (.int .i64 (A j)) ∧ w' = wr.drewN m) := fun m => by
                have := l_Kind (HLq.out.below (dnB _ m)) j (by omega) (by omega)
                have er : kdV n V j = A j := by
                  unfold kdV
                  rw [eh, if_pos rfl]
                  exact HVk.out j
                rw [er] at this
                exact this
              have HPq : Hid (∀ m, Calls Try.prog 14 #[.int .i64 wh, .int .i64 (n : Int)] (wr.drewN m) fun e w' => e = .returned (.int .i64 q) ∧ w' = wr.drewN m) := fun m => HPl.out (by omega) _
              have HLn : Hid (∀ m, LB wz (wr.drewN m) p n V) := fun m => HLq.out.below (dnB _ m)
              have hb0 : (j : Int) ≠ q → (V j).base = 0 := HV0.out (by omega) j
              obtain ⟨q0, q1⟩ := HQ.out (by omega)
              have n2 : ((j : Int) == (j : Int)) = true := by simp
              obtain ⟨c0, c1⟩ : 0 ≤ (V j).base ∧ (V j).base < 4294967296 := by obtain ⟨F, h1, h2, h3, h4⟩ := HLq.out; exact base_b (h2 j)
              clear hls HLq eh HWr HS HB HV0
              generalize (V j).base = bs at *
              generalize A j = x at *
              by_cases hjq : (j : Int) = q
              · have e1 : ((j : Int) != q) = false := by simp [hjq]
                clear hb0 hjq
                go_wp2_with (first
                  | (go_at_call 15; (with_reducible refine hr1.mono ?_); rintro e w' ⟨rfl, hw⟩; obtain rfl := hw.symm; clear hr1)
                  | (go_at_call 15; (with_reducible refine hr2.mono ?_); rintro e w' ⟨rfl, hw⟩; obtain rfl := hw.symm; clear hr2))
                go_quiet (first | (go_at_call 12; exact Calls.quiet_of_same (HKd.out _)) | (go_at_call 14; exact Calls.quiet_of_same (HPq.out _)))
                go_wp2
                go_roundw
                case rel => exact ⟨j + 1, by omega, by go_num, HLn.out _⟩
                case measure => simp [intOf]; omega
              · obtain rfl : bs = 0 := hb0 hjq
                have e1 : ((j : Int) != q) = true := by simp [hjq]
                clear hjq hb0
                go_wp2_with (first
                  | (go_at_call 15; (with_reducible refine hr1.mono ?_); rintro e w' ⟨rfl, hw⟩; obtain rfl := hw.symm; clear hr1)
                  | (go_at_call 15; (with_reducible refine hr2.mono ?_); rintro e w' ⟨rfl, hw⟩; obtain rfl := hw.symm; clear hr2))
                go_quiet (first | (go_at_call 12; exact Calls.quiet_of_same (HKd.out _)) | (go_at_call 14; exact Calls.quiet_of_same (HPq.out _)))
                go_wp2
                go_roundw
                case rel => exact ⟨j + 1, by omega, by go_num, HLn.out _⟩
                case measure => simp [intOf]; omega
            · obtain rfl : n = j := by omega
              have en : hasS n (n : Int) = false := by unfold hasS; simp
              have hr : Calls Try.prog 15 #[.pointer (some ⟨p, 0, none⟩), .int .i64 (n : Int), .int .u64 0, .int .i64 4] wr fun e w' => e = .returned (.tuple #[.int .u64 4294967295, .bool true]) ∧ w' = wr := by
                have := l_Read HLq.out n 0 4 (by omega) (by omega) (by decide) (by decide) (by decide) (by decide)
                have er : rdV n V n 0 4 = 4294967295 := by
                  unfold rdV
                  rw [en]
                  rfl
                rw [er] at this
                exact this
              have hw : Calls Try.prog 17 #[.pointer (some ⟨p, 0, none⟩), .int .i64 (n : Int), .int .u64 0, .int .i64 4, .int .u64 v] wr fun e w' => e = .returned (.bool true) ∧ Below wz.heap.size wz w' := (l_Write HLq.out n 0 4 v (by omega) (by omega) (by decide) (by decide) (by decide) (by decide) v0 v1).mono fun e w' hh => ⟨hh.1, hh.2.bel⟩
              clear hj hlt en
              go_wp2_with (first
                | (go_at_call 15; (with_reducible refine hr.mono ?_); rintro e w' ⟨rfl, hw'⟩; obtain rfl := hw'.symm; clear hr)
                | (go_at_call 17; (with_reducible refine hw.mono ?_); rintro e w4 ⟨rfl, hb⟩; have HB4 := hid hb; clear hb hw)
                | (go_at_call 10; refine (hA _).mono ?_; rintro e w9 ⟨rfl, hb⟩; have HB9 := hid hb; clear hb hA))
              go_ret
              have b4 := HWr.out.trans (HB4.out.mono HWr.out.size)
              exact ⟨rfl, b4.trans (HB9.out.mono b4.size)⟩
end Go.Proofs.Ytpplcijdhedjcaa
