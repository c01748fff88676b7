/- PciFinds. -/
import Derived.Test.YtpplcijdhedjcaaKI
import Derived.Test.YtpplcijdhedjcaaKS
namespace Go.Proofs.Ytpplcijdhedjcaa
open Go.RowKit
open C (Only hid Still ret_bool ret_int row)
set_option linter.unusedVariables false
set_option maxRecDepth 100000

theorem info_int : (Try.prog.info? 3).map (fun i => (i.zero, i.size, i.bytes)) = some (some (.int .i64 0), 1, 8) := by kernel_rfl
theorem u_sintP : Try.prog.underlying 22 = some (.slice 3) := by kernel_rfl
/-- what is written of a base -/
def bsF (x : Int) : Int := x % 4294967296 / 4096 * 4096
/-- a slot behind both writes, or behind the first -/
def sw (b : Int) (lt : Bool) : Sv := if lt then ((sv0 0).wr 16 4 b).wr 4 2 2 else (sv0 0).wr 16 4 b
theorem sw_f (b : Int) : sw b false = ⟨0, 0, hi4 (C.byt b 1), C.byt b 2, C.byt b 3, 0⟩ := rfl
theorem sw_t (b : Int) : sw b true = ⟨0, 2, hi4 (C.byt b 1), C.byt b 2, C.byt b 3, 0⟩ := rfl
theorem sw_base (x : Int) (lt : Bool) : (sw (bsF x) lt).base = bsF x := by
  have : (⟨0, 0, hi4 (C.byt (bsF x) 1), C.byt (bsF x) 2, C.byt (bsF x) 3, 0⟩ : Sv).base = bsF x := by
    unfold Sv.base hi4 C.byt bsF
    simp only [show (256 : Int) ^ 1 = 256 by decide, show (256 : Int) ^ 2 = 65536 by decide, show (256 : Int) ^ 3 = 16777216 by decide]
    omega
  cases lt
  · rw [sw_f]; exact this
  · rw [sw_t]; exact this
theorem sw_on (x : Int) (lt : Bool) : (sw (bsF x) lt).on = (bsF x != 0 && lt) := by
  unfold Sv.on
  rw [sw_base]
  cases lt
  · rw [sw_f]; show (_ && bt2 0) = _; rw [show bt2 0 = false by decide]
  · rw [sw_t]; show (_ && bt2 2) = _; rw [show bt2 2 = true by decide]
/-- the slots behind the turns of m .. n - 1 -/
def TV (B : Nat → Int) (L : Nat → Bool) (m n : Nat) : Nat → Sv := fun s => if m ≤ s ∧ s < n then sw (bsF (B s)) (L s) else sv0 0
theorem TV_end (B : Nat → Int) (L : Nat → Bool) (n : Nat) : TV B L n n = fun _ => sv0 0 := by
  funext s
  unfold TV
  rw [if_neg (by omega)]
theorem TV_one (B : Nat → Int) (L : Nat → Bool) (m n : Nat) (h : m < n) (n8 : n ≤ 8) (hl : L m = false) : wrV n (TV B L (m + 1) n) (m : Int) 16 4 (bsF (B m)) = TV B L m n := by
  unfold wrV
  have e : (fitB 16 4 && hasS n (m : Int)) = true := by
    have : hasS n (m : Int) = true := by unfold hasS; simp; omega
    rw [this]; rfl
  rw [e, if_pos rfl]
  funext s
  unfold upV TV
  simp only [Int.toNat_natCast]
  by_cases q : s = m
  · subst q
    rw [if_pos rfl, if_neg (by omega), if_pos (by omega), hl]
    rfl
  · rw [if_neg q]
    by_cases r : m ≤ s ∧ s < n
    · rw [if_pos (by omega), if_pos r]
    · rw [if_neg (by omega), if_neg r]
theorem TV_two (B : Nat → Int) (L : Nat → Bool) (m n : Nat) (h : m < n) (n8 : n ≤ 8) (hl : L m = true) : wrV n (wrV n (TV B L (m + 1) n) (m : Int) 16 4 (bsF (B m))) (m : Int) 4 2 2 = TV B L m n := by
  have eh : hasS n (m : Int) = true := by unfold hasS; simp; omega
  unfold wrV
  rw [eh, show (fitB 16 4 && true) = true from rfl, show (fitB 4 2 && true) = true from rfl, if_pos rfl, if_pos rfl]
  funext s
  unfold upV TV
  simp only [Int.toNat_natCast]
  by_cases q : s = m
  · subst q
    simp only [if_true]
    rw [if_neg (by omega), if_pos (by omega), hl]
    rfl
  · rw [if_neg q, if_neg q]
    by_cases r : m ≤ s ∧ s < n
    · rw [if_pos (by omega), if_pos r]
    · rw [if_neg (by omega), if_neg r]
/-- is slot s what is looked for -/
def hitF (B : Nat → Int) (L : Nat → Bool) (a : Int) (s : Nat) : Bool := L s && (bsF (B s) != 0 && a / 4096 * 4096 == bsF (B s))
theorem hit_TV (B : Nat → Int) (L : Nat → Bool) (n : Nat) (a : Int) (s : Nat) (h : s < n) : hitV (TV B L 0 n) a s = hitF B L a s := by
  unfold hitV hitF TV
  rw [if_pos ⟨Nat.zero_le _, h⟩, sw_on, sw_base]
  have hm : bsF (B s) % 4096 = 0 := by unfold bsF; omega
  cases L s
  · simp
  · by_cases z : bsF (B s) = 0
    · rw [z]; simp
    · have : decide (bsF (B s) ≤ a ∧ a - bsF (B s) < 4096) = (a / 4096 * 4096 == bsF (B s)) := by
        rw [Bool.eq_iff_iff]
        simp
        omega
      rw [this]
      simp
/-- what was found of m .. n - 1 -/
def Wn (B : Nat → Int) (L : Nat → Bool) (a : Int) (m n : Nat) (t : Int) : Prop := (t = -1 ∧ ∀ s, m ≤ s → s < n → hitF B L a s = false) ∨ ∃ s : Nat, t = s ∧ m ≤ s ∧ s < n ∧ hitF B L a s = true ∧ ∀ r, m ≤ r → r < s → hitF B L a r = false
theorem Wn.no {B : Nat → Int} {L : Nat → Bool} {a : Int} {m n : Nat} {t : Int} (h : Wn B L a (m + 1) n t) (hm : hitF B L a m = false) : Wn B L a m n t := by
  have hs : ∀ {P : Nat → Prop} {r : Nat}, m ≤ r → (r = m → P r) → (m + 1 ≤ r → P r) → P r := fun h1 h2 h3 => by
    rename_i P r
    rcases Nat.lt_or_ge m r with q | q
    · exact h3 q
    · exact h2 (by omega)
  rcases h with ⟨h1, h2⟩ | ⟨s, h1, h2, h3, h4, h5⟩
  · exact .inl ⟨h1, fun s q r => hs (P := fun s => hitF B L a s = false) q (fun e => by rw [e]; exact hm) fun e => h2 s e r⟩
  · exact .inr ⟨s, h1, by omega, h3, h4, fun r q x => hs (P := fun s => hitF B L a s = false) q (fun e => by rw [e]; exact hm) fun e => h5 r e x⟩
theorem Wn.yes {B : Nat → Int} {L : Nat → Bool} {a : Int} {m n : Nat} (hn : m < n) (hm : hitF B L a m = true) : Wn B L a m n (m : Int) := .inr ⟨m, rfl, Nat.le_refl _, hn, hm, fun r q x => by omega⟩
theorem ls_made (w : World) (n : Nat) (n8 : n ≤ 8) : Ls (w.alloc (.cells (Array.replicate n (.int .i64 0)) 3)) (some ⟨w.heap.size, 0, none⟩) n n w.heap.size 0 (fun _ => 0) :=
  ⟨Nat.le_refl _, by omega, fun _ => ⟨rfl, by simp⟩, fun j hj => by
    rw [cell_of_row _ _ (0 + j) _ _ _ (heap_alloc_new w _), Nat.zero_add]
    simp [hj], fun j hj => ⟨by decide, by decide⟩⟩
theorem l_NewM (W w : World) (hW : Below W.heap.size W w) (n : Nat) (n8 : n ≤ 8) : Calls Try.prog 8 #[.slice (some ⟨w.heap.size, 0, none⟩) n n] (w.alloc (.cells (Array.replicate n (.int .i64 0)) 3)) fun e w' => e = .returned (.tuple #[.pointer (some ⟨w.heap.size + 1, 0, none⟩), .int .i64 0]) ∧ LB W w' (w.heap.size + 1) n (fun _ => sv0 0) := by
  have := l_New W _ (hW.alloc hW.size (.cells (Array.replicate n (.int .i64 0)) 3)) _ n n _ _ _ (ls_made w n n8) n8 (fun _ => ⟨by decide, by decide⟩)
  simp only [World.size_alloc] at this
  exact this.mono fun e w' hh => ⟨hh.1, hh.2.1⟩
set_option maxHeartbeats 4000000 in
theorem w_PciFinds (W : World) (ad : Option Addr) (la cap ab ao : Nat) (B : Nat → Int) (hB : Nu .u64 Bu W ad la cap ab ao B) (bd : Option Addr) (lb bcap bb bo : Nat) (ON : Nat → Bool) (hO : Bo W bd lb bcap bb bo ON) (a : Int) (a0 : 0 ≤ a) (a1 : a < 18446744073709551616) : Calls Try.prog 5 #[.slice ad la cap, .slice bd lb bcap, .int .u64 a] W fun e w' => e = .returned (.bool true) ∧ Below W.heap.size W w' := by
  obtain ⟨n, hn⟩ : ∃ n : Nat, n = if 8 < la then 8 else la := ⟨_, rfl⟩
  have n8 : n ≤ 8 := by rw [hn]; split <;> omega
  have nla : n ≤ la := by rw [hn]; split <;> omega
  have hN := l_NewM W W (.refl _ _) n n8
  have hA := l_awake
  have hlen := hB.len
  have hcap := hB.cap
  have hlb := hO.len
  have hcb := hO.cap
  have HB := hid hB
  have HO := hid hO
  clear hB hO
  obtain ⟨L, hL⟩ : ∃ L : Nat → Bool, L = fun i => decide (i < lb) && ON i := ⟨_, rfl⟩
  have HL := hid hL
  clear hL
  have T8 : Hid (8 < la → n = 8) := fun q => by rw [hn, if_pos q]
  have Tl : Hid (¬ 8 < la → n = la) := fun q => by rw [hn, if_neg q]
  clear hn
  go_enter Try.func5, Try.ntmps5
  by_cases h8 : 8 < la
  case' pos =>
    have e8 := T8.out h8
    go_upto_region 4 with fail
    rw [show Value.int IntKind.i64 8 = Value.int IntKind.i64 (n : Int) by rw [e8]; rfl]
    clear e8
  case' neg =>
    have el := Tl.out h8
    go_upto_region 4 with fail
    subst el
  all_goals
    clear T8 Tl
    go_wp2_with (first
      | (with_reducible refine C.wpList_makes _ rfl (.tmp 22) (.tmp 22) 22 rfl 3 (.int .i64 0) 8 u_sintP info_int rfl n rfl rfl (by omega) (by omega) (Array.replicate n (.int .i64 0)) (by simp) ?_)
      | (go_at_call 8; (with_reducible refine hN.mono ?_); rintro e w1 ⟨rfl, hl⟩; have HL1 := hid hl; clear hl hN))
    obtain ⟨p, hp⟩ : ∃ p, p = W.heap.size + 1 := ⟨_, rfl⟩
    simp only [← hp] at HL1 ⊢
    clear hp
    have HF0 : Hid (LB W w1 p n (TV B L n n)) := by rw [TV_end]; exact HL1
    go_loopw [10, 11] (fun t i wr => ∃ (m : Nat) (x : Int), m ≤ n ∧ i = .int .i64 ((m : Int) - 1) ∧ t = .int .i64 x ∧ Hid (LB W wr p n (TV B L m n)) ∧ Hid (Wn B L a m n x)) (fun _ i _ => (intOf i + 1).toNat)
    case atStart => exact ⟨n, -1, Nat.le_refl _, rfl, rfl, HF0, .inl ⟨rfl, fun s q r => by omega⟩⟩
    case round =>
      obtain ⟨m, x, hm, rfl, rfl, HQ, HWN⟩ := hrel
      by_cases hlt : 0 < m
      · obtain ⟨k, rfl⟩ : ∃ k, m = k + 1 := ⟨m - 1, by omega⟩
        obtain ⟨rfl, -⟩ := HB.out.at0 (by omega)
        have hBel := HQ.out.bel
        have cB : wr.cell? ⟨ab, ao + k, none⟩ = some (.int .u64 (B k)) := (HB.out.below hBel).cell k (by omega)
        obtain ⟨x0, x1⟩ := HB.out.num k
        have ek : (((k + 1 : Nat) : Int) - 1) = (k : Int) := by omega
        rw [ek]
        have HLk : Hid (L k = (decide (k < lb) && ON k)) := by show _ = _; rw [HL.out]
        have HW1 : Hid (Calls Try.prog 17 #[.pointer (some ⟨p, 0, none⟩), .int .i64 (k : Int), .int .u64 16, .int .i64 4, .int .u64 (B k % 4294967296 / 4096 * 4096)] wr fun e w' => e = .returned (.bool true) ∧ LB W w' p n (wrV n (TV B L (k + 1) n) (k : Int) 16 4 (bsF (B k)))) := l_Write HQ.out k 16 4 _ (by omega) (by omega) (by decide) (by decide) (by decide) (by decide) (by omega) (by omega)
        have HW2 : Hid (∀ w2 V, LB W w2 p n V → Calls Try.prog 17 #[.pointer (some ⟨p, 0, none⟩), .int .i64 (k : Int), .int .u64 4, .int .i64 2, .int .u64 2] w2 fun e w' => e = .returned (.bool true) ∧ LB W w' p n (wrV n V (k : Int) 4 2 2)) := fun w2 V h => l_Write h k 4 2 2 (by omega) (by omega) (by decide) (by decide) (by decide) (by decide) (by decide) (by decide)
        have HV1 : Hid (L k = false → wrV n (TV B L (k + 1) n) (k : Int) 16 4 (bsF (B k)) = TV B L k n) := fun q => TV_one B L k n (by omega) n8 q
        have HV2 : Hid (L k = true → wrV n (wrV n (TV B L (k + 1) n) (k : Int) 16 4 (bsF (B k))) (k : Int) 4 2 2 = TV B L k n) := fun q => TV_two B L k n (by omega) n8 q
        have HHT : Hid (hitF B L a k = (L k && (B k % 4294967296 / 4096 * 4096 != 0 && a / 4096 * 4096 == B k % 4294967296 / 4096 * 4096))) := rfl
        have HNO : Hid (hitF B L a k = false → Wn B L a k n x) := fun q => HWN.out.no q
        have HYE : Hid (hitF B L a k = true → Wn B L a k n (k : Int)) := fun q => .yes (by omega) q
        have hw1 := HW1.out
        have b0 : 0 ≤ B k % 4294967296 / 4096 * 4096 := by omega
        have b1 : B k % 4294967296 / 4096 * 4096 < 4294967296 := by omega
        generalize hitF B L a k = ht at *
        generalize wrV n (TV B L (k + 1) n) (k : Int) 16 4 (bsF (B k)) = V1 at *
        cases hLk : L k
        · rw [hLk] at HLk HHT
          have hv : V1 = TV B L k n := HV1.out hLk
          subst hv
          obtain rfl : ht = false := HHT.out
          have HW0 := hid (HNO.out rfl)
          by_cases hb : k < lb
          · obtain ⟨rfl, -⟩ := HO.out.at0 (by omega)
            have cO : wr.cell? ⟨bb, bo + k, none⟩ = some (.bool (ON k)) := (HO.out.below hBel).cell k hb
            have hon : ON k = false := by have := HLk.out; simpa [hb] using this.symm
            rw [hon] at cO
            clear hBel hLk hon
            go_wp2_with (go_at_call 17; (with_reducible refine hw1.mono ?_); rintro e w2 ⟨rfl, hl⟩; have HQ2 := hid hl; clear hl hw1)
            go_roundw
            case rel => exact ⟨k, x, by omega, by go_num, rfl, HQ2, HW0⟩
            case measure => simp [intOf]
          · clear hBel hLk
            go_wp2_with (go_at_call 17; (with_reducible refine hw1.mono ?_); rintro e w2 ⟨rfl, hl⟩; have HQ2 := hid hl; clear hl hw1)
            go_roundw
            case rel => exact ⟨k, x, by omega, by go_num, rfl, HQ2, HW0⟩
            case measure => simp [intOf]
        · rw [hLk] at HLk HHT
          have hb : k < lb := by have := HLk.out; simp at this; exact this.1
          have hon : ON k = true := by have := HLk.out; simp at this; exact this.2
          obtain ⟨rfl, -⟩ := HO.out.at0 (by omega)
          have cO : wr.cell? ⟨bb, bo + k, none⟩ = some (.bool (ON k)) := (HO.out.below hBel).cell k hb
          rw [hon] at cO
          have hv2 := HV2.out hLk
          have HW2' : Hid (∀ w2, LB W w2 p n V1 → Calls Try.prog 17 #[.pointer (some ⟨p, 0, none⟩), .int .i64 (k : Int), .int .u64 4, .int .i64 2, .int .u64 2] w2 fun e w' => e = .returned (.bool true) ∧ LB W w' p n (TV B L k n)) := fun w2 h => by rw [← hv2]; exact HW2.out w2 V1 h
          clear hBel hLk hon HV1 HV2 HW2 hv2
          obtain ⟨D, hD⟩ : ∃ D, B k % 4294967296 / 4096 * 4096 = D := ⟨_, rfl⟩
          rw [hD] at hw1 HHT b0 b1
          clear HW1
          by_cases z : D = 0
          · subst z
            obtain rfl : ht = false := by rw [HHT.out]; rfl
            have HW0 := hid (HNO.out rfl)
            go_wp2_with (first
              | (go_at_call 17; (with_reducible refine hw1.mono ?_); rintro e w2 ⟨rfl, hl⟩; have hw2 := HW2'.out w2 hl; clear hl hw1)
              | (go_at_call 17; (with_reducible refine hw2.mono ?_); rintro e w3 ⟨rfl, hl⟩; have HQ2 := hid hl; clear hl hw2))
            go_roundw
            case rel => exact ⟨k, x, by omega, by go_num, rfl, HQ2, HW0⟩
            case measure => simp [intOf]
          · by_cases z2 : a / 4096 * 4096 = D
            · obtain rfl : ht = true := by rw [HHT.out]; simp [z, z2]
              have HW0 := hid (HYE.out rfl)
              clear HHT
              have ez : (a / 4096 * 4096 == D) = true := by simp [z2]
              clear z2
              go_wp2_with (first
                | (go_at_call 17; (with_reducible refine hw1.mono ?_); rintro e w2 ⟨rfl, hl⟩; have hw2 := HW2'.out w2 hl; clear hl hw1)
                | (go_at_call 17; (with_reducible refine hw2.mono ?_); rintro e w3 ⟨rfl, hl⟩; have HQ2 := hid hl; clear hl hw2))
              go_roundw
              case rel => exact ⟨k, k, by omega, by go_num, rfl, HQ2, HW0⟩
              case measure => simp [intOf]
            · obtain rfl : ht = false := by rw [HHT.out]; simp [z, z2]
              have HW0 := hid (HNO.out rfl)
              clear HHT
              have ez : (a / 4096 * 4096 == D) = false := by simp [z2]
              go_wp2_with (first
                | (go_at_call 17; (with_reducible refine hw1.mono ?_); rintro e w2 ⟨rfl, hl⟩; have hw2 := HW2'.out w2 hl; clear hl hw1)
                | (go_at_call 17; (with_reducible refine hw2.mono ?_); rintro e w3 ⟨rfl, hl⟩; have HQ2 := hid hl; clear hl hw2))
              go_roundw
              case rel => exact ⟨k, x, by omega, by go_num, rfl, HQ2, HW0⟩
              case measure => simp [intOf]
      · obtain rfl : m = 0 := by omega
        have hf := l_Find HQ.out a a0 a1
        have HBl := hid HQ.out.bel
        rcases HWN.out with ⟨rfl, h2⟩ | ⟨s, rfl, h2, h3, h4, h5⟩
        · have hd := fd_none (n := n) (V := TV B L 0 n) (a := a) (fun i hi => by rw [hit_TV _ _ _ _ _ hi]; exact h2 i (Nat.zero_le _) hi)
          rw [hd.1, hd.2.1, hd.2.2] at hf
          clear hd h2
          go_wp2_with (first
            | (go_at_call 19; refine hf.mono ?_; rintro e w3 ⟨rfl, hs⟩; have HS3 := hid hs; clear hs hf)
            | (go_at_call 10; refine (hA _).mono ?_; rintro e w9 ⟨rfl, hb⟩; have HB9 := hid hb; clear hb hA))
          go_ret
          exact ⟨rfl, (HBl.out.trans ((HS3.out.below _).mono HBl.out.size)).trans (HB9.out.mono (by have := (HBl.out.trans ((HS3.out.below _).mono HBl.out.size)).size; exact this))⟩
        · have hd := fd_hit (n := n) (V := TV B L 0 n) (a := a) h3 (by rw [hit_TV _ _ _ _ _ h3]; exact h4) (fun i hi => by rw [hit_TV _ _ _ _ _ (by omega)]; exact h5 i (Nat.zero_le _) hi)
          have hbs : (TV B L 0 n s).base = bsF (B s) := by unfold TV; rw [if_pos ⟨Nat.zero_le _, h3⟩, sw_base]
          have ha : a - bsF (B s) = a % 4096 := by
            unfold hitF at h4
            simp at h4
            omega
          rw [hd.1, hd.2.1, hd.2.2, hbs, ha] at hf
          clear hd h2 h4 h5 hbs ha
          go_wp2_with (first
            | (go_at_call 19; refine hf.mono ?_; rintro e w3 ⟨rfl, hs⟩; have HS3 := hid hs; clear hs hf)
            | (go_at_call 10; refine (hA _).mono ?_; rintro e w9 ⟨rfl, hb⟩; have HB9 := hid hb; clear hb hA))
          go_ret
          exact ⟨rfl, (HBl.out.trans ((HS3.out.below _).mono HBl.out.size)).trans (HB9.out.mono (by have := (HBl.out.trans ((HS3.out.below _).mono HBl.out.size)).size; exact this))⟩
end Go.Proofs.Ytpplcijdhedjcaa
