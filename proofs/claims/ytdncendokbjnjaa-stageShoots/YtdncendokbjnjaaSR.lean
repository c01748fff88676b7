/- Who is due to forget what: P10.5. -/
import Derived.Test.YtdncendokbjnjaaSP
import Derived.Test.YtdncendokbjnjaaME1
namespace Go.Proofs.Ytdncendokbjnjaa
open Go.RowKit
open C (Only hid Mem RMem Still ret_bool ret_int lo and_lo)
set_option linter.unusedVariables false
set_option maxRecDepth 100000

theorem run_call_or {P : Program} {f : FuncId} {fn : Func} (hf : P.funcs[f]? = some fn) (hname : (fn.name == "runtime.NumGoroutine") = false) (hb : fn.body.isNone = true) (hn : Extern.findNext fn = none) (k : IntKind)
    (he : Extern.find fn = some (Extern.Atomic.update (Op.intBits .or) k false)) {a : Addr} {x y s : Int} {w : World} (hc : w.cell? a = some (.int k x)) (hz : w.frozen? a = false)
    (hs : (Op.intBits .or k x y).run P w = .ok (.int k s) w) :
    (callFunc f #[.pointer (some a), .int k y]).run P w = .ok (.value (.int k x)) (w.setCell a (.int k s)) := by
  rw [run_callFunc_extern hf hname hb hn he]
  change (Sem.run P (do
    let a' ← asAddr (.pointer (some a))
    let old ← Extern.Atomic.read (.int k) a'
    let new ← Op.intBits .or k (← asInt old) (← asInt (.int k y))
    store a' new .atomic
    pure (if false = true then new else old)) w).andThen _ = _
  simp [Extern.Atomic.read, asAddr, asInt, asIntOf, hc, hz, hs, run_store P w a (.int k s) .atomic rfl, Result.andThen]
theorem k_Or (a : Addr) (w : World) (x y s : Int) (hc : w.cell? a = some (.int .u64 x)) (hz : w.frozen? a = false) (hs : bits .or .u64 x y = s) :
    Calls Try.prog 89 #[.pointer (some a), .int .u64 y] w fun e w' => e = .returned (.int .u64 x) ∧ w' = w.setCell a (.int .u64 s) := by
  have hr := run_call_or (P := Try.prog) Try.func130 (by kernel_rfl) (by kernel_rfl) (by kernel_rfl) .u64 (by kernel_rfl) (y := y) (s := s) hc hz (by go_simp)
  go_enter Try.func89, Try.ntmps89
  go_wp2
  go_ret
  exact ⟨rfl, rfl⟩
theorem run_call_swap {P : Program} {f : FuncId} {fn : Func} (hf : P.funcs[f]? = some fn) (hname : (fn.name == "runtime.NumGoroutine") = false) (hb : fn.body.isNone = true) (hn : Extern.findNext fn = none) (k : IntKind)
    (he : Extern.find fn = some (Extern.Atomic.swapT (.int k))) {a : Addr} {x y : Int} {w : World} (hc : w.cell? a = some (.int k x)) (hz : w.frozen? a = false) :
    (callFunc f #[.pointer (some a), .int k y]).run P w = .ok (.value (.int k x)) (w.setCell a (.int k y)) := by
  rw [run_callFunc_extern hf hname hb hn he]
  change (Sem.run P (do
    let a' ← asAddr (.pointer (some a))
    let old ← Extern.Atomic.read (.int k) a'
    store a' (.int k y) .atomic
    pure old) w).andThen _ = _
  simp [Extern.Atomic.read, asAddr, hc, hz, run_store P w a (.int k y) .atomic rfl, Result.andThen]
theorem k_Swap (a : Addr) (w : World) (x y : Int) (hc : w.cell? a = some (.int .u64 x)) (hz : w.frozen? a = false) :
    Calls Try.prog 92 #[.pointer (some a), .int .u64 y] w fun e w' => e = .returned (.int .u64 x) ∧ w' = w.setCell a (.int .u64 y) := by
  have hr := run_call_swap (P := Try.prog) Try.func131 (by kernel_rfl) (by kernel_rfl) (by kernel_rfl) .u64 (by kernel_rfl) (y := y) hc hz
  go_enter Try.func92, Try.ntmps92
  go_wp2
  go_ret
  exact ⟨rfl, rfl⟩
theorem own_old2 {w w' : World} {base : Nat} {e : TypeId} {size : Nat} {v : Value} {n : Nat} {xs : List Value} (h : w.ownsRow base e size v n xs) (hb : ∀ k, k < w.heap.size → w'.heap[k]? = w.heap[k]?) : w'.ownsRow base e size v n xs := by
  refine ⟨h.1, ?_⟩
  rcases h.2 with z | ⟨g, cap, cur, h1, h2, h3, h4⟩
  · exact .inl z
  · exact .inr ⟨g, cap, cur, h1, h2, (hb g (lt_of_block h3)).trans h3, h4⟩
/-- the VMIDs below k whose bit is 1 -/
def vl (n : Nat) : Nat → List Nat
  | 0 => []
  | k + 1 => bif decide (1 ≤ k) && decide (n / 2 ^ k % 2 = 1) then vl n k ++ [k] else vl n k
theorem vl_len (n : Nat) : ∀ k, (vl n k).length ≤ k
  | 0 => Nat.le_refl _
  | k + 1 => by
    have := vl_len n k
    unfold vl
    cases decide (1 ≤ k) && decide (n / 2 ^ k % 2 = 1) <;> simp <;> omega
theorem vl_mem (n : Nat) : ∀ k j, j ∈ vl n k ↔ 1 ≤ j ∧ j < k ∧ n / 2 ^ j % 2 = 1
  | 0, j => by simp [vl]
  | k + 1, j => by
    have h := vl_mem n k j
    unfold vl
    cases e : decide (1 ≤ k) && decide (n / 2 ^ k % 2 = 1)
    · rw [cond_false, h]
      simp at e
      constructor
      · rintro ⟨a, b, c⟩; exact ⟨a, by omega, c⟩
      · rintro ⟨a, b, c⟩
        refine ⟨a, ?_, c⟩
        rcases Nat.lt_or_ge j k with q | q
        · exact q
        · obtain rfl : j = k := by omega
          have := e a; omega
    · rw [cond_true, List.mem_append, List.mem_singleton, h]
      simp at e
      constructor
      · rintro (⟨a, b, c⟩ | rfl)
        · exact ⟨a, by omega, c⟩
        · exact ⟨e.1, by omega, e.2⟩
      · rintro ⟨a, b, c⟩
        rcases Nat.lt_or_ge j k with q | q
        · exact .inl ⟨a, q, c⟩
        · exact .inr (by omega)
theorem and_one (n : Nat) (hn : n < 18446744073709551616) : bits .and .u64 (n : Int) 1 = ((n % 2 : Nat) : Int) := by
  have := bits_and_u64_nat n 1 hn (by decide)
  rw [show ((1 : Nat) : Int) = 1 from rfl] at this
  rw [this, Nat.and_one_is_mod]
set_option maxHeartbeats 1000000 in
theorem x_vmidsOf (w : World) (n : Nat) (hn : n < 18446744073709551616) : Calls Try.prog 91 #[.int .u64 n] w fun r w' => ∃ u, r = .returned u ∧ w'.ownsRow w.heap.size 3 1 u (vl n 16).length (lsv (vl n 16)) ∧ Below w.heap.size w w' := by
  obtain ⟨i0, hi0, hz0, hz1, hz2⟩ := info_parts info_intS
  go_enter Try.func91, Try.ntmps91
  go_wp2_with fail
  go_loopw [3, 4] (fun u i wr => ∃ k : Nat, 1 ≤ k ∧ k ≤ 16 ∧ i = .int .i64 k ∧ Hid (wr.ownsRow w.heap.size 3 1 u (vl n k).length (lsv (vl n k)) ∧ Below w.heap.size w wr)) (fun u i _ => 16 - (intOf i).toNat)
  case atStart => exact ⟨1, by omega, by omega, rfl, World.ownsRow_nil _ _ _ _, Below.refl _ _⟩
  case round =>
    obtain ⟨k, k1, k16, rfl, hI⟩ := hrel
    obtain ⟨ad, cp, rfl, had⟩ := own_sliceS hI.out.1
    have HAD := hid had
    clear had
    by_cases hlt : k ≤ 15
    · have hpw : ((n : Int) / 2 ^ k) = ((n / 2 ^ k : Nat) : Int) := by rw [Int.natCast_ediv, Int.natCast_pow]; rfl
      have hdl : n / 2 ^ k < 18446744073709551616 := Nat.lt_of_le_of_lt (Nat.div_le_self _ _) hn
      have hand : bits .and .u64 ((n : Int) / 2 ^ k) 1 = ((n / 2 ^ k % 2 : Nat) : Int) := by rw [hpw, and_one _ hdl]
      clear hpw hdl
      by_cases hb : n / 2 ^ k % 2 = 1
      · have e : vl n (k + 1) = vl n k ++ [k] := by
          show (bif decide (1 ≤ k) && decide (n / 2 ^ k % 2 = 1) then vl n k ++ [k] else vl n k) = _
          rw [decide_eq_true k1, decide_eq_true hb]; rfl
        have HE := hid e
        rw [hb] at hand
        have hll := vl_len n k
        have hsz := hI.out.2.size
        have HD : Hid (∀ x, Below wr.heap.size wr (wr.alloc x)) := fun x => (Below.refl _ _).alloc (Nat.le_refl _) x
        have HN := hid (one_cell wr (.int .i64 (k : Int)) 3)
        clear e hb
        go_wp2_with (at_builtin; refine wpList_append_own _ rfl (.tmp 14) (.tmp 16) 58 rfl w.heap.size 3 i0 (.int .i64 0) 1 8 u_sintS hi0 hz0 hz1 hz2 rfl (by decide) (.slice ad (vl n k).length cp) (vl n k).length (lsv (vl n k)) rfl (own_old2 hI.out.1 (HD.out _).block) ⟨wr.heap.size, 0, none⟩ 1 1 [.int .i64 (k : Int)] rfl rfl HN.out (by intro u hu; simp at hu; subst hu; rfl) (show (vl n k).length + 1 ≤ 9223372036854775807 by omega) (by omega) (by simp; omega) ?_; intro u' w3 hown hgrow _; have HO3 := hid hown; have HG3 := hid hgrow; clear hown hgrow)
        go_roundw
        case rel => exact ⟨k + 1, by omega, by omega, by go_num, by rw [HE.out, lsv_add]; simpa using HO3.out, (hI.out.2.alloc hsz _).grown HG3.out (by simp; omega) (fun r q => by
          cases ad with
          | none => cases q
          | some a =>
            have := HAD.out a rfl
            simp [Value.ownBlock] at q
            omega)⟩
        case measure => first | (simp [intOf]; done) | (simp [intOf]; omega)
      · have e : vl n (k + 1) = vl n k := by
          show (bif decide (1 ≤ k) && decide (n / 2 ^ k % 2 = 1) then vl n k ++ [k] else vl n k) = _
          rw [decide_eq_false hb, Bool.and_false]; rfl
        have HE := hid e
        have hb0 : n / 2 ^ k % 2 = 0 := by omega
        rw [hb0] at hand
        clear e hb hb0
        go_wp2_with fail
        go_roundw
        case rel => exact ⟨k + 1, by omega, by omega, by go_num, by rw [HE.out]; exact hI.out.1, hI.out.2⟩
        case measure => first | (simp [intOf]; done) | (simp [intOf]; omega)
    · obtain rfl : k = 16 := by omega
      go_wp2_with fail
      go_ret
      exact ⟨_, rfl, hI.out.1, hI.out.2⟩
/-- the harts' numbers, as they stand -/
def dcs8 (d : Nat → Nat) (h : Nat) : List Value := (List.range h).map fun i => Value.int .u64 (d i : Int)
theorem dcs8_len (d : Nat → Nat) (h : Nat) : (dcs8 d h).length = h := by simp [dcs8]
theorem dcs8_at (d : Nat → Nat) (h k : Nat) (hk : k < h) : (dcs8 d h)[k]? = some (.int .u64 (d k : Int)) := by unfold dcs8; simp [hk]
theorem dcs8_set (d : Nat → Nat) (h k x : Nat) : (dcs8 d h).toArray.setIfInBounds k (.int .u64 (x : Int)) = (dcs8 (upd d k x) h).toArray := by
  apply Array.ext'
  simp only [Array.toList_setIfInBounds]
  apply List.ext_getElem?
  intro j
  rw [List.getElem?_set]
  rcases Nat.lt_or_ge j h with q | q
  · rw [dcs8_at _ _ _ q, dcs8_at _ _ _ q, dcs8_len]
    by_cases e : k = j
    · subst e; rw [if_pos rfl, if_pos q, upd_same]
    · rw [if_neg e, upd_other _ _ _ _ (Ne.symm e)]
  · rw [List.getElem?_eq_none (by rw [dcs8_len]; exact q), List.getElem?_eq_none (by rw [dcs8_len]; exact q), dcs8_len]
    split
    · rw [if_neg (by omega)]
    · rfl
structure Sh (w : World) (p g h : Nat) (d : Nat → Nat) : Prop where
  top : w.heap[p]? = some (.cells #[.slice (some ⟨g, 0, none⟩) h h] 183 (0, 0))
  tab : w.heap[g]? = some (.cells (dcs8 d h).toArray 138 (0, 0))
  h0 : 1 ≤ h
  h8 : h ≤ 8
  dl : ∀ i, d i < 65536
section
variable {w w' : World} {p g h : Nat} {d : Nat → Nat}
theorem Sh.c0 (H : Sh w p g h d) : w.cell? ⟨p, 0, none⟩ = some (.slice (some ⟨g, 0, none⟩) h h) := cell_of_row w p 0 _ _ _ H.top
theorem Sh.cd (H : Sh w p g h d) (i : Nat) (hi : i < h) : w.cell? ⟨g, i, none⟩ = some (.int .u64 (d i : Int)) := by
  rw [cell_of_row w g i _ _ _ H.tab]
  simpa using dcs8_at d h i hi
theorem Sh.fz (H : Sh w p g h d) (i : Nat) : w.frozen? ⟨g, i, none⟩ = false := frozen_of_row w g i _ _ H.tab
theorem Sh.ne (H : Sh w p g h d) : p ≠ g := fun e => by have := H.top; rw [e, H.tab] at this; simp at this
theorem Sh.only (H : Sh w p g h d) {T : Nat → Prop} (ho : Only T w w') (h1 : ¬ T p) (h2 : ¬ T g) : Sh w' p g h d := ⟨ho.old H.top h1, ho.old H.tab h2, H.h0, H.h8, H.dl⟩
theorem Sh.below (H : Sh w p g h d) (hb : Below w.heap.size w w') : Sh w' p g h d := H.only (T := fun _ => False) (.ofBelow hb) (fun z => z) fun z => z
theorem Sh.set (H : Sh w p g h d) (k x : Nat) (hx : x < 65536) : Sh (w.setCell ⟨g, k, none⟩ (.int .u64 (x : Int))) p g h (upd d k x) :=
  ⟨(only_c w g k _).old H.top H.ne, setRowB w g k _ _ _ _ H.tab (dcs8_set d h k x), H.h0, H.h8, fun i => by
    unfold upd
    split
    · exact hx
    · exact H.dl i⟩
end
theorem Sh.dn {w : World} {p g h : Nat} {d : Nat → Nat} {k : Nat} {x : Value} (H : Sh (w.setCell ⟨g, k, none⟩ x) p g h d) (n : Nat) : Sh ((w.drewN n).setCell ⟨g, k, none⟩ x) p g h d := ⟨H.top, H.tab, H.h0, H.h8, H.dl⟩
theorem info_au : (Try.prog.info? 138).map (fun i => (i.zero, i.size, i.bytes)) = some (some (.agg #[.int .u64 0]), 1, 8) := by kernel_rfl
theorem u_sau : Try.prog.underlying 181 = some (.slice 138) := by kernel_rfl
theorem made_au (n : Nat) : madeCells (Value.agg #[.int .u64 0]).cells (n * 1) = (dcs8 (fun _ => 0) n).toArray := by
  apply Array.ext
  · rw [size_madeCells]; simp [dcs8]
  · intro j h1 h2
    have e : (Value.agg #[.int .u64 0]).cells = #[.int .u64 0] := by rfl
    simp only [madeCells, Array.getElem_map, Array.getElem_range, e]
    simp [dcs8, Nat.mod_one]
theorem sh_New_bad (w : World) (h : Int) (hb : h < 1 ∨ 8 < h) : Calls Try.prog 26 #[.int .i64 h] w fun r w' => r = .returned (.tuple #[.pointer none, .int .i64 1]) ∧ w' = w := by
  go_enter Try.func26, Try.ntmps26
  by_cases h1 : h < 1
  · go_wp2; go_ret2; exact ⟨rfl, rfl⟩
  · have h2 : h > 8 := by omega
    go_wp2; go_ret2; exact ⟨rfl, rfl⟩
theorem sh_New (w : World) (h : Nat) (h1 : 1 ≤ h) (h8 : h ≤ 8) : Calls Try.prog 26 #[.int .i64 h] w fun r w' => ∃ p, r = .returned (.tuple #[.pointer (some ⟨p, 0, none⟩), .int .i64 0]) ∧ ∃ g, Sh w' p g h (fun _ => 0) ∧ Below w.heap.size w w' ∧ w.heap.size ≤ p ∧ w.heap.size ≤ g := by
  have g1 : ¬ (h : Int) < 1 := by omega
  have g2 : ¬ (8 : Int) < h := by omega
  go_enter Try.func26, Try.ntmps26
  go_wp2_with (at_make; refine wpList_made _ rfl _ _ 181 rfl 138 _ 1 8 u_sau info_au h rfl rfl (by omega) (by omega) _ (made_au h) ?_)
  go_ret2
  refine ⟨w.heap.size + 1, rfl, w.heap.size, ⟨heap_alloc2_new w _ _, heap_alloc2_old w _ _, h1, h8, fun _ => by decide⟩, ((Below.refl _ _).alloc (Nat.le_refl _) _).alloc (by simp) _, by omega, Nat.le_refl _⟩
def orB (d vm : Nat) : Nat := d ||| 2 ^ vm
theorem orB_lt {d vm : Nat} (hd : d < 65536) (hv : vm ≤ 15) : orB d vm < 65536 := by
  have : 2 ^ vm < 2 ^ 16 := Nat.pow_lt_pow_right (by decide) (by omega)
  exact Nat.or_lt_two_pow (n := 16) hd this
/-- how far Post has come -/
def pst (d : Nat → Nat) (vm k : Nat) : Nat → Nat := fun i => if i < k then orB (d i) vm else d i
theorem pst_step (d : Nat → Nat) (vm k : Nat) : upd (pst d vm k) k (orB (d k) vm) = pst d vm (k + 1) := by
  funext i
  unfold upd pst
  by_cases e : i = k
  · subst e; rw [if_pos rfl, if_pos (by omega)]
  · rw [if_neg e]
    by_cases q : i < k
    · rw [if_pos q, if_pos (by omega)]
    · rw [if_neg q, if_neg (by omega)]
theorem sh_Post_no (w : World) (p : Nat) (x : Int) (hx : vmOk x = false) : Calls Try.prog 30 #[.pointer (some ⟨p, 0, none⟩), .int .i64 x] w fun r w' => r = .returned (.tuple #[]) ∧ w' = w := by
  have hv := c_isVmid x
  rw [hx] at hv
  go_enter Try.func30, Try.ntmps30
  go_wp2_with (go_at_call 88; refine (hv _).mono ?_; rintro r w1 ⟨rfl, hw⟩; obtain rfl := hw.symm)
  go_returns
  exact ⟨rfl, rfl⟩
set_option maxHeartbeats 1000000 in
theorem sh_Post (w : World) (p g h : Nat) (d : Nat → Nat) (H : Sh w p g h d) (vm : Nat) (v1 : 1 ≤ vm) (v15 : vm ≤ 15) : Calls Try.prog 30 #[.pointer (some ⟨p, 0, none⟩), .int .i64 vm] w fun r w' => r = .returned (.tuple #[]) ∧ Sh w' p g h (pst d vm h) ∧ Only (· = g) w w' := by
  have hv := c_isVmid (vm : Int)
  rw [show vmOk (vm : Int) = true by unfold vmOk; simp; omega] at hv
  have c0 := H.c0
  have h8 := H.h8
  have HH := hid H
  obtain ⟨B, hB⟩ : ∃ B : Nat, B = 2 ^ vm := ⟨_, rfl⟩
  have hpw : ((2 : Int) ^ vm) = (B : Int) := by rw [hB, Int.natCast_pow]; rfl
  have hpl : B < 65536 := by have : 2 ^ vm < 2 ^ 16 := Nat.pow_lt_pow_right (by decide) (by omega); rw [hB]; exact this
  have hwr : IntKind.u64.wrap (2 ^ vm) = (B : Int) := by rw [hpw, IntKind.wrap_u64]; omega
  have HPL := hid hpl
  have HBB := hid hB
  clear H hB
  go_enter Try.func30, Try.ntmps30
  go_wp2_with (go_at_call 88; refine (hv _).mono ?_; rintro r w1 ⟨rfl, hw⟩; obtain rfl := hw.symm)
  go_loopw [4, 13] (fun i c wr => ∃ k : Nat, k ≤ h ∧ c = .int .i64 k ∧ Hid (Sh wr p g h (pst d vm k) ∧ Only (· = g) w wr)) (fun i c _ => h - (intOf c).toNat)
  case atStart => exact ⟨0, by omega, rfl, ⟨HH.out.top, HH.out.tab, HH.out.h0, HH.out.h8, HH.out.dl⟩, .refl _⟩
  case round =>
    obtain ⟨k, hk, rfl, hI⟩ := hrel
    by_cases hlt : k < h
    · have e0 := hI.out.1.c0
      have ed := hI.out.1.cd k hlt
      rw [show pst d vm k k = d k by unfold pst; rw [if_neg (Nat.lt_irrefl _)]] at ed
      have ez := hI.out.1.fz k
      have hor : bits .or .u64 (d k : Int) (B : Int) = (orB (d k) vm : Int) := by unfold orB; rw [← HBB.out]; exact bits_or_u64_nat _ _ (by have := HH.out.dl k; omega) (by omega)
      have HS := hid (pst_step d vm k ▸ hI.out.1.set k (orB (d k) vm) (orB_lt (HH.out.dl k) v15))
      have HOR := hid hor
      clear hor
      go_wp2_with fail
      refine wp_region_last_lit (by simp) (by kernel_rfl) (by kernel_rfl) (by kernel_rfl) ?_
      simp only [List.dropLast, List.getLast]
      repeat (go_big_quiet_step (fail))
      refine wpQuiet_nil ?_
      intro _ hwq
      obtain ⟨nq, hwq⟩ := hwq
      subst hwq
      have hO := k_Or ⟨g, k, none⟩ (wr.drewN nq) (d k) B _ ed ez HOR.out
      go_wp2_with (go_at_call 89; refine hO.mono ?_; rintro r w3 ⟨rfl, hw3⟩; have HW3 := hid hw3; clear hw3)
      go_roundw
      case rel => exact ⟨k + 1, by omega, by go_num, by rw [HW3.out]; exact HS.out.dn nq, by rw [HW3.out]; exact hI.out.2.trans (only_dn (only_c (wr.drewN nq) g k _))⟩
      case measure => first | (simp [intOf]; done) | (simp [intOf]; omega)
    · obtain rfl : k = h := by omega
      go_wp2_with fail
      go_end0
      exact ⟨rfl, hI.out.1, hI.out.2⟩
theorem sh_has (w : World) (p g h : Nat) (d : Nat → Nat) (H : Sh w p g h d) (x : Int) : Calls Try.prog 90 #[.pointer (some ⟨p, 0, none⟩), .int .i64 x] w fun r w' => r = .returned (.bool (decide (0 ≤ x) && decide (x < (h : Int)))) ∧ w' = w := by
  have c0 := H.c0
  have h8 := H.h8
  clear H
  go_enter Try.func90, Try.ntmps90
  by_cases h1 : 0 ≤ x
  · go_wp2; go_ret; exact ⟨ret_bool (by rw [Bool.eq_iff_iff]; simp [h1]), rfl⟩
  · go_wp2; go_ret; exact ⟨ret_bool (by rw [Bool.eq_iff_iff]; simp; omega), rfl⟩
theorem sh_Idle (w : World) (p g h : Nat) (d : Nat → Nat) (H : Sh w p g h d) (b : Bool) (hb : (∀ i, i < h → d i = 0) ↔ b = true) : Calls Try.prog 40 #[.pointer (some ⟨p, 0, none⟩)] w fun r w' => r = .returned (.bool b) ∧ w' = w := by
  have c0 := H.c0
  have h8 := H.h8
  have HH := hid H
  have HB := hid hb
  clear H hb
  go_enter Try.func40, Try.ntmps40
  go_wp2_with fail
  go_loopw [3, 9] (fun i c wr => ∃ k : Nat, k ≤ h ∧ c = .int .i64 k ∧ wr = w ∧ Hid (∀ i, i < k → d i = 0)) (fun i c _ => h - (intOf c).toNat)
  case atStart => exact ⟨0, by omega, rfl, rfl, fun i hi => by omega⟩
  case round =>
    obtain ⟨k, hk, rfl, hw, hI⟩ := hrel
    obtain rfl := hw.symm
    by_cases hlt : k < h
    · have ed := HH.out.cd k hlt
      have hl := run_call_load (P := Try.prog) Try.func136 (by kernel_rfl) (by kernel_rfl) (by kernel_rfl) .u64 (by kernel_rfl) ed
      by_cases hz : d k = 0
      · rw [hz] at ed hl
        go_wp2_with (go_at_call 99; go_in)
        go_roundw
        case rel => exact ⟨k + 1, by omega, by go_num, trivial, fun i hi => by
          by_cases q : i = k
          · subst q; exact hz
          · exact hI.out i (by omega)⟩
        case measure => first | (simp [intOf]; done) | (simp [intOf]; omega)
      · have hbf : b = false := by
          rcases hbc : b with _ | _
          · rfl
          · exact absurd (HB.out.2 hbc k hlt) hz
        have hz' : ((d k : Int) != 0) = true := by rw [bne_iff_ne]; omega
        subst hbf
        go_wp2_with (go_at_call 99; go_in)
        go_ret
        exact ⟨rfl, rfl⟩
    · obtain rfl : k = h := by omega
      have hbt : b = true := HB.out.1 hI.out
      subst hbt
      go_wp2_with fail
      go_ret
      exact ⟨rfl, rfl⟩
theorem own_zero {w : World} {base : Nat} {e : TypeId} {size : Nat} {u : Value} {n : Nat} {xs : List Value} (h : w.ownsRow base e size u n xs) : w.ownsRow 0 e size u n xs := by
  refine ⟨h.1, ?_⟩
  rcases h.2 with z | ⟨g, cap, cur, h1, h2, h3⟩
  · exact .inl z
  · exact .inr ⟨g, cap, cur, h1, Nat.zero_le _, h3⟩
theorem ug_at {b l c k : Nat} (h : Ug (.slice (some ⟨b, 0, none⟩) l c) k) : b = k := by simpa [Ug, Value.ownBlock] using h
theorem own_onlyB {w w' : World} {base : Nat} {e : TypeId} {size : Nat} {u : Value} {n : Nat} {xs : List Value} (h : w.ownsRow base e size u n xs) {T : Nat → Prop} (ho : Only T w w') (hd : ∀ k, Ug u k → ¬ T k) : w'.ownsRow base e size u n xs := by
  refine ⟨h.1, ?_⟩
  rcases h.2 with z | ⟨g, cap, cur, h1, h2, h3, h4⟩
  · exact .inl z
  · exact .inr ⟨g, cap, cur, h1, h2, ho.old h3 (hd g (by rw [h1]; rfl)), h4⟩
/-- a TLB from which these VMIDs are flushed -/
def fls (L : List E.TV) : List Nat → List E.TV
  | [] => L
  | v :: l => fls (E.fl L (v : Int)) l
theorem fls_add (L : List E.TV) : ∀ (l : List Nat) (v : Nat), fls L (l ++ [v]) = E.fl (fls L l) (v : Int)
  | [], v => rfl
  | a :: l, v => fls_add (E.fl L (a : Int)) l v
theorem sh_Serve_no (w : World) (p g h : Nat) (d : Nat → Nat) (H : Sh w p g h d) (x : Int) (hx : (decide (0 ≤ x) && decide (x < (h : Int))) = false) (t : Value) (ht : ∃ a, t = .pointer a) : Calls Try.prog 32 #[.pointer (some ⟨p, 0, none⟩), .int .i64 x, t] w fun r w' => r = .returned (.int .i64 0) ∧ w' = w := by
  have hh := sh_has w p g h d H x
  rw [hx] at hh
  obtain ⟨a, rfl⟩ := ht
  clear H
  go_enter Try.func32, Try.ntmps32
  go_wp2_with (go_at_call 90; refine hh.mono ?_; rintro r w1 ⟨rfl, hw⟩; obtain rfl := hw.symm)
  go_ret
  exact ⟨rfl, rfl⟩
set_option maxHeartbeats 2000000 in
theorem sh_Serve (w : World) (p g h : Nat) (d : Nat → Nat) (H : Sh w p g h d) (k : Nat) (hk : k < h) (tp tg room : Nat) (L : List E.TV) (ht : E.TM w tp tg room L) (n1 : p ≠ tp) (n2 : p ≠ tg) (n3 : g ≠ tp) (n4 : g ≠ tg) :
    Calls Try.prog 32 #[.pointer (some ⟨p, 0, none⟩), .int .i64 k, .pointer (some ⟨tp, 0, none⟩)] w fun r w' => r = .returned (.int .i64 (vl (d k) 16).length) ∧ Sh w' p g h (upd d k 0) ∧ E.TM w' tp tg room (fls L (vl (d k) 16)) ∧ Only (fun x => x = g ∨ E.Ft tp tg x) w w' := by
  have hh := sh_has w p g h d H (k : Int)
  rw [show (decide (0 ≤ (k : Int)) && decide ((k : Int) < (h : Int))) = true by simp; omega] at hh
  have c0 := H.c0
  have h8 := H.h8
  have ed := H.cd k hk
  have ez := H.fz k
  have hS := k_Swap ⟨g, k, none⟩ w (d k) 0 ed ez
  have HS := hid (H.set k 0 (by decide))
  have HT := hid ht
  have hdl := H.dl k
  have hll := vl_len (d k) 16
  have HG := hid (lt_of_block H.tab)
  clear H ht ed ez
  go_enter Try.func32, Try.ntmps32
  obtain ⟨w1, hw1⟩ : ∃ w1, w1 = w.setCell ⟨g, k, none⟩ (.int .u64 0) := ⟨_, rfl⟩
  have HS1 : Hid (Sh w1 p g h (upd d k 0)) := by rw [hw1]; exact HS
  have HO1 : Hid (Only (· = g) w w1) := by rw [hw1]; exact only_c _ _ _ _
  have HT1 : Hid (E.TM w1 tp tg room L) := HT.out.only HO1.out (fun x hx e => by rcases hx with z | z <;> omega)
  have hV := x_vmidsOf w1 (d k) (by omega)
  have HW1 := hid hw1
  clear hw1 HS HT
  go_upto_region 4 with (first
    | (go_at_call 90; refine hh.mono ?_; rintro r w2 ⟨rfl, hw⟩; obtain rfl := hw.symm)
    | (go_at_call 92; refine hS.mono ?_; rintro r w2 ⟨rfl, hw⟩; obtain rfl := hw.trans HW1.out.symm; clear hw)
    | (go_at_call 91; refine hV.mono ?_; rintro r w3 ⟨u, rfl, h1, h2⟩; have H1 := hid h1; have H2 := hid h2; obtain ⟨ad, cp, rfl, had⟩ := own_sliceS h1; clear h1 h2 had))
  have z1 := HO1.out.size
  have HS3 := hid (HS1.out.below H2.out)
  have HT3 := hid (HT1.out.below H2.out)
  have HO3 : Hid (Only (fun x => x = g ∨ E.Ft tp tg x) w w3) := (HO1.out.mono fun x _ hx => .inl hx).trans (.ofBelow H2.out)
  clear HS1 HT1
  go_wp2_with fail
  go_loopw [9, 24] (fun i c wr => ∃ j : Nat, j ≤ (vl (d k) 16).length ∧ c = .int .i64 j ∧ Hid (Sh wr p g h (upd d k 0) ∧ E.TM wr tp tg room (fls L ((vl (d k) 16).take j)) ∧ wr.ownsRow 0 3 1 (.slice ad (vl (d k) 16).length cp) (vl (d k) 16).length (lsv (vl (d k) 16)) ∧ Only (fun x => x = g ∨ E.Ft tp tg x) w wr)) (fun i c _ => (vl (d k) 16).length - (intOf c).toNat)
  case atStart => exact ⟨0, by omega, rfl, HS3.out, by rw [List.take_zero]; exact HT3.out, own_zero H1.out, HO3.out⟩
  case round =>
    obtain ⟨j, hj, rfl, hI⟩ := hrel
    by_cases hlt : j < (vl (d k) 16).length
    · obtain ⟨b, cp', cur, e1, e2, e3, e4, e5⟩ := C.own_some hI.out.2.2.1 (by omega)
      simp only [Value.slice.injEq] at e1
      obtain ⟨rfl, -, rfl⟩ := e1
      obtain ⟨v, hv⟩ : ∃ v, (vl (d k) 16)[j]? = some v := ⟨(vl (d k) 16)[j], List.getElem?_eq_getElem hlt⟩
      have hc : wr.cell? ⟨b, j, none⟩ = some (.int .i64 (v : Int)) := by
        rw [cell_of_row wr b j _ _ _ e3]
        have : (lsv (vl (d k) 16))[j]? = some (.int .i64 (v : Int)) := by unfold lsv; rw [List.getElem?_map, hv]; rfl
        rw [← e5, List.getElem?_take_of_lt hlt] at this
        simpa using this
      have hF := E.c_Flush wr tp tg room _ hI.out.2.1 (v : Int)
      have ht1 : (vl (d k) 16).take (j + 1) = (vl (d k) 16).take j ++ [v] := by rw [List.take_add_one, hv]; rfl
      rw [← fls_add, ← ht1] at hF
      have nb : ¬ E.Ft tp tg b := fun z => by
        rcases z with z | z
        · have := hI.out.2.1.top; rw [← z, e3] at this; simp at this
        · obtain ⟨Z, hZ, -, -⟩ := hI.out.2.1.row
          unfold E.Rw at hZ
          rw [← z, e3] at hZ
          simp at hZ
      have NB := hid nb
      have E3 := hid e3
      have N5 := hid (⟨e2, e4, e5⟩ : _ ∧ _ ∧ _)
      have HN : Hid (¬ E.Ft tp tg p ∧ ¬ E.Ft tp tg g) := ⟨fun z => by rcases z with z | z <;> omega, fun z => by rcases z with z | z <;> omega⟩
      clear nb e2 e3 e4 e5 ht1
      go_wp2_with (go_at_call 93; refine hF.mono ?_; rintro r w4 ⟨rfl, h1, h2⟩; have H5 := hid h1; have H6 := hid h2; clear h1 h2)
      go_roundw
      case rel => exact ⟨j + 1, by omega, by go_num, hI.out.1.only H6.out HN.out.1 HN.out.2, H5.out, own_onlyB hI.out.2.2.1 H6.out (fun x hx => ug_at hx ▸ NB.out), hI.out.2.2.2.trans (H6.out.mono fun x _ hx => .inr hx)⟩
      case measure => first | (simp [intOf]; done) | (simp [intOf]; omega)
    · obtain rfl : j = (vl (d k) 16).length := by omega
      go_wp2_with fail
      go_ret
      exact ⟨rfl, hI.out.1, by have := hI.out.2.1; rwa [List.take_length] at this, hI.out.2.2.2⟩
end Go.Proofs.Ytdncendokbjnjaa
