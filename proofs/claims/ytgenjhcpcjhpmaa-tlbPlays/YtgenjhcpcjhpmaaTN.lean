/- The document's list: drop, Flush, FlushPage, Look, New. -/
import Derived.Test.YtgenjhcpcjhpmaaTK
namespace Go.Proofs.Ytgenjhcpcjhpmaa
open Go.RowKit
set_option linter.unusedVariables false

/-- the document's TLB as it stands -/
structure RM (w : World) (q room : Nat) (v : Value) (L : List TV) : Prop where
  top : w.heap[q]? = some (.cells #[.int .i64 room, v] 45 (0, 0))
  es : Es w 0 v L
  len : L.length ≤ 64
  room : room ≤ 64
theorem Es.weak {w : World} {base : Nat} {v : Value} {L : List TV} (h : Es w base v L) : Es w 0 v L :=
  ⟨h.1, h.2.imp id fun ⟨g, cap, cur, e, hb, hg, rest⟩ => ⟨g, cap, cur, e, Nat.zero_le _, hg, rest⟩⟩
theorem Es.block {w : World} {base : Nat} {v : Value} {L : List TV} (h : Es w base v L) {k : Nat} (hk : v.ownBlock = some k) : ∃ cur, w.heap[k]? = some (.cells cur 33 (0, 0)) := by
  rcases h.2 with ⟨rfl, _⟩ | ⟨g, cap, cur, rfl, hbg, hg, _⟩
  · cases hk
  · obtain rfl : g = k := by simpa [Value.ownBlock] using hk
    exact ⟨cur, hg⟩
section
variable {w : World} {q room : Nat} {v : Value} {L : List TV}
theorem RM.ne (h : RM w q room v L) : v.ownBlock ≠ some q := fun e => by
  obtain ⟨cur, hc⟩ := h.es.block e
  have := h.top.symm.trans hc
  simp at this
theorem RM.lt (h : RM w q room v L) : q < w.heap.size := lt_of_block h.top
theorem RM.only {w' : World} {S : Nat → Prop} (h : RM w q room v L) (ho : Only S w w') (h1 : ¬ S q) (h2 : ∀ k, v.ownBlock = some k → ¬ S k) : RM w' q room v L :=
  ⟨ho.old h.top h1, h.es.only ho h2, h.len, h.room⟩
theorem RM.below {w' : World} (h : RM w q room v L) (hb : Below w.heap.size w w') : RM w' q room v L := h.only (S := fun _ => False) (.ofBelow hb) (fun z => z) (fun _ _ z => z)
theorem RM.c0 (h : RM w q room v L) : w.cell? ⟨q, 0, none⟩ = some (.int .i64 room) := by rw [cell_of_row w _ 0 _ _ _ h.top]; rfl
theorem RM.c1 (h : RM w q room v L) : w.cell? ⟨q, 1, none⟩ = some v := by rw [cell_of_row w _ 1 _ _ _ h.top]; rfl
theorem RM.z (h : RM w q room v L) (j : Nat) : w.frozen? ⟨q, j, none⟩ = false := frozen_of_row w q j _ _ h.top
theorem RM.set {w' : World} (h : RM w q room v L) (ho : Only (fun _ => False) w w') {base : Nat} {v' : Value} {L' : List TV} (he : Es w' base v' L') (hl : L'.length ≤ 64) : RM (w'.setCell ⟨q, 1, none⟩ v') q room v' L' := by
  have hq := ho.old h.top (fun z => z)
  refine ⟨by rw [heap_setCell_same _ _ 1 _ _ _ hq]; rfl, he.weak.only (S := (· = q)) ((Only.refl (S := (· = q)) w').setCell (p := ⟨q, 1, none⟩) (.inl rfl) _) (fun k hk e => ?_), hl, h.room⟩
  obtain ⟨cur, hc⟩ := he.block hk
  subst e
  have := hq.symm.trans hc
  simp at this
end
/-- what the document keeps -/
def dp (L : List TV) (v : Int) (one : Bool) (p : Int) : List TV := L.filter fun x => !decide (x.v = v) || (one && !decide (x.p = p))
theorem dp_fl (L : List TV) (v p : Int) : dp L v false p = fl L v := by unfold dp fl; congr 1; funext x; simp
theorem dp_fp (L : List TV) (v p : Int) : dp L v true p = fp L v p := by
  unfold dp fp; congr 1; funext x; simp [TV.here]
theorem dp_step (L : List TV) (k : Nat) (x : TV) (h : L[k]? = some x) (v : Int) (one : Bool) (p : Int) : dp (L.take (k + 1)) v one p = dp (L.take k) v one p ++ (if (!decide (x.v = v) || (one && !decide (x.p = p))) = true then [x] else []) := take_succ_filter L _ k x h
theorem dp_le (L : List TV) (v : Int) (one : Bool) (p : Int) (k : Nat) : (dp (L.take k) v one p).length ≤ L.length := Nat.le_trans (List.length_filter_le _ _) (by simp; omega)
set_option maxHeartbeats 2000000 in
theorem r_drop (w : World) (q room : Nat) (v : Value) (L : List TV) (h : RM w q room v L) (vm : Int) (one : Bool) (pg : Int) :
    Calls Try.prog 23 #[.pointer (some ⟨q, 0, none⟩), .int .i64 vm, .bool one, .int .u64 pg] w fun e w' => e = .returned (.tuple #[]) ∧ ∃ v', RM w' q room v' (dp L vm one pg) ∧ Only (· = q) w w' ∧ ∀ k, v'.ownBlock = some k → w.heap.size ≤ k := by
  have H := hid h
  have h64 := h.len
  obtain ⟨ad, cap, rfl, hrd⟩ := h.es.rd
  have c1 := h.c1
  have hql := h.lt
  clear h hrd
  go_enter Try.func23, Try.ntmps23
  go_wp2_with fail
  go_loopw [8, 9] (fun s i wr => ∃ (k : Nat), k ≤ L.length ∧ i = .int .i64 k ∧ Es wr w.heap.size s (dp (L.take k) vm one pg) ∧ Below w.heap.size w wr) (fun _ i _ => L.length - (intOf i).toNat)
  case atStart => exact ⟨0, by omega, rfl, by rw [List.take_zero]; exact Es.nil _ _, Below.refl _ _⟩
  case round =>
    obtain ⟨k, hk, rfl, hes, hb⟩ := hrel
    have HES := hid hes
    have HB := hid hb
    have HMr := hid (H.out.below hb)
    have d1 := HMr.out.c1
    have z1 := HMr.out.z 1
    have hsz := hb.size
    have HDL := hid (dp_le L vm one pg k)
    clear hes hb c1
    by_cases hlt : k < L.length
    · obtain ⟨x, hx⟩ : ∃ x, L[k]? = some x := ⟨_, List.getElem?_eq_getElem hlt⟩
      have HST := hid (dp_step L k x hx vm one pg)
      obtain ⟨ad2, cap2, e2, hrd⟩ := HMr.out.es.rd
      obtain ⟨g1, e3, hg1, x0, x1, x2, x3⟩ := hrd k x hx
      simp only [Value.slice.injEq] at e2
      obtain ⟨rfl, -, rfl⟩ := e2
      subst e3
      clear hx hrd
      have hgo : (x.v = vm ∧ one = false) ∨ (x.v = vm ∧ one = true ∧ x.p = pg) ∨ (¬ x.v = vm) ∨ (x.v = vm ∧ one = true ∧ ¬ x.p = pg) := by
        by_cases a : x.v = vm <;> by_cases c : x.p = pg <;> cases one <;> simp [a, c]
      rcases hgo with ⟨hv, ho⟩ | ⟨hv, ho, hp⟩ | hv | ⟨hv, ho, hp⟩
      · subst hv ho
        go_wp2_with fail
        go_roundw
        case rel => exact ⟨k + 1, by omega, by go_num, by rw [HST.out]; simpa using HES.out, HB.out⟩
        case measure => simp [intOf]; omega
      · subst hv ho hp
        go_wp2_with fail
        go_roundw
        case rel => exact ⟨k + 1, by omega, by go_num, by rw [HST.out]; simpa using HES.out, HB.out⟩
        case measure => simp [intOf]; omega
      · have hvb : (x.v != vm) = true := by simp [hv]
        go_wp2_with (at_builtin; refine wpL_push rfl _ _ rfl w.heap.size u8 (dp (L.take k) vm one pg) rfl (HES.out.below ((Below.refl _ _).alloc (Nat.le_refl _) _)) (by have := HDL.out; omega) wr.heap.size 1 x rfl (by
            intro j u hj
            unfold TV.cs at hj
            match j, hj with
            | 0, hj => simp at hj; subst hj; simp
            | 1, hj => simp at hj; subst hj; simp
            | 2, hj => simp at hj; subst hj; simp
            | 3, hj => simp at hj; subst hj; simp) (by simp; omega) ?_; intro v' w4 he4 hg4; have HE4 := hid he4; have HG4 := hid hg4; clear he4 hg4)
        go_roundw
        case rel => exact ⟨k + 1, by omega, by go_num, by rw [HST.out, if_pos (by simp [hv])]; exact HE4.out, (HB.out.alloc hsz _).grown HG4.out (by simp; omega) (fun k' z => (HES.out.lt z).1)⟩
        case measure => simp [intOf]; omega
      · have hpb : (x.p != pg) = true := by simp [hp]
        subst hv ho
        go_wp2_with (at_builtin; refine wpL_push rfl _ _ rfl w.heap.size u8 (dp (L.take k) x.v true pg) rfl (HES.out.below ((Below.refl _ _).alloc (Nat.le_refl _) _)) (by have := HDL.out; omega) wr.heap.size 1 x rfl (by
            intro j u hj
            unfold TV.cs at hj
            match j, hj with
            | 0, hj => simp at hj; subst hj; simp
            | 1, hj => simp at hj; subst hj; simp
            | 2, hj => simp at hj; subst hj; simp
            | 3, hj => simp at hj; subst hj; simp) (by simp; omega) ?_; intro v' w4 he4 hg4; have HE4 := hid he4; have HG4 := hid hg4; clear he4 hg4)
        go_roundw
        case rel => exact ⟨k + 1, by omega, by go_num, by rw [HST.out, if_pos (by simp [hp])]; exact HE4.out, (HB.out.alloc hsz _).grown HG4.out (by simp; omega) (fun k' z => (HES.out.lt z).1)⟩
        case measure => simp [intOf]; omega
    · obtain rfl : k = L.length := by omega
      rw [List.take_length] at HES HDL
      obtain ⟨ad9, cap9, e9, -⟩ := HES.out.rd
      subst e9
      go_wp2_with fail
      go_returns
      refine ⟨rfl, _, HMr.out.set (Only.refl wr) HES.out (by have := HDL.out; omega), ?_, fun k hk => (HES.out.lt hk).1⟩
      exact (Only.ofBelow (S := (· = q)) HB.out).setCell (p := ⟨q, 1, none⟩) (.inl rfl) _
theorem r_Flush (w : World) (q room : Nat) (v : Value) (L : List TV) (h : RM w q room v L) (vm : Int) :
    Calls Try.prog 17 #[.pointer (some ⟨q, 0, none⟩), .int .i64 vm] w fun e w' => e = .returned (.tuple #[]) ∧ ∃ v', RM w' q room v' (fl L vm) ∧ Only (· = q) w w' ∧ ∀ k, v'.ownBlock = some k → w.heap.size ≤ k := by
  have H := hid (r_drop w q room v L h vm false 0)
  rw [dp_fl] at H
  clear h
  go_enter Try.func17, Try.ntmps17
  go_wp2_with (go_at_call 23; refine H.out.mono ?_; rintro e w1 ⟨rfl, h1⟩; have H1 := hid h1; clear h1)
  go_returns
  exact ⟨rfl, H1.out⟩
theorem r_FlushPage (w : World) (q room : Nat) (v : Value) (L : List TV) (h : RM w q room v L) (vm pg : Int) :
    Calls Try.prog 19 #[.pointer (some ⟨q, 0, none⟩), .int .i64 vm, .int .u64 pg] w fun e w' => e = .returned (.tuple #[]) ∧ ∃ v', RM w' q room v' (fp L vm pg) ∧ Only (· = q) w w' ∧ ∀ k, v'.ownBlock = some k → w.heap.size ≤ k := by
  have H := hid (r_drop w q room v L h vm true pg)
  rw [dp_fp] at H
  clear h
  go_enter Try.func19, Try.ntmps19
  go_wp2_with (go_at_call 23; refine H.out.mono ?_; rintro e w1 ⟨rfl, h1⟩; have H1 := hid h1; clear h1)
  go_returns
  exact ⟨rfl, H1.out⟩
theorem r_New_bad (w : World) (room : Int) (h : room < 1 ∨ 64 < room) : Calls Try.prog 7 #[.int .i64 room] w fun e w' => e = .returned (.tuple #[.pointer none, .int .i64 1]) ∧ w' = w := by
  rcases h with h | h
  · go_enter Try.func7, Try.ntmps7
    go_wp2
    go_returns
    exact ⟨rfl, rfl⟩
  · have h1 : ¬ room < 1 := by omega
    go_enter Try.func7, Try.ntmps7
    go_wp2
    go_returns
    exact ⟨rfl, rfl⟩
theorem r_New (w : World) (room : Nat) (h0 : 0 < room) (h1 : room ≤ 64) (n : Int) (hn : n = room) : Calls Try.prog 7 #[.int .i64 n] w fun e w' => e = .returned (.tuple #[.pointer (some ⟨w.heap.size, 0, none⟩), .int .i64 0]) ∧ RM w' w.heap.size room (.slice none 0 0) [] ∧ Below w.heap.size w w' := by
  subst hn
  have g1 : ¬ (room : Int) < 1 := by omega
  have g2 : ¬ 64 < (room : Int) := by omega
  go_enter Try.func7, Try.ntmps7
  go_wp2
  go_returns
  exact ⟨rfl, ⟨heap_alloc_new w _, Es.nil _ _, by simp, h1⟩, (Below.refl _ _).alloc (Nat.le_refl _) _⟩
set_option maxHeartbeats 2000000 in
theorem r_Look (w : World) (q room : Nat) (v : Value) (L : List TV) (h : RM w q room v L) (vm pg : Int) : Calls Try.prog 13 #[.pointer (some ⟨q, 0, none⟩), .int .i64 vm, .int .u64 pg] w fun e w' => e = .returned (.tuple #[(lk L vm pg).1.ag, .bool (lk L vm pg).2]) ∧ Below w.heap.size w w' := by
  have H := hid h
  have h64 := h.len
  obtain ⟨ad, cap, rfl, hrd⟩ := h.es.rd
  have c1 := h.c1
  have hql := h.lt
  clear h hrd
  go_enter Try.func13, Try.ntmps13
  go_wp2_with fail
  go_loopw [8] (fun i wr => ∃ (k : Nat), k ≤ L.length ∧ i = .int .i64 k ∧ (∀ j y, j < k → L[j]? = some y → y.here vm pg = false) ∧ Rw wr w.heap.size [TV.zero] ∧ Below w.heap.size w wr) (fun i _ => L.length - (intOf i).toNat)
  case atStart => exact ⟨0, by omega, rfl, fun j y hj => by omega, by show _ = _; rw [heap_alloc_new]; rfl, (Below.refl _ _).alloc (Nat.le_refl _) _⟩
  case round =>
    obtain ⟨k, hk, rfl, hn, hr, hb⟩ := hrel
    have HN := hid hn
    have HR := hid hr
    have HB := hid hb
    have HMr := hid (H.out.below hb)
    have d1 := HMr.out.c1
    obtain ⟨r0, r1, r2, r3⟩ := cells1 hr
    have z0 := hr.z 0
    have z1 := hr.z 1
    have z2 := hr.z 2
    have z3 := hr.z 3
    have hrl := hr.lt
    clear hn hr hb c1
    by_cases hlt : k < L.length
    · obtain ⟨x, hx⟩ : ∃ x, L[k]? = some x := ⟨_, List.getElem?_eq_getElem hlt⟩
      obtain ⟨ad2, cap2, e2, hrd⟩ := HMr.out.es.rd
      obtain ⟨g1, e3, hg1, x0, x1, x2, x3⟩ := hrd k x hx
      simp only [Value.slice.injEq] at e2
      obtain ⟨rfl, -, rfl⟩ := e2
      subst e3
      have HX := hid hx
      clear hx hrd
      have step : ∀ (hh : x.here vm pg = false), ∀ (j : Nat) (y : TV), j < k + 1 → L[j]? = some y → y.here vm pg = false := fun hh j y hj hy => by
        by_cases e : j = k
        · subst e; rw [HX.out] at hy; cases hy; exact hh
        · exact HN.out j y (by omega) hy
      have HSP := hid step
      clear step
      by_cases hv : x.v = vm
      · by_cases hp : x.p = pg
        · subst hv hp
          obtain ⟨v0, v1, v2, v3⟩ := cells1 (set4 HR.out x)
          go_wp2_with fail
          refine bodyPost_ret (v := .tuple #[x.ag, .bool true]) (by simp [results, Try.results13, go_sem, v0, v1, v2, v3]) rfl ?_
          exact ⟨by rw [lk_some HX.out (here_iff.2 ⟨rfl, rfl⟩) HN.out], below4 HB.out (Nat.le_refl _) x⟩
        · subst hv
          go_wp2_with fail
          go_roundw
          case rel => exact ⟨k + 1, by omega, by go_num, HSP.out (by simp [TV.here, hp]), HR.out, HB.out⟩
          case measure => simp [intOf]; omega
      · go_wp2_with fail
        go_roundw
        case rel => exact ⟨k + 1, by omega, by go_num, HSP.out (by simp [TV.here, hv]), HR.out, HB.out⟩
        case measure => simp [intOf]; omega
    · obtain rfl : k = L.length := by omega
      obtain ⟨v0, v1, v2, v3⟩ := cells1 (set4 HR.out TV.zero)
      simp only [TV.zero] at v0 v1 v2 v3
      go_wp2_with fail
      refine bodyPost_ret (v := .tuple #[TV.zero.ag, .bool false]) (by simp [results, Try.results13, go_sem, v0, v1, v2, v3, TV.zero]) rfl ?_
      refine ⟨by rw [lk_none fun j y hy => HN.out j y (List.getElem?_eq_some_iff.1 hy).1 hy], below4 HB.out (Nat.le_refl _) TV.zero⟩
end Go.Proofs.Ytgenjhcpcjhpmaa
