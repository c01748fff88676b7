/- Lists that grow. -/
import Derived.Test.YtdncendokbjnjaaME1
namespace Go.Proofs.Ytdncendokbjnjaa.E
open Go.Proofs.Ytdncendokbjnjaa.C
open Go.RowKit
set_option linter.unusedVariables false
set_option maxRecDepth 100000

theorem wpL_push {ops : Array Oper} {rest : List Oper} {o : Oper} {a : Act} {w : World} {Q : Exit → Act → World → Prop} (hgd : o.guard = none) (s x : Operand)
    (ho : o.op = .call { callee := .builtin .append, args := #[s, x], argTypes := #[97, 97] })
    (base : Nat) (v : Value) (M : List TV) (hs : a.eval s = v) (hown : Es w base v M) (h64 : M.length ≤ 64) (b m : Nat) (y : TV) (hx : a.eval x = .slice (some ⟨b, 0, none⟩) 1 m) (hy : ∀ j u, y.cs[j]? = some u → w.cell? ⟨b, j, none⟩ = some u) (hb : base ≤ w.heap.size)
    (h : ∀ v' w', Es w' base v' (M ++ [y]) → w.grownBy w' v.ownBlock → wpList Try.prog ops Q rest (a.put o.dst v') w') : wpList Try.prog ops Q (o :: rest) a w := by
  obtain ⟨i0, hi, hz0, hz1, hz2⟩ := info_parts info_t
  refine wpList_append_own _ hgd s x 97 ho base 92 i0 (.agg #[.int .i64 0, .int .u64 0, .int .u64 0, .int .i64 0]) 4 32 u_sT hi hz0 hz1 hz2 rfl (by decide) v M.length (flat M) hs hown ⟨b, 0, none⟩ 1 m y.cs hx rfl (fun j u hj => by rw [addr_add, Nat.zero_add]; exact hy j u hj) y.one (by unfold maxLen; omega) (by omega) hb ?_
  intro v' w' h1 h2 _
  refine h v' w' ?_ h2
  unfold Es
  rw [flat_append, flat_one, List.length_append]
  exact h1
theorem Es.nil (w : World) (base : Nat) : Es w base (.slice none 0 0) [] := World.ownsRow_nil w base _ _
theorem Es.form {w : World} {base : Nat} {v : Value} {L : List TV} (h : Es w base v L) (hn : 0 < L.length) : ∃ g cap, v = .slice (some ⟨g, 0, none⟩) L.length cap := by
  rcases h.2 with ⟨_, h0⟩ | ⟨g, cap, cur, rfl, hbg, hg, _⟩
  · omega
  · exact ⟨g, cap, rfl⟩
theorem Es.lt {w : World} {base : Nat} {v : Value} {L : List TV} (h : Es w base v L) {k : Nat} (hk : v.ownBlock = some k) : base ≤ k ∧ k < w.heap.size := World.ownsRow.lt h k hk
theorem Es.below {w w' : World} {base : Nat} {v : Value} {L : List TV} (h : Es w base v L) (hb : Below w.heap.size w w') : Es w' base v L :=
  World.ownsRow.kept (row := none) h ⟨hb.os, hb.tape, hb.output, hb.size, fun k hk _ => hb.block k hk⟩ (by cases v.ownBlock <;> simp)
theorem Es.kept {w w' : World} {base : Nat} {v : Value} {L : List TV} {row : Option Nat} (h : Es w base v L) (hg : w.grownBy w' row) (hne : ∀ k, v.ownBlock = some k → row ≠ some k) : Es w' base v L :=
  World.ownsRow.kept h hg (by
    cases q : v.ownBlock with
    | none => exact .inl rfl
    | some k => exact .inr fun e => hne k q e.symm)
theorem Es.only {w w' : World} {base : Nat} {v : Value} {L : List TV} {S : Nat → Prop} (h : Es w base v L) (ho : Only S w w') (hd : ∀ k, v.ownBlock = some k → ¬ S k) : Es w' base v L :=
  ⟨h.1, h.2.imp id fun ⟨g, cap, cur, e, hb, hg, rest⟩ => ⟨g, cap, cur, e, hb, ho.old hg (hd g (by rw [e]; rfl)), rest⟩⟩
theorem flat_f (M : List TV) (i : Nat) (x : TV) (hx : M[i]? = some x) (n : Int) : (flat M).set (i * 4 + 2) (.int .u64 n) = flat (M.set i ⟨x.v, x.p, n, x.r⟩) := by
  induction M generalizing i with
  | nil => simp at hx
  | cons y M ih =>
    cases i with
    | zero =>
      simp at hx
      subst hx
      simp [flat, TV.cs]
    | succ i =>
      have := ih i (by simpa using hx)
      rw [List.set_cons_succ, flat, flat, ← this, List.set_append_right _ _ (by show 4 ≤ _; omega)]
      congr 2
      show _ - 4 = _
      omega
theorem Es.stored {w : World} {base g cap : Nat} {M : List TV} (h : Es w base (.slice (some ⟨g, 0, none⟩) M.length cap) M) {i : Nat} {x : TV} (hx : M[i]? = some x) (n : Int) : Es (w.setCell ⟨g, i * 4 + 2, none⟩ (.int .u64 n)) base (.slice (some ⟨g, 0, none⟩) M.length cap) (M.set i ⟨x.v, x.p, n, x.r⟩) ∧ w.grownBy (w.setCell ⟨g, i * 4 + 2, none⟩ (.int .u64 n)) (some g) := by
  have := World.ownsRow.stored h (i * 4 + 2) (.int .u64 n)
  rw [flat_f M i x hx n] at this
  refine ⟨?_, this.2⟩
  unfold Es
  rw [List.length_set]
  exact this.1
theorem fl_step (L : List TV) (k : Nat) (x : TV) (h : L[k]? = some x) (v : Int) : fl (L.take (k + 1)) v = fl (L.take k) v ++ (if x.v = v then [] else [x]) := by
  have := take_succ_filter L (fun x => !decide (x.v = v)) k x h
  unfold fl
  rw [this]
  by_cases q : x.v = v <;> simp [q]
theorem fl_le (L : List TV) (v : Int) (k : Nat) : (fl (L.take k) v).length ≤ L.length := Nat.le_trans (List.length_filter_le _ _) (by simp; omega)
theorem Below.grownBy {B : Nat} {w0 w w' : World} {row : Option Nat} (h : Below B w0 w) (hg : w.grownBy w' row) (hr : ∀ k, row = some k → B ≤ k) (hs : B ≤ w.heap.size) : Below B w0 w' := h.grown hg hs hr
end Go.Proofs.Ytdncendokbjnjaa.E
namespace Go.Proofs.Ytdncendokbjnjaa.E
open Go.Proofs.Ytdncendokbjnjaa.C
open Go.RowKit
set_option linter.unusedVariables false
set_option maxRecDepth 100000

/-- no page twice -/
def Nd (L : List TV) : Prop := L.Pairwise fun x y => x.here y.v y.p = false
theorem Nd.nil : Nd [] := List.Pairwise.nil
theorem Nd.filter {L : List TV} (h : Nd L) (K : TV → Bool) : Nd (L.filter K) := List.Pairwise.filter K h
theorem Nd.fp {L : List TV} (h : Nd L) (v p : Int) : Nd (fp L v p) := h.filter _
theorem Nd.fl {L : List TV} (h : Nd L) (v : Int) : Nd (fl L v) := h.filter _
theorem Nd.ev {L : List TV} (h : Nd L) : Nd (ev L) := by
  cases L with
  | nil => exact h
  | cons y L => exact Nd.fp h _ _
theorem mem_fp {L : List TV} {v p : Int} {x : TV} : x ∈ fp L v p ↔ x ∈ L ∧ x.here v p = false := by
  unfold fp
  rw [List.mem_filter]
  simp
theorem mem_fl {L : List TV} {v : Int} {x : TV} : x ∈ fl L v ↔ x ∈ L ∧ x.v ≠ v := by
  unfold fl
  rw [List.mem_filter]
  simp
theorem mem_ev {L : List TV} {x : TV} (h : x ∈ ev L) : x ∈ L := by
  cases L with
  | nil => exact h
  | cons y L => exact (mem_fp.1 h).1
theorem mem_pu {room : Nat} {L : List TV} {e x : TV} (h : x ∈ pu room L e) : x ∈ fp L e.v e.p ∨ x = e := by
  unfold pu at h
  rw [List.mem_append, List.mem_singleton] at h
  rcases h with h | h
  · split at h
    · exact .inl (mem_ev h)
    · exact .inl h
  · exact .inr h
theorem Nd.pu {L : List TV} (h : Nd L) (room : Nat) (e : TV) : Nd (pu room L e) := by
  unfold Go.Proofs.Ytdncendokbjnjaa.E.pu Nd
  rw [List.pairwise_append]
  refine ⟨?_, List.pairwise_singleton _ _, fun a ha b hb => ?_⟩
  · split
    · exact Nd.ev (Nd.fp h _ _)
    · exact Nd.fp h _ _
  · rw [List.mem_singleton] at hb
    subst hb
    split at ha
    · exact (mem_fp.1 (mem_ev ha)).2
    · exact (mem_fp.1 ha).2
/-- what is there of a page was put last -/
def Iv (L : List TV) (v p : Int) (lst : TV) (b : Bool) : Prop := ∀ x, x ∈ L → x.here v p = true → b = true ∧ x = lst
theorem here_iff {x : TV} {v p : Int} : x.here v p = true ↔ x.v = v ∧ x.p = p := by simp [TV.here]
theorem Iv.nil (v p : Int) (lst : TV) (b : Bool) : Iv [] v p lst b := fun x hx => by simp at hx
theorem Iv.sub {L M : List TV} {v p : Int} {lst : TV} {b : Bool} (h : Iv L v p lst b) (hs : ∀ x, x ∈ M → x ∈ L) : Iv M v p lst b := fun x hx q => h x (hs x hx) q
theorem Iv.put_in {L : List TV} {v p : Int} {lst : TV} {b : Bool} (h : Iv L v p lst b) (room : Nat) (e : TV) (he : e.v = v ∧ e.p = p) : Iv (pu room L e) v p e true := by
  intro x hx q
  rcases mem_pu hx with hx | hx
  · have := (mem_fp.1 hx).2
    rw [he.1, he.2, q] at this
    cases this
  · exact ⟨rfl, hx⟩
theorem Iv.put_out {L : List TV} {v p : Int} {lst : TV} {b : Bool} (h : Iv L v p lst b) (room : Nat) (e : TV) (he : ¬ (e.v = v ∧ e.p = p)) : Iv (pu room L e) v p lst b := by
  intro x hx q
  rcases mem_pu hx with hx | hx
  · exact h x (mem_fp.1 hx).1 q
  · subst hx; exact absurd (here_iff.1 q) he
theorem Iv.fl {L : List TV} {v p : Int} {lst : TV} {b : Bool} (h : Iv L v p lst b) (u : Int) : Iv (fl L u) v p lst (b && !decide (u = v)) := by
  intro x hx q
  obtain ⟨h1, h2⟩ := mem_fl.1 hx
  obtain ⟨h3, h4⟩ := h x h1 q
  have := (here_iff.1 q).1
  refine ⟨?_, h4⟩
  have e : ¬ u = v := fun e => h2 (by rw [this, e])
  simp [h3, e]
theorem Iv.fp {L : List TV} {v p : Int} {lst : TV} {b : Bool} (h : Iv L v p lst b) (u r : Int) : Iv (fp L u r) v p lst (b && (!decide (u = v) || !decide (r = p))) := by
  intro x hx q
  obtain ⟨h1, h2⟩ := mem_fp.1 hx
  obtain ⟨h3, h4⟩ := h x h1 q
  obtain ⟨e1, e2⟩ := here_iff.1 q
  refine ⟨?_, h4⟩
  have e : ¬ (u = v ∧ r = p) := fun ⟨a, c⟩ => by
    rw [a, c, q] at h2
    cases h2
  by_cases a : u = v
  · have : ¬ r = p := fun c => e ⟨a, c⟩
    simp [h3, this]
  · simp [h3, a]
theorem Iv.lk {L : List TV} {v p : Int} {lst : TV} {b : Bool} (h : Iv L v p lst b) : (lk L v p = (lst, true) ∧ b = true) ∨ lk L v p = (TV.zero, false) := by
  unfold Go.Proofs.Ytdncendokbjnjaa.E.lk
  cases q : L.find? (fun x => x.here v p) with
  | none => exact .inr rfl
  | some x =>
    obtain ⟨h1, h2⟩ := h x (List.mem_of_find?_eq_some q) (by simpa using List.find?_some q)
    subst h2
    exact .inl ⟨rfl, h1⟩
theorem Nd.at {L : List TV} (h : Nd L) {i j : Nat} {x y : TV} (hi : L[i]? = some x) (hj : L[j]? = some y) (hij : j < i) : ¬ (x.v = y.v ∧ x.p = y.p) := by
  obtain ⟨hi1, hi2⟩ := List.getElem?_eq_some_iff.1 hi
  obtain ⟨hj1, hj2⟩ := List.getElem?_eq_some_iff.1 hj
  have := List.pairwise_iff_getElem.1 h j i hj1 hi1 hij
  rw [hi2, hj2] at this
  rintro ⟨a, b⟩
  have : y.here x.v x.p = true := here_iff.2 ⟨a.symm, b.symm⟩
  simp_all
theorem tmod_place (z n : Int) (hn : 0 < n) : (z.tmod n < 0 → z.tmod n + n = z % n) ∧ (¬ z.tmod n < 0 → z.tmod n = z % n) := by
  have h0 := Int.emod_nonneg z (by omega : n ≠ 0)
  have h1 := Int.emod_lt_of_pos z hn
  rw [Int.tmod_eq_emod]
  split
  · omega
  · have : ((n.natAbs : Nat) : Int) = n := by omega
    constructor
    · intro _; omega
    · intro q; exfalso; omega
theorem c_Place (z n : Int) (n0 : 0 < n) (n1 : n ≤ 4611686018427387904) (z0 : -9223372036854775808 ≤ z) (z1 : z ≤ 9223372036854775807) (w : World) :
    Calls Try.prog 16 #[.int .i64 z, .int .i64 n] w fun e w' => e = .returned (.int .i64 (z % n)) ∧ w' = w := by
  obtain ⟨ht, hf⟩ := tmod_place z n n0
  have HT := hid (ht)
  have HF := hid (hf)
  have hlo := Int.lt_tmod_of_pos z n0
  have hhi := Int.tmod_lt_of_pos z n0
  clear ht hf
  have hnz : n ≠ 0 := by omega
  have hnm : n ≠ -1 := by omega
  go_enter Try.func16, Try.ntmps16
  by_cases q : z.tmod n < 0
  · go_wp2
    go_ret
    exact ⟨ret_int (HT.out q), rfl⟩
  · go_wp2
    go_ret
    exact ⟨ret_int (HF.out q), rfl⟩
end Go.Proofs.Ytdncendokbjnjaa.E
namespace Go.Proofs.Ytdncendokbjnjaa.E
open Go.Proofs.Ytdncendokbjnjaa.C
open Go.RowKit
set_option linter.unusedVariables false
set_option maxRecDepth 100000

/-- the document's TLB as it stands -/
structure RM (w : World) (q room : Nat) (v : Value) (L : List TV) : Prop where
  top : w.heap[q]? = some (.cells #[.int .i64 room, v] 100 (0, 0))
  es : Es w 0 v L
  len : L.length ≤ 64
  room : room ≤ 64
theorem Es.weak {w : World} {base : Nat} {v : Value} {L : List TV} (h : Es w base v L) : Es w 0 v L :=
  ⟨h.1, h.2.imp id fun ⟨g, cap, cur, e, hb, hg, rest⟩ => ⟨g, cap, cur, e, Nat.zero_le _, hg, rest⟩⟩
theorem Es.block {w : World} {base : Nat} {v : Value} {L : List TV} (h : Es w base v L) {k : Nat} (hk : v.ownBlock = some k) : ∃ cur, w.heap[k]? = some (.cells cur 92 (0, 0)) := by
  rcases h.2 with ⟨rfl, _⟩ | ⟨g, cap, cur, rfl, hbg, hg, _⟩
  · cases hk
  · obtain rfl : g = k := by simpa [Value.ownBlock] using hk
    exact ⟨cur, hg⟩
section
variable {w : World} {q room : Nat} {v : Value} {L : List TV}
theorem RM.ne (h : RM w q room v L) : v.ownBlock ≠ some q := fun e => by
  obtain ⟨cur, hc⟩ := h.es.block e
  have := h.top.symm.trans hc
  simp at this
theorem RM.lt (h : RM w q room v L) : q < w.heap.size := lt_of_block h.top
theorem RM.only {w' : World} {S : Nat → Prop} (h : RM w q room v L) (ho : Only S w w') (h1 : ¬ S q) (h2 : ∀ k, v.ownBlock = some k → ¬ S k) : RM w' q room v L :=
  ⟨ho.old h.top h1, h.es.only ho h2, h.len, h.room⟩
theorem RM.below {w' : World} (h : RM w q room v L) (hb : Below w.heap.size w w') : RM w' q room v L := h.only (S := fun _ => False) (.ofBelow hb) (fun z => z) (fun _ _ z => z)
theorem RM.c0 (h : RM w q room v L) : w.cell? ⟨q, 0, none⟩ = some (.int .i64 room) := by rw [cell_of_row w _ 0 _ _ _ h.top]; rfl
theorem RM.c1 (h : RM w q room v L) : w.cell? ⟨q, 1, none⟩ = some v := by rw [cell_of_row w _ 1 _ _ _ h.top]; rfl
theorem RM.z (h : RM w q room v L) (j : Nat) : w.frozen? ⟨q, j, none⟩ = false := frozen_of_row w q j _ _ h.top
theorem RM.set {w' : World} (h : RM w q room v L) (ho : Only (fun _ => False) w w') {base : Nat} {v' : Value} {L' : List TV} (he : Es w' base v' L') (hl : L'.length ≤ 64) : RM (w'.setCell ⟨q, 1, none⟩ v') q room v' L' := by
  have hq := ho.old h.top (fun z => z)
  refine ⟨by rw [heap_setCell_same _ _ 1 _ _ _ hq]; rfl, he.weak.only (S := (· = q)) ((Only.refl (S := (· = q)) w').setCell (p := ⟨q, 1, none⟩) (.inl rfl) _) (fun k hk e => ?_), hl, h.room⟩
  obtain ⟨cur, hc⟩ := he.block hk
  subst e
  have := hq.symm.trans hc
  simp at this
end
/-- what the document keeps -/
def dp (L : List TV) (v : Int) (one : Bool) (p : Int) : List TV := L.filter fun x => !decide (x.v = v) || (one && !decide (x.p = p))
theorem dp_fl (L : List TV) (v p : Int) : dp L v false p = fl L v := by unfold dp fl; congr 1; funext x; simp
theorem dp_fp (L : List TV) (v p : Int) : dp L v true p = fp L v p := by
  unfold dp fp; congr 1; funext x; simp [TV.here]
theorem dp_step (L : List TV) (k : Nat) (x : TV) (h : L[k]? = some x) (v : Int) (one : Bool) (p : Int) : dp (L.take (k + 1)) v one p = dp (L.take k) v one p ++ (if (!decide (x.v = v) || (one && !decide (x.p = p))) = true then [x] else []) := take_succ_filter L _ k x h
theorem dp_le (L : List TV) (v : Int) (one : Bool) (p : Int) (k : Nat) : (dp (L.take k) v one p).length ≤ L.length := Nat.le_trans (List.length_filter_le _ _) (by simp; omega)
set_option maxHeartbeats 2000000 in
theorem r_drop (w : World) (q room : Nat) (v : Value) (L : List TV) (h : RM w q room v L) (vm : Int) (one : Bool) (pg : Int) :
    Calls Try.prog 97 #[.pointer (some ⟨q, 0, none⟩), .int .i64 vm, .bool one, .int .u64 pg] w fun e w' => e = .returned (.tuple #[]) ∧ ∃ v', RM w' q room v' (dp L vm one pg) ∧ Only (· = q) w w' ∧ ∀ k, v'.ownBlock = some k → w.heap.size ≤ k := by
  have H := hid h
  have h64 := h.len
  obtain ⟨ad, cap, rfl, hrd⟩ := h.es.rd
  have c1 := h.c1
  have hql := h.lt
  clear h hrd
  go_enter Try.func97, Try.ntmps97
  go_wp2_with fail
  go_loopw [8, 9] (fun s i wr => ∃ (k : Nat), k ≤ L.length ∧ i = .int .i64 k ∧ Es wr w.heap.size s (dp (L.take k) vm one pg) ∧ Below w.heap.size w wr) (fun _ i _ => L.length - (intOf i).toNat)
  case atStart => exact ⟨0, by omega, rfl, by rw [List.take_zero]; exact Es.nil _ _, Below.refl _ _⟩
  case round =>
    obtain ⟨k, hk, rfl, hes, hb⟩ := hrel
    have HES := hid hes
    have HB := hid hb
    have HMr := hid (H.out.below hb)
    have d1 := HMr.out.c1
    have z1 := HMr.out.z 1
    have hsz := hb.size
    have HDL := hid (dp_le L vm one pg k)
    clear hes hb c1
    by_cases hlt : k < L.length
    · obtain ⟨x, hx⟩ : ∃ x, L[k]? = some x := ⟨_, List.getElem?_eq_getElem hlt⟩
      have HST := hid (dp_step L k x hx vm one pg)
      obtain ⟨ad2, cap2, e2, hrd⟩ := HMr.out.es.rd
      obtain ⟨g1, e3, hg1, x0, x1, x2, x3⟩ := hrd k x hx
      simp only [Value.slice.injEq] at e2
      obtain ⟨rfl, -, rfl⟩ := e2
      subst e3
      clear hx hrd
      have hgo : (x.v = vm ∧ one = false) ∨ (x.v = vm ∧ one = true ∧ x.p = pg) ∨ (¬ x.v = vm) ∨ (x.v = vm ∧ one = true ∧ ¬ x.p = pg) := by
        by_cases a : x.v = vm <;> by_cases c : x.p = pg <;> cases one <;> simp [a, c]
      rcases hgo with ⟨hv, ho⟩ | ⟨hv, ho, hp⟩ | hv | ⟨hv, ho, hp⟩
      · subst hv ho
        go_wp2_with fail
        go_roundw
        case rel => exact ⟨k + 1, by omega, by go_num, by rw [HST.out]; simpa using HES.out, HB.out⟩
        case measure => simp [intOf]; omega
      · subst hv ho hp
        go_wp2_with fail
        go_roundw
        case rel => exact ⟨k + 1, by omega, by go_num, by rw [HST.out]; simpa using HES.out, HB.out⟩
        case measure => simp [intOf]; omega
      · have hvb : (x.v != vm) = true := by simp [hv]
        go_wp2_with (at_builtin; refine wpL_push rfl _ _ rfl w.heap.size u8 (dp (L.take k) vm one pg) rfl (HES.out.below ((Below.refl _ _).alloc (Nat.le_refl _) _)) (by have := HDL.out; omega) wr.heap.size 1 x rfl (by
            intro j u hj
            unfold TV.cs at hj
            match j, hj with
            | 0, hj => simp at hj; subst hj; simp
            | 1, hj => simp at hj; subst hj; simp
            | 2, hj => simp at hj; subst hj; simp
            | 3, hj => simp at hj; subst hj; simp) (by simp; omega) ?_; intro v' w4 he4 hg4; have HE4 := hid he4; have HG4 := hid hg4; clear he4 hg4)
        go_roundw
        case rel => exact ⟨k + 1, by omega, by go_num, by rw [HST.out, if_pos (by simp [hv])]; exact HE4.out, (HB.out.alloc hsz _).grown HG4.out (by simp; omega) (fun k' z => (HES.out.lt z).1)⟩
        case measure => simp [intOf]; omega
      · have hpb : (x.p != pg) = true := by simp [hp]
        subst hv ho
        go_wp2_with (at_builtin; refine wpL_push rfl _ _ rfl w.heap.size u8 (dp (L.take k) x.v true pg) rfl (HES.out.below ((Below.refl _ _).alloc (Nat.le_refl _) _)) (by have := HDL.out; omega) wr.heap.size 1 x rfl (by
            intro j u hj
            unfold TV.cs at hj
            match j, hj with
            | 0, hj => simp at hj; subst hj; simp
            | 1, hj => simp at hj; subst hj; simp
            | 2, hj => simp at hj; subst hj; simp
            | 3, hj => simp at hj; subst hj; simp) (by simp; omega) ?_; intro v' w4 he4 hg4; have HE4 := hid he4; have HG4 := hid hg4; clear he4 hg4)
        go_roundw
        case rel => exact ⟨k + 1, by omega, by go_num, by rw [HST.out, if_pos (by simp [hp])]; exact HE4.out, (HB.out.alloc hsz _).grown HG4.out (by simp; omega) (fun k' z => (HES.out.lt z).1)⟩
        case measure => simp [intOf]; omega
    · obtain rfl : k = L.length := by omega
      rw [List.take_length] at HES HDL
      obtain ⟨ad9, cap9, e9, -⟩ := HES.out.rd
      subst e9
      go_wp2_with fail
      go_returns
      refine ⟨rfl, _, HMr.out.set (Only.refl wr) HES.out (by have := HDL.out; omega), ?_, fun k hk => (HES.out.lt hk).1⟩
      exact (Only.ofBelow (S := (· = q)) HB.out).setCell (p := ⟨q, 1, none⟩) (.inl rfl) _
theorem r_Flush (w : World) (q room : Nat) (v : Value) (L : List TV) (h : RM w q room v L) (vm : Int) :
    Calls Try.prog 94 #[.pointer (some ⟨q, 0, none⟩), .int .i64 vm] w fun e w' => e = .returned (.tuple #[]) ∧ ∃ v', RM w' q room v' (fl L vm) ∧ Only (· = q) w w' ∧ ∀ k, v'.ownBlock = some k → w.heap.size ≤ k := by
  have H := hid (r_drop w q room v L h vm false 0)
  rw [dp_fl] at H
  clear h
  go_enter Try.func94, Try.ntmps94
  go_wp2_with (go_at_call 97; refine H.out.mono ?_; rintro e w1 ⟨rfl, h1⟩; have H1 := hid h1; clear h1)
  go_returns
  exact ⟨rfl, H1.out⟩
theorem r_New_bad (w : World) (room : Int) (h : room < 1 ∨ 64 < room) : Calls Try.prog 29 #[.int .i64 room] w fun e w' => e = .returned (.tuple #[.pointer none, .int .i64 1]) ∧ w' = w := by
  rcases h with h | h
  · go_enter Try.func29, Try.ntmps29
    go_wp2
    go_returns
    exact ⟨rfl, rfl⟩
  · have h1 : ¬ room < 1 := by omega
    go_enter Try.func29, Try.ntmps29
    go_wp2
    go_returns
    exact ⟨rfl, rfl⟩
theorem r_New (w : World) (room : Nat) (h0 : 0 < room) (h1 : room ≤ 64) (n : Int) (hn : n = room) : Calls Try.prog 29 #[.int .i64 n] w fun e w' => e = .returned (.tuple #[.pointer (some ⟨w.heap.size, 0, none⟩), .int .i64 0]) ∧ RM w' w.heap.size room (.slice none 0 0) [] ∧ Below w.heap.size w w' := by
  subst hn
  have g1 : ¬ (room : Int) < 1 := by omega
  have g2 : ¬ 64 < (room : Int) := by omega
  go_enter Try.func29, Try.ntmps29
  go_wp2
  go_returns
  exact ⟨rfl, ⟨heap_alloc_new w _, Es.nil _ _, by simp, h1⟩, (Below.refl _ _).alloc (Nat.le_refl _) _⟩
end Go.Proofs.Ytdncendokbjnjaa.E
namespace Go.Proofs.Ytdncendokbjnjaa.E
open Go.Proofs.Ytdncendokbjnjaa.C
open Go.RowKit
set_option linter.unusedVariables false
set_option maxRecDepth 100000

theorem flat_sub {w : World} {base : Nat} {g n cap : Nat} {L : List TV} (h : Es w base (.slice (some ⟨g, 0, none⟩) n cap) L) (a m : Nat) : ∀ j u, (flat ((L.drop a).take m))[j]? = some u → w.cell? ((⟨g, a * 4, none⟩ : Addr).add j) = some u := fun j u hu => by
  rw [addr_add]
  rcases h.2 with ⟨e, _⟩ | ⟨g', cap', cur, e, hbg, hg, hnc, hcm, hcs, ht⟩
  · cases e
  · simp only [Value.slice.injEq, Option.some.injEq, Addr.mk.injEq, and_true] at e
    obtain ⟨rfl, rfl, rfl⟩ := e
    rw [← flat_take, ← flat_drop, List.getElem?_take] at hu
    split at hu
    · rw [List.getElem?_drop] at hu
      rw [cell_of_row w g _ _ _ _ hg]
      rw [← ht, List.getElem?_take] at hu
      split at hu
      · simpa using hu
      · cases hu
    · cases hu
theorem wpL_more {ops : Array Oper} {rest : List Oper} {o : Oper} {a : Act} {w : World} {Q : Exit → Act → World → Prop} (hgd : o.guard = none) (s x : Operand)
    (ho : o.op = .call { callee := .builtin .append, args := #[s, x], argTypes := #[97, 97] })
    (base : Nat) (v : Value) (M : List TV) (hs : a.eval s = v) (hown : Es w base v M) (h64 : M.length ≤ 64) (ad : Addr) (m c : Nat) (ys : List TV) (hx : a.eval x = .slice (some ad) m c) (hm : ys.length = m) (hm64 : m ≤ 64) (hy : ∀ j u, (flat ys)[j]? = some u → w.cell? (ad.add j) = some u) (hb : base ≤ w.heap.size)
    (h : ∀ v' w', Es w' base v' (M ++ ys) → w.grownBy w' v.ownBlock → wpList Try.prog ops Q rest (a.put o.dst v') w') : wpList Try.prog ops Q (o :: rest) a w := by
  obtain ⟨i0, hi, hz0, hz1, hz2⟩ := info_parts info_t
  refine wpList_append_own _ hgd s x 97 ho base 92 i0 (.agg #[.int .i64 0, .int .u64 0, .int .u64 0, .int .i64 0]) 4 32 u_sT hi hz0 hz1 hz2 rfl (by decide) v M.length (flat M) hs hown ad m c (flat ys) hx (by rw [flat_length, hm]) hy (flat_one' _) (by unfold maxLen; omega) (by omega) hb ?_
  intro v' w' h1 h2 _
  refine h v' w' ?_ h2
  unfold Es
  rw [flat_append, List.length_append, hm]
  exact h1
theorem Es.cap {w : World} {base : Nat} {g n cap : Nat} {L : List TV} (h : Es w base (.slice (some ⟨g, 0, none⟩) n cap) L) : n ≤ cap ∧ cap ≤ 9223372036854775807 := by
  rcases h.2 with ⟨e, _⟩ | ⟨g', cap', cur, e, hbg, hg, hnc, hcm, hcs, ht⟩
  · cases e
  · simp only [Value.slice.injEq, Option.some.injEq, Addr.mk.injEq, and_true] at e
    obtain ⟨rfl, rfl, rfl⟩ := e
    unfold maxLen at hcm
    exact ⟨hnc, by omega⟩
theorem Es.strong {w : World} {base : Nat} {v : Value} {L : List TV} (h : Es w 0 v L) (hb : ∀ k, v.ownBlock = some k → base ≤ k) : Es w base v L :=
  ⟨h.1, h.2.imp id fun ⟨g, cap, cur, e, _, hg, rest⟩ => ⟨g, cap, cur, e, hb g (by rw [e]; rfl), hg, rest⟩⟩
theorem grown_only {w w' : World} {row : Option Nat} (h : w.grownBy w' row) : Only (fun k => row = some k) w w' := ⟨h.os, h.tape, h.output, h.size, fun k hk hs => h.block k hk (fun e => hs e.symm)⟩
theorem RM.put {w w' : World} {q room : Nat} {v : Value} {L : List TV} {S : Nat → Prop} (h : RM w q room v L) (ho : Only S w w') (hs : ¬ S q) {base : Nat} {v' : Value} {L' : List TV} (he : Es w' base v' L') (hl : L'.length ≤ 64) : RM (w'.setCell ⟨q, 1, none⟩ v') q room v' L' := by
  have hq := ho.old h.top hs
  refine ⟨by rw [heap_setCell_same _ _ 1 _ _ _ hq]; rfl, he.weak.only (S := (· = q)) ((Only.refl (S := (· = q)) w').setCell (p := ⟨q, 1, none⟩) (.inl rfl) _) (fun k hk e => ?_), hl, h.room⟩
  obtain ⟨cur, hc⟩ := he.block hk
  subst e
  have := hq.symm.trans hc
  simp at this
end Go.Proofs.Ytdncendokbjnjaa.E
