/- awake. -/
import Derived.Test.YtmdconecigenfaaGreatME1
import Derived.Test.YtmdconecigenfaaGreatRows
import Derived.OpenShut
import Derived.SizedLaws
import Derived.Deep.Slices
namespace Go.Proofs.YtmdconecigenfaaGreat.E
open Go.Proofs.YtmdconecigenfaaGreat.C
open Go.RowKit
set_option linter.unusedVariables false
set_option maxRecDepth 100000

def xa : TV := ⟨1, 5, 9, 2⟩
theorem pu_xa : pu 2 [] xa = [xa] := rfl
theorem lk_xa : lk [xa] 1 5 = (xa, true) := by rfl
end Go.Proofs.YtmdconecigenfaaGreat.E
namespace Go.Proofs.YtmdconecigenfaaGreat.E
open Go.Proofs.YtmdconecigenfaaGreat.C
open Go.ChangeShapes Go.WideShapes Go.ChangeAt Go.RowKit Go.Deep
set_option linter.unusedVariables false
set_option maxRecDepth 100000

set_option maxRecDepth 100000 in
theorem own : ownKnob Tryz.prog.godebug = none := by kernel_rfl
set_option maxRecDepth 100000 in
theorem laidOut_prog : laidOutB Tryz.prog = true := by kernel_rfl
structure OpV where
  kind : Int
  n : Int
  e : TV
structure Sc (w : World) (ad : Option Addr) (la cap ab ao : Nat) (X : Nat → OpV) : Prop where
  len : la ≤ cap
  cap : cap ≤ 9223372036854775807
  at0 : 0 < la → ad = some ⟨ab, ao, none⟩ ∧ ab < w.heap.size
  cell : ∀ i, i < la → w.cell? ⟨ab, ao + i * 6, none⟩ = some (.int .i64 (X i).kind) ∧ w.cell? ⟨ab, ao + i * 6 + 1, none⟩ = some (.int .i64 (X i).n) ∧ w.cell? ⟨ab, ao + i * 6 + 2, none⟩ = some (.int .i64 (X i).e.v) ∧ w.cell? ⟨ab, ao + i * 6 + 3, none⟩ = some (.int .u64 (X i).e.p) ∧ w.cell? ⟨ab, ao + i * 6 + 4, none⟩ = some (.int .u64 (X i).e.f) ∧ w.cell? ⟨ab, ao + i * 6 + 5, none⟩ = some (.int .i64 (X i).e.r)
  num : ∀ i, i < la → -9223372036854775808 ≤ (X i).kind ∧ (X i).kind ≤ 9223372036854775807
theorem Sc.below {w w' : World} {ad : Option Addr} {la cap ab ao : Nat} {X : Nat → OpV} (h : Sc w ad la cap ab ao X) (hb : Below w.heap.size w w') : Sc w' ad la cap ab ao X :=
  ⟨h.len, h.cap, fun q => ⟨(h.at0 q).1, Nat.lt_of_lt_of_le (h.at0 q).2 hb.size⟩, fun i hi => by
    have hlt := (h.at0 (by omega)).2
    have e : ∀ o, w'.cell? ⟨ab, o, none⟩ = w.cell? ⟨ab, o, none⟩ := fun o => World.cell?_of_block (w := w) (hb.block _ hlt)
    rw [e, e, e, e, e, e]; exact h.cell i hi, h.num⟩
theorem cells_t : Tryz.prog.cellsOf 127 = 4 := by kernel_rfl
theorem cells_i : Tryz.prog.cellsOf 3 = 1 := by kernel_rfl
theorem cells_u : Tryz.prog.cellsOf 47 = 1 := by kernel_rfl
theorem addr_two (a : Addr) (i j : Nat) : (a.add i).add j = a.add (i + j) := by
  unfold Addr.add
  by_cases hi : i = 0
  · subst hi; simp
  · by_cases hj : j = 0
    · subst hj; simp
    · have : ¬ i + j = 0 := by omega
      simp [hi, hj, Nat.add_assoc]
theorem fldOf {T k : Nat} {t : TypeId} {o : Nat} (h : ((Tryz.prog.fieldsOf T)[k]?).map (fun f => (f.type, f.offset)) = some (t, o)) : ∃ f, (Tryz.prog.fieldsOf T)[k]? = some f ∧ f.type = t ∧ f.offset = o := by
  cases hq : (Tryz.prog.fieldsOf T)[k]? with
  | none => rw [hq] at h; cases h
  | some f => rw [hq] at h; simp at h; exact ⟨f, rfl, h.1, h.2⟩
set_option maxRecDepth 100000 in
theorem open_t {H : Type} {enc : TypeId × Value → H} {W : World} {base fuel : Nat} {cs : List Value} {x : DataW H × List MemPlace} (h : DataW.trod enc Tryz.prog W base (fun _ => true) true fuel 127 cs = some x) : ∃ e : TV, cs = e.cs := by
  obtain ⟨xs, n, _, rfl, hcl, hlen, hfs⟩ := DataW.trod_struct under_t h
  have hl : xs.length = 4 := by rw [hlen]; kernel_rfl
  rw [cells_t] at hcl
  have get : ∀ (k : Nat) (t : TypeId), k < 4 → ((Tryz.prog.fieldsOf 127)[k]?).map (fun f => (f.type, f.offset)) = some (t, k) → Tryz.prog.cellsOf t = 1 → ∃ y, DataW.trod enc Tryz.prog W base (fun _ => true) true n t ((cs.drop k).take 1) = some y := by
    intro k t hk hm hc
    obtain ⟨f, e1, e2, e3⟩ := fldOf hm
    have q := hfs k f e1
    rw [e2, e3, hc, List.getElem?_eq_getElem (by omega)] at q
    exact ⟨_, q⟩
  obtain ⟨y0, q0⟩ := get 0 3 (by omega) (by kernel_rfl) cells_i
  obtain ⟨y1, q1⟩ := get 1 47 (by omega) (by kernel_rfl) cells_u
  obtain ⟨y2, q2⟩ := get 2 47 (by omega) (by kernel_rfl) cells_u
  obtain ⟨y3, q3⟩ := get 3 3 (by omega) (by kernel_rfl) cells_i
  obtain ⟨z0, r0, _, w0⟩ := DataW.trod_int Tryz.underlying3 q0
  obtain ⟨z1, r1, _, w1⟩ := DataW.trod_int Tryz.underlying47 q1
  obtain ⟨z2, r2, _, w2⟩ := DataW.trod_int Tryz.underlying47 q2
  obtain ⟨z3, r3, _, w3⟩ := DataW.trod_int Tryz.underlying3 q3
  obtain ⟨c0, c1, c2, c3, rfl⟩ : ∃ c0 c1 c2 c3, cs = [c0, c1, c2, c3] := by
    match cs, hcl with
    | [c0, c1, c2, c3], _ => exact ⟨c0, c1, c2, c3, rfl⟩
  simp at r0 r1 r2 r3
  subst r0 r1 r2 r3
  exact ⟨⟨z0, z1, z2, z3⟩, rfl⟩
end Go.Proofs.YtmdconecigenfaaGreat.E
namespace Go.Proofs.YtmdconecigenfaaGreat.E
open Go.Proofs.YtmdconecigenfaaGreat.C
open Go.RowKit
set_option linter.unusedVariables false
set_option maxRecDepth 100000

theorem wpL_push {ops : Array Oper} {rest : List Oper} {o : Oper} {a : Act} {w : World} {Q : Exit → Act → World → Prop} (hgd : o.guard = none) (s x : Operand)
    (ho : o.op = .call { callee := .builtin .append, args := #[s, x], argTypes := #[44, 44] })
    (base : Nat) (v : Value) (M : List TV) (hs : a.eval s = v) (hown : Es w base v M) (h64 : M.length ≤ 64) (b m : Nat) (y : TV) (hx : a.eval x = .slice (some ⟨b, 0, none⟩) 1 m) (hy : ∀ j u, y.cs[j]? = some u → w.cell? ⟨b, j, none⟩ = some u) (hb : base ≤ w.heap.size)
    (h : ∀ v' w', Es w' base v' (M ++ [y]) → w.grownBy w' v.ownBlock → wpList Tryz.prog ops Q rest (a.put o.dst v') w') : wpList Tryz.prog ops Q (o :: rest) a w := by
  obtain ⟨i0, hi, hz0, hz1, hz2⟩ := info_parts info_t
  refine wpList_append_own _ hgd s x 44 ho base 127 i0 (.agg #[.int .i64 0, .int .u64 0, .int .u64 0, .int .i64 0]) 4 32 u_sT hi hz0 hz1 hz2 rfl (by decide) v M.length (flat M) hs hown ⟨b, 0, none⟩ 1 m y.cs hx rfl (fun j u hj => by rw [addr_add, Nat.zero_add]; exact hy j u hj) y.one (by unfold maxLen; omega) (by omega) hb ?_
  intro v' w' h1 h2 _
  refine h v' w' ?_ h2
  unfold Es
  rw [flat_append, flat_one, List.length_append]
  exact h1
theorem Es.nil (w : World) (base : Nat) : Es w base (.slice none 0 0) [] := World.ownsRow_nil w base _ _
theorem Es.form {w : World} {base : Nat} {v : Value} {L : List TV} (h : Es w base v L) (hn : 0 < L.length) : ∃ g cap, v = .slice (some ⟨g, 0, none⟩) L.length cap := by
  rcases h.2 with ⟨_, h0⟩ | ⟨g, cap, cur, rfl, hbg, hg, _⟩
  · omega
  · exact ⟨g, cap, rfl⟩
theorem Es.lt {w : World} {base : Nat} {v : Value} {L : List TV} (h : Es w base v L) {k : Nat} (hk : v.ownBlock = some k) : base ≤ k ∧ k < w.heap.size := World.ownsRow.lt h k hk
theorem Es.below {w w' : World} {base : Nat} {v : Value} {L : List TV} (h : Es w base v L) (hb : Below w.heap.size w w') : Es w' base v L :=
  World.ownsRow.kept (row := none) h ⟨hb.os, hb.tape, hb.output, hb.size, fun k hk _ => hb.block k hk⟩ (by cases v.ownBlock <;> simp)
theorem Es.kept {w w' : World} {base : Nat} {v : Value} {L : List TV} {row : Option Nat} (h : Es w base v L) (hg : w.grownBy w' row) (hne : ∀ k, v.ownBlock = some k → row ≠ some k) : Es w' base v L :=
  World.ownsRow.kept h hg (by
    cases q : v.ownBlock with
    | none => exact .inl rfl
    | some k => exact .inr fun e => hne k q e.symm)
theorem Es.only {w w' : World} {base : Nat} {v : Value} {L : List TV} {S : Nat → Prop} (h : Es w base v L) (ho : Only S w w') (hd : ∀ k, v.ownBlock = some k → ¬ S k) : Es w' base v L :=
  ⟨h.1, h.2.imp id fun ⟨g, cap, cur, e, hb, hg, rest⟩ => ⟨g, cap, cur, e, hb, ho.old hg (hd g (by rw [e]; rfl)), rest⟩⟩
theorem flat_f (M : List TV) (i : Nat) (x : TV) (hx : M[i]? = some x) (n : Int) : (flat M).set (i * 4 + 2) (.int .u64 n) = flat (M.set i ⟨x.v, x.p, n, x.r⟩) := by
  induction M generalizing i with
  | nil => simp at hx
  | cons y M ih =>
    cases i with
    | zero =>
      simp at hx
      subst hx
      simp [flat, TV.cs]
    | succ i =>
      have := ih i (by simpa using hx)
      rw [List.set_cons_succ, flat, flat, ← this, List.set_append_right _ _ (by show 4 ≤ _; omega)]
      congr 2
      show _ - 4 = _
      omega
theorem Es.stored {w : World} {base g cap : Nat} {M : List TV} (h : Es w base (.slice (some ⟨g, 0, none⟩) M.length cap) M) {i : Nat} {x : TV} (hx : M[i]? = some x) (n : Int) : Es (w.setCell ⟨g, i * 4 + 2, none⟩ (.int .u64 n)) base (.slice (some ⟨g, 0, none⟩) M.length cap) (M.set i ⟨x.v, x.p, n, x.r⟩) ∧ w.grownBy (w.setCell ⟨g, i * 4 + 2, none⟩ (.int .u64 n)) (some g) := by
  have := World.ownsRow.stored h (i * 4 + 2) (.int .u64 n)
  rw [flat_f M i x hx n] at this
  refine ⟨?_, this.2⟩
  unfold Es
  rw [List.length_set]
  exact this.1
theorem fl_step (L : List TV) (k : Nat) (x : TV) (h : L[k]? = some x) (v : Int) : fl (L.take (k + 1)) v = fl (L.take k) v ++ (if x.v = v then [] else [x]) := by
  have := take_succ_filter L (fun x => !decide (x.v = v)) k x h
  unfold fl
  rw [this]
  by_cases q : x.v = v <;> simp [q]
theorem fl_le (L : List TV) (v : Int) (k : Nat) : (fl (L.take k) v).length ≤ L.length := Nat.le_trans (List.length_filter_le _ _) (by simp; omega)
theorem Below.grownBy {B : Nat} {w0 w w' : World} {row : Option Nat} (h : Below B w0 w) (hg : w.grownBy w' row) (hr : ∀ k, row = some k → B ≤ k) (hs : B ≤ w.heap.size) : Below B w0 w' := h.grown hg hs hr
end Go.Proofs.YtmdconecigenfaaGreat.E
namespace Go.Proofs.YtmdconecigenfaaGreat.E
open Go.Proofs.YtmdconecigenfaaGreat.C
open Go.RowKit
set_option linter.unusedVariables false
set_option maxRecDepth 100000

/-- no page twice -/
def Nd (L : List TV) : Prop := L.Pairwise fun x y => x.here y.v y.p = false
theorem Nd.nil : Nd [] := List.Pairwise.nil
theorem Nd.filter {L : List TV} (h : Nd L) (K : TV → Bool) : Nd (L.filter K) := List.Pairwise.filter K h
theorem Nd.fp {L : List TV} (h : Nd L) (v p : Int) : Nd (fp L v p) := h.filter _
theorem Nd.fl {L : List TV} (h : Nd L) (v : Int) : Nd (fl L v) := h.filter _
theorem Nd.ev {L : List TV} (h : Nd L) : Nd (ev L) := by
  cases L with
  | nil => exact h
  | cons y L => exact Nd.fp h _ _
theorem mem_fp {L : List TV} {v p : Int} {x : TV} : x ∈ fp L v p ↔ x ∈ L ∧ x.here v p = false := by
  unfold fp
  rw [List.mem_filter]
  simp
theorem mem_fl {L : List TV} {v : Int} {x : TV} : x ∈ fl L v ↔ x ∈ L ∧ x.v ≠ v := by
  unfold fl
  rw [List.mem_filter]
  simp
theorem mem_ev {L : List TV} {x : TV} (h : x ∈ ev L) : x ∈ L := by
  cases L with
  | nil => exact h
  | cons y L => exact (mem_fp.1 h).1
theorem mem_pu {room : Nat} {L : List TV} {e x : TV} (h : x ∈ pu room L e) : x ∈ fp L e.v e.p ∨ x = e := by
  unfold pu at h
  rw [List.mem_append, List.mem_singleton] at h
  rcases h with h | h
  · split at h
    · exact .inl (mem_ev h)
    · exact .inl h
  · exact .inr h
theorem Nd.pu {L : List TV} (h : Nd L) (room : Nat) (e : TV) : Nd (pu room L e) := by
  unfold Go.Proofs.YtmdconecigenfaaGreat.E.pu Nd
  rw [List.pairwise_append]
  refine ⟨?_, List.pairwise_singleton _ _, fun a ha b hb => ?_⟩
  · split
    · exact Nd.ev (Nd.fp h _ _)
    · exact Nd.fp h _ _
  · rw [List.mem_singleton] at hb
    subst hb
    split at ha
    · exact (mem_fp.1 (mem_ev ha)).2
    · exact (mem_fp.1 ha).2
/-- what is there of a page was put last -/
def Iv (L : List TV) (v p : Int) (lst : TV) (b : Bool) : Prop := ∀ x, x ∈ L → x.here v p = true → b = true ∧ x = lst
theorem here_iff {x : TV} {v p : Int} : x.here v p = true ↔ x.v = v ∧ x.p = p := by simp [TV.here]
theorem Iv.nil (v p : Int) (lst : TV) (b : Bool) : Iv [] v p lst b := fun x hx => by simp at hx
theorem Iv.sub {L M : List TV} {v p : Int} {lst : TV} {b : Bool} (h : Iv L v p lst b) (hs : ∀ x, x ∈ M → x ∈ L) : Iv M v p lst b := fun x hx q => h x (hs x hx) q
theorem Iv.put_in {L : List TV} {v p : Int} {lst : TV} {b : Bool} (h : Iv L v p lst b) (room : Nat) (e : TV) (he : e.v = v ∧ e.p = p) : Iv (pu room L e) v p e true := by
  intro x hx q
  rcases mem_pu hx with hx | hx
  · have := (mem_fp.1 hx).2
    rw [he.1, he.2, q] at this
    cases this
  · exact ⟨rfl, hx⟩
theorem Iv.put_out {L : List TV} {v p : Int} {lst : TV} {b : Bool} (h : Iv L v p lst b) (room : Nat) (e : TV) (he : ¬ (e.v = v ∧ e.p = p)) : Iv (pu room L e) v p lst b := by
  intro x hx q
  rcases mem_pu hx with hx | hx
  · exact h x (mem_fp.1 hx).1 q
  · subst hx; exact absurd (here_iff.1 q) he
theorem Iv.fl {L : List TV} {v p : Int} {lst : TV} {b : Bool} (h : Iv L v p lst b) (u : Int) : Iv (fl L u) v p lst (b && !decide (u = v)) := by
  intro x hx q
  obtain ⟨h1, h2⟩ := mem_fl.1 hx
  obtain ⟨h3, h4⟩ := h x h1 q
  have := (here_iff.1 q).1
  refine ⟨?_, h4⟩
  have e : ¬ u = v := fun e => h2 (by rw [this, e])
  simp [h3, e]
theorem Iv.fp {L : List TV} {v p : Int} {lst : TV} {b : Bool} (h : Iv L v p lst b) (u r : Int) : Iv (fp L u r) v p lst (b && (!decide (u = v) || !decide (r = p))) := by
  intro x hx q
  obtain ⟨h1, h2⟩ := mem_fp.1 hx
  obtain ⟨h3, h4⟩ := h x h1 q
  obtain ⟨e1, e2⟩ := here_iff.1 q
  refine ⟨?_, h4⟩
  have e : ¬ (u = v ∧ r = p) := fun ⟨a, c⟩ => by
    rw [a, c, q] at h2
    cases h2
  by_cases a : u = v
  · have : ¬ r = p := fun c => e ⟨a, c⟩
    simp [h3, this]
  · simp [h3, a]
theorem Iv.lk {L : List TV} {v p : Int} {lst : TV} {b : Bool} (h : Iv L v p lst b) : (lk L v p = (lst, true) ∧ b = true) ∨ lk L v p = (TV.zero, false) := by
  unfold Go.Proofs.YtmdconecigenfaaGreat.E.lk
  cases q : L.find? (fun x => x.here v p) with
  | none => exact .inr rfl
  | some x =>
    obtain ⟨h1, h2⟩ := h x (List.mem_of_find?_eq_some q) (by simpa using List.find?_some q)
    subst h2
    exact .inl ⟨rfl, h1⟩
theorem Nd.at {L : List TV} (h : Nd L) {i j : Nat} {x y : TV} (hi : L[i]? = some x) (hj : L[j]? = some y) (hij : j < i) : ¬ (x.v = y.v ∧ x.p = y.p) := by
  obtain ⟨hi1, hi2⟩ := List.getElem?_eq_some_iff.1 hi
  obtain ⟨hj1, hj2⟩ := List.getElem?_eq_some_iff.1 hj
  have := List.pairwise_iff_getElem.1 h j i hj1 hi1 hij
  rw [hi2, hj2] at this
  rintro ⟨a, b⟩
  have : y.here x.v x.p = true := here_iff.2 ⟨a.symm, b.symm⟩
  simp_all
theorem tmod_place (z n : Int) (hn : 0 < n) : (z.tmod n < 0 → z.tmod n + n = z % n) ∧ (¬ z.tmod n < 0 → z.tmod n = z % n) := by
  have h0 := Int.emod_nonneg z (by omega : n ≠ 0)
  have h1 := Int.emod_lt_of_pos z hn
  rw [Int.tmod_eq_emod]
  split
  · omega
  · have : ((n.natAbs : Nat) : Int) = n := by omega
    constructor
    · intro _; omega
    · intro q; exfalso; omega
theorem c_Place (z n : Int) (n0 : 0 < n) (n1 : n ≤ 4611686018427387904) (z0 : -9223372036854775808 ≤ z) (z1 : z ≤ 9223372036854775807) (w : World) :
    Calls Tryz.prog 16 #[.int .i64 z, .int .i64 n] w fun e w' => e = .returned (.int .i64 (z % n)) ∧ w' = w := by
  obtain ⟨ht, hf⟩ := tmod_place z n n0
  have HT := hid (ht)
  have HF := hid (hf)
  have hlo := Int.lt_tmod_of_pos z n0
  have hhi := Int.tmod_lt_of_pos z n0
  clear ht hf
  have hnz : n ≠ 0 := by omega
  have hnm : n ≠ -1 := by omega
  go_enter Tryz.func16, Tryz.ntmps16
  by_cases q : z.tmod n < 0
  · go_wp2
    go_ret
    exact ⟨ret_int (HT.out q), rfl⟩
  · go_wp2
    go_ret
    exact ⟨ret_int (HF.out q), rfl⟩
end Go.Proofs.YtmdconecigenfaaGreat.E
namespace Go.Proofs.YtmdconecigenfaaGreat.E
open Go.Proofs.YtmdconecigenfaaGreat.C
open Go.RowKit
set_option linter.unusedVariables false
set_option maxRecDepth 100000

/-- the document's TLB as it stands -/
structure RM (w : World) (q room : Nat) (v : Value) (L : List TV) : Prop where
  top : w.heap[q]? = some (.cells #[.int .i64 room, v] 58 (0, 0))
  es : Es w 0 v L
  len : L.length ≤ 64
  room : room ≤ 64
theorem Es.weak {w : World} {base : Nat} {v : Value} {L : List TV} (h : Es w base v L) : Es w 0 v L :=
  ⟨h.1, h.2.imp id fun ⟨g, cap, cur, e, hb, hg, rest⟩ => ⟨g, cap, cur, e, Nat.zero_le _, hg, rest⟩⟩
theorem Es.block {w : World} {base : Nat} {v : Value} {L : List TV} (h : Es w base v L) {k : Nat} (hk : v.ownBlock = some k) : ∃ cur, w.heap[k]? = some (.cells cur 127 (0, 0)) := by
  rcases h.2 with ⟨rfl, _⟩ | ⟨g, cap, cur, rfl, hbg, hg, _⟩
  · cases hk
  · obtain rfl : g = k := by simpa [Value.ownBlock] using hk
    exact ⟨cur, hg⟩
section
variable {w : World} {q room : Nat} {v : Value} {L : List TV}
theorem RM.ne (h : RM w q room v L) : v.ownBlock ≠ some q := fun e => by
  obtain ⟨cur, hc⟩ := h.es.block e
  have := h.top.symm.trans hc
  simp at this
theorem RM.lt (h : RM w q room v L) : q < w.heap.size := lt_of_block h.top
theorem RM.only {w' : World} {S : Nat → Prop} (h : RM w q room v L) (ho : Only S w w') (h1 : ¬ S q) (h2 : ∀ k, v.ownBlock = some k → ¬ S k) : RM w' q room v L :=
  ⟨ho.old h.top h1, h.es.only ho h2, h.len, h.room⟩
theorem RM.below {w' : World} (h : RM w q room v L) (hb : Below w.heap.size w w') : RM w' q room v L := h.only (S := fun _ => False) (.ofBelow hb) (fun z => z) (fun _ _ z => z)
theorem RM.c0 (h : RM w q room v L) : w.cell? ⟨q, 0, none⟩ = some (.int .i64 room) := by rw [cell_of_row w _ 0 _ _ _ h.top]; rfl
theorem RM.c1 (h : RM w q room v L) : w.cell? ⟨q, 1, none⟩ = some v := by rw [cell_of_row w _ 1 _ _ _ h.top]; rfl
theorem RM.z (h : RM w q room v L) (j : Nat) : w.frozen? ⟨q, j, none⟩ = false := frozen_of_row w q j _ _ h.top
theorem RM.set {w' : World} (h : RM w q room v L) (ho : Only (fun _ => False) w w') {base : Nat} {v' : Value} {L' : List TV} (he : Es w' base v' L') (hl : L'.length ≤ 64) : RM (w'.setCell ⟨q, 1, none⟩ v') q room v' L' := by
  have hq := ho.old h.top (fun z => z)
  refine ⟨by rw [heap_setCell_same _ _ 1 _ _ _ hq]; rfl, he.weak.only (S := (· = q)) ((Only.refl (S := (· = q)) w').setCell (p := ⟨q, 1, none⟩) (.inl rfl) _) (fun k hk e => ?_), hl, h.room⟩
  obtain ⟨cur, hc⟩ := he.block hk
  subst e
  have := hq.symm.trans hc
  simp at this
end
/-- what the document keeps -/
def dp (L : List TV) (v : Int) (one : Bool) (p : Int) : List TV := L.filter fun x => !decide (x.v = v) || (one && !decide (x.p = p))
theorem dp_fl (L : List TV) (v p : Int) : dp L v false p = fl L v := by unfold dp fl; congr 1; funext x; simp
theorem dp_fp (L : List TV) (v p : Int) : dp L v true p = fp L v p := by
  unfold dp fp; congr 1; funext x; simp [TV.here]
theorem dp_step (L : List TV) (k : Nat) (x : TV) (h : L[k]? = some x) (v : Int) (one : Bool) (p : Int) : dp (L.take (k + 1)) v one p = dp (L.take k) v one p ++ (if (!decide (x.v = v) || (one && !decide (x.p = p))) = true then [x] else []) := take_succ_filter L _ k x h
theorem dp_le (L : List TV) (v : Int) (one : Bool) (p : Int) (k : Nat) : (dp (L.take k) v one p).length ≤ L.length := Nat.le_trans (List.length_filter_le _ _) (by simp; omega)
set_option maxHeartbeats 2000000 in
theorem r_drop (w : World) (q room : Nat) (v : Value) (L : List TV) (h : RM w q room v L) (vm : Int) (one : Bool) (pg : Int) :
    Calls Tryz.prog 101 #[.pointer (some ⟨q, 0, none⟩), .int .i64 vm, .bool one, .int .u64 pg] w fun e w' => e = .returned (.tuple #[]) ∧ ∃ v', RM w' q room v' (dp L vm one pg) ∧ Only (· = q) w w' ∧ ∀ k, v'.ownBlock = some k → w.heap.size ≤ k := by
  have H := hid h
  have h64 := h.len
  obtain ⟨ad, cap, rfl, hrd⟩ := h.es.rd
  have c1 := h.c1
  have hql := h.lt
  clear h hrd
  go_enter Tryz.func101, Tryz.ntmps101
  go_wp2_with fail
  go_loopw [8, 9] (fun s i wr => ∃ (k : Nat), k ≤ L.length ∧ i = .int .i64 k ∧ Es wr w.heap.size s (dp (L.take k) vm one pg) ∧ Below w.heap.size w wr) (fun _ i _ => L.length - (intOf i).toNat)
  case atStart => exact ⟨0, by omega, rfl, by rw [List.take_zero]; exact Es.nil _ _, Below.refl _ _⟩
  case round =>
    obtain ⟨k, hk, rfl, hes, hb⟩ := hrel
    have HES := hid hes
    have HB := hid hb
    have HMr := hid (H.out.below hb)
    have d1 := HMr.out.c1
    have z1 := HMr.out.z 1
    have hsz := hb.size
    have HDL := hid (dp_le L vm one pg k)
    clear hes hb c1
    by_cases hlt : k < L.length
    · obtain ⟨x, hx⟩ : ∃ x, L[k]? = some x := ⟨_, List.getElem?_eq_getElem hlt⟩
      have HST := hid (dp_step L k x hx vm one pg)
      obtain ⟨ad2, cap2, e2, hrd⟩ := HMr.out.es.rd
      obtain ⟨g1, e3, hg1, x0, x1, x2, x3⟩ := hrd k x hx
      simp only [Value.slice.injEq] at e2
      obtain ⟨rfl, -, rfl⟩ := e2
      subst e3
      clear hx hrd
      have hgo : (x.v = vm ∧ one = false) ∨ (x.v = vm ∧ one = true ∧ x.p = pg) ∨ (¬ x.v = vm) ∨ (x.v = vm ∧ one = true ∧ ¬ x.p = pg) := by
        by_cases a : x.v = vm <;> by_cases c : x.p = pg <;> cases one <;> simp [a, c]
      rcases hgo with ⟨hv, ho⟩ | ⟨hv, ho, hp⟩ | hv | ⟨hv, ho, hp⟩
      · subst hv ho
        go_wp2_with fail
        go_roundw
        case rel => exact ⟨k + 1, by omega, by go_num, by rw [HST.out]; simpa using HES.out, HB.out⟩
        case measure => simp [intOf]; omega
      · subst hv ho hp
        go_wp2_with fail
        go_roundw
        case rel => exact ⟨k + 1, by omega, by go_num, by rw [HST.out]; simpa using HES.out, HB.out⟩
        case measure => simp [intOf]; omega
      · have hvb : (x.v != vm) = true := by simp [hv]
        go_wp2_with (at_builtin; refine wpL_push rfl _ _ rfl w.heap.size u8 (dp (L.take k) vm one pg) rfl (HES.out.below ((Below.refl _ _).alloc (Nat.le_refl _) _)) (by have := HDL.out; omega) wr.heap.size 1 x rfl (by
            intro j u hj
            unfold TV.cs at hj
            match j, hj with
            | 0, hj => simp at hj; subst hj; simp
            | 1, hj => simp at hj; subst hj; simp
            | 2, hj => simp at hj; subst hj; simp
            | 3, hj => simp at hj; subst hj; simp) (by simp; omega) ?_; intro v' w4 he4 hg4; have HE4 := hid he4; have HG4 := hid hg4; clear he4 hg4)
        go_roundw
        case rel => exact ⟨k + 1, by omega, by go_num, by rw [HST.out, if_pos (by simp [hv])]; exact HE4.out, (HB.out.alloc hsz _).grown HG4.out (by simp; omega) (fun k' z => (HES.out.lt z).1)⟩
        case measure => simp [intOf]; omega
      · have hpb : (x.p != pg) = true := by simp [hp]
        subst hv ho
        go_wp2_with (at_builtin; refine wpL_push rfl _ _ rfl w.heap.size u8 (dp (L.take k) x.v true pg) rfl (HES.out.below ((Below.refl _ _).alloc (Nat.le_refl _) _)) (by have := HDL.out; omega) wr.heap.size 1 x rfl (by
            intro j u hj
            unfold TV.cs at hj
            match j, hj with
            | 0, hj => simp at hj; subst hj; simp
            | 1, hj => simp at hj; subst hj; simp
            | 2, hj => simp at hj; subst hj; simp
            | 3, hj => simp at hj; subst hj; simp) (by simp; omega) ?_; intro v' w4 he4 hg4; have HE4 := hid he4; have HG4 := hid hg4; clear he4 hg4)
        go_roundw
        case rel => exact ⟨k + 1, by omega, by go_num, by rw [HST.out, if_pos (by simp [hp])]; exact HE4.out, (HB.out.alloc hsz _).grown HG4.out (by simp; omega) (fun k' z => (HES.out.lt z).1)⟩
        case measure => simp [intOf]; omega
    · obtain rfl : k = L.length := by omega
      rw [List.take_length] at HES HDL
      obtain ⟨ad9, cap9, e9, -⟩ := HES.out.rd
      subst e9
      go_wp2_with fail
      go_returns
      refine ⟨rfl, _, HMr.out.set (Only.refl wr) HES.out (by have := HDL.out; omega), ?_, fun k hk => (HES.out.lt hk).1⟩
      exact (Only.ofBelow (S := (· = q)) HB.out).setCell (p := ⟨q, 1, none⟩) (.inl rfl) _
theorem r_Flush (w : World) (q room : Nat) (v : Value) (L : List TV) (h : RM w q room v L) (vm : Int) :
    Calls Tryz.prog 75 #[.pointer (some ⟨q, 0, none⟩), .int .i64 vm] w fun e w' => e = .returned (.tuple #[]) ∧ ∃ v', RM w' q room v' (fl L vm) ∧ Only (· = q) w w' ∧ ∀ k, v'.ownBlock = some k → w.heap.size ≤ k := by
  have H := hid (r_drop w q room v L h vm false 0)
  rw [dp_fl] at H
  clear h
  go_enter Tryz.func75, Tryz.ntmps75
  go_wp2_with (go_at_call 101; refine H.out.mono ?_; rintro e w1 ⟨rfl, h1⟩; have H1 := hid h1; clear h1)
  go_returns
  exact ⟨rfl, H1.out⟩
theorem r_FlushPage (w : World) (q room : Nat) (v : Value) (L : List TV) (h : RM w q room v L) (vm pg : Int) :
    Calls Tryz.prog 77 #[.pointer (some ⟨q, 0, none⟩), .int .i64 vm, .int .u64 pg] w fun e w' => e = .returned (.tuple #[]) ∧ ∃ v', RM w' q room v' (fp L vm pg) ∧ Only (· = q) w w' ∧ ∀ k, v'.ownBlock = some k → w.heap.size ≤ k := by
  have H := hid (r_drop w q room v L h vm true pg)
  rw [dp_fp] at H
  clear h
  go_enter Tryz.func77, Tryz.ntmps77
  go_wp2_with (go_at_call 101; refine H.out.mono ?_; rintro e w1 ⟨rfl, h1⟩; have H1 := hid h1; clear h1)
  go_returns
  exact ⟨rfl, H1.out⟩
theorem r_New_bad (w : World) (room : Int) (h : room < 1 ∨ 64 < room) : Calls Tryz.prog 53 #[.int .i64 room] w fun e w' => e = .returned (.tuple #[.pointer none, .int .i64 1]) ∧ w' = w := by
  rcases h with h | h
  · go_enter Tryz.func53, Tryz.ntmps53
    go_wp2
    go_returns
    exact ⟨rfl, rfl⟩
  · have h1 : ¬ room < 1 := by omega
    go_enter Tryz.func53, Tryz.ntmps53
    go_wp2
    go_returns
    exact ⟨rfl, rfl⟩
theorem r_New (w : World) (room : Nat) (h0 : 0 < room) (h1 : room ≤ 64) (n : Int) (hn : n = room) : Calls Tryz.prog 53 #[.int .i64 n] w fun e w' => e = .returned (.tuple #[.pointer (some ⟨w.heap.size, 0, none⟩), .int .i64 0]) ∧ RM w' w.heap.size room (.slice none 0 0) [] ∧ Below w.heap.size w w' := by
  subst hn
  have g1 : ¬ (room : Int) < 1 := by omega
  have g2 : ¬ 64 < (room : Int) := by omega
  go_enter Tryz.func53, Tryz.ntmps53
  go_wp2
  go_returns
  exact ⟨rfl, ⟨heap_alloc_new w _, Es.nil _ _, by simp, h1⟩, (Below.refl _ _).alloc (Nat.le_refl _) _⟩
set_option maxHeartbeats 2000000 in
theorem r_Look (w : World) (q room : Nat) (v : Value) (L : List TV) (h : RM w q room v L) (vm pg : Int) : Calls Tryz.prog 97 #[.pointer (some ⟨q, 0, none⟩), .int .i64 vm, .int .u64 pg] w fun e w' => e = .returned (.tuple #[(lk L vm pg).1.ag, .bool (lk L vm pg).2]) ∧ Below w.heap.size w w' := by
  have H := hid h
  have h64 := h.len
  obtain ⟨ad, cap, rfl, hrd⟩ := h.es.rd
  have c1 := h.c1
  have hql := h.lt
  clear h hrd
  go_enter Tryz.func97, Tryz.ntmps97
  go_wp2_with fail
  go_loopw [8] (fun i wr => ∃ (k : Nat), k ≤ L.length ∧ i = .int .i64 k ∧ (∀ j y, j < k → L[j]? = some y → y.here vm pg = false) ∧ Rw wr w.heap.size [TV.zero] ∧ Below w.heap.size w wr) (fun i _ => L.length - (intOf i).toNat)
  case atStart => exact ⟨0, by omega, rfl, fun j y hj => by omega, by show _ = _; rw [heap_alloc_new]; rfl, (Below.refl _ _).alloc (Nat.le_refl _) _⟩
  case round =>
    obtain ⟨k, hk, rfl, hn, hr, hb⟩ := hrel
    have HN := hid hn
    have HR := hid hr
    have HB := hid hb
    have HMr := hid (H.out.below hb)
    have d1 := HMr.out.c1
    obtain ⟨r0, r1, r2, r3⟩ := cells1 hr
    have z0 := hr.z 0
    have z1 := hr.z 1
    have z2 := hr.z 2
    have z3 := hr.z 3
    have hrl := hr.lt
    clear hn hr hb c1
    by_cases hlt : k < L.length
    · obtain ⟨x, hx⟩ : ∃ x, L[k]? = some x := ⟨_, List.getElem?_eq_getElem hlt⟩
      obtain ⟨ad2, cap2, e2, hrd⟩ := HMr.out.es.rd
      obtain ⟨g1, e3, hg1, x0, x1, x2, x3⟩ := hrd k x hx
      simp only [Value.slice.injEq] at e2
      obtain ⟨rfl, -, rfl⟩ := e2
      subst e3
      have HX := hid hx
      clear hx hrd
      have step : ∀ (hh : x.here vm pg = false), ∀ (j : Nat) (y : TV), j < k + 1 → L[j]? = some y → y.here vm pg = false := fun hh j y hj hy => by
        by_cases e : j = k
        · subst e; rw [HX.out] at hy; cases hy; exact hh
        · exact HN.out j y (by omega) hy
      have HSP := hid step
      clear step
      by_cases hv : x.v = vm
      · by_cases hp : x.p = pg
        · subst hv hp
          obtain ⟨v0, v1, v2, v3⟩ := cells1 (set4 HR.out x)
          go_wp2_with fail
          refine bodyPost_ret (v := .tuple #[x.ag, .bool true]) (by simp [results, Tryz.results97, go_sem, v0, v1, v2, v3]) rfl ?_
          exact ⟨by rw [lk_some HX.out (here_iff.2 ⟨rfl, rfl⟩) HN.out], below4 HB.out (Nat.le_refl _) x⟩
        · subst hv
          go_wp2_with fail
          go_roundw
          case rel => exact ⟨k + 1, by omega, by go_num, HSP.out (by simp [TV.here, hp]), HR.out, HB.out⟩
          case measure => simp [intOf]; omega
      · go_wp2_with fail
        go_roundw
        case rel => exact ⟨k + 1, by omega, by go_num, HSP.out (by simp [TV.here, hv]), HR.out, HB.out⟩
        case measure => simp [intOf]; omega
    · obtain rfl : k = L.length := by omega
      obtain ⟨v0, v1, v2, v3⟩ := cells1 (set4 HR.out TV.zero)
      simp only [TV.zero] at v0 v1 v2 v3
      go_wp2_with fail
      refine bodyPost_ret (v := .tuple #[TV.zero.ag, .bool false]) (by simp [results, Tryz.results97, go_sem, v0, v1, v2, v3, TV.zero]) rfl ?_
      refine ⟨by rw [lk_none fun j y hy => HN.out j y (List.getElem?_eq_some_iff.1 hy).1 hy], below4 HB.out (Nat.le_refl _) TV.zero⟩
end Go.Proofs.YtmdconecigenfaaGreat.E
namespace Go.Proofs.YtmdconecigenfaaGreat.E
open Go.Proofs.YtmdconecigenfaaGreat.C
open Go.RowKit
set_option linter.unusedVariables false
set_option maxRecDepth 100000

theorem flat_sub {w : World} {base : Nat} {g n cap : Nat} {L : List TV} (h : Es w base (.slice (some ⟨g, 0, none⟩) n cap) L) (a m : Nat) : ∀ j u, (flat ((L.drop a).take m))[j]? = some u → w.cell? ((⟨g, a * 4, none⟩ : Addr).add j) = some u := fun j u hu => by
  rw [addr_add]
  rcases h.2 with ⟨e, _⟩ | ⟨g', cap', cur, e, hbg, hg, hnc, hcm, hcs, ht⟩
  · cases e
  · simp only [Value.slice.injEq, Option.some.injEq, Addr.mk.injEq, and_true] at e
    obtain ⟨rfl, rfl, rfl⟩ := e
    rw [← flat_take, ← flat_drop, List.getElem?_take] at hu
    split at hu
    · rw [List.getElem?_drop] at hu
      rw [cell_of_row w g _ _ _ _ hg]
      rw [← ht, List.getElem?_take] at hu
      split at hu
      · simpa using hu
      · cases hu
    · cases hu
theorem wpL_more {ops : Array Oper} {rest : List Oper} {o : Oper} {a : Act} {w : World} {Q : Exit → Act → World → Prop} (hgd : o.guard = none) (s x : Operand)
    (ho : o.op = .call { callee := .builtin .append, args := #[s, x], argTypes := #[44, 44] })
    (base : Nat) (v : Value) (M : List TV) (hs : a.eval s = v) (hown : Es w base v M) (h64 : M.length ≤ 64) (ad : Addr) (m c : Nat) (ys : List TV) (hx : a.eval x = .slice (some ad) m c) (hm : ys.length = m) (hm64 : m ≤ 64) (hy : ∀ j u, (flat ys)[j]? = some u → w.cell? (ad.add j) = some u) (hb : base ≤ w.heap.size)
    (h : ∀ v' w', Es w' base v' (M ++ ys) → w.grownBy w' v.ownBlock → wpList Tryz.prog ops Q rest (a.put o.dst v') w') : wpList Tryz.prog ops Q (o :: rest) a w := by
  obtain ⟨i0, hi, hz0, hz1, hz2⟩ := info_parts info_t
  refine wpList_append_own _ hgd s x 44 ho base 127 i0 (.agg #[.int .i64 0, .int .u64 0, .int .u64 0, .int .i64 0]) 4 32 u_sT hi hz0 hz1 hz2 rfl (by decide) v M.length (flat M) hs hown ad m c (flat ys) hx (by rw [flat_length, hm]) hy (flat_one' _) (by unfold maxLen; omega) (by omega) hb ?_
  intro v' w' h1 h2 _
  refine h v' w' ?_ h2
  unfold Es
  rw [flat_append, List.length_append, hm]
  exact h1
theorem r_Evict_no (w : World) (q room : Nat) (v : Value) (L : List TV) (h : RM w q room v L) (i : Int) (hi : i < 0 ∨ (L.length : Int) ≤ i) : Calls Tryz.prog 79 #[.pointer (some ⟨q, 0, none⟩), .int .i64 i] w fun e w' => e = .returned (.bool false) ∧ w' = w := by
  have c1 := h.c1
  have hl := h.len
  obtain ⟨ad, cap, rfl, hrd⟩ := h.es.rd
  clear h hrd
  rcases hi with hi | hi
  · go_enter Tryz.func79, Tryz.ntmps79
    go_wp2
    go_ret
    exact ⟨rfl, rfl⟩
  · have h1 : ¬ i < 0 := by omega
    go_enter Tryz.func79, Tryz.ntmps79
    go_wp2
    go_ret
    exact ⟨rfl, rfl⟩
theorem Es.cap {w : World} {base : Nat} {g n cap : Nat} {L : List TV} (h : Es w base (.slice (some ⟨g, 0, none⟩) n cap) L) : n ≤ cap ∧ cap ≤ 9223372036854775807 := by
  rcases h.2 with ⟨e, _⟩ | ⟨g', cap', cur, e, hbg, hg, hnc, hcm, hcs, ht⟩
  · cases e
  · simp only [Value.slice.injEq, Option.some.injEq, Addr.mk.injEq, and_true] at e
    obtain ⟨rfl, rfl, rfl⟩ := e
    unfold maxLen at hcm
    exact ⟨hnc, by omega⟩
theorem Es.strong {w : World} {base : Nat} {v : Value} {L : List TV} (h : Es w 0 v L) (hb : ∀ k, v.ownBlock = some k → base ≤ k) : Es w base v L :=
  ⟨h.1, h.2.imp id fun ⟨g, cap, cur, e, _, hg, rest⟩ => ⟨g, cap, cur, e, hb g (by rw [e]; rfl), hg, rest⟩⟩
theorem grown_only {w w' : World} {row : Option Nat} (h : w.grownBy w' row) : Only (fun k => row = some k) w w' := ⟨h.os, h.tape, h.output, h.size, fun k hk hs => h.block k hk (fun e => hs e.symm)⟩
theorem RM.put {w w' : World} {q room : Nat} {v : Value} {L : List TV} {S : Nat → Prop} (h : RM w q room v L) (ho : Only S w w') (hs : ¬ S q) {base : Nat} {v' : Value} {L' : List TV} (he : Es w' base v' L') (hl : L'.length ≤ 64) : RM (w'.setCell ⟨q, 1, none⟩ v') q room v' L' := by
  have hq := ho.old h.top hs
  refine ⟨by rw [heap_setCell_same _ _ 1 _ _ _ hq]; rfl, he.weak.only (S := (· = q)) ((Only.refl (S := (· = q)) w').setCell (p := ⟨q, 1, none⟩) (.inl rfl) _) (fun k hk e => ?_), hl, h.room⟩
  obtain ⟨cur, hc⟩ := he.block hk
  subst e
  have := hq.symm.trans hc
  simp at this
set_option maxHeartbeats 2000000 in
theorem r_Evict (w : World) (q room : Nat) (v : Value) (L : List TV) (h : RM w q room v L) (k : Nat) (hk : k < L.length) (i : Int) (hi : i = k) : Calls Tryz.prog 79 #[.pointer (some ⟨q, 0, none⟩), .int .i64 i] w fun e w' => e = .returned (.bool true) ∧ ∃ v', RM w' q room v' (L.take k ++ L.drop (k + 1)) ∧ Only (· = q) w w' ∧ ∀ k, v'.ownBlock = some k → w.heap.size ≤ k := by
  subst hi
  have H := hid h
  have c1 := h.c1
  have hl := h.len
  obtain ⟨g, cap, rfl⟩ := h.es.form (by omega)
  obtain ⟨hc1, hc2⟩ := h.es.cap
  have g1 : ¬ (k : Int) < 0 := by omega
  have g2 : ¬ (L.length : Int) ≤ k := by omega
  have hs1 : ∀ j u, (flat (L.take k))[j]? = some u → w.cell? ((⟨g, 0, none⟩ : Addr).add j) = some u := by
    have := flat_sub h.es 0 k
    simpa using this
  have hs2 := flat_sub h.es (k + 1) (L.length - (k + 1))
  have e1 : (L.drop (k + 1)).take (L.length - (k + 1)) = L.drop (k + 1) := List.take_of_length_le (by simp)
  rw [e1] at hs2
  have T1 : Hid True := trivial
  have hql := h.lt
  have hgl := (h.es.lt rfl).2
  have HZ : Hid (∀ w1, w.grownBy w1 none → w1.cell? ⟨q, 1, none⟩ = some (.slice (some ⟨g, 0, none⟩) L.length cap) ∧ w1.frozen? ⟨q, 1, none⟩ = false ∧ (∀ o, w1.cell? ⟨g, o, none⟩ = w.cell? ⟨g, o, none⟩) ∧ w1.heap[q]? = w.heap[q]?) := fun w1 hg =>
    ⟨(World.cell?_of_block (w := w) (hg.block q hql (by simp))).trans H.out.c1, (World.frozen?_of_block (w := w) (hg.block q hql (by simp))).trans (H.out.z 1), fun o => World.cell?_of_block (w := w) (hg.block g hgl (by simp)), hg.block q hql (by simp)⟩
  have hla : (L.take k).length = k := by simp; omega
  have hld : (L.drop (k + 1)).length = L.length - (k + 1) := by simp
  generalize L.take k = A at *
  generalize L.drop (k + 1) = D at *
  generalize hE : A ++ D = E at *
  have HE := hid hE
  have HAl := hid hla
  have HDl := hid hld
  have HS1 := hid hs1
  have HS2 := hid hs2
  have HEl : Hid (E.length ≤ 64) := by show _ ≤ _; rw [← hE, List.length_append]; omega
  clear h e1 hs1 hs2 hla hld hE
  by_cases hcc : cap = k + 1
  · obtain rfl := hcc
    have hkl : L.length - (k + 1) = 0 := by omega
    have HKL := hid hkl
    clear hkl
    go_enter Tryz.func79, Tryz.ntmps79
    go_wp2_with (first
      | (at_builtin; have := T1.out; clear T1; refine wpL_more rfl _ _ rfl w.heap.size (.slice none 0 0) [] rfl (Es.nil _ _) (by simp) ⟨g, 0, none⟩ k (k + 1) A rfl HAl.out (by omega) HS1.out (Nat.le_refl _) ?_; intro v1 w1 he1 hg1; rw [List.nil_append] at he1; have HE1 := hid he1; have HG1 := hid hg1; obtain ⟨ad1, cap1, rfl, -⟩ := he1.rd; obtain ⟨k1, k2, k3, k4⟩ := HZ.out w1 hg1; have HK3 := hid k3; have HK4 := hid k4; clear he1 hg1 k3 k4)
      | (at_builtin; refine wpL_more rfl _ _ rfl w.heap.size _ A rfl HE1.out (by have := HAl.out; omega) ⟨g, 0, none⟩ 0 0 D rfl (HDl.out.trans HKL.out) (by omega) (by intro j u hj; rw [List.eq_nil_of_length_eq_zero (HDl.out.trans HKL.out)] at hj; simp [flat] at hj) HG1.out.size ?_; intro v2 w2 he2 hg2; rw [HE.out] at he2; have HE2 := hid he2; have HG2 := hid hg2; obtain ⟨ad2, cap2, rfl, -⟩ := he2.rd; have HO2 := hid (grown_only hg2); have hne : ¬ (Value.slice ad1 A.length cap1).ownBlock = some q := (fun e => by have := (HE1.out.lt e).1; omega); have HP2 := hid (HO2.out.old (HK4.out.trans H.out.top) hne); have m1 : w2.cell? ⟨q, 1, none⟩ = some (.slice (some ⟨g, 0, none⟩) L.length (k + 1)) := (by rw [cell_of_row w2 _ 1 _ _ _ HP2.out]; rfl); have m2 : w2.frozen? ⟨q, 1, none⟩ = false := frozen_of_row w2 _ 1 _ _ HP2.out; have HNE := hid hne; clear he2 hg2 hne))
    go_ret
    refine ⟨rfl, _, RM.put (H.out) (((grown_only HG1.out).mono (T := fun k => w.heap.size ≤ k) (fun k _ z => by cases z)).trans' (T := fun k => w.heap.size ≤ k) (HO2.out.mono (fun k _ z => (HE1.out.lt z).1)) (fun k _ z => z)) (by omega) HE2.out HEl.out, ?_, fun k' hk' => (HE2.out.lt hk').1⟩
    exact (((grown_only HG1.out).mono (T := (· = q)) (fun k _ z => by cases z)).trans' (HO2.out) (fun k hk z => by have := (HE1.out.lt z).1; omega)).setCell (p := ⟨q, 1, none⟩) (.inl rfl) _
  · go_enter Tryz.func79, Tryz.ntmps79
    go_wp2_with (first
      | (at_builtin; have := T1.out; clear T1; refine wpL_more rfl _ _ rfl w.heap.size (.slice none 0 0) [] rfl (Es.nil _ _) (by simp) ⟨g, 0, none⟩ k cap A rfl HAl.out (by omega) HS1.out (Nat.le_refl _) ?_; intro v1 w1 he1 hg1; rw [List.nil_append] at he1; have HE1 := hid he1; have HG1 := hid hg1; obtain ⟨ad1, cap1, rfl, -⟩ := he1.rd; obtain ⟨k1, k2, k3, k4⟩ := HZ.out w1 hg1; have HK3 := hid k3; have HK4 := hid k4; clear he1 hg1 k3 k4)
      | (at_builtin; refine wpL_more rfl _ _ rfl w.heap.size _ A rfl HE1.out (by have := HAl.out; omega) ⟨g, (k + 1) * 4, none⟩ (L.length - (k + 1)) (cap - (k + 1)) D rfl HDl.out (by omega) (fun j u hj => by rw [addr_add, HK3.out, ← addr_add]; exact HS2.out j u hj) HG1.out.size ?_; intro v2 w2 he2 hg2; rw [HE.out] at he2; have HE2 := hid he2; have HG2 := hid hg2; obtain ⟨ad2, cap2, rfl, -⟩ := he2.rd; have HO2 := hid (grown_only hg2); have hne : ¬ (Value.slice ad1 A.length cap1).ownBlock = some q := (fun e => by have := (HE1.out.lt e).1; omega); have HP2 := hid (HO2.out.old (HK4.out.trans H.out.top) hne); have m1 : w2.cell? ⟨q, 1, none⟩ = some (.slice (some ⟨g, 0, none⟩) L.length cap) := (by rw [cell_of_row w2 _ 1 _ _ _ HP2.out]; rfl); have m2 : w2.frozen? ⟨q, 1, none⟩ = false := frozen_of_row w2 _ 1 _ _ HP2.out; have HNE := hid hne; clear he2 hg2 hne))
    go_ret
    refine ⟨rfl, _, RM.put (H.out) (((grown_only HG1.out).mono (T := fun k => w.heap.size ≤ k) (fun k _ z => by cases z)).trans' (T := fun k => w.heap.size ≤ k) (HO2.out.mono (fun k _ z => (HE1.out.lt z).1)) (fun k _ z => z)) (by omega) HE2.out HEl.out, ?_, fun k' hk' => (HE2.out.lt hk').1⟩
    exact (((grown_only HG1.out).mono (T := (· = q)) (fun k _ z => by cases z)).trans' (HO2.out) (fun k hk z => by have := (HE1.out.lt z).1; omega)).setCell (p := ⟨q, 1, none⟩) (.inl rfl) _
end Go.Proofs.YtmdconecigenfaaGreat.E
