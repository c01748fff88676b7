/- A UART: its block, its two lists. -/
import Derived.Test.YtmpldaenakenlaaMC2
import Derived.Laws.AppendOwn
import Derived.Deep.DeepCutAuto
import Derived.Deep.CutBlock
import Derived.Laws.Bits64
import Derived.BigQuiet
import Derived.Handy
import Derived.Deep.RegionWith
import Derived.Deep.RegionLaw
import Derived.Laws.Pointers
import Derived.RegionTactic
import Derived.RegionCalls
import Derived.Laws.NewBlocks
namespace Go.Proofs.Ytmpldaenakenlaa
open Go.RowKit
open C (Only hid Still ret_bool ret_int)
set_option linter.unusedVariables false
set_option maxRecDepth 100000

section
variable {P : Program} (w : World) {o : Oper} {a : Act} {Q : Exit → Act → World → Prop} (s x : Operand) (t : TypeId)
    (ho : o.op = .call { callee := .builtin .append, args := #[s, x], argTypes := #[t, t] })
    (e : TypeId) (i : TypeInfo) (z : Value) (size bytes : Nat) (ht : P.underlying t = some (.slice e)) (hi : P.info? e = some i) (hz : i.zero = some z)
    (hsize : i.size = size) (hby : i.bytes = bytes) (hzs : z.cells.size = size) (hsz : 0 < size)
    (v : Value) (n : Nat) (xs : List Value) (hs : a.eval s = v) (hown : w.ownsRow 0 e size v n xs)
    (ad : Addr) (m c : Nat) (news : List Value) (hx : a.eval x = .slice (some ad) m c) (hl : news.length = m * size) (hnews : ∀ j u, news[j]? = some u → w.cell? (ad.add j) = some u) (h1 : ∀ u ∈ news, u.oneCell' = true)
    (h63 : n + m ≤ maxLen) (hbytes : (n + m) * bytes ≤ 140737488355328)
include ho ht hi hz hsize hby hzs hsz hs hown hx hl hnews h1 h63 hbytes
/-- append: the list's block is the elder one or a new one -/
theorem wp_append_blk {K : Act → World → Prop} (h : ∀ v' w', w'.ownsRow 0 e size v' (n + m) (xs ++ news) → w.grownBy w' v.ownBlock → (∀ k, v'.ownBlock = some k → v.ownBlock = some k ∨ w.heap.size ≤ k) → K (a.put o.dst v') w') : o.wp P a w K Q := by
  obtain ⟨v', w', hr, h2, h3, h4⟩ := run_append_own (P := P) w 0 t o.type e i z size bytes ht hi hz hsize hby hzs hsz v n xs hown ad m c news hl hnews h1 h63 hbytes (Nat.zero_le _)
  have hb : ∀ k, v'.ownBlock = some k → v.ownBlock = some k ∨ w.heap.size ≤ k := by
    rcases hown.2 with ⟨rfl, rfl⟩ | ⟨g, cap, cur, rfl, hbg, hg, hnc, hcm, hcs, htake⟩
    · obtain ⟨v2, w2, hr2, h22, -, -⟩ := run_append_own (P := P) w w.heap.size t o.type e i z size bytes ht hi hz hsize hby hzs hsz (.slice none 0 0) 0 xs ⟨hown.1, .inl ⟨rfl, rfl⟩⟩ ad m c news hl hnews h1 h63 hbytes (Nat.le_refl _)
      rw [hr] at hr2
      injection hr2 with e1 e2
      subst e1
      exact fun k hk => .inr (h22.lt k hk).1
    · subst hsize
      by_cases hroom : n + m ≤ cap
      · have hfit : n * i.size + news.length ≤ cur.size := by rw [hl, hcs, ← Nat.add_mul]; exact Nat.mul_le_mul_right _ hroom
        have hr2 := run_append_room (P := P) w t o.type e i ht hi g n cap cur hg ad m c news hl hnews h1 hroom hfit
        rw [hr] at hr2
        injection hr2 with e1 e2
        subst e1
        exact fun k hk => .inl hk
      · have holds : ∀ j u, xs[j]? = some u → w.cell? ((⟨g, 0, none⟩ : Addr).add j) = some u := hown.cells (g := g) rfl
        have hr2 := run_append_grow (P := P) w t o.type e i z ht hi hz ⟨g, 0, none⟩ n cap xs hown.1 holds ad m c news hl hnews (by omega) (by simp only [maxLen] at h63; omega) (growslice_fits (by omega) (by rw [hby]; exact hbytes))
        rw [hr] at hr2
        injection hr2 with e1 e2
        subst e1
        exact fun k hk => .inr (by simp [Value.ownBlock] at hk; omega)
  unfold Oper.wp execOp
  simp only [ho, resolve, invoke, builtin, Sem.run_bind, Sem.run_pure, Result.andThen_ok, List.map_toArray, List.map_cons, List.map_nil, hs, hx, hr]
  exact h v' w' h2 h3 hb
theorem wpList_append_blk {ops : Array Oper} {rest : List Oper} (hgd : o.guard = none) (h : ∀ v' w', w'.ownsRow 0 e size v' (n + m) (xs ++ news) → w.grownBy w' v.ownBlock → (∀ k, v'.ownBlock = some k → v.ownBlock = some k ∨ w.heap.size ≤ k) → wpList P ops Q rest (a.put o.dst v') w') : wpList P ops Q (o :: rest) a w :=
  wpList_plain hgd fun _ hK => wp_append_blk w s x t ho e i z size bytes ht hi hz hsize hby hzs hsz v n xs hs hown ad m c news hx hl hnews h1 h63 hbytes fun v' w' h2 h3 h4 => hK _ _ (h v' w' h2 h3 h4)
theorem step_append_blk {ops : Array Oper} {K : Act → World → Prop} {E : Prop} (hgd : o.guard = none) (h : ∀ v' w', w'.ownsRow 0 e size v' (n + m) (xs ++ news) → w.grownBy w' v.ownBlock → (∀ k, v'.ownBlock = some k → v.ownBlock = some k ∨ w.heap.size ≤ k) → K (a.put o.dst v') w') :
    if Region.wanted o (yielded ops a.tmps) = true then Oper.wp P o a w K Q else E := by
  have hw : Region.wanted o (yielded ops a.tmps) = true := by simp [Region.wanted, hgd]
  rw [if_pos hw]
  exact wp_append_blk w s x t ho e i z size bytes ht hi hz hsize hby hzs hsz v n xs hs hown ad m c news hx hl hnews h1 h63 hbytes h
end
/-- the block of a list -/
def Ug (u : Value) (k : Nat) : Prop := u.ownBlock = some k
theorem grown_ug {w w' : World} {u : Value} (hg : w.grownBy w' u.ownBlock) : Only (Ug u) w w' := ⟨hg.os, hg.tape, hg.output, hg.size, fun k hk hs => hg.block k hk fun e => hs e.symm⟩
theorem own_only {w w' : World} {e : TypeId} {size : Nat} {u : Value} {n : Nat} {xs : List Value} (h : w.ownsRow 0 e size u n xs) {T : Nat → Prop} (ho : Only T w w') (hd : ∀ k, Ug u k → ¬ T k) : w'.ownsRow 0 e size u n xs := by
  refine ⟨h.1, ?_⟩
  rcases h.2 with z | ⟨g, cap, cur, h1, h2, h3, h4⟩
  · exact .inl z
  · exact .inr ⟨g, cap, cur, h1, h2, ho.old h3 (hd g (by rw [h1]; rfl)), h4⟩
theorem own_below {w w' : World} {e : TypeId} {size : Nat} {u : Value} {n : Nat} {xs : List Value} (h : w.ownsRow 0 e size u n xs) (hb : Below w.heap.size w w') : w'.ownsRow 0 e size u n xs := own_only h (T := fun _ => False) (.ofBelow hb) fun _ _ z => z
theorem own_typ {w : World} {e : TypeId} {size : Nat} {u : Value} {n : Nat} {xs : List Value} (h : w.ownsRow 0 e size u n xs) {k : Nat} (hk : Ug u k) : ∃ cur, w.heap[k]? = some (.cells cur e (0, 0)) := by
  rcases h.2 with ⟨z, -⟩ | ⟨g, cap, cur, h1, h2, h3, h4⟩
  · rw [z] at hk; cases hk
  · rw [h1] at hk
    have : g = k := by simpa [Ug, Value.ownBlock] using hk
    exact ⟨cur, this ▸ h3⟩
theorem own_form {w : World} {e : TypeId} {u : Value} {n : Nat} {xs : List Value} (h : w.ownsRow 0 e 1 u n xs) : ∃ ad c, u = .slice ad n c := by
  rcases h.2 with ⟨h1, h2⟩ | ⟨g, cap, cur, h1, h2⟩
  · exact ⟨none, 0, by rw [h1, h2]⟩
  · exact ⟨_, cap, h1⟩
theorem setRowB (w : World) (g k : Nat) (cs cs' : Array Value) (t : TypeId) (v : Value) (hg : w.heap[g]? = some (.cells cs t (0, 0))) (he : cs.setIfInBounds k v = cs') : (w.setCell ⟨g, k, none⟩ v).heap[g]? = some (.cells cs' t (0, 0)) := by
  rw [setCell_eq_setRow w g k cs t (0, 0) v hg, he]
  exact setRow_heap w g cs _ t _ hg
theorem only_c (w : World) (g k : Nat) (x : Value) : Only (· = g) w (w.setCell ⟨g, k, none⟩ x) := (Only.refl (S := (· = g)) w).setCell (.inl rfl) x
theorem one_cell (w : World) (V : Value) (t : TypeId) (i : Nat) (u : Value) (h : [V][i]? = some u) : (w.alloc (.cells #[V] t)).cell? ((⟨w.heap.size, 0, none⟩ : Addr).add i) = some u := by
  obtain rfl : i = 0 := by
    rcases Nat.eq_zero_or_pos i with z | z
    · exact z
    · rw [List.getElem?_eq_none (by simp; omega)] at h; cases h
  rw [C.addr_add]
  have : (w.alloc (.cells #[V] t)).cell? ⟨w.heap.size, 0, none⟩ = some V := cell_of_row _ _ 0 _ _ _ (heap_alloc_new w _)
  simp at h
  subst h
  exact this

/-- bytes as cells -/
def bys (l : List Int) : List Value := l.map (Value.int .u8)
theorem bys_len (l : List Int) : (bys l).length = l.length := by simp [bys]
theorem bys_app (l : List Int) (x : Int) : bys l ++ [Value.int .u8 x] = bys (l ++ [x]) := by simp [bys]
theorem bys_get (l : List Int) (j : Nat) (u : Value) (h : (bys l)[j]? = some u) : ∃ x, l[j]? = some x ∧ u = .int .u8 x := by
  unfold bys at h
  rw [List.getElem?_map] at h
  cases e : l[j]? with
  | none => rw [e] at h; cases h
  | some x => rw [e] at h; exact ⟨x, rfl, by simpa using h.symm⟩
theorem bys_one (l : List Int) : ∀ u ∈ bys l, u.oneCell' = true := by
  intro u hu
  simp only [bys, List.mem_map] at hu
  obtain ⟨x, _, rfl⟩ := hu
  rfl
def Byt (x : Int) : Prop := 0 ≤ x ∧ x < 256
structure UV where
  q : List Int
  s : List Int
  h : Nat → Int
  d : Nat → Int
  ov : Bool
  em : Bool
def UV.cells (v : UV) (a b : Value) : Array Value := #[a, b, .int .u8 (v.h 0), .int .u8 (v.h 1), .int .u8 (v.h 2), .int .u8 (v.h 3), .int .u8 (v.h 4), .int .u8 (v.h 5), .int .u8 (v.h 6), .int .u8 (v.h 7), .int .u8 (v.d 0), .int .u8 (v.d 1), .bool v.ov, .bool v.em]
structure UOk (v : UV) : Prop where
  h : ∀ i, Byt (v.h i)
  d : ∀ i, Byt (v.d i)
  l : v.q.length ≤ 16
  q : ∀ x ∈ v.q, Byt x
  s : ∀ x ∈ v.s, Byt x
structure Uo (w : World) (p : Nat) (a b : Value) (v : UV) : Prop where
  top : w.heap[p]? = some (.cells (v.cells a b) 73 (0, 0))
  q : w.ownsRow 0 5 1 a v.q.length (bys v.q)
  s : w.ownsRow 0 5 1 b v.s.length (bys v.s)
  ab : ∀ k, Ug a k → ¬ Ug b k
/-- a UART, its blocks F -/
def Ux (w : World) (F : Nat → Prop) (p : Nat) (v : UV) : Prop := ∃ a b, Uo w p a b v ∧ UOk v ∧ ∀ x, F x ↔ x = p ∨ Ug a x ∨ Ug b x
/-- what a call may turn: blocks of F; those behind it are F's or new -/
def Tn (w w' : World) (F F' : Nat → Prop) : Prop := Only F w w' ∧ ∀ x, F' x → F x ∨ w.heap.size ≤ x
theorem Tn.refl (w : World) (F : Nat → Prop) : Tn w w F F := ⟨.refl w, fun x h => .inl h⟩
theorem own_ne {w : World} {e : TypeId} {size : Nat} {u : Value} {n : Nat} {xs : List Value} (h : w.ownsRow 0 e size u n xs) {p : Nat} {c : Array Value} {t : TypeId} (hp : w.heap[p]? = some (.cells c t (0, 0))) (ht : e ≠ t) : ∀ k, Ug u k → k ≠ p := fun k hk z => by
  subst z
  obtain ⟨cur, y⟩ := own_typ h hk
  rw [hp] at y
  simp at y
  exact ht y.2.symm
theorem own_lt {w : World} {e : TypeId} {size : Nat} {u : Value} {n : Nat} {xs : List Value} (h : w.ownsRow 0 e size u n xs) : ∀ k, Ug u k → k < w.heap.size := fun k hk => by
  obtain ⟨cur, y⟩ := own_typ h hk
  exact lt_of_block y
section
variable {w w1 w' : World} {p : Nat} {a b : Value} {v : UV} {F : Nat → Prop}
theorem Uo.only (h : Uo w p a b v) {T : Nat → Prop} (ho : Only T w w') (hp : ¬ T p) (ha : ∀ k, Ug a k → ¬ T k) (hb : ∀ k, Ug b k → ¬ T k) : Uo w' p a b v :=
  ⟨ho.old h.top hp, own_only h.q ho ha, own_only h.s ho hb, h.ab⟩
theorem Uo.put (h : Uo w p a b v) (k : Nat) (u : Value) (v' : UV) (hq : v'.q = v.q) (hs : v'.s = v.s) (hc : (v.cells a b).setIfInBounds k u = v'.cells a b) : Uo (w.setCell ⟨p, k, none⟩ u) p a b v' :=
  ⟨setRowB w p k _ _ _ _ h.top hc, by rw [hq]; exact own_only h.q (only_c w p k u) (own_ne h.q h.top (by decide)), by rw [hs]; exact own_only h.s (only_c w p k u) (own_ne h.s h.top (by decide)), h.ab⟩
theorem Uo.newq (h : Uo w p a b v) (a' : Value) (l : List Int) (ho : w1.ownsRow 0 5 1 a' l.length (bys l)) (hg : Only (Ug a) w w1) (hb : ∀ k, Ug a' k → Ug a k ∨ w.heap.size ≤ k) : Uo (w1.setCell ⟨p, 0, none⟩ a') p a' b { v with q := l } := by
  have t1 := hg.old h.top fun z => own_ne h.q h.top (by decide) p z rfl
  have s1 := own_only h.s hg fun k hk z => h.ab k z hk
  refine ⟨setRowB w1 p 0 _ _ _ _ t1 rfl, own_only ho (only_c w1 p 0 a') (own_ne ho t1 (by decide)), own_only s1 (only_c w1 p 0 a') (own_ne s1 t1 (by decide)), fun k hk z => ?_⟩
  rcases hb k hk with y | y
  · exact h.ab k y z
  · have := own_lt h.s k z; omega
theorem Uo.news (h : Uo w p a b v) (b' : Value) (l : List Int) (ho : w1.ownsRow 0 5 1 b' l.length (bys l)) (hg : Only (Ug b) w w1) (hb : ∀ k, Ug b' k → Ug b k ∨ w.heap.size ≤ k) : Uo (w1.setCell ⟨p, 1, none⟩ b') p a b' { v with s := l } := by
  have t1 := hg.old h.top fun z => own_ne h.s h.top (by decide) p z rfl
  have s1 := own_only h.q hg fun k hk z => h.ab k hk z
  refine ⟨setRowB w1 p 1 _ _ _ _ t1 rfl, own_only s1 (only_c w1 p 1 b') (own_ne s1 t1 (by decide)), own_only ho (only_c w1 p 1 b') (own_ne ho t1 (by decide)), fun k hk z => ?_⟩
  rcases hb k z with y | y
  · exact h.ab k hk y
  · have := own_lt h.q k hk; omega
theorem Ux.mk (hF : ∀ x, F x ↔ x = p ∨ Ug a x ∨ Ug b x) {a' b' : Value} {v' : UV} (h' : Uo w' p a' b' v') (ok : UOk v') (ho : Only (fun x => x = p ∨ Ug a x ∨ Ug b x) w w') (ha : ∀ k, Ug a' k → Ug a k ∨ w.heap.size ≤ k) (hb : ∀ k, Ug b' k → Ug b k ∨ w.heap.size ≤ k) : ∃ F', Ux w' F' p v' ∧ Tn w w' F F' := by
  refine ⟨fun x => x = p ∨ Ug a' x ∨ Ug b' x, ⟨a', b', h', ok, fun x => Iff.rfl⟩, ho.mono fun k _ z => (hF k).2 z, ?_⟩
  rintro x (z | z | z)
  · exact .inl ((hF x).2 (.inl z))
  · exact (ha x z).imp (fun y => (hF x).2 (.inr (.inl y))) id
  · exact (hb x z).imp (fun y => (hF x).2 (.inr (.inr y))) id
theorem Ux.only (h : Ux w F p v) {T : Nat → Prop} (ho : Only T w w') (hd : ∀ x, F x → ¬ T x) : Ux w' F p v := by
  obtain ⟨a, b, h1, ok, hF⟩ := h
  exact ⟨a, b, h1.only ho (hd p ((hF p).2 (.inl rfl))) (fun k hk => hd k ((hF k).2 (.inr (.inl hk)))) (fun k hk => hd k ((hF k).2 (.inr (.inr hk)))), ok, hF⟩
theorem Ux.lt (h : Ux w F p v) {x : Nat} (hx : F x) : x < w.heap.size := by
  obtain ⟨a, b, h1, ok, hF⟩ := h
  rcases (hF x).1 hx with z | z | z
  · subst z; exact lt_of_block h1.top
  · exact own_lt h1.q x z
  · exact own_lt h1.s x z
end
theorem info_u8 : (Try.prog.info? 5).map (fun i => (i.zero, i.size, i.bytes)) = some (some (.int .u8 0), 1, 1) := by kernel_rfl
theorem u_su8 : Try.prog.underlying 26 = some (.slice 5) := by kernel_rfl
/-- a list grows: only its own block has turned -/
theorem grew {w w3 : World} {u : Value} {o : Obj} (hg : (w.alloc o).grownBy w3 u.ownBlock) : Only (Ug u) w w3 := (Only.ofBelow ((Below.refl _ _).alloc (Nat.le_refl _) o)).trans (grown_ug hg)
def uv0 : UV := ⟨[], [], fun _ => 0, fun _ => 0, false, false⟩
theorem byt0 : Byt 0 := by constructor <;> decide
theorem uok0 : UOk uv0 := ⟨fun i => byt0, fun i => byt0, Nat.zero_le _, fun x hx => (by cases hx), fun x hx => (by cases hx)⟩
theorem u_New (w : World) : Calls Try.prog 12 #[] w fun e w' => e = .returned (.pointer (some ⟨w.heap.size, 0, none⟩)) ∧ (∃ F, Ux w' F w.heap.size uv0 ∧ ∀ x, F x → x = w.heap.size) ∧ Below w.heap.size w w' := by
  go_enter Try.func12, Try.ntmps12
  go_wp2
  go_ret
  refine ⟨rfl, ⟨fun x => x = w.heap.size, ⟨.slice none 0 0, .slice none 0 0, ⟨heap_alloc_new w _, ⟨rfl, .inl ⟨rfl, rfl⟩⟩, ⟨rfl, .inl ⟨rfl, rfl⟩⟩, fun k z => (by cases z)⟩, uok0, fun x => ⟨.inl, fun z => z.elim id fun y => y.elim (fun z => (by cases z)) fun z => (by cases z)⟩⟩, fun x z => z⟩, (Below.refl _ _).alloc (Nat.le_refl _) _⟩
end Go.Proofs.Ytmpldaenakenlaa
