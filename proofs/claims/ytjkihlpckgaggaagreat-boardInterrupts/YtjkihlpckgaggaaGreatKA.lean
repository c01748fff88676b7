/- Lists that grow; the bytes of a slot: get. -/
import Derived.Test.YtjkihlpckgaggaaGreatMC2
import Derived.Laws.AppendOwn
import Derived.Deep.DeepCutAuto
import Derived.Deep.CutBlock
import Derived.Laws.Bits64
import Derived.BigQuiet
import Derived.Handy
import Derived.Deep.RegionWith
import Derived.Deep.RegionLaw
import Derived.Laws.Pointers
import Derived.RegionTactic
import Derived.RegionCalls
import Derived.Laws.NewBlocks
namespace Go.Proofs.YtjkihlpckgaggaaGreat.P
open Go.RowKit
open C (Only hid Still ret_bool ret_int)
set_option linter.unusedVariables false
set_option maxRecDepth 100000

section
variable {P : Program} (w : World) {o : Oper} {a : Act} {Q : Exit → Act → World → Prop} (s x : Operand) (t : TypeId)
    (ho : o.op = .call { callee := .builtin .append, args := #[s, x], argTypes := #[t, t] })
    (e : TypeId) (i : TypeInfo) (z : Value) (size bytes : Nat) (ht : P.underlying t = some (.slice e)) (hi : P.info? e = some i) (hz : i.zero = some z)
    (hsize : i.size = size) (hby : i.bytes = bytes) (hzs : z.cells.size = size) (hsz : 0 < size)
    (v : Value) (n : Nat) (xs : List Value) (hs : a.eval s = v) (hown : w.ownsRow 0 e size v n xs)
    (ad : Addr) (m c : Nat) (news : List Value) (hx : a.eval x = .slice (some ad) m c) (hl : news.length = m * size) (hnews : ∀ j u, news[j]? = some u → w.cell? (ad.add j) = some u) (h1 : ∀ u ∈ news, u.oneCell' = true)
    (h63 : n + m ≤ maxLen) (hbytes : (n + m) * bytes ≤ 140737488355328)
include ho ht hi hz hsize hby hzs hsz hs hown hx hl hnews h1 h63 hbytes
/-- append: the list's block is the elder one or a new one -/
theorem wp_append_blk {K : Act → World → Prop} (h : ∀ v' w', w'.ownsRow 0 e size v' (n + m) (xs ++ news) → w.grownBy w' v.ownBlock → (∀ k, v'.ownBlock = some k → v.ownBlock = some k ∨ w.heap.size ≤ k) → K (a.put o.dst v') w') : o.wp P a w K Q := by
  obtain ⟨v', w', hr, h2, h3, h4⟩ := run_append_own (P := P) w 0 t o.type e i z size bytes ht hi hz hsize hby hzs hsz v n xs hown ad m c news hl hnews h1 h63 hbytes (Nat.zero_le _)
  have hb : ∀ k, v'.ownBlock = some k → v.ownBlock = some k ∨ w.heap.size ≤ k := by
    rcases hown.2 with ⟨rfl, rfl⟩ | ⟨g, cap, cur, rfl, hbg, hg, hnc, hcm, hcs, htake⟩
    · obtain ⟨v2, w2, hr2, h22, -, -⟩ := run_append_own (P := P) w w.heap.size t o.type e i z size bytes ht hi hz hsize hby hzs hsz (.slice none 0 0) 0 xs ⟨hown.1, .inl ⟨rfl, rfl⟩⟩ ad m c news hl hnews h1 h63 hbytes (Nat.le_refl _)
      rw [hr] at hr2
      injection hr2 with e1 e2
      subst e1
      exact fun k hk => .inr (h22.lt k hk).1
    · subst hsize
      by_cases hroom : n + m ≤ cap
      · have hfit : n * i.size + news.length ≤ cur.size := by rw [hl, hcs, ← Nat.add_mul]; exact Nat.mul_le_mul_right _ hroom
        have hr2 := run_append_room (P := P) w t o.type e i ht hi g n cap cur hg ad m c news hl hnews h1 hroom hfit
        rw [hr] at hr2
        injection hr2 with e1 e2
        subst e1
        exact fun k hk => .inl hk
      · have holds : ∀ j u, xs[j]? = some u → w.cell? ((⟨g, 0, none⟩ : Addr).add j) = some u := hown.cells (g := g) rfl
        have hr2 := run_append_grow (P := P) w t o.type e i z ht hi hz ⟨g, 0, none⟩ n cap xs hown.1 holds ad m c news hl hnews (by omega) (by simp only [maxLen] at h63; omega) (growslice_fits (by omega) (by rw [hby]; exact hbytes))
        rw [hr] at hr2
        injection hr2 with e1 e2
        subst e1
        exact fun k hk => .inr (by simp [Value.ownBlock] at hk; omega)
  unfold Oper.wp execOp
  simp only [ho, resolve, invoke, builtin, Sem.run_bind, Sem.run_pure, Result.andThen_ok, List.map_toArray, List.map_cons, List.map_nil, hs, hx, hr]
  exact h v' w' h2 h3 hb
theorem wpList_append_blk {ops : Array Oper} {rest : List Oper} (hgd : o.guard = none) (h : ∀ v' w', w'.ownsRow 0 e size v' (n + m) (xs ++ news) → w.grownBy w' v.ownBlock → (∀ k, v'.ownBlock = some k → v.ownBlock = some k ∨ w.heap.size ≤ k) → wpList P ops Q rest (a.put o.dst v') w') : wpList P ops Q (o :: rest) a w :=
  wpList_plain hgd fun _ hK => wp_append_blk w s x t ho e i z size bytes ht hi hz hsize hby hzs hsz v n xs hs hown ad m c news hx hl hnews h1 h63 hbytes fun v' w' h2 h3 h4 => hK _ _ (h v' w' h2 h3 h4)
theorem step_append_blk {ops : Array Oper} {K : Act → World → Prop} {E : Prop} (hgd : o.guard = none) (h : ∀ v' w', w'.ownsRow 0 e size v' (n + m) (xs ++ news) → w.grownBy w' v.ownBlock → (∀ k, v'.ownBlock = some k → v.ownBlock = some k ∨ w.heap.size ≤ k) → K (a.put o.dst v') w') :
    if Region.wanted o (yielded ops a.tmps) = true then Oper.wp P o a w K Q else E := by
  have hw : Region.wanted o (yielded ops a.tmps) = true := by simp [Region.wanted, hgd]
  rw [if_pos hw]
  exact wp_append_blk w s x t ho e i z size bytes ht hi hz hsize hby hzs hsz v n xs hs hown ad m c news hx hl hnews h1 h63 hbytes h
end
/-- the block of a list -/
def Ug (u : Value) (k : Nat) : Prop := u.ownBlock = some k
theorem grown_ug {w w' : World} {u : Value} (hg : w.grownBy w' u.ownBlock) : Only (Ug u) w w' := ⟨hg.os, hg.tape, hg.output, hg.size, fun k hk hs => hg.block k hk fun e => hs e.symm⟩
theorem own_only {w w' : World} {e : TypeId} {size : Nat} {u : Value} {n : Nat} {xs : List Value} (h : w.ownsRow 0 e size u n xs) {T : Nat → Prop} (ho : Only T w w') (hd : ∀ k, Ug u k → ¬ T k) : w'.ownsRow 0 e size u n xs := by
  refine ⟨h.1, ?_⟩
  rcases h.2 with z | ⟨g, cap, cur, h1, h2, h3, h4⟩
  · exact .inl z
  · exact .inr ⟨g, cap, cur, h1, h2, ho.old h3 (hd g (by rw [h1]; rfl)), h4⟩
theorem own_below {w w' : World} {e : TypeId} {size : Nat} {u : Value} {n : Nat} {xs : List Value} (h : w.ownsRow 0 e size u n xs) (hb : Below w.heap.size w w') : w'.ownsRow 0 e size u n xs := own_only h (T := fun _ => False) (.ofBelow hb) fun _ _ z => z
theorem own_typ {w : World} {e : TypeId} {size : Nat} {u : Value} {n : Nat} {xs : List Value} (h : w.ownsRow 0 e size u n xs) {k : Nat} (hk : Ug u k) : ∃ cur, w.heap[k]? = some (.cells cur e (0, 0)) := by
  rcases h.2 with ⟨z, -⟩ | ⟨g, cap, cur, h1, h2, h3, h4⟩
  · rw [z] at hk; cases hk
  · rw [h1] at hk
    have : g = k := by simpa [Ug, Value.ownBlock] using hk
    exact ⟨cur, this ▸ h3⟩
theorem own_form {w : World} {e : TypeId} {u : Value} {n : Nat} {xs : List Value} (h : w.ownsRow 0 e 1 u n xs) : ∃ ad c, u = .slice ad n c := by
  rcases h.2 with ⟨h1, h2⟩ | ⟨g, cap, cur, h1, h2⟩
  · exact ⟨none, 0, by rw [h1, h2]⟩
  · exact ⟨_, cap, h1⟩
theorem setRowB (w : World) (g k : Nat) (cs cs' : Array Value) (t : TypeId) (v : Value) (hg : w.heap[g]? = some (.cells cs t (0, 0))) (he : cs.setIfInBounds k v = cs') : (w.setCell ⟨g, k, none⟩ v).heap[g]? = some (.cells cs' t (0, 0)) := by
  rw [setCell_eq_setRow w g k cs t (0, 0) v hg, he]
  exact setRow_heap w g cs _ t _ hg
theorem only_c (w : World) (g k : Nat) (x : Value) : Only (· = g) w (w.setCell ⟨g, k, none⟩ x) := (Only.refl (S := (· = g)) w).setCell (.inl rfl) x
theorem one_cell (w : World) (V : Value) (t : TypeId) (i : Nat) (u : Value) (h : [V][i]? = some u) : (w.alloc (.cells #[V] t)).cell? ((⟨w.heap.size, 0, none⟩ : Addr).add i) = some u := by
  obtain rfl : i = 0 := by
    rcases Nat.eq_zero_or_pos i with z | z
    · exact z
    · rw [List.getElem?_eq_none (by simp; omega)] at h; cases h
  rw [C.addr_add]
  have : (w.alloc (.cells #[V] t)).cell? ⟨w.heap.size, 0, none⟩ = some V := cell_of_row _ _ 0 _ _ _ (heap_alloc_new w _)
  simp at h
  subst h
  exact this

def Byt (x : Int) : Prop := 0 ≤ x ∧ x < 256
theorem own_ne {w : World} {e : TypeId} {size : Nat} {u : Value} {n : Nat} {xs : List Value} (h : w.ownsRow 0 e size u n xs) {p : Nat} {c : Array Value} {t : TypeId} (hp : w.heap[p]? = some (.cells c t (0, 0))) (ht : e ≠ t) : ∀ k, Ug u k → k ≠ p := fun k hk z => by
  subst z
  obtain ⟨cur, y⟩ := own_typ h hk
  rw [hp] at y
  simp at y
  exact ht y.2.symm
theorem own_lt {w : World} {e : TypeId} {size : Nat} {u : Value} {n : Nat} {xs : List Value} (h : w.ownsRow 0 e size u n xs) : ∀ k, Ug u k → k < w.heap.size := fun k hk => by
  obtain ⟨cur, y⟩ := own_typ h hk
  exact lt_of_block y
/-- a list grows: only its own block has turned -/
theorem grew {w w3 : World} {u : Value} {o : Obj} (hg : (w.alloc o).grownBy w3 u.ownBlock) : Only (Ug u) w w3 := (Only.ofBelow ((Below.refl _ _).alloc (Nat.le_refl _) o)).trans (grown_ug hg)
/-- a block whose first N cells are the bytes f -/
def SpR (w : World) (g : Nat) (t : TypeId) (f : Nat → Int) (N M : Nat) : Prop := ∃ cur : Array Value, w.heap[g]? = some (.cells cur t (0, 0)) ∧ cur.size = M ∧ N ≤ M ∧ ∀ j, j < N → cur[j]? = some (.int .u8 (f j))
theorem SpR.cell {w : World} {g : Nat} {t : TypeId} {f : Nat → Int} {N M : Nat} (h : SpR w g t f N M) (j : Nat) (hj : j < N) : w.cell? ⟨g, j, none⟩ = some (.int .u8 (f j)) := by
  obtain ⟨cur, h1, h2, h3, h4⟩ := h
  rw [cell_of_row w g j _ t _ h1]
  exact h4 j hj
theorem SpR.fz {w : World} {g : Nat} {t : TypeId} {f : Nat → Int} {N M : Nat} (h : SpR w g t f N M) (j : Nat) : w.frozen? ⟨g, j, none⟩ = false := by
  obtain ⟨cur, h1, -⟩ := h
  exact frozen_of_row w g j _ _ h1
theorem SpR.set {w : World} {g : Nat} {t : TypeId} {f : Nat → Int} {N M : Nat} (h : SpR w g t f N M) (k : Nat) (x : Int) (hk : k < N) : SpR (w.setCell ⟨g, k, none⟩ (.int .u8 x)) g t (C.put f k 1 (fun _ => x)) N M := by
  obtain ⟨cur, h1, h2, h3, h4⟩ := h
  refine ⟨cur.setIfInBounds k (.int .u8 x), setRowB w g k _ _ _ _ h1 rfl, by simpa using h2, h3, fun j hj => ?_⟩
  rw [Array.getElem?_setIfInBounds]
  by_cases e : k = j
  · subst e
    rw [if_pos rfl, if_pos (by omega), C.put_in' _ _ _ _ _ (by omega) (by omega)]
  · rw [if_neg e, C.put_out _ _ _ _ _ (by omega)]
    exact h4 j hj
theorem SpR.only {w w' : World} {g : Nat} {t : TypeId} {f : Nat → Int} {N M : Nat} (h : SpR w g t f N M) {S : Nat → Prop} (ho : Only S w w') (hs : ¬ S g) : SpR w' g t f N M := by
  obtain ⟨cur, h1, h2⟩ := h
  exact ⟨cur, ho.old h1 hs, h2⟩
theorem SpR.lt {w : World} {g : Nat} {t : TypeId} {f : Nat → Int} {N M : Nat} (h : SpR w g t f N M) : g < w.heap.size := by
  obtain ⟨cur, h1, -⟩ := h
  exact lt_of_block h1
theorem SpR.congr {w : World} {g : Nat} {t : TypeId} {f f' : Nat → Int} {N M : Nat} (h : SpR w g t f N M) (he : ∀ j, j < N → f j = f' j) : SpR w g t f' N M := by
  obtain ⟨cur, h1, h2, h3, h4⟩ := h
  exact ⟨cur, h1, h2, h3, fun j hj => by rw [h4 j hj, he j hj]⟩
set_option maxHeartbeats 1000000 in
theorem s_get (w : World) (g : Nat) (t : TypeId) (f : Nat → Int) (N M : Nat) (h : SpR w g t f N M) (hf : ∀ j, Byt (f j)) (b off n : Nat) (hn : n ≤ 4) (h1 : off + n ≤ 256) (h2 : b + off + n ≤ N) :
    Calls Tryz.prog 69 #[.pointer (some ⟨g, b, none⟩), .int .u64 (off : Int), .int .i64 (n : Int)] w fun e w' => e = .returned (.int .u64 (C.nu (fun j => f (b + off + j)) n)) ∧ w' = w := by
  have HC : Hid (∀ k, k < n → w.cell? ⟨g, b + (off + k), none⟩ = some (.int .u8 (f (b + off + k)))) := fun k hk => by
    rw [← Nat.add_assoc]; exact h.cell _ (by omega)
  clear h
  have HF := hid hf
  clear hf
  go_enter Tryz.func69, Tryz.ntmps69
  go_wp2_with fail
  go_loopw [7, 11] (fun v i wr => ∃ k : Nat, k ≤ n ∧ i = .int .u64 k ∧ v = .int .u64 (C.nu (fun j => f (b + off + j)) k) ∧ wr = w) (fun _ i _ => n - (intOf i).toNat)
  case atStart => exact ⟨0, by omega, rfl, rfl, rfl⟩
  case round =>
    obtain ⟨k, hk, rfl, rfl, hw⟩ := hrel
    obtain rfl := hw.symm
    by_cases hlt : k < n
    · have hc := HC.out k hlt
      obtain ⟨hb0, hb1⟩ := HF.out (b + off + k)
      have hnu := C.nu_lt (fun j => f (b + off + j)) (fun j => HF.out _) k
      have hor := C.or_nu _ (f (b + off + k)) k (by omega) hnu.1 hnu.2 hb0 hb1
      have HS : Hid (C.nu (fun j => f (b + off + j)) k + f (b + off + k) * 256 ^ k = C.nu (fun j => f (b + off + j)) (k + 1)) := C.nu_step (fun j => f (b + off + j)) k
      obtain ⟨V, hV⟩ : ∃ V, V = C.nu (fun j => f (b + off + j)) k := ⟨_, rfl⟩
      rw [← hV] at hnu hor HS ⊢
      obtain ⟨n0, n1⟩ := hnu
      generalize f (b + off + k) = y at *
      clear hV
      rcases (show k = 0 ∨ k = 1 ∨ k = 2 ∨ k = 3 by omega) with rfl | rfl | rfl | rfl
      all_goals
        simp only [Nat.add_zero, Int.pow_zero, Int.mul_one, show (256 : Int) ^ 1 = 256 by decide, show (256 : Int) ^ 2 = 65536 by decide, show (256 : Int) ^ 3 = 16777216 by decide] at hc hor n1 HS
        have e1 : y % 18446744073709551616 = y := by omega
        go_wp2
        go_roundw
        case rel => exact ⟨_, hlt, by go_num, by rw [← HS.out, ← hor], trivial⟩
        case measure => simp [intOf]; omega
    · obtain rfl : k = n := by omega
      go_wp2
      go_ret
      exact ⟨rfl, rfl⟩
end Go.Proofs.YtjkihlpckgaggaaGreat.P
