/- The document's switch: six bytes. -/
import Derived.Test.YtpppljlfljoccaaMH2
import Derived.Deep.WholeRow
import Derived.BigQuiet
import Derived.Test.YtpppljlfljoccaaMC5
import Derived.Deep.Slices
namespace Go.Proofs.Ytpppljlfljoccaa
open Go.RowKit Go.MapKept
open C (Only hid Still ret_bool ret_int row)
set_option linter.unusedVariables false
set_option maxRecDepth 100000

/-- the j-th byte -/
def gA (a : Ad) : Nat → Int | 0 => a.1 | 1 => a.2.1 | 2 => a.2.2.1 | 3 => a.2.2.2.1 | 4 => a.2.2.2.2.1 | _ => a.2.2.2.2.2
def pA (a : Ad) (j : Nat) : Array Value := #[.int .u8 (if 0 < j then a.1 else 0), .int .u8 (if 1 < j then a.2.1 else 0), .int .u8 (if 2 < j then a.2.2.1 else 0), .int .u8 (if 3 < j then a.2.2.2.1 else 0), .int .u8 (if 4 < j then a.2.2.2.2.1 else 0), .int .u8 (if 5 < j then a.2.2.2.2.2 else 0)]
theorem pA_succ (a : Ad) (j : Nat) (h : j < 6) : (pA a j).setIfInBounds j (.int .u8 (gA a j)) = pA a (j + 1) := by
  match j, h with
  | 0, _ => rfl
  | 1, _ => rfl
  | 2, _ => rfl
  | 3, _ => rfl
  | 4, _ => rfl
  | 5, _ => rfl
  | j + 6, h => omega
theorem pA_size (a : Ad) (j : Nat) : (pA a j).size = 6 := rfl
theorem pA_get (a : Ad) (j i : Nat) (h : i < 6) : ∃ v, (pA a j)[i]? = some (.int .u8 v) := by
  match i, h with
  | 0, _ => exact ⟨_, rfl⟩
  | 1, _ => exact ⟨_, rfl⟩
  | 2, _ => exact ⟨_, rfl⟩
  | 3, _ => exact ⟨_, rfl⟩
  | 4, _ => exact ⟨_, rfl⟩
  | 5, _ => exact ⟨_, rfl⟩
  | i + 6, h => omega
theorem results_row {P : Program} {fn : Func} {p : Tmp} {ty : TypeId} (h : fn.results = #[.cell p ty]) (tmps : Array Value) (w : World) (g : Nat) (t : TypeId) (cs : Array Value) (fr : Nat × Nat) (d : TypeDesc)
    (hp : tmps.getD p undef = .pointer (some ⟨g, 0, none⟩)) (hg : w.heap[g]? = some (.cells cs t fr))
    (hu : P.underlying ty = some d) (hd : (match d with | .struct _ | .array _ _ => true | _ => false) = true) (hi : (P.info? ty).map (·.size) = some cs.size) :
    (results fn tmps).run P w = .ok (.agg cs) w := by
  have e : (results fn tmps).run P w = ((asAddr (tmps.getD p undef) >>= loadVar ty) : Sem Value).run P w := by simp [results, h]
  rw [e, hp]
  simp [asAddr, run_loadVar_row w g t ty cs fr d hg hu hd hi]
theorem u_a6 : Try.prog.underlying 50 = some (.array 6 5) := by kernel_rfl
theorem s_a6 : (Try.prog.info? 50).map (·.size) = some 6 := by kernel_rfl
set_option maxHeartbeats 4000000 in
theorem d_mac (w : World) (g o cap : Nat) (a : Ad) (h : ∀ j : Nat, j < 6 → w.cell? ⟨g, o + j, none⟩ = some (.int .u8 (gA a j))) : Calls Try.prog 16 #[.slice (some ⟨g, o, none⟩) 6 cap] w fun r w' => r = .returned (.agg (kA a)) ∧ Below w.heap.size w w' := by
  have hg : g < w.heap.size := by
    have := h 0 (by decide)
    by_cases z : g < w.heap.size
    · exact z
    · simp [World.cell?, Array.getElem?_eq_none (Nat.le_of_not_lt z)] at this
  obtain ⟨n, hn⟩ : ∃ n, n = w.heap.size := ⟨_, rfl⟩
  have HN := hid hn
  have HC := hid h
  have HG := hid hg
  go_enter Try.func16, Try.ntmps16
  clear h hg hn
  go_wp2
  go_loopw [4] (fun i wr => ∃ j : Nat, j ≤ 6 ∧ i = .int .i64 j ∧ Hid (wr.heap[w.heap.size]? = some (.cells (pA a 0) 50 (0, 0)) ∧ wr.heap[w.heap.size + 1]? = some (.cells (pA a j) 50 (0, 0)) ∧ Below w.heap.size w wr)) (fun i _ => 6 - (intOf i).toNat)
  case atStart =>
    refine ⟨0, by omega, rfl, ?_, ?_, ?_⟩
    · exact (heap_alloc_old _ _ (by simp)).trans (heap_alloc_new w _)
    · have := heap_alloc_new (w.alloc (.cells (pA a 0) 50)) (.cells (pA a 0) 50)
      rw [show (w.alloc (.cells (pA a 0) 50)).heap.size = w.heap.size + 1 by simp] at this
      exact this
    · exact ((Below.refl _ _).alloc (Nat.le_refl _) _).alloc (by simp) _
  case round =>
    obtain ⟨j, hj, rfl, hu⟩ := hrel
    by_cases hlt : j < 6
    · have hlt' : (j : Int) < 6 := by omega
      have hcell : wr.cell? ⟨g, o + j, none⟩ = some (.int .u8 (gA a j)) := (World.cell?_of_block (w := w) (hu.out.2.2.block g HG.out)).trans (HC.out j hlt)
      obtain ⟨vj, hvj⟩ := pA_get a j j hlt
      have hold : wr.cell? ⟨w.heap.size + 1, j, none⟩ = some (.int .u8 vj) := cell_of_row wr _ j _ _ _ hu.out.2.1 |>.trans hvj
      have hfz : wr.frozen? ⟨w.heap.size + 1, j, none⟩ = false := frozen_of_row wr _ j _ _ hu.out.2.1
      have HE := hid (pA_succ a j hlt)
      clear hvj
      go_wp2
      go_roundw
      case rel =>
        refine ⟨j + 1, by omega, by go_num, ?_, setRowB wr _ j _ _ _ _ hu.out.2.1 HE.out, hu.out.2.2.setCell (by simp) _⟩
        have := (only_c wr (w.heap.size + 1) j (.int .u8 (gA a j))).old hu.out.1 (by simp)
        exact this
      case measure => simp [intOf]; omega
    · have hge : ¬ (j : Int) < 6 := by omega
      have hj6 : j = 6 := by omega
      obtain ⟨h1, h2, h3⟩ := hu.out
      rw [hj6] at h2
      have hz0 := frozen_of_row wr w.heap.size 0 _ _ h1
      have hz1 := frozen_of_row wr w.heap.size 1 _ _ h1
      have hz2 := frozen_of_row wr w.heap.size 2 _ _ h1
      have hz3 := frozen_of_row wr w.heap.size 3 _ _ h1
      have hz4 := frozen_of_row wr w.heap.size 4 _ _ h1
      have hz5 := frozen_of_row wr w.heap.size 5 _ _ h1
      have c0 := cell_of_row wr _ 0 _ _ _ h2
      have c1 := cell_of_row wr _ 1 _ _ _ h2
      have c2 := cell_of_row wr _ 2 _ _ _ h2
      have c3 := cell_of_row wr _ 3 _ _ _ h2
      have c4 := cell_of_row wr _ 4 _ _ _ h2
      have c5 := cell_of_row wr _ 5 _ _ _ h2
      have d0 := cell_of_row wr _ 0 _ _ _ h1
      have d1 := cell_of_row wr _ 1 _ _ _ h1
      have d2 := cell_of_row wr _ 2 _ _ _ h1
      have d3 := cell_of_row wr _ 3 _ _ _ h1
      have d4 := cell_of_row wr _ 4 _ _ _ h1
      have d5 := cell_of_row wr _ 5 _ _ _ h1
      simp [pA] at c0 c1 c2 c3 c4 c5 d0 d1 d2 d3 d4 d5
      have H1 := hid h1
      have H3 := hid h3
      clear h1 h2 h3 hu hj6 hlt hj
      go_wp2
      have e0 := setRowB wr w.heap.size 0 _ _ _ (.int .u8 a.1) H1.out rfl
      have e1 := setRowB _ w.heap.size 1 _ _ _ (.int .u8 a.2.1) e0 rfl
      have e2 := setRowB _ w.heap.size 2 _ _ _ (.int .u8 a.2.2.1) e1 rfl
      have e3 := setRowB _ w.heap.size 3 _ _ _ (.int .u8 a.2.2.2.1) e2 rfl
      have e4 := setRowB _ w.heap.size 4 _ _ _ (.int .u8 a.2.2.2.2.1) e3 rfl
      have e5 := setRowB _ w.heap.size 5 _ (kA a) _ (.int .u8 a.2.2.2.2.2) e4 rfl
      have hb : ∀ (w1 : World) (x : Value) (k : Nat), Below w.heap.size w w1 → Below w.heap.size w (w1.setCell ⟨w.heap.size, k, none⟩ x) := fun w1 x k h => h.setCell (Nat.le_refl _) _
      refine bodyPost_ret (results_row rfl _ _ _ _ _ _ _ rfl e5 u_a6 rfl s_a6) rfl ?_
      exact ⟨rfl, hb _ _ _ (hb _ _ _ (hb _ _ _ (hb _ _ _ (hb _ _ _ (hb _ _ _ H3.out)))))⟩
end Go.Proofs.Ytpppljlfljoccaa
namespace Go.Proofs.Ytpppljlfljoccaa
open Go.RowKit Go.MapKept
open C (Only hid Still ret_bool ret_int row)
set_option linter.unusedVariables false
set_option maxRecDepth 100000

theorem own_set {w : World} {e : TypeId} {z g n cap : Nat} {xs : List Value} (h : w.ownsRow 0 e z (.slice (some ⟨g, 0, none⟩) n cap) n xs) (k : Nat) (x : Value) : (w.setCell ⟨g, k, none⟩ x).ownsRow 0 e z (.slice (some ⟨g, 0, none⟩) n cap) n (xs.set k x) := by
  refine ⟨by simp [h.1], ?_⟩
  rcases h.2 with ⟨q, _⟩ | ⟨g', cap', cur, hv, hb, hg, h1, h2, h3, h4⟩
  · cases q
  · cases hv
    refine .inr ⟨g, cap, cur.setIfInBounds k x, rfl, Nat.zero_le _, setRowB w g k cur _ e x hg rfl, h1, h2, by simp [h3], ?_⟩
    rw [← h4]
    simp [List.take_set]
/-- the first j cards, one of them moved -/
def upP (a : Ad) (p : Int) (L : List (Ad × Int)) (j : Nat) : List (Ad × Int) := (L.take j).map (fun x => if x.1 = a then (a, p) else x) ++ L.drop j
theorem upP_len (a : Ad) (p : Int) (L : List (Ad × Int)) (j : Nat) : (upP a p L j).length = L.length := by
  simp [upP]; omega
theorem upP_zero (a : Ad) (p : Int) (L : List (Ad × Int)) : upP a p L 0 = L := by simp [upP]
theorem upP_all (a : Ad) (p : Int) (L : List (Ad × Int)) : upP a p L L.length = L.map (fun x => if x.1 = a then (a, p) else x) := by simp [upP]
theorem upP_get (a : Ad) (p : Int) (L : List (Ad × Int)) (j i : Nat) : (upP a p L j)[i]? = if i < j then (L[i]?).map (fun x => if x.1 = a then (a, p) else x) else L[i]? := by
  unfold upP
  by_cases hi : i < L.length
  · by_cases h : i < j
    · rw [if_pos h, List.getElem?_append_left (by simp; omega)]
      simp [h]
    · rw [if_neg h, List.getElem?_append_right (by simp; omega)]
      simp
      congr 1
      omega
  · rw [List.getElem?_eq_none (by simp; omega), List.getElem?_eq_none (by omega)]
    simp
theorem upP_at (a : Ad) (p : Int) (L : List (Ad × Int)) (j : Nat) : (upP a p L j)[j]? = L[j]? := by rw [upP_get, if_neg (Nat.lt_irrefl _)]
theorem upP_hit (a : Ad) (p : Int) (L : List (Ad × Int)) (j : Nat) (x : Ad × Int) (hx : L[j]? = some x) (h : x.1 = a) : upP a p L (j + 1) = (upP a p L j).set j (a, p) := by
  apply List.ext_getElem?
  intro i
  have hj : j < L.length := (List.getElem?_eq_some_iff.1 hx).1
  rw [List.getElem?_set, upP_get, upP_get, upP_len]
  by_cases e : j = i
  · subst e; rw [if_pos rfl, if_pos hj, if_pos (by omega), hx]; simp [h]
  · rw [if_neg e]
    by_cases q : i < j
    · rw [if_pos q, if_pos (by omega)]
    · rw [if_neg q, if_neg (by omega)]
theorem upP_miss (a : Ad) (p : Int) (L : List (Ad × Int)) (j : Nat) (x : Ad × Int) (hx : L[j]? = some x) (h : x.1 ≠ a) : upP a p L (j + 1) = upP a p L j := by
  apply List.ext_getElem?
  intro i
  rw [upP_get, upP_get]
  by_cases e : j = i
  · subst e; rw [if_pos (by omega), if_neg (by omega), hx]; simp [h]
  · by_cases q : i < j
    · rw [if_pos q, if_pos (by omega)]
    · rw [if_neg q, if_neg (by omega)]
theorem mcs_set (L : List (Ad × Int)) (j : Nat) (x : Ad × Int) (p : Int) (hx : L[j]? = some x) : (mcs L).set (j * 7 + 6) (.int .i64 p) = mcs (L.set j (x.1, p)) := by
  induction L generalizing j with
  | nil => cases hx
  | cons y L ih =>
    cases j with
    | zero => cases hx; rfl
    | succ j =>
      have := ih j (by simpa using hx)
      have e : ∀ y (L : List (Ad × Int)), mcs (y :: L) = .int .u8 y.1.1 :: .int .u8 y.1.2.1 :: .int .u8 y.1.2.2.1 :: .int .u8 y.1.2.2.2.1 :: .int .u8 y.1.2.2.2.2.1 :: .int .u8 y.1.2.2.2.2.2 :: .int .i64 y.2 :: mcs L := fun _ _ => rfl
      rw [List.set_cons_succ, e, e, ← this, show (j + 1) * 7 + 6 = j * 7 + 6 + 1 + 1 + 1 + 1 + 1 + 1 + 1 by omega]
      simp only [List.set_cons_succ]
theorem fA_none (a : Ad) : ∀ (L : List (Ad × Int)) (i : Nat), (∀ (k : Nat) (x : Ad × Int), L[k]? = some x → x.1 ≠ a) → fA a L i = none
  | [], _, _ => rfl
  | p :: L, i, h => by
    have h0 := h 0 p rfl
    simp only [fA]
    rw [if_neg (fun e => h0 e.symm)]
    exact fA_none a L (i + 1) fun k x hk => h (k + 1) x (by simpa using hk)
theorem fA_first (a : Ad) (p : Int) : ∀ (L : List (Ad × Int)) (i j : Nat), (∀ (k : Nat) (x : Ad × Int), k < j → L[k]? = some x → x.1 ≠ a) → L[j]? = some (a, p) → fA a L i = some (i + j, p)
  | [], _, _, _, h => by cases h
  | q :: L, i, 0, _, h => by cases h; simp [fA]
  | q :: L, i, j + 1, h, hj => by
    have h0 := h 0 q (by omega) rfl
    simp only [fA]
    rw [if_neg (fun e => h0 e.symm), fA_first a p L (i + 1) j (fun k x hk hx => h (k + 1) x (by omega) (by simpa using hx)) (by simpa using hj)]
    simp; omega
/-- a list of cards, each once, none of a group -/
structure LOk (L : List (Ad × Int)) : Prop where
  nd : ∀ (i j : Nat) (x y : Ad × Int), L[i]? = some x → L[j]? = some y → x.1 = y.1 → i = j
  ev : ∀ x ∈ L, x.1.1 % 2 = 0
/-- the document's answer: known, moved -/
def dKn (a : Ad) (L : List (Ad × Int)) : Bool := L.any fun x => decide (x.1 = a)
def dLrn (L : List (Ad × Int)) (a : Ad) (p : Int) : List (Ad × Int) := bif !dKn a L && decide (a.1 % 2 = 0) && decide (L.length < 32) then L.map (fun x => if x.1 = a then (a, p) else x) ++ [(a, p)] else L.map (fun x => if x.1 = a then (a, p) else x)
theorem dKn_iff (a : Ad) (L : List (Ad × Int)) : dKn a L = true ↔ ∃ (k : Nat) (x : Ad × Int), L[k]? = some x ∧ x.1 = a := by
  simp only [dKn, List.any_eq_true, decide_eq_true_eq, List.mem_iff_getElem?]
  exact ⟨fun ⟨x, ⟨k, hk⟩, h⟩ => ⟨k, x, hk, h⟩, fun ⟨k, x, hk, h⟩ => ⟨x, ⟨k, hk⟩, h⟩⟩
theorem kn_iff (a : Ad) (L : List (Ad × Int)) : kn L a = dKn a L := by
  by_cases h : dKn a L = true
  · rw [h]
    unfold kn
    cases z : fA a L 0 with
    | some q => rfl
    | none =>
      exfalso
      have : ∀ (L : List (Ad × Int)) (i : Nat), fA a L i = none → ∀ x ∈ L, x.1 ≠ a := by
        intro L
        induction L with
        | nil => intro i _ x hx; cases hx
        | cons y L ih =>
          intro i hi x hx
          simp only [fA] at hi
          split at hi
          · cases hi
          · rename_i ne
            rcases List.mem_cons.1 hx with rfl | hx
            · exact fun e => ne e.symm
            · exact ih (i + 1) hi x hx
      obtain ⟨k, x, hk, hx⟩ := (dKn_iff a L).1 h
      exact this L 0 z x (List.mem_of_getElem? hk) hx
  · have h' : dKn a L = false := by simpa using h
    rw [h']
    unfold kn
    rw [fA_none a L 0 fun k x hk e => h ((dKn_iff a L).2 ⟨k, x, hk, e⟩)]
    rfl
theorem map_id_of (a : Ad) (p : Int) (L : List (Ad × Int)) (h : dKn a L = false) : L.map (fun x => if x.1 = a then (a, p) else x) = L := by
  conv => rhs; rw [← List.map_id L]
  apply List.map_congr_left
  intro x hx
  have : x.1 ≠ a := fun e => by
    have : dKn a L = true := by simp only [dKn, List.any_eq_true, decide_eq_true_eq]; exact ⟨x, hx, e⟩
    rw [h] at this; cases this
  simp [this]
theorem map_up (a : Ad) (p : Int) (L : List (Ad × Int)) (ok : LOk L) (h : dKn a L = true) : L.map (fun x => if x.1 = a then (a, p) else x) = upA L a p := by
  rw [← kn_iff] at h
  unfold kn at h
  unfold upA
  cases z : fA a L 0 with
  | none => rw [z] at h; cases h
  | some q =>
    obtain ⟨j, y⟩ := q
    obtain ⟨-, hj⟩ := fA_spec a L 0 j y z
    rw [Nat.sub_zero] at hj
    have hjl : j < L.length := (List.getElem?_eq_some_iff.1 hj).1
    show _ = L.set j (a, p)
    apply List.ext_getElem?
    intro i
    rw [List.getElem?_map, List.getElem?_set]
    by_cases e : j = i
    · subst e; rw [if_pos rfl, if_pos hjl, hj]; simp
    · rw [if_neg e]
      cases hi : L[i]? with
      | none => rfl
      | some x =>
        have : x.1 ≠ a := fun q => e (ok.nd j i _ x hj hi q.symm)
        simp [this]
/-- both learn alike -/
theorem dLrn_eq (L : List (Ad × Int)) (ok : LOk L) (a : Ad) (p : Int) : dLrn L a p = lrn L a p := by
  unfold dLrn lrn
  rw [kn_iff]
  cases h : dKn a L with
  | true =>
    have hev : a.1 % 2 = 0 := by
      obtain ⟨k, x, hk, rfl⟩ := (dKn_iff a L).1 h
      exact ok.ev x (List.mem_of_getElem? hk)
    simp [hev, map_up a p L ok h]
  | false =>
    rw [map_id_of a p L h]
    have hu : upA L a p = L ++ [(a, p)] := by
      have hk := kn_iff a L
      rw [h] at hk
      unfold kn at hk
      unfold upA
      cases z : fA a L 0 with
      | none => rfl
      | some q => rw [z] at hk; cases hk
    rw [hu]
    by_cases e : a.1 % 2 = 0
    · simp [e]
    · have e' : (a.1 % 2 == 0) = false := by simp [e]
      simp [e, e']
theorem LOk.nil : LOk [] := ⟨fun i j x y h => by simp at h, fun x h => by simp at h⟩
theorem LOk.lrn {L : List (Ad × Int)} (ok : LOk L) (a : Ad) (p : Int) : LOk (lrn L a p) ∧ (lrn L a p).length ≤ max L.length 32 := by
  rw [← dLrn_eq L ok]
  have hm : LOk (L.map (fun x => if x.1 = a then (a, p) else x)) := by
    refine ⟨fun i j x y hi hj he => ?_, fun x hx => ?_⟩
    · rw [List.getElem?_map] at hi hj
      cases zi : L[i]? with
      | none => rw [zi] at hi; cases hi
      | some u =>
        cases zj : L[j]? with
        | none => rw [zj] at hj; cases hj
        | some v =>
          rw [zi] at hi; rw [zj] at hj
          have e1 : x.1 = u.1 := by cases hi; by_cases q : u.1 = a <;> simp [q]
          have e2 : y.1 = v.1 := by cases hj; by_cases q : v.1 = a <;> simp [q]
          exact ok.nd i j u v zi zj (by rw [← e1, ← e2]; exact he)
    · obtain ⟨u, hu, rfl⟩ := List.mem_map.1 hx
      have := ok.ev u hu
      by_cases q : u.1 = a
      · simp [q]; rw [← q]; exact this
      · simp [q]; exact this
  unfold dLrn
  cases h : (!dKn a L && decide (a.1 % 2 = 0) && decide (L.length < 32)) with
  | false => exact ⟨hm, by simp; omega⟩
  | true =>
    simp only [Bool.and_eq_true, Bool.not_eq_true', decide_eq_true_eq] at h
    obtain ⟨⟨h1, h2⟩, h3⟩ := h
    rw [map_id_of a p L h1]
    refine ⟨⟨fun i j x y hi hj he => ?_, fun x hx => ?_⟩, by simp; omega⟩
    · have no : ∀ (k : Nat) (z : Ad × Int), L[k]? = some z → z.1 ≠ a := fun k z hk e => by
        have := (dKn_iff a L).2 ⟨k, z, hk, e⟩
        rw [h1] at this; cases this
      simp only [cond_true, List.getElem?_append] at hi hj
      have one : ∀ (k : Nat) (z : Ad × Int), [(a, p)][k]? = some z → k = 0 ∧ z = (a, p) := fun k z hk => by
        match k, hk with
        | 0, hk => cases hk; exact ⟨rfl, rfl⟩
        | k + 1, hk => cases hk
      split at hi <;> split at hj
      · exact ok.nd i j x y hi hj he
      · obtain ⟨-, rfl⟩ := one _ _ hj
        exact absurd he (no i x hi)
      · obtain ⟨-, rfl⟩ := one _ _ hi
        exact absurd he.symm (no j y hj)
      · obtain ⟨q1, -⟩ := one _ _ hi
        obtain ⟨q2, -⟩ := one _ _ hj
        omega
    · simp only [cond_true, List.mem_append, List.mem_singleton] at hx
      rcases hx with hx | rfl
      · exact ok.ev x hx
      · exact h2
end Go.Proofs.Ytpppljlfljoccaa
namespace Go.Proofs.Ytpppljlfljoccaa
open Go.RowKit Go.MapKept
open C (Only hid Still ret_bool ret_int row)
set_option linter.unusedVariables false
set_option maxRecDepth 100000

theorem ad6_gA (l : List Int) (k j : Nat) (h : j < 6) : gA (ad6 l k) j = l.getD (k + j) 0 := by
  match j, h with
  | 0, _ => rfl
  | 1, _ => rfl
  | 2, _ => rfl
  | 3, _ => rfl
  | 4, _ => rfl
  | 5, _ => rfl
  | j + 6, h => omega
theorem run_eq6 (a b : Ad) (w : World) : (Op.equalIn 10000 50 (.agg (kA a)) (.agg (kA b))).run Try.prog w = .ok (decide (a = b)) w := by
  obtain ⟨a0, a1, a2, a3, a4, a5⟩ := a
  obtain ⟨b0, b1, b2, b3, b4, b5⟩ := b
  show (Op.equalIn (9999 + 1) 50 (.agg (kA _)) (.agg (kA _))).run Try.prog w = _
  rw [Op.equalIn]
  simp [run_underlying u_a6, kA]
  rw [show List.range' 0 6 = [0, 1, 2, 3, 4, 5] from rfl]
  have hq : ∀ (x y : Int) (w : World), (Op.equalIn 9999 5 (.int .u8 x) (.int .u8 y)).run Try.prog w = .ok (x == y) w := fun x y w => run_equalIn_int (d := 9998) (t := 5) (k := .u8) (k' := .u8) (a := x) (b := y) w u_au8
  by_cases h0 : a0 = b0
  · by_cases h1 : a1 = b1
    · by_cases h2 : a2 = b2
      · by_cases h3 : a3 = b3
        · by_cases h4 : a4 = b4
          · by_cases h5 : a5 = b5
            · simp [go_sem, hq, h0, h1, h2, h3, h4, h5]
            · simp [go_sem, hq, h0, h1, h2, h3, h4, h5]
          · simp [go_sem, hq, h0, h1, h2, h3, h4]
        · simp [go_sem, hq, h0, h1, h2, h3]
      · simp [go_sem, hq, h0, h1, h2]
    · simp [go_sem, hq, h0, h1]
  · simp [go_sem, hq, h0]
theorem Wd.at {w : World} {p : Nat} {N : Int} {g n cap : Nat} {M : List (Ad × Int)} (h : Wd w p N (.slice (some ⟨g, 0, none⟩) n cap) M) (hn : n = M.length) (j : Nat) (x : Ad × Int) (hx : M[j]? = some x) : w.cell? ⟨g, j * 7, none⟩ = some (.int .u8 x.1.1) ∧ w.cell? ⟨g, j * 7 + 1, none⟩ = some (.int .u8 x.1.2.1) ∧ w.cell? ⟨g, j * 7 + 2, none⟩ = some (.int .u8 x.1.2.2.1) ∧ w.cell? ⟨g, j * 7 + 3, none⟩ = some (.int .u8 x.1.2.2.2.1) ∧ w.cell? ⟨g, j * 7 + 4, none⟩ = some (.int .u8 x.1.2.2.2.2.1) ∧ w.cell? ⟨g, j * 7 + 5, none⟩ = some (.int .u8 x.1.2.2.2.2.2) ∧ w.cell? ⟨g, j * 7 + 6, none⟩ = some (.int .i64 x.2) ∧ w.frozen? ⟨g, j * 7 + 6, none⟩ = false := by
  have hj : j < M.length := (List.getElem?_eq_some_iff.1 hx).1
  have ho := h.own
  rw [← hn] at ho
  have e : ∀ k, k < 7 → w.cell? ⟨g, j * 7 + k, none⟩ = (mcs [x])[k]? := fun k hk => by
    rw [ho.cellAt (j * 7 + k) (by omega), mcs_at M j x hx k hk]
  refine ⟨e 0 (by decide), e 1 (by decide), e 2 (by decide), e 3 (by decide), e 4 (by decide), e 5 (by decide), e 6 (by decide), ?_⟩
  rcases ho.2 with ⟨q, _⟩ | ⟨g', cap', cur, hv, hb, hg, h1, h2, h3, h4⟩
  · cases q
  · cases hv
    exact frozen_of_row w g _ _ _ hg
/-- where a walk stands: the list, both addresses, what has turned -/
structure LS (T : Nat → Prop) (w : World) (p : Nat) (N : Int) (b7 b8 : Nat) (v : Value) (fa ta : Ad) (M : List (Ad × Int)) (wr : World) : Prop where
  wd : Wd wr p N v M
  h7 : wr.heap[b7]? = some (.cells (kA fa) 50 (0, 0))
  h8 : wr.heap[b8]? = some (.cells (kA ta) 50 (0, 0))
  on : Only T w wr
theorem LS.drew {T : Nat → Prop} {w : World} {p : Nat} {N : Int} {b7 b8 : Nat} {v : Value} {fa ta : Ad} {M : List (Ad × Int)} {wr : World} (h : LS T w p N b7 b8 v fa ta M wr) : LS T w p N b7 b8 v fa ta M wr.drew := ⟨⟨h.wd.blk, h.wd.own.drew⟩, h.h7, h.h8, h.on.drew⟩
theorem LS.dn {T : Nat → Prop} {w : World} {p : Nat} {N : Int} {b7 b8 : Nat} {v : Value} {fa ta : Ad} {M : List (Ad × Int)} {wr : World} (h : LS T w p N b7 b8 v fa ta M wr) (n : Nat) : LS T w p N b7 b8 v fa ta M (wr.drewN n) := ⟨⟨h.wd.blk, own_only h.wd.own (T := fun _ => False) ⟨rfl, rfl, rfl, Nat.le_refl _, fun _ _ _ => rfl⟩ (fun _ _ q => q)⟩, h.h7, h.h8, h.on.trans ⟨rfl, rfl, rfl, Nat.le_refl _, fun _ _ _ => rfl⟩⟩
theorem LS.alloc {T : Nat → Prop} {w : World} {p : Nat} {N : Int} {b7 b8 : Nat} {v : Value} {fa ta : Ad} {M : List (Ad × Int)} {wr : World} (h : LS T w p N b7 b8 v fa ta M wr) (o : Obj) : LS T w p N b7 b8 v fa ta M (wr.alloc o) := by
  have hb : Below wr.heap.size wr (wr.alloc o) := (Below.refl _ _).alloc (Nat.le_refl _) _
  have ho : Only (fun _ => False) wr (wr.alloc o) := .ofBelow hb
  exact ⟨h.wd.below hb, ho.old h.h7 (fun q => q), ho.old h.h8 (fun q => q), h.on.trans ⟨ho.os, ho.tape, ho.output, ho.size, fun k hk hs => ho.block k hk fun q => q⟩⟩
theorem LS.only {T S : Nat → Prop} {w : World} {p : Nat} {N : Int} {b7 b8 : Nat} {v : Value} {fa ta : Ad} {M : List (Ad × Int)} {wr w' : World} (h : LS T w p N b7 b8 v fa ta M wr) (ho : Only S wr w') (hS : ∀ (k : Nat) (c : Array Value) (t : TypeId), wr.heap[k]? = some (.cells c t (0, 0)) → t ≠ 3 → ¬ S k) (hT : ∀ k, S k → w.heap.size ≤ k) : LS T w p N b7 b8 v fa ta M w' :=
  ⟨h.wd.only ho (hS _ _ _ h.wd.blk (by decide)) (fun k hk => by obtain ⟨cur, hc⟩ := mac_cells h.wd.own hk; exact hS _ _ _ hc (by decide)), ho.old h.h7 (hS _ _ _ h.h7 (by decide)), ho.old h.h8 (hS _ _ _ h.h8 (by decide)),
    ⟨ho.os.trans h.on.os, ho.tape.trans h.on.tape, ho.output.trans h.on.output, Nat.le_trans h.on.size ho.size, fun k hk hs => (ho.block k (Nat.lt_of_lt_of_le hk h.on.size) (fun q => absurd (hT k q) (by omega))).trans (h.on.block k hk hs)⟩⟩
theorem own_int_ty {w : World} {e : TypeId} {z : Nat} {u : Value} {n : Nat} {xs : List Value} (h : w.ownsRow 0 e z u n xs) {k : Nat} (hk : Ug u k) {c : Array Value} {t : TypeId} (hc : w.heap[k]? = some (.cells c t (0, 0))) : t = e := by
  obtain ⟨cur, hq⟩ := mac_cells h hk
  rw [hc] at hq
  cases hq
  rfl
theorem dLrn_len (L : List (Ad × Int)) (a : Ad) (p : Int) : (dLrn L a p).length ≤ L.length + 1 := by
  unfold dLrn
  cases (!dKn a L && decide (a.1 % 2 = 0) && decide (L.length < 32)) <;> simp
theorem dKn_succ (a : Ad) (L : List (Ad × Int)) (j : Nat) (x : Ad × Int) (hx : L[j]? = some x) : dKn a (L.take (j + 1)) = (dKn a (L.take j) || decide (x.1 = a)) := by
  rw [List.take_add_one, hx]
  simp [dKn]
theorem LS.set {T : Nat → Prop} {w : World} {p : Nat} {N : Int} {b7 b8 g n cap : Nat} {fa ta : Ad} {M : List (Ad × Int)} {wr : World} (h : LS T w p N b7 b8 (.slice (some ⟨g, 0, none⟩) n cap) fa ta M wr) (hn : n = M.length) (hT : T g) (j : Nat) (x : Ad × Int) (hx : M[j]? = some x) (q : Int) (y : Ad) (hy : x.1 = y) : LS T w p N b7 b8 (.slice (some ⟨g, 0, none⟩) n cap) fa ta (M.set j (y, q)) (wr.setCell ⟨g, j * 7 + 6, none⟩ (.int .i64 q)) := by
  subst hy
  have ho := only_c wr g (j * 7 + 6) (.int .i64 q)
  have own := h.wd.own
  rw [← hn] at own
  have hne : ∀ (k : Nat) (c : Array Value) (t : TypeId), wr.heap[k]? = some (.cells c t (0, 0)) → t ≠ 57 → ¬ k = g := fun k c t hk ht e => by
    subst e
    exact h.wd.nch hk (fun c' hc => by cases hc; exact ht rfl) rfl
  refine ⟨⟨ho.old h.wd.blk (hne _ _ _ h.wd.blk (by decide)), ?_⟩, ho.old h.h7 (hne _ _ _ h.h7 (by decide)), ho.old h.h8 (hne _ _ _ h.h8 (by decide)), ?_⟩
  · have := own_set own (j * 7 + 6) (.int .i64 q)
    rw [mcs_set M j x q hx] at this
    rw [List.length_set, ← hn]
    exact this
  · refine h.on.trans ⟨ho.os, ho.tape, ho.output, ho.size, fun k hk hs => ho.block k hk fun e => hs (by rw [e]; exact hT)⟩
def mac7 (fa : Ad) (pt : Int) : Array Value := #[.int .u8 fa.1, .int .u8 fa.2.1, .int .u8 fa.2.2.1, .int .u8 fa.2.2.2.1, .int .u8 fa.2.2.2.2.1, .int .u8 fa.2.2.2.2.2, .int .i64 pt]
theorem info_mac : (Try.prog.info? 57).map (fun i => (i.zero, i.size, i.bytes)) = some (some (.agg #[.int .u8 0, .int .u8 0, .int .u8 0, .int .u8 0, .int .u8 0, .int .u8 0, .int .i64 0]), 7, 16) := by kernel_rfl
theorem u_smac : Try.prog.underlying 37 = some (.slice 57) := by kernel_rfl
def mw (wa : World) (fa : Ad) (pt : Int) : World := wa.alloc (.cells (mac7 fa pt) 57)
def vtM (p : Nat) (fa : Ad) (pt : Int) (v : Value) (wa : World) (x : Value) : Nat → Value := fun dd => if dd = 78 then .pointer (some ⟨p, 0, none⟩) else if dd = 79 then .pointer (some ⟨p, 0, none⟩) else if dd = 80 then .pointer (some ⟨p, 0, none⟩) else if dd = 81 then .pointer (some ⟨p, 1, none⟩) else if dd = 82 then v else if dd = 83 then .agg #[.int .u8 fa.1, .int .u8 fa.2.1, .int .u8 fa.2.2.1, .int .u8 fa.2.2.2.1, .int .u8 fa.2.2.2.2.1, .int .u8 fa.2.2.2.2.2] else if dd = 84 then .int .i64 pt else if dd = 85 then .agg #[.int .u8 fa.1, .int .u8 fa.2.1, .int .u8 fa.2.2.1, .int .u8 fa.2.2.2.1, .int .u8 fa.2.2.2.2.1, .int .u8 fa.2.2.2.2.2, .int .i64 pt] else if dd = 86 then .slice (some ⟨wa.heap.size, 0, none⟩) 1 1 else if dd = 87 then x else if dd = 88 then .pointer (some ⟨p, 0, none⟩) else if dd = 89 then .pointer (some ⟨p, 1, none⟩) else undef
def MM (p : Nat) (fa : Ad) (pt : Int) (v : Value) (M : List (Ad × Int)) (wa : World) : Nat → Value → World → Prop
  | 0, _, w => w = wa
  | 1, _, w => w = mw wa fa pt
  | 2, x, w => w.ownsRow 0 57 7 x (M.length + 1) (mcs M ++ mcs [(fa, pt)]) ∧ Only (Ug v) (mw wa fa pt) w ∧ ∀ k, x.ownBlock = some k → v.ownBlock = some k ∨ (mw wa fa pt).heap.size ≤ k
  | _, x, w => ∃ w8, (w8.ownsRow 0 57 7 x (M.length + 1) (mcs M ++ mcs [(fa, pt)]) ∧ Only (Ug v) (mw wa fa pt) w8 ∧ ∀ k, x.ownBlock = some k → v.ownBlock = some k ∨ (mw wa fa pt).heap.size ≤ k) ∧ w = w8.setCell ⟨p, 1, none⟩ x
theorem LS.at2 {T : Nat → Prop} {w : World} {p : Nat} {N : Int} {b7 b8 : Nat} {v : Value} {fa ta : Ad} {M : List (Ad × Int)} {wa : World} (h : LS T w p N b7 b8 v fa ta M wa) {pt : Int} {w8 : World} {x : Value} (m : MM p fa pt v M wa 2 x w8) : w8.heap[p]? = some (.cells #[.int .i64 N, v] 39 (0, 0)) ∧ w8.heap[b7]? = some (.cells (kA fa) 50 (0, 0)) ∧ w8.heap[b8]? = some (.cells (kA ta) 50 (0, 0)) := by
  obtain ⟨m1, m2, m3⟩ := m
  have h2 : LS T w p N b7 b8 v fa ta M (mw wa fa pt) := h.alloc _
  have ne : ∀ (k : Nat) (c : Array Value) (t : TypeId), (mw wa fa pt).heap[k]? = some (.cells c t (0, 0)) → t ≠ 57 → ¬ Ug v k := fun k c t hk ht => h2.wd.nch hk (fun c' hc => by cases hc; exact ht rfl)
  exact ⟨m2.old h2.wd.blk (ne _ _ _ h2.wd.blk (by decide)), m2.old h2.h7 (ne _ _ _ h2.h7 (by decide)), m2.old h2.h8 (ne _ _ _ h2.h8 (by decide))⟩
theorem LS.app {T : Nat → Prop} {w : World} {p : Nat} {N : Int} {b7 b8 : Nat} {v : Value} {fa ta : Ad} {M : List (Ad × Int)} {wa : World} (h : LS T w p N b7 b8 v fa ta M wa) (hp : T p) (hT : ∀ k, Ug v k → T k) {pt : Int} {w8 : World} {x : Value} (m : MM p fa pt v M wa 2 x w8) : LS T w p N b7 b8 x fa ta (M ++ [(fa, pt)]) (w8.setCell ⟨p, 1, none⟩ x) ∧ ∀ k, Ug x k → Ug v k ∨ w.heap.size ≤ k := by
  obtain ⟨g0, g7, g8⟩ := h.at2 m
  obtain ⟨m1, m2, m3⟩ := m
  have h2 : LS T w p N b7 b8 v fa ta M (mw wa fa pt) := h.alloc _
  have ho := only_c w8 p 1 x
  have hx : ∀ k, Ug x k → ¬ k = p := fun k hk e => by
    obtain ⟨cur, hc⟩ := mac_cells m1 hk
    subst e
    rw [g0] at hc
    cases hc
  have h7p : ¬ b7 = p := fun e => by rw [e, g0] at g7; cases g7
  have h8p : ¬ b8 = p := fun e => by rw [e, g0] at g8; cases g8
  refine ⟨⟨⟨setRowB w8 p 1 _ _ _ x g0 rfl, ?_⟩, ho.old g7 h7p, ho.old g8 h8p, ?_⟩, fun k hk => ?_⟩
  · have := own_only m1 ho hx
    rw [mcs_add]
    simpa using this
  · have a1 : Only T w w8 := h2.on.trans ⟨m2.os, m2.tape, m2.output, m2.size, fun k hk hs => m2.block k hk fun q => hs (hT k q)⟩
    exact a1.trans ⟨ho.os, ho.tape, ho.output, ho.size, fun k hk hs => ho.block k hk fun q => hs (by rw [q]; exact hp)⟩
  · rcases m3 k hk with q | q
    · exact .inl q
    · have := h2.on.size
      exact .inr (Nat.le_trans this q)
theorem st6 (w : World) (x : Ad) : Sem.run Try.prog (storeCells ⟨w.heap.size, 0, none⟩ (kA x).toList) (w.alloc (.cells #[.int .u8 0, .int .u8 0, .int .u8 0, .int .u8 0, .int .u8 0, .int .u8 0] 50)) = .ok () (w.alloc (.cells (kA x) 50)) := run_storeCells_new w 50 _ (kA x) s_a6 rfl (by simp [kA, Value.oneCell'])
set_option maxHeartbeats 4000000 in
theorem d_Send (w : World) (p N : Nat) (hN : N ≤ 8) (v : Value) (L : List (Ad × Int)) (h : Wd w p (N : Int) v L) (h32 : L.length ≤ 32) (pt : Int) (x0 : 0 ≤ pt) (x1 : pt < N) (fg fo n cap : Nat) (fl : List Int) (hc : ∀ j : Nat, j < n → w.cell? ⟨fg, fo + j, none⟩ = some (.int .u8 (fl.getD j 0))) (hb : ∀ y ∈ fl, 0 ≤ y ∧ y < 256) (hfl : fl.length = n) (h14 : 14 ≤ n) (hcap : n ≤ cap) :
    Calls Try.prog 10 #[.pointer (some ⟨p, 0, none⟩), .int .i64 pt, .slice (some ⟨fg, fo, none⟩) n cap] w fun r w' => ∃ u v', r = .returned u ∧ w'.ownsRow 0 3 1 u (snd (dLrn L (ad6 fl 6) pt) (ad6 fl 0) N pt).length (its (snd (dLrn L (ad6 fl 6) pt) (ad6 fl 0) N pt)) ∧ Wd w' p (N : Int) v' (dLrn L (ad6 fl 6) pt) ∧ Only (fun k => k = p ∨ Ug v k) w w' ∧ ∀ k, Ug v' k → Ug v k ∨ w.heap.size ≤ k := by
  obtain ⟨fa, hfa⟩ : ∃ fa, fa = ad6 fl 6 := ⟨_, rfl⟩
  obtain ⟨ta, hta⟩ : ∃ ta, ta = ad6 fl 0 := ⟨_, rfl⟩
  rw [← hfa, ← hta]
  have c0 : w.cell? ⟨p, 0, none⟩ = some (.int .i64 N) := cell_of_row w p 0 _ _ _ h.blk
  have m1 := d_mac w fg (fo + 6) (cap - 6) fa fun j hj => by rw [hfa, ad6_gA _ _ _ hj, Nat.add_assoc]; exact hc (6 + j) (by omega)
  have m2 : ∀ w1, Below w.heap.size w w1 → _ := fun w1 (hb : Below w.heap.size w w1) => d_mac w1 fg fo cap ta fun j hj => by
    rw [hta, ad6_gA _ _ _ hj, Nat.zero_add]
    have h0 := hc j (by omega)
    have hg : fg < w.heap.size := by
      by_cases z : fg < w.heap.size
      · exact z
      · simp [World.cell?, Array.getElem?_eq_none (Nat.le_of_not_lt z)] at h0
    exact (World.cell?_of_block (w := w) (hb.block fg hg)).trans h0
  have g1 : ¬ pt < 0 := by omega
  have g2 : ¬ pt ≥ (N : Int) := by omega
  have g3 : ¬ (n : Int) < 14 := by omega
  have q1 : 12 ≤ cap := by omega
  have q2 : 6 ≤ cap := by omega
  have q3 : 6 ≤ n := by omega
  have q4 : 12 ≤ n := by omega
  have q5 : ¬ cap = 6 := by omega
  have HH := hid h
  have HC := hid hc
  have HM2 := hid m2
  have HCA := hid hcap
  have hA : 0 ≤ fa.1 ∧ fa.1 < 256 := by
    rw [hfa]
    have hm : fl.getD 6 0 ∈ fl := by
      rw [List.getD_eq_getElem?_getD, List.getElem?_eq_getElem (by omega)]
      exact List.getElem_mem _
    exact hb _ hm
  have HA := hid hA
  have HFL := hid hfl
  clear h hc hfa hta m2 hA hb hfl
  go_enter Try.func10, Try.ntmps10
  have hs1 := fun w1 : World => st6 w1 fa
  go_upto_region 4 with (go_at_call 16; refine m1.mono ?_; rintro e w1 ⟨rfl, k1⟩; have B1 := hid k1; clear k1)
  have b2 : Below w.heap.size w (w1.alloc (.cells (kA fa) 50)) := B1.out.alloc (by have := B1.out.size; omega) _
  have m2 := HM2.out _ b2
  have hs2 := fun w1 : World => st6 w1 ta
  clear hs1
  have HB2 := hid b2
  clear b2
  go_wp2_with (go_at_call 16; refine m2.mono ?_; rintro e w2 ⟨rfl, k1⟩; have B2 := hid k1; clear k1)
  clear hs2 m2 c0 g1 g2 g3 q1 q2 q3 q4 q5
  generalize hb7 : w1.heap.size = b7
  generalize hb8 : w2.heap.size = b8
  have y7 : b7 ≠ b8 := by have := B2.out.size; simp at this; omega
  have z7 : w.heap.size ≤ b7 := by have := B1.out.size; omega
  have z8 : w.heap.size ≤ b8 := by have := B2.out.size; simp at this; omega
  have k7 : (w2.alloc (.cells (kA ta) 50)).heap[b7]? = some (.cells (kA fa) 50 (0, 0)) := by
    subst hb7
    exact (heap_alloc_old _ _ (by have := B2.out.size; simp at this; omega)).trans ((B2.out.block _ (by simp)).trans (heap_alloc_new w1 _))
  have k8 : (w2.alloc (.cells (kA ta) 50)).heap[b8]? = some (.cells (kA ta) 50 (0, 0)) := by
    subst hb8
    exact heap_alloc_new w2 _
  have k0 : Below w.heap.size w (w2.alloc (.cells (kA ta) 50)) := (HB2.out.trans (B2.out.mono HB2.out.size)).alloc (by have := B2.out.size; have := HB2.out.size; omega) _
  generalize hwb : w2.alloc (.cells (kA ta) 50) = wb at *
  have hwd := HH.out.below k0
  obtain ⟨ad, cp, hv, hgl⟩ : ∃ ad cp, v = .slice ad L.length cp ∧ (0 < L.length → ∃ g, ad = some ⟨g, 0, none⟩) := by
    rcases hwd.own.2 with ⟨h1, h2⟩ | ⟨g, cap, cur, h1, h2⟩
    · exact ⟨none, 0, by rw [h1, h2], fun q => absurd h2 (by omega)⟩
    · exact ⟨_, cap, h1, fun _ => ⟨g, rfl⟩⟩
  have l0 : LS (fun k => k = p ∨ Ug v k) w p (N : Int) b7 b8 v fa ta (upP fa pt L 0) wb := by
    rw [upP_zero]
    exact ⟨hwd, k7, k8, .ofBelow k0⟩
  have HL0 := hid l0
  have HGL := hid hgl
  have HY := hid (And.intro y7 (And.intro z7 z8))
  clear hwd k7 k8 k0 B2 HB2 B1 m1 HM2 HC HCA h14 hcap hwb hb7 hb8 y7 z7 z8 l0 hgl
  subst hv
  go_loopw [9, 10] (fun kv i wr => ∃ j : Nat, j ≤ L.length ∧ i = .int .i64 j ∧ kv = .bool (dKn fa (L.take j)) ∧ Hid (LS (fun k => k = p ∨ Ug (.slice ad L.length cp) k) w p (N : Int) b7 b8 (.slice ad L.length cp) fa ta (upP fa pt L j) wr)) (fun _ i _ => L.length - (intOf i).toNat)
  case atStart => exact ⟨0, Nat.zero_le _, rfl, rfl, HL0.out⟩
  case round =>
    obtain ⟨j, hj, rfl, rfl, hu⟩ := hrel
    have c1 : wr.cell? ⟨p, 1, none⟩ = some (.slice ad L.length cp) := cell_of_row wr p 1 _ _ _ hu.out.wd.blk
    by_cases hlt : j < L.length
    · have hlt' : (j : Int) < (L.length : Int) := by omega
      obtain ⟨g, rfl⟩ := HGL.out (by omega)
      obtain ⟨x, hx⟩ : ∃ x, L[j]? = some x := ⟨L[j], by simp [hlt]⟩
      have hM : (upP fa pt L j)[j]? = some x := (upP_at fa pt L j).trans hx
      have hw := hu.out.wd
      obtain ⟨e0, e1, e2, e3, e4, e5, e6, ez⟩ := hw.at (upP_len fa pt L j).symm j x hM
      have f0 := cell_of_row wr b7 0 _ _ _ hu.out.h7
      have f1 := cell_of_row wr b7 1 _ _ _ hu.out.h7
      have f2 := cell_of_row wr b7 2 _ _ _ hu.out.h7
      have f3 := cell_of_row wr b7 3 _ _ _ hu.out.h7
      have f4 := cell_of_row wr b7 4 _ _ _ hu.out.h7
      have f5 := cell_of_row wr b7 5 _ _ _ hu.out.h7
      simp [kA] at f0 f1 f2 f3 f4 f5
      have hq := fun w : World => run_eq6 x.1 fa w
      simp only [kA] at hq
      have HX := hid hx
      have HM := hid hM
      clear hw hx hM
      by_cases hxe : x.1 = fa
      · simp only [decide_eq_true hxe] at hq
        have HXE := hid hxe
        clear hxe
        go_wp2
        go_quiet (fail)
        go_wp2_with fail
        go_roundw
        case rel =>
          refine ⟨j + 1, by omega, by go_num, ?_, ?_⟩
          · rw [dKn_succ fa L j x HX.out, decide_eq_true HXE.out, Bool.or_true]
          · rw [upP_hit fa pt L j x HX.out HXE.out]
            exact (hu.out.dn _).set (upP_len fa pt L j).symm (.inr rfl) j x HM.out pt fa HXE.out
        case measure => simp [intOf]; omega
      · simp only [decide_eq_false hxe] at hq
        have HXE := hid hxe
        clear hxe
        go_wp2
        go_quiet (fail)
        go_wp2_with fail
        go_roundw
        case rel =>
          refine ⟨j + 1, by omega, by go_num, ?_, ?_⟩
          · rw [dKn_succ fa L j x HX.out, decide_eq_false HXE.out, Bool.or_false]
          · rw [upP_miss fa pt L j x HX.out HXE.out]
            exact hu.out.dn _
        case measure => simp [intOf]; omega
    · have hj' : j = L.length := by omega
      have hu2 := hu.out
      rw [hj', upP_all] at hu2
      have f0 := cell_of_row wr b7 0 _ _ _ hu2.h7
      obtain ⟨kb, hkb⟩ : ∃ kb, kb = dKn fa L := ⟨_, rfl⟩
      rw [hj', List.take_length, ← hkb]
      have hlt' : ¬ (j : Int) < (L.length : Int) := by omega
      have HU := hid hu2
      have HK := hid hkb
      clear hu hu2 hkb
      rw [hj'] at hlt'
      simp [kA] at f0
      have hmap : ∀ c : Bool, c = false → c = (!kb && decide (fa.1 % 2 = 0) && decide (L.length < 32)) → dLrn L fa pt = L.map (fun x => if x.1 = fa then (fa, pt) else x) := fun c h1 h2 => by
        unfold dLrn
        rw [← HK.out, ← h2, h1]
        rfl
      have hev2 : fa.1.tmod 2 = fa.1 % 2 := Int.tmod_eq_emod_of_nonneg HA.out.1
      have HMAP := hid hmap
      have HEV := hid hev2
      clear hmap hev2
      cases kb
      · by_cases hev : fa.1.tmod 2 = 0
        · by_cases hln : L.length < 32
          · have hlb : (L.length : Int) < 32 := by omega
            have hd : dLrn L fa pt = L.map (fun x => if x.1 = fa then (fa, pt) else x) ++ [(fa, pt)] := by
              unfold dLrn
              rw [HEV.out] at hev
              rw [← HK.out]
              simp [hev, hln]
            obtain ⟨L1, hL1⟩ : ∃ L1, L1 = L.map (fun x => if x.1 = fa then (fa, pt) else x) := ⟨_, rfl⟩
            have hll : L1.length = L.length := by rw [hL1]; simp
            rw [← hL1] at HU hd
            have HD := hid hd
            have HLL := hid hll
            have c1 : wr.cell? ⟨p, 1, none⟩ = some (.slice ad L.length cp) := cell_of_row wr p 1 _ _ _ HU.out.wd.blk
            have c0 : wr.cell? ⟨p, 0, none⟩ = some (.int .i64 N) := cell_of_row wr p 0 _ _ _ HU.out.wd.blk
            clear HMAP hd hll hL1
            go_upto_region 13 with fail
            obtain ⟨wa, hwa⟩ : ∃ wa, wa = wr.drew := ⟨_, rfl⟩
            refine wp_region_any (by kernel_rfl) ?_
            refine wpAny_at (w0 := wa) hwa.symm ?_
            have hua : LS (fun k => k = p ∨ Ug (.slice ad L.length cp) k) w p (N : Int) b7 b8 (.slice ad L.length cp) fa ta L1 wa := by rw [hwa]; exact HU.out.drew
            have f0 := cell_of_row wa b7 0 _ _ _ hua.h7
            have f1 := cell_of_row wa b7 1 _ _ _ hua.h7
            have f2 := cell_of_row wa b7 2 _ _ _ hua.h7
            have f3 := cell_of_row wa b7 3 _ _ _ hua.h7
            have f4 := cell_of_row wa b7 4 _ _ _ hua.h7
            have f5 := cell_of_row wa b7 5 _ _ _ hua.h7
            simp [kA] at f0 f1 f2 f3 f4 f5
            have HFF := hid (And.intro f0 (And.intro f1 (And.intro f2 (And.intro f3 (And.intro f4 f5)))))
            have HOW : Hid ((mw wa fa pt).ownsRow 0 57 7 (.slice ad L.length cp) L.length (mcs L1)) := by have := (hua.alloc (.cells (mac7 fa pt) 57)).wd.own; rw [HLL.out] at this; exact this
            have HAT := hid (fun (w8 : World) (x : Value) (m : MM p fa pt (.slice ad L.length cp) L1 wa 2 x w8) => (show w8.cell? ⟨p, 1, none⟩ = some (.slice ad L.length cp) ∧ w8.frozen? ⟨p, 1, none⟩ = false from ⟨cell_of_row w8 p 1 _ _ _ (hua.at2 m).1, frozen_of_row w8 p 1 _ _ (hua.at2 m).1⟩))
            have HST := hid (fun (w8 : World) (x : Value) (m : MM p fa pt (.slice ad L.length cp) L1 wa 2 x w8) => (show ∃ ad c, x = .slice ad (L1.length + 1) c from by
              rcases m.1.2 with ⟨h1, h2⟩ | ⟨g, cap, cur, h1, h2⟩
              · omega
              · exact ⟨_, cap, h1⟩))
            have HFN := hid (fun (w8 : World) (x : Value) (m : MM p fa pt (.slice ad L.length cp) L1 wa 2 x w8) => hua.app (.inl rfl) (fun k q => .inr q) m)
            have HLD : Hid (∀ (x : Value) (listed : Array Bool) w8, VS [8, 9, 12] (MM p fa pt (.slice ad L.length cp) L1 wa) x listed w8 → listed.getD 9 false = false → w8.cell? ⟨p, 1, none⟩ = some (.slice ad L.length cp)) := by
              rintro x listed w8 ⟨s, hs, hm⟩ h9
              have a1 := hs 1 9 rfl
              rw [h9] at a1
              have a2 : ¬ 1 < s := by simpa using a1.symm
              match s, a2, hm with
              | 0, _, hm => rw [show w8 = wa from hm]; exact cell_of_row wa p 1 _ _ _ hua.wd.blk
              | 1, _, hm => rw [show w8 = mw wa fa pt from hm]; exact cell_of_row _ p 1 _ _ _ (hua.alloc _).wd.blk
              | s + 2, q, _ => omega
            have HLB := hid hlb
            clear hua hwa HU c1 c0 f0 f1 f2 f3 f4 f5 hlb hln
            refine wpAny_fz (α := Value) (vtM p fa pt (.slice ad L.length cp) wa) (fun x listed w => VS [8, 9, 12] (MM p fa pt (.slice ad L.length cp) L1 wa) x listed w) ?step ?fin (.slice none 0 0) ?start
            case start => exact .start rfl
            case step =>
              rintro listed fr wr x hF hW hC i hj
              obtain ⟨hl, o, ho, he⟩ := mem_ready.1 hj
              have hjl : i < listed.size := by rw [hF.q.ls]; exact (Array.getElem?_eq_some_iff.1 ho).1
              have hl0 := getD_tf hjl hl
              clear hj
              have HF := hid hF
              have HW := hid hW
              have HE := hid he
              have HC := hid hC
              clear hF hW he hl hC
              match i, ho with
              | 0, ho =>
                obtain rfl := Option.some.inj ho
                have e0 : fr.tmps[0]?.getD undef = .pointer (some ⟨p, 0, none⟩) := HF.out.base 0 (by kernel_rfl) rfl
                exact wp_q rfl rfl (by simp [execOp, go_sem, e0]; try rfl) ⟨x, HF.out.put (by kernel_rfl) rfl rfl rfl (of_decide_eq_true rfl), HW.out.q hjl (by decide)⟩
              | 1, ho =>
                obtain rfl := Option.some.inj ho
                have e0 : fr.tmps[0]?.getD undef = .pointer (some ⟨p, 0, none⟩) := HF.out.base 0 (by kernel_rfl) rfl
                exact wp_q rfl rfl (by simp [execOp, go_sem, e0]; try rfl) ⟨x, HF.out.put (by kernel_rfl) rfl rfl rfl (of_decide_eq_true rfl), HW.out.q hjl (by decide)⟩
              | 2, ho =>
                obtain rfl := Option.some.inj ho
                have e79 : fr.tmps[79]?.getD undef = .pointer (some ⟨p, 0, none⟩) := HF.out.ev (i := 1) rfl rfl (HE.out ⟨1, .data⟩ (by simp) rfl)
                exact wp_q rfl rfl (by simp [execOp, go_sem, e79]; try rfl) ⟨x, HF.out.put (by kernel_rfl) rfl rfl rfl (of_decide_eq_true rfl), HW.out.q hjl (by decide)⟩
              | 3, ho =>
                obtain rfl := Option.some.inj ho
                have e80 : fr.tmps[80]?.getD undef = .pointer (some ⟨p, 0, none⟩) := HF.out.ev (i := 2) rfl rfl (HE.out ⟨2, .data⟩ (by simp) rfl)
                exact wp_q rfl rfl (by simp [execOp, go_sem, e80]; try rfl) ⟨x, HF.out.put (by kernel_rfl) rfl rfl rfl (of_decide_eq_true rfl), HW.out.q hjl (by decide)⟩
              | 4, ho =>
                obtain rfl := Option.some.inj ho
                have e81 : fr.tmps[81]?.getD undef = .pointer (some ⟨p, 1, none⟩) := HF.out.ev (i := 3) rfl rfl (HE.out ⟨3, .data⟩ (by simp) rfl)
                have hc := HLD.out _ _ _ HW.out (not_yet HC.out hl0 rfl ⟨4, .data⟩ (by simp) rfl rfl)
                exact wp_q rfl rfl (by simp [execOp, go_sem, e81, hc]; try rfl) ⟨x, HF.out.put (by kernel_rfl) rfl rfl rfl (of_decide_eq_true rfl), HW.out.q hjl (by decide)⟩
              | 5, ho =>
                obtain rfl := Option.some.inj ho
                have e7 : fr.tmps[7]?.getD undef = .pointer (some ⟨b7, 0, none⟩) := HF.out.base 7 (by kernel_rfl) rfl
                have h7 : listed.getD 7 false = false := not_yet (j := 7) HC.out hl0 rfl ⟨5, .data⟩ (by simp) rfl rfl
                have h8 : listed.getD 8 false = false := not_yet (j := 8) HC.out h7 rfl ⟨7, .data⟩ (by simp) rfl rfl
                have m0 : wr = wa := HW.out.at 0 rfl h8 (fun j hj => by omega)
                subst m0
                obtain ⟨f0, f1, f2, f3, f4, f5⟩ := HFF.out
                exact wp_q rfl rfl (by simp [execOp, go_sem, e7, f0, f1, f2, f3, f4, f5]; try rfl) ⟨x, HF.out.put (by kernel_rfl) rfl rfl rfl (of_decide_eq_true rfl), HW.out.q hjl (by decide)⟩
              | 6, ho =>
                obtain rfl := Option.some.inj ho
                have e1 : fr.tmps[1]?.getD undef = .int .i64 pt := HF.out.base 1 (by kernel_rfl) rfl
                exact wp_q rfl rfl (by simp [execOp, go_sem, e1]; try rfl) ⟨x, HF.out.put (by kernel_rfl) rfl rfl rfl (of_decide_eq_true rfl), HW.out.q hjl (by decide)⟩
              | 7, ho =>
                obtain rfl := Option.some.inj ho
                have e83 : fr.tmps[83]?.getD undef = .agg #[.int .u8 fa.1, .int .u8 fa.2.1, .int .u8 fa.2.2.1, .int .u8 fa.2.2.2.1, .int .u8 fa.2.2.2.2.1, .int .u8 fa.2.2.2.2.2] := HF.out.ev (i := 5) rfl rfl (HE.out ⟨5, .data⟩ (by simp) rfl)
                have e84 : fr.tmps[84]?.getD undef = .int .i64 pt := HF.out.ev (i := 6) rfl rfl (HE.out ⟨6, .data⟩ (by simp) rfl)
                exact wp_q rfl rfl (by simp [execOp, go_sem, e83, e84]; try rfl) ⟨x, HF.out.put (by kernel_rfl) rfl rfl rfl (of_decide_eq_true rfl), HW.out.q hjl (by decide)⟩
              | 8, ho =>
                obtain rfl := Option.some.inj ho
                have e85 : fr.tmps[85]?.getD undef = .agg #[.int .u8 fa.1, .int .u8 fa.2.1, .int .u8 fa.2.2.1, .int .u8 fa.2.2.2.1, .int .u8 fa.2.2.2.2.1, .int .u8 fa.2.2.2.2.2, .int .i64 pt] := HF.out.ev (i := 7) rfl rfl (HE.out ⟨7, .data⟩ (by simp) rfl)
                have m0 : wr = wa := HW.out.at 0 rfl hl0 (fun j hj => by omega)
                subst m0
                obtain ⟨i0, hi0, hz0, hs0, hb0⟩ := info_parts info_mac
                exact wp_bs rfl rfl 37 57 1 _ rfl (mac7 fa pt) i0 _ u_smac hi0 hz0 (by rw [hs0]; decide) (by rw [hs0]; decide) (by rw [hs0]; simp [Act.eval, e85]; kernel_rfl) ⟨x, HF.out.put (by kernel_rfl) rfl rfl rfl (of_decide_eq_true rfl), HW.out.go 0 hjl rfl hl0 (fun j hj => by omega) (by intro a ha; match a, ha with | 0, _ => rfl | 1, ha => simp at ha | 2, ha => simp at ha) rfl⟩
              | 9, ho =>
                obtain rfl := Option.some.inj ho
                have e82 : fr.tmps[82]?.getD undef = .slice ad L.length cp := HF.out.ev (i := 4) rfl rfl (HE.out ⟨4, .data⟩ (by simp) rfl)
                have e86 : fr.tmps[86]?.getD undef = .slice (some ⟨wa.heap.size, 0, none⟩) 1 1 := HF.out.ev (i := 8) rfl rfl (HE.out ⟨8, .data⟩ (by simp) rfl)
                have hp := HE.out ⟨8, .data⟩ (by simp) rfl
                have m0 : wr = mw wa fa pt := HW.out.at 1 rfl hl0 (fun j hj => by obtain rfl : j = 0 := (by omega); exact ⟨8, rfl, hp⟩)
                subst m0
                obtain ⟨i0, hi0, hz0, hs0, hb0⟩ := info_parts info_mac
                have e28' : Act.eval fr (.tmp 82) = .slice ad L.length cp := by simp [Act.eval, e82]
                have e31' : Act.eval fr (.tmp 86) = .slice (some ⟨wa.heap.size, 0, none⟩) 1 1 := by simp [Act.eval, e86]
                refine wpOp_step rfl fun K' hK => ?_
                refine step_append_blk _ (.tmp 82) (.tmp 86) 37 rfl 57 i0 _ 7 16 u_smac hi0 hz0 hs0 hb0 rfl (by decide) (.slice ad L.length cp) L.length _ e28' HOW.out ⟨wa.heap.size, 0, none⟩ 1 1 (mcs [(fa, pt)]) e31' rfl ?_ (by intro v hv; simp [mcs] at hv; rcases hv with rfl | rfl | rfl | rfl | rfl | rfl | rfl <;> rfl) (show L.length + 1 ≤ 9223372036854775807 by have := HLB.out; omega) (by have := HLB.out; omega) rfl ?_
                · intro j v hv
                  rw [C.addr_add, Nat.zero_add]
                  exact (cell_of_row (mw wa fa pt) _ j _ _ _ (heap_alloc_new wa (.cells (mac7 fa pt) 57))).trans (by rw [← Array.getElem?_toList, show (mac7 fa pt).toList = mcs [(fa, pt)] from rfl]; exact hv)
                intro v' w8 hown hgrow hblk
                have hsw := HF.out.swapD (vt' := vtM p fa pt (.slice ad L.length cp) wa v') (by kernel_rfl) (fun d => ?_)
                · exact hK _ _ ⟨v', hsw.put (by kernel_rfl) rfl rfl rfl (of_decide_eq_true rfl), HW.out.go 1 hjl rfl hl0 (fun j hj => by obtain rfl : j = 0 := (by omega); exact ⟨8, rfl, hp⟩) (by intro a ha; match a, ha with | 0, ha => simp at ha | 1, _ => rfl | 2, ha => simp at ha) ⟨by rw [HLL.out]; exact hown, grown_ug hgrow, hblk⟩⟩
                · by_cases z0 : d = 87
                  · subst z0; exact .inr ⟨9, _, rfl, rfl, hl0⟩
                  · left; simp only [vtM, if_neg z0]
              | 10, ho =>
                obtain rfl := Option.some.inj ho
                have e78 : fr.tmps[78]?.getD undef = .pointer (some ⟨p, 0, none⟩) := HF.out.ev (i := 0) rfl rfl (HE.out ⟨0, .data⟩ (by simp) rfl)
                exact wp_q rfl rfl (by simp [execOp, go_sem, e78]; try rfl) ⟨x, HF.out.put (by kernel_rfl) rfl rfl rfl (of_decide_eq_true rfl), HW.out.q hjl (by decide)⟩
              | 11, ho =>
                obtain rfl := Option.some.inj ho
                have e88 : fr.tmps[88]?.getD undef = .pointer (some ⟨p, 0, none⟩) := HF.out.ev (i := 10) rfl rfl (HE.out ⟨10, .data⟩ (by simp) rfl)
                exact wp_q rfl rfl (by simp [execOp, go_sem, e88]; try rfl) ⟨x, HF.out.put (by kernel_rfl) rfl rfl rfl (of_decide_eq_true rfl), HW.out.q hjl (by decide)⟩
              | 12, ho =>
                obtain rfl := Option.some.inj ho
                have e89 : fr.tmps[89]?.getD undef = .pointer (some ⟨p, 1, none⟩) := HF.out.ev (i := 11) rfl rfl (HE.out ⟨11, .data⟩ (by simp) rfl)
                have e87 : fr.tmps[87]?.getD undef = x := HF.out.ev (i := 9) rfl rfl (HE.out ⟨9, .data⟩ (by simp) rfl)
                have hp := HE.out ⟨9, .data⟩ (by simp) rfl
                have m0 := HW.out.at 2 rfl hl0 (fun j hj => by obtain rfl : j = 1 := (by omega); exact ⟨9, rfl, hp⟩)
                obtain ⟨c8, z8⟩ := HAT.out _ _ m0
                obtain ⟨ax, cx, hx⟩ := HST.out _ _ m0
                subst hx
                exact wp_s rfl rfl (by simp [execOp, go_sem, e89, e87, c8, z8]; try rfl) ⟨_, HF.out.skip rfl rfl _, HW.out.go 2 hjl rfl hl0 (fun j hj => by obtain rfl : j = 1 := (by omega); exact ⟨9, rfl, hp⟩) (by intro a ha; match a, ha with | 0, ha => simp at ha | 1, ha => simp at ha | 2, _ => rfl) ⟨wr, m0, rfl⟩⟩
            case fin =>
              rintro listed fr w2 x hF hW hr
              have all := allDone hr hF.q.ls (by kernel_rfl)
              obtain ⟨w8, m4, rfl⟩ := hW.end 2 rfl (all _ (by decide)) (fun s hs q => by match s, hs with | s + 3, _ => exact q)
              rw [hF.full all]
              have HM := hid m4
              clear hF hr all hW m4
              simp only [List.foldl_cons, List.foldl_nil, fillF]
              go_simp
              have hfin := HFN.out _ _ HM.out
              have HU2 : Hid (LS (fun k => k = p ∨ Ug (.slice ad L.length cp) k) w p (N : Int) b7 b8 x fa ta (dLrn L fa pt) (w8.setCell ⟨p, 1, none⟩ x)) := by rw [HD.out]; exact hfin.1
              have HF2 : Hid (∀ k, Ug x k → Ug (.slice ad L.length cp) k ∨ w.heap.size ≤ k) := hid hfin.2
              clear hfin HM HFN HLD HST HAT HOW HFF
              generalize w8.setCell ⟨p, 1, none⟩ x = wr at *
              generalize x = v2 at *
              have HU := HU2
              clear HU2
              go_wp2_with fail
              obtain ⟨M2, hM2⟩ : ∃ M2, M2 = dLrn L fa pt := ⟨_, rfl⟩
              rw [← hM2] at HU
              have HM2 := hid hM2
              have HSN : Hid (snd (dLrn L fa pt) ta N pt = snd M2 ta N pt) := by rw [hM2]; exact hid rfl
              obtain ⟨ad2, cp2, hv2, hgl2⟩ : ∃ ad cp, v2 = .slice ad M2.length cp ∧ (0 < M2.length → ∃ g, ad = some ⟨g, 0, none⟩) := by
                rcases HU.out.wd.own.2 with ⟨h1, h2⟩ | ⟨g, cap, cur, h1, h2⟩
                · exact ⟨none, 0, by rw [h1, h2], fun q => absurd h2 (by omega)⟩
                · exact ⟨_, cap, h1, fun _ => ⟨g, rfl⟩⟩
              have hl33 : M2.length ≤ 33 := by rw [hM2]; exact Nat.le_trans (dLrn_len L fa pt) (by omega)
              subst hv2
              have HGL2 := hid hgl2
              clear hgl2 hM2
              go_loopw [11] (fun i wr => ∃ j : Nat, j ≤ M2.length ∧ i = .int .i64 j ∧ Hid (∀ (k : Nat) (x : Ad × Int), k < j → M2[k]? = some x → x.1 ≠ ta) ∧ Hid (LS (fun k => k = p ∨ Ug (.slice ad L.length cp) k) w p (N : Int) b7 b8 (.slice ad2 M2.length cp2) fa ta M2 wr)) (fun i _ => M2.length - (intOf i).toNat)
              case atStart => exact ⟨0, Nat.zero_le _, rfl, fun k x hk => absurd hk (by omega), HU.out⟩
              case round =>
                obtain ⟨j, hj, rfl, hno, hu⟩ := hrel
                have c1 : wr.cell? ⟨p, 1, none⟩ = some (.slice ad2 M2.length cp2) := cell_of_row wr p 1 _ _ _ hu.out.wd.blk
                have c0 : wr.cell? ⟨p, 0, none⟩ = some (.int .i64 N) := cell_of_row wr p 0 _ _ _ hu.out.wd.blk
                by_cases hlt : j < M2.length
                · have hlt' : (j : Int) < (M2.length : Int) := by omega
                  obtain ⟨g, rfl⟩ := HGL2.out (by omega)
                  obtain ⟨x, hx⟩ : ∃ x, M2[j]? = some x := ⟨M2[j], by simp [hlt]⟩
                  have hw := hu.out.wd
                  obtain ⟨e0, e1, e2, e3, e4, e5, e6, ez⟩ := hw.at rfl j x hx
                  have f0 := cell_of_row wr b8 0 _ _ _ hu.out.h8
                  have f1 := cell_of_row wr b8 1 _ _ _ hu.out.h8
                  have f2 := cell_of_row wr b8 2 _ _ _ hu.out.h8
                  have f3 := cell_of_row wr b8 3 _ _ _ hu.out.h8
                  have f4 := cell_of_row wr b8 4 _ _ _ hu.out.h8
                  have f5 := cell_of_row wr b8 5 _ _ _ hu.out.h8
                  simp [kA] at f0 f1 f2 f3 f4 f5
                  have hq := fun w : World => run_eq6 x.1 ta w
                  simp only [kA] at hq
                  have HX := hid hx
                  clear hw hx
                  by_cases hxe : x.1 = ta
                  · simp only [decide_eq_true hxe] at hq
                    have hs : snd M2 ta N pt = bif x.2 == pt then [] else [x.2] := by
                      have hf := fA_first ta x.2 M2 0 j hno.out (by rw [HX.out, ← hxe])
                      unfold snd kn
                      rw [hf]
                      rfl
                    have HS := hid hs
                    clear hxe hs
                    by_cases hpe : x.2 = pt
                    · have hs := HS.out
                      rw [hpe, show (pt == pt) = true by simp, cond_true] at hs
                      have HS2 := hid hs
                      have hpb : (x.2 == pt) = true := by simp [hpe]
                      clear hs HS hpe
                      go_wp2
                      go_quiet (fail)
                      go_wp2_with fail
                      go_ret
                      refine ⟨_, _, rfl, ?_, by rw [← HM2.out]; exact (hu.out.dn _).wd, (hu.out.dn _).on, HF2.out⟩
                      rw [HSN.out, HS2.out]
                      exact own_nil _ _ _
                    · have hs := HS.out
                      rw [show (x.2 == pt) = false by simp [hpe], cond_false] at hs
                      have HS2 := hid hs
                      have hpb : (x.2 == pt) = false := by simp [hpe]
                      clear hs HS hpe
                      go_wp2
                      go_quiet (fail)
                      go_wp2_with fail
                      go_ret
                      refine ⟨_, _, rfl, ?_, by rw [← HM2.out]; exact ((hu.out.dn _).alloc _).wd, ((hu.out.dn _).alloc _).on, HF2.out⟩
                      rw [HSN.out, HS2.out]
                      exact own_lit1 _ (.int .i64 x.2) 3
                  · simp only [decide_eq_false hxe] at hq
                    have HXE := hid hxe
                    clear hxe
                    go_wp2
                    go_quiet (fail)
                    go_wp2_with fail
                    go_roundw
                    case rel =>
                      refine ⟨j + 1, by omega, by go_num, ?_, hu.out.dn _⟩
                      intro k y hk hy
                      by_cases e : k = j
                      · subst e
                        rw [HX.out] at hy
                        cases hy
                        exact HXE.out
                      · exact hno.out k y (by omega) hy
                    case measure => simp [intOf]; omega
                · have hge : ¬ (j : Int) < (M2.length : Int) := by omega
                  have hj' : j = M2.length := by omega
                  have hs : snd M2 ta N pt = oth N pt := by
                    unfold snd kn
                    rw [fA_none ta M2 0 fun k x hx => hno.out k x (by have := (List.getElem?_eq_some_iff.1 hx).1; omega) hx]
                    rfl
                  have HS := hid hs
                  clear hs hlt hj' hno HU
                  go_wp2
                  go_loopw [12, 13] (fun u i wr => ∃ j : Nat, j ≤ N ∧ i = .int .i64 j ∧ Hid (wr.ownsRow 0 3 1 u (oth j pt).length (its (oth j pt)) ∧ LS (fun k => k = p ∨ Ug (.slice ad L.length cp) k) w p (N : Int) b7 b8 (.slice ad2 M2.length cp2) fa ta M2 wr ∧ ∀ k, Ug u k → w.heap.size ≤ k)) (fun _ i _ => N - (intOf i).toNat)
                  case atStart => exact ⟨0, by omega, rfl, own_nil _ _ _, hu.out, fun k hk => by cases hk⟩
                  case round =>
                    clear hu hge hj c0 c1
                    obtain ⟨j, hj, rfl, hu⟩ := hrel
                    have c0 : wr.cell? ⟨p, 0, none⟩ = some (.int .i64 N) := cell_of_row wr p 0 _ _ _ hu.out.2.1.wd.blk
                    by_cases hlt : j < N
                    · have hlt' : (j : Int) < (N : Int) := by omega
                      have hj8 : j < 8 := by omega
                      obtain ⟨h1, h2, h3⟩ := hu.out
                      obtain ⟨ua, uc, rfl⟩ := own_form h1
                      have hl := oth_len j pt
                      by_cases hx : (j : Int) = pt
                      · have hx2 : ((j : Int) != pt) = false := by simp [hx]
                        have HU2 : Hid (wr.ownsRow 0 3 1 (.slice ua (oth j pt).length uc) (oth (j + 1) pt).length (its (oth (j + 1) pt)) ∧ LS (fun k => k = p ∨ Ug (.slice ad L.length cp) k) w p (N : Int) b7 b8 (.slice ad2 M2.length cp2) fa ta M2 wr ∧ ∀ k, Ug (.slice ua (oth j pt).length uc) k → w.heap.size ≤ k) := by
                          rw [oth_up, if_pos hx, List.append_nil]; exact ⟨h1, h2, h3⟩
                        clear hu h1 h2 h3 hx
                        go_wp2
                        go_roundw
                        case rel => exact ⟨j + 1, by omega, by go_num, HU2⟩
                        case measure => simp [intOf]; omega
                      · have hx2 : ((j : Int) != pt) = true := by simp [hx]
                        obtain ⟨i0, hi0, hz0, hz1, hz2⟩ := info_parts info_int'
                        have hb1 := (Below.refl wr.heap.size wr).alloc (Nat.le_refl _) (.cells #[.int .i64 (j : Int)] 3)
                        have HL := hid (own_only h1 (T := fun _ => False) (.ofBelow hb1) (fun _ _ z => z))
                        have HN : Hid (∀ k u, [Value.int .i64 (j : Int)][k]? = some u → (wr.alloc (.cells #[.int .i64 (j : Int)] 3)).cell? ((⟨wr.heap.size, 0, none⟩ : Addr).add k) = some u) := fun k u hk => by
                          rw [C.addr_add, Nat.zero_add, cell_of_row _ _ k _ _ _ (heap_alloc_new wr _)]
                          simpa using hk
                        have H2 := hid h2
                        have H3 := hid h3
                        have HX := hid hx
                        have HHL := hid hl
                        clear hu h1 h2 h3 hx hb1 hl
                        generalize hLn : (oth j pt).length = ln at *
                        have HLn := hid hLn
                        clear hLn
                        go_wp2_with (at_builtin; refine wpList_append_blk _ (.tmp 139) (.tmp 141) 22 rfl 3 i0 (.int .i64 0) 1 8 u_sint' hi0 hz0 hz1 hz2 rfl (by decide) (.slice ua ln uc) ln (its (oth j pt)) rfl HL.out ⟨wr.heap.size, 0, none⟩ 1 1 [.int .i64 (j : Int)] rfl rfl HN.out (by intro u hu; simp at hu; subst hu; rfl) (show ln + 1 ≤ 9223372036854775807 by have := HHL.out; omega) (by have := HHL.out; omega) rfl ?_; intro u' w3 hown hgrow hblk; obtain ⟨ua2, uc2, rfl⟩ := own_form hown; have HO3 := hid hown; have HG3 := hid hgrow; have HB3 := hid hblk; clear hown hgrow hblk)
                        go_roundw
                        case rel =>
                          refine ⟨j + 1, by omega, by go_num, ?_, ?_, ?_⟩
                          · have e1 := HO3.out
                            rw [its_app, ← HLn.out] at e1
                            rw [oth_up, if_neg HX.out]
                            rw [← HLn.out]
                            simpa using e1
                          · exact (H2.out.alloc _).only (grown_ug HG3.out) (fun k c t hk ht q => ht (own_int_ty HL.out q hk)) H3.out
                          · intro k hk
                            rcases HB3.out k hk with q | q
                            · exact H3.out k q
                            · have := H2.out.on.size
                              simp at q
                              omega
                        case measure => simp [intOf]; omega
                    · have hge : ¬ (j : Int) < (N : Int) := by omega
                      have hj' : j = N := by omega
                      have HJ := hid hj'
                      clear hlt hj'
                      go_wp2
                      go_ret
                      refine ⟨_, rfl, ?_, _, by rw [← HM2.out]; exact hu.out.2.1.wd, hu.out.2.1.on, HF2.out⟩
                      rw [HSN.out, HS.out, ← HJ.out]
                      exact hu.out.1
          · have hlb : ¬ (L.length : Int) < 32 := by omega
            have hd := HMAP.out false rfl (by simp [hln])
            obtain ⟨v2, hv2⟩ : ∃ v2, v2 = Value.slice ad L.length cp := ⟨_, rfl⟩
            have HU2 : Hid (LS (fun k => k = p ∨ Ug (.slice ad L.length cp) k) w p (N : Int) b7 b8 v2 fa ta (dLrn L fa pt) wr) := by rw [hv2, hd]; exact HU
            clear HU
            have HU := HU2
            clear HU2
            have HF2 : Hid (∀ k, Ug v2 k → Ug (.slice ad L.length cp) k ∨ w.heap.size ≤ k) := hid (by rw [hv2]; exact fun k q => .inl q)
            clear hd hv2
            go_wp2
            obtain ⟨M2, hM2⟩ : ∃ M2, M2 = dLrn L fa pt := ⟨_, rfl⟩
            rw [← hM2] at HU
            have HM2 := hid hM2
            have HSN : Hid (snd (dLrn L fa pt) ta N pt = snd M2 ta N pt) := by rw [hM2]; exact hid rfl
            obtain ⟨ad2, cp2, hv2, hgl2⟩ : ∃ ad cp, v2 = .slice ad M2.length cp ∧ (0 < M2.length → ∃ g, ad = some ⟨g, 0, none⟩) := by
              rcases HU.out.wd.own.2 with ⟨h1, h2⟩ | ⟨g, cap, cur, h1, h2⟩
              · exact ⟨none, 0, by rw [h1, h2], fun q => absurd h2 (by omega)⟩
              · exact ⟨_, cap, h1, fun _ => ⟨g, rfl⟩⟩
            have hl33 : M2.length ≤ 33 := by rw [hM2]; exact Nat.le_trans (dLrn_len L fa pt) (by omega)
            subst hv2
            have HGL2 := hid hgl2
            clear hgl2 hM2
            go_loopw [11] (fun i wr => ∃ j : Nat, j ≤ M2.length ∧ i = .int .i64 j ∧ Hid (∀ (k : Nat) (x : Ad × Int), k < j → M2[k]? = some x → x.1 ≠ ta) ∧ Hid (LS (fun k => k = p ∨ Ug (.slice ad L.length cp) k) w p (N : Int) b7 b8 (.slice ad2 M2.length cp2) fa ta M2 wr)) (fun i _ => M2.length - (intOf i).toNat)
            case atStart => exact ⟨0, Nat.zero_le _, rfl, fun k x hk => absurd hk (by omega), HU.out⟩
            case round =>
              obtain ⟨j, hj, rfl, hno, hu⟩ := hrel
              have c1 : wr.cell? ⟨p, 1, none⟩ = some (.slice ad2 M2.length cp2) := cell_of_row wr p 1 _ _ _ hu.out.wd.blk
              have c0 : wr.cell? ⟨p, 0, none⟩ = some (.int .i64 N) := cell_of_row wr p 0 _ _ _ hu.out.wd.blk
              by_cases hlt : j < M2.length
              · have hlt' : (j : Int) < (M2.length : Int) := by omega
                obtain ⟨g, rfl⟩ := HGL2.out (by omega)
                obtain ⟨x, hx⟩ : ∃ x, M2[j]? = some x := ⟨M2[j], by simp [hlt]⟩
                have hw := hu.out.wd
                obtain ⟨e0, e1, e2, e3, e4, e5, e6, ez⟩ := hw.at rfl j x hx
                have f0 := cell_of_row wr b8 0 _ _ _ hu.out.h8
                have f1 := cell_of_row wr b8 1 _ _ _ hu.out.h8
                have f2 := cell_of_row wr b8 2 _ _ _ hu.out.h8
                have f3 := cell_of_row wr b8 3 _ _ _ hu.out.h8
                have f4 := cell_of_row wr b8 4 _ _ _ hu.out.h8
                have f5 := cell_of_row wr b8 5 _ _ _ hu.out.h8
                simp [kA] at f0 f1 f2 f3 f4 f5
                have hq := fun w : World => run_eq6 x.1 ta w
                simp only [kA] at hq
                have HX := hid hx
                clear hw hx
                by_cases hxe : x.1 = ta
                · simp only [decide_eq_true hxe] at hq
                  have hs : snd M2 ta N pt = bif x.2 == pt then [] else [x.2] := by
                    have hf := fA_first ta x.2 M2 0 j hno.out (by rw [HX.out, ← hxe])
                    unfold snd kn
                    rw [hf]
                    rfl
                  have HS := hid hs
                  clear hxe hs
                  by_cases hpe : x.2 = pt
                  · have hs := HS.out
                    rw [hpe, show (pt == pt) = true by simp, cond_true] at hs
                    have HS2 := hid hs
                    have hpb : (x.2 == pt) = true := by simp [hpe]
                    clear hs HS hpe
                    go_wp2
                    go_quiet (fail)
                    go_wp2_with fail
                    go_ret
                    refine ⟨_, _, rfl, ?_, by rw [← HM2.out]; exact (hu.out.dn _).wd, (hu.out.dn _).on, HF2.out⟩
                    rw [HSN.out, HS2.out]
                    exact own_nil _ _ _
                  · have hs := HS.out
                    rw [show (x.2 == pt) = false by simp [hpe], cond_false] at hs
                    have HS2 := hid hs
                    have hpb : (x.2 == pt) = false := by simp [hpe]
                    clear hs HS hpe
                    go_wp2
                    go_quiet (fail)
                    go_wp2_with fail
                    go_ret
                    refine ⟨_, _, rfl, ?_, by rw [← HM2.out]; exact ((hu.out.dn _).alloc _).wd, ((hu.out.dn _).alloc _).on, HF2.out⟩
                    rw [HSN.out, HS2.out]
                    exact own_lit1 _ (.int .i64 x.2) 3
                · simp only [decide_eq_false hxe] at hq
                  have HXE := hid hxe
                  clear hxe
                  go_wp2
                  go_quiet (fail)
                  go_wp2_with fail
                  go_roundw
                  case rel =>
                    refine ⟨j + 1, by omega, by go_num, ?_, hu.out.dn _⟩
                    intro k y hk hy
                    by_cases e : k = j
                    · subst e
                      rw [HX.out] at hy
                      cases hy
                      exact HXE.out
                    · exact hno.out k y (by omega) hy
                  case measure => simp [intOf]; omega
              · have hge : ¬ (j : Int) < (M2.length : Int) := by omega
                have hj' : j = M2.length := by omega
                have hs : snd M2 ta N pt = oth N pt := by
                  unfold snd kn
                  rw [fA_none ta M2 0 fun k x hx => hno.out k x (by have := (List.getElem?_eq_some_iff.1 hx).1; omega) hx]
                  rfl
                have HS := hid hs
                clear hs hlt hj' hno HU
                go_wp2
                go_loopw [12, 13] (fun u i wr => ∃ j : Nat, j ≤ N ∧ i = .int .i64 j ∧ Hid (wr.ownsRow 0 3 1 u (oth j pt).length (its (oth j pt)) ∧ LS (fun k => k = p ∨ Ug (.slice ad L.length cp) k) w p (N : Int) b7 b8 (.slice ad2 M2.length cp2) fa ta M2 wr ∧ ∀ k, Ug u k → w.heap.size ≤ k)) (fun _ i _ => N - (intOf i).toNat)
                case atStart => exact ⟨0, by omega, rfl, own_nil _ _ _, hu.out, fun k hk => by cases hk⟩
                case round =>
                  clear hu hge hj c0 c1
                  obtain ⟨j, hj, rfl, hu⟩ := hrel
                  have c0 : wr.cell? ⟨p, 0, none⟩ = some (.int .i64 N) := cell_of_row wr p 0 _ _ _ hu.out.2.1.wd.blk
                  by_cases hlt : j < N
                  · have hlt' : (j : Int) < (N : Int) := by omega
                    have hj8 : j < 8 := by omega
                    obtain ⟨h1, h2, h3⟩ := hu.out
                    obtain ⟨ua, uc, rfl⟩ := own_form h1
                    have hl := oth_len j pt
                    by_cases hx : (j : Int) = pt
                    · have hx2 : ((j : Int) != pt) = false := by simp [hx]
                      have HU2 : Hid (wr.ownsRow 0 3 1 (.slice ua (oth j pt).length uc) (oth (j + 1) pt).length (its (oth (j + 1) pt)) ∧ LS (fun k => k = p ∨ Ug (.slice ad L.length cp) k) w p (N : Int) b7 b8 (.slice ad2 M2.length cp2) fa ta M2 wr ∧ ∀ k, Ug (.slice ua (oth j pt).length uc) k → w.heap.size ≤ k) := by
                        rw [oth_up, if_pos hx, List.append_nil]; exact ⟨h1, h2, h3⟩
                      clear hu h1 h2 h3 hx
                      go_wp2
                      go_roundw
                      case rel => exact ⟨j + 1, by omega, by go_num, HU2⟩
                      case measure => simp [intOf]; omega
                    · have hx2 : ((j : Int) != pt) = true := by simp [hx]
                      obtain ⟨i0, hi0, hz0, hz1, hz2⟩ := info_parts info_int'
                      have hb1 := (Below.refl wr.heap.size wr).alloc (Nat.le_refl _) (.cells #[.int .i64 (j : Int)] 3)
                      have HL := hid (own_only h1 (T := fun _ => False) (.ofBelow hb1) (fun _ _ z => z))
                      have HN : Hid (∀ k u, [Value.int .i64 (j : Int)][k]? = some u → (wr.alloc (.cells #[.int .i64 (j : Int)] 3)).cell? ((⟨wr.heap.size, 0, none⟩ : Addr).add k) = some u) := fun k u hk => by
                        rw [C.addr_add, Nat.zero_add, cell_of_row _ _ k _ _ _ (heap_alloc_new wr _)]
                        simpa using hk
                      have H2 := hid h2
                      have H3 := hid h3
                      have HX := hid hx
                      have HHL := hid hl
                      clear hu h1 h2 h3 hx hb1 hl
                      generalize hLn : (oth j pt).length = ln at *
                      have HLn := hid hLn
                      clear hLn
                      go_wp2_with (at_builtin; refine wpList_append_blk _ (.tmp 139) (.tmp 141) 22 rfl 3 i0 (.int .i64 0) 1 8 u_sint' hi0 hz0 hz1 hz2 rfl (by decide) (.slice ua ln uc) ln (its (oth j pt)) rfl HL.out ⟨wr.heap.size, 0, none⟩ 1 1 [.int .i64 (j : Int)] rfl rfl HN.out (by intro u hu; simp at hu; subst hu; rfl) (show ln + 1 ≤ 9223372036854775807 by have := HHL.out; omega) (by have := HHL.out; omega) rfl ?_; intro u' w3 hown hgrow hblk; obtain ⟨ua2, uc2, rfl⟩ := own_form hown; have HO3 := hid hown; have HG3 := hid hgrow; have HB3 := hid hblk; clear hown hgrow hblk)
                      go_roundw
                      case rel =>
                        refine ⟨j + 1, by omega, by go_num, ?_, ?_, ?_⟩
                        · have e1 := HO3.out
                          rw [its_app, ← HLn.out] at e1
                          rw [oth_up, if_neg HX.out]
                          rw [← HLn.out]
                          simpa using e1
                        · exact (H2.out.alloc _).only (grown_ug HG3.out) (fun k c t hk ht q => ht (own_int_ty HL.out q hk)) H3.out
                        · intro k hk
                          rcases HB3.out k hk with q | q
                          · exact H3.out k q
                          · have := H2.out.on.size
                            simp at q
                            omega
                      case measure => simp [intOf]; omega
                  · have hge : ¬ (j : Int) < (N : Int) := by omega
                    have hj' : j = N := by omega
                    have HJ := hid hj'
                    clear hlt hj'
                    go_wp2
                    go_ret
                    refine ⟨_, rfl, ?_, _, by rw [← HM2.out]; exact hu.out.2.1.wd, hu.out.2.1.on, HF2.out⟩
                    rw [HSN.out, HS.out, ← HJ.out]
                    exact hu.out.1
        · have hd := HMAP.out false rfl (by rw [HEV.out] at hev; simp [hev])
          obtain ⟨v2, hv2⟩ : ∃ v2, v2 = Value.slice ad L.length cp := ⟨_, rfl⟩
          have HU2 : Hid (LS (fun k => k = p ∨ Ug (.slice ad L.length cp) k) w p (N : Int) b7 b8 v2 fa ta (dLrn L fa pt) wr) := by rw [hv2, hd]; exact HU
          clear HU
          have HU := HU2
          clear HU2
          have HF2 : Hid (∀ k, Ug v2 k → Ug (.slice ad L.length cp) k ∨ w.heap.size ≤ k) := hid (by rw [hv2]; exact fun k q => .inl q)
          clear hd hv2
          go_wp2
          obtain ⟨M2, hM2⟩ : ∃ M2, M2 = dLrn L fa pt := ⟨_, rfl⟩
          rw [← hM2] at HU
          have HM2 := hid hM2
          have HSN : Hid (snd (dLrn L fa pt) ta N pt = snd M2 ta N pt) := by rw [hM2]; exact hid rfl
          obtain ⟨ad2, cp2, hv2, hgl2⟩ : ∃ ad cp, v2 = .slice ad M2.length cp ∧ (0 < M2.length → ∃ g, ad = some ⟨g, 0, none⟩) := by
            rcases HU.out.wd.own.2 with ⟨h1, h2⟩ | ⟨g, cap, cur, h1, h2⟩
            · exact ⟨none, 0, by rw [h1, h2], fun q => absurd h2 (by omega)⟩
            · exact ⟨_, cap, h1, fun _ => ⟨g, rfl⟩⟩
          have hl33 : M2.length ≤ 33 := by rw [hM2]; exact Nat.le_trans (dLrn_len L fa pt) (by omega)
          subst hv2
          have HGL2 := hid hgl2
          clear hgl2 hM2
          go_loopw [11] (fun i wr => ∃ j : Nat, j ≤ M2.length ∧ i = .int .i64 j ∧ Hid (∀ (k : Nat) (x : Ad × Int), k < j → M2[k]? = some x → x.1 ≠ ta) ∧ Hid (LS (fun k => k = p ∨ Ug (.slice ad L.length cp) k) w p (N : Int) b7 b8 (.slice ad2 M2.length cp2) fa ta M2 wr)) (fun i _ => M2.length - (intOf i).toNat)
          case atStart => exact ⟨0, Nat.zero_le _, rfl, fun k x hk => absurd hk (by omega), HU.out⟩
          case round =>
            obtain ⟨j, hj, rfl, hno, hu⟩ := hrel
            have c1 : wr.cell? ⟨p, 1, none⟩ = some (.slice ad2 M2.length cp2) := cell_of_row wr p 1 _ _ _ hu.out.wd.blk
            have c0 : wr.cell? ⟨p, 0, none⟩ = some (.int .i64 N) := cell_of_row wr p 0 _ _ _ hu.out.wd.blk
            by_cases hlt : j < M2.length
            · have hlt' : (j : Int) < (M2.length : Int) := by omega
              obtain ⟨g, rfl⟩ := HGL2.out (by omega)
              obtain ⟨x, hx⟩ : ∃ x, M2[j]? = some x := ⟨M2[j], by simp [hlt]⟩
              have hw := hu.out.wd
              obtain ⟨e0, e1, e2, e3, e4, e5, e6, ez⟩ := hw.at rfl j x hx
              have f0 := cell_of_row wr b8 0 _ _ _ hu.out.h8
              have f1 := cell_of_row wr b8 1 _ _ _ hu.out.h8
              have f2 := cell_of_row wr b8 2 _ _ _ hu.out.h8
              have f3 := cell_of_row wr b8 3 _ _ _ hu.out.h8
              have f4 := cell_of_row wr b8 4 _ _ _ hu.out.h8
              have f5 := cell_of_row wr b8 5 _ _ _ hu.out.h8
              simp [kA] at f0 f1 f2 f3 f4 f5
              have hq := fun w : World => run_eq6 x.1 ta w
              simp only [kA] at hq
              have HX := hid hx
              clear hw hx
              by_cases hxe : x.1 = ta
              · simp only [decide_eq_true hxe] at hq
                have hs : snd M2 ta N pt = bif x.2 == pt then [] else [x.2] := by
                  have hf := fA_first ta x.2 M2 0 j hno.out (by rw [HX.out, ← hxe])
                  unfold snd kn
                  rw [hf]
                  rfl
                have HS := hid hs
                clear hxe hs
                by_cases hpe : x.2 = pt
                · have hs := HS.out
                  rw [hpe, show (pt == pt) = true by simp, cond_true] at hs
                  have HS2 := hid hs
                  have hpb : (x.2 == pt) = true := by simp [hpe]
                  clear hs HS hpe
                  go_wp2
                  go_quiet (fail)
                  go_wp2_with fail
                  go_ret
                  refine ⟨_, _, rfl, ?_, by rw [← HM2.out]; exact (hu.out.dn _).wd, (hu.out.dn _).on, HF2.out⟩
                  rw [HSN.out, HS2.out]
                  exact own_nil _ _ _
                · have hs := HS.out
                  rw [show (x.2 == pt) = false by simp [hpe], cond_false] at hs
                  have HS2 := hid hs
                  have hpb : (x.2 == pt) = false := by simp [hpe]
                  clear hs HS hpe
                  go_wp2
                  go_quiet (fail)
                  go_wp2_with fail
                  go_ret
                  refine ⟨_, _, rfl, ?_, by rw [← HM2.out]; exact ((hu.out.dn _).alloc _).wd, ((hu.out.dn _).alloc _).on, HF2.out⟩
                  rw [HSN.out, HS2.out]
                  exact own_lit1 _ (.int .i64 x.2) 3
              · simp only [decide_eq_false hxe] at hq
                have HXE := hid hxe
                clear hxe
                go_wp2
                go_quiet (fail)
                go_wp2_with fail
                go_roundw
                case rel =>
                  refine ⟨j + 1, by omega, by go_num, ?_, hu.out.dn _⟩
                  intro k y hk hy
                  by_cases e : k = j
                  · subst e
                    rw [HX.out] at hy
                    cases hy
                    exact HXE.out
                  · exact hno.out k y (by omega) hy
                case measure => simp [intOf]; omega
            · have hge : ¬ (j : Int) < (M2.length : Int) := by omega
              have hj' : j = M2.length := by omega
              have hs : snd M2 ta N pt = oth N pt := by
                unfold snd kn
                rw [fA_none ta M2 0 fun k x hx => hno.out k x (by have := (List.getElem?_eq_some_iff.1 hx).1; omega) hx]
                rfl
              have HS := hid hs
              clear hs hlt hj' hno HU
              go_wp2
              go_loopw [12, 13] (fun u i wr => ∃ j : Nat, j ≤ N ∧ i = .int .i64 j ∧ Hid (wr.ownsRow 0 3 1 u (oth j pt).length (its (oth j pt)) ∧ LS (fun k => k = p ∨ Ug (.slice ad L.length cp) k) w p (N : Int) b7 b8 (.slice ad2 M2.length cp2) fa ta M2 wr ∧ ∀ k, Ug u k → w.heap.size ≤ k)) (fun _ i _ => N - (intOf i).toNat)
              case atStart => exact ⟨0, by omega, rfl, own_nil _ _ _, hu.out, fun k hk => by cases hk⟩
              case round =>
                clear hu hge hj c0 c1
                obtain ⟨j, hj, rfl, hu⟩ := hrel
                have c0 : wr.cell? ⟨p, 0, none⟩ = some (.int .i64 N) := cell_of_row wr p 0 _ _ _ hu.out.2.1.wd.blk
                by_cases hlt : j < N
                · have hlt' : (j : Int) < (N : Int) := by omega
                  have hj8 : j < 8 := by omega
                  obtain ⟨h1, h2, h3⟩ := hu.out
                  obtain ⟨ua, uc, rfl⟩ := own_form h1
                  have hl := oth_len j pt
                  by_cases hx : (j : Int) = pt
                  · have hx2 : ((j : Int) != pt) = false := by simp [hx]
                    have HU2 : Hid (wr.ownsRow 0 3 1 (.slice ua (oth j pt).length uc) (oth (j + 1) pt).length (its (oth (j + 1) pt)) ∧ LS (fun k => k = p ∨ Ug (.slice ad L.length cp) k) w p (N : Int) b7 b8 (.slice ad2 M2.length cp2) fa ta M2 wr ∧ ∀ k, Ug (.slice ua (oth j pt).length uc) k → w.heap.size ≤ k) := by
                      rw [oth_up, if_pos hx, List.append_nil]; exact ⟨h1, h2, h3⟩
                    clear hu h1 h2 h3 hx
                    go_wp2
                    go_roundw
                    case rel => exact ⟨j + 1, by omega, by go_num, HU2⟩
                    case measure => simp [intOf]; omega
                  · have hx2 : ((j : Int) != pt) = true := by simp [hx]
                    obtain ⟨i0, hi0, hz0, hz1, hz2⟩ := info_parts info_int'
                    have hb1 := (Below.refl wr.heap.size wr).alloc (Nat.le_refl _) (.cells #[.int .i64 (j : Int)] 3)
                    have HL := hid (own_only h1 (T := fun _ => False) (.ofBelow hb1) (fun _ _ z => z))
                    have HN : Hid (∀ k u, [Value.int .i64 (j : Int)][k]? = some u → (wr.alloc (.cells #[.int .i64 (j : Int)] 3)).cell? ((⟨wr.heap.size, 0, none⟩ : Addr).add k) = some u) := fun k u hk => by
                      rw [C.addr_add, Nat.zero_add, cell_of_row _ _ k _ _ _ (heap_alloc_new wr _)]
                      simpa using hk
                    have H2 := hid h2
                    have H3 := hid h3
                    have HX := hid hx
                    have HHL := hid hl
                    clear hu h1 h2 h3 hx hb1 hl
                    generalize hLn : (oth j pt).length = ln at *
                    have HLn := hid hLn
                    clear hLn
                    go_wp2_with (at_builtin; refine wpList_append_blk _ (.tmp 139) (.tmp 141) 22 rfl 3 i0 (.int .i64 0) 1 8 u_sint' hi0 hz0 hz1 hz2 rfl (by decide) (.slice ua ln uc) ln (its (oth j pt)) rfl HL.out ⟨wr.heap.size, 0, none⟩ 1 1 [.int .i64 (j : Int)] rfl rfl HN.out (by intro u hu; simp at hu; subst hu; rfl) (show ln + 1 ≤ 9223372036854775807 by have := HHL.out; omega) (by have := HHL.out; omega) rfl ?_; intro u' w3 hown hgrow hblk; obtain ⟨ua2, uc2, rfl⟩ := own_form hown; have HO3 := hid hown; have HG3 := hid hgrow; have HB3 := hid hblk; clear hown hgrow hblk)
                    go_roundw
                    case rel =>
                      refine ⟨j + 1, by omega, by go_num, ?_, ?_, ?_⟩
                      · have e1 := HO3.out
                        rw [its_app, ← HLn.out] at e1
                        rw [oth_up, if_neg HX.out]
                        rw [← HLn.out]
                        simpa using e1
                      · exact (H2.out.alloc _).only (grown_ug HG3.out) (fun k c t hk ht q => ht (own_int_ty HL.out q hk)) H3.out
                      · intro k hk
                        rcases HB3.out k hk with q | q
                        · exact H3.out k q
                        · have := H2.out.on.size
                          simp at q
                          omega
                    case measure => simp [intOf]; omega
                · have hge : ¬ (j : Int) < (N : Int) := by omega
                  have hj' : j = N := by omega
                  have HJ := hid hj'
                  clear hlt hj'
                  go_wp2
                  go_ret
                  refine ⟨_, rfl, ?_, _, by rw [← HM2.out]; exact hu.out.2.1.wd, hu.out.2.1.on, HF2.out⟩
                  rw [HSN.out, HS.out, ← HJ.out]
                  exact hu.out.1
      · have hd := HMAP.out false rfl (by simp)
        obtain ⟨v2, hv2⟩ : ∃ v2, v2 = Value.slice ad L.length cp := ⟨_, rfl⟩
        have HU2 : Hid (LS (fun k => k = p ∨ Ug (.slice ad L.length cp) k) w p (N : Int) b7 b8 v2 fa ta (dLrn L fa pt) wr) := by rw [hv2, hd]; exact HU
        clear HU
        have HU := HU2
        clear HU2
        have HF2 : Hid (∀ k, Ug v2 k → Ug (.slice ad L.length cp) k ∨ w.heap.size ≤ k) := hid (by rw [hv2]; exact fun k q => .inl q)
        clear hd hv2
        go_wp2
        obtain ⟨M2, hM2⟩ : ∃ M2, M2 = dLrn L fa pt := ⟨_, rfl⟩
        rw [← hM2] at HU
        have HM2 := hid hM2
        have HSN : Hid (snd (dLrn L fa pt) ta N pt = snd M2 ta N pt) := by rw [hM2]; exact hid rfl
        obtain ⟨ad2, cp2, hv2, hgl2⟩ : ∃ ad cp, v2 = .slice ad M2.length cp ∧ (0 < M2.length → ∃ g, ad = some ⟨g, 0, none⟩) := by
          rcases HU.out.wd.own.2 with ⟨h1, h2⟩ | ⟨g, cap, cur, h1, h2⟩
          · exact ⟨none, 0, by rw [h1, h2], fun q => absurd h2 (by omega)⟩
          · exact ⟨_, cap, h1, fun _ => ⟨g, rfl⟩⟩
        have hl33 : M2.length ≤ 33 := by rw [hM2]; exact Nat.le_trans (dLrn_len L fa pt) (by omega)
        subst hv2
        have HGL2 := hid hgl2
        clear hgl2 hM2
        go_loopw [11] (fun i wr => ∃ j : Nat, j ≤ M2.length ∧ i = .int .i64 j ∧ Hid (∀ (k : Nat) (x : Ad × Int), k < j → M2[k]? = some x → x.1 ≠ ta) ∧ Hid (LS (fun k => k = p ∨ Ug (.slice ad L.length cp) k) w p (N : Int) b7 b8 (.slice ad2 M2.length cp2) fa ta M2 wr)) (fun i _ => M2.length - (intOf i).toNat)
        case atStart => exact ⟨0, Nat.zero_le _, rfl, fun k x hk => absurd hk (by omega), HU.out⟩
        case round =>
          obtain ⟨j, hj, rfl, hno, hu⟩ := hrel
          have c1 : wr.cell? ⟨p, 1, none⟩ = some (.slice ad2 M2.length cp2) := cell_of_row wr p 1 _ _ _ hu.out.wd.blk
          have c0 : wr.cell? ⟨p, 0, none⟩ = some (.int .i64 N) := cell_of_row wr p 0 _ _ _ hu.out.wd.blk
          by_cases hlt : j < M2.length
          · have hlt' : (j : Int) < (M2.length : Int) := by omega
            obtain ⟨g, rfl⟩ := HGL2.out (by omega)
            obtain ⟨x, hx⟩ : ∃ x, M2[j]? = some x := ⟨M2[j], by simp [hlt]⟩
            have hw := hu.out.wd
            obtain ⟨e0, e1, e2, e3, e4, e5, e6, ez⟩ := hw.at rfl j x hx
            have f0 := cell_of_row wr b8 0 _ _ _ hu.out.h8
            have f1 := cell_of_row wr b8 1 _ _ _ hu.out.h8
            have f2 := cell_of_row wr b8 2 _ _ _ hu.out.h8
            have f3 := cell_of_row wr b8 3 _ _ _ hu.out.h8
            have f4 := cell_of_row wr b8 4 _ _ _ hu.out.h8
            have f5 := cell_of_row wr b8 5 _ _ _ hu.out.h8
            simp [kA] at f0 f1 f2 f3 f4 f5
            have hq := fun w : World => run_eq6 x.1 ta w
            simp only [kA] at hq
            have HX := hid hx
            clear hw hx
            by_cases hxe : x.1 = ta
            · simp only [decide_eq_true hxe] at hq
              have hs : snd M2 ta N pt = bif x.2 == pt then [] else [x.2] := by
                have hf := fA_first ta x.2 M2 0 j hno.out (by rw [HX.out, ← hxe])
                unfold snd kn
                rw [hf]
                rfl
              have HS := hid hs
              clear hxe hs
              by_cases hpe : x.2 = pt
              · have hs := HS.out
                rw [hpe, show (pt == pt) = true by simp, cond_true] at hs
                have HS2 := hid hs
                have hpb : (x.2 == pt) = true := by simp [hpe]
                clear hs HS hpe
                go_wp2
                go_quiet (fail)
                go_wp2_with fail
                go_ret
                refine ⟨_, _, rfl, ?_, by rw [← HM2.out]; exact (hu.out.dn _).wd, (hu.out.dn _).on, HF2.out⟩
                rw [HSN.out, HS2.out]
                exact own_nil _ _ _
              · have hs := HS.out
                rw [show (x.2 == pt) = false by simp [hpe], cond_false] at hs
                have HS2 := hid hs
                have hpb : (x.2 == pt) = false := by simp [hpe]
                clear hs HS hpe
                go_wp2
                go_quiet (fail)
                go_wp2_with fail
                go_ret
                refine ⟨_, _, rfl, ?_, by rw [← HM2.out]; exact ((hu.out.dn _).alloc _).wd, ((hu.out.dn _).alloc _).on, HF2.out⟩
                rw [HSN.out, HS2.out]
                exact own_lit1 _ (.int .i64 x.2) 3
            · simp only [decide_eq_false hxe] at hq
              have HXE := hid hxe
              clear hxe
              go_wp2
              go_quiet (fail)
              go_wp2_with fail
              go_roundw
              case rel =>
                refine ⟨j + 1, by omega, by go_num, ?_, hu.out.dn _⟩
                intro k y hk hy
                by_cases e : k = j
                · subst e
                  rw [HX.out] at hy
                  cases hy
                  exact HXE.out
                · exact hno.out k y (by omega) hy
              case measure => simp [intOf]; omega
          · have hge : ¬ (j : Int) < (M2.length : Int) := by omega
            have hj' : j = M2.length := by omega
            have hs : snd M2 ta N pt = oth N pt := by
              unfold snd kn
              rw [fA_none ta M2 0 fun k x hx => hno.out k x (by have := (List.getElem?_eq_some_iff.1 hx).1; omega) hx]
              rfl
            have HS := hid hs
            clear hs hlt hj' hno HU
            go_wp2
            go_loopw [12, 13] (fun u i wr => ∃ j : Nat, j ≤ N ∧ i = .int .i64 j ∧ Hid (wr.ownsRow 0 3 1 u (oth j pt).length (its (oth j pt)) ∧ LS (fun k => k = p ∨ Ug (.slice ad L.length cp) k) w p (N : Int) b7 b8 (.slice ad2 M2.length cp2) fa ta M2 wr ∧ ∀ k, Ug u k → w.heap.size ≤ k)) (fun _ i _ => N - (intOf i).toNat)
            case atStart => exact ⟨0, by omega, rfl, own_nil _ _ _, hu.out, fun k hk => by cases hk⟩
            case round =>
              clear hu hge hj c0 c1
              obtain ⟨j, hj, rfl, hu⟩ := hrel
              have c0 : wr.cell? ⟨p, 0, none⟩ = some (.int .i64 N) := cell_of_row wr p 0 _ _ _ hu.out.2.1.wd.blk
              by_cases hlt : j < N
              · have hlt' : (j : Int) < (N : Int) := by omega
                have hj8 : j < 8 := by omega
                obtain ⟨h1, h2, h3⟩ := hu.out
                obtain ⟨ua, uc, rfl⟩ := own_form h1
                have hl := oth_len j pt
                by_cases hx : (j : Int) = pt
                · have hx2 : ((j : Int) != pt) = false := by simp [hx]
                  have HU2 : Hid (wr.ownsRow 0 3 1 (.slice ua (oth j pt).length uc) (oth (j + 1) pt).length (its (oth (j + 1) pt)) ∧ LS (fun k => k = p ∨ Ug (.slice ad L.length cp) k) w p (N : Int) b7 b8 (.slice ad2 M2.length cp2) fa ta M2 wr ∧ ∀ k, Ug (.slice ua (oth j pt).length uc) k → w.heap.size ≤ k) := by
                    rw [oth_up, if_pos hx, List.append_nil]; exact ⟨h1, h2, h3⟩
                  clear hu h1 h2 h3 hx
                  go_wp2
                  go_roundw
                  case rel => exact ⟨j + 1, by omega, by go_num, HU2⟩
                  case measure => simp [intOf]; omega
                · have hx2 : ((j : Int) != pt) = true := by simp [hx]
                  obtain ⟨i0, hi0, hz0, hz1, hz2⟩ := info_parts info_int'
                  have hb1 := (Below.refl wr.heap.size wr).alloc (Nat.le_refl _) (.cells #[.int .i64 (j : Int)] 3)
                  have HL := hid (own_only h1 (T := fun _ => False) (.ofBelow hb1) (fun _ _ z => z))
                  have HN : Hid (∀ k u, [Value.int .i64 (j : Int)][k]? = some u → (wr.alloc (.cells #[.int .i64 (j : Int)] 3)).cell? ((⟨wr.heap.size, 0, none⟩ : Addr).add k) = some u) := fun k u hk => by
                    rw [C.addr_add, Nat.zero_add, cell_of_row _ _ k _ _ _ (heap_alloc_new wr _)]
                    simpa using hk
                  have H2 := hid h2
                  have H3 := hid h3
                  have HX := hid hx
                  have HHL := hid hl
                  clear hu h1 h2 h3 hx hb1 hl
                  generalize hLn : (oth j pt).length = ln at *
                  have HLn := hid hLn
                  clear hLn
                  go_wp2_with (at_builtin; refine wpList_append_blk _ (.tmp 139) (.tmp 141) 22 rfl 3 i0 (.int .i64 0) 1 8 u_sint' hi0 hz0 hz1 hz2 rfl (by decide) (.slice ua ln uc) ln (its (oth j pt)) rfl HL.out ⟨wr.heap.size, 0, none⟩ 1 1 [.int .i64 (j : Int)] rfl rfl HN.out (by intro u hu; simp at hu; subst hu; rfl) (show ln + 1 ≤ 9223372036854775807 by have := HHL.out; omega) (by have := HHL.out; omega) rfl ?_; intro u' w3 hown hgrow hblk; obtain ⟨ua2, uc2, rfl⟩ := own_form hown; have HO3 := hid hown; have HG3 := hid hgrow; have HB3 := hid hblk; clear hown hgrow hblk)
                  go_roundw
                  case rel =>
                    refine ⟨j + 1, by omega, by go_num, ?_, ?_, ?_⟩
                    · have e1 := HO3.out
                      rw [its_app, ← HLn.out] at e1
                      rw [oth_up, if_neg HX.out]
                      rw [← HLn.out]
                      simpa using e1
                    · exact (H2.out.alloc _).only (grown_ug HG3.out) (fun k c t hk ht q => ht (own_int_ty HL.out q hk)) H3.out
                    · intro k hk
                      rcases HB3.out k hk with q | q
                      · exact H3.out k q
                      · have := H2.out.on.size
                        simp at q
                        omega
                  case measure => simp [intOf]; omega
              · have hge : ¬ (j : Int) < (N : Int) := by omega
                have hj' : j = N := by omega
                have HJ := hid hj'
                clear hlt hj'
                go_wp2
                go_ret
                refine ⟨_, rfl, ?_, _, by rw [← HM2.out]; exact hu.out.2.1.wd, hu.out.2.1.on, HF2.out⟩
                rw [HSN.out, HS.out, ← HJ.out]
                exact hu.out.1
end Go.Proofs.Ytpppljlfljoccaa
namespace Go.Proofs.Ytpppljlfljoccaa
open Go.RowKit Go.MapKept
open C (Only hid Still ret_bool ret_int row)
set_option linter.unusedVariables false
set_option maxRecDepth 100000

theorem own_cellI {w : World} {l : List Int} {ad : Option Addr} {n c : Nat} (h : w.ownsRow 0 3 1 (.slice ad n c) l.length (its l)) {i : Nat} (hi : i < l.length) : ∃ b x, ad = some ⟨b, 0, none⟩ ∧ l[i]? = some x ∧ w.cell? ⟨b, i, none⟩ = some (.int .i64 x) := by
  rcases h.2 with ⟨q, e⟩ | ⟨g, cap, cur, hv, hb, hg, h1, h2, h3, h4⟩
  · omega
  · cases hv
    obtain ⟨x, hx⟩ : ∃ x, l[i]? = some x := ⟨l[i], List.getElem?_eq_getElem hi⟩
    refine ⟨g, x, rfl, hx, ?_⟩
    rw [cell_of_row w g i _ _ _ hg]
    have : (its l)[i]? = some (.int .i64 x) := by unfold its; rw [List.getElem?_map, hx]; rfl
    rw [← h4, List.getElem?_take_of_lt (by omega)] at this
    simpa using this
set_option maxHeartbeats 1000000 in
theorem k_SameInts (w : World) (l : List Int) (hl : l.length ≤ 16) (ua ub : Value) (h1 : w.ownsRow 0 3 1 ua l.length (its l)) (h2 : w.ownsRow 0 3 1 ub l.length (its l)) : Calls Try.prog 7 #[ua, ub] w fun r w' => r = .returned (.bool true) ∧ Still w w' := by
  obtain ⟨ad, cp, rfl⟩ := own_form h1
  obtain ⟨ad2, cp2, rfl⟩ := own_form h2
  have H1 := hid h1
  have H2 := hid h2
  clear h1 h2
  go_enter Try.func7, Try.ntmps7
  go_wp2_with fail
  go_loopw [5] (fun i wr => ∃ j : Nat, j ≤ l.length ∧ i = .int .i64 j ∧ Still w wr) (fun i _ => l.length - (intOf i).toNat)
  case atStart => exact ⟨0, by omega, rfl, .refl w⟩
  case round =>
    obtain ⟨j, hj, rfl, hst⟩ := hrel
    have HS := hid hst
    have HC := hid hst.cell
    clear hst
    by_cases hlt : j < l.length
    · obtain ⟨b, x, rfl, hx, c1⟩ := own_cellI H1.out hlt
      obtain ⟨b2, x2, rfl, hx2, c2⟩ := own_cellI H2.out hlt
      obtain rfl : x = x2 := by rw [hx] at hx2; exact Option.some.inj hx2
      rw [← HC.out] at c1 c2
      clear hx hx2
      go_wp2_with fail
      go_region
      go_wp2_with fail
      go_roundw
      case rel => exact ⟨j + 1, by omega, by go_num, HS.out.drew⟩
      case measure => first | (simp [intOf]; done) | (simp [intOf]; omega)
    · go_wp2_with fail
      go_ret
      exact ⟨rfl, HS.out⟩
/-- both switches, over one list -/
structure S2 (w0 : World) (N : Nat) (s M p : Nat) (v : Value) (L : List (Ad × Int)) (w : World) : Prop where
  k : Sw w s M (N : Int) L
  d : Wd w p (N : Int) v L
  ok : LOk L
  le : L.length ≤ 32
  bel : Below w0.heap.size w0 w
  bs : w0.heap.size ≤ s ∧ w0.heap.size ≤ M ∧ w0.heap.size ≤ p ∧ ∀ k, Ug v k → w0.heap.size ≤ k
theorem snd_len (L : List (Ad × Int)) (a : Ad) (N : Nat) (x : Int) (h : N ≤ 8) : (snd L a N x).length ≤ 8 := by
  unfold snd
  cases kn L a
  · exact Nat.le_trans (oth_len N x) h
  · cases (((fA a L 0).map (·.2)).getD 0 == x) <;> simp
theorem S2.drew {w0 w : World} {N s M p : Nat} {v : Value} {L : List (Ad × Int)} (h : S2 w0 N s M p v L w) : S2 w0 N s M p v L w.drew := ⟨⟨h.k.blk, h.k.mp⟩, ⟨h.d.blk, h.d.own.drew⟩, h.ok, h.le, h.bel.drew, h.bs⟩
theorem S2.below {w0 w w' : World} {N s M p : Nat} {v : Value} {L : List (Ad × Int)} (h : S2 w0 N s M p v L w) (hb : Below w.heap.size w w') : S2 w0 N s M p v L w' := ⟨h.k.below hb, h.d.below hb, h.ok, h.le, h.bel.trans (hb.mono h.bel.size), h.bs⟩
end Go.Proofs.Ytpppljlfljoccaa
namespace Go.Proofs.Ytpppljlfljoccaa
open Go.RowKit Go.MapKept
open C (Only hid Still ret_bool ret_int row)
set_option linter.unusedVariables false
set_option maxRecDepth 100000

/-- a frame: where it lies, what it holds -/
structure Fv where
  ad : Option Addr
  n : Nat
  c : Nat
  b : Nat
  o : Nat
  A : Nat → Int
def Fv.v (f : Fv) : Value := .slice f.ad f.n f.c
def Fv.l (f : Fv) : List Int := (List.range f.n).map f.A
theorem Fv.len (f : Fv) : f.l.length = f.n := by simp [Fv.l]
theorem Fv.row (f : Fv) : row f.A 0 f.n = bys f.l := by
  unfold C.row bys Fv.l
  rw [List.map_map]
  apply List.map_congr_left
  intro j hj
  simp
structure FOk (w : World) (f : Fv) : Prop where
  len : f.n ≤ f.c
  nil : f.ad = none → f.n = 0 ∧ f.c = 0
  at0 : 0 < f.n → f.ad = some ⟨f.b, f.o, none⟩ ∧ f.b < w.heap.size
  cell : ∀ i, i < f.n → w.cell? ⟨f.b, f.o + i, none⟩ = some (.int .u8 (f.A i))
  num : ∀ i, 0 ≤ f.A i ∧ f.A i < 256
theorem FOk.below {w w' : World} {f : Fv} (h : FOk w f) (hb : Below w.heap.size w w') : FOk w' f :=
  ⟨h.len, h.nil, fun q => ⟨(h.at0 q).1, Nat.lt_of_lt_of_le (h.at0 q).2 hb.size⟩, fun i hi => by
    rw [← h.cell i hi]; exact Below.cell hb (p := ⟨f.b, f.o + i, none⟩) (h.at0 (by omega)).2, h.num⟩
theorem FOk.nums {w : World} {f : Fv} (h : FOk w f) : ∀ y ∈ f.l, 0 ≤ y ∧ y < 256 := by
  intro y hy
  simp only [Fv.l, List.mem_map] at hy
  obtain ⟨i, -, rfl⟩ := hy
  exact h.num i
theorem FOk.copy {w : World} {f : Fv} (h : FOk w f) (hm : f.n ≤ 140737488355328) : Calls Try.prog 9 #[f.v] w fun e w' => ∃ u, e = .returned u ∧ w'.ownsRow 0 5 1 u f.l.length (bys f.l) ∧ Below w.heap.size w w' := by
  refine (C.c_CopyBytes w f.ad f.n f.c f.A ⟨f.b, f.o, none⟩ hm h.nil fun q => ⟨(h.at0 q).1, (h.at0 q).2, fun j hj => ?_⟩).mono ?_
  · rw [C.addr_add]; exact h.cell j hj
  · rintro e w' ⟨u, rfl, ho, hb⟩
    refine ⟨u, rfl, ?_, hb⟩
    rw [f.len, ← f.row]
    exact ⟨ho.1, by
      rcases ho.2 with z | ⟨g, cap, cur, h1, h2, h3⟩
      · exact .inl z
      · exact .inr ⟨g, cap, cur, h1, Nat.zero_le _, h3⟩⟩
/-- frames that are handed in -/
structure FsA (w : World) (ad : Option Addr) (la cap ab ao : Nat) (F : Nat → Fv) : Prop where
  len : la ≤ cap
  capB : cap ≤ 9223372036854775807
  at0 : 0 < la → ad = some ⟨ab, ao, none⟩ ∧ ab < w.heap.size
  cell : ∀ i, i < la → w.cell? ⟨ab, ao + i, none⟩ = some ((F i).v)
  each : ∀ i, i < la → FOk w (F i)
structure IsA (w : World) (ad : Option Addr) (la cap ab ao : Nat) (A : Nat → Int) : Prop where
  len : la ≤ cap
  capB : cap ≤ 9223372036854775807
  at0 : 0 < la → ad = some ⟨ab, ao, none⟩ ∧ ab < w.heap.size
  cell : ∀ i, i < la → w.cell? ⟨ab, ao + i, none⟩ = some (.int .i64 (A i))
def goes (N : Nat) (pt : Int) (n : Nat) : Bool := decide (0 ≤ pt ∧ pt < (N : Int) ∧ 14 ≤ n)
/-- what a switch knows behind a frame, and where that goes -/
def L1 (L : List (Ad × Int)) (fl : List Int) (N : Nat) (pt : Int) : List (Ad × Int) := bif goes N pt fl.length then lrn L (ad6 fl 6) pt else L
def R1 (L : List (Ad × Int)) (fl : List Int) (N : Nat) (pt : Int) : List Int := bif goes N pt fl.length then snd (lrn L (ad6 fl 6) pt) (ad6 fl 0) N pt else []
theorem R1_len (L : List (Ad × Int)) (fl : List Int) (N : Nat) (pt : Int) (h : N ≤ 8) : (R1 L fl N pt).length ≤ 16 := by
  unfold R1
  cases goes N pt fl.length
  · simp
  · exact Nat.le_trans (snd_len _ _ N pt h) (by decide)
theorem k_SendA (w : World) (p M N : Nat) (L : List (Ad × Int)) (h : Sw w p M (N : Int) L) (hN : N ≤ 8) (pt : Int) (fv : Value) (fl : List Int) (hf : w.ownsRow 0 5 1 fv fl.length (bys fl)) (hb : ∀ y ∈ fl, 0 ≤ y ∧ y < 256) (hmx : fl.length ≤ 140737488355328) :
    Calls Try.prog 8 #[.pointer (some ⟨p, 0, none⟩), .int .i64 pt, fv] w fun r w' => ∃ u, r = .returned u ∧ w'.ownsRow 0 3 1 u (R1 L fl N pt).length (its (R1 L fl N pt)) ∧ Sw w' p M (N : Int) (L1 L fl N pt) ∧ Only (· = M) w w' := by
  by_cases hr : 0 ≤ pt ∧ pt < (N : Int) ∧ 14 ≤ fl.length
  · have e : goes N pt fl.length = true := decide_eq_true hr
    unfold R1 L1
    rw [e]
    exact k_Send w p M N L h hN pt hr.1 hr.2.1 fv fl hf hb hr.2.2 hmx
  · have e : goes N pt fl.length = false := decide_eq_false hr
    unfold R1 L1
    rw [e]
    obtain ⟨ad, c, rfl⟩ := own_form hf
    refine (k_Send_no w p M N L h pt ad fl.length c hr).mono ?_
    rintro r w' ⟨rfl, rfl⟩
    exact ⟨_, rfl, own_nil _ _ _, h, .refl _⟩
theorem fl_get (f : Fv) (j : Nat) (hj : j < f.n) : f.l.getD j 0 = f.A j := by
  simp [Fv.l, List.getD, hj]
theorem d_SendA (w : World) (p N : Nat) (hN : N ≤ 8) (v : Value) (L : List (Ad × Int)) (h : Wd w p (N : Int) v L) (ok : LOk L) (h32 : L.length ≤ 32) (pt : Int) (f : Fv) (hf : FOk w f) :
    Calls Try.prog 10 #[.pointer (some ⟨p, 0, none⟩), .int .i64 pt, f.v] w fun r w' => ∃ u v', r = .returned u ∧ w'.ownsRow 0 3 1 u (R1 L f.l N pt).length (its (R1 L f.l N pt)) ∧ Wd w' p (N : Int) v' (L1 L f.l N pt) ∧ Only (fun k => k = p ∨ Ug v k) w w' ∧ ∀ k, Ug v' k → Ug v k ∨ w.heap.size ≤ k := by
  by_cases hr : 0 ≤ pt ∧ pt < (N : Int) ∧ 14 ≤ f.l.length
  · have e : goes N pt f.l.length = true := decide_eq_true hr
    unfold R1 L1
    rw [e]
    have hl := hr.2.2
    rw [f.len] at hl
    have had : f.v = .slice (some ⟨f.b, f.o, none⟩) f.n f.c := by unfold Fv.v; rw [(hf.at0 (by omega)).1]
    rw [had, ← dLrn_eq L ok]
    exact d_Send w p N hN v L h h32 pt hr.1 hr.2.1 f.b f.o f.n f.c f.l (fun j hj => by rw [fl_get f j hj]; exact hf.cell j hj) hf.nums f.len hl hf.len
  · have e : goes N pt f.l.length = false := decide_eq_false hr
    unfold R1 L1
    rw [e]
    rw [f.len] at hr
    refine (d_Send_no w p N v L h pt f.ad f.n f.c hr).mono ?_
    rintro r w' ⟨rfl, rfl⟩
    exact ⟨_, v, rfl, own_nil _ _ _, h, .refl _, fun k hk => .inl hk⟩
theorem L1_ok {L : List (Ad × Int)} (ok : LOk L) (h : L.length ≤ 32) (fl : List Int) (N : Nat) (pt : Int) : LOk (L1 L fl N pt) ∧ (L1 L fl N pt).length ≤ 32 := by
  unfold L1
  cases goes N pt fl.length
  · exact ⟨ok, h⟩
  · have := ok.lrn (ad6 fl 6) pt
    exact ⟨this.1, by have := this.2; simp only [cond_true]; omega⟩
/-- behind the program's switch, ahead of the document's -/
structure S3 (w0 : World) (N s M p : Nat) (v : Value) (L : List (Ad × Int)) (K : List (Ad × Int)) (u : Value) (R : List Int) (w : World) : Prop where
  k : Sw w s M (N : Int) K
  d : Wd w p (N : Int) v L
  ok : LOk L
  le : L.length ≤ 32
  bel : Below w0.heap.size w0 w
  bs : w0.heap.size ≤ s ∧ w0.heap.size ≤ M ∧ w0.heap.size ≤ p ∧ ∀ k, Ug v k → w0.heap.size ≤ k
  own : w.ownsRow 0 3 1 u R.length (its R)
section
variable {w0 w : World} {N s M p : Nat} {v : Value} {L : List (Ad × Int)}
theorem S2.toK (h : S2 w0 N s M p v L w) (hN : N ≤ 8) (pt : Int) (fv : Value) (fl : List Int) (hf : w.ownsRow 0 5 1 fv fl.length (bys fl)) (hb : ∀ y ∈ fl, 0 ≤ y ∧ y < 256) (hmx : fl.length ≤ 140737488355328) :
    Calls Try.prog 8 #[.pointer (some ⟨s, 0, none⟩), .int .i64 pt, fv] w fun r w' => ∃ u, r = .returned u ∧ S3 w0 N s M p v L (L1 L fl N pt) u (R1 L fl N pt) w' := by
  refine (k_SendA w s M N L h.k hN pt fv fl hf hb hmx).mono ?_
  rintro r w' ⟨u, rfl, q1, q2, q3⟩
  obtain ⟨-, es, c, hm, -⟩ := h.k
  refine ⟨u, rfl, q2, h.d.only q3 (fun e => ?_) (fun k hk e => ?_), h.ok, h.le, h.bel.trans (q3.below _ h.bel.size fun j hj => by have := h.bs.2.1; omega), h.bs, q1⟩
  · have := h.d.blk; rw [e, hm] at this; simp at this
  · obtain ⟨cur, hc⟩ := mac_cells h.d.own hk; rw [e, hm] at hc; simp at hc
theorem S3.toD {K : List (Ad × Int)} {u : Value} {R : List Int} (h : S3 w0 N s M p v L K u R w) (hN : N ≤ 8) (pt : Int) (f : Fv) (hf : FOk w f) (hK : K = L1 L f.l N pt) (hR : R = R1 L f.l N pt) :
    Calls Try.prog 10 #[.pointer (some ⟨p, 0, none⟩), .int .i64 pt, f.v] w fun r w' => ∃ u2 v', r = .returned u2 ∧ S2 w0 N s M p v' K w' ∧ w'.ownsRow 0 3 1 u R.length (its R) ∧ w'.ownsRow 0 3 1 u2 R.length (its R) := by
  refine (d_SendA w p N hN v L h.d h.ok h.le pt f hf).mono ?_
  rintro r w' ⟨u2, v', rfl, q1, q2, q3, q4⟩
  rw [← hK] at q2
  rw [← hR] at q1
  have hK2 := L1_ok h.ok h.le f.l N pt
  rw [← hK] at hK2
  obtain ⟨b1, b2, b3, b4⟩ := h.bs
  obtain ⟨hs, es, c, hm, -⟩ := h.k
  have n1 : ∀ k, (k = p ∨ Ug v k) → ∃ cur t, w.heap[k]? = some (.cells cur t (0, 0)) ∧ (t = 39 ∨ t = 57) := by
    rintro k (rfl | hk)
    · exact ⟨_, _, h.d.blk, .inl rfl⟩
    · obtain ⟨cur, hc⟩ := mac_cells h.d.own hk
      exact ⟨cur, _, hc, .inr rfl⟩
  refine ⟨u2, v', rfl, ⟨h.k.only q3 (fun e => ?_) (fun e => ?_), q2, hK2.1, hK2.2, h.bel.trans (q3.below _ h.bel.size fun j hj => ?_), b1, b2, b3, fun k hk => ?_⟩, own_only h.own q3 (fun k hk e => ?_), q1⟩
  · obtain ⟨cur, t, hc, ht⟩ := n1 s e
    rw [hs] at hc
    cases hc
    rcases ht with ht | ht <;> exact absurd ht (by decide)
  · obtain ⟨cur, t, hc, ht⟩ := n1 M e
    rw [hm] at hc
    cases hc
  · rcases hj with rfl | hj
    · exact b3
    · exact b4 _ hj
  · rcases q4 k hk with z | z
    · exact b4 k z
    · have := h.bel.size; omega
  · obtain ⟨cur, t, hc, ht⟩ := n1 k e
    have := own_int_ty h.own hk hc
    subst this
    rcases ht with ht | ht <;> exact absurd ht (by decide)
theorem S2.still (h : S2 w0 N s M p v L w) {w' : World} (hs : Still w w') : S2 w0 N s M p v L w' := h.below (hs.below _)
abbrev AW := Value × Value × Value × Value
/-- where a round stands: the copy, both answers, the document's list -/
def MW (w0 : World) (N s M p : Nat) (L K : List (Ad × Int)) (fl R : List Int) : Nat → AW → World → Prop
  | 0, x, w => S2 w0 N s M p x.2.2.2 L w
  | 1, x, w => S2 w0 N s M p x.2.2.2 L w ∧ w.ownsRow 0 5 1 x.1 fl.length (bys fl)
  | 2, x, w => S3 w0 N s M p x.2.2.2 L K x.2.1 R w
  | 3, x, w => S2 w0 N s M p x.2.2.2 K w ∧ w.ownsRow 0 3 1 x.2.1 R.length (its R) ∧ w.ownsRow 0 3 1 x.2.2.1 R.length (its R)
  | _, x, w => S2 w0 N s M p x.2.2.2 K w
theorem MW.bel {K : List (Ad × Int)} {fl R : List Int} {t : Nat} {x : AW} {w : World} (h : MW w0 N s M p L K fl R t x w) : Below w0.heap.size w0 w := by
  match t, h with
  | 0, h => exact S2.bel h
  | 1, h => exact S2.bel h.1
  | 2, h => exact S3.bel h
  | 3, h => exact S2.bel h.1
  | t + 4, h => exact S2.bel h
theorem MW.fin {K : List (Ad × Int)} {fl R : List Int} {t : Nat} {x : AW} {w : World} (h : MW w0 N s M p L K fl R t x w) (ht : 3 < t) : S2 w0 N s M p x.2.2.2 K w := by
  match t, h with
  | t + 4, h => exact h
theorem S2.form (h : S2 w0 N s M p v L w) : ∃ ad c, v = .slice ad L.length c := by
  rcases h.d.own.2 with ⟨h1, h2⟩ | ⟨g, cap, cur, h1, h2⟩
  · exact ⟨none, 0, by rw [h1, h2]⟩
  · exact ⟨_, cap, h1⟩
theorem IsA.at {w' : World} {ad : Option Addr} {la cap ab ao : Nat} {A : Nat → Int} (h : IsA w0 ad la cap ab ao A) (hb : Below w0.heap.size w0 w') (i : Nat) (hi : i < la) : w'.cell? ⟨ab, ao + i, none⟩ = some (.int .i64 (A i)) := by
  rw [← h.cell i hi]; exact Below.cell hb (p := ⟨ab, ao + i, none⟩) (h.at0 (by omega)).2
theorem FsA.at {w' : World} {ad : Option Addr} {la cap ab ao : Nat} {F : Nat → Fv} (h : FsA w0 ad la cap ab ao F) (hb : Below w0.heap.size w0 w') (i : Nat) (hi : i < la) : w'.cell? ⟨ab, ao + i, none⟩ = some ((F i).v) := by
  rw [← h.cell i hi]; exact Below.cell hb (p := ⟨ab, ao + i, none⟩) (h.at0 (by omega)).2
end
theorem wp_c1t {P : Program} {ops : Array Oper} {Q : Exit → Act → World → Prop} {i : Nat} {o : Oper} {K : Act → World → Prop} {a : Act} {w : World} (ho : ops[i]? = some o) (hw : Region.wanted o (yielded ops a.tmps) = true) (f : FuncId) (x : Operand) (ts : Array TypeId) (hop : o.op = .call { callee := .value (.func f), args := #[x], argTypes := ts }) (vx : Value) (hx : a.eval x = vx) (hnf : (callFunc f #[vx]).run P w = .ok (.enter f #[vx]) w) {R : Ending → World → Prop} (hc : Calls P f #[vx] w R)
    (h : ∀ e w', R e w' → ∃ v, e = .returned v ∧ K (a.put o.dst v) w') : wpOp P ops Q i K a w := by
  refine wpOp_step ho fun K' hK => ?_
  rw [if_pos hw]
  have he : (execOp a.eval o).run P w = .ok (.enter f #[vx]) w := by
    have hf : a.eval (.func f) = .func (.func f) #[] #[] := rfl
    simp [execOp, hop, resolve, invoke, Deferred.ofValue, hf, hx, hnf]
  unfold Oper.wp
  rw [he, Oper.upon_enter]
  refine hc.mono fun e w' hR => ?_
  obtain ⟨v, rfl, hk⟩ := h e w' hR
  exact hK _ _ hk
theorem wp_c2t {P : Program} {ops : Array Oper} {Q : Exit → Act → World → Prop} {i : Nat} {o : Oper} {K : Act → World → Prop} {a : Act} {w : World} (ho : ops[i]? = some o) (hw : Region.wanted o (yielded ops a.tmps) = true) (f : FuncId) (x y : Operand) (ts : Array TypeId) (hop : o.op = .call { callee := .value (.func f), args := #[x, y], argTypes := ts }) (vx vy : Value) (hx : a.eval x = vx) (hy : a.eval y = vy) (hnf : (callFunc f #[vx, vy]).run P w = .ok (.enter f #[vx, vy]) w) {R : Ending → World → Prop} (hc : Calls P f #[vx, vy] w R)
    (h : ∀ e w', R e w' → ∃ v, e = .returned v ∧ K (a.put o.dst v) w') : wpOp P ops Q i K a w := by
  refine wpOp_step ho fun K' hK => ?_
  rw [if_pos hw]
  have he : (execOp a.eval o).run P w = .ok (.enter f #[vx, vy]) w := by
    have hf : a.eval (.func f) = .func (.func f) #[] #[] := rfl
    simp [execOp, hop, resolve, invoke, Deferred.ofValue, hf, hx, hy, hnf]
  unfold Oper.wp
  rw [he, Oper.upon_enter]
  refine hc.mono fun e w' hR => ?_
  obtain ⟨v, rfl, hk⟩ := h e w' hR
  exact hK _ _ hk
theorem wp_c3t {P : Program} {ops : Array Oper} {Q : Exit → Act → World → Prop} {i : Nat} {o : Oper} {K : Act → World → Prop} {a : Act} {w : World} (ho : ops[i]? = some o) (hw : Region.wanted o (yielded ops a.tmps) = true) (f : FuncId) (x y z : Operand) (ts : Array TypeId) (hop : o.op = .call { callee := .value (.func f), args := #[x, y, z], argTypes := ts }) (vx vy vz : Value) (hx : a.eval x = vx) (hy : a.eval y = vy) (hz : a.eval z = vz) (hnf : (callFunc f #[vx, vy, vz]).run P w = .ok (.enter f #[vx, vy, vz]) w) {R : Ending → World → Prop} (hc : Calls P f #[vx, vy, vz] w R)
    (h : ∀ e w', R e w' → ∃ v, e = .returned v ∧ K (a.put o.dst v) w') : wpOp P ops Q i K a w := by
  refine wpOp_step ho fun K' hK => ?_
  rw [if_pos hw]
  have he : (execOp a.eval o).run P w = .ok (.enter f #[vx, vy, vz]) w := by
    have hf : a.eval (.func f) = .func (.func f) #[] #[] := rfl
    simp [execOp, hop, resolve, invoke, Deferred.ofValue, hf, hx, hy, hz, hnf]
  unfold Oper.wp
  rw [he, Oper.upon_enter]
  refine hc.mono fun e w' hR => ?_
  obtain ⟨v, rfl, hk⟩ := h e w' hR
  exact hK _ _ hk
end Go.Proofs.Ytpppljlfljoccaa
namespace Go.Proofs.Ytpppljlfljoccaa
open Go.RowKit Go.MapKept
open C (Only hid Still ret_bool ret_int row)
set_option linter.unusedVariables false
set_option maxRecDepth 100000

def vtW (s p ab ao la cap ab2 ao2 la2 cap2 j : Nat) (pt : Int) (f : Fv) (K : List (Ad × Int)) (c u1 u2 v : Value) : Nat → Value := fun dd => if dd = 47 then .pointer (some ⟨s, 0, none⟩) else if dd = 48 then .slice (some ⟨ab, ao, none⟩) la cap else if dd = 49 then .int .i64 (j : Int) else if dd = 50 then .pointer (some ⟨ab, ao + j, none⟩) else if dd = 51 then .int .i64 pt else if dd = 52 then .slice (some ⟨ab2, ao2, none⟩) la2 cap2 else if dd = 53 then .int .i64 (j : Int) else if dd = 54 then .pointer (some ⟨ab2, ao2 + j, none⟩) else if dd = 55 then f.v else if dd = 56 then c else if dd = 57 then u1 else if dd = 58 then .pointer (some ⟨p, 0, none⟩) else if dd = 59 then .slice (some ⟨ab, ao, none⟩) la cap else if dd = 60 then .int .i64 (j : Int) else if dd = 61 then .pointer (some ⟨ab, ao + j, none⟩) else if dd = 62 then .int .i64 pt else if dd = 63 then .slice (some ⟨ab2, ao2, none⟩) la2 cap2 else if dd = 64 then .int .i64 (j : Int) else if dd = 65 then .pointer (some ⟨ab2, ao2 + j, none⟩) else if dd = 66 then f.v else if dd = 67 then u2 else if dd = 68 then .bool true else if dd = 69 then .bool false else if dd = 70 then .bool false else if dd = 71 then .pointer (some ⟨s, 0, none⟩) else if dd = 72 then .int .i64 (K.length : Int) else if dd = 73 then .pointer (some ⟨p, 0, none⟩) else if dd = 74 then .pointer (some ⟨p, 0, none⟩) else if dd = 75 then .pointer (some ⟨p, 1, none⟩) else if dd = 76 then v else if dd = 77 then .int .i64 (K.length : Int) else if dd = 78 then .bool false else if dd = 79 then .bool false else undef
set_option maxHeartbeats 4000000 in
theorem w_VirtdevSwitches (w : World) (ports : Int) (p0 : -9223372036854775808 ≤ ports) (p1 : ports ≤ 9223372036854775807) (ad : Option Addr) (la cap ab ao : Nat) (X : Nat → Int) (hX : IsA w ad la cap ab ao X) (ad2 : Option Addr) (la2 cap2 ab2 ao2 : Nat) (F : Nat → Fv) (hF : FsA w ad2 la2 cap2 ab2 ao2 F) (hmx : ∀ (a : Addr) (i : Nat) (e : Option Addr) (n c : Nat), ad2 = some a → i < la2 → w.cell? (a.add i) = some (.slice e n c) → n ≤ 140737488355328) :
    Calls Try.prog 3 #[.int .i64 ports, .slice ad la cap, .slice ad2 la2 cap2] w fun e w' => e = .returned (.bool true) ∧ Below w.heap.size w w' := by
  have HX := hid hX
  have HF := hid hF
  have HMX := hid hmx
  have b1 := hX.len
  have b2 := hX.capB
  have b3 := hF.len
  have b4 := hF.capB
  clear hX hF hmx
  by_cases hp : 1 ≤ ports ∧ ports ≤ 8
  · obtain ⟨N, rfl⟩ : ∃ N : Nat, ports = (N : Int) := ⟨ports.toNat, by omega⟩
    have hN : N ≤ 8 := by omega
    have HN := hid hN
    have hp1 := hid hp.1
    have hp2 := hid hp.2
    clear p0 p1 hp hN
    go_enter Try.func3, Try.ntmps3
    go_wp2_with (first
      | (go_at_call 4; refine (k_NewSwitch w (N : Int) hp1.out hp2.out).mono ?_; rintro r w1 ⟨s, M, rfl, k1, k2, k3, k4⟩; have H1 := hid k1; have H2 := hid k2; have H3 := hid k3; have H4 := hid k4; clear k1 k2 k3 k4)
      | (go_at_call 5; refine (d_NewSwitch w1 (N : Int) hp1.out hp2.out).mono ?_; rintro r w2 ⟨p, rfl, k1, k2, k3⟩; have G1 := hid k1; have G2 := hid k2; have G3 := hid k3; clear k1 k2 k3))
    have HS : Hid (S2 w N s M p (.slice none 0 0) [] w2) := by
      have := H2.out.size
      exact ⟨H1.out.below G2.out, G1.out, LOk.nil, by decide, H2.out.trans (G2.out.mono H2.out.size), H3.out, H4.out, by have := G3.out; omega, fun k hk => by cases hk⟩
    clear H1 H2 H3 H4 G1 G2 G3
    go_loopw [11] (fun i wr => ∃ (j : Nat) (v : Value) (L : List (Ad × Int)), i = .int .i64 j ∧ j ≤ la ∧ j ≤ la2 ∧ Hid (S2 w N s M p v L wr)) (fun i _ => la2 - (intOf i).toNat)
    case atStart => exact ⟨0, _, _, rfl, Nat.zero_le _, Nat.zero_le _, HS⟩
    case round =>
      clear HS
      obtain ⟨j, v0, L, rfl, hj1, hj2, hS⟩ := hrel
      by_cases hlt : j < la2 ∧ j < la
      · obtain ⟨g1, g2⟩ := hlt
        have g1' : (j : Int) < (la2 : Int) := by omega
        have g2' : (j : Int) < (la : Int) := by omega
        obtain ⟨rfl, hab⟩ := HX.out.at0 (by omega)
        obtain ⟨rfl, hab2⟩ := HF.out.at0 (by omega)
        clear hab hab2
        go_upto_region 10 with fail
        obtain ⟨wa, hwa⟩ : ∃ wa, wa = wr.drew := ⟨_, rfl⟩
        obtain ⟨f, hf⟩ : ∃ f, f = F j := ⟨_, rfl⟩
        obtain ⟨pt, hpt⟩ : ∃ pt, pt = X j := ⟨_, rfl⟩
        obtain ⟨K, hK⟩ : ∃ K, K = L1 L f.l N pt := ⟨_, rfl⟩
        obtain ⟨R, hR⟩ : ∃ R, R = R1 L f.l N pt := ⟨_, rfl⟩
        have HS : Hid (MW w N s M p L K f.l R 0 (v0, v0, v0, v0) wa) := by rw [hwa]; exact hS.out.drew
        have HFO : Hid (FOk w f) := by rw [hf]; exact HF.out.each j g1
        have HFM : Hid (f.n ≤ 140737488355328) := by
          have hc := HF.out.cell j g1
          exact HMX.out _ j (F j).ad f.n (F j).c rfl g1 (by rw [C.addr_add, hc, hf]; rfl)
        have HFL : Hid (f.l.length ≤ 140737488355328) := by rw [f.len]; exact HFM.out
        have HRL : Hid (R.length ≤ 16) := by rw [hR]; exact R1_len _ _ _ _ HN.out
        have HLD : Hid (∀ (x : AW) (listed : Array Bool) w8, VS [9, 10, 20, 21] (MW w N s M p L K f.l R) x listed w8 → w8.cell? ⟨ab, ao + j, none⟩ = some (.int .i64 pt) ∧ w8.cell? ⟨ab2, ao2 + j, none⟩ = some f.v) := by
          rintro x listed w8 ⟨t, ht, hm⟩
          rw [hpt, hf]
          exact ⟨HX.out.at hm.bel j g2, HF.out.at hm.bel j g1⟩
        have HK := hid hK
        have HR := hid hR
        refine wp_region_any (by kernel_rfl) ?_
        rw [show ({ wr with drawn := wr.drawn + 1 } : World) = wa from hwa.symm]
        clear hwa hf hpt hK hR hS
        refine wpAny_fz (α := AW) (fun x => vtW s p ab ao la cap ab2 ao2 la2 cap2 j pt f K x.1 x.2.1 x.2.2.1 x.2.2.2) (fun x listed w8 => VS [9, 10, 20, 21] (MW w N s M p L K f.l R) x listed w8) ?step ?fin (v0, v0, v0, v0) ?start
        case start => exact .start HS.out
        case step =>
          rintro listed fr wr x hF hW hC i hj
          obtain ⟨hl, o, ho, he⟩ := mem_ready.1 hj
          have hjl : i < listed.size := by rw [hF.q.ls]; exact (Array.getElem?_eq_some_iff.1 ho).1
          have hl0 := getD_tf hjl hl
          clear hj
          have HFr := hid hF
          have HW := hid hW
          have HE := hid he
          have HC := hid hC
          clear hF hW he hl hC
          match i, ho with
          | 0, ho =>
            obtain rfl := Option.some.inj ho
            have e7 : fr.tmps[7]?.getD undef = .pointer (some ⟨s, 0, none⟩) := HFr.out.base 7 (by kernel_rfl) rfl
            exact wp_q rfl rfl (by simp [execOp, go_sem, e7]; try rfl) ⟨x, HFr.out.put (by kernel_rfl) rfl rfl rfl (of_decide_eq_true rfl), HW.out.q hjl (by decide)⟩
          | 1, ho =>
            obtain rfl := Option.some.inj ho
            have e1 : fr.tmps[1]?.getD undef = .slice (some ⟨ab, ao, none⟩) la cap := HFr.out.base 1 (by kernel_rfl) rfl
            exact wp_q rfl rfl (by simp [execOp, go_sem, e1]; try rfl) ⟨x, HFr.out.put (by kernel_rfl) rfl rfl rfl (of_decide_eq_true rfl), HW.out.q hjl (by decide)⟩
          | 2, ho =>
            obtain rfl := Option.some.inj ho
            have e11 : fr.tmps[11]?.getD undef = .int .i64 (j : Int) := HFr.out.base 11 (by kernel_rfl) rfl
            exact wp_q rfl rfl (by simp [execOp, go_sem, e11]; try rfl) ⟨x, HFr.out.put (by kernel_rfl) rfl rfl rfl (of_decide_eq_true rfl), HW.out.q hjl (by decide)⟩
          | 3, ho =>
            obtain rfl := Option.some.inj ho
            have e48 : fr.tmps[48]?.getD undef = .slice (some ⟨ab, ao, none⟩) la cap := HFr.out.ev (i := 1) rfl rfl (HE.out ⟨1, .data⟩ (by simp) rfl)
            have e49 : fr.tmps[49]?.getD undef = .int .i64 (j : Int) := HFr.out.ev (i := 2) rfl rfl (HE.out ⟨2, .data⟩ (by simp) rfl)
            exact wp_q rfl rfl (by simp [execOp, go_sem, e48, e49, g2]; try rfl) ⟨x, HFr.out.put (by kernel_rfl) rfl rfl rfl (of_decide_eq_true rfl), HW.out.q hjl (by decide)⟩
          | 4, ho =>
            obtain rfl := Option.some.inj ho
            have e50 : fr.tmps[50]?.getD undef = .pointer (some ⟨ab, ao + j, none⟩) := HFr.out.ev (i := 3) rfl rfl (HE.out ⟨3, .data⟩ (by simp) rfl)
            obtain ⟨l1, l2⟩ := HLD.out _ _ _ HW.out
            exact wp_q rfl rfl (by simp [execOp, go_sem, e50, l1]; try rfl) ⟨x, HFr.out.put (by kernel_rfl) rfl rfl rfl (of_decide_eq_true rfl), HW.out.q hjl (by decide)⟩
          | 5, ho =>
            obtain rfl := Option.some.inj ho
            have e2 : fr.tmps[2]?.getD undef = .slice (some ⟨ab2, ao2, none⟩) la2 cap2 := HFr.out.base 2 (by kernel_rfl) rfl
            exact wp_q rfl rfl (by simp [execOp, go_sem, e2]; try rfl) ⟨x, HFr.out.put (by kernel_rfl) rfl rfl rfl (of_decide_eq_true rfl), HW.out.q hjl (by decide)⟩
          | 6, ho =>
            obtain rfl := Option.some.inj ho
            have e11 : fr.tmps[11]?.getD undef = .int .i64 (j : Int) := HFr.out.base 11 (by kernel_rfl) rfl
            exact wp_q rfl rfl (by simp [execOp, go_sem, e11]; try rfl) ⟨x, HFr.out.put (by kernel_rfl) rfl rfl rfl (of_decide_eq_true rfl), HW.out.q hjl (by decide)⟩
          | 7, ho =>
            obtain rfl := Option.some.inj ho
            have e52 : fr.tmps[52]?.getD undef = .slice (some ⟨ab2, ao2, none⟩) la2 cap2 := HFr.out.ev (i := 5) rfl rfl (HE.out ⟨5, .data⟩ (by simp) rfl)
            have e53 : fr.tmps[53]?.getD undef = .int .i64 (j : Int) := HFr.out.ev (i := 6) rfl rfl (HE.out ⟨6, .data⟩ (by simp) rfl)
            exact wp_q rfl rfl (by simp [execOp, go_sem, e52, e53, g1]; try rfl) ⟨x, HFr.out.put (by kernel_rfl) rfl rfl rfl (of_decide_eq_true rfl), HW.out.q hjl (by decide)⟩
          | 8, ho =>
            obtain rfl := Option.some.inj ho
            have e54 : fr.tmps[54]?.getD undef = .pointer (some ⟨ab2, ao2 + j, none⟩) := HFr.out.ev (i := 7) rfl rfl (HE.out ⟨7, .data⟩ (by simp) rfl)
            obtain ⟨l1, l2⟩ := HLD.out _ _ _ HW.out
            exact wp_q rfl rfl (by simp [execOp, go_sem, e54, l2]; try rfl) ⟨x, HFr.out.put (by kernel_rfl) rfl rfl rfl (of_decide_eq_true rfl), HW.out.q hjl (by decide)⟩
          | 9, ho =>
            obtain rfl := Option.some.inj ho
            have e55 : fr.tmps[55]?.getD undef = f.v := HFr.out.ev (i := 8) rfl rfl (HE.out ⟨8, .data⟩ (by simp) rfl)
            have m0 := HW.out.at 0 rfl hl0 (fun j hj => by omega)
            refine wp_c1t rfl rfl _ _ _ rfl f.v (by simp [Act.eval, e55]) (Try.call9 _ _) ((HFO.out.below (MW.bel m0)).copy HFM.out) ?_
            rintro e' w7 ⟨c, rfl, q1, q2⟩
            have hsw := HFr.out.swapD (vt' := vtW s p ab ao la cap ab2 ao2 la2 cap2 j pt f K c x.2.1 x.2.2.1 x.2.2.2) (by kernel_rfl) (fun d => ?_)
            · exact ⟨_, rfl, (c, x.2.1, x.2.2.1, x.2.2.2), hsw.put (by kernel_rfl) rfl rfl rfl (of_decide_eq_true rfl), HW.out.go 0 hjl rfl hl0 (fun j hj => by omega) (by intro a ha; match a, ha with | 0, _ => rfl | 1, ha => simp at ha | 2, ha => simp at ha | 3, ha => simp at ha) ⟨S2.below m0 q2, q1⟩⟩
            · by_cases z0 : d = 56
              · subst z0; exact .inr ⟨9, _, rfl, rfl, hl0⟩
              · left; simp only [vtW, if_neg z0]
          | 10, ho =>
            obtain rfl := Option.some.inj ho
            have e47 : fr.tmps[47]?.getD undef = .pointer (some ⟨s, 0, none⟩) := HFr.out.ev (i := 0) rfl rfl (HE.out ⟨0, .data⟩ (by simp) rfl)
            have e51 : fr.tmps[51]?.getD undef = .int .i64 pt := HFr.out.ev (i := 4) rfl rfl (HE.out ⟨4, .data⟩ (by simp) rfl)
            have e56 : fr.tmps[56]?.getD undef = x.1 := HFr.out.ev (i := 9) rfl rfl (HE.out ⟨9, .data⟩ (by simp) rfl)
            have hp := HE.out ⟨9, .data⟩ (by simp) rfl
            have m0 := HW.out.at 1 rfl hl0 (fun j hj => by obtain rfl : j = 0 := (by omega); exact ⟨9, rfl, hp⟩)
            refine wp_c3t rfl rfl _ _ _ _ _ rfl (.pointer (some ⟨s, 0, none⟩)) (.int .i64 pt) x.1 (by simp [Act.eval, e47]) (by simp [Act.eval, e51]) (by simp [Act.eval, e56]) (Try.call8 _ _) (S2.toK m0.1 HN.out pt x.1 f.l m0.2 HFO.out.nums HFL.out) ?_
            rintro e' w7 ⟨u, rfl, q⟩
            have hsw := HFr.out.swapD (vt' := vtW s p ab ao la cap ab2 ao2 la2 cap2 j pt f K x.1 u x.2.2.1 x.2.2.2) (by kernel_rfl) (fun d => ?_)
            · exact ⟨_, rfl, (x.1, u, x.2.2.1, x.2.2.2), hsw.put (by kernel_rfl) rfl rfl rfl (of_decide_eq_true rfl), HW.out.go 1 hjl rfl hl0 (fun j hj => by obtain rfl : j = 0 := (by omega); exact ⟨9, rfl, hp⟩) (by intro a ha; match a, ha with | 0, ha => simp at ha | 1, _ => rfl | 2, ha => simp at ha | 3, ha => simp at ha) (by rw [← HK.out, ← HR.out] at q; exact q)⟩
            · by_cases z0 : d = 57
              · subst z0; exact .inr ⟨10, _, rfl, rfl, hl0⟩
              · left; simp only [vtW, if_neg z0]
          | 11, ho =>
            obtain rfl := Option.some.inj ho
            have e9 : fr.tmps[9]?.getD undef = .pointer (some ⟨p, 0, none⟩) := HFr.out.base 9 (by kernel_rfl) rfl
            exact wp_q rfl rfl (by simp [execOp, go_sem, e9]; try rfl) ⟨x, HFr.out.put (by kernel_rfl) rfl rfl rfl (of_decide_eq_true rfl), HW.out.q hjl (by decide)⟩
          | 12, ho =>
            obtain rfl := Option.some.inj ho
            have e1 : fr.tmps[1]?.getD undef = .slice (some ⟨ab, ao, none⟩) la cap := HFr.out.base 1 (by kernel_rfl) rfl
            exact wp_q rfl rfl (by simp [execOp, go_sem, e1]; try rfl) ⟨x, HFr.out.put (by kernel_rfl) rfl rfl rfl (of_decide_eq_true rfl), HW.out.q hjl (by decide)⟩
          | 13, ho =>
            obtain rfl := Option.some.inj ho
            have e11 : fr.tmps[11]?.getD undef = .int .i64 (j : Int) := HFr.out.base 11 (by kernel_rfl) rfl
            exact wp_q rfl rfl (by simp [execOp, go_sem, e11]; try rfl) ⟨x, HFr.out.put (by kernel_rfl) rfl rfl rfl (of_decide_eq_true rfl), HW.out.q hjl (by decide)⟩
          | 14, ho =>
            obtain rfl := Option.some.inj ho
            have e59 : fr.tmps[59]?.getD undef = .slice (some ⟨ab, ao, none⟩) la cap := HFr.out.ev (i := 12) rfl rfl (HE.out ⟨12, .data⟩ (by simp) rfl)
            have e60 : fr.tmps[60]?.getD undef = .int .i64 (j : Int) := HFr.out.ev (i := 13) rfl rfl (HE.out ⟨13, .data⟩ (by simp) rfl)
            exact wp_q rfl rfl (by simp [execOp, go_sem, e59, e60, g2]; try rfl) ⟨x, HFr.out.put (by kernel_rfl) rfl rfl rfl (of_decide_eq_true rfl), HW.out.q hjl (by decide)⟩
          | 15, ho =>
            obtain rfl := Option.some.inj ho
            have e61 : fr.tmps[61]?.getD undef = .pointer (some ⟨ab, ao + j, none⟩) := HFr.out.ev (i := 14) rfl rfl (HE.out ⟨14, .data⟩ (by simp) rfl)
            obtain ⟨l1, l2⟩ := HLD.out _ _ _ HW.out
            exact wp_q rfl rfl (by simp [execOp, go_sem, e61, l1]; try rfl) ⟨x, HFr.out.put (by kernel_rfl) rfl rfl rfl (of_decide_eq_true rfl), HW.out.q hjl (by decide)⟩
          | 16, ho =>
            obtain rfl := Option.some.inj ho
            have e2 : fr.tmps[2]?.getD undef = .slice (some ⟨ab2, ao2, none⟩) la2 cap2 := HFr.out.base 2 (by kernel_rfl) rfl
            exact wp_q rfl rfl (by simp [execOp, go_sem, e2]; try rfl) ⟨x, HFr.out.put (by kernel_rfl) rfl rfl rfl (of_decide_eq_true rfl), HW.out.q hjl (by decide)⟩
          | 17, ho =>
            obtain rfl := Option.some.inj ho
            have e11 : fr.tmps[11]?.getD undef = .int .i64 (j : Int) := HFr.out.base 11 (by kernel_rfl) rfl
            exact wp_q rfl rfl (by simp [execOp, go_sem, e11]; try rfl) ⟨x, HFr.out.put (by kernel_rfl) rfl rfl rfl (of_decide_eq_true rfl), HW.out.q hjl (by decide)⟩
          | 18, ho =>
            obtain rfl := Option.some.inj ho
            have e63 : fr.tmps[63]?.getD undef = .slice (some ⟨ab2, ao2, none⟩) la2 cap2 := HFr.out.ev (i := 16) rfl rfl (HE.out ⟨16, .data⟩ (by simp) rfl)
            have e64 : fr.tmps[64]?.getD undef = .int .i64 (j : Int) := HFr.out.ev (i := 17) rfl rfl (HE.out ⟨17, .data⟩ (by simp) rfl)
            exact wp_q rfl rfl (by simp [execOp, go_sem, e63, e64, g1]; try rfl) ⟨x, HFr.out.put (by kernel_rfl) rfl rfl rfl (of_decide_eq_true rfl), HW.out.q hjl (by decide)⟩
          | 19, ho =>
            obtain rfl := Option.some.inj ho
            have e65 : fr.tmps[65]?.getD undef = .pointer (some ⟨ab2, ao2 + j, none⟩) := HFr.out.ev (i := 18) rfl rfl (HE.out ⟨18, .data⟩ (by simp) rfl)
            obtain ⟨l1, l2⟩ := HLD.out _ _ _ HW.out
            exact wp_q rfl rfl (by simp [execOp, go_sem, e65, l2]; try rfl) ⟨x, HFr.out.put (by kernel_rfl) rfl rfl rfl (of_decide_eq_true rfl), HW.out.q hjl (by decide)⟩
          | 20, ho =>
            obtain rfl := Option.some.inj ho
            have e58 : fr.tmps[58]?.getD undef = .pointer (some ⟨p, 0, none⟩) := HFr.out.ev (i := 11) rfl rfl (HE.out ⟨11, .data⟩ (by simp) rfl)
            have e62 : fr.tmps[62]?.getD undef = .int .i64 pt := HFr.out.ev (i := 15) rfl rfl (HE.out ⟨15, .data⟩ (by simp) rfl)
            have e66 : fr.tmps[66]?.getD undef = f.v := HFr.out.ev (i := 19) rfl rfl (HE.out ⟨19, .data⟩ (by simp) rfl)
            have hp := HE.out ⟨10, .chain⟩ (by simp) rfl
            have m0 := HW.out.at 2 rfl hl0 (fun j hj => by obtain rfl : j = 1 := (by omega); exact ⟨10, rfl, hp⟩)
            have n21 : listed.getD 21 false = false := not_yet (j := 21) HC.out hl0 rfl ⟨20, .data⟩ (by simp) rfl rfl
            have n22 : listed.getD 22 false = false := not_yet (j := 22) HC.out n21 rfl ⟨21, .data⟩ (by simp) rfl rfl
            have n23 : listed.getD 23 false = false := not_yet (j := 23) HC.out n22 rfl ⟨22, .data⟩ (by simp) rfl rfl
            have n29 : listed.getD 29 false = false := not_yet (j := 29) HC.out n23 rfl ⟨23, .guard⟩ (by simp) rfl rfl
            refine wp_c3t rfl rfl _ _ _ _ _ rfl (.pointer (some ⟨p, 0, none⟩)) (.int .i64 pt) f.v (by simp [Act.eval, e58]) (by simp [Act.eval, e62]) (by simp [Act.eval, e66]) (Try.call10 _ _) (S3.toD m0 HN.out pt f (HFO.out.below (MW.bel (t := 2) m0)) HK.out HR.out) ?_
            rintro e' w7 ⟨u, v', rfl, q1, q2, q3⟩
            have hsw := HFr.out.swapD (vt' := vtW s p ab ao la cap ab2 ao2 la2 cap2 j pt f K x.1 x.2.1 u v') (by kernel_rfl) (fun d => ?_)
            · exact ⟨_, rfl, (x.1, x.2.1, u, v'), hsw.put (by kernel_rfl) rfl rfl rfl (of_decide_eq_true rfl), HW.out.go 2 hjl rfl hl0 (fun j hj => by obtain rfl : j = 1 := (by omega); exact ⟨10, rfl, hp⟩) (by intro a ha; match a, ha with | 0, ha => simp at ha | 1, ha => simp at ha | 2, _ => rfl | 3, ha => simp at ha) ⟨q1, q2, q3⟩⟩
            · by_cases z0 : d = 67
              · subst z0; exact .inr ⟨20, _, rfl, rfl, hl0⟩
              · by_cases z1 : d = 76
                · subst z1; exact .inr ⟨29, _, rfl, rfl, n29⟩
                · left; simp only [vtW, if_neg z0, if_neg z1]
          | 21, ho =>
            obtain rfl := Option.some.inj ho
            have e57 : fr.tmps[57]?.getD undef = x.2.1 := HFr.out.ev (i := 10) rfl rfl (HE.out ⟨10, .data⟩ (by simp) rfl)
            have e67 : fr.tmps[67]?.getD undef = x.2.2.1 := HFr.out.ev (i := 20) rfl rfl (HE.out ⟨20, .data⟩ (by simp) rfl)
            have hp := HE.out ⟨20, .data⟩ (by simp) rfl
            have m0 := HW.out.at 3 rfl hl0 (fun j hj => by obtain rfl : j = 2 := (by omega); exact ⟨20, rfl, hp⟩)
            refine wp_c2t rfl rfl _ _ _ _ rfl x.2.1 x.2.2.1 (by simp [Act.eval, e57]) (by simp [Act.eval, e67]) (Try.call7 _ _) (k_SameInts wr R HRL.out _ _ m0.2.1 m0.2.2) ?_
            rintro e' w7 ⟨rfl, q⟩
            exact ⟨_, rfl, x, HFr.out.put (by kernel_rfl) rfl rfl rfl (of_decide_eq_true rfl), HW.out.go 3 hjl rfl hl0 (fun j hj => by obtain rfl : j = 2 := (by omega); exact ⟨20, rfl, hp⟩) (by intro a ha; match a, ha with | 0, ha => simp at ha | 1, ha => simp at ha | 2, ha => simp at ha | 3, _ => rfl) (S2.still m0.1 q)⟩
          | 22, ho =>
            obtain rfl := Option.some.inj ho
            have e68 : fr.tmps[68]?.getD undef = .bool true := HFr.out.ev (i := 21) rfl rfl (HE.out ⟨21, .data⟩ (by simp) rfl)
            exact wp_q rfl rfl (by simp [execOp, go_sem, e68]; try rfl) ⟨x, HFr.out.put (by kernel_rfl) rfl rfl rfl (of_decide_eq_true rfl), HW.out.q hjl (by decide)⟩
          | 23, ho =>
            obtain rfl := Option.some.inj ho
            have e69 : fr.tmps[69]?.getD undef = .bool false := HFr.out.ev (i := 22) rfl rfl (HE.out ⟨22, .data⟩ (by simp) rfl)
            exact wp_q rfl rfl (by simp [execOp, go_sem, e69]; try rfl) ⟨x, HFr.out.put (by kernel_rfl) rfl rfl rfl (of_decide_eq_true rfl), HW.out.q hjl (by decide)⟩
          | 24, ho =>
            obtain rfl := Option.some.inj ho
            have e7 : fr.tmps[7]?.getD undef = .pointer (some ⟨s, 0, none⟩) := HFr.out.base 7 (by kernel_rfl) rfl
            have hg : fr.tmps[70]? = some (.bool false) := HFr.out.q.val 23 _ 70 rfl rfl (HE.out ⟨23, .guard⟩ (by simp) rfl)
            exact wp_qw rfl (wtd rfl rfl rfl hg) (by simp [execOp, go_sem, e7]; try rfl) ⟨x, HFr.out.put (by kernel_rfl) rfl rfl rfl (of_decide_eq_true rfl), HW.out.q hjl (by decide)⟩
          | 25, ho =>
            obtain rfl := Option.some.inj ho
            have e71 : fr.tmps[71]?.getD undef = .pointer (some ⟨s, 0, none⟩) := HFr.out.ev (i := 24) rfl rfl (HE.out ⟨24, .data⟩ (by simp) rfl)
            have hg : fr.tmps[70]? = some (.bool false) := HFr.out.q.val 23 _ 70 rfl rfl (HE.out ⟨23, .guard⟩ (by simp) rfl)
            have hp23 := HE.out ⟨23, .chain⟩ (by simp) rfl
            have hp22 := HC.out 23 _ rfl hp23 ⟨22, .data⟩ (by simp) rfl
            have hp21 := HC.out 22 _ rfl hp22 ⟨21, .data⟩ (by simp) rfl
            have m4 : S2 w N s M p x.2.2.2 K wr := MW.fin (HW.out.end 3 rfl hp21 (fun t ht q => by match t, ht with | t + 4, _ => exact q)) (by decide)
            refine wp_c1t rfl (wtd rfl rfl rfl hg) _ _ _ rfl (.pointer (some ⟨s, 0, none⟩)) (by simp [Act.eval, e71]) (Try.call11 _ _) (k_Learned wr s M N K m4.k) ?_
            rintro e' w7 ⟨rfl, hw7⟩
            subst hw7
            exact ⟨_, rfl, x, HFr.out.put (by kernel_rfl) rfl rfl rfl (of_decide_eq_true rfl), HW.out.q hjl (by decide)⟩
          | 26, ho =>
            obtain rfl := Option.some.inj ho
            have e9 : fr.tmps[9]?.getD undef = .pointer (some ⟨p, 0, none⟩) := HFr.out.base 9 (by kernel_rfl) rfl
            have hg : fr.tmps[70]? = some (.bool false) := HFr.out.q.val 23 _ 70 rfl rfl (HE.out ⟨23, .guard⟩ (by simp) rfl)
            exact wp_qw rfl (wtd rfl rfl rfl hg) (by simp [execOp, go_sem, e9]; try rfl) ⟨x, HFr.out.put (by kernel_rfl) rfl rfl rfl (of_decide_eq_true rfl), HW.out.q hjl (by decide)⟩
          | 27, ho =>
            obtain rfl := Option.some.inj ho
            have e73 : fr.tmps[73]?.getD undef = .pointer (some ⟨p, 0, none⟩) := HFr.out.ev (i := 26) rfl rfl (HE.out ⟨26, .data⟩ (by simp) rfl)
            have hg : fr.tmps[70]? = some (.bool false) := HFr.out.q.val 23 _ 70 rfl rfl (HE.out ⟨23, .guard⟩ (by simp) rfl)
            exact wp_qw rfl (wtd rfl rfl rfl hg) (by simp [execOp, go_sem, e73]; try rfl) ⟨x, HFr.out.put (by kernel_rfl) rfl rfl rfl (of_decide_eq_true rfl), HW.out.q hjl (by decide)⟩
          | 28, ho =>
            obtain rfl := Option.some.inj ho
            have e74 : fr.tmps[74]?.getD undef = .pointer (some ⟨p, 0, none⟩) := HFr.out.ev (i := 27) rfl rfl (HE.out ⟨27, .data⟩ (by simp) rfl)
            have hg : fr.tmps[70]? = some (.bool false) := HFr.out.q.val 23 _ 70 rfl rfl (HE.out ⟨23, .guard⟩ (by simp) rfl)
            exact wp_qw rfl (wtd rfl rfl rfl hg) (by simp [execOp, go_sem, e74]; try rfl) ⟨x, HFr.out.put (by kernel_rfl) rfl rfl rfl (of_decide_eq_true rfl), HW.out.q hjl (by decide)⟩
          | 29, ho =>
            obtain rfl := Option.some.inj ho
            have e75 : fr.tmps[75]?.getD undef = .pointer (some ⟨p, 1, none⟩) := HFr.out.ev (i := 28) rfl rfl (HE.out ⟨28, .data⟩ (by simp) rfl)
            have hg : fr.tmps[70]? = some (.bool false) := HFr.out.q.val 23 _ 70 rfl rfl (HE.out ⟨23, .guard⟩ (by simp) rfl)
            have hp23 := HE.out ⟨23, .guard⟩ (by simp) rfl
            have hp22 := HC.out 23 _ rfl hp23 ⟨22, .data⟩ (by simp) rfl
            have hp21 := HC.out 22 _ rfl hp22 ⟨21, .data⟩ (by simp) rfl
            have m4 : S2 w N s M p x.2.2.2 K wr := MW.fin (HW.out.end 3 rfl hp21 (fun t ht q => by match t, ht with | t + 4, _ => exact q)) (by decide)
            have c1 : wr.cell? ⟨p, 1, none⟩ = some x.2.2.2 := cell_of_row wr p 1 _ _ _ m4.d.blk
            exact wp_qw rfl (wtd rfl rfl rfl hg) (by simp [execOp, go_sem, e75, c1]; try rfl) ⟨x, HFr.out.put (by kernel_rfl) rfl rfl rfl (of_decide_eq_true rfl), HW.out.q hjl (by decide)⟩
          | 30, ho =>
            obtain rfl := Option.some.inj ho
            have e76 : fr.tmps[76]?.getD undef = x.2.2.2 := HFr.out.ev (i := 29) rfl rfl (HE.out ⟨29, .data⟩ (by simp) rfl)
            have hg : fr.tmps[70]? = some (.bool false) := HFr.out.q.val 23 _ 70 rfl rfl (HE.out ⟨23, .guard⟩ (by simp) rfl)
            have hp23 := HE.out ⟨23, .guard⟩ (by simp) rfl
            have hp22 := HC.out 23 _ rfl hp23 ⟨22, .data⟩ (by simp) rfl
            have hp21 := HC.out 22 _ rfl hp22 ⟨21, .data⟩ (by simp) rfl
            have m4 : S2 w N s M p x.2.2.2 K wr := MW.fin (HW.out.end 3 rfl hp21 (fun t ht q => by match t, ht with | t + 4, _ => exact q)) (by decide)
            obtain ⟨av, cv, hv⟩ := m4.form
            exact wp_qw rfl (wtd rfl rfl rfl hg) (by simp [execOp, go_sem, e76, hv]; try rfl) ⟨x, HFr.out.put (by kernel_rfl) rfl rfl rfl (of_decide_eq_true rfl), HW.out.q hjl (by decide)⟩
          | 31, ho =>
            obtain rfl := Option.some.inj ho
            have e72 : fr.tmps[72]?.getD undef = .int .i64 (K.length : Int) := HFr.out.ev (i := 25) rfl rfl (HE.out ⟨25, .data⟩ (by simp) rfl)
            have e77 : fr.tmps[77]?.getD undef = .int .i64 (K.length : Int) := HFr.out.ev (i := 30) rfl rfl (HE.out ⟨30, .data⟩ (by simp) rfl)
            have hg : fr.tmps[70]? = some (.bool false) := HFr.out.q.val 23 _ 70 rfl rfl (HE.out ⟨23, .guard⟩ (by simp) rfl)
            exact wp_qw rfl (wtd rfl rfl rfl hg) (by simp [execOp, go_sem, e72, e77]; try rfl) ⟨x, HFr.out.put (by kernel_rfl) rfl rfl rfl (of_decide_eq_true rfl), HW.out.q hjl (by decide)⟩
          | 32, ho =>
            obtain rfl := Option.some.inj ho
            have e70 : fr.tmps[70]?.getD undef = .bool false := HFr.out.ev (i := 23) rfl rfl (HE.out ⟨23, .data⟩ (by simp) rfl)
            have e78 : fr.tmps[78]?.getD undef = .bool false := HFr.out.ev (i := 31) rfl rfl (HE.out ⟨31, .data⟩ (by simp) rfl)
            exact wp_q rfl rfl (by simp [execOp, go_sem, e70, e78]; try rfl) ⟨x, HFr.out.put (by kernel_rfl) rfl rfl rfl (of_decide_eq_true rfl), HW.out.q hjl (by decide)⟩
        case fin =>
          rintro listed fr w2 x hF hW hr
          have all := allDone hr hF.q.ls (by kernel_rfl)
          have m4 : S2 w N s M p x.2.2.2 K w2 := MW.fin (hW.end 3 rfl (all _ (by decide)) (fun t ht q => by match t, ht with | t + 4, _ => exact q)) (by decide)
          rw [hF.full all]
          have HM := hid m4
          clear hF hr all hW m4 HLD HFO HFM HFL HRL HK HR
          simp only [List.foldl_cons, List.foldl_nil, fillF]
          go_simp
          go_wp2_with fail
          go_roundw
          case rel => exact ⟨j + 1, _, _, by go_num, by omega, by omega, HM⟩
          case measure => simp [intOf]; omega
      · have hge : ¬ ((j : Int) < (la2 : Int) ∧ (j : Int) < (la : Int)) := by omega
        by_cases g1 : (j : Int) < (la2 : Int)
        · have g2 : ¬ (j : Int) < (la : Int) := by omega
          clear hge hlt
          go_wp2_with (go_at_call 6; refine (l_awake wr).mono ?_; rintro r w9 ⟨rfl, k1⟩; have A1 := hid k1; clear k1)
          go_ret
          exact ⟨rfl, hS.out.bel.trans (A1.out.mono hS.out.bel.size)⟩
        · clear hge hlt
          go_wp2_with (go_at_call 6; refine (l_awake wr).mono ?_; rintro r w9 ⟨rfl, k1⟩; have A1 := hid k1; clear k1)
          go_ret
          exact ⟨rfl, hS.out.bel.trans (A1.out.mono hS.out.bel.size)⟩
  · go_enter Try.func3, Try.ntmps3
    have hp' := hid hp
    clear hp
    go_wp2_with (first
      | (go_at_call 4; refine (k_NewSwitch_no w ports hp'.out).mono ?_; rintro r w1 ⟨rfl, q⟩; obtain rfl := q.symm)
      | (go_at_call 5; refine (d_NewSwitch_no w ports hp'.out).mono ?_; rintro r w2 ⟨rfl, q⟩; obtain rfl := q.symm)
      | (go_at_call 6; refine (l_awake _).mono ?_; rintro r w9 ⟨rfl, k1⟩; have A1 := hid k1; clear k1))
    go_ret
    exact ⟨rfl, A1.out⟩
end Go.Proofs.Ytpppljlfljoccaa
namespace Go.Proofs.Ytpppljlfljoccaa
open Go.ChangeShapes Go.WideShapes Go.ChangeAt Go.RowKit Go.Deep
open C (Only hid)
set_option linter.unusedVariables false

theorem cells_ints' : Try.prog.cellsOf 3 = 1 := by kernel_rfl
set_option maxRecDepth 100000 in
theorem open_ints {H : Type} {enc : TypeId × Value → H} {W : World} {base : Nat} {r : Reach} {b : Nat} {v : Value} {d : DataW H} {p : List MemPlace}
    (hv : Value.okWide Try.prog W r b 22 v) (h : DataW.Trod enc Try.prog W base (fun _ => true) true 22 v d p) (hlt : ∀ x ∈ p, x.block < W.heap.size) :
    ∃ (ad : Option Addr) (la cap ab ao : Nat) (A : Nat → Int), v = .slice ad la cap ∧ IsA W ad la cap ab ao A := by
  obtain ⟨ad, la, cap, ar, aa, rfl, hl, hm, hw, hc⟩ := C.open_nums Try.underlying22 Try.underlying3 cells_ints' hv h hlt
  obtain ⟨ab, ao, asp⟩ := aa
  have hsp : 0 < la → asp = none := fun q => by
    have := (hc q).2.2 0 q
    simpa [Addr.add] using World.cell?_spot this
  refine ⟨ad, la, cap, ab, ao, ar, rfl, ⟨hl, hm, fun q => ?_, fun i hi => ?_⟩⟩
  · obtain rfl := hsp q
    exact ⟨(hc q).1, (hc q).2.1⟩
  · obtain rfl := hsp (by omega)
    have := (hc (by omega)).2.2 i hi
    rwa [C.addr_add] at this
theorem cells_by : Try.prog.cellsOf 5 = 1 := by kernel_rfl
theorem cells_sby : Try.prog.cellsOf 34 = 1 := by kernel_rfl
theorem u_sby : Try.prog.underlying 34 = some (.slice 5) := by kernel_rfl
theorem u_ssby : Try.prog.underlying 23 = some (.slice 34) := by kernel_rfl
theorem bytes_by : Try.prog.bytesOf 5 = 1 := by kernel_rfl
set_option maxRecDepth 100000 in
theorem open_frame {H : Type} {enc : TypeId × Value → H} {W : World} {base fuel : Nat} {cs : List Value} {x : DataW H × List MemPlace} (h : DataW.trod enc Try.prog W base (fun _ => true) true fuel 34 cs = some x) (hlt : ∀ p ∈ x.2, p.block < W.heap.size) :
    ∃ f : Fv, cs = [f.v] ∧ FOk W f := by
  rcases open_slice u_sby h with ⟨hcs, hx⟩ | ⟨a, len, cap, m, n, D, Pl, hcs, _, hl, hm, hmm, hx, hel⟩
  · exact ⟨⟨none, 0, 0, 0, 0, fun _ => 0⟩, hcs, ⟨Nat.le_refl _, fun _ => ⟨rfl, rfl⟩, fun q => absurd q (by decide), fun i hi => absurd hi (Nat.not_lt_zero i), fun i => ⟨Int.le_refl 0, show (0 : Int) < 256 by decide⟩⟩⟩
  · subst hx
    simp only [if_true] at hmm
    have each : ∀ i, ∃ X : Int, (0 ≤ X ∧ X < 256) ∧ (i < len → W.cell? (a.add i) = some (.int .u8 X)) := fun i => by
      rcases Nat.lt_or_ge i len with hi | hi
      · obtain ⟨cs', h1, h2⟩ := hel i (by omega)
        obtain ⟨z0, r0, _, w0⟩ := DataW.trod_int Try.underlying5 h2
        rw [cells_by] at h1
        obtain ⟨_, hlen, hcell⟩ := World.cells?_some h1
        have k0 := hcell 0 (by decide)
        have := bounds_u8 w0
        refine ⟨z0, ⟨this.1, by omega⟩, fun _ => ?_⟩
        subst r0
        simpa [Addr.add] using k0
      · exact ⟨0, ⟨Int.le_refl 0, by decide⟩, fun q => by omega⟩
    obtain ⟨X, hX⟩ := Classical.axiomOfChoice each
    clear each
    have hbl : ∀ h0 : 0 < len, a.spot = none ∧ a.block < W.heap.size := fun h0 => by
      have k0 := (hX 0).2 h0
      refine ⟨by simpa [Addr.add] using World.cell?_spot k0, ?_⟩
      obtain ⟨cs', h1, _⟩ := hel 0 (by omega)
      rw [cells_by] at h1
      have := World.cells?_block h1 (by decide)
      rwa [C.add_block] at this
    obtain ⟨ab, ao, asp⟩ := a
    refine ⟨⟨some ⟨ab, ao, asp⟩, len, cap, ab, ao, X⟩, hcs, ⟨hl, fun e => (by cases e), fun h0 => ?_, fun i hi => ?_, fun i => (hX i).1⟩⟩
    · obtain ⟨q1, q2⟩ := hbl h0
      obtain rfl : asp = none := q1
      exact ⟨rfl, q2⟩
    · obtain ⟨q1, q2⟩ := hbl (Nat.lt_of_le_of_lt (Nat.zero_le _) hi)
      obtain rfl : asp = none := q1
      have := (hX i).2 hi
      rw [C.addr_add] at this
      exact this
set_option maxRecDepth 100000 in
theorem open_frames {H : Type} {enc : TypeId × Value → H} {W : World} {base : Nat} {r : Reach} {b : Nat} {v : Value} {d : DataW H} {p : List MemPlace}
    (hv : Value.okWide Try.prog W r b 23 v) (h : DataW.Trod enc Try.prog W base (fun _ => true) true 23 v d p) (hlt : ∀ x ∈ p, x.block < W.heap.size) :
    ∃ (ad : Option Addr) (la cap ab ao : Nat) (F : Nat → Fv), v = .slice ad la cap ∧ FsA W ad la cap ab ao F := by
  obtain ⟨ad0, la0, cap0, rfl⟩ := okWide_slice u_ssby hv
  obtain ⟨fuel, hf⟩ := h
  rcases open_slice u_ssby hf with ⟨hcs, hx⟩ | ⟨a, len, cap, m, n, D, Pl, hcs, _, hl, hm, hmm, hx, hel⟩
  · simp [Value.cells] at hcs
    obtain ⟨rfl, rfl, rfl⟩ := hcs
    exact ⟨none, 0, 0, 0, 0, fun _ => ⟨none, 0, 0, 0, 0, fun _ => 0⟩, rfl, ⟨Nat.le_refl _, by decide, fun q => absurd q (by decide), fun i hi => absurd hi (Nat.not_lt_zero i), fun i hi => absurd hi (Nat.not_lt_zero i)⟩⟩
  · simp [Value.cells] at hcs
    obtain ⟨rfl, rfl, rfl⟩ := hcs
    simp only [Prod.mk.injEq] at hx
    obtain ⟨rfl, rfl⟩ := hx
    simp only [if_true] at hmm
    have each : ∀ i, ∃ f : Fv, i < la0 → W.cell? (a.add i) = some f.v ∧ FOk W f := fun i => by
      rcases Nat.lt_or_ge i la0 with hi | hi
      · obtain ⟨cs', h1, h2⟩ := hel i (by omega)
        rw [cells_sby] at h1
        obtain ⟨f, rfl, hok⟩ := open_frame h2 (fun q hq => hlt q (by
          refine List.mem_append.2 (.inr (List.mem_flatMap.2 ⟨i, by simp; omega, hq⟩))))
        obtain ⟨_, hlen, hcell⟩ := World.cells?_some h1
        have k0 := hcell 0 (by decide)
        exact ⟨f, fun _ => ⟨by simpa [Addr.add] using k0, hok⟩⟩
      · exact ⟨⟨none, 0, 0, 0, 0, fun _ => 0⟩, fun q => by omega⟩
    obtain ⟨F, hF⟩ := Classical.axiomOfChoice each
    clear each
    have hbl : ∀ h0 : 0 < la0, a.spot = none ∧ a.block < W.heap.size := fun h0 => by
      have k0 := (hF 0 h0).1
      refine ⟨by simpa [Addr.add] using World.cell?_spot k0, ?_⟩
      obtain ⟨cs', h1, _⟩ := hel 0 (by omega)
      rw [cells_sby] at h1
      have := World.cells?_block h1 (by decide)
      rwa [C.add_block] at this
    obtain ⟨ab, ao, asp⟩ := a
    refine ⟨some ⟨ab, ao, asp⟩, la0, cap0, ab, ao, F, rfl, ⟨hl, by simpa [maxLen] using hm, fun h0 => ?_, fun i hi => ?_, fun i hi => (hF i hi).2⟩⟩
    · obtain ⟨q1, q2⟩ := hbl h0
      obtain rfl : asp = none := q1
      exact ⟨rfl, q2⟩
    · obtain ⟨q1, q2⟩ := hbl (Nat.lt_of_le_of_lt (Nat.zero_le _) hi)
      obtain rfl : asp = none := q1
      have := (hF i hi).1
      rw [C.addr_add] at this
      exact this
theorem weights_all {H : Type} {P : Program} {e : TypeId} {d : DataW H} : ∀ {ds : List (DataW H)}, d ∈ ds → ∀ n ∈ d.weights P e, n ∈ DataW.weightsAll P e ds
  | d0 :: ds, hd, n, hn => by
    simp only [DataW.weightsAll, List.mem_append]
    rcases List.mem_cons.1 hd with rfl | hd
    · exact .inl hn
    · exact .inr (weights_all hd n hn)
set_option maxRecDepth 100000 in
theorem frames_len {H : Type} {enc : TypeId × Value → H} {W : World} {base : Nat} {ad : Option Addr} {la cap : Nat} {d : DataW H} {p : List MemPlace} (h : DataW.Trod enc Try.prog W base (fun _ => true) true 23 (.slice ad la cap) d p) (hw : ∀ n ∈ d.weights Try.prog 23, n ≤ reachBytes) :
    ∀ (a : Addr) (i : Nat) (e : Option Addr) (n c : Nat), ad = some a → i < la → W.cell? (a.add i) = some (.slice e n c) → n ≤ 140737488355328 := by
  intro a' i e n' c ha hi hc
  obtain ⟨fuel, hf⟩ := h
  rcases open_slice u_ssby hf with ⟨hcs, hx⟩ | ⟨a, len, cap', m, n, D, Pl, hcs, _, hl, hm, hmm, hx, hel⟩
  · simp [Value.cells] at hcs
    obtain ⟨rfl, rfl, rfl⟩ := hcs
    omega
  · simp [Value.cells] at hcs
    obtain ⟨rfl, rfl, rfl⟩ := hcs
    cases ha
    simp only [Prod.mk.injEq] at hx
    obtain ⟨rfl, rfl⟩ := hx
    simp only [if_true] at hmm
    obtain ⟨cs', h1, h2⟩ := hel i (by omega)
    rw [cells_sby] at h1
    obtain ⟨_, hlen, hcell⟩ := World.cells?_some h1
    have k0 := hcell 0 (by decide)
    rw [show (a'.add (i * 1)).add 0 = a'.add i by simp [Addr.add], hc] at k0
    have hin : ∀ n ∈ (D i).weights Try.prog 34, n ≤ reachBytes := fun n hn => hw n (by
      simp only [DataW.weights, u_ssby, List.mem_cons, List.mem_append]
      exact .inr (.inl (weights_all (List.mem_map.2 ⟨i, by simpa using hi, rfl⟩) n hn)))
    rcases open_slice u_sby h2 with ⟨hcs, hx⟩ | ⟨a2, len2, cap2, m2, n2, D2, Pl2, hcs, _, hl2, hm2, hmm2, hx2, hel2⟩
    · subst hcs
      simp at k0
      omega
    · subst hcs
      simp at k0
      obtain ⟨-, rfl, -⟩ := k0
      simp only [Prod.mk.injEq] at hx2
      rw [hx2.1] at hin
      have h3 := hin ((((List.range n').map D2).length + ((List.range (m2 - n')).map fun j => D2 (n' + j)).length) * Try.prog.bytesOf 5) (by simp [DataW.weights])
      rw [bytes_by] at h3
      simp [reachBytes] at h3
      omega
end Go.Proofs.Ytpppljlfljoccaa
