/- What is taken away is forgotten: many TLBs, and who has served. -/
import Derived.Test.YtdncendokbjnjaaSR
import Derived.Test.YtdncendokbjnjaaMH6
namespace Go.Proofs.Ytdncendokbjnjaa
open Go.RowKit
open C (Only hid Mem RMem Still ret_bool ret_int lo and_lo c_Place)
set_option linter.unusedVariables false
set_option maxRecDepth 100000

def ptrs (P : Nat → Nat) (k : Nat) : List Value := (List.range k).map fun i => Value.pointer (some ⟨P i, 0, none⟩)
theorem ptrs_len (P : Nat → Nat) (k : Nat) : (ptrs P k).length = k := by simp [ptrs]
theorem ptrs_add (P : Nat → Nat) (k : Nat) : ptrs P (k + 1) = ptrs P k ++ [.pointer (some ⟨P k, 0, none⟩)] := by simp [ptrs, List.range_succ]
theorem ptrs_at (P : Nat → Nat) (k i : Nat) (h : i < k) : (ptrs P k)[i]? = some (.pointer (some ⟨P i, 0, none⟩)) := by unfold ptrs; simp [h]
theorem ptrs_congr {P P' : Nat → Nat} {k : Nat} (h : ∀ i, i < k → P i = P' i) : ptrs P k = ptrs P' k := by
  unfold ptrs
  apply List.map_congr_left
  intro i hi
  rw [h i (by simpa using hi)]
/-- k TLBs in a list -/
structure Ts (W w : World) (u : Value) (k : Nat) (P G : Nat → Nat) (L : Nat → List E.TV) (room : Nat) : Prop where
  ls : w.ownsRow W.heap.size 79 1 u k (ptrs P k)
  tm : ∀ i, i < k → E.TM w (P i) (G i) room (L i)
  pi : ∀ i j, i < k → j < k → P i = P j → i = j
  gi : ∀ i j, i < k → j < k → G i = G j → i = j
  ge : ∀ i, i < k → W.heap.size ≤ P i ∧ W.heap.size ≤ G i
section
variable {W w w' : World} {u : Value} {k : Nat} {P G : Nat → Nat} {L : Nat → List E.TV} {room : Nat}
theorem Ts.pg (h : Ts W w u k P G L room) {i j : Nat} (hi : i < k) (hj : j < k) : P i ≠ G j := fun e => by
  have h1 := (h.tm i hi).top
  obtain ⟨Z, h2, -, -⟩ := (h.tm j hj).row
  unfold E.Rw at h2
  rw [e, h2] at h1
  simp at h1
theorem Ts.ft (h : Ts W w u k P G L room) {i j : Nat} (hi : i < k) (hj : j < k) (hij : i ≠ j) {x : Nat} (hx : E.Ft (P i) (G i) x) : ¬ E.Ft (P j) (G j) x := fun hy => by
  rcases hx with rfl | rfl <;> rcases hy with e | e
  · exact hij (h.pi _ _ hi hj e)
  · exact h.pg hi hj e
  · exact h.pg hj hi e.symm
  · exact hij (h.gi _ _ hi hj e)
theorem Ts.nu (h : Ts W w u k P G L room) {x : Nat} (hx : Ug u x) {i : Nat} (hi : i < k) : ¬ E.Ft (P i) (G i) x := fun hy => by
  obtain ⟨cur, hc⟩ := own_typ (own_zero h.ls) hx
  rcases hy with e | e
  · subst e; have := (h.tm i hi).top; rw [hc] at this; simp at this
  · subst e; obtain ⟨Z, h2, -, -⟩ := (h.tm i hi).row; unfold E.Rw at h2; rw [hc] at h2; simp at h2
theorem Ts.below (h : Ts W w u k P G L room) (hb : Below w.heap.size w w') : Ts W w' u k P G L room :=
  ⟨own_onlyB h.ls (T := fun _ => False) (.ofBelow hb) (fun _ _ z => z), fun i hi => (h.tm i hi).below hb, h.pi, h.gi, h.ge⟩
/-- one of them has turned (and blocks that are none of theirs) -/
theorem Ts.turn (h : Ts W w u k P G L room) {i : Nat} (hi : i < k) {l : List E.TV} {T : Nat → Prop} (ht : E.TM w' (P i) (G i) room l) (ho : Only (fun x => T x ∨ E.Ft (P i) (G i) x) w w') (hT : ∀ x c t, w.heap[x]? = some (.cells c t (0, 0)) → T x → t ≠ 185 ∧ t ≠ 92 ∧ t ≠ 79) : Ts W w' u k P G (fun j => if j = i then l else L j) room := by
  refine ⟨own_onlyB h.ls ho fun x hx z => ?_, fun j hj => ?_, h.pi, h.gi, h.ge⟩
  · rcases z with z | z
    · obtain ⟨cur, hc⟩ := own_typ (own_zero h.ls) hx
      exact (hT x _ _ hc z).2.2 rfl
    · exact h.nu hx hi z
  · by_cases e : j = i
    · subst e; rw [if_pos rfl]; exact ht
    · rw [if_neg e]
      refine (h.tm j hj).only ho fun x hx z => ?_
      rcases z with z | z
      · rcases hx with rfl | rfl
        · exact (hT _ _ _ (h.tm j hj).top z).1 rfl
        · obtain ⟨Z, h2, -, -⟩ := (h.tm j hj).row
          exact (hT _ _ _ h2 z).2.1 rfl
      · exact h.ft hj hi e hx z
theorem Ts.cell (h : Ts W w u k P G L room) {ad : Option Addr} {c : Nat} (hu : u = .slice ad k c) {i : Nat} (hi : i < k) : ∃ b, ad = some ⟨b, 0, none⟩ ∧ w.cell? ⟨b, i, none⟩ = some (.pointer (some ⟨P i, 0, none⟩)) := by
  obtain ⟨b, cp, cur, e1, e2, e3, e4, e5⟩ := C.own_some h.ls (by omega)
  rw [hu] at e1
  simp only [Value.slice.injEq] at e1
  refine ⟨b, e1.1, ?_⟩
  rw [cell_of_row w b i _ _ _ e3]
  have := ptrs_at P k i hi
  rw [← e5, List.getElem?_take_of_lt hi] at this
  simpa using this
end
theorem Ts.add {W w w2 w3 : World} {u u' : Value} {k : Nat} {P G : Nat → Nat} {L : Nat → List E.TV} {room tp tg : Nat} {l : List E.TV} (h : Ts W w u k P G L room) (hb : Below w.heap.size w w2) (ht : E.TM w2 tp tg room l) (hge : ∀ x, E.Ft tp tg x → w.heap.size ≤ x) (hz : W.heap.size ≤ w.heap.size) (ho : Only (Ug u) w2 w3) (hown : w3.ownsRow W.heap.size 79 1 u' (k + 1) (ptrs P k ++ [.pointer (some ⟨tp, 0, none⟩)])) : Ts W w3 u' (k + 1) (upd P k tp) (upd G k tg) (upd L k l) room := by
  have h2 := h.below hb
  have hp := hge tp (.inl rfl)
  have hg := hge tg (.inr rfl)
  have nt : ∀ x, E.Ft tp tg x → ¬ Ug u x := fun x hx hu => by
    obtain ⟨cur, hc⟩ := own_typ (own_zero h.ls) hu
    have := hge x hx
    have := lt_of_block hc
    omega
  have lt : ∀ i, i < k → P i < w.heap.size ∧ G i < w.heap.size := fun i hi => ⟨(h.tm i hi).lt (.inl rfl), (h.tm i hi).lt (.inr rfl)⟩
  refine ⟨?_, fun i hi => ?_, fun i j hi hj e => ?_, fun i j hi hj e => ?_, fun i hi => ?_⟩
  · rw [ptrs_add, upd_same, ptrs_congr (P := upd P k tp) (P' := P) (k := k) fun i hi => upd_other _ _ _ _ (by omega)]
    exact hown
  · by_cases e : i = k
    · subst e; rw [upd_same, upd_same, upd_same]; exact ht.only ho nt
    · rw [upd_other _ _ _ _ e, upd_other _ _ _ _ e, upd_other _ _ _ _ e]
      exact (h2.tm i (by omega)).only ho fun x hx hu => h2.nu hu (by omega) hx
  · by_cases e1 : i = k
    · by_cases e2 : j = k
      · omega
      · rw [e1, upd_same, upd_other _ _ _ _ e2] at e
        have := lt j (by omega); omega
    · by_cases e2 : j = k
      · rw [e2, upd_same, upd_other _ _ _ _ e1] at e
        have := lt i (by omega); omega
      · rw [upd_other _ _ _ _ e1, upd_other _ _ _ _ e2] at e
        exact h.pi i j (by omega) (by omega) e
  · by_cases e1 : i = k
    · by_cases e2 : j = k
      · omega
      · rw [e1, upd_same, upd_other _ _ _ _ e2] at e
        have := lt j (by omega); omega
    · by_cases e2 : j = k
      · rw [e2, upd_same, upd_other _ _ _ _ e1] at e
        have := lt i (by omega); omega
      · rw [upd_other _ _ _ _ e1, upd_other _ _ _ _ e2] at e
        exact h.gi i j (by omega) (by omega) e
  · by_cases e1 : i = k
    · rw [e1, upd_same, upd_same]; omega
    · rw [upd_other _ _ _ _ e1, upd_other _ _ _ _ e1]; exact h.ge i (by omega)
theorem info_pT : (Try.prog.info? 79).map (fun i => (i.zero, i.size, i.bytes)) = some (some (.pointer none), 1, 8) := by kernel_rfl
theorem u_spT : Try.prog.underlying 77 = some (.slice 79) := by kernel_rfl
/-- no entry of that VMID -/
def Nv (L : List E.TV) (v : Int) : Prop := ∀ x ∈ L, x.v ≠ v
theorem fl_nv (L : List E.TV) (v : Int) : Nv (E.fl L v) v := fun x hx => by
  unfold E.fl at hx
  have := (List.mem_filter.1 hx).2
  simpa using this
theorem vl_one : ∀ v : Fin 16, 1 ≤ (v : Nat) → vl (2 ^ (v : Nat)) 16 = [(v : Nat)] := by decide +kernel
theorem vl_zero : vl 0 16 = [] := by decide +kernel
/-- hart i has served, or is due that VMID -/
def Dq (d : Nat → Nat) (L : Nat → List E.TV) (v h m : Nat) : Prop := ∀ i, i < h → (d i = 0 ∧ Nv (L i) v) ∨ (d i = 2 ^ v ∧ m ≤ i)
theorem Dq.serve {d : Nat → Nat} {L : Nat → List E.TV} {v h m k : Nat} (H : Dq d L v h m) (v1 : 1 ≤ v) (v15 : v ≤ 15) (hk : k < h) {m' : Nat} (hm : m' = m ∨ (m' = m + 1 ∧ k = m)) : Dq (upd d k 0) (fun j => if j = k then fls (L k) (vl (d k) 16) else L j) v h m' := fun i hi => by
  by_cases e : i = k
  · subst e
    left
    refine ⟨upd_same _ _ _, ?_⟩
    dsimp only
    rw [if_pos rfl]
    rcases H i hi with ⟨z1, z2⟩ | ⟨z1, -⟩
    · rw [z1, vl_zero]; exact z2
    · rw [z1, vl_one ⟨v, by omega⟩ v1]
      exact fl_nv _ _
  · dsimp only
    rw [if_neg e, upd_other _ _ _ _ e]
    rcases H i hi with z | ⟨z1, z2⟩
    · exact .inl z
    · exact .inr ⟨z1, by omega⟩
/-- the law's state: the shootdowns, the TLBs -/
structure FgS (W w : World) (p g h : Nat) (d : Nat → Nat) (u : Value) (P G : Nat → Nat) (L : Nat → List E.TV) (room : Nat) : Prop where
  sh : Sh w p g h d
  ts : Ts W w u h P G L room
  new : Below W.heap.size W w
  pw : W.heap.size ≤ p
  gw : W.heap.size ≤ g
section
variable {W w w' : World} {p g h : Nat} {d : Nat → Nat} {u : Value} {P G : Nat → Nat} {L : Nat → List E.TV} {room : Nat}
theorem FgS.below (H : FgS W w p g h d u P G L room) (hb : Below w.heap.size w w') : FgS W w' p g h d u P G L room := ⟨H.sh.below hb, H.ts.below hb, H.new.trans (hb.mono H.new.size), H.pw, H.gw⟩
theorem FgS.ne (H : FgS W w p g h d u P G L room) {i : Nat} (hi : i < h) : p ≠ P i ∧ p ≠ G i ∧ g ≠ P i ∧ g ≠ G i := by
  have h1 := (H.ts.tm i hi).top
  obtain ⟨Z, h2, -, -⟩ := (H.ts.tm i hi).row
  unfold E.Rw at h2
  have h3 := H.sh.top
  have h4 := H.sh.tab
  refine ⟨fun e => ?_, fun e => ?_, fun e => ?_, fun e => ?_⟩
  · rw [e, h1] at h3; simp at h3
  · rw [e, h2] at h3; simp at h3
  · rw [e, h1] at h4; simp at h4
  · rw [e, h2] at h4; simp at h4
theorem FgS.put (H : FgS W w p g h d u P G L room) {i : Nat} (hi : i < h) {l : List E.TV} (ht : E.TM w' (P i) (G i) room l) (ho : Only (E.Ft (P i) (G i)) w w') : FgS W w' p g h d u P G (fun j => if j = i then l else L j) room := by
  have hn := H.ne hi
  refine ⟨H.sh.only ho (fun z => by rcases z with z | z <;> omega) (fun z => by rcases z with z | z <;> omega), H.ts.turn (T := fun _ => False) hi ht (ho.mono fun x _ hx => .inr hx) (fun x c t hx hz => hz.elim), H.new.trans (ho.below _ H.new.size fun x hx => ?_), H.pw, H.gw⟩
  have := H.ts.ge i hi
  rcases hx with rfl | rfl <;> omega
theorem FgS.serve (H : FgS W w p g h d u P G L room) {i : Nat} (hi : i < h) {l : List E.TV} {d' : Nat → Nat} (hs : Sh w' p g h d') (ht : E.TM w' (P i) (G i) room l) (ho : Only (fun x => x = g ∨ E.Ft (P i) (G i) x) w w') : FgS W w' p g h d' u P G (fun j => if j = i then l else L j) room := by
  refine ⟨hs, H.ts.turn (T := (· = g)) hi ht ho (fun x c t hx hz => ?_), H.new.trans (ho.below _ H.new.size fun x hx => ?_), H.pw, H.gw⟩
  · subst hz
    rw [H.sh.tab] at hx
    simp at hx
    rw [← hx.2]
    decide
  · have := H.ts.ge i hi
    rcases hx with rfl | rfl | rfl
    · exact H.gw
    · omega
    · omega
theorem FgS.post (H : FgS W w p g h d u P G L room) {d' : Nat → Nat} (hs : Sh w' p g h d') (ho : Only (· = g) w w') : FgS W w' p g h d' u P G L room := by
  have h4 := H.sh.tab
  refine ⟨hs, ⟨own_onlyB H.ts.ls ho fun x hx z => ?_, fun i hi => (H.ts.tm i hi).only ho fun x hx z => ?_, H.ts.pi, H.ts.gi, H.ts.ge⟩, H.new.trans (ho.below _ H.new.size fun x hx => by subst hx; exact H.gw), H.pw, H.gw⟩
  · subst z; obtain ⟨cur, hc⟩ := own_typ (own_zero H.ts.ls) hx; rw [hc] at h4; simp at h4
  · subst z
    have := H.ne hi
    rcases hx with z | z <;> omega
end
theorem es_cell {w : World} {base : Nat} {ad : Option Addr} {n c : Nat} {L : List E.TV} (h : E.Es w base (.slice ad n c) L) {i : Nat} {x : E.TV} (hx : L[i]? = some x) : ∃ b, ad = some ⟨b, 0, none⟩ ∧ w.cell? ⟨b, i * 4, none⟩ = some (.int .i64 x.v) := by
  have hi := (List.getElem?_eq_some_iff.1 hx).1
  have hf := E.flat_get L i x hx 0 (by decide)
  rcases h.2 with ⟨z, z0⟩ | ⟨g, cap, cur, h1, h2, h3, h4, h5, h6, h7⟩
  · omega
  · simp only [Value.slice.injEq] at h1
    refine ⟨g, h1.1, ?_⟩
    rw [cell_of_row w g _ _ _ _ h3]
    rw [← h7, List.getElem?_take_of_lt (by omega)] at hf
    simpa [E.TV.cs] using hf
end Go.Proofs.Ytdncendokbjnjaa
