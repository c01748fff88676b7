/- What is taken away is forgotten: many TLBs, and who has served. -/
import Derived.Test.YthfpoefpnoodiaaSR
import Derived.Test.YthfpoefpnoodiaaSSC
namespace Go.Proofs.Ythfpoefpnoodiaa
open Go.RowKit
open C (Only hid Mem RMem Still ret_bool ret_int lo and_lo c_Place)
set_option linter.unusedVariables false
set_option maxRecDepth 100000

def ptrs (P : Nat → Nat) (k : Nat) : List Value := (List.range k).map fun i => Value.pointer (some ⟨P i, 0, none⟩)
theorem ptrs_len (P : Nat → Nat) (k : Nat) : (ptrs P k).length = k := by simp [ptrs]
theorem ptrs_add (P : Nat → Nat) (k : Nat) : ptrs P (k + 1) = ptrs P k ++ [.pointer (some ⟨P k, 0, none⟩)] := by simp [ptrs, List.range_succ]
theorem ptrs_at (P : Nat → Nat) (k i : Nat) (h : i < k) : (ptrs P k)[i]? = some (.pointer (some ⟨P i, 0, none⟩)) := by unfold ptrs; simp [h]
theorem ptrs_congr {P P' : Nat → Nat} {k : Nat} (h : ∀ i, i < k → P i = P' i) : ptrs P k = ptrs P' k := by
  unfold ptrs
  apply List.map_congr_left
  intro i hi
  rw [h i (by simpa using hi)]
/-- k TLBs in a list -/
structure Ts (W w : World) (u : Value) (k : Nat) (P G : Nat → Nat) (L : Nat → List E.TV) (room : Nat) : Prop where
  ls : w.ownsRow W.heap.size 85 1 u k (ptrs P k)
  tm : ∀ i, i < k → E.TM w (P i) (G i) room (L i)
  pi : ∀ i j, i < k → j < k → P i = P j → i = j
  gi : ∀ i j, i < k → j < k → G i = G j → i = j
  ge : ∀ i, i < k → W.heap.size ≤ P i ∧ W.heap.size ≤ G i
section
variable {W w w' : World} {u : Value} {k : Nat} {P G : Nat → Nat} {L : Nat → List E.TV} {room : Nat}
theorem Ts.pg (h : Ts W w u k P G L room) {i j : Nat} (hi : i < k) (hj : j < k) : P i ≠ G j := fun e => by
  have h1 := (h.tm i hi).top
  obtain ⟨Z, h2, -, -⟩ := (h.tm j hj).row
  unfold E.Rw at h2
  rw [e, h2] at h1
  simp at h1
theorem Ts.ft (h : Ts W w u k P G L room) {i j : Nat} (hi : i < k) (hj : j < k) (hij : i ≠ j) {x : Nat} (hx : E.Ft (P i) (G i) x) : ¬ E.Ft (P j) (G j) x := fun hy => by
  rcases hx with rfl | rfl <;> rcases hy with e | e
  · exact hij (h.pi _ _ hi hj e)
  · exact h.pg hi hj e
  · exact h.pg hj hi e.symm
  · exact hij (h.gi _ _ hi hj e)
theorem Ts.nu (h : Ts W w u k P G L room) {x : Nat} (hx : Ug u x) {i : Nat} (hi : i < k) : ¬ E.Ft (P i) (G i) x := fun hy => by
  obtain ⟨cur, hc⟩ := own_typ (own_zero h.ls) hx
  rcases hy with e | e
  · subst e; have := (h.tm i hi).top; rw [hc] at this; simp at this
  · subst e; obtain ⟨Z, h2, -, -⟩ := (h.tm i hi).row; unfold E.Rw at h2; rw [hc] at h2; simp at h2
theorem Ts.below (h : Ts W w u k P G L room) (hb : Below w.heap.size w w') : Ts W w' u k P G L room :=
  ⟨own_onlyB h.ls (T := fun _ => False) (.ofBelow hb) (fun _ _ z => z), fun i hi => (h.tm i hi).below hb, h.pi, h.gi, h.ge⟩
/-- one of them has turned (and blocks that are none of theirs) -/
theorem Ts.turn (h : Ts W w u k P G L room) {i : Nat} (hi : i < k) {l : List E.TV} {T : Nat → Prop} (ht : E.TM w' (P i) (G i) room l) (ho : Only (fun x => T x ∨ E.Ft (P i) (G i) x) w w') (hT : ∀ x c t, w.heap[x]? = some (.cells c t (0, 0)) → T x → t ≠ 200 ∧ t ≠ 98 ∧ t ≠ 85) : Ts W w' u k P G (fun j => if j = i then l else L j) room := by
  refine ⟨own_onlyB h.ls ho fun x hx z => ?_, fun j hj => ?_, h.pi, h.gi, h.ge⟩
  · rcases z with z | z
    · obtain ⟨cur, hc⟩ := own_typ (own_zero h.ls) hx
      exact (hT x _ _ hc z).2.2 rfl
    · exact h.nu hx hi z
  · by_cases e : j = i
    · subst e; rw [if_pos rfl]; exact ht
    · rw [if_neg e]
      refine (h.tm j hj).only ho fun x hx z => ?_
      rcases z with z | z
      · rcases hx with rfl | rfl
        · exact (hT _ _ _ (h.tm j hj).top z).1 rfl
        · obtain ⟨Z, h2, -, -⟩ := (h.tm j hj).row
          exact (hT _ _ _ h2 z).2.1 rfl
      · exact h.ft hj hi e hx z
theorem Ts.cell (h : Ts W w u k P G L room) {ad : Option Addr} {c : Nat} (hu : u = .slice ad k c) {i : Nat} (hi : i < k) : ∃ b, ad = some ⟨b, 0, none⟩ ∧ w.cell? ⟨b, i, none⟩ = some (.pointer (some ⟨P i, 0, none⟩)) := by
  obtain ⟨b, cp, cur, e1, e2, e3, e4, e5⟩ := C.own_some h.ls (by omega)
  rw [hu] at e1
  simp only [Value.slice.injEq] at e1
  refine ⟨b, e1.1, ?_⟩
  rw [cell_of_row w b i _ _ _ e3]
  have := ptrs_at P k i hi
  rw [← e5, List.getElem?_take_of_lt hi] at this
  simpa using this
end
theorem Ts.add {W w w2 w3 : World} {u u' : Value} {k : Nat} {P G : Nat → Nat} {L : Nat → List E.TV} {room tp tg : Nat} {l : List E.TV} (h : Ts W w u k P G L room) (hb : Below w.heap.size w w2) (ht : E.TM w2 tp tg room l) (hge : ∀ x, E.Ft tp tg x → w.heap.size ≤ x) (hz : W.heap.size ≤ w.heap.size) (ho : Only (Ug u) w2 w3) (hown : w3.ownsRow W.heap.size 85 1 u' (k + 1) (ptrs P k ++ [.pointer (some ⟨tp, 0, none⟩)])) : Ts W w3 u' (k + 1) (upd P k tp) (upd G k tg) (upd L k l) room := by
  have h2 := h.below hb
  have hp := hge tp (.inl rfl)
  have hg := hge tg (.inr rfl)
  have nt : ∀ x, E.Ft tp tg x → ¬ Ug u x := fun x hx hu => by
    obtain ⟨cur, hc⟩ := own_typ (own_zero h.ls) hu
    have := hge x hx
    have := lt_of_block hc
    omega
  have lt : ∀ i, i < k → P i < w.heap.size ∧ G i < w.heap.size := fun i hi => ⟨(h.tm i hi).lt (.inl rfl), (h.tm i hi).lt (.inr rfl)⟩
  refine ⟨?_, fun i hi => ?_, fun i j hi hj e => ?_, fun i j hi hj e => ?_, fun i hi => ?_⟩
  · rw [ptrs_add, upd_same, ptrs_congr (P := upd P k tp) (P' := P) (k := k) fun i hi => upd_other _ _ _ _ (by omega)]
    exact hown
  · by_cases e : i = k
    · subst e; rw [upd_same, upd_same, upd_same]; exact ht.only ho nt
    · rw [upd_other _ _ _ _ e, upd_other _ _ _ _ e, upd_other _ _ _ _ e]
      exact (h2.tm i (by omega)).only ho fun x hx hu => h2.nu hu (by omega) hx
  · by_cases e1 : i = k
    · by_cases e2 : j = k
      · omega
      · rw [e1, upd_same, upd_other _ _ _ _ e2] at e
        have := lt j (by omega); omega
    · by_cases e2 : j = k
      · rw [e2, upd_same, upd_other _ _ _ _ e1] at e
        have := lt i (by omega); omega
      · rw [upd_other _ _ _ _ e1, upd_other _ _ _ _ e2] at e
        exact h.pi i j (by omega) (by omega) e
  · by_cases e1 : i = k
    · by_cases e2 : j = k
      · omega
      · rw [e1, upd_same, upd_other _ _ _ _ e2] at e
        have := lt j (by omega); omega
    · by_cases e2 : j = k
      · rw [e2, upd_same, upd_other _ _ _ _ e1] at e
        have := lt i (by omega); omega
      · rw [upd_other _ _ _ _ e1, upd_other _ _ _ _ e2] at e
        exact h.gi i j (by omega) (by omega) e
  · by_cases e1 : i = k
    · rw [e1, upd_same, upd_same]; omega
    · rw [upd_other _ _ _ _ e1, upd_other _ _ _ _ e1]; exact h.ge i (by omega)
theorem info_pT : (Try.prog.info? 85).map (fun i => (i.zero, i.size, i.bytes)) = some (some (.pointer none), 1, 8) := by kernel_rfl
theorem u_spT : Try.prog.underlying 83 = some (.slice 85) := by kernel_rfl
/-- no entry of that VMID -/
def Nv (L : List E.TV) (v : Int) : Prop := ∀ x ∈ L, x.v ≠ v
theorem fl_nv (L : List E.TV) (v : Int) : Nv (E.fl L v) v := fun x hx => by
  unfold E.fl at hx
  have := (List.mem_filter.1 hx).2
  simpa using this
theorem vl_one : ∀ v : Fin 16, 1 ≤ (v : Nat) → vl (2 ^ (v : Nat)) 16 = [(v : Nat)] := by decide +kernel
theorem vl_zero : vl 0 16 = [] := by decide +kernel
/-- hart i has served, or is due that VMID -/
def Dq (d : Nat → Nat) (L : Nat → List E.TV) (v h m : Nat) : Prop := ∀ i, i < h → (d i = 0 ∧ Nv (L i) v) ∨ (d i = 2 ^ v ∧ m ≤ i)
theorem Dq.serve {d : Nat → Nat} {L : Nat → List E.TV} {v h m k : Nat} (H : Dq d L v h m) (v1 : 1 ≤ v) (v15 : v ≤ 15) (hk : k < h) {m' : Nat} (hm : m' = m ∨ (m' = m + 1 ∧ k = m)) : Dq (upd d k 0) (fun j => if j = k then fls (L k) (vl (d k) 16) else L j) v h m' := fun i hi => by
  by_cases e : i = k
  · subst e
    left
    refine ⟨upd_same _ _ _, ?_⟩
    dsimp only
    rw [if_pos rfl]
    rcases H i hi with ⟨z1, z2⟩ | ⟨z1, -⟩
    · rw [z1, vl_zero]; exact z2
    · rw [z1, vl_one ⟨v, by omega⟩ v1]
      exact fl_nv _ _
  · dsimp only
    rw [if_neg e, upd_other _ _ _ _ e]
    rcases H i hi with z | ⟨z1, z2⟩
    · exact .inl z
    · exact .inr ⟨z1, by omega⟩
/-- the law's state: the shootdowns, the TLBs -/
structure FgS (W w : World) (p g h : Nat) (d : Nat → Nat) (u : Value) (P G : Nat → Nat) (L : Nat → List E.TV) (room : Nat) : Prop where
  sh : Sh w p g h d
  ts : Ts W w u h P G L room
  new : Below W.heap.size W w
  pw : W.heap.size ≤ p
  gw : W.heap.size ≤ g
section
variable {W w w' : World} {p g h : Nat} {d : Nat → Nat} {u : Value} {P G : Nat → Nat} {L : Nat → List E.TV} {room : Nat}
theorem FgS.below (H : FgS W w p g h d u P G L room) (hb : Below w.heap.size w w') : FgS W w' p g h d u P G L room := ⟨H.sh.below hb, H.ts.below hb, H.new.trans (hb.mono H.new.size), H.pw, H.gw⟩
theorem FgS.ne (H : FgS W w p g h d u P G L room) {i : Nat} (hi : i < h) : p ≠ P i ∧ p ≠ G i ∧ g ≠ P i ∧ g ≠ G i := by
  have h1 := (H.ts.tm i hi).top
  obtain ⟨Z, h2, -, -⟩ := (H.ts.tm i hi).row
  unfold E.Rw at h2
  have h3 := H.sh.top
  have h4 := H.sh.tab
  refine ⟨fun e => ?_, fun e => ?_, fun e => ?_, fun e => ?_⟩
  · rw [e, h1] at h3; simp at h3
  · rw [e, h2] at h3; simp at h3
  · rw [e, h1] at h4; simp at h4
  · rw [e, h2] at h4; simp at h4
theorem FgS.put (H : FgS W w p g h d u P G L room) {i : Nat} (hi : i < h) {l : List E.TV} (ht : E.TM w' (P i) (G i) room l) (ho : Only (E.Ft (P i) (G i)) w w') : FgS W w' p g h d u P G (fun j => if j = i then l else L j) room := by
  have hn := H.ne hi
  refine ⟨H.sh.only ho (fun z => by rcases z with z | z <;> omega) (fun z => by rcases z with z | z <;> omega), H.ts.turn (T := fun _ => False) hi ht (ho.mono fun x _ hx => .inr hx) (fun x c t hx hz => hz.elim), H.new.trans (ho.below _ H.new.size fun x hx => ?_), H.pw, H.gw⟩
  have := H.ts.ge i hi
  rcases hx with rfl | rfl <;> omega
theorem FgS.serve (H : FgS W w p g h d u P G L room) {i : Nat} (hi : i < h) {l : List E.TV} {d' : Nat → Nat} (hs : Sh w' p g h d') (ht : E.TM w' (P i) (G i) room l) (ho : Only (fun x => x = g ∨ E.Ft (P i) (G i) x) w w') : FgS W w' p g h d' u P G (fun j => if j = i then l else L j) room := by
  refine ⟨hs, H.ts.turn (T := (· = g)) hi ht ho (fun x c t hx hz => ?_), H.new.trans (ho.below _ H.new.size fun x hx => ?_), H.pw, H.gw⟩
  · subst hz
    rw [H.sh.tab] at hx
    simp at hx
    rw [← hx.2]
    decide
  · have := H.ts.ge i hi
    rcases hx with rfl | rfl | rfl
    · exact H.gw
    · omega
    · omega
theorem FgS.post (H : FgS W w p g h d u P G L room) {d' : Nat → Nat} (hs : Sh w' p g h d') (ho : Only (· = g) w w') : FgS W w' p g h d' u P G L room := by
  have h4 := H.sh.tab
  refine ⟨hs, ⟨own_onlyB H.ts.ls ho fun x hx z => ?_, fun i hi => (H.ts.tm i hi).only ho fun x hx z => ?_, H.ts.pi, H.ts.gi, H.ts.ge⟩, H.new.trans (ho.below _ H.new.size fun x hx => by subst hx; exact H.gw), H.pw, H.gw⟩
  · subst z; obtain ⟨cur, hc⟩ := own_typ (own_zero H.ts.ls) hx; rw [hc] at h4; simp at h4
  · subst z
    have := H.ne hi
    rcases hx with z | z <;> omega
end
theorem es_cell {w : World} {base : Nat} {ad : Option Addr} {n c : Nat} {L : List E.TV} (h : E.Es w base (.slice ad n c) L) {i : Nat} {x : E.TV} (hx : L[i]? = some x) : ∃ b, ad = some ⟨b, 0, none⟩ ∧ w.cell? ⟨b, i * 4, none⟩ = some (.int .i64 x.v) := by
  have hi := (List.getElem?_eq_some_iff.1 hx).1
  have hf := E.flat_get L i x hx 0 (by decide)
  rcases h.2 with ⟨z, z0⟩ | ⟨g, cap, cur, h1, h2, h3, h4, h5, h6, h7⟩
  · omega
  · simp only [Value.slice.injEq] at h1
    refine ⟨g, h1.1, ?_⟩
    rw [cell_of_row w g _ _ _ _ h3]
    rw [← h7, List.getElem?_take_of_lt (by omega)] at hf
    simpa [E.TV.cs] using hf
set_option maxHeartbeats 4000000 in
theorem w_StageForgets (W : World) (a0 : Int) (b0 : -9223372036854775808 ≤ a0) (b0' : a0 ≤ 9223372036854775807) (ad1 : Option Addr) (la1 cap1 ab1 ao1 : Nat) (X1 : Nat → ShoV) (hX1 : Shc W ad1 la1 cap1 ab1 ao1 X1) (a2 : Int) (b2 : -9223372036854775808 ≤ a2) (b2' : a2 ≤ 9223372036854775807) (ad3 : Option Addr) (la3 cap3 ab3 ao3 : Nat) (X3 : Nat → Int) (hX3 : Nu W ad3 la3 cap3 ab3 ao3 X3) (hla : la3 ≤ 17592186044416) :
    Calls Try.prog 7 #[.int .i64 a0, .slice ad1 la1 cap1, .int .i64 a2, .slice ad3 la3 cap3] W fun r w' => r = .returned (.bool true) ∧ Below W.heap.size W w' := by
  obtain ⟨i0, hi0, hz0, hz1, hz2⟩ := info_parts info_pT
  have hP0 := c_Place a0 8 (by decide) (by decide) b0 b0'
  have hP2 := c_Place a2 15 (by decide) (by decide) b2 b2'
  obtain ⟨h, hh⟩ : ∃ h : Nat, (h : Int) = 1 + a0 % 8 := ⟨(1 + a0 % 8).toNat, by omega⟩
  obtain ⟨v, hv⟩ : ∃ v : Nat, (v : Int) = 1 + a2 % 15 := ⟨(1 + a2 % 15).toNat, by omega⟩
  have h1 : 1 ≤ h := by omega
  have h8 : h ≤ 8 := by omega
  have v1 : 1 ≤ v := by omega
  have v15 : v ≤ 15 := by omega
  have hh' : 1 + a0 % 8 = (h : Int) := hh.symm
  have hv' : 1 + a2 % 15 = (v : Int) := hv.symm
  have hN := sh_New W h h1 h8
  have hT1 : ∀ w, Calls Try.prog 36 #[.int .i64 16] w fun e w' => ∃ p g, e = .returned (.tuple #[.pointer (some ⟨p, 0, none⟩), .int .i64 0]) ∧ E.TM w' p g 16 [] ∧ Below w.heap.size w w' ∧ ∀ k, E.Ft p g k → w.heap.size ≤ k := fun w => E.c_New w 16 (by decide) (by decide) 16 rfl
  have HX1 := hid hX1
  have HX3 := hid hX3
  have l1 := hX1.len
  have l1' := hX1.cap
  have l3 := hX3.len
  have l3' := hX3.cap
  clear hX1 hX3 hh hv
  go_enter Try.func7, Try.ntmps7
  have T1 : Hid True := trivial
  go_upto_region 8 with (first
    | (go_at_call 21; have t := T1; clear t T1; refine (hP0 _).mono ?_; rintro r w1 ⟨rfl, hw⟩; obtain rfl := hw.symm)
    | (go_at_call 21; refine (hP2 _).mono ?_; rintro r w1 ⟨rfl, hw⟩; obtain rfl := hw.symm)
    | (go_at_call 34; refine hN.mono ?_; rintro r w1 ⟨p, rfl, g, k1, k2, k3, k4⟩; have H1 := hid k1; have H2 := hid k2; have H3 := hid k3; have H4 := hid k4; clear k1 k2 k3 k4))
  go_loopw [13, 14, 15, 16] (fun u i x y wr => ∃ (k : Nat) (P G : Nat → Nat) (L : Nat → List E.TV), k ≤ h ∧ i = .int .i64 k ∧ Hid (Sh wr p g h (fun _ => 0) ∧ Ts W wr u k P G L 16 ∧ Below W.heap.size W wr)) (fun u i x y _ => h - (intOf i).toNat)
  case atStart => exact ⟨0, fun _ => 0, fun _ => 0, fun _ => [], by omega, rfl, H1.out, ⟨World.ownsRow_nil _ _ _ _, fun i hi => by omega, fun i j hi => by omega, fun i j hi => by omega, fun i hi => by omega⟩, H2.out⟩
  case round =>
    obtain ⟨k, P, G, L, hk, rfl, hI⟩ := hrel
    obtain ⟨ad, cp, rfl, had⟩ := own_sliceS hI.out.2.1.ls
    have HAD := hid had
    clear had
    by_cases hlt : k < h
    · have hT := hT1 wr
      go_upto_region 13 with (go_at_call 36; refine hT.mono ?_; rintro r w2 ⟨tp, tg, rfl, k1, k2, k3⟩; have K1 := hid k1; have K2 := hid k2; have K3 := hid k3; clear k1 k2 k3)
      have HD : Hid (∀ x, Below w2.heap.size w2 (w2.alloc x)) := fun x => (Below.refl _ _).alloc (Nat.le_refl _) x
      have HN := hid (one_cell w2 (.pointer (some ⟨tp, 0, none⟩)) 85)
      have hsz := hI.out.2.2.size
      have hs2 := K2.out.size
      have HO2 := hid (own_onlyB hI.out.2.1.ls (T := fun _ => False) (.ofBelow K2.out) (fun _ _ z => z))
      go_wp2_with (at_builtin; refine wpList_append_own _ rfl (.tmp 51) (.tmp 53) 83 rfl W.heap.size 85 i0 (.pointer none) 1 8 u_spT hi0 hz0 hz1 hz2 rfl (by decide) (.slice ad k cp) k (ptrs P k) rfl (own_old2 HO2.out (HD.out _).block) ⟨w2.heap.size, 0, none⟩ 1 1 [.pointer (some ⟨tp, 0, none⟩)] rfl rfl HN.out (by intro u hu; simp at hu; subst hu; rfl) (show k + 1 ≤ 9223372036854775807 by omega) (by omega) (by simp; omega) ?_; intro u' w3 hown hgrow _; have HO3 := hid hown; have HG3 : Hid (Only (Ug (.slice ad k cp)) w2 w3) := (Only.ofBelow (HD.out _)).trans (grown_ug hgrow); clear hown hgrow)
      go_roundw
      case rel =>
        have hug : ∀ x, Ug (.slice ad k cp) x → W.heap.size ≤ x := fun x hx => by
          cases ad with
          | none => cases hx
          | some a =>
            have h5 := HAD.out a rfl
            have h6 : a.block = x := by simpa [Ug, Value.ownBlock] using hx
            omega
        have hsh : ∀ x, x = p ∨ x = g → ¬ Ug (.slice ad k cp) x := fun x hx hu => by
          obtain ⟨cur, hc⟩ := own_typ (own_zero hI.out.2.1.ls) hu
          rcases hx with rfl | rfl
          · have := hI.out.1.top; rw [hc] at this; simp at this
          · have := hI.out.1.tab; rw [hc] at this; simp at this
        exact ⟨k + 1, upd P k tp, upd G k tg, upd L k [], by omega, by go_num, (hI.out.1.below K2.out).only HG3.out (hsh p (.inl rfl)) (hsh g (.inr rfl)), hI.out.2.1.add K2.out K1.out K3.out hsz HG3.out HO3.out, hI.out.2.2.trans ((K2.out.mono hsz).trans (HG3.out.below _ (by omega) hug))⟩
      case measure => first | (simp [intOf]; done) | (simp [intOf]; omega)
    · obtain rfl : k = h := by omega
      have HF : Hid (FgS W wr p g k (fun _ => 0) (.slice ad k cp) P G L 16) := ⟨hI.out.1, hI.out.2.1, hI.out.2.2, H3.out, H4.out⟩
      clear hI hN hP0 hP2
      go_upto_region 15 with fail
      go_loopw [17] (fun i wr2 => ∃ (n : Nat) (L : Nat → List E.TV), n ≤ la1 ∧ i = .int .i64 n ∧ Hid (FgS W wr2 p g k (fun _ => 0) (.slice ad k cp) P G L 16)) (fun i _ => la1 - (intOf i).toNat)
      case atStart => exact ⟨0, L, by omega, rfl, HF.out⟩
      case round =>
        obtain ⟨n, L, hn, rfl, hI⟩ := hrel
        by_cases hlt1 : n < la1
        · have hX := HX1.out.below hI.out.new
          have had1 := (HX1.out.at0 (by omega)).1
          have q1 := hX.cell n hlt1 1 (by decide)
          have q2 := hX.cell n hlt1 2 (by decide)
          have q3 := hX.cell n hlt1 3 (by decide)
          have hnum := hX.num n hlt1
          have hb1 := hnum.hart
          have hb2 := hnum.vmid
          have hb3 := hnum.page
          generalize X1 n = xx at q1 q2 q3 hb1 hb2 hb3
          obtain ⟨xk, xh, xv, xp⟩ := xx
          simp only [ShoV.cs] at q1 q2 q3 hb1 hb2 hb3
          obtain ⟨j, hj⟩ : ∃ j : Nat, (j : Int) = xh % (k : Int) := ⟨(xh % (k : Int)).toNat, by have := Int.emod_nonneg xh (show (k : Int) ≠ 0 by omega); omega⟩
          have hjk : j < k := by have := Int.emod_lt_of_pos xh (show (0 : Int) < k by omega); omega
          have hPl := c_Place xh k (by omega) (by omega) hb1.1 hb1.2
          rw [← hj] at hPl
          obtain ⟨bt, rfl, hcp⟩ := hI.out.ts.cell rfl hjk
          have hPu : ∀ n, Calls Try.prog 42 #[.pointer (some ⟨P j, 0, none⟩), .agg #[.int .i64 xv, .int .u64 xp, .int .u64 3, .int .i64 2]] (wr.drewN n) fun r w' => r = .returned (.tuple #[]) ∧ E.TM w' (P j) (G j) 16 (E.pu 16 (L j) ⟨xv, xp, 3, 2⟩) ∧ Only (E.Ft (P j) (G j)) wr w' := fun n => ((E.c_Put (wr.drewN n) (P j) (G j) 16 (L j) ((hI.out.ts.tm j hjk).drewN n) ⟨xv, xp, 3, 2⟩).mono fun r w' z => ⟨z.1, z.2.1, only_dn z.2.2⟩)
          subst had1
          have HPu := hid hPu
          clear hj hX hnum hb1 hb2 hb3 hPu
          go_wp2_with fail
          refine wp_region_last_lit (by simp) (by kernel_rfl) (by kernel_rfl) (by kernel_rfl) ?_
          simp only [List.dropLast, List.getLast]
          repeat (go_big_quiet_step (first | (go_at_call 21; exact Calls.quiet_of_same (hPl _))))
          refine wpQuiet_nil ?_
          intro _ hwq
          obtain ⟨nq, hwq⟩ := hwq
          subst hwq
          have hPq := HPu.out nq
          go_wp2_with (go_at_call 42; refine hPq.mono ?_; rintro r w4 ⟨rfl, k1, k2⟩; have K1 := hid k1; have K2 := hid k2; clear k1 k2)
          go_roundw
          case rel => exact ⟨n + 1, _, by omega, by go_num, hI.out.put hjk K1.out K2.out⟩
          case measure => first | (simp [intOf]; done) | (simp [intOf]; omega)
        · obtain rfl : n = la1 := by omega
          have hPo := sh_Post wr p g k (fun _ => 0) hI.out.sh v v1 v15
          go_upto_region 20 with (go_at_call 38; refine hPo.mono ?_; rintro r w4 ⟨rfl, k1, k2⟩; have HF4 := hid (hI.out.post k1 k2); clear k1 k2)
          clear hPo hI
          have HQ0 : Hid (Dq (pst (fun _ => 0) v k) L v k 0) := fun i hi => by
            right
            refine ⟨?_, Nat.zero_le _⟩
            show (if i < k then orB 0 v else 0) = _
            rw [if_pos hi]
            unfold orB
            rw [Nat.zero_or]
          go_loopw [18, 19] (fun i kk wr3 => ∃ (m : Nat) (d : Nat → Nat) (L : Nat → List E.TV), m ≤ la3 + k ∧ i = .int .i64 m ∧ Hid (FgS W wr3 p g k d (.slice ad k cp) P G L 16 ∧ Dq d L v k (m - la3))) (fun i kk _ => la3 + k - (intOf i).toNat)
          case atStart => exact ⟨0, _, L, by omega, rfl, HF4.out, by rw [Nat.zero_sub]; exact HQ0.out⟩
          case round =>
            obtain ⟨m, d, L, hm, rfl, hI⟩ := hrel
            by_cases hlt3 : m < la3 + k
            · by_cases hlo : m < la3
              · have hc := (HX3.out.below hI.out.1.new).cell m hlo
                have had3 := (HX3.out.at0 (by omega)).1
                have hb := HX3.out.num m
                generalize X3 m = xo at hc hb
                obtain ⟨j, hj⟩ : ∃ j : Nat, (j : Int) = xo % (k : Int) := ⟨(xo % (k : Int)).toNat, by have := Int.emod_nonneg xo (show (k : Int) ≠ 0 by omega); omega⟩
                have hjk : j < k := by have := Int.emod_lt_of_pos xo (show (0 : Int) < k by omega); omega
                have hPl := c_Place xo k (by omega) (by omega) hb.1 hb.2
                rw [← hj] at hPl
                obtain ⟨bt, rfl, hcp⟩ := hI.out.1.ts.cell rfl hjk
                have hne := hI.out.1.ne hjk
                have hS := sh_Serve wr p g k d hI.out.1.sh j hjk (P j) (G j) 16 (L j) (hI.out.1.ts.tm j hjk) hne.1 hne.2.1 hne.2.2.1 hne.2.2.2
                subst had3
                have HQ1 := hid (hI.out.2.serve v1 v15 hjk (m' := m + 1 - la3) (.inl (by omega)))
                have hsm : (m : Int) < (la3 : Int) + (k : Int) := by omega
                clear hj hb hne
                go_wp2_with (first
                  | (go_at_call 21; refine (hPl _).mono ?_; rintro r w5 ⟨rfl, hw⟩; obtain rfl := hw.symm)
                  | (go_at_call 40; refine hS.mono ?_; rintro r w5 ⟨rfl, k1, k2, k3⟩; have HF5 := hid (hI.out.1.serve hjk k1 k2 k3); clear k1 k2 k3))
                go_roundw
                case rel => exact ⟨m + 1, _, _, by omega, by go_num, HF5.out, HQ1.out⟩
                case measure => first | (simp [intOf]; done) | (simp [intOf]; omega)
              · obtain ⟨j, hj⟩ : ∃ j : Nat, m = la3 + j := ⟨m - la3, by omega⟩
                have hjk : j < k := by omega
                have hjm : (m : Int) - (la3 : Int) = (j : Int) := by omega
                obtain ⟨bt, rfl, hcp⟩ := hI.out.1.ts.cell rfl hjk
                have hne := hI.out.1.ne hjk
                have hS := sh_Serve wr p g k d hI.out.1.sh j hjk (P j) (G j) 16 (L j) (hI.out.1.ts.tm j hjk) hne.1 hne.2.1 hne.2.2.1 hne.2.2.2
                have HQ1 := hid (hI.out.2.serve v1 v15 hjk (m' := m + 1 - la3) (.inr ⟨by omega, by omega⟩))
                have hsm : (m : Int) < (la3 : Int) + (k : Int) := by omega
                have HJ := hid hj
                clear hj hne
                go_wp2_with (go_at_call 40; refine hS.mono ?_; rintro r w5 ⟨rfl, k1, k2, k3⟩; have HF5 := hid (hI.out.1.serve hjk k1 k2 k3); clear k1 k2 k3)
                go_roundw
                case rel => exact ⟨m + 1, _, _, by omega, by go_num, HF5.out, HQ1.out⟩
                case measure => first | (simp [intOf]; done) | (simp [intOf]; omega)
            · obtain rfl : m = la3 + k := by omega
              have HN : Hid (∀ i, i < k → d i = 0 ∧ Nv (L i) v) := fun i hi => (hI.out.2 i hi).resolve_right (fun z => by have := z.2; omega)
              have HF6 := hid hI.out.1
              have hgs : ¬ (((la3 + k : Nat) : Int) < (la3 : Int) + (k : Int)) := by omega
              clear hI
              go_upto_region 27 with fail
              go_loopw [20, 21, 22] (fun i l e wr4 => ∃ m : Nat, m ≤ k ∧ i = .int .i64 m ∧ Hid (FgS W wr4 p g k d (.slice ad k cp) P G L 16)) (fun i l e _ => k - (intOf i).toNat)
              case atStart => exact ⟨0, by omega, rfl, HF6.out⟩
              case round =>
                obtain ⟨m, hm4, rfl, hI⟩ := hrel
                by_cases hlt4 : m < k
                · obtain ⟨bt, rfl, hcp⟩ := hI.out.ts.cell rfl hlt4
                  have hE := E.c_Entries wr (P m) (G m) 16 (L m) (hI.out.ts.tm m hlt4)
                  have hlen := (hI.out.ts.tm m hlt4).len
                  go_upto_region 31 with (go_at_call 45; refine hE.mono ?_; rintro r w5 ⟨val, rfl, k1, k2⟩; have K1 := hid k1; have HF5 := hid (hI.out.below k2); obtain ⟨ad5, cp5, rfl, -⟩ := own_sliceS k1; clear k1 k2)
                  clear hE
                  go_loopw [22] (fun e wr5 => ∃ n : Nat, n ≤ (L m).length ∧ e = .int .i64 n ∧ wr5 = w5) (fun e _ => (L m).length - (intOf e).toNat)
                  case atStart => exact ⟨0, by omega, rfl, rfl⟩
                  case round =>
                    obtain ⟨n, hn5, rfl, hw5⟩ := hrel
                    obtain rfl := hw5.symm
                    by_cases hlt5 : n < (L m).length
                    · obtain ⟨x, hx⟩ : ∃ x, (L m)[n]? = some x := ⟨(L m)[n], List.getElem?_eq_getElem hlt5⟩
                      obtain ⟨b5, had5, hc5⟩ := es_cell K1.out hx
                      subst had5
                      have hne : (x.v == (v : Int)) = false := by
                        rw [beq_eq_false_iff_ne]
                        exact (HN.out m hlt4).2 x (List.mem_of_getElem? hx)
                      clear hx
                      go_wp2_with fail
                      go_roundw
                      case rel => exact ⟨n + 1, by omega, by go_num, trivial⟩
                      case measure => first | (simp [intOf]; done) | (simp [intOf]; omega)
                    · obtain rfl : n = (L m).length := by omega
                      go_wp2_with fail
                      go_roundw
                      case rel => exact ⟨m + 1, by omega, by go_num, HF5.out⟩
                      case measure => first | (simp [intOf]; done) | (simp [intOf]; omega)
                · obtain rfl : m = k := by omega
                  have hId := sh_Idle wr p g m d hI.out.sh true ⟨fun _ => rfl, fun _ i hi => (HN.out i hi).1⟩
                  have hAw := l_awake10 wr
                  go_wp2_with (first
                    | (go_at_call 48; refine hId.mono ?_; rintro r w6 ⟨rfl, hw6⟩; obtain rfl := hw6.symm)
                    | (go_at_call 13; refine hAw.mono ?_; rintro r w7 ⟨rfl, k1⟩; have K2 := hid k1; clear k1))
                  go_ret
                  exact ⟨rfl, hI.out.new.trans (K2.out.mono hI.out.new.size)⟩
end Go.Proofs.Ythfpoefpnoodiaa
