/- The document's serves; what a hart is due. -/
import Derived.Test.YtdncendokbjnjaaSHB
import Derived.Test.YtdncendokbjnjaaHQ
import Derived.Test.YtdncendokbjnjaaMC4
namespace Go.Proofs.Ytdncendokbjnjaa
open Go.RowKit
open C (Only hid Mem RMem Still ret_bool ret_int)
set_option linter.unusedVariables false
set_option maxRecDepth 100000

set_option maxHeartbeats 4000000 in
theorem hh_Serve (w : World) (q gh h : Nat) (V : Nat → Value) (D : Nat → List Nat) (H : Hs w q gh h V D) (k : Nat) (hk : k < h) (tq room : Nat) (v : Value) (L : List E.TV) (ht : E.RM w tq room v L) : Calls Try.prog 33 #[.pointer (some ⟨q, 0, none⟩), .int .i64 k, .pointer (some ⟨tq, 0, none⟩)] w fun r w' => r = .returned (.int .i64 (D k).length) ∧ Hs w' q gh h (fun i => if i = k then .slice none 0 0 else V i) (fun i => if i = k then [] else D i) ∧ (∃ v', E.RM w' tq room v' (fls L (D k)) ∧ ∀ x, v'.ownBlock = some x → v.ownBlock = some x ∨ w.heap.size ≤ x) ∧ Only (fun x => x = gh ∨ x = tq) w w' := by
  have c0 := H.c0
  have cv := H.cv hk
  have h8 := H.h8
  have hl := H.ls k hk
  have hd := H.dl k
  have HH := hid H
  have HT := hid ht
  generalize hV : V k = u at cv hl
  obtain ⟨ad, cp, rfl⟩ := own_form hl
  have HL := hid hl
  have HV := hid hV
  clear H ht hl hV
  have g1 : ¬ (k : Int) < 0 := by omega
  have g2 : ¬ (h : Int) ≤ (k : Int) := by omega
  go_enter Try.func33, Try.ntmps33
  go_wp2_with fail
  go_loopw [8] (fun c wr => ∃ (j : Nat) (v' : Value), j ≤ (D k).length ∧ c = .int .i64 j ∧ Hid (Hs wr q gh h V D ∧ E.RM wr tq room v' (fls L ((D k).take j)) ∧ (∀ x, v'.ownBlock = some x → v.ownBlock = some x ∨ w.heap.size ≤ x) ∧ Only (· = tq) w wr)) (fun c _ => (D k).length - (intOf c).toNat)
  case atStart => exact ⟨0, v, by omega, rfl, HH.out, by rw [List.take_zero]; exact HT.out, fun _ z => .inl z, .refl _⟩
  case round =>
    obtain ⟨j, v', hj, rfl, hI⟩ := hrel
    have x0 := hI.out.1.c0
    have x1 := hI.out.1.cv hk
    rw [HV.out] at x1
    by_cases hlt : j < (D k).length
    · have hl2 := hI.out.1.ls k hk
      rw [HV.out] at hl2
      obtain ⟨b, cp', cur, e1, e2, e3, e4, e5⟩ := C.own_some hl2 (by omega)
      simp only [Value.slice.injEq] at e1
      obtain ⟨rfl, -, rfl⟩ := e1
      obtain ⟨x, hx⟩ : ∃ x, (D k)[j]? = some x := ⟨(D k)[j], List.getElem?_eq_getElem hlt⟩
      have cx : wr.cell? ⟨b, j, none⟩ = some (.int .i64 (x : Int)) := by
        rw [cell_of_row wr b j _ _ _ e3]
        have : (lsv (D k))[j]? = some (.int .i64 (x : Int)) := by unfold lsv; rw [List.getElem?_map, hx]; rfl
        rw [← e5, List.getElem?_take_of_lt hlt] at this
        simpa using this
      have hF := E.r_Flush wr tq room v' _ hI.out.2.1 (x : Int)
      have ht1 : (D k).take (j + 1) = (D k).take j ++ [x] := by rw [List.take_add_one, hx]; rfl
      rw [← fls_add, ← ht1] at hF
      clear hl2 e2 e3 e4 e5 ht1
      go_wp2_with (go_at_call 94; refine hF.mono ?_; rintro r w4 ⟨rfl, v2, h1, h2, h3⟩; have H5 := hid h1; have H6 := hid h2; have H7 := hid h3; clear h1 h2 h3)
      go_roundw
      case rel => exact ⟨j + 1, v2, by omega, by go_num, hI.out.1.only H6.out (fun y c t hy e => by
          have e' : y = tq := e
          rw [e', hI.out.2.1.top] at hy
          simp at hy
          obtain ⟨-, rfl⟩ := hy
          exact ⟨by decide, by decide, by decide⟩), H5.out, (fun y hy => .inr (Nat.le_trans hI.out.2.2.2.size (H7.out y hy))), hI.out.2.2.2.trans H6.out⟩
      case measure => first | (simp [intOf]; done) | (simp [intOf]; omega)
    · have hje : j = (D k).length := by omega
      have fz := hI.out.1.fz k
      have HJ : Hid ((D k).take j = D k) := by rw [hje]; exact List.take_length
      clear hje
      go_wp2_with fail
      go_ret
      have hs := hI.out.1.set hk (u := .slice none 0 0) (l := []) (World.ownsRow_nil _ _ _ _) (Nat.zero_le _)
      have hr := hI.out.2.1
      rw [HJ.out] at hr
      have ho := only_c wr gh k (.slice none 0 0)
      refine ⟨rfl, hs, ⟨v', hr.only ho (fun e => ?_) (fun y hy e => ?_), hI.out.2.2.1⟩, (hI.out.2.2.2.mono fun y _ e => .inr e).trans (ho.mono fun y _ e => .inl e)⟩
      · have := hI.out.1.tab; rw [← e, hr.top] at this; simp at this
      · obtain ⟨c, hc⟩ := hr.es.block hy
        have := hI.out.1.tab
        rw [← e, hc] at this
        simp at this
/-- what the program's tells -/
theorem sh_Due (w : World) (p g h : Nat) (d : Nat → Nat) (H : Sh w p g h d) (k : Nat) (hk : k < h) : Calls Try.prog 39 #[.pointer (some ⟨p, 0, none⟩), .int .i64 k] w fun r w' => ∃ u, r = .returned u ∧ w'.ownsRow w.heap.size 3 1 u (vl (d k) 16).length (lsv (vl (d k) 16)) ∧ Below w.heap.size w w' := by
  have hh := sh_has w p g h d H (k : Int)
  rw [show (decide (0 ≤ (k : Int)) && decide ((k : Int) < (h : Int))) = true by simp; omega] at hh
  have c0 := H.c0
  have h8 := H.h8
  have ed := H.cd k hk
  have hdl := H.dl k
  have hV := x_vmidsOf w (d k) (by omega)
  have hl := run_call_load (P := Try.prog) Try.func136 (by kernel_rfl) (by kernel_rfl) (by kernel_rfl) .u64 (by kernel_rfl) ed
  clear H
  go_enter Try.func39, Try.ntmps39
  go_wp2_with (first
    | (go_at_call 90; refine hh.mono ?_; rintro r w1 ⟨rfl, hw⟩; obtain rfl := hw.symm)
    | (go_at_call 91; refine hV.mono ?_; rintro r w3 ⟨u, rfl, h1, h2⟩; have H1 := hid h1; have H2 := hid h2; clear h1 h2)
    | (go_at_call 99; go_in))
  go_ret
  exact ⟨_, rfl, H1.out, H2.out⟩
theorem sh_Due_no (w : World) (p g h : Nat) (d : Nat → Nat) (H : Sh w p g h d) (x : Int) (hx : (decide (0 ≤ x) && decide (x < (h : Int))) = false) : Calls Try.prog 39 #[.pointer (some ⟨p, 0, none⟩), .int .i64 x] w fun r w' => r = .returned (.slice none 0 0) ∧ w' = w := by
  have hh := sh_has w p g h d H x
  rw [hx] at hh
  clear H
  go_enter Try.func39, Try.ntmps39
  go_wp2_with (go_at_call 90; refine hh.mono ?_; rintro r w1 ⟨rfl, hw⟩; obtain rfl := hw.symm)
  go_ret
  exact ⟨rfl, rfl⟩
end Go.Proofs.Ytdncendokbjnjaa
namespace Go.Proofs.Ytdncendokbjnjaa
open Go.RowKit
open C (Only hid Mem RMem Still ret_bool ret_int)
set_option linter.unusedVariables false
set_option maxRecDepth 100000

namespace E2
open Go.Proofs.Ytdncendokbjnjaa.E
theorem here_comm {x y : TV} : x.here y.v y.p = y.here x.v x.p := by
  unfold TV.here
  by_cases a : x.v = y.v
  · by_cases b : x.p = y.p
    · simp [a, b]
    · have : ¬ y.p = x.p := fun e => b e.symm
      simp [a, b, this]
  · have : ¬ y.v = x.v := fun e => a e.symm
    simp [a, this]
theorem fp_at {L : List TV} (h : Nd L) {j : Nat} {y : TV} (hy : L[j]? = some y) : fp L y.v y.p = L.take j ++ L.drop (j + 1) := by
  induction L generalizing j with
  | nil => simp at hy
  | cons z L ih =>
    obtain ⟨h1, h2⟩ := List.pairwise_cons.1 h
    cases j with
    | zero =>
      simp at hy
      subst hy
      have e : fp (z :: L) z.v z.p = fp L z.v z.p := by simp [fp, TV.here]
      rw [e]
      simp
      unfold fp
      rw [List.filter_eq_self]
      intro a ha
      rw [here_comm, h1 a ha]; rfl
    | succ j =>
      have hy' : L[j]? = some y := by simpa using hy
      have hz : z.here y.v y.p = false := h1 y (List.mem_of_getElem? hy')
      have e : fp (z :: L) y.v y.p = z :: fp L y.v y.p := by simp [fp, hz]
      rw [e, ih h2 hy']
      simp
theorem rp_pu {room : Nat} {L : List TV} (h : Nd L) (hl : L.length ≤ room) (e : TV) : rp room L e = pu room L e := by
  unfold rp pu
  have hle := fp_le L e.v e.p
  have hn := Nd.fp h e.v e.p
  generalize fp L e.v e.p = M at *
  by_cases hm : M.length = room
  · rw [if_pos (by omega), if_pos hm]
    cases M with
    | nil => rfl
    | cons y M =>
      have := fp_at hn (j := 0) (y := y) rfl
      show _ = fp (y :: M) y.v y.p ++ [e]
      rw [this]
      simp
  · rw [if_neg (by omega), if_neg hm]
end E2
theorem vl_nil {n : Nat} (h1 : n < 65536) (h2 : n % 2 = 0) : vl n 16 = [] ↔ n = 0 := by
  refine ⟨fun h => Nat.eq_of_testBit_eq fun j => ?_, fun h => by rw [h]; exact vl_zero⟩
  rw [Nat.zero_testBit]
  by_cases hj : j < 16
  · rw [Nat.testBit_eq_decide_div_mod_eq]
    by_cases h0 : j = 0
    · subst h0; simp; omega
    · have hm := (vl_mem n 16 j)
      rw [h] at hm
      simp at hm
      have := hm (by omega) hj
      simp; omega
  · exact Nat.testBit_lt_two_pow (Nat.lt_of_lt_of_le h1 (show 2 ^ 16 ≤ 2 ^ j from Nat.pow_le_pow_right (by decide) (by omega)))
theorem pe_len (n vm : Nat) (v1 : 1 ≤ vm) (v15 : vm ≤ 15) : (peF vm (vl n 16)).length ≤ 16 := by rw [pe_vl n vm v1 v15]; exact vl_len _ 16
theorem vl_len15 (n : Nat) : ∀ k, (vl n (k + 1)).length ≤ k
  | 0 => by rw [vl_no (by omega)]; exact Nat.le_refl _
  | k + 1 => by
    have := vl_len15 n k
    by_cases h : 1 ≤ k + 1 ∧ n / 2 ^ (k + 1) % 2 = 1
    · rw [vl_yes h.1 h.2]; simp; omega
    · rw [vl_no h]; omega
structure Sb (W w : World) (p g h : Nat) (d : Nat → Nat) (u : Value) (P G : Nat → Nat) (L : Nat → List E.TV) (q gh : Nat) (V : Nat → Value) (uu : Value) (Q : Nat → Nat) (VV : Nat → Value) : Prop where
  f : FgS W w p g h d u P G L 8
  hs : Hs w q gh h V (fun i => vl (d i) 16)
  rl : w.ownsRow 0 82 1 uu h (ptrs Q h)
  rm : ∀ i, i < h → E.RM w (Q i) 8 (VV i) (L i)
  qi : ∀ i j, i < h → j < h → Q i = Q j → i = j
  vg : ∀ i j, i < h → j < h → (VV i).ownBlock ≠ some (G j)
  nd : ∀ i, i < h → E.Nd (L i) ∧ (L i).length ≤ 8
  ghw : W.heap.size ≤ gh
  qw : ∀ i, i < h → W.heap.size ≤ Q i
  ev : ∀ i, d i % 2 = 0
section
variable {W w w' : World} {p g h : Nat} {d d' : Nat → Nat} {u uu : Value} {P G Q : Nat → Nat} {L : Nat → List E.TV} {q gh : Nat} {V VV : Nat → Value}
theorem Sb.below (S : Sb W w p g h d u P G L q gh V uu Q VV) (hb : Below w.heap.size w w') : Sb W w' p g h d u P G L q gh V uu Q VV :=
  ⟨S.f.below hb, S.hs.below hb, own_below S.rl hb, fun i hi => (S.rm i hi).below hb, S.qi, S.vg, S.nd, S.ghw, S.qw, S.ev⟩
/-- a block of the program's has turned -/
theorem Sb.rmP (S : Sb W w p g h d u P G L q gh V uu Q VV) {i : Nat} (hi : i < h) {T : Nat → Prop} (ho : Only T w w') (hT : ∀ x, T x → x = g ∨ (∃ j, j < h ∧ E.Ft (P j) (G j) x)) : E.RM w' (Q i) 8 (VV i) (L i) := by
  refine (S.rm i hi).only ho (fun z => ?_) (fun x hx z => ?_)
  · rcases hT _ z with e | ⟨j, hj, e | e⟩
    · have := S.f.sh.tab; rw [← e, (S.rm i hi).top] at this; simp at this
    · have := (S.f.ts.tm j hj).top; rw [← e, (S.rm i hi).top] at this; simp at this
    · obtain ⟨Z, h2, -, -⟩ := (S.f.ts.tm j hj).row
      unfold E.Rw at h2
      rw [← e, (S.rm i hi).top] at h2; simp at h2
  · obtain ⟨c, hc⟩ := (S.rm i hi).es.block hx
    rcases hT _ z with e | ⟨j, hj, e | e⟩
    · have := S.f.sh.tab; rw [← e, hc] at this; simp at this
    · have := (S.f.ts.tm j hj).top; rw [← e, hc] at this; simp at this
    · exact S.vg i j hi hj (by rw [hx, e])
theorem Sb.tyP (S : Sb W w p g h d u P G L q gh V uu Q VV) {x : Nat} (hx : x = g ∨ (∃ j, j < h ∧ E.Ft (P j) (G j) x)) {c : Array Value} {t : TypeId} (hc : w.heap[x]? = some (.cells c t (0, 0))) : t = 138 ∨ t = 185 ∨ t = 92 := by
  rcases hx with e | ⟨j, hj, e | e⟩
  · have := S.f.sh.tab; rw [← e, hc] at this; simp at this; exact .inl this.2
  · have := (S.f.ts.tm j hj).top; rw [← e, hc] at this; simp at this; exact .inr (.inl this.2)
  · obtain ⟨Z, h2, -, -⟩ := (S.f.ts.tm j hj).row
    unfold E.Rw at h2
    rw [← e, hc] at h2; simp at h2; exact .inr (.inr h2.2)
theorem Sb.hsP (S : Sb W w p g h d u P G L q gh V uu Q VV) {T : Nat → Prop} (ho : Only T w w') (hT : ∀ x, T x → x = g ∨ (∃ j, j < h ∧ E.Ft (P j) (G j) x)) : Hs w' q gh h V (fun i => vl (d i) 16) ∧ w'.ownsRow 0 82 1 uu h (ptrs Q h) := by
  refine ⟨S.hs.only ho fun x c t hx z => ?_, own_only S.rl ho fun x hx z => ?_⟩
  · rcases S.tyP (hT x z) hx with rfl | rfl | rfl <;> exact ⟨by decide, by decide, by decide⟩
  · obtain ⟨c, hc⟩ := own_typ S.rl hx
    rcases S.tyP (hT x z) hc with e | e | e <;> exact absurd e (by decide)
/-- a block of the document's has turned: the program's stand -/
theorem Sb.fD (S : Sb W w p g h d u P G L q gh V uu Q VV) {T : Nat → Prop} (ho : Only T w w') (hT : ∀ x, T x → x = gh ∨ (∃ j, j < h ∧ x = Q j)) : FgS W w' p g h d u P G L 8 ∧ w'.ownsRow 0 82 1 uu h (ptrs Q h) := by
  have ty : ∀ x c t, w.heap[x]? = some (.cells c t (0, 0)) → T x → t = 58 ∨ t = 100 := fun x c t hc z => by
    rcases hT x z with e | ⟨j, hj, e⟩
    · have := S.hs.tab; rw [← e, hc] at this; simp at this; exact .inl this.2
    · have := (S.rm j hj).top; rw [← e, hc] at this; simp at this; exact .inr this.2
  have no : ∀ x c t, w.heap[x]? = some (.cells c t (0, 0)) → t ≠ 58 → t ≠ 100 → ¬ T x := fun x c t hc h1 h2 z => (ty x c t hc z).elim h1 h2
  refine ⟨⟨S.f.sh.only ho (no _ _ _ S.f.sh.top (by decide) (by decide)) (no _ _ _ S.f.sh.tab (by decide) (by decide)), ⟨own_onlyB S.f.ts.ls ho fun x hx => ?_, fun i hi => (S.f.ts.tm i hi).only ho fun x hx => ?_, S.f.ts.pi, S.f.ts.gi, S.f.ts.ge⟩, S.f.new.trans (ho.below _ S.f.new.size fun x hx => ?_), S.f.pw, S.f.gw⟩, own_only S.rl ho fun x hx => ?_⟩
  · obtain ⟨c, hc⟩ := own_typ (own_zero S.f.ts.ls) hx
    exact no _ _ _ hc (by decide) (by decide)
  · rcases hx with e | e
    · rw [e]; exact no _ _ _ (S.f.ts.tm i hi).top (by decide) (by decide)
    · obtain ⟨Z, h2, -, -⟩ := (S.f.ts.tm i hi).row
      rw [e]; exact no _ _ _ h2 (by decide) (by decide)
  · rcases hT x hx with e | ⟨j, hj, e⟩
    · rw [e]; exact S.ghw
    · rw [e]; exact S.qw j hj
  · obtain ⟨c, hc⟩ := own_typ S.rl hx
    exact no _ _ _ hc (by decide) (by decide)
theorem sb_Post (S : Sb W w p g h d u P G L q gh V uu Q VV) (x : Int) : Calls Try.prog 30 #[.pointer (some ⟨p, 0, none⟩), .int .i64 x] w fun r w1 => r = .returned (.tuple #[]) ∧ Only (· = g) w w1 ∧ Calls Try.prog 31 #[.pointer (some ⟨q, 0, none⟩), .int .i64 x] w1 fun r w2 => r = .returned (.tuple #[]) ∧ ∃ d' V', Sb W w2 p g h d' u P G L q gh V' uu Q VV := by
  by_cases hx : 1 ≤ x ∧ x ≤ 15
  · obtain ⟨vm, rfl⟩ : ∃ vm : Nat, x = vm := ⟨x.toNat, by omega⟩
    refine (sh_Post w p g h d S.f.sh vm (by omega) (by omega)).mono ?_
    rintro r w1 ⟨rfl, k1, k2⟩
    refine ⟨rfl, k2, ?_⟩
    have f1 := S.f.post k1 k2
    obtain ⟨h1, rl1⟩ := S.hsP k2 (fun y hy => .inl hy)
    have rm1 := fun i hi => S.rmP (i := i) hi k2 (fun y hy => .inl hy)
    have S1 : Sb W w1 p g h d u P G L q gh V uu Q VV → True := fun _ => trivial
    refine (hh_Post w1 q gh h V _ h1 vm (by omega) (by omega) (fun i => vl_len15 _ 15) (fun i => pe_len _ _ (by omega) (by omega))).mono ?_
    rintro r w2 ⟨rfl, ⟨V', k3⟩, k4⟩
    have hT : ∀ y, y = gh → ∀ c t, w1.heap[y]? = some (.cells c t (0, 0)) → t = 58 := fun y e c t hc => by
      have := h1.tab; rw [← e, hc] at this; simp at this; exact this.2
    have no : ∀ y c t, w1.heap[y]? = some (.cells c t (0, 0)) → t ≠ 58 → ¬ y = gh := fun y c t hc hn e => hn (hT y e c t hc)
    refine ⟨rfl, pst d vm h, V', ⟨⟨k1.only k4 (no _ _ _ k1.top (by decide)) (no _ _ _ k1.tab (by decide)), ⟨own_onlyB f1.ts.ls k4 fun y hy => ?_, fun i hi => (f1.ts.tm i hi).only k4 fun y hy => ?_, f1.ts.pi, f1.ts.gi, f1.ts.ge⟩, f1.new.trans (k4.below _ f1.new.size fun y hy => ?_), f1.pw, f1.gw⟩, ?_, own_only rl1 k4 fun y hy => ?_, fun i hi => (rm1 i hi).only k4 (no _ _ _ (rm1 i hi).top (by decide)) fun y hy => ?_, S.qi, S.vg, S.nd, S.ghw, S.qw, fun i => ?_⟩⟩
    · obtain ⟨c, hc⟩ := own_typ (own_zero f1.ts.ls) hy
      exact no _ _ _ hc (by decide)
    · rcases hy with e | e
      · rw [e]; exact no _ _ _ (f1.ts.tm i hi).top (by decide)
      · obtain ⟨Z, h2, -, -⟩ := (f1.ts.tm i hi).row
        rw [e]; exact no _ _ _ h2 (by decide)
    · have e : y = gh := hy
      rw [e]; exact S.ghw
    · have e : (fun i => if i < h then peF vm (vl (d i) 16) else vl (d i) 16) = fun i => vl (pst d vm h i) 16 := by
        funext i
        unfold pst
        by_cases hi : i < h
        · rw [if_pos hi, if_pos hi]; exact pe_vl _ _ (by omega) (by omega)
        · rw [if_neg hi, if_neg hi]
      rw [← e]; exact k3
    · obtain ⟨c, hc⟩ := own_typ rl1 hy
      exact no _ _ _ hc (by decide)
    · obtain ⟨c, hc⟩ := (rm1 i hi).es.block hy
      exact no _ _ _ hc (by decide)
    · unfold pst
      by_cases hi : i < h
      · rw [if_pos hi]
        have hb := bit_or (d i) vm 0
        have he := S.ev i
        simp at hb
        omega
      · rw [if_neg hi]; exact S.ev i
  · refine (sh_Post_no w p x (by unfold vmOk; simp; omega)).mono ?_
    rintro r w1 ⟨rfl, rfl⟩
    refine ⟨rfl, .refl _, (hh_Post_no w1 q x (by omega)).mono ?_⟩
    rintro r w2 ⟨rfl, rfl⟩
    exact ⟨rfl, d, V, S⟩
end
end Go.Proofs.Ytdncendokbjnjaa
namespace Go.Proofs.Ytdncendokbjnjaa
open Go.RowKit
open C (Only hid Mem RMem Still ret_bool ret_int)
set_option linter.unusedVariables false
set_option maxRecDepth 100000

theorem fls_nd {L : List E.TV} (h : E.Nd L) : ∀ l, E.Nd (fls L l)
  | [] => h
  | v :: l => fls_nd (E.Nd.fl h (v : Int)) l
theorem FgS.doc {W w w' : World} {p g h : Nat} {d : Nat → Nat} {u : Value} {P G : Nat → Nat} {L : Nat → List E.TV} {room : Nat} (S : FgS W w p g h d u P G L room) {T : Nat → Prop} (ho : Only T w w') (ty : ∀ x c t, w.heap[x]? = some (.cells c t (0, 0)) → T x → t = 58 ∨ t = 100) (hW : ∀ x, T x → W.heap.size ≤ x) : FgS W w' p g h d u P G L room := by
  have no : ∀ x c t, w.heap[x]? = some (.cells c t (0, 0)) → t ≠ 58 → t ≠ 100 → ¬ T x := fun x c t hc h1 h2 z => (ty x c t hc z).elim h1 h2
  refine ⟨S.sh.only ho (no _ _ _ S.sh.top (by decide) (by decide)) (no _ _ _ S.sh.tab (by decide) (by decide)), ⟨own_onlyB S.ts.ls ho fun x hx => ?_, fun i hi => (S.ts.tm i hi).only ho fun x hx => ?_, S.ts.pi, S.ts.gi, S.ts.ge⟩, S.new.trans (ho.below _ S.new.size hW), S.pw, S.gw⟩
  · obtain ⟨c, hc⟩ := own_typ (own_zero S.ts.ls) hx
    exact no _ _ _ hc (by decide) (by decide)
  · rcases hx with e | e
    · rw [e]; exact no _ _ _ (S.ts.tm i hi).top (by decide) (by decide)
    · obtain ⟨Z, h2, -, -⟩ := (S.ts.tm i hi).row
      rw [e]; exact no _ _ _ h2 (by decide) (by decide)
section
variable {W w w' w1 w2 : World} {p g h : Nat} {d d' : Nat → Nat} {u uu : Value} {P G Q : Nat → Nat} {L L' : Nat → List E.TV} {q gh : Nat} {V V' VV : Nat → Value}
/-- the document's own has turned behind the program's -/
theorem Sb.done (S : Sb W w p g h d u P G L q gh V uu Q VV) {T : Nat → Prop} (hO : Only T w w1) (hT : ∀ x, T x → x = g ∨ (∃ j, j < h ∧ E.Ft (P j) (G j) x)) {k : Nat} (hk : k < h) (l : List E.TV) (f1 : FgS W w1 p g h d' u P G (fun j => if j = k then l else L j) 8) {T2 : Nat → Prop} (hO2 : Only T2 w1 w2) (hT2 : ∀ x, T2 x → x = gh ∨ x = Q k) (hs2 : Hs w2 q gh h V' (fun i => vl (d' i) 16)) (v' : Value) (r2 : E.RM w2 (Q k) 8 v' l) (hv : ∀ x, v'.ownBlock = some x → (VV k).ownBlock = some x ∨ w1.heap.size ≤ x) (hnd : E.Nd l) (hev : ∀ i, d' i % 2 = 0) : Sb W w2 p g h d' u P G (fun j => if j = k then l else L j) q gh V' uu Q (fun j => if j = k then v' else VV j) := by
  obtain ⟨h1, rl1⟩ := S.hsP hO hT
  have rm1 := fun i hi => S.rmP (i := i) hi hO hT
  have ty : ∀ x c t, w1.heap[x]? = some (.cells c t (0, 0)) → T2 x → t = 58 ∨ t = 100 := fun x c t hc z => by
    rcases hT2 x z with e | e
    · have := h1.tab; rw [← e, hc] at this; simp at this; exact .inl this.2
    · have := (rm1 k hk).top; rw [← e, hc] at this; simp at this; exact .inr this.2
  have no : ∀ x c t, w1.heap[x]? = some (.cells c t (0, 0)) → t ≠ 58 → t ≠ 100 → ¬ T2 x := fun x c t hc h1 h2 z => (ty x c t hc z).elim h1 h2
  refine ⟨f1.doc hO2 ty (fun x hx => ?_), hs2, own_only rl1 hO2 fun x hx => ?_, fun i hi => ?_, S.qi, fun i j hi hj => ?_, fun i hi => ⟨?_, (f1.ts.tm i hi).len⟩, S.ghw, S.qw, hev⟩
  · rcases hT2 x hx with e | e
    · rw [e]; exact S.ghw
    · rw [e]; exact S.qw k hk
  · obtain ⟨c, hc⟩ := own_typ rl1 hx
    exact no _ _ _ hc (by decide) (by decide)
  · by_cases e : i = k
    · rw [if_pos e, if_pos e, e]; exact r2
    · rw [if_neg e, if_neg e]
      refine (rm1 i hi).only hO2 (fun z => ?_) fun x hx => ?_
      · rcases hT2 _ z with e2 | e2
        · have := h1.tab; rw [← e2, (rm1 i hi).top] at this; simp at this
        · exact e (S.qi i k hi hk e2)
      · obtain ⟨c, hc⟩ := (rm1 i hi).es.block hx
        exact no _ _ _ hc (by decide) (by decide)
  · by_cases e : i = k
    · rw [if_pos e]
      intro z
      rcases hv _ z with y | y
      · exact S.vg k j hk hj y
      · have := (f1.ts.tm j hj).lt (.inr rfl); omega
    · rw [if_neg e]; exact S.vg i j hi hj
  · by_cases e : i = k
    · rw [if_pos e]; exact hnd
    · rw [if_neg e]; exact (S.nd i hi).1
theorem sb_Serve (S : Sb W w p g h d u P G L q gh V uu Q VV) (k : Nat) (hk : k < h) : Calls Try.prog 32 #[.pointer (some ⟨p, 0, none⟩), .int .i64 k, .pointer (some ⟨P k, 0, none⟩)] w fun r w1 => r = .returned (.int .i64 (vl (d k) 16).length) ∧ Only (fun x => x = g ∨ E.Ft (P k) (G k) x) w w1 ∧ Calls Try.prog 33 #[.pointer (some ⟨q, 0, none⟩), .int .i64 k, .pointer (some ⟨Q k, 0, none⟩)] w1 fun r w2 => r = .returned (.int .i64 (vl (d k) 16).length) ∧ ∃ d' L' V' VV', Sb W w2 p g h d' u P G L' q gh V' uu Q VV' := by
  obtain ⟨n1, n2, n3, n4⟩ := S.f.ne hk
  refine (sh_Serve w p g h d S.f.sh k hk (P k) (G k) 8 (L k) (S.f.ts.tm k hk) n1 n2 n3 n4).mono ?_
  rintro r w1 ⟨rfl, k1, k2, k3⟩
  have hT : ∀ x, (x = g ∨ E.Ft (P k) (G k) x) → x = g ∨ (∃ j, j < h ∧ E.Ft (P j) (G j) x) := fun x hx => hx.imp id fun z => ⟨k, hk, z⟩
  have f1 := S.f.serve hk k1 k2 k3
  obtain ⟨h1, rl1⟩ := S.hsP k3 hT
  refine ⟨rfl, k3, (hh_Serve w1 q gh h V _ h1 k hk (Q k) 8 (VV k) (L k) (S.rmP hk k3 hT)).mono ?_⟩
  rintro r w2 ⟨rfl, k4, ⟨v', k5, k6⟩, k7⟩
  have e : (fun i => if i = k then [] else vl (d i) 16) = fun i => vl (upd d k 0 i) 16 := by
    funext i
    by_cases e : i = k
    · rw [if_pos e, e, upd_same]; exact vl_zero.symm
    · rw [if_neg e, upd_other _ _ _ _ e]
  rw [e] at k4
  refine ⟨rfl, _, _, _, _, S.done k3 hT hk _ f1 k7 (fun x hx => hx) k4 v' k5 k6 (fls_nd (S.nd k hk).1 _) fun i => ?_⟩
  by_cases e : i = k
  · rw [e, upd_same]
  · rw [upd_other _ _ _ _ e]; exact S.ev i
theorem sb_Put (S : Sb W w p g h d u P G L q gh V uu Q VV) (k : Nat) (hk : k < h) (e : E.TV) : Calls Try.prog 34 #[.pointer (some ⟨P k, 0, none⟩), e.ag] w fun r w1 => r = .returned (.tuple #[]) ∧ Only (E.Ft (P k) (G k)) w w1 ∧ ∀ w1', Below w1.heap.size w1 w1' → Calls Try.prog 35 #[.pointer (some ⟨Q k, 0, none⟩), e.ag] w1' fun r w2 => r = .returned (.tuple #[]) ∧ ∃ L' VV', Sb W w2 p g h d u P G L' q gh V uu Q VV' := by
  refine (E.c_Put w (P k) (G k) 8 (L k) (S.f.ts.tm k hk) e).mono ?_
  rintro r w1 ⟨rfl, k1, k2⟩
  refine ⟨rfl, k2, fun w1' hb => ?_⟩
  have ho : Only (E.Ft (P k) (G k)) w w1' := k2.trans (.ofBelow hb)
  have hT : ∀ x, E.Ft (P k) (G k) x → x = g ∨ (∃ j, j < h ∧ E.Ft (P j) (G j) x) := fun x hx => .inr ⟨k, hk, hx⟩
  have f1 := S.f.put hk (k1.below hb) ho
  have hr := E.r_Put w1' (Q k) 8 (VV k) (L k) (S.rmP hk ho hT) (by decide) (S.nd k hk).2 e
  rw [E2.rp_pu (S.nd k hk).1 (S.nd k hk).2] at hr
  obtain ⟨h1, rl1⟩ := S.hsP ho hT
  refine hr.mono ?_
  rintro r w2 ⟨rfl, v', k5, k6, k7⟩
  refine ⟨rfl, _, _, S.done ho hT hk _ f1 k6 (fun x hx => .inr hx) (h1.only k6 fun x c t hx hz => ?_) v' k5 (fun x hx => .inr (k7 x hx)) (E.Nd.pu (S.nd k hk).1 8 e) S.ev⟩
  have z : x = Q k := hz
  rw [z, (S.rmP hk ho hT).top] at hx
  simp at hx
  obtain ⟨-, rfl⟩ := hx
  exact ⟨by decide, by decide, by decide⟩
end
theorem own_cellL {w : World} {base : Nat} {l : List Nat} {ad : Option Addr} {n c : Nat} (h : w.ownsRow base 3 1 (.slice ad n c) l.length (lsv l)) {i : Nat} (hi : i < l.length) : ∃ b x, ad = some ⟨b, 0, none⟩ ∧ l[i]? = some x ∧ w.cell? ⟨b, i, none⟩ = some (.int .i64 (x : Int)) := by
  obtain ⟨b, cp', cur, e1, e2, e3, e4, e5⟩ := C.own_some h (by omega)
  simp only [Value.slice.injEq] at e1
  obtain ⟨x, hx⟩ : ∃ x, l[i]? = some x := ⟨l[i], List.getElem?_eq_getElem hi⟩
  refine ⟨b, x, e1.1, hx, ?_⟩
  rw [cell_of_row w b i _ _ _ e3]
  have : (lsv l)[i]? = some (.int .i64 (x : Int)) := by unfold lsv; rw [List.getElem?_map, hx]; rfl
  rw [← e5, List.getElem?_take_of_lt hi] at this
  simpa using this
set_option maxHeartbeats 1000000 in
theorem l_SameInts (w : World) (l : List Nat) (hl : l.length ≤ 16) (base base2 : Nat) (ua ub : Value) (h1 : w.ownsRow base 3 1 ua l.length (lsv l)) (h2 : w.ownsRow base2 3 1 ub l.length (lsv l)) : Calls Try.prog 38 #[ua, ub] w fun r w' => r = .returned (.bool true) ∧ Still w w' := by
  obtain ⟨ad, cp, rfl⟩ := own_form (own_zero h1)
  obtain ⟨ad2, cp2, rfl⟩ := own_form (own_zero h2)
  have H1 := hid h1
  have H2 := hid h2
  clear h1 h2
  go_enter Try.func38, Try.ntmps38
  go_wp2_with fail
  go_loopw [5] (fun i wr => ∃ j : Nat, j ≤ l.length ∧ i = .int .i64 j ∧ Still w wr) (fun i _ => l.length - (intOf i).toNat)
  case atStart => exact ⟨0, by omega, rfl, .refl w⟩
  case round =>
    obtain ⟨j, hj, rfl, hst⟩ := hrel
    have HS := hid hst
    have HC := hid hst.cell
    clear hst
    by_cases hlt : j < l.length
    · obtain ⟨b, x, rfl, hx, c1⟩ := own_cellL H1.out hlt
      obtain ⟨b2, x2, rfl, hx2, c2⟩ := own_cellL H2.out hlt
      obtain rfl : x = x2 := by rw [hx] at hx2; exact Option.some.inj hx2
      rw [← HC.out] at c1 c2
      clear hx hx2
      go_wp2_with fail
      go_region
      go_wp2_with fail
      go_roundw
      case rel => exact ⟨j + 1, by omega, by go_num, HS.out.drew⟩
      case measure => first | (simp [intOf]; done) | (simp [intOf]; omega)
    · go_wp2_with fail
      go_ret
      exact ⟨rfl, HS.out⟩
end Go.Proofs.Ytdncendokbjnjaa
namespace Go.Proofs.Ytdncendokbjnjaa
open Go.RowKit
set_option linter.unusedVariables false

def Lk (n k : Nat) : Array Bool := ((List.range n).map fun j => decide (j < k)).toArray
theorem Lk_size (n k : Nat) : (Lk n k).size = n := by simp [Lk]
theorem Lk_zero (n : Nat) : Array.replicate n false = Lk n 0 := by
  apply Array.ext
  · simp [Lk]
  · intro i h1 h2; simp [Lk]
theorem Lk_get (n k j : Nat) (hj : j < n) : (Lk n k).getD j true = decide (j < k) := by simp [Lk, hj]
theorem Lk_set (n k : Nat) (hk : k < n) : (Lk n k).setIfInBounds k true = Lk n (k + 1) := by
  apply Array.ext
  · simp [Lk]
  · intro i h1 h2
    have hi : i < n := by simpa [Lk] using h2
    rw [Array.getElem_setIfInBounds]
    · split
      · rename_i e; subst e; simp [Lk]
      · rename_i e; simp [Lk]; omega
    · simpa [Lk] using hi
section
variable {P : Program} {ops : Array Oper} {md : Region.Mode} {C : World → Prop}
def wpAnyM (P : Program) (md : Region.Mode) (ops : Array Oper) (C : World → Prop) (z : Nat) (Q : Act → Prop) : Nat → Array Bool → Act → Prop
  | 0, listed, a => listed = Lk ops.size z ∧ Q a
  | fuel + 1, listed, a => Region.ready md ops listed ≠ [] ∧ ∀ i ∈ Region.ready md ops listed, qOp P ops C i (wpAnyM P md ops C z Q fuel (listed.setIfInBounds i true)) a
theorem wpAny_of_mid {z m : Nat} {Q : Act → Prop} {Q' : Exit → Act → World → Prop} (hz : Region.ready md ops (Lk ops.size z) = [z]) (hQ : ∀ a w, C w → Q a → wpOp P ops Q' z (fun a' w' => wpAny P md ops Q' m ((Lk ops.size z).setIfInBounds z true) a' w') a w) : ∀ (fuel : Nat) (listed : Array Bool) (a : Act) (w : World), C w →
    wpAnyM P md ops C z Q fuel listed a → wpAny P md ops Q' (fuel + 1 + m) listed a w
  | 0, listed, a, w, hw, h => by
    obtain ⟨rfl, h3⟩ := h
    rw [show 0 + 1 + m = m + 1 by omega]
    refine ⟨fun h0 => (by rw [hz] at h0; cases h0), fun i hi => ?_⟩
    rw [hz] at hi
    obtain rfl : i = z := by simpa using hi
    exact hQ a w hw h3
  | fuel + 1, listed, a, w, hw, h => by
    rw [show fuel + 1 + 1 + m = (fuel + 1 + m) + 1 by omega]
    exact ⟨fun h0 => absurd h0 h.1, fun i hi => wpOp_of_qOp hw (fun a' w' hw' => wpAny_of_mid hz hQ fuel _ a' w' hw') (h.2 i hi)⟩
theorem wpAnyM_first {z : Nat} {Q : Act → Prop} {i : Nat} {oi : Oper} {v : Value} (hz : Region.ready md ops (Lk ops.size z) = [z]) (hc : covB md ops z = true) (hiz : i < z) (hi : ops[i]? = some oi) (hsel : ∀ (j : Nat) (o : Oper) cs b, ops[j]? = some o → o.op ≠ .select cs b) :
    ∀ (fuel : Nat) (listed : Array Bool) (a : Act), Dn md ops listed →
      (∀ j oj, ops[j]? = some oj → j ≠ i → listed.getD j true = false → (∀ e ∈ oj.after, Region.binds md e = true → e.on ≠ i) → oi.apart ops oj = true) →
      i ∈ Region.ready md ops listed → YieldsIn P ops C oi v a →
      wpAnyM P md ops C z Q fuel (listed.setIfInBounds i true) (a.put oi.dst v) → wpAnyM P md ops C z Q (fuel + 1) listed a := by
  have hzn : ∀ listed : Array Bool, Dn md ops listed → i ∈ Region.ready md ops listed → z ∉ Region.ready md ops listed := fun listed hd hr hz => by
    have h1 := last_ready hc hd hz i hiz
    have h0 := (mem_ready.1 hr).1
    have hl : i < listed.size := by
      rcases Nat.lt_or_ge i listed.size with q | q
      · exact q
      · simp [Array.getElem?_eq_none q] at h1
    simp [hl] at h0 h1
    rw [h0] at h1
    cases h1
  intro fuel
  induction fuel with
  | zero =>
    intro listed a hd _ hr hy H
    refine ⟨fun h => (by rw [h] at hr; cases hr), fun j hj => ?_⟩
    by_cases hji : j = i
    · subst hji; exact hy.qOp hi H
    · exfalso
      have h1 := ready_mono hj hji
      rw [H.1, hz] at h1
      obtain rfl : j = z := by simpa using h1
      exact hzn listed hd hr hj
  | succ fuel ih =>
    intro listed a hd hfree hr hy H
    refine ⟨fun h => (by rw [h] at hr; cases hr), fun j hj => ?_⟩
    by_cases hji : j = i
    · subst hji; exact hy.qOp hi H
    · have h1 := H.2 j (ready_mono hj hji)
      obtain ⟨hjun, oj, hoj, hall⟩ := mem_ready.1 hj
      have hnot : ∀ e ∈ oj.after, Region.binds md e = true → e.on ≠ i := fun e he hb heq => by
        have h1 := hall e he hb
        have h0 := (mem_ready.1 hr).1
        rw [heq] at h1
        rcases Nat.lt_or_ge i listed.size with h' | h'
        · simp [h'] at h0 h1; rw [h0] at h1; cases h1
        · simp [Array.getElem?_eq_none h'] at h1
      have h2 := qOp_put hoj (hfree j oj hoj hji hjun hnot) (fun cs b => hsel i oi cs b hi) (fun cs b => hsel j oj cs b hoj) hy h1
      have hfree' : ∀ k ok, ops[k]? = some ok → k ≠ i → (listed.setIfInBounds j true).getD k true = false →
          (∀ e ∈ ok.after, Region.binds md e = true → e.on ≠ i) → oi.apart ops ok = true := fun k ok hk hki hun hno => by
        refine hfree k ok hk hki ?_ hno
        by_cases hjk : j = k
        · subst hjk; exact hjun
        · rw [getD_set_ne true hjk] at hun; exact hun
      refine qOp_mono (fun a' h3 => ih (listed.setIfInBounds j true) a' (hd.set hj) hfree' (ready_mono hr (Ne.symm hji)) h3.1 ?_) h2
      rw [Array.setIfInBounds_comm _ _ hji]
      exact h3.2
theorem wpAnyM_lex {z m : Nat} {Q : Act → Prop} (hz : Region.ready md ops (Lk ops.size z) = [z]) (hc : covB md ops z = true) (hs : Region.noSelect ops = true) (hzs : z < ops.size) : ∀ (l : List Oper) (k : Nat) (listed : Array Bool) (a : Act), k + l.length = z → (∀ j, j < l.length → l[j]? = ops[k + j]?) → Dn md ops listed →
    listed = Lk ops.size k → Region.lexFrom md ops (l.length + m) k listed = true → wpQuiet P ops C Q l a → wpAnyM P md ops C z Q l.length listed a ∧ Region.lexFrom md ops m z (Lk ops.size z) = true
  | [], k, listed, a, hk, _, hd, hb, hB, h => by
    simp only [List.length_nil, Nat.add_zero] at hk
    subst hk
    simp only [List.length_nil, Nat.zero_add] at hB
    exact ⟨⟨hb, h⟩, by rw [← hb]; exact hB⟩
  | o :: l, k, listed, a, hk, hl, hd, hb, hB, h => by
    have h0 : ops[k]? = some o := by simpa using (hl 0 (by simp)).symm
    simp only [List.length_cons] at hB hk
    rw [show l.length + 1 + m = (l.length + m) + 1 by omega, Region.lexFrom] at hB
    simp only [Bool.and_eq_true] at hB
    obtain ⟨⟨hr, hf⟩, hB'⟩ := hB
    have hr' : k ∈ Region.ready md ops listed := by simpa using hr
    have hst : qOp P ops C k (wpQuiet P ops C Q l) a := by unfold qOp; simp only [h0]; exact h
    obtain ⟨v, hy, hK⟩ := yieldsIn_of_qOp h0 hst
    have ih := wpAnyM_lex hz hc hs hzs l (k + 1) _ (a.put o.dst v) (by omega) (fun j hj => by have := hl (j + 1) (by simp; omega); simpa [Nat.add_assoc, Nat.add_comm 1 j] using this) (hd.set hr') (by rw [hb]; exact Lk_set _ _ (by omega)) hB' hK
    exact ⟨wpAnyM_first hz hc (by omega) h0 (Region.noSelect_spec hs) l.length listed a hd (Region.free_spec h0 hf) hr' hy ih.1, ih.2⟩
/-- the quiet ones, then the one that waits for them, then quiet ones again -/
theorem wp_region_mid {id : Nat} {Q : Exit → Act → World → Prop} {a : Act} {w : World} {L : List Oper} (z : Nat) (hm : P.follows .mixedOrders = true) (hB : Region.lexB .any L.toArray = true) (hc : covB .any L.toArray z = true) (hzs : z < L.length) (hz : Region.ready .any L.toArray (Lk L.length z) = [z]) (hC : C w.drew)
    (h : wpQuiet P L.toArray C (fun a' => ∀ w', C w' → wpOp P L.toArray Q z (fun a2 w2 => wpQuiet P L.toArray (fun w3 => ∃ n, w3 = w2.drewN n) (fun a3 => ∀ w3, (∃ n, w3 = w2.drewN n) → Q .normal a3 w3) (L.drop (z + 1)) a2) a' w') (L.take z) a) : (Code.region id L.toArray true).wp P Q a w := by
  simp only [Region.lexB, Bool.and_eq_true] at hB
  have hsz : L.toArray.size = L.length := by simp
  rw [hsz] at hB
  have hzz : Region.ready .any L.toArray (Lk L.toArray.size z) = [z] := by rw [hsz]; exact hz
  refine wp_region_any hm ?_
  rw [hsz]
  have hdn : Dn .any L.toArray (Array.replicate L.length false) := ⟨by simp, fun k ok hk hl => by
    have : k < L.length := by have := (Array.getElem?_eq_some_iff.1 hk).1; simpa using this
    simp [this] at hl⟩
  have hlen : (L.take z).length = z := by simp; omega
  have hlex := wpAnyM_lex (P := P) (C := C) (m := L.length - z) hzz hc hB.1 (by rw [hsz]; exact hzs) (L.take z) 0 _ a (by omega) (fun j hj => by rw [hlen] at hj; simp [hj]) hdn (by rw [hsz]; exact Lk_zero _) (by rw [hlen, show z + (L.length - z) = L.length by omega]; exact hB.2) h
  obtain ⟨h1, h2⟩ := hlex
  rw [hlen] at h1
  rw [show L.length - z = (L.length - z - 1) + 1 by omega, Region.lexFrom] at h2
  simp only [Bool.and_eq_true] at h2
  have h3 := wpAny_of_mid (m := L.length - z - 1) hzz (fun a' w' hw' hh => wpOp_mono (fun a2 w2 hq => ?_) (hh w' hw')) z _ a _ hC h1
  · rw [show z + 1 + (L.length - z - 1) = L.length by omega] at h3
    exact h3
  · refine wpAny_of_quiet (C := fun w3 => ∃ n, w3 = w2.drewN n) (Q := fun a3 => ∀ w3, (∃ n, w3 = w2.drewN n) → Q .normal a3 w3) (fun _ w3 hw3 hx => hx w3 hw3) _ _ _ _ ⟨0, rfl⟩ ?_
    have := wpAnyQ_lex (C := fun w3 => ∃ n, w3 = w2.drewN n) (md := .any) hB.1 (L.drop (z + 1)) (z + 1) _ a2 (fun j => by simp) (by rw [show (L.drop (z + 1)).length = L.length - z - 1 by simp; omega]; exact h2.2) hq
    rwa [show (L.drop (z + 1)).length = L.length - z - 1 by simp; omega] at this
end
theorem wp_region_mid_dn {P : Program} {id : Nat} {Q : Exit → Act → World → Prop} {a : Act} {w : World} {L : List Oper} (z : Nat) (hm : P.follows .mixedOrders = true) (hB : Region.lexB .any L.toArray = true) (hc : covB .any L.toArray z = true) (hzs : z < L.length) (hz : Region.ready .any L.toArray (Lk L.length z) = [z])
    (h : wpQuiet P L.toArray (fun w' => ∃ n, w' = w.drewN n) (fun a' => ∀ w', (∃ n, w' = w.drewN n) → wpOp P L.toArray Q z (fun a2 w2 => wpQuiet P L.toArray (fun w3 => ∃ n, w3 = w2.drewN n) (fun a3 => ∀ w3, (∃ n, w3 = w2.drewN n) → Q .normal a3 w3) (L.drop (z + 1)) a2) a' w') (L.take z) a) : (Code.region id L.toArray true).wp P Q a w :=
  wp_region_mid (C := fun w' => ∃ n, w' = w.drewN n) z hm hB hc hzs hz ⟨1, rfl⟩ h
end Go.Proofs.Ytdncendokbjnjaa
namespace Go.Proofs.Ytdncendokbjnjaa.C
open Go.RowKit
set_option linter.unusedVariables false
set_option maxRecDepth 100000

/-- entries as they are read in a memory of n frames from bs on -/
def rdmB (bs : Int) (n : Nat) (f : Nat → Int) (a : Int) : Int × Int := if bs ≤ a ∧ a + 8 ≤ bs + 4096 * n then (nu (fun j => f ((a - bs).toNat + j)) 8, 0) else (0, 3)
theorem c_Read8B (bs : Int) (w : World) (S : Nat → Prop) (p n : Nat) (f : Nat → Int) (h : Mem w S p bs n f) (a : Int) (a0 : 0 ≤ a) (a1 : a < 18446744073709551616) (v : Int) (ok : Bool) (hv : (rdmB bs n f a).1 = v) (ho : decide ((rdmB bs n f a).2 = 0) = ok) :
    Calls Try.prog 113 #[.pointer (some ⟨p, 0, none⟩), .int .u64 a, .int .i64 8] w fun e w' => e = .returned (.tuple #[.int .u64 v, .bool ok]) ∧ Below w.heap.size w w' := by
  subst hv ho
  by_cases q : bs ≤ a ∧ a + 8 ≤ bs + 4096 * n
  · have hr : rdmB bs n f a = (nu (fun j => f ((a - bs).toNat + j)) 8, 0) := by unfold rdmB; rw [if_pos q]
    rw [hr]
    exact c_Read w S p bs n f h (a - bs).toNat 8 (by omega) (by decide) a (by omega)
  · have hr : rdmB bs n f a = (0, 3) := by unfold rdmB; rw [if_neg q]
    rw [hr]
    exact (c_Read_bad w S p bs n f h a 8 a0 a1 (by decide) (by decide) (by simp [hasB]; omega)).mono fun e w' hh => ⟨hh.1, hh.2.below _⟩
theorem c_loadWB (bs : Int) (w : World) (b : Nat) (ty : TypeId) (tail : List Value) (p : Nat) (addr table level wrong leaf : Int) (h : WK w b ty tail p addr table level wrong leaf)
    (S : Nat → Prop) (n : Nat) (f : Nat → Int) (hm : Mem w S p bs n f) (a : Int) (a0 : 0 ≤ a) (a1 : a < 18446744073709551616) :
    Calls Try.prog 145 #[.pointer (some ⟨b, 0, none⟩), .int .u64 a] w fun e w' => e = .returned (.tuple #[.int .u64 (rdmB bs n f a).1, .int .i64 (rdmB bs n f a).2]) ∧ Below w.heap.size w w' := by
  have c0 := h.c0
  have HM := hid hm
  clear h hm
  go_enter Try.func145, Try.ntmps145
  by_cases q : bs ≤ a ∧ a + 8 ≤ bs + 4096 * n
  · have hr : rdmB bs n f a = (nu (fun j => f ((a - bs).toNat + j)) 8, 0) := by unfold rdmB; rw [if_pos q]
    go_wp2_with (go_at_call 113; refine (c_Read8B bs w S p n f HM.out a a0 a1 (rdmB bs n f a).1 true rfl (by rw [hr]; rfl)).mono ?_; rintro e w1 ⟨rfl, hb⟩; have HB := hid hb; clear hb)
    go_ret2
    rw [hr]
    exact ⟨rfl, HB.out⟩
  · have hr : rdmB bs n f a = (0, 3) := by unfold rdmB; rw [if_neg q]
    go_wp2_with (go_at_call 113; refine (c_Read8B bs w S p n f HM.out a a0 a1 (rdmB bs n f a).1 false rfl (by rw [hr]; rfl)).mono ?_; rintro e w1 ⟨rfl, hb⟩; have HB := hid hb; clear hb)
    go_ret2
    rw [hr]
    exact ⟨rfl, HB.out⟩
theorem rdmB_ok (bs : Int) (n : Nat) (f : Nat → Int) (hf : ∀ j, 0 ≤ f j ∧ f j < 256) : RdOk (rdmB bs n f) := by
  intro a
  unfold rdmB
  split
  · have := nu_lt (fun j => f ((a - bs).toNat + j)) (fun j => hf _) 8
    exact ⟨⟨this.1, this.2⟩, .inl rfl⟩
  · exact ⟨⟨by decide, by decide⟩, .inr (.inr rfl)⟩
set_option maxRecDepth 100000 in
theorem c_find2B (bs : Int) (w : World) (S : Nat → Prop) (p n : Nat) (f : Nat → Int) (hm : Mem w S p bs n f) (b : Nat) (addr root acc : Int) (a0 : 0 ≤ addr) (a1 : addr < 549755813888) (s0 : 0 ≤ root) (s1 : root < 18446744073709551616)
    (h : WK w b 212 [] p addr root 0 2 0) :
    Calls Try.prog 127 #[.pointer (some ⟨b, 0, none⟩), .int .i64 acc] w fun r w' => r = .returned (.int .i64 (fd2 (D (rdmB bs n f) addr 2 2 root) acc)) ∧
      WK w' b 212 [] p addr (D (rdmB bs n f) addr 2 2 root).table (D (rdmB bs n f) addr 2 2 root).level 2 (D (rdmB bs n f) addr 2 2 root).leaf ∧ Only (· = b) w w' := by
  have c1 := h.c1
  have HM := hid hm
  have HW := hid h
  have hnS : ¬ S b := hm.typ h (by decide) (by decide) (by decide)
  have hRd := rdmB_ok bs n f hm.byt
  have hq := D_ok hRd addr 2 2 root (by decide) s0 s1
  obtain ⟨r, hr⟩ : ∃ r, D (rdmB bs n f) addr 2 2 root = r := ⟨_, rfl⟩
  have HR := hid hr
  rw [hr]
  rw [hr] at hq
  have HQ := hid hq
  have hd : addr / 549755813888 = 0 := by omega
  clear h hm hr hq
  go_enter Try.func127, Try.ntmps127
  go_wp2_with fail
  go_region_law (refine step_call rfl 144 (.tmp 20) (.tmp 24) _ _ rfl (.pointer (some ⟨b, 0, none⟩)) (.func (.func 145) #[.pointer (some ⟨b, 0, none⟩)] #[]) (by go_simp) (by go_simp) (Try.call144 _ _) (c_down2 w.drew b 212 [] p addr root 0 2 a0 (by omega) s0 s1 HW.out (rdmB bs n f) (fun a => (hRd a).1) (fun w1 t k hw1 ho1 a q0 q1 => c_loadWB bs w1 b 212 [] p addr t k 2 0 hw1 S n f (HM.out.only (T := (· = b)) ((Only.refl w).drew.trans ho1) (fun j hj q => hnS (q ▸ hj))) a q0 q1)) ?_; rintro e w1 ⟨rfl, hw1, ho1⟩; rw [HR.out] at hw1; rw [HR.out]; have HW1 := hid hw1; have HO1 : Hid (Only (· = b) w w1) := (Only.refl w).drew.trans ho1; have c4 := hw1.c4; clear hw1 ho1; refine ⟨_, rfl, ?_⟩)
  go_wp2_with (first
    | (go_at_call 146; refine (c_allows2 w1 b _ _ p _ _ _ _ _ acc HW1.out HQ.out.leaf0 (by have := HQ.out.leaf1; omega)).mono ?_; rintro e w2 ⟨rfl, hw2⟩; obtain rfl := hw2.symm))
  · go_ret
    have g := ‹(r.fault != 0) = true›
    exact ⟨ret_int (by unfold fd2; rw [if_pos (by simpa using g)]), HW1.out, HO1.out⟩
  · go_ret
    have g := ‹(r.fault != 0) = false›
    have g2 := ‹(!al r.leaf acc) = true›
    exact ⟨ret_int (by unfold fd2; rw [if_neg (by simpa using g), if_neg (by simpa using g2)]), HW1.out, HO1.out⟩
  · go_ret
    have g := ‹(r.fault != 0) = false›
    have g2 := ‹(!al r.leaf acc) = false›
    exact ⟨ret_int (by unfold fd2; rw [if_neg (by simpa using g), if_pos (by simpa using g2)]), HW1.out, HO1.out⟩
set_option maxRecDepth 100000 in
theorem c_SecondB (bs : Int) (w : World) (S : Nat → Prop) (p n : Nat) (f : Nat → Int) (hm : Mem w S p bs n f) (root gpa acc : Int) (s0 : 0 ≤ root) (s1 : root < 18446744073709551616) (a0 : 0 ≤ gpa) (a1 : gpa < 18446744073709551616) (h0 : ¬ root = 0) (x y z : Int) (hg : gst (rdmB bs n f) root gpa acc = (x, y, z)) :
    Calls Try.prog 87 #[.pointer (some ⟨p, 0, none⟩), .int .u64 root, .int .u64 gpa, .int .i64 acc] w fun r w' => r = .returned (.tuple #[.int .u64 x, .int .i64 y, .int .i64 z]) ∧ Below w.heap.size w w' := by
  have HM := hid hm
  have hRd := rdmB_ok bs n f hm.byt
  clear hm
  unfold gst at hg
  go_enter Try.func87, Try.ntmps87
  rw [if_neg h0] at hg
  by_cases h1 : 549755813888 ≤ gpa
  · rw [if_pos h1] at hg
    cases hg
    go_wp2_with (first
      | (go_at_call 126; refine (c_newSecond _ p root gpa).mono ?_; rintro e w1 ⟨rfl, hb1⟩; have HB1 := hid hb1; clear hb1)
      | (go_at_call 127; refine (c_find2_high _ p _ gpa root acc h1 a1 (heap_alloc_new w1 _)).mono ?_; rintro e w2 ⟨rfl, hw2⟩; obtain rfl := hw2.symm))
    go_ret3
    exact ⟨rfl, HB1.out.alloc HB1.out.size _⟩
  · rw [if_neg h1] at hg
    have hq := D_ok hRd gpa 2 2 root (by decide) s0 s1
    obtain ⟨r, hr⟩ : ∃ r, D (rdmB bs n f) gpa 2 2 root = r := ⟨_, rfl⟩
    rw [hr] at hg hq
    have HR := hid hr
    have HQ := hid hq
    have HG := hid hg
    have HF : Hid (fd2 r acc = z ∧ (z ≠ 0 → x = 0 ∧ y = 0) ∧ (z = 0 → x = plc r gpa ∧ y = pm r.leaf)) := by
      show _ ∧ _
      by_cases g1 : r.fault = 0
      · rw [if_neg (by rw [g1]; decide)] at hg
        cases g2 : al r.leaf acc
        · rw [g2, if_neg (by decide)] at hg
          cases hg
          exact ⟨by unfold fd2; rw [if_neg (by rw [g1]; decide), g2, if_neg (by decide)], fun _ => ⟨rfl, rfl⟩, fun q => absurd q (by decide)⟩
        · rw [g2, if_pos rfl] at hg
          cases hg
          exact ⟨by unfold fd2; rw [if_neg (by rw [g1]; decide), g2, if_pos rfl], fun q => absurd rfl q, fun _ => ⟨rfl, rfl⟩⟩
      · rw [if_pos g1] at hg
        cases hg
        exact ⟨by unfold fd2; rw [if_pos g1], fun _ => ⟨rfl, rfl⟩, fun q => absurd q g1⟩
    clear hr hq hg
    by_cases hz : z = 0
    · subst hz
      go_wp2_with (first
        | (go_at_call 126; refine (c_newSecond _ p root gpa).mono ?_; rintro e w1 ⟨rfl, hb1⟩; have HB1 := hid hb1; clear hb1)
        | (go_at_call 127; refine (c_find2B bs _ S p n f (Mem.below (Mem.below HM.out HB1.out) ((Below.refl _ _).alloc (Nat.le_refl _) _)) w1.heap.size gpa root acc a0 (by omega) s0 s1 (heap_alloc_new w1 _)).mono ?_; rintro e w2 ⟨rfl, hw2, ho2⟩; rw [HR.out] at hw2; rw [HR.out, HF.out.1]; have c5 := hw2.c5; have HW2 := hid hw2; have HO2 := hid ho2; clear hw2 ho2))
      go_quiet (first
        | (go_at_call 128; exact Calls.quiet_of (c_place4 _ _ _ _ p gpa _ _ _ _ HQ.out.lev (HW2.out.drewN _) HQ.out.leaf0 HQ.out.leaf1 a0 a1))
        | (go_at_call 129; exact Calls.quiet_of_same (c_perm r.leaf HQ.out.leaf0 (by have := HQ.out.leaf1; omega) _)))
      go_wp2
      go_ret3
      obtain ⟨rfl, rfl⟩ := HF.out.2.2 trivial
      exact ⟨rfl, (HB1.out.alloc HB1.out.size _).trans ((HO2.out.drewN _).below _ (by have := HB1.out.size; simp; omega) (by rintro k rfl; exact HB1.out.size))⟩
    · go_wp2_with (first
        | (go_at_call 126; refine (c_newSecond _ p root gpa).mono ?_; rintro e w1 ⟨rfl, hb1⟩; have HB1 := hid hb1; clear hb1)
        | (go_at_call 127; refine (c_find2B bs _ S p n f (Mem.below (Mem.below HM.out HB1.out) ((Below.refl _ _).alloc (Nat.le_refl _) _)) w1.heap.size gpa root acc a0 (by omega) s0 s1 (heap_alloc_new w1 _)).mono ?_; rintro e w2 ⟨rfl, hw2, ho2⟩; rw [HR.out, HF.out.1]; have HO2 := hid ho2; clear hw2 ho2))
      go_ret3
      obtain ⟨rfl, rfl⟩ := HF.out.2.1 hz
      exact ⟨rfl, (HB1.out.alloc HB1.out.size _).trans (HO2.out.below _ (by have := HB1.out.size; simp; omega) (by rintro k rfl; exact HB1.out.size))⟩
theorem c_GuestB (bs : Int) (w : World) (S : Nat → Prop) (p n : Nat) (f : Nat → Int) (hm : Mem w S p bs n f) (root gpa acc : Int) (s0 : 0 ≤ root) (s1 : root < 18446744073709551616) (a0 : 0 ≤ gpa) (a1 : gpa < 18446744073709551616) (x y z : Int) (hg : gst (rdmB bs n f) root gpa acc = (x, y, z)) :
    Calls Try.prog 24 #[.pointer (some ⟨p, 0, none⟩), .int .u64 root, .int .u64 gpa, .int .i64 acc] w fun r w' => r = .returned (.tuple #[.int .u64 x, .int .i64 y, .int .i64 z]) ∧ Below w.heap.size w w' := by
  have HM := hid hm
  clear hm
  go_enter Try.func24, Try.ntmps24
  by_cases h0 : root = 0
  · unfold gst at hg
    rw [if_pos h0] at hg
    cases hg
    go_wp2
    go_ret3
    exact ⟨rfl, Below.refl _ _⟩
  · have HG := hid hg
    clear hg
    go_wp2_with (first
      | (go_at_call 87; refine (c_SecondB bs _ S p n f HM.out root gpa acc s0 s1 a0 a1 h0 x y z HG.out).mono ?_; rintro e w1 ⟨rfl, hb1⟩; have HB1 := hid hb1; clear hb1))
    go_ret3
    exact ⟨rfl, HB1.out⟩
end Go.Proofs.Ytdncendokbjnjaa.C
