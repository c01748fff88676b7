/- store: bytes into the memory. -/
import Derived.Test.YtioodijiejipiaaRS
namespace Go.Proofs.Ytioodijiejipiaa
open Go.RowKit
set_option linter.unusedVariables false

/-- a call of a function, as one step of a region that draws its order -/
theorem step_call {P : Program} {ops : Array Oper} {o : Oper} {a : Act} {w : World} {K : Act → World → Prop} {Q : Exit → Act → World → Prop} {E : Prop} (hgd : o.guard = none) (f : FuncId) (x y : Operand) (tx ty : TypeId)
    (ho : o.op = .call { callee := .value (.func f), args := #[x, y], argTypes := #[tx, ty] }) (vx vy : Value) (hx : a.eval x = vx) (hy : a.eval y = vy) (hnf : (callFunc f #[vx, vy]).run P w = .ok (.enter f #[vx, vy]) w) {R : Ending → World → Prop} (hc : Calls P f #[vx, vy] w R)
    (h : ∀ e w', R e w' → ∃ v, e = .returned v ∧ K (a.put o.dst v) w') :
    if Region.wanted o (yielded ops a.tmps) = true then Oper.wp P o a w K Q else E := by
  have hw : Region.wanted o (yielded ops a.tmps) = true := by simp [Region.wanted, hgd]
  rw [if_pos hw]
  have he : (execOp a.eval o).run P w = .ok (.enter f #[vx, vy]) w := by
    have hv : a.eval (.func f) = .func (.func f) #[] #[] := rfl
    simp [execOp, ho, resolve, invoke, Deferred.ofValue, hv, hx, hy, hnf]
  unfold Oper.wp
  rw [he, Oper.upon_enter]
  refine hc.mono fun e w' hR => ?_
  obtain ⟨v, rfl, hk⟩ := h e w' hR
  exact hk

/-- bytes of one frame that is there are written -/
theorem RM.wrote {w w4 : World} {p g : Nat} {base : Int} {hs : List (Option Nat)} {f : Nat → Int} (h : RM w p g base hs f) {q hh m n : Nat} {s : Nat → Int} (hq : hs[q]? = some (some hh)) (hm : m + n ≤ 4096) (hs0 : ∀ j, 0 ≤ s j ∧ s j < 256)
    (hw : w4.heap[hh]? = some (.cells (row (put f (4096 * q + m) n s) (4096 * q) 4096).toArray 79 (0, 0))) (ho : Only (· = hh) w w4) : RM w4 p g base hs (put f (4096 * q + m) n s) := by
  have hfull := h.full q hh hq
  have hph : p ≠ hh := by rintro rfl; have := h.top; rw [hfull] at this; simp at this
  have hgh : g ≠ hh := by rintro rfl; have := h.tab; rw [hfull] at this; simp at this
  refine ⟨ho.old h.top hph, ho.old h.tab hgh, ?_, ?_, h.inj, ?_, h.base0, h.base1, h.len0, h.len1⟩
  · intro i hi j hj
    have : i ≠ q := by rintro rfl; rw [hq] at hi; cases hi
    rw [put_out _ _ _ _ _ (by omega)]
    exact h.bare i hi j hj
  · intro i h' hi
    by_cases e : i = q
    · subst e
      obtain rfl : hh = h' := by rw [hq] at hi; simpa using hi
      exact hw
    · have e' : h' ≠ hh := by rintro rfl; exact e (h.inj i q h' hi hq)
      rw [ho.old (h.full i h' hi) e']
      have : row f (4096 * i) 4096 = row (put f (4096 * q + m) n s) (4096 * i) 4096 := row_congr fun j hj => (put_out _ _ _ _ _ (by omega)).symm
      rw [this]
  · intro j
    unfold put
    split
    · exact hs0 _
    · exact h.byt j
theorem RM.drew {w : World} {p g : Nat} {base : Int} {hs : List (Option Nat)} {f : Nat → Int} (h : RM w p g base hs f) : RM w.drew p g base hs f :=
  h.only (T := fun _ => False) (Only.refl w).drew fun _ _ q => q
set_option maxHeartbeats 1000000 in
theorem c_store (w : World) (p g : Nat) (base : Int) (hs : List (Option Nat)) (f : Nat → Int) (h : RM w p g base hs f) (off len cap : Nat) (ad : Option Addr) (s : Nat → Int) (hs0 : ∀ j, 0 ≤ s j ∧ s j < 256) (addr : Int) (ha : addr = base + off)
    (hl : off + len ≤ 4096 * hs.length) (hc : len ≤ cap) (src : ∃ sb so, 0 < len → ad = some ⟨sb, so, none⟩ ∧ sb < w.heap.size ∧ ¬ Foot p g hs sb ∧ ∀ j, j < len → w.cell? ⟨sb, so + j, none⟩ = some (.int .u8 (s j))) :
    Calls Try.prog 33 #[.pointer (some ⟨p, 0, none⟩), .int .u64 addr, .slice ad len cap] w fun e w' => ∃ hs', e = .returned (.tuple #[]) ∧ RM w' p g base hs' (put f off len s) ∧ hs'.length = hs.length ∧ Only (Foot p g hs) w w' ∧
      ∀ (j h' : Nat), hs'[j]? = some (some h') → hs[j]? = some (some h') ∨ w.heap.size ≤ h' := by
  subst ha
  have l1 := h.len1
  obtain ⟨sb, so, hsrc⟩ := src
  have HS := hid (hsrc)
  clear hsrc
  go_enter Try.func33, Try.ntmps33
  go_wp2_with (first | (go_at_call 44; refine (c_place w p g base hs f h off (by omega) _ rfl).mono ?_; rintro e w' ⟨rfl, hw⟩; obtain rfl := hw.symm))
  go_loopw [2, 6, 7] (fun v fr at' wr => ∃ (k L C : Nat) (ad' : Option Addr) (hs' : List (Option Nat)), k + L = len ∧ k + C = cap ∧ v = .slice ad' L C ∧ (0 < L → ad' = some ⟨sb, so + k, none⟩ ∧ fr = .int .i64 ((off + k) / 4096 : Nat) ∧ at' = .int .i64 ((off + k) % 4096 : Nat)) ∧
      RM wr p g base hs' (put f off k s) ∧ hs'.length = hs.length ∧ Only (Foot p g hs) w wr ∧ ∀ (j h' : Nat), hs'[j]? = some (some h') → hs[j]? = some (some h') ∨ w.heap.size ≤ h') (fun v _ _ _ => lenOf v)
  case atStart => exact ⟨0, len, cap, ad, hs, by omega, by omega, rfl, fun q => ⟨(HS.out q).1, by simp, by simp⟩, by rw [put_zero]; exact h, rfl, .refl w, fun j h' q => .inl q⟩
  case round =>
    obtain ⟨k, L, C, ad', hs', rfl, rfl, rfl, hpos, hR, hlen, ho, hnew⟩ := hrel
    by_cases hlt : 0 < L
    · obtain ⟨rfl, rfl, rfl⟩ := hpos hlt
      obtain ⟨-, hsb, hsf, hsc⟩ := HS.out (by omega)
      have ha4 : (off + k) / 4096 < hs'.length := by omega
      have hmod : (off + k) % 4096 < 4096 := Nat.mod_lt _ (by decide)
      have hqm : off + k = 4096 * ((off + k) / 4096) + (off + k) % 4096 := (Nat.div_add_mod _ _).symm
      generalize hq : (off + k) / 4096 = q at *
      generalize hm : (off + k) % 4096 = m at *
      have HQ : Hid (off + k = 4096 * q + m) := hqm
      obtain ⟨n, hn⟩ : ∃ n : Nat, (if 4096 - (m : Int) < (L : Int) then 4096 - (m : Int) else (L : Int)) = (n : Int) := ⟨min (4096 - m) L, by split <;> omega⟩
      have n0 : 0 < n ∧ n ≤ L ∧ n ≤ 4096 - m ∧ (n < L → n = 4096 - m) := by split at hn <;> omega
      obtain ⟨n0, n1, n2, n3⟩ := n0
      clear hqm hq hm
      have HN : Hid (n < L → n = 4096 - m) := n3
      have HSC : Hid (∀ j, j < k + L → w.cell? ⟨sb, so + j, none⟩ = some (.int .u8 (s j))) := hsc
      have HNW : Hid (∀ (j h' : Nat), hs'[j]? = some (some h') → hs[j]? = some (some h') ∨ w.heap.size ≤ h') := hnew
      clear n3 hpos hsc hnew
      have hnC : n ≤ C := by omega
      have HC : Hid (∀ w1, Only (· = g) wr.drew w1 → ∀ j v, (row s k n)[j]? = some v → w1.cell? ((⟨sb, so + k, none⟩ : Addr).add j) = some v) := by
        intro w1 ho1 j v hv
        have hj : j < n := by
          rcases Nat.lt_or_ge j n with q | q
          · exact q
          · rw [List.getElem?_eq_none (by simpa [row_length] using q)] at hv; cases hv
        rw [row_get _ _ _ _ hj] at hv
        rw [addr_add, ho1.cell _ (Nat.lt_of_lt_of_le hsb ho.size) (fun e => hsf (.inr (.inl e))), show wr.drew.cell? ⟨sb, so + k + j, none⟩ = wr.cell? ⟨sb, so + k + j, none⟩ from rfl, ho.cell _ hsb hsf, Nat.add_assoc, HSC.out _ (by omega)]
        exact hv
      have HF : Hid (m + (row s k n).length ≤ (row (put f off k s) (4096 * q) 4096).length) := by show _ ≤ _; rw [row_length, row_length]; omega
      have HL : Hid ((row s k n).length = Nat.min n (4096 - m)) := by show _ = _; rw [row_length]; exact (Nat.min_eq_left n2).symm
      have hcut : ∀ hh w, (Instr.sliceAt 79 (.pointer (some ⟨hh, 0, none⟩)) (some (.int .i64 (m : Int))) none none).run Try.prog w = .ok (.slice (some ⟨hh, m, none⟩) (4096 - m) (4096 - m)) w := fun hh w => run_cut hh m hmod w
      go_wp2
      go_region_law (first
        | (refine step_call rfl 45 (.tmp 23) (.tmp 24) 24 3 rfl (.pointer (some ⟨p, 0, none⟩)) (.int .i64 (q : Int)) (by go_simp) (by go_simp) (Try.call45 _ _) (c_made _ p g base hs' _ hR.drew q ha4) ?_; rintro e w1 ⟨hh, hs2, rfl, hR2, hq2, hlen2, ho2, hnew2⟩; have HX : Hid (RM w1 p g base hs2 (put f off k s) ∧ hs2[q]? = some (some hh) ∧ hs2.length = hs'.length ∧ Only (· = g) wr.drew w1 ∧ ∀ (j h' : Nat), hs2[j]? = some (some h') → hs'[j]? = some (some h') ∨ wr.drew.heap.size ≤ h') := ⟨hR2, hq2, hlen2, ho2, hnew2⟩; clear hR2 hq2 hlen2 ho2 hnew2; refine ⟨_, rfl, ?_⟩)
        | (refine step_copy_only rfl (.tmp 28) (.tmp 31) 35 35 rfl 5 u_su8 s_u8 ⟨sb, so + k, none⟩ (4096 - m) (4096 - m) n C hh m (by go_simp) (by go_simp) (row (put f off k s) (4096 * q) 4096) 79 (HX.out.1.full q hh HX.out.2.1) (row s k n) HL.out (HC.out _ HX.out.2.2.2.1) HF.out (row_one _ _ _) ?_; intro w4 HG4 HO4))
      obtain ⟨hR2, hq2, hlen2, ho2, hnew2⟩ := HX.out
      have hnw : ∀ (j h' : Nat), hs2[j]? = some (some h') → hs[j]? = some (some h') ∨ w.heap.size ≤ h' := fun j h' e => by
        rcases hnew2 j h' e with e | e
        · exact HNW.out j h' e
        · exact .inr (Nat.le_trans ho.size e)
      have HR3 : Hid (RM w4 p g base hs2 (put f off (k + n) s)) := by
        have e := HG4.out
        rw [splice_row _ _ _ _ _ _ _ (by omega)] at e
        have := hR2.wrote hq2 (by omega) (fun j => hs0 (k + j)) e HO4.out
        rw [← HQ.out, put_more] at this
        exact this
      have HO3 : Hid (Only (Foot p g hs) w w4) := by
        refine ((ho.drew).trans' ho2 fun i _ e => .inr (.inl e)).trans' HO4.out ?_
        rintro i hi rfl
        rcases hnw q i hq2 with e | e
        · exact .inr (.inr ⟨q, e⟩)
        · omega
      have HW3 : Hid (∀ (j h' : Nat), hs2[j]? = some (some h') → hs[j]? = some (some h') ∨ w.heap.size ≤ h') := hnw
      have HL3 : Hid (hs2.length = hs.length) := hlen2.trans hlen
      have hq9 : q < 1024 := by omega
      clear hnw HG4 HO4 HX HC HF HL hcut hR2 hq2 hlen2 ho2 hnew2 hR ho hlen
      go_wp2
      go_roundw
      case rel => exact ⟨k + n, L - n, C - n, _, hs2, by omega, by omega, rfl, fun hp => ⟨by rw [if_neg (by omega), Nat.add_assoc], next_frame HQ.out (HN.out (by omega)) (by omega), next_at HQ.out (HN.out (by omega)) (by omega)⟩, HR3.out, HL3.out, HO3.out, HW3.out⟩
      case measure => simp only [lenOf]; omega
    · obtain rfl : L = 0 := by omega
      go_wp2
      go_end0
      exact ⟨hs', rfl, hR, hlen, ho, hnew⟩
end Go.Proofs.Ytioodijiejipiaa
