/- Package page: a walk goes down. -/
import Derived.Test.YtlfdokkopgmfjaaGreatDoorMC2
import Derived.ScopeJumps
import Derived.WalkMore
namespace Go.Proofs.YtlfdokkopgmfjaaGreatDoor.C
open Go.RowKit
set_option linter.unusedVariables false
set_option maxRecDepth 100000
/-- a scope that runs ahead to its label, and from there round and round -/
theorem wp_scope_enter {P : Program} {a : Act} {w : World} {Q : Exit → Act → World → Prop} {c rest : Code} (l : Nat) (J : Act → World → Prop) (μ : Act → World → Nat) (hf : findLabel c l = some (Code.seq Code.skip rest))
    (first : ∀ Q', (∀ a w, J a w → rest.wp P Q' a w) → c.wp P Q' a w)
    (pass : ∀ a w, J a w → rest.wp P (Exit.jump l (fun a' w' => J a' w' ∧ μ a' w' < μ a w) Q) a w) : (Code.scope c).wp P Q a w := by
  refine wp_scope_jumps l J μ hf (first _ fun a w hJ => wp_mono (pass a w hJ) fun e a' w' hq => ?_) (fun a w hJ => wp_seq (wp_skip (pass a w hJ)))
  cases e with
  | goto l' => exact ⟨hq.1, hq.2.1⟩
  | normal => exact hq
  | exit id => exact hq
  | ret => exact hq
  | panic ch => exact hq
  | outgrown => exact hq
theorem step_call1 {P : Program} {ops : Array Oper} {o : Oper} {a : Act} {w : World} {K : Act → World → Prop} {Q : Exit → Act → World → Prop} {E : Prop} (hgd : o.guard = none) (f : FuncId) (x : Operand) (tx : TypeId)
    (ho : o.op = .call { callee := .value (.func f), args := #[x], argTypes := #[tx] }) (vx : Value) (hx : a.eval x = vx) (hnf : (callFunc f #[vx]).run P w = .ok (.enter f #[vx]) w) {R : Ending → World → Prop} (hc : Calls P f #[vx] w R)
    (h : ∀ e w', R e w' → ∃ v, e = .returned v ∧ K (a.put o.dst v) w') :
    if Region.wanted o (yielded ops a.tmps) = true then Oper.wp P o a w K Q else E := by
  have hw : Region.wanted o (yielded ops a.tmps) = true := by simp [Region.wanted, hgd]
  rw [if_pos hw]
  have he : (execOp a.eval o).run P w = .ok (.enter f #[vx]) w := by
    have hf : a.eval (.func f) = .func (.func f) #[] #[] := rfl
    simp [execOp, ho, resolve, invoke, Deferred.ofValue, hf, hx, hnf]
  unfold Oper.wp
  rw [he, Oper.upon_enter]
  refine hc.mono fun e w' hR => ?_
  obtain ⟨v, rfl, hk⟩ := h e w' hR
  exact hk
def lvl (w : World) (b : Nat) : Nat := match w.cell? ⟨b, 3, none⟩ with
  | some (.int _ k) => k.toNat
  | _ => 0
theorem Only.drewN {S : Nat → Prop} {a w : World} (h : Only S a w) (n : Nat) : Only S a (w.drewN n) := ⟨h.os, h.tape, h.output, h.size, h.block⟩
theorem lvl_WK {w : World} {b : Nat} {ty : TypeId} {tail : List Value} {p : Nat} {addr table wrong leaf : Int} {k : Nat} (h : WK w b ty tail p addr table k wrong leaf) : lvl w b = k := by
  unfold lvl; rw [h.c3]; rfl
def DnJ (w : World) (b : Nat) (ty : TypeId) (tail : List Value) (p : Nat) (addr t0 wrong : Int) (R : Int → Int × Int) (V : Value) (a' : Act) (w' : World) : Prop :=
  ∃ (u2 u3 u4 u5 u6 u7 u8 u9 u10 u11 u12 u13 u14 u15 u16 u17 u18 u19 u20 u21 u22 u23 u24 u25 u26 u27 u28 u29 u30 u31 u32 u33 u34 u35 u36 u37 u38 u39 u40 u41 u42 u43 u44 u45 u46 u47 u48 u49 u50 u51 u52 u53 u54 u55 u56 u57 : Value) (k : Nat) (t : Int), a' = { tmps := #[.pointer (some ⟨b, 0, none⟩), V, u2, u3, u4, u5, u6, u7, u8, u9, u10, u11, u12, u13, u14, u15, u16, u17, u18, u19, u20, u21, u22, u23, u24, u25, u26, u27, u28, u29, u30, u31, u32, u33, u34, u35, u36, u37, u38, u39, u40, u41, u42, u43, u44, u45, u46, u47, u48, u49, u50, u51, u52, u53, u54, u55, u56, u57], defers := [] } ∧ k ≤ 2 ∧ 0 ≤ t ∧ t < 18446744073709551616 ∧ WK w' b ty tail p addr t k wrong 0 ∧ Only (· = b) w w' ∧ D R addr wrong k t = D R addr wrong 2 t0
set_option maxHeartbeats 2000000 in
theorem c_down2 (w : World) (b : Nat) (ty : TypeId) (tail : List Value) (p : Nat) (addr t0 lv wrong : Int) (a0 : 0 ≤ addr) (a1 : addr < 18446744073709551616) (s0 : 0 ≤ t0) (s1 : t0 < 18446744073709551616) (h : WK w b ty tail p addr t0 lv wrong 0)
    (R : Int → Int × Int) (hR : ∀ a, 0 ≤ (R a).1 ∧ (R a).1 < 18446744073709551616)
    (hread : ∀ (w1 : World) (t : Int) (k : Nat), WK w1 b ty tail p addr t k wrong 0 → Only (· = b) w w1 → ∀ a, 0 ≤ a → a < 18446744073709551616 → Calls Tryz.prog 183 #[.pointer (some ⟨b, 0, none⟩), .int .u64 a] w1 fun e w2 => e = .returned (.tuple #[.int .u64 (R a).1, .int .i64 (R a).2]) ∧ Below w1.heap.size w1 w2) :
    Calls Tryz.prog 176 #[.pointer (some ⟨b, 0, none⟩), (.func (.func 183) #[.pointer (some ⟨b, 0, none⟩)] #[])] w fun r w' => r = .returned (.int .i64 (D R addr wrong 2 t0).fault) ∧ WK w' b ty tail p addr (D R addr wrong 2 t0).table (D R addr wrong 2 t0).level wrong (D R addr wrong 2 t0).leaf ∧ Only (· = b) w w' := by
  have HRD := hid hread
  have z3 := h.fz 3
  have c3 := h.c3
  have HW0 := hid h
  clear h hread
  go_enter Tryz.func176, Tryz.ntmps176
  go_wp2_with fail
  refine wp_scope_enter 0 (DnJ w b ty tail p addr t0 wrong R (.func (.func 183) #[.pointer (some ⟨b, 0, none⟩)] #[])) (fun _ w' => lvl w' b) rfl ?_ ?_
  · intro Q' hp
    go_wp2_with fail
    go_step3
    rename_i K hK
    refine hK _ _ (hp _ _ ?_)
    exact ⟨_, _, _, _, _, _, _, _, _, _, _, _, _, _, _, _, _, _, _, _, _, _, _, _, _, _, _, _, _, _, _, _, _, _, _, _, _, _, _, _, _, _, _, _, _, _, _, _, _, _, _, _, _, _, _, _, 2, t0, rfl, by omega, s0, s1, HW0.out.s3 2, (Only.refl (S := (· = b)) _).setCell (.inl rfl) _, rfl⟩
  · rintro a' w1 ⟨u2, u3, u4, u5, u6, u7, u8, u9, u10, u11, u12, u13, u14, u15, u16, u17, u18, u19, u20, u21, u22, u23, u24, u25, u26, u27, u28, u29, u30, u31, u32, u33, u34, u35, u36, u37, u38, u39, u40, u41, u42, u43, u44, u45, u46, u47, u48, u49, u50, u51, u52, u53, u54, u55, u56, u57, k, t, rfl, hk, t0, t1, hW, hO, hD⟩
    have c2 := hW.c2
    have HW := hid hW
    have HO := hid hO
    have HD := hid hD
    go_hide hQ
    obtain ⟨e, fl, hRe⟩ : ∃ e fl, R (atF addr k t) = (e, fl) := ⟨_, _, rfl⟩
    obtain ⟨e0, e1⟩ := hR (atF addr k t)
    rw [hRe] at e0 e1
    have e0' : 0 ≤ e := e0
    have e1' : e < 18446744073709551616 := e1
    have hat := atF_b addr k t t0
    have HA := hid hat
    have HRe := hid hRe
    clear hW hO hD e0 e1 hRe hat
    go_wp2_with (first
      | (go_at_call 113; refine (c_at w1 b ty tail p addr t wrong 0 _ hk a0 a1 t0 (by omega) HW.out).mono ?_; rintro r w2 ⟨rfl, m2, rfl⟩)
      | (go_at_call 183; have qr := HRD.out (w1.drewN m2) t _ (HW.out.drewN m2) (HO.out.drewN m2) _ (HA.out (by omega)).1 (HA.out (by omega)).2; rw [HRe.out] at qr; refine qr.mono ?_; rintro r w3 ⟨rfl, hb3⟩; have HW3 := hid (WK.below (HW.out.drewN m2) hb3); have HO3 : Hid (Only (· = b) w w3) := (HO.out.drewN m2).trans (.ofBelow hb3); have c2 := HW3.out.c2; have c3 := HW3.out.c3; have c4 := HW3.out.c4; have z2 := HW3.out.fz 2; have z3 := HW3.out.fz 3; clear hb3 qr)
      | (go_at_call 198; refine (c_isWrong e e0' e1' _).mono ?_; rintro r w4 ⟨rfl, hw4⟩; obtain rfl := hw4.symm)
      | (go_at_call 199; refine (c_isLeaf e e0' e1' _).mono ?_; rintro r w4 ⟨rfl, hw4⟩; obtain rfl := hw4.symm)
      | (go_at_call 200; refine (c_stopC w3 b ty tail p addr t wrong k hk HW3.out e e0' e1').mono ?_; rintro r w4 ⟨rfl, hw4, ho4⟩; have HW4 := hid hw4; have HO4 := hid ho4; clear hw4 ho4))
    · subst hQ
      simp only [Exit.jump]
      go_ret
      rw [← HD.out, D_high ‹4503599627370495 < t›]
      exact ⟨rfl, HW.out, HO.out⟩
    · subst hQ
      simp only [Exit.jump]
      go_ret
      have g2 : fl ≠ 0 := by simpa using ‹(fl != 0) = true›
      rw [← HD.out, D_fault (R := R) (addr := addr) (k := k) (by omega) (by rw [HRe.out]; exact g2), HRe.out]
      exact ⟨rfl, HW3.out, HO3.out⟩
    · subst hQ
      simp only [Exit.jump]
      go_ret
      have g2 : fl = 0 := by simpa using ‹(fl != 0) = false›
      rw [← HD.out, D_wrong (R := R) (addr := addr) (k := k) (by omega) (by rw [HRe.out]; exact g2) (by rw [HRe.out]; exact ‹wr e = true›)]
      exact ⟨rfl, HW3.out, HO3.out⟩
    · subst hQ
      simp only [Exit.jump]
      go_ret
      have g2 : fl = 0 := by simpa using ‹(fl != 0) = false›
      rw [← HD.out]
      have hw4 := HW4.out
      unfold stL at hw4
      by_cases g5 : num e % pw k = 0
      · rw [if_neg (by rw [g5]; decide)] at hw4
        rw [D_leaf (R := R) (addr := addr) (k := k) (by omega) (by rw [HRe.out]; exact g2) (by rw [HRe.out]; exact ‹wr e = false›) (by rw [HRe.out]; exact ‹lf e = true›) (by rw [HRe.out]; exact g5), HRe.out]
        exact ⟨ret_int (by unfold stF; rw [if_neg (by rw [g5]; decide)]), hw4, HO3.out.trans HO4.out⟩
      · rw [if_pos g5] at hw4
        rw [D_mis (R := R) (addr := addr) (k := k) (by omega) (by rw [HRe.out]; exact g2) (by rw [HRe.out]; exact ‹wr e = false›) (by rw [HRe.out]; exact ‹lf e = true›) (by rw [HRe.out]; exact g5)]
        exact ⟨ret_int (by unfold stF; rw [if_pos g5]), hw4, HO3.out.trans HO4.out⟩
    · subst hQ
      simp only [Exit.jump]
      go_ret
      have g2 : fl = 0 := by simpa using ‹(fl != 0) = false›
      have g0 : k = 0 := by have := ‹((k : Int) == 0) = true›; simp at this; omega
      subst g0
      rw [← HD.out, D_end (R := R) (addr := addr) (by omega) (by rw [HRe.out]; exact g2) (by rw [HRe.out]; exact ‹wr e = false›) (by rw [HRe.out]; exact ‹lf e = false›)]
      exact ⟨rfl, HW3.out, HO3.out⟩
    · have g2 : fl = 0 := by simpa using ‹(fl != 0) = false›
      have g0 : k ≠ 0 := by have := ‹((k : Int) == 0) = false›; simp at this; omega
      obtain ⟨j, rfl⟩ : ∃ j, k = j + 1 := ⟨k - 1, by omega⟩
      have c3' : w3.cell? ⟨b, 3, none⟩ = some (.int .i64 ((j : Int) + 1)) := c3
      clear c3
      subst hQ
      go_region_law (refine step_call1 rfl 181 (.tmp 47) 161 rfl (.int .u64 e) (by go_simp) (Tryz.call181 _ _) (c_num e e0' e1' _) ?_; rintro r w4 ⟨rfl, hw4⟩; obtain rfl := hw4.symm; refine ⟨_, rfl, ?_⟩)
      all_goals
        go_wp2_with fail
        go_step3
        have wj : IntKind.i64.wrap (j : Int) = j := by rw [IntKind.wrap_i64]; omega
        have hn := D_next (R := R) (addr := addr) (wrong := wrong) (k := j) (t := t) (by omega) (by rw [HRe.out]; exact g2) (by rw [HRe.out]; exact ‹wr e = false›) (by rw [HRe.out]; exact ‹lf e = false›)
        rw [HRe.out] at hn
        have hw5 := (HW3.out.s2 (num e)).s3 (j : Int)
        rw [wj]
        refine ⟨rfl, ⟨_, _, _, _, _, _, _, _, _, _, _, _, _, _, _, _, _, _, _, _, _, _, _, _, _, _, _, _, _, _, _, _, _, _, _, _, _, _, _, _, _, _, _, _, _, _, _, _, _, _, _, _, _, _, _, _, j, num e, rfl, by omega, by unfold num; omega, by unfold num; omega, hw5, ((HO3.out.setCell (.inl rfl) _).setCell (.inl rfl) _).drew, hn.symm.trans HD.out⟩, ?_⟩
        rw [lvl_WK HW.out]
        show lvl ((w3.setCell ⟨b, 2, none⟩ (.int .u64 (num e))).setCell ⟨b, 3, none⟩ (.int .i64 (j : Int))) b < j + 1
        rw [lvl_WK hw5]
        omega
end Go.Proofs.YtlfdokkopgmfjaaGreatDoor.C
