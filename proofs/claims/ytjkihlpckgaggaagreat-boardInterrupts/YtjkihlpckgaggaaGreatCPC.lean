/- Package page: a walk goes down. -/
import Derived.Test.YtjkihlpckgaggaaGreatMC3
import Derived.ScopeJumps
import Derived.WalkMore
namespace Go.Proofs.YtjkihlpckgaggaaGreat.C
open Go.RowKit
set_option linter.unusedVariables false
set_option maxRecDepth 100000

/-- a scope that runs ahead to its label, and from there round and round -/
theorem wp_scope_enter {P : Program} {a : Act} {w : World} {Q : Exit → Act → World → Prop} {c rest : Code} (l : Nat) (J : Act → World → Prop) (μ : Act → World → Nat) (hf : findLabel c l = some (Code.seq Code.skip rest))
    (first : ∀ Q', (∀ a w, J a w → rest.wp P Q' a w) → c.wp P Q' a w)
    (pass : ∀ a w, J a w → rest.wp P (Exit.jump l (fun a' w' => J a' w' ∧ μ a' w' < μ a w) Q) a w) : (Code.scope c).wp P Q a w := by
  refine wp_scope_jumps l J μ hf (first _ fun a w hJ => wp_mono (pass a w hJ) fun e a' w' hq => ?_) (fun a w hJ => wp_seq (wp_skip (pass a w hJ)))
  cases e with
  | goto l' => exact ⟨hq.1, hq.2.1⟩
  | normal => exact hq
  | exit id => exact hq
  | ret => exact hq
  | panic ch => exact hq
  | outgrown => exact hq
theorem step_call1 {P : Program} {ops : Array Oper} {o : Oper} {a : Act} {w : World} {K : Act → World → Prop} {Q : Exit → Act → World → Prop} {E : Prop} (hgd : o.guard = none) (f : FuncId) (x : Operand) (tx : TypeId)
    (ho : o.op = .call { callee := .value (.func f), args := #[x], argTypes := #[tx] }) (vx : Value) (hx : a.eval x = vx) (hnf : (callFunc f #[vx]).run P w = .ok (.enter f #[vx]) w) {R : Ending → World → Prop} (hc : Calls P f #[vx] w R)
    (h : ∀ e w', R e w' → ∃ v, e = .returned v ∧ K (a.put o.dst v) w') :
    if Region.wanted o (yielded ops a.tmps) = true then Oper.wp P o a w K Q else E := by
  have hw : Region.wanted o (yielded ops a.tmps) = true := by simp [Region.wanted, hgd]
  rw [if_pos hw]
  have he : (execOp a.eval o).run P w = .ok (.enter f #[vx]) w := by
    have hf : a.eval (.func f) = .func (.func f) #[] #[] := rfl
    simp [execOp, ho, resolve, invoke, Deferred.ofValue, hf, hx, hnf]
  unfold Oper.wp
  rw [he, Oper.upon_enter]
  refine hc.mono fun e w' hR => ?_
  obtain ⟨v, rfl, hk⟩ := h e w' hR
  exact hk
def lvl (w : World) (b : Nat) : Nat := match w.cell? ⟨b, 3, none⟩ with
  | some (.int _ k) => k.toNat
  | _ => 0
theorem Only.drewN {S : Nat → Prop} {a w : World} (h : Only S a w) (n : Nat) : Only S a (w.drewN n) := ⟨h.os, h.tape, h.output, h.size, h.block⟩
theorem lvl_WK {w : World} {b : Nat} {ty : TypeId} {tail : List Value} {p : Nat} {addr table wrong leaf : Int} {k : Nat} (h : WK w b ty tail p addr table k wrong leaf) : lvl w b = k := by
  unfold lvl; rw [h.c3]; rfl
def DnJ (w : World) (b : Nat) (ty : TypeId) (tail : List Value) (p : Nat) (addr t0 wrong : Int) (R : Int → Int × Int) (V : Value) (a' : Act) (w' : World) : Prop :=
  ∃ (u2 u3 u4 u5 u6 u7 u8 u9 u10 u11 u12 u13 u14 u15 u16 u17 u18 u19 u20 u21 u22 u23 u24 u25 u26 u27 u28 u29 u30 u31 u32 u33 u34 u35 u36 u37 u38 u39 u40 u41 u42 u43 u44 u45 u46 u47 u48 u49 u50 u51 u52 u53 u54 u55 u56 u57 : Value) (k : Nat) (t : Int), a' = { tmps := #[.pointer (some ⟨b, 0, none⟩), V, u2, u3, u4, u5, u6, u7, u8, u9, u10, u11, u12, u13, u14, u15, u16, u17, u18, u19, u20, u21, u22, u23, u24, u25, u26, u27, u28, u29, u30, u31, u32, u33, u34, u35, u36, u37, u38, u39, u40, u41, u42, u43, u44, u45, u46, u47, u48, u49, u50, u51, u52, u53, u54, u55, u56, u57], defers := [] } ∧ k ≤ 2 ∧ 0 ≤ t ∧ t < 18446744073709551616 ∧ WK w' b ty tail p addr t k wrong 0 ∧ Only (· = b) w w' ∧ D R addr wrong k t = D R addr wrong 2 t0
end Go.Proofs.YtjkihlpckgaggaaGreat.C
