/- TlbPlays: the calls of a script, a theorem a kind. -/
import Derived.Test.YtgenjhcpcjhpmaaTLA
import Derived.Test.YtgenjhcpcjhpmaaTQ
namespace Go.Proofs.Ytgenjhcpcjhpmaa
open Go.RowKit
set_option linter.unusedVariables false

theorem here_comm {x y : TV} : x.here y.v y.p = y.here x.v x.p := by
  unfold TV.here
  by_cases a : x.v = y.v
  · by_cases b : x.p = y.p
    · simp [a, b]
    · have : ¬ y.p = x.p := fun e => b e.symm
      simp [a, b, this]
  · have : ¬ y.v = x.v := fun e => a e.symm
    simp [a, this]
theorem fp_at {L : List TV} (h : Nd L) {j : Nat} {y : TV} (hy : L[j]? = some y) : fp L y.v y.p = L.take j ++ L.drop (j + 1) := by
  induction L generalizing j with
  | nil => simp at hy
  | cons z L ih =>
    obtain ⟨h1, h2⟩ := List.pairwise_cons.1 h
    cases j with
    | zero =>
      simp at hy
      subst hy
      have e : fp (z :: L) z.v z.p = fp L z.v z.p := by simp [fp, TV.here]
      rw [e]
      simp
      unfold fp
      rw [List.filter_eq_self]
      intro a ha
      rw [here_comm, h1 a ha]; rfl
    | succ j =>
      have hy' : L[j]? = some y := by simpa using hy
      have hz : z.here y.v y.p = false := h1 y (List.mem_of_getElem? hy')
      have e : fp (z :: L) y.v y.p = z :: fp L y.v y.p := by simp [fp, hz]
      rw [e, ih h2 hy']
      simp
theorem rp_pu {room : Nat} {L : List TV} (h : Nd L) (hl : L.length ≤ room) (e : TV) : rp room L e = pu room L e := by
  unfold rp pu
  have hle := fp_le L e.v e.p
  have hn := Nd.fp h e.v e.p
  generalize fp L e.v e.p = M at *
  by_cases hm : M.length = room
  · rw [if_pos (by omega), if_pos hm]
    cases M with
    | nil => rfl
    | cons y M =>
      have := fp_at hn (j := 0) (y := y) rfl
      show _ = fp (y :: M) y.v y.p ++ [e]
      rw [this]
      simp
  · rw [if_neg (by omega), if_neg hm]
theorem step_call {P : Program} {ops : Array Oper} {o : Oper} {a : Act} {w : World} {K : Act → World → Prop} {Q : Exit → Act → World → Prop} {E : Prop} (hgd : o.guard = none) (f : FuncId) (x y : Operand) (tx ty : TypeId)
    (ho : o.op = .call { callee := .value (.func f), args := #[x, y], argTypes := #[tx, ty] }) (vx vy : Value) (hx : a.eval x = vx) (hy : a.eval y = vy) (hnf : (callFunc f #[vx, vy]).run P w = .ok (.enter f #[vx, vy]) w) {R : Ending → World → Prop} (hc : Calls P f #[vx, vy] w R)
    (h : ∀ e w', R e w' → ∃ v, e = .returned v ∧ K (a.put o.dst v) w') :
    if Region.wanted o (yielded ops a.tmps) = true then Oper.wp P o a w K Q else E := by
  have hw : Region.wanted o (yielded ops a.tmps) = true := by simp [Region.wanted, hgd]
  rw [if_pos hw]
  have he : (execOp a.eval o).run P w = .ok (.enter f #[vx, vy]) w := by
    have hf : a.eval (.func f) = .func (.func f) #[] #[] := rfl
    simp [execOp, ho, resolve, invoke, Deferred.ofValue, hf, hx, hy, hnf]
  unfold Oper.wp
  rw [he, Oper.upon_enter]
  refine hc.mono fun e w' hR => ?_
  obtain ⟨v, rfl, hk⟩ := h e w' hR
  exact hk
theorem step_call1 {P : Program} {ops : Array Oper} {o : Oper} {a : Act} {w : World} {K : Act → World → Prop} {Q : Exit → Act → World → Prop} {E : Prop} (hgd : o.guard = none) (f : FuncId) (x : Operand) (tx : TypeId)
    (ho : o.op = .call { callee := .value (.func f), args := #[x], argTypes := #[tx] }) (vx : Value) (hx : a.eval x = vx) (hnf : (callFunc f #[vx]).run P w = .ok (.enter f #[vx]) w) {R : Ending → World → Prop} (hc : Calls P f #[vx] w R)
    (h : ∀ e w', R e w' → ∃ v, e = .returned v ∧ K (a.put o.dst v) w') :
    if Region.wanted o (yielded ops a.tmps) = true then Oper.wp P o a w K Q else E := by
  have hw : Region.wanted o (yielded ops a.tmps) = true := by simp [Region.wanted, hgd]
  rw [if_pos hw]
  have he : (execOp a.eval o).run P w = .ok (.enter f #[vx]) w := by
    have hf : a.eval (.func f) = .func (.func f) #[] #[] := rfl
    simp [execOp, ho, resolve, invoke, Deferred.ofValue, hf, hx, hnf]
  unfold Oper.wp
  rw [he, Oper.upon_enter]
  refine hc.mono fun e w' hR => ?_
  obtain ⟨v, rfl, hk⟩ := h e w' hR
  exact hk
noncomputable def sw3 : Code := ((Try.f3.body.bind (blkOf 2)).getD .skip)
/-- how both stand -/
def S5 (w : World) (p g q room : Nat) : Prop := ∃ L v, TM w p g room L ∧ RM w q room v L ∧ Nd L ∧ ¬ Ft p g q ∧ ∀ k, v.ownBlock = some k → ¬ Ft p g k
structure SwP (w wa : World) (p g q room ob : Nat) (v : Value) (K n : Int) (x : TV) (L : List TV) : Prop where
  bw : Below w.heap.size w wa
  tm : TM wa p g room L
  rm : RM wa q room v L
  nd : Nd L
  nq : ¬ Ft p g q
  nv : ∀ k, v.ownBlock = some k → ¬ Ft p g k
  hob : Ob wa ob K n x
  n2 : ¬ Ft p g ob
  noq : ¬ ob = q
  ft : ∀ k, Ft p g k → w.heap.size ≤ k
  hq : w.heap.size ≤ q
set_option maxHeartbeats 2000000 in
set_option maxRecDepth 1000000 in
theorem sp_0 (w wa : World) (p g q room ob : Nat) (v : Value) (K n : Int) (x : TV) (L : List TV) (H : SwP w wa p g q room ob v K n x L) (c0 c1 c2 c3 c4 c6 c8 c9 c11 c12 c13 c14 c15 c16 c17 c18 c19 c20 c21 c22 c23 c24 c25 c26 c27 c28 c29 c30 c31 c32 c33 c34 c35 c36 c37 c38 c39 c40 c41 c42 c43 c44 c45 c46 c47 c48 c49 c51 c52 c53 c54 c55 c56 c57 c58 c59 c60 c61 c62 c63 c64 c65 c66 c67 c68 c69 c70 c71 c72 c73 c74 c75 c76 c77 c78 c79 c80 c81 c82 c83 c84 c85 c86 c87 c88 c89 c90 c91 c92 c93 c94 c95 c96 c97 c98 c99 c100 c101 c102 c103 c104 c105 c106 c107 c108 c109 c110 c111 c112 c113 c114 c115 c116 c117 c118 c119 c120 c121 c122 c123 c124 c125 c126 c127 c128 c129 c130 c131 c132 c133 c134 c135 c136 c137 c138 c139 c140 c141 c142 c143 c144 c145 c146 c147 c148 c149 : Value) (KK : Act → World → Prop) (QQ : Exit → Act → World → Prop) (hK : ∀ (wx : World) (d11 d12 d13 d14 d51 d52 d53 d54 d55 d56 d57 d58 d59 d60 d61 d62 d63 d64 d65 d66 d67 d68 d69 d70 d71 d72 d73 d74 d75 d76 d77 d78 d79 d80 d81 d82 d83 d84 d85 d86 d87 d88 d89 d90 d91 d92 d93 d94 d95 d96 d97 d98 d99 d100 d101 d102 d103 d104 d105 d106 d107 d108 d109 d110 d111 d112 d113 d114 d115 d116 d117 d118 d119 d120 d121 d122 d123 d124 d125 d126 d127 d128 d129 d130 d131 d132 d133 d134 d135 d136 d137 d138 d139 d140 : Value), S5 wx p g q room → Below w.heap.size w wx → KK ⟨#[c0, c1, c2, c3, c4, .pointer (some ⟨p, 0, none⟩), c6, .pointer (some ⟨q, 0, none⟩), c8, c9, .pointer (some ⟨ob, 0, none⟩), d11, d12, d13, d14, c15, c16, c17, c18, c19, c20, c21, c22, c23, c24, c25, c26, c27, c28, c29, c30, c31, c32, c33, c34, c35, c36, c37, c38, c39, c40, c41, c42, c43, c44, c45, c46, c47, c48, c49, .int .i64 0, d51, d52, d53, d54, d55, d56, d57, d58, d59, d60, d61, d62, d63, d64, d65, d66, d67, d68, d69, d70, d71, d72, d73, d74, d75, d76, d77, d78, d79, d80, d81, d82, d83, d84, d85, d86, d87, d88, d89, d90, d91, d92, d93, d94, d95, d96, d97, d98, d99, d100, d101, d102, d103, d104, d105, d106, d107, d108, d109, d110, d111, d112, d113, d114, d115, d116, d117, d118, d119, d120, d121, d122, d123, d124, d125, d126, d127, d128, d129, d130, d131, d132, d133, d134, d135, d136, d137, d138, d139, d140, c141, c142, c143, c144, c145, c146, c147, c148, c149], []⟩ wx) :
    Code.wp Try.prog sw3 (Exit.then KK QQ) ⟨#[c0, c1, c2, c3, c4, .pointer (some ⟨p, 0, none⟩), c6, .pointer (some ⟨q, 0, none⟩), c8, c9, .pointer (some ⟨ob, 0, none⟩), c11, c12, c13, c14, c15, c16, c17, c18, c19, c20, c21, c22, c23, c24, c25, c26, c27, c28, c29, c30, c31, c32, c33, c34, c35, c36, c37, c38, c39, c40, c41, c42, c43, c44, c45, c46, c47, c48, c49, .int .i64 0, c51, c52, c53, c54, c55, c56, c57, c58, c59, c60, c61, c62, c63, c64, c65, c66, c67, c68, c69, c70, c71, c72, c73, c74, c75, c76, c77, c78, c79, c80, c81, c82, c83, c84, c85, c86, c87, c88, c89, c90, c91, c92, c93, c94, c95, c96, c97, c98, c99, c100, c101, c102, c103, c104, c105, c106, c107, c108, c109, c110, c111, c112, c113, c114, c115, c116, c117, c118, c119, c120, c121, c122, c123, c124, c125, c126, c127, c128, c129, c130, c131, c132, c133, c134, c135, c136, c137, c138, c139, c140, c141, c142, c143, c144, c145, c146, c147, c148, c149], []⟩ wa := by
  have HH := hid H
  have HK := hid hK
  obtain ⟨x0, x1, x2, x3, x4, x5⟩ := H.hob.cs
  clear H hK
  conv => arg 2; whnf
  go_wp2_with (first
    | (go_at_call 10; refine (c_Put _ p g room L HH.out.tm x).mono ?_; rintro e w2 ⟨rfl, hm, ho⟩; have HM2 := hid hm; have HO2 := hid ho; have HR2 := hid (HH.out.rm.only ho HH.out.nq HH.out.nv); have HB2 := hid (HH.out.bw.trans (ho.below _ HH.out.bw.size HH.out.ft)); obtain ⟨x0, x1, x2, x3, x4, x5⟩ := Ob.cs (ho.old HH.out.hob HH.out.n2); have e1 := HR2.out.c1; have e2 := HR2.out.z 1; clear hm ho)
    | (go_at_call 11; refine (r_Put _ q room v L HR2.out HH.out.tm.r0 HH.out.tm.len x).mono ?_; rintro e w3 ⟨rfl, v3, hm3, ho3, hv3⟩; have HM3 := hid hm3; have HO3 := hid ho3; have HV3 := hid hv3; clear hm3 ho3 hv3))
  exact HK.out _ _ _ _ _ _ _ _ _ _ _ _ _ _ _ _ _ _ _ _ _ _ _ _ _ _ _ _ _ _ _ _ _ _ _ _ _ _ _ _ _ _ _ _ _ _ _ _ _ _ _ _ _ _ _ _ _ _ _ _ _ _ _ _ _ _ _ _ _ _ _ _ _ _ _ _ _ _ _ _ _ _ _ _ _ _ _ _ _ _ _ _ _ _ _ (⟨_, v3, HM2.out.only HO3.out (fun k z e => by subst e; exact HH.out.nq z), by rw [← rp_pu HH.out.nd HH.out.tm.len x]; exact HM3.out, HH.out.nd.pu room x, HH.out.nq, fun k hk z => by have := HV3.out k hk; have := HM2.out.lt z; omega⟩) (HB2.out.trans (HO3.out.below _ HB2.out.size (fun k z => by subst z; exact HH.out.hq)))
set_option maxHeartbeats 2000000 in
set_option maxRecDepth 1000000 in
theorem sp_1 (w wa : World) (p g q room ob : Nat) (v : Value) (K n : Int) (x : TV) (L : List TV) (H : SwP w wa p g q room ob v K n x L) (c0 c1 c2 c3 c4 c6 c8 c9 c11 c12 c13 c14 c15 c16 c17 c18 c19 c20 c21 c22 c23 c24 c25 c26 c27 c28 c29 c30 c31 c32 c33 c34 c35 c36 c37 c38 c39 c40 c41 c42 c43 c44 c45 c46 c47 c48 c49 c51 c52 c53 c54 c55 c56 c57 c58 c59 c60 c61 c62 c63 c64 c65 c66 c67 c68 c69 c70 c71 c72 c73 c74 c75 c76 c77 c78 c79 c80 c81 c82 c83 c84 c85 c86 c87 c88 c89 c90 c91 c92 c93 c94 c95 c96 c97 c98 c99 c100 c101 c102 c103 c104 c105 c106 c107 c108 c109 c110 c111 c112 c113 c114 c115 c116 c117 c118 c119 c120 c121 c122 c123 c124 c125 c126 c127 c128 c129 c130 c131 c132 c133 c134 c135 c136 c137 c138 c139 c140 c141 c142 c143 c144 c145 c146 c147 c148 c149 : Value) (KK : Act → World → Prop) (QQ : Exit → Act → World → Prop) (hK : ∀ (wx : World) (d11 d12 d13 d14 d51 d52 d53 d54 d55 d56 d57 d58 d59 d60 d61 d62 d63 d64 d65 d66 d67 d68 d69 d70 d71 d72 d73 d74 d75 d76 d77 d78 d79 d80 d81 d82 d83 d84 d85 d86 d87 d88 d89 d90 d91 d92 d93 d94 d95 d96 d97 d98 d99 d100 d101 d102 d103 d104 d105 d106 d107 d108 d109 d110 d111 d112 d113 d114 d115 d116 d117 d118 d119 d120 d121 d122 d123 d124 d125 d126 d127 d128 d129 d130 d131 d132 d133 d134 d135 d136 d137 d138 d139 d140 : Value), S5 wx p g q room → Below w.heap.size w wx → KK ⟨#[c0, c1, c2, c3, c4, .pointer (some ⟨p, 0, none⟩), c6, .pointer (some ⟨q, 0, none⟩), c8, c9, .pointer (some ⟨ob, 0, none⟩), d11, d12, d13, d14, c15, c16, c17, c18, c19, c20, c21, c22, c23, c24, c25, c26, c27, c28, c29, c30, c31, c32, c33, c34, c35, c36, c37, c38, c39, c40, c41, c42, c43, c44, c45, c46, c47, c48, c49, .int .i64 1, d51, d52, d53, d54, d55, d56, d57, d58, d59, d60, d61, d62, d63, d64, d65, d66, d67, d68, d69, d70, d71, d72, d73, d74, d75, d76, d77, d78, d79, d80, d81, d82, d83, d84, d85, d86, d87, d88, d89, d90, d91, d92, d93, d94, d95, d96, d97, d98, d99, d100, d101, d102, d103, d104, d105, d106, d107, d108, d109, d110, d111, d112, d113, d114, d115, d116, d117, d118, d119, d120, d121, d122, d123, d124, d125, d126, d127, d128, d129, d130, d131, d132, d133, d134, d135, d136, d137, d138, d139, d140, c141, c142, c143, c144, c145, c146, c147, c148, c149], []⟩ wx) :
    Code.wp Try.prog sw3 (Exit.then KK QQ) ⟨#[c0, c1, c2, c3, c4, .pointer (some ⟨p, 0, none⟩), c6, .pointer (some ⟨q, 0, none⟩), c8, c9, .pointer (some ⟨ob, 0, none⟩), c11, c12, c13, c14, c15, c16, c17, c18, c19, c20, c21, c22, c23, c24, c25, c26, c27, c28, c29, c30, c31, c32, c33, c34, c35, c36, c37, c38, c39, c40, c41, c42, c43, c44, c45, c46, c47, c48, c49, .int .i64 1, c51, c52, c53, c54, c55, c56, c57, c58, c59, c60, c61, c62, c63, c64, c65, c66, c67, c68, c69, c70, c71, c72, c73, c74, c75, c76, c77, c78, c79, c80, c81, c82, c83, c84, c85, c86, c87, c88, c89, c90, c91, c92, c93, c94, c95, c96, c97, c98, c99, c100, c101, c102, c103, c104, c105, c106, c107, c108, c109, c110, c111, c112, c113, c114, c115, c116, c117, c118, c119, c120, c121, c122, c123, c124, c125, c126, c127, c128, c129, c130, c131, c132, c133, c134, c135, c136, c137, c138, c139, c140, c141, c142, c143, c144, c145, c146, c147, c148, c149], []⟩ wa := by
  have HH := hid H
  have HK := hid hK
  obtain ⟨x0, x1, x2, x3, x4, x5⟩ := H.hob.cs
  clear H hK
  obtain ⟨y, b0, hy⟩ : ∃ y b0, lk L x.v x.p = (y, b0) := ⟨_, _, rfl⟩
  have HY := hid hy
  have heq := run_eqT y
  have hql := HH.out.rm.lt
  have hol := lt_of_block HH.out.hob
  clear hy
  conv => arg 2; whnf
  go_wp2_with (first
    | (go_at_call 12; have hc := c_Look wa p g room L HH.out.tm x.v x.p; rw [HY.out] at hc; refine hc.mono ?_; rintro e w2 ⟨rfl, hb⟩; have HB2 := hid hb; have HR2 := hid (HH.out.rm.below (hb.alloc hb.size (.cells y.cs.toArray 33))); obtain ⟨x0, x1, x2, x3, x4, x5⟩ := Ob.cs (show Ob w2 ob K n x from (hb.block _ hol).trans HH.out.hob); have hol2 := Nat.lt_of_lt_of_le hol hb.size; clear hb hc)
    | (go_at_call 13; have hc := r_Look _ q room v L HR2.out x.v x.p; rw [HY.out] at hc; refine hc.mono ?_; rintro e w3 ⟨rfl, hb⟩; have HB3 := hid hb; have HX3 := hid (Rw.below (show Rw (w2.alloc (.cells y.cs.toArray 33)) w2.heap.size [y] from (heap_alloc_new w2 _).trans (by simp [flat])) hb); obtain ⟨y0, y1, y2, y3⟩ := cells1 HX3.out; have hx3 := HX3.out.lt; clear hb hc))
  have b2 : Below wa.heap.size wa (w2.alloc (.cells y.cs.toArray 33)) := HB2.out.alloc HB2.out.size _
  have b3 : Below wa.heap.size wa w3 := b2.trans (HB3.out.mono b2.size)
  have b4 : Below wa.heap.size wa (w3.alloc (.cells y.cs.toArray 33)) := b3.alloc b3.size _
  exact HK.out _ _ _ _ _ _ _ _ _ _ _ _ _ _ _ _ _ _ _ _ _ _ _ _ _ _ _ _ _ _ _ _ _ _ _ _ _ _ _ _ _ _ _ _ _ _ _ _ _ _ _ _ _ _ _ _ _ _ _ _ _ _ _ _ _ _ _ _ _ _ _ _ _ _ _ _ _ _ _ _ _ _ _ _ _ _ _ _ _ _ _ _ _ _ _ (⟨L, v, HH.out.tm.below b4, HH.out.rm.below b4, HH.out.nd, HH.out.nq, HH.out.nv⟩) (HH.out.bw.trans (b4.mono HH.out.bw.size))
set_option maxHeartbeats 2000000 in
set_option maxRecDepth 1000000 in
theorem sp_2 (w wa : World) (p g q room ob : Nat) (v : Value) (K n : Int) (x : TV) (L : List TV) (H : SwP w wa p g q room ob v K n x L) (c0 c1 c2 c3 c4 c6 c8 c9 c11 c12 c13 c14 c15 c16 c17 c18 c19 c20 c21 c22 c23 c24 c25 c26 c27 c28 c29 c30 c31 c32 c33 c34 c35 c36 c37 c38 c39 c40 c41 c42 c43 c44 c45 c46 c47 c48 c49 c51 c52 c53 c54 c55 c56 c57 c58 c59 c60 c61 c62 c63 c64 c65 c66 c67 c68 c69 c70 c71 c72 c73 c74 c75 c76 c77 c78 c79 c80 c81 c82 c83 c84 c85 c86 c87 c88 c89 c90 c91 c92 c93 c94 c95 c96 c97 c98 c99 c100 c101 c102 c103 c104 c105 c106 c107 c108 c109 c110 c111 c112 c113 c114 c115 c116 c117 c118 c119 c120 c121 c122 c123 c124 c125 c126 c127 c128 c129 c130 c131 c132 c133 c134 c135 c136 c137 c138 c139 c140 c141 c142 c143 c144 c145 c146 c147 c148 c149 : Value) (KK : Act → World → Prop) (QQ : Exit → Act → World → Prop) (hK : ∀ (wx : World) (d11 d12 d13 d14 d51 d52 d53 d54 d55 d56 d57 d58 d59 d60 d61 d62 d63 d64 d65 d66 d67 d68 d69 d70 d71 d72 d73 d74 d75 d76 d77 d78 d79 d80 d81 d82 d83 d84 d85 d86 d87 d88 d89 d90 d91 d92 d93 d94 d95 d96 d97 d98 d99 d100 d101 d102 d103 d104 d105 d106 d107 d108 d109 d110 d111 d112 d113 d114 d115 d116 d117 d118 d119 d120 d121 d122 d123 d124 d125 d126 d127 d128 d129 d130 d131 d132 d133 d134 d135 d136 d137 d138 d139 d140 : Value), S5 wx p g q room → Below w.heap.size w wx → KK ⟨#[c0, c1, c2, c3, c4, .pointer (some ⟨p, 0, none⟩), c6, .pointer (some ⟨q, 0, none⟩), c8, c9, .pointer (some ⟨ob, 0, none⟩), d11, d12, d13, d14, c15, c16, c17, c18, c19, c20, c21, c22, c23, c24, c25, c26, c27, c28, c29, c30, c31, c32, c33, c34, c35, c36, c37, c38, c39, c40, c41, c42, c43, c44, c45, c46, c47, c48, c49, .int .i64 2, d51, d52, d53, d54, d55, d56, d57, d58, d59, d60, d61, d62, d63, d64, d65, d66, d67, d68, d69, d70, d71, d72, d73, d74, d75, d76, d77, d78, d79, d80, d81, d82, d83, d84, d85, d86, d87, d88, d89, d90, d91, d92, d93, d94, d95, d96, d97, d98, d99, d100, d101, d102, d103, d104, d105, d106, d107, d108, d109, d110, d111, d112, d113, d114, d115, d116, d117, d118, d119, d120, d121, d122, d123, d124, d125, d126, d127, d128, d129, d130, d131, d132, d133, d134, d135, d136, d137, d138, d139, d140, c141, c142, c143, c144, c145, c146, c147, c148, c149], []⟩ wx) :
    Code.wp Try.prog sw3 (Exit.then KK QQ) ⟨#[c0, c1, c2, c3, c4, .pointer (some ⟨p, 0, none⟩), c6, .pointer (some ⟨q, 0, none⟩), c8, c9, .pointer (some ⟨ob, 0, none⟩), c11, c12, c13, c14, c15, c16, c17, c18, c19, c20, c21, c22, c23, c24, c25, c26, c27, c28, c29, c30, c31, c32, c33, c34, c35, c36, c37, c38, c39, c40, c41, c42, c43, c44, c45, c46, c47, c48, c49, .int .i64 2, c51, c52, c53, c54, c55, c56, c57, c58, c59, c60, c61, c62, c63, c64, c65, c66, c67, c68, c69, c70, c71, c72, c73, c74, c75, c76, c77, c78, c79, c80, c81, c82, c83, c84, c85, c86, c87, c88, c89, c90, c91, c92, c93, c94, c95, c96, c97, c98, c99, c100, c101, c102, c103, c104, c105, c106, c107, c108, c109, c110, c111, c112, c113, c114, c115, c116, c117, c118, c119, c120, c121, c122, c123, c124, c125, c126, c127, c128, c129, c130, c131, c132, c133, c134, c135, c136, c137, c138, c139, c140, c141, c142, c143, c144, c145, c146, c147, c148, c149], []⟩ wa := by
  have HH := hid H
  have HK := hid hK
  obtain ⟨x0, x1, x2, x3, x4, x5⟩ := H.hob.cs
  clear H hK
  refine Code.wp_mono (Q := Exit.then KK (fun _ _ _ => False)) (fun e a w h => by cases e <;> first | exact h | exact h.elim) ?_
  by_cases hn : n < 0 ∨ (L.length : Int) ≤ n
  · have HNN := hid hn
    clear hn
    have HTM : Hid (TM wa.drew p g room L) := HH.out.tm.below (Below.refl _ _).drew
    have HRM : Hid (RM wa.drew q room v L) := HH.out.rm.below (Below.refl _ _).drew
    have HNV := hid HH.out.nv
    have HBW : Hid (Below w.heap.size w wa.drew) := HH.out.bw.drew
    conv => arg 2; whnf
    go_wp2_with fail
    go_region_law (first
      | (refine step_call rfl 14 (.tmp 95) (.tmp 97) _ _ rfl (.pointer (some ⟨p, 0, none⟩)) (.int .i64 n) (by go_simp) (by go_simp) (Try.call14 _ _) (c_Evict_no _ p g room L HTM.out n HNN.out) ?_; rintro e w2 ⟨rfl, hw⟩; obtain rfl := hw.symm; refine ⟨_, rfl, ?_⟩)
      | (refine step_call rfl 15 (.tmp 99) (.tmp 101) _ _ rfl (.pointer (some ⟨q, 0, none⟩)) (.int .i64 n) (by go_simp) (by go_simp) (Try.call15 _ _) (r_Evict_no _ q room v L HRM.out n HNN.out) ?_; rintro e w3 ⟨rfl, hw⟩; obtain rfl := hw.symm; refine ⟨_, rfl, ?_⟩))
    all_goals
      go_wp2_with fail
      exact HK.out _ _ _ _ _ _ _ _ _ _ _ _ _ _ _ _ _ _ _ _ _ _ _ _ _ _ _ _ _ _ _ _ _ _ _ _ _ _ _ _ _ _ _ _ _ _ _ _ _ _ _ _ _ _ _ _ _ _ _ _ _ _ _ _ _ _ _ _ _ _ _ _ _ _ _ _ _ _ _ _ _ _ _ _ _ _ _ _ _ _ _ _ _ _ _ (⟨L, v, HTM.out, HRM.out, HH.out.nd, HH.out.nq, HNV.out⟩) (HBW.out)
  · obtain ⟨j, rfl⟩ : ∃ j : Nat, n = j := ⟨n.toNat, by omega⟩
    obtain ⟨y, hy⟩ : ∃ y, L[j]? = some y := ⟨_, List.getElem?_eq_getElem (by omega)⟩
    have hjl : j < L.length := by omega
    have HY := hid hy
    have HEE := hid (fp_at HH.out.nd hy)
    clear hy hn
    have HTM : Hid (TM wa.drew p g room L) := HH.out.tm.below (Below.refl _ _).drew
    have HRM : Hid (RM wa.drew q room v L) := HH.out.rm.below (Below.refl _ _).drew
    have HNV := hid HH.out.nv
    have HBW : Hid (Below w.heap.size w wa.drew) := HH.out.bw.drew
    have HOB : Hid (Ob wa.drew ob K j x) := HH.out.hob
    conv => arg 2; whnf
    go_wp2_with fail
    go_region_law (first
      | (refine step_call rfl 14 (.tmp 95) (.tmp 97) _ _ rfl (.pointer (some ⟨p, 0, none⟩)) (.int .i64 (j : Int)) (by go_simp) (by go_simp) (Try.call14 _ _) (c_Evict _ p g room L HTM.out j y HY.out _ rfl) ?_; rintro e w2 ⟨rfl, hm, ho⟩; have HRM := hid (HRM.out.only ho HH.out.nq HNV.out); have HBW := hid (HBW.out.trans (ho.below _ HBW.out.size HH.out.ft)); have HOB := hid (show Ob _ ob K j x from ho.old HOB.out HH.out.n2); have HTM := hid hm; have x1 := HOB.out.cs.2.1; clear hm ho; refine ⟨_, rfl, ?_⟩)
      | (refine step_call rfl 15 (.tmp 99) (.tmp 101) _ _ rfl (.pointer (some ⟨q, 0, none⟩)) (.int .i64 (j : Int)) (by go_simp) (by go_simp) (Try.call15 _ _) (r_Evict _ q room v L HRM.out j hjl _ rfl) ?_; rintro e w3 ⟨rfl, v3, hm, ho, hv3⟩; have HNV := hid (show ∀ k, v3.ownBlock = some k → ¬ Ft p g k from fun k hk z => by have := hv3 k hk; have := HTM.out.lt z; omega); have HTM := hid (HTM.out.only ho (fun k z e => by subst e; exact HH.out.nq z)); have HBW := hid (HBW.out.trans (ho.below _ HBW.out.size (fun k z => by subst z; exact HH.out.hq))); have HOB := hid (show Ob _ ob K j x from ho.old HOB.out HH.out.noq); have HRM := hid hm; have x1 := HOB.out.cs.2.1; clear hm ho hv3; refine ⟨_, rfl, ?_⟩))
    all_goals
      go_wp2_with fail
      exact HK.out _ _ _ _ _ _ _ _ _ _ _ _ _ _ _ _ _ _ _ _ _ _ _ _ _ _ _ _ _ _ _ _ _ _ _ _ _ _ _ _ _ _ _ _ _ _ _ _ _ _ _ _ _ _ _ _ _ _ _ _ _ _ _ _ _ _ _ _ _ _ _ _ _ _ _ _ _ _ _ _ _ _ _ _ _ _ _ _ _ _ _ _ _ _ _ (⟨_, v3, HTM.out, by rw [HEE.out]; exact HRM.out, HH.out.nd.fp _ _, HH.out.nq, HNV.out⟩) (HBW.out)
set_option maxHeartbeats 2000000 in
set_option maxRecDepth 1000000 in
theorem sp_3 (w wa : World) (p g q room ob : Nat) (v : Value) (K n : Int) (x : TV) (L : List TV) (H : SwP w wa p g q room ob v K n x L) (c0 c1 c2 c3 c4 c6 c8 c9 c11 c12 c13 c14 c15 c16 c17 c18 c19 c20 c21 c22 c23 c24 c25 c26 c27 c28 c29 c30 c31 c32 c33 c34 c35 c36 c37 c38 c39 c40 c41 c42 c43 c44 c45 c46 c47 c48 c49 c51 c52 c53 c54 c55 c56 c57 c58 c59 c60 c61 c62 c63 c64 c65 c66 c67 c68 c69 c70 c71 c72 c73 c74 c75 c76 c77 c78 c79 c80 c81 c82 c83 c84 c85 c86 c87 c88 c89 c90 c91 c92 c93 c94 c95 c96 c97 c98 c99 c100 c101 c102 c103 c104 c105 c106 c107 c108 c109 c110 c111 c112 c113 c114 c115 c116 c117 c118 c119 c120 c121 c122 c123 c124 c125 c126 c127 c128 c129 c130 c131 c132 c133 c134 c135 c136 c137 c138 c139 c140 c141 c142 c143 c144 c145 c146 c147 c148 c149 : Value) (KK : Act → World → Prop) (QQ : Exit → Act → World → Prop) (hK : ∀ (wx : World) (d11 d12 d13 d14 d51 d52 d53 d54 d55 d56 d57 d58 d59 d60 d61 d62 d63 d64 d65 d66 d67 d68 d69 d70 d71 d72 d73 d74 d75 d76 d77 d78 d79 d80 d81 d82 d83 d84 d85 d86 d87 d88 d89 d90 d91 d92 d93 d94 d95 d96 d97 d98 d99 d100 d101 d102 d103 d104 d105 d106 d107 d108 d109 d110 d111 d112 d113 d114 d115 d116 d117 d118 d119 d120 d121 d122 d123 d124 d125 d126 d127 d128 d129 d130 d131 d132 d133 d134 d135 d136 d137 d138 d139 d140 : Value), S5 wx p g q room → Below w.heap.size w wx → KK ⟨#[c0, c1, c2, c3, c4, .pointer (some ⟨p, 0, none⟩), c6, .pointer (some ⟨q, 0, none⟩), c8, c9, .pointer (some ⟨ob, 0, none⟩), d11, d12, d13, d14, c15, c16, c17, c18, c19, c20, c21, c22, c23, c24, c25, c26, c27, c28, c29, c30, c31, c32, c33, c34, c35, c36, c37, c38, c39, c40, c41, c42, c43, c44, c45, c46, c47, c48, c49, .int .i64 3, d51, d52, d53, d54, d55, d56, d57, d58, d59, d60, d61, d62, d63, d64, d65, d66, d67, d68, d69, d70, d71, d72, d73, d74, d75, d76, d77, d78, d79, d80, d81, d82, d83, d84, d85, d86, d87, d88, d89, d90, d91, d92, d93, d94, d95, d96, d97, d98, d99, d100, d101, d102, d103, d104, d105, d106, d107, d108, d109, d110, d111, d112, d113, d114, d115, d116, d117, d118, d119, d120, d121, d122, d123, d124, d125, d126, d127, d128, d129, d130, d131, d132, d133, d134, d135, d136, d137, d138, d139, d140, c141, c142, c143, c144, c145, c146, c147, c148, c149], []⟩ wx) :
    Code.wp Try.prog sw3 (Exit.then KK QQ) ⟨#[c0, c1, c2, c3, c4, .pointer (some ⟨p, 0, none⟩), c6, .pointer (some ⟨q, 0, none⟩), c8, c9, .pointer (some ⟨ob, 0, none⟩), c11, c12, c13, c14, c15, c16, c17, c18, c19, c20, c21, c22, c23, c24, c25, c26, c27, c28, c29, c30, c31, c32, c33, c34, c35, c36, c37, c38, c39, c40, c41, c42, c43, c44, c45, c46, c47, c48, c49, .int .i64 3, c51, c52, c53, c54, c55, c56, c57, c58, c59, c60, c61, c62, c63, c64, c65, c66, c67, c68, c69, c70, c71, c72, c73, c74, c75, c76, c77, c78, c79, c80, c81, c82, c83, c84, c85, c86, c87, c88, c89, c90, c91, c92, c93, c94, c95, c96, c97, c98, c99, c100, c101, c102, c103, c104, c105, c106, c107, c108, c109, c110, c111, c112, c113, c114, c115, c116, c117, c118, c119, c120, c121, c122, c123, c124, c125, c126, c127, c128, c129, c130, c131, c132, c133, c134, c135, c136, c137, c138, c139, c140, c141, c142, c143, c144, c145, c146, c147, c148, c149], []⟩ wa := by
  have HH := hid H
  have HK := hid hK
  obtain ⟨x0, x1, x2, x3, x4, x5⟩ := H.hob.cs
  clear H hK
  conv => arg 2; whnf
  go_wp2_with (first
    | (go_at_call 16; refine (c_Flush _ p g room L HH.out.tm x.v).mono ?_; rintro e w2 ⟨rfl, hm, ho⟩; have HM2 := hid hm; have HO2 := hid ho; have HR2 := hid (HH.out.rm.only ho HH.out.nq HH.out.nv); have HB2 := hid (HH.out.bw.trans (ho.below _ HH.out.bw.size HH.out.ft)); obtain ⟨x0, x1, x2, x3, x4, x5⟩ := Ob.cs (ho.old HH.out.hob HH.out.n2); have e1 := HR2.out.c1; have e2 := HR2.out.z 1; clear hm ho)
    | (go_at_call 17; refine (r_Flush _ q room v L HR2.out x.v).mono ?_; rintro e w3 ⟨rfl, v3, hm3, ho3, hv3⟩; have HM3 := hid hm3; have HO3 := hid ho3; have HV3 := hid hv3; clear hm3 ho3 hv3))
  exact HK.out _ _ _ _ _ _ _ _ _ _ _ _ _ _ _ _ _ _ _ _ _ _ _ _ _ _ _ _ _ _ _ _ _ _ _ _ _ _ _ _ _ _ _ _ _ _ _ _ _ _ _ _ _ _ _ _ _ _ _ _ _ _ _ _ _ _ _ _ _ _ _ _ _ _ _ _ _ _ _ _ _ _ _ _ _ _ _ _ _ _ _ _ _ _ _ (⟨_, v3, HM2.out.only HO3.out (fun k z e => by subst e; exact HH.out.nq z), HM3.out, HH.out.nd.fl _, HH.out.nq, fun k hk z => by have := HV3.out k hk; have := HM2.out.lt z; omega⟩) (HB2.out.trans (HO3.out.below _ HB2.out.size (fun k z => by subst z; exact HH.out.hq)))
set_option maxHeartbeats 2000000 in
set_option maxRecDepth 1000000 in
theorem sp_4 (w wa : World) (p g q room ob : Nat) (v : Value) (K n : Int) (x : TV) (L : List TV) (H : SwP w wa p g q room ob v K n x L) (c0 c1 c2 c3 c4 c6 c8 c9 c11 c12 c13 c14 c15 c16 c17 c18 c19 c20 c21 c22 c23 c24 c25 c26 c27 c28 c29 c30 c31 c32 c33 c34 c35 c36 c37 c38 c39 c40 c41 c42 c43 c44 c45 c46 c47 c48 c49 c51 c52 c53 c54 c55 c56 c57 c58 c59 c60 c61 c62 c63 c64 c65 c66 c67 c68 c69 c70 c71 c72 c73 c74 c75 c76 c77 c78 c79 c80 c81 c82 c83 c84 c85 c86 c87 c88 c89 c90 c91 c92 c93 c94 c95 c96 c97 c98 c99 c100 c101 c102 c103 c104 c105 c106 c107 c108 c109 c110 c111 c112 c113 c114 c115 c116 c117 c118 c119 c120 c121 c122 c123 c124 c125 c126 c127 c128 c129 c130 c131 c132 c133 c134 c135 c136 c137 c138 c139 c140 c141 c142 c143 c144 c145 c146 c147 c148 c149 : Value) (KK : Act → World → Prop) (QQ : Exit → Act → World → Prop) (hK : ∀ (wx : World) (d11 d12 d13 d14 d51 d52 d53 d54 d55 d56 d57 d58 d59 d60 d61 d62 d63 d64 d65 d66 d67 d68 d69 d70 d71 d72 d73 d74 d75 d76 d77 d78 d79 d80 d81 d82 d83 d84 d85 d86 d87 d88 d89 d90 d91 d92 d93 d94 d95 d96 d97 d98 d99 d100 d101 d102 d103 d104 d105 d106 d107 d108 d109 d110 d111 d112 d113 d114 d115 d116 d117 d118 d119 d120 d121 d122 d123 d124 d125 d126 d127 d128 d129 d130 d131 d132 d133 d134 d135 d136 d137 d138 d139 d140 : Value), S5 wx p g q room → Below w.heap.size w wx → KK ⟨#[c0, c1, c2, c3, c4, .pointer (some ⟨p, 0, none⟩), c6, .pointer (some ⟨q, 0, none⟩), c8, c9, .pointer (some ⟨ob, 0, none⟩), d11, d12, d13, d14, c15, c16, c17, c18, c19, c20, c21, c22, c23, c24, c25, c26, c27, c28, c29, c30, c31, c32, c33, c34, c35, c36, c37, c38, c39, c40, c41, c42, c43, c44, c45, c46, c47, c48, c49, .int .i64 4, d51, d52, d53, d54, d55, d56, d57, d58, d59, d60, d61, d62, d63, d64, d65, d66, d67, d68, d69, d70, d71, d72, d73, d74, d75, d76, d77, d78, d79, d80, d81, d82, d83, d84, d85, d86, d87, d88, d89, d90, d91, d92, d93, d94, d95, d96, d97, d98, d99, d100, d101, d102, d103, d104, d105, d106, d107, d108, d109, d110, d111, d112, d113, d114, d115, d116, d117, d118, d119, d120, d121, d122, d123, d124, d125, d126, d127, d128, d129, d130, d131, d132, d133, d134, d135, d136, d137, d138, d139, d140, c141, c142, c143, c144, c145, c146, c147, c148, c149], []⟩ wx) :
    Code.wp Try.prog sw3 (Exit.then KK QQ) ⟨#[c0, c1, c2, c3, c4, .pointer (some ⟨p, 0, none⟩), c6, .pointer (some ⟨q, 0, none⟩), c8, c9, .pointer (some ⟨ob, 0, none⟩), c11, c12, c13, c14, c15, c16, c17, c18, c19, c20, c21, c22, c23, c24, c25, c26, c27, c28, c29, c30, c31, c32, c33, c34, c35, c36, c37, c38, c39, c40, c41, c42, c43, c44, c45, c46, c47, c48, c49, .int .i64 4, c51, c52, c53, c54, c55, c56, c57, c58, c59, c60, c61, c62, c63, c64, c65, c66, c67, c68, c69, c70, c71, c72, c73, c74, c75, c76, c77, c78, c79, c80, c81, c82, c83, c84, c85, c86, c87, c88, c89, c90, c91, c92, c93, c94, c95, c96, c97, c98, c99, c100, c101, c102, c103, c104, c105, c106, c107, c108, c109, c110, c111, c112, c113, c114, c115, c116, c117, c118, c119, c120, c121, c122, c123, c124, c125, c126, c127, c128, c129, c130, c131, c132, c133, c134, c135, c136, c137, c138, c139, c140, c141, c142, c143, c144, c145, c146, c147, c148, c149], []⟩ wa := by
  have HH := hid H
  have HK := hid hK
  obtain ⟨x0, x1, x2, x3, x4, x5⟩ := H.hob.cs
  clear H hK
  conv => arg 2; whnf
  go_wp2_with (first
    | (go_at_call 18; refine (c_FlushPage _ p g room L HH.out.tm x.v x.p).mono ?_; rintro e w2 ⟨rfl, hm, ho⟩; have HM2 := hid hm; have HO2 := hid ho; have HR2 := hid (HH.out.rm.only ho HH.out.nq HH.out.nv); have HB2 := hid (HH.out.bw.trans (ho.below _ HH.out.bw.size HH.out.ft)); obtain ⟨x0, x1, x2, x3, x4, x5⟩ := Ob.cs (ho.old HH.out.hob HH.out.n2); have e1 := HR2.out.c1; have e2 := HR2.out.z 1; clear hm ho)
    | (go_at_call 19; refine (r_FlushPage _ q room v L HR2.out x.v x.p).mono ?_; rintro e w3 ⟨rfl, v3, hm3, ho3, hv3⟩; have HM3 := hid hm3; have HO3 := hid ho3; have HV3 := hid hv3; clear hm3 ho3 hv3))
  exact HK.out _ _ _ _ _ _ _ _ _ _ _ _ _ _ _ _ _ _ _ _ _ _ _ _ _ _ _ _ _ _ _ _ _ _ _ _ _ _ _ _ _ _ _ _ _ _ _ _ _ _ _ _ _ _ _ _ _ _ _ _ _ _ _ _ _ _ _ _ _ _ _ _ _ _ _ _ _ _ _ _ _ _ _ _ _ _ _ _ _ _ _ _ _ _ _ (⟨_, v3, HM2.out.only HO3.out (fun k z e => by subst e; exact HH.out.nq z), HM3.out, HH.out.nd.fp _ _, HH.out.nq, fun k hk z => by have := HV3.out k hk; have := HM2.out.lt z; omega⟩) (HB2.out.trans (HO3.out.below _ HB2.out.size (fun k z => by subst z; exact HH.out.hq)))
set_option maxHeartbeats 2000000 in
set_option maxRecDepth 1000000 in
theorem sp_5 (w wa : World) (p g q room ob : Nat) (v : Value) (K n : Int) (x : TV) (L : List TV) (H : SwP w wa p g q room ob v K n x L) (c0 c1 c2 c3 c4 c6 c8 c9 c11 c12 c13 c14 c15 c16 c17 c18 c19 c20 c21 c22 c23 c24 c25 c26 c27 c28 c29 c30 c31 c32 c33 c34 c35 c36 c37 c38 c39 c40 c41 c42 c43 c44 c45 c46 c47 c48 c49 c51 c52 c53 c54 c55 c56 c57 c58 c59 c60 c61 c62 c63 c64 c65 c66 c67 c68 c69 c70 c71 c72 c73 c74 c75 c76 c77 c78 c79 c80 c81 c82 c83 c84 c85 c86 c87 c88 c89 c90 c91 c92 c93 c94 c95 c96 c97 c98 c99 c100 c101 c102 c103 c104 c105 c106 c107 c108 c109 c110 c111 c112 c113 c114 c115 c116 c117 c118 c119 c120 c121 c122 c123 c124 c125 c126 c127 c128 c129 c130 c131 c132 c133 c134 c135 c136 c137 c138 c139 c140 c141 c142 c143 c144 c145 c146 c147 c148 c149 : Value) (KK : Act → World → Prop) (QQ : Exit → Act → World → Prop) (hK : ∀ (wx : World) (d11 d12 d13 d14 d51 d52 d53 d54 d55 d56 d57 d58 d59 d60 d61 d62 d63 d64 d65 d66 d67 d68 d69 d70 d71 d72 d73 d74 d75 d76 d77 d78 d79 d80 d81 d82 d83 d84 d85 d86 d87 d88 d89 d90 d91 d92 d93 d94 d95 d96 d97 d98 d99 d100 d101 d102 d103 d104 d105 d106 d107 d108 d109 d110 d111 d112 d113 d114 d115 d116 d117 d118 d119 d120 d121 d122 d123 d124 d125 d126 d127 d128 d129 d130 d131 d132 d133 d134 d135 d136 d137 d138 d139 d140 : Value), S5 wx p g q room → Below w.heap.size w wx → KK ⟨#[c0, c1, c2, c3, c4, .pointer (some ⟨p, 0, none⟩), c6, .pointer (some ⟨q, 0, none⟩), c8, c9, .pointer (some ⟨ob, 0, none⟩), d11, d12, d13, d14, c15, c16, c17, c18, c19, c20, c21, c22, c23, c24, c25, c26, c27, c28, c29, c30, c31, c32, c33, c34, c35, c36, c37, c38, c39, c40, c41, c42, c43, c44, c45, c46, c47, c48, c49, .int .i64 5, d51, d52, d53, d54, d55, d56, d57, d58, d59, d60, d61, d62, d63, d64, d65, d66, d67, d68, d69, d70, d71, d72, d73, d74, d75, d76, d77, d78, d79, d80, d81, d82, d83, d84, d85, d86, d87, d88, d89, d90, d91, d92, d93, d94, d95, d96, d97, d98, d99, d100, d101, d102, d103, d104, d105, d106, d107, d108, d109, d110, d111, d112, d113, d114, d115, d116, d117, d118, d119, d120, d121, d122, d123, d124, d125, d126, d127, d128, d129, d130, d131, d132, d133, d134, d135, d136, d137, d138, d139, d140, c141, c142, c143, c144, c145, c146, c147, c148, c149], []⟩ wx) :
    Code.wp Try.prog sw3 (Exit.then KK QQ) ⟨#[c0, c1, c2, c3, c4, .pointer (some ⟨p, 0, none⟩), c6, .pointer (some ⟨q, 0, none⟩), c8, c9, .pointer (some ⟨ob, 0, none⟩), c11, c12, c13, c14, c15, c16, c17, c18, c19, c20, c21, c22, c23, c24, c25, c26, c27, c28, c29, c30, c31, c32, c33, c34, c35, c36, c37, c38, c39, c40, c41, c42, c43, c44, c45, c46, c47, c48, c49, .int .i64 5, c51, c52, c53, c54, c55, c56, c57, c58, c59, c60, c61, c62, c63, c64, c65, c66, c67, c68, c69, c70, c71, c72, c73, c74, c75, c76, c77, c78, c79, c80, c81, c82, c83, c84, c85, c86, c87, c88, c89, c90, c91, c92, c93, c94, c95, c96, c97, c98, c99, c100, c101, c102, c103, c104, c105, c106, c107, c108, c109, c110, c111, c112, c113, c114, c115, c116, c117, c118, c119, c120, c121, c122, c123, c124, c125, c126, c127, c128, c129, c130, c131, c132, c133, c134, c135, c136, c137, c138, c139, c140, c141, c142, c143, c144, c145, c146, c147, c148, c149], []⟩ wa := by
  have HH := hid H
  have HK := hid hK
  obtain ⟨x0, x1, x2, x3, x4, x5⟩ := H.hob.cs
  clear H hK
  conv => arg 2; whnf
  go_wp2_with (go_at_call 20; refine (c_FlushAll _ p g room L HH.out.tm).mono ?_; rintro e w2 ⟨rfl, hm, ho⟩; have HM2 := hid hm; have HO2 := hid ho; have HR2 := hid (HH.out.rm.only ho HH.out.nq HH.out.nv); have HB2 := hid (HH.out.bw.trans (ho.below _ HH.out.bw.size HH.out.ft)); obtain ⟨x0, x1, x2, x3, x4, x5⟩ := Ob.cs (ho.old HH.out.hob HH.out.n2); have e1 := HR2.out.c1; have e2 := HR2.out.z 1; clear hm ho)
  exact HK.out _ _ _ _ _ _ _ _ _ _ _ _ _ _ _ _ _ _ _ _ _ _ _ _ _ _ _ _ _ _ _ _ _ _ _ _ _ _ _ _ _ _ _ _ _ _ _ _ _ _ _ _ _ _ _ _ _ _ _ _ _ _ _ _ _ _ _ _ _ _ _ _ _ _ _ _ _ _ _ _ _ _ _ _ _ _ _ _ _ _ _ _ _ _ _ (⟨[], .slice none 0 0, HM2.out.only (S := (· = q)) ((Only.refl (S := (· = q)) w2).setCell (p := ⟨q, 1, none⟩) (.inl rfl) _) (fun k z e => by subst e; exact HH.out.nq z), RM.put HR2.out (Only.refl (S := fun _ => False) w2) (fun z => z) (Es.nil w2 0) (by simp), Nd.nil, HH.out.nq, fun k hk => by cases hk⟩) (HB2.out.setCell (p := ⟨q, 1, none⟩) HH.out.hq _)
end Go.Proofs.Ytgenjhcpcjhpmaa
