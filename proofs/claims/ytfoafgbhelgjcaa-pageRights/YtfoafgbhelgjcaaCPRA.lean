/- PageRights: its three tests, a theorem each. -/
import Derived.Test.YtfoafgbhelgjcaaProg
import Derived.Test.YtfoafgbhelgjcaaMC1
namespace Go.Proofs.Ytfoafgbhelgjcaa.C
open Go.RowKit
set_option linter.unusedVariables false
set_option maxRecDepth 100000

def blkOf (n : Nat) : Code → Option Code
  | .block m c => match Nat.beq m n with
    | true => some (.block m c)
    | false => blkOf n c
  | .seq a b => match blkOf n a with
    | some c => some c
    | none => blkOf n b
  | .loop c => blkOf n c
  | .scope c => blkOf n c
  | .cond _ a b => match blkOf n a with
    | some c => some c
    | none => blkOf n b
  | _ => none
def regOf (n : Nat) : Code → Option Code
  | .region m ops d => match Nat.beq m n with
    | true => some (.region m ops d)
    | false => none
  | .block _ c => regOf n c
  | .seq a b => match regOf n a with
    | some c => some c
    | none => regOf n b
  | .loop c => regOf n c
  | .scope c => regOf n c
  | .cond _ a b => match regOf n a with
    | some c => some c
    | none => regOf n b
  | _ => none
def cndOf (n : Nat) : Code → Option Code
  | .block _ c => cndOf n c
  | .seq a b => match cndOf n a with
    | some c => some c
    | none => cndOf n b
  | .loop c => cndOf n c
  | .scope c => cndOf n c
  | .cond (.tmp m) a b => match Nat.beq m n with
    | true => some (.cond (.tmp m) a b)
    | false => match cndOf n a with
      | some c => some c
      | none => cndOf n b
  | _ => none
noncomputable def reg7 : Code := ((Try.f17.body.bind (regOf 7)).getD .skip)
noncomputable def blk0 : Code := ((Try.f17.body.bind (blkOf 0)).getD .skip)
noncomputable def cnd96 : Code := ((Try.f17.body.bind (cndOf 96)).getD .skip)
set_option maxHeartbeats 2000000 in
set_option maxRecDepth 1000000 in
theorem pr_1 (w : World) (b : Nat) (h1 h2 h4 h8 : Bool) (x1 : (bits .and .u64 (b : Int) 1 != 0) = h1) (x2 : (bits .and .u64 (b : Int) 2 != 0) = h2) (y4 : (bits .and .u64 (b : Int) 4 == 0) = !h4) (x8 : (bits .and .u64 (b : Int) 8 != 0) = h8) (c0 c1 c2 c3 c4 c5 c6 c7 c8 c9 c10 c12 c13 c14 c15 c16 c17 c18 c19 c20 c21 c22 c23 c24 c25 c26 c27 c28 c29 c30 c31 c32 c33 c34 c35 c36 c37 c38 c39 c40 c41 c42 c43 c44 c45 c46 c47 c48 c49 c50 c51 c52 c53 c54 c55 c56 c57 c58 c59 c60 c61 c62 c63 c64 c65 c66 c67 c68 c69 c70 c71 c72 c73 c74 c75 c76 c77 c78 c79 c80 c81 c82 c83 c84 c85 c86 c87 c88 c89 c90 c91 c92 c93 c94 c95 c96 c97 c98 c99 c100 c101 c102 c103 c104 c105 c106 c107 c108 c109 c110 c111 c112 c113 c114 c115 c116 c117 c118 c119 c120 c121 c122 c123 c124 c125 c126 c127 c128 c129 c130 c131 c132 c133 c134 : Value) (KK : Act → World → Prop) (QQ : Exit → Act → World → Prop) (hK : ∀ (d44 d45 d46 d47 d48 d49 d50 d51 d52 d53 d54 d55 d56 d57 d58 d59 d60 d61 d62 d63 d64 d65 d66 : Value), KK ⟨#[c0, c1, c2, c3, c4, c5, c6, c7, c8, c9, c10, .int .u64 (b : Int), c12, c13, c14, c15, .bool (h1 && (!h4 || h2) && (h2 || h8)), c17, c18, c19, c20, c21, c22, c23, c24, c25, c26, c27, c28, c29, c30, c31, c32, c33, c34, c35, c36, c37, c38, c39, c40, c41, c42, c43, d44, d45, d46, d47, d48, d49, d50, d51, d52, d53, d54, d55, d56, d57, d58, d59, d60, d61, d62, d63, d64, d65, d66, c67, c68, c69, c70, c71, c72, c73, c74, c75, c76, c77, c78, c79, c80, c81, c82, c83, c84, c85, c86, c87, c88, c89, c90, c91, c92, c93, c94, c95, c96, c97, c98, c99, c100, c101, c102, c103, c104, c105, c106, c107, c108, c109, c110, c111, c112, c113, c114, c115, c116, c117, c118, c119, c120, c121, c122, c123, c124, c125, c126, c127, c128, c129, c130, c131, c132, c133, c134], []⟩ w) :
    Code.wp Try.prog reg7 (Exit.then KK QQ) ⟨#[c0, c1, c2, c3, c4, c5, c6, c7, c8, c9, c10, .int .u64 (b : Int), c12, c13, c14, c15, c16, c17, c18, c19, c20, c21, c22, c23, c24, c25, c26, c27, c28, c29, c30, c31, c32, c33, c34, c35, c36, c37, c38, c39, c40, c41, c42, c43, c44, c45, c46, c47, c48, c49, c50, c51, c52, c53, c54, c55, c56, c57, c58, c59, c60, c61, c62, c63, c64, c65, c66, c67, c68, c69, c70, c71, c72, c73, c74, c75, c76, c77, c78, c79, c80, c81, c82, c83, c84, c85, c86, c87, c88, c89, c90, c91, c92, c93, c94, c95, c96, c97, c98, c99, c100, c101, c102, c103, c104, c105, c106, c107, c108, c109, c110, c111, c112, c113, c114, c115, c116, c117, c118, c119, c120, c121, c122, c123, c124, c125, c126, c127, c128, c129, c130, c131, c132, c133, c134], []⟩ w := by
  have HK := hid hK
  clear hK
  cases h1 <;> cases h4 <;> cases h2 <;> cases h8
  all_goals
    simp only [Bool.not_true, Bool.not_false] at y4
    conv => arg 2; whnf
    go_wp2_with fail
    exact HK.out _ _ _ _ _ _ _ _ _ _ _ _ _ _ _ _ _ _ _ _ _ _ _
set_option maxHeartbeats 2000000 in
set_option maxRecDepth 1000000 in
theorem pr_2 (w : World) (b : Nat) (h2 h4 h8 h128 mx R : Bool) (how : Int) (hR : (how = 1 ∧ R = h8) ∨ (how = 2 ∧ R = (h2 || (mx && h8))) ∨ (how = 3 ∧ R = (h4 && h128))) (x2 : (bits .and .u64 (b : Int) 2 != 0) = h2) (x4 : (bits .and .u64 (b : Int) 4 != 0) = h4) (x8 : (bits .and .u64 (b : Int) 8 != 0) = h8) (x128 : (bits .and .u64 (b : Int) 128 != 0) = h128) (c0 c1 c2 c4 c5 c6 c7 c8 c9 c10 c12 c13 c14 c15 c16 c17 c18 c19 c20 c21 c22 c23 c24 c25 c26 c27 c28 c29 c30 c31 c32 c33 c34 c35 c36 c37 c38 c39 c40 c41 c42 c43 c44 c45 c46 c47 c48 c49 c50 c51 c52 c53 c54 c55 c56 c57 c58 c59 c60 c61 c62 c63 c64 c65 c66 c68 c69 c70 c71 c72 c73 c74 c75 c76 c77 c78 c79 c80 c81 c82 c83 c84 c85 c86 c87 c88 c89 c90 c91 c92 c93 c94 c95 c96 c97 c98 c99 c100 c101 c102 c103 c104 c105 c106 c107 c108 c109 c110 c111 c112 c113 c114 c115 c116 c117 c118 c119 c120 c121 c122 c123 c124 c125 c126 c127 c128 c129 c130 c131 c132 c133 c134 : Value) (KK : Act → World → Prop) (QQ : Exit → Act → World → Prop) (hK : ∀ (d68 d69 d70 d71 d72 d73 d74 d75 d76 d77 d78 d79 d80 d81 d82 d83 d84 d85 d86 d87 d88 d89 d90 d91 d92 d93 d94 d95 : Value), KK ⟨#[c0, c1, c2, .bool mx, c4, c5, c6, c7, c8, c9, c10, .int .u64 (b : Int), c12, c13, c14, c15, c16, .bool R, c18, c19, c20, c21, c22, c23, c24, c25, c26, c27, c28, c29, c30, c31, c32, c33, c34, c35, c36, c37, c38, c39, c40, c41, c42, c43, c44, c45, c46, c47, c48, c49, c50, c51, c52, c53, c54, c55, c56, c57, c58, c59, c60, c61, c62, c63, c64, c65, c66, .int .i64 how, d68, d69, d70, d71, d72, d73, d74, d75, d76, d77, d78, d79, d80, d81, d82, d83, d84, d85, d86, d87, d88, d89, d90, d91, d92, d93, d94, d95, c96, c97, c98, c99, c100, c101, c102, c103, c104, c105, c106, c107, c108, c109, c110, c111, c112, c113, c114, c115, c116, c117, c118, c119, c120, c121, c122, c123, c124, c125, c126, c127, c128, c129, c130, c131, c132, c133, c134], []⟩ w) :
    Code.wp Try.prog blk0 (Exit.then KK QQ) ⟨#[c0, c1, c2, .bool mx, c4, c5, c6, c7, c8, c9, c10, .int .u64 (b : Int), c12, c13, c14, c15, c16, c17, c18, c19, c20, c21, c22, c23, c24, c25, c26, c27, c28, c29, c30, c31, c32, c33, c34, c35, c36, c37, c38, c39, c40, c41, c42, c43, c44, c45, c46, c47, c48, c49, c50, c51, c52, c53, c54, c55, c56, c57, c58, c59, c60, c61, c62, c63, c64, c65, c66, .int .i64 how, c68, c69, c70, c71, c72, c73, c74, c75, c76, c77, c78, c79, c80, c81, c82, c83, c84, c85, c86, c87, c88, c89, c90, c91, c92, c93, c94, c95, c96, c97, c98, c99, c100, c101, c102, c103, c104, c105, c106, c107, c108, c109, c110, c111, c112, c113, c114, c115, c116, c117, c118, c119, c120, c121, c122, c123, c124, c125, c126, c127, c128, c129, c130, c131, c132, c133, c134], []⟩ w := by
  have HK := hid hK
  clear hK
  rcases hR with ⟨rfl, rfl⟩ | ⟨rfl, rfl⟩ | ⟨rfl, rfl⟩
  · conv => arg 2; whnf
    go_wp2_with fail
    exact HK.out _ _ _ _ _ _ _ _ _ _ _ _ _ _ _ _ _ _ _ _ _ _ _ _ _ _ _ _
  · cases h2 <;> cases mx <;> cases h8
    all_goals
      conv => arg 2; whnf
      go_wp2_with fail
      exact HK.out _ _ _ _ _ _ _ _ _ _ _ _ _ _ _ _ _ _ _ _ _ _ _ _ _ _ _ _
  · cases h4 <;> cases h128
    all_goals
      conv => arg 2; whnf
      go_wp2_with fail
      exact HK.out _ _ _ _ _ _ _ _ _ _ _ _ _ _ _ _ _ _ _ _ _ _ _ _ _ _ _ _
set_option maxHeartbeats 2000000 in
set_option maxRecDepth 1000000 in
theorem pr_3 (w : World) (b : Nat) (us su L h16 R : Bool) (how : Int) (hh : how = 1 ∨ how = 2 ∨ how = 3) (hR : R = if us = true then L && h16 else if h16 = true then L && decide (how ≠ 1) && su else L) (x16 : (bits .and .u64 (b : Int) 16 != 0) = h16) (c0 c1 c3 c4 c5 c6 c7 c8 c9 c10 c13 c14 c15 c16 c18 c19 c20 c21 c22 c23 c24 c25 c26 c27 c28 c29 c30 c31 c32 c33 c34 c35 c36 c37 c38 c39 c40 c41 c42 c43 c44 c45 c46 c47 c48 c49 c50 c51 c52 c53 c54 c55 c56 c57 c58 c59 c60 c61 c62 c63 c64 c65 c66 c67 c68 c69 c70 c71 c72 c73 c74 c75 c76 c77 c78 c79 c80 c81 c82 c83 c84 c85 c86 c87 c88 c89 c90 c91 c92 c93 c94 c95 c97 c98 c99 c100 c101 c102 c103 c104 c105 c106 c107 c108 c109 c110 c111 c112 c113 c114 c115 c116 c117 c118 c119 c120 c121 c122 c123 c124 c125 c126 c127 c128 c129 c130 c131 c132 c133 c134 : Value) (KK : Act → World → Prop) (QQ : Exit → Act → World → Prop) (hK : ∀ (d97 d98 d99 d100 d101 d102 d103 d104 d105 d106 d107 d108 d109 d110 d111 d112 d113 : Value), KK ⟨#[c0, c1, .bool su, c3, c4, c5, c6, c7, c8, c9, c10, .int .u64 (b : Int), .int .i64 how, c13, c14, c15, c16, .bool R, c18, c19, c20, c21, c22, c23, c24, c25, c26, c27, c28, c29, c30, c31, c32, c33, c34, c35, c36, c37, c38, c39, c40, c41, c42, c43, c44, c45, c46, c47, c48, c49, c50, c51, c52, c53, c54, c55, c56, c57, c58, c59, c60, c61, c62, c63, c64, c65, c66, c67, c68, c69, c70, c71, c72, c73, c74, c75, c76, c77, c78, c79, c80, c81, c82, c83, c84, c85, c86, c87, c88, c89, c90, c91, c92, c93, c94, c95, .bool us, d97, d98, d99, d100, d101, d102, d103, d104, d105, d106, d107, d108, d109, d110, d111, d112, d113, c114, c115, c116, c117, c118, c119, c120, c121, c122, c123, c124, c125, c126, c127, c128, c129, c130, c131, c132, c133, c134], []⟩ w) :
    Code.wp Try.prog cnd96 (Exit.then KK QQ) ⟨#[c0, c1, .bool su, c3, c4, c5, c6, c7, c8, c9, c10, .int .u64 (b : Int), .int .i64 how, c13, c14, c15, c16, .bool L, c18, c19, c20, c21, c22, c23, c24, c25, c26, c27, c28, c29, c30, c31, c32, c33, c34, c35, c36, c37, c38, c39, c40, c41, c42, c43, c44, c45, c46, c47, c48, c49, c50, c51, c52, c53, c54, c55, c56, c57, c58, c59, c60, c61, c62, c63, c64, c65, c66, c67, c68, c69, c70, c71, c72, c73, c74, c75, c76, c77, c78, c79, c80, c81, c82, c83, c84, c85, c86, c87, c88, c89, c90, c91, c92, c93, c94, c95, .bool us, c97, c98, c99, c100, c101, c102, c103, c104, c105, c106, c107, c108, c109, c110, c111, c112, c113, c114, c115, c116, c117, c118, c119, c120, c121, c122, c123, c124, c125, c126, c127, c128, c129, c130, c131, c132, c133, c134], []⟩ w := by
  have HK := hid hK
  clear hK
  subst hR
  cases us
  · cases h16
    · conv => arg 2; whnf
      go_wp2_with fail
      exact HK.out _ _ _ _ _ _ _ _ _ _ _ _ _ _ _ _ _
    · cases L
      · conv => arg 2; whnf
        go_wp2_with fail
        exact HK.out _ _ _ _ _ _ _ _ _ _ _ _ _ _ _ _ _
      · cases su <;> rcases hh with rfl | rfl | rfl
        all_goals
          conv => arg 2; whnf
          go_wp2_with fail
          exact HK.out _ _ _ _ _ _ _ _ _ _ _ _ _ _ _ _ _
  · cases L <;> cases h16
    all_goals
      conv => arg 2; whnf
      go_wp2_with fail
      exact HK.out _ _ _ _ _ _ _ _ _ _ _ _ _ _ _ _ _
end Go.Proofs.Ytfoafgbhelgjcaa.C
