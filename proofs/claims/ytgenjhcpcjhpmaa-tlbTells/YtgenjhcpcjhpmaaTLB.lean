/- TlbTells: no page is there twice. -/
import Derived.Test.YtgenjhcpcjhpmaaTLA
namespace Go.Proofs.Ytgenjhcpcjhpmaa
open Go.RowKit
set_option linter.unusedVariables false

set_option maxHeartbeats 4000000 in
set_option maxRecDepth 1000000 in
theorem lp_4 (w5 : World) (L : List TV) (h64 : L.length ≤ 64) (hnd : Nd L) (ad5 : Option Addr) (cap5 : Nat) (hrd : ∀ i x, L[i]? = some x → ∃ g, ad5 = some ⟨g, 0, none⟩ ∧ g < w5.heap.size ∧ w5.cell? ⟨g, i * 4, none⟩ = some (.int .i64 x.v) ∧ w5.cell? ⟨g, i * 4 + 1, none⟩ = some (.int .u64 x.p) ∧ w5.cell? ⟨g, i * 4 + 2, none⟩ = some (.int .u64 x.f) ∧ w5.cell? ⟨g, i * 4 + 3, none⟩ = some (.int .i64 x.r)) (c0 c1 c2 c3 c4 c5 c6 c7 c8 c9 c10 c11 c12 c13 c14 c15 c16 c19 c20 c21 c22 c23 c24 c25 c26 c27 c28 c29 c30 c31 c32 c33 c34 c35 c36 c37 c38 c39 c40 c41 c42 c43 c44 c45 c46 c47 c48 c49 c50 c51 c52 c53 c54 c55 c56 c57 c58 c59 c60 c61 c62 c63 c64 c65 c66 c67 c68 c69 c70 c71 c72 c73 c74 c75 c76 c77 c78 c79 c80 c81 c82 c83 c84 c85 c86 c87 c88 c89 c90 c91 c92 c93 c94 c95 c96 c97 c98 c99 c100 c101 c102 c103 c104 c105 c106 c107 c108 c109 c110 c111 c112 c113 c114 c115 c116 c117 c118 c119 c120 c121 c122 c123 c124 c125 c126 c127 c128 c129 c130 c131 c132 c133 c134 c135 c136 c137 c138 c139 c140 c141 c142 c143 c144 c145 c146 c147 c148 c149 c150 c151 c152 c153 c154 c155 c156 c157 c158 c159 c160 c161 c162 c163 c164 c165 c166 c167 c168 c169 c170 c171 c172 c173 c174 c175 c176 c177 c178 c179 c180 c181 c182 c183 c184 c185 c186 c187 c188 c189 c190 c191 : Value) (QQ : Exit → Act → World → Prop) (hK : ∀ (wx : World) (d8 d18 d19 d156 d157 d158 d159 d160 d161 d162 d163 d164 d165 d166 d167 d168 d169 d170 d171 d172 d173 d174 d175 d176 d177 d178 d179 d180 d181 d182 d183 d184 d185 d186 d187 d188 d189 d190 : Value), Still w5 wx → QQ Exit.normal ⟨#[c0, c1, c2, c3, c4, c5, c6, c7, d8, c9, c10, c11, c12, c13, c14, c15, c16, .slice ad5 L.length cap5, d18, d19, c20, c21, c22, c23, c24, c25, c26, c27, c28, c29, c30, c31, c32, c33, c34, c35, c36, c37, c38, c39, c40, c41, c42, c43, c44, c45, c46, c47, c48, c49, c50, c51, c52, c53, c54, c55, c56, c57, c58, c59, c60, c61, c62, c63, c64, c65, c66, c67, c68, c69, c70, c71, c72, c73, c74, c75, c76, c77, c78, c79, c80, c81, c82, c83, c84, c85, c86, c87, c88, c89, c90, c91, c92, c93, c94, c95, c96, c97, c98, c99, c100, c101, c102, c103, c104, c105, c106, c107, c108, c109, c110, c111, c112, c113, c114, c115, c116, c117, c118, c119, c120, c121, c122, c123, c124, c125, c126, c127, c128, c129, c130, c131, c132, c133, c134, c135, c136, c137, c138, c139, c140, c141, c142, c143, c144, c145, c146, c147, c148, c149, c150, c151, c152, c153, c154, c155, d156, d157, d158, d159, d160, d161, d162, d163, d164, d165, d166, d167, d168, d169, d170, d171, d172, d173, d174, d175, d176, d177, d178, d179, d180, d181, d182, d183, d184, d185, d186, d187, d188, d189, d190, c191], []⟩ wx) :
    Code.wp Try.prog lp4 QQ ⟨#[c0, c1, c2, c3, c4, c5, c6, c7, c8, c9, c10, c11, c12, c13, c14, c15, c16, .slice ad5 L.length cap5, .int .i64 0, c19, c20, c21, c22, c23, c24, c25, c26, c27, c28, c29, c30, c31, c32, c33, c34, c35, c36, c37, c38, c39, c40, c41, c42, c43, c44, c45, c46, c47, c48, c49, c50, c51, c52, c53, c54, c55, c56, c57, c58, c59, c60, c61, c62, c63, c64, c65, c66, c67, c68, c69, c70, c71, c72, c73, c74, c75, c76, c77, c78, c79, c80, c81, c82, c83, c84, c85, c86, c87, c88, c89, c90, c91, c92, c93, c94, c95, c96, c97, c98, c99, c100, c101, c102, c103, c104, c105, c106, c107, c108, c109, c110, c111, c112, c113, c114, c115, c116, c117, c118, c119, c120, c121, c122, c123, c124, c125, c126, c127, c128, c129, c130, c131, c132, c133, c134, c135, c136, c137, c138, c139, c140, c141, c142, c143, c144, c145, c146, c147, c148, c149, c150, c151, c152, c153, c154, c155, c156, c157, c158, c159, c160, c161, c162, c163, c164, c165, c166, c167, c168, c169, c170, c171, c172, c173, c174, c175, c176, c177, c178, c179, c180, c181, c182, c183, c184, c185, c186, c187, c188, c189, c190, c191], []⟩ w5 := by
  have HRD := hid hrd
  have HK := hid hK
  have HN3 := hid hnd
  clear hrd hK hnd
  conv => arg 2; whnf
  go_wp2_with fail
  go_loopw [18] (fun i wr => ∃ (k : Nat), k ≤ L.length ∧ i = .int .i64 k ∧ Still w5 wr) (fun i _ => L.length - (intOf i).toNat)
  case atStart => exact ⟨0, by omega, rfl, Still.refl w5⟩
  case round =>
    obtain ⟨i1, hi1, rfl, hs6⟩ := hrel
    have HS6 := hid hs6
    clear hs6
    by_cases hlt1 : i1 < L.length
    · obtain ⟨wp, rfl⟩ : ∃ wp : World, wp = wr := ⟨_, rfl⟩
      go_wp2_with fail
      go_loopw [19] (fun i wr => ∃ (k : Nat), k ≤ i1 ∧ i = .int .i64 k ∧ Still w5 wr) (fun i _ => i1 - (intOf i).toNat)
      case atStart => exact ⟨0, by omega, rfl, HS6.out⟩
      case round =>
        obtain ⟨i2, hi2, rfl, hs7⟩ := hrel
        have HS7 := hid hs7
        have HC7 := hid hs7.cell
        clear hs7
        by_cases hlt2 : i2 < i1
        · obtain ⟨y1, hy1⟩ : ∃ y, L[i1]? = some y := ⟨_, List.getElem?_eq_getElem hlt1⟩
          obtain ⟨y2, hy2⟩ : ∃ y, L[i2]? = some y := ⟨_, List.getElem?_eq_getElem (by omega)⟩
          obtain ⟨g1, rfl, hg1, a0, a1, a2, a3⟩ := HRD.out i1 y1 hy1
          obtain ⟨g2, e2, hg2, b0, b1, b2, b3⟩ := HRD.out i2 y2 hy2
          simp only [Option.some.injEq, Addr.mk.injEq, and_true] at e2
          subst e2
          rw [← HC7.out] at a0 a1 b0 b1
          have hne := HN3.out.at hy1 hy2 hlt2
          obtain ⟨c1, c2, c3, c4⟩ := y1
          obtain ⟨d1, d2, d3, d4⟩ := y2
          simp only [] at a0 a1 b0 b1 hne
          have hi64 : i2 < L.length := by omega
          clear hy1 hy2 a2 a3 b2 b3
          by_cases hv : c1 = d1
          · have hp : ¬ c2 = d2 := fun q => hne ⟨hv, q⟩
            have hpd : decide (c2 = d2) = false := by simp [hp]
            subst hv
            clear hne
            go_wp2_with fail
            go_quiet (fail)
            go_wp2_with fail
            go_roundw
            case rel => exact ⟨i2 + 1, by omega, by go_num, ⟨HS7.out.heap, HS7.out.os, HS7.out.tape, HS7.out.output⟩⟩
            case measure => simp [intOf]; omega
          · have hvd : decide (c1 = d1) = false := by simp [hv]
            clear hne
            go_wp2_with fail
            go_quiet (fail)
            go_wp2_with fail
            go_roundw
            case rel => exact ⟨i2 + 1, by omega, by go_num, ⟨HS7.out.heap, HS7.out.os, HS7.out.tape, HS7.out.output⟩⟩
            case measure => simp [intOf]; omega
        · obtain rfl : i2 = i1 := by omega
          go_wp2_with fail
          go_roundw
          case rel => exact ⟨i2 + 1, by omega, by go_num, HS7.out⟩
          case measure => simp [intOf]; omega
    · obtain rfl : i1 = L.length := by omega
      go_wp2_with fail
      exact HK.out _ _ _ _ _ _ _ _ _ _ _ _ _ _ _ _ _ _ _ _ _ _ _ _ _ _ _ _ _ _ _ _ _ _ _ _ _ _ _ HS6.out
end Go.Proofs.Ytgenjhcpcjhpmaa
