/- TlbPlays, walked. -/
import Derived.Test.YtgenjhcpcjhpmaaTR
import Derived.Deep.CutBlock
namespace Go.Proofs.Ytgenjhcpcjhpmaa
open Go.RowKit
set_option linter.unusedVariables false

set_option maxHeartbeats 1000000 in
set_option maxRecDepth 100000 in
theorem w_TlbPlays_bad (w : World) (room : Int) (hr : room < 1 ∨ 64 < room) (s : Value) :
    Calls Try.prog 3 #[.int .i64 room, s] w fun e w' => e = .returned (.bool true) ∧ Below w.heap.size w w' := by
  have HR := hid hr
  clear hr
  go_enter Try.func3, Try.ntmps3
  go_wp2_with (first
    | (go_at_call 6; refine (c_New_bad _ room HR.out).mono ?_; rintro e w1 ⟨rfl, hw⟩; obtain rfl := hw)
    | (go_at_call 7; refine (r_New_bad _ room HR.out).mono ?_; rintro e w1 ⟨rfl, hw⟩; obtain rfl := hw)
    | (go_at_call 8; refine (c_awake _).mono ?_; rintro e w2 ⟨rfl, hb⟩; have HB := hid hb; clear hb))
  go_ret
  exact ⟨rfl, HB.out⟩
set_option maxHeartbeats 4000000 in
set_option maxRecDepth 1000000 in
theorem w_TlbPlays_ok (w : World) (room : Nat) (h0 : 0 < room) (h1 : room ≤ 64) (ad : Option Addr) (la cap ab ao : Nat) (X : Nat → OpV) (hX : Sc w ad la cap ab ao X) :
    Calls Try.prog 3 #[.int .i64 room, .slice ad la cap] w fun e w' => e = .returned (.bool true) ∧ Below w.heap.size w w' := by
  have HX := hid hX
  have hlc := hX.len
  have hcm := hX.cap
  clear hX
  go_enter Try.func3, Try.ntmps3
  go_wp2_with (first
    | (go_at_call 6; refine (c_New _ room h0 h1 _ rfl).mono ?_; rintro e w1 ⟨p, g, rfl, hm, hb, hf⟩; have HM1 := hid hm; have HB1 := hid hb; have HF1 := hid hf; clear hm hb hf)
    | (go_at_call 7; refine (r_New w1 room h0 h1 _ rfl).mono ?_; rintro e w2 ⟨rfl, hm, hb⟩; have HR2 := hid hm; have HB2 := hid hb; clear hm hb))
  have hw1 := HB1.out.size
  have HFl : Hid (∀ k, Ft p g k → k < w1.heap.size) := fun k hk => HM1.out.lt hk
  go_loopw [9] (fun i wr => ∃ (k : Nat), k ≤ la ∧ i = .int .i64 k ∧ S5 wr p g w1.heap.size room ∧ Below w.heap.size w wr) (fun i _ => la - (intOf i).toNat)
  case atStart => exact ⟨0, by omega, rfl, ⟨[], _, HM1.out.below HB2.out, HR2.out, Nd.nil, fun z => Nat.lt_irrefl _ (HFl.out _ z), fun k hk => by cases hk⟩, HB1.out.trans (HB2.out.mono hw1)⟩
  case round =>
    obtain ⟨k, hk, rfl, hst, hb⟩ := hrel
    have HST := hid hst
    have HB := hid hb
    clear hst hb
    by_cases hlt : k < la
    · obtain ⟨rfl, hab⟩ := HX.out.at0 (by omega)
      obtain ⟨x0, x1, x2, x3, x4, x5⟩ := (Sc.below HX.out HB.out).cell k hlt
      obtain ⟨v0, v1⟩ := HX.out.num k hlt
      have hab2 := Nat.lt_of_lt_of_le hab HB.out.size
      obtain ⟨K, hK⟩ : ∃ K, (X k).kind = K := ⟨_, rfl⟩
      obtain ⟨n, hN⟩ : ∃ n, (X k).n = n := ⟨_, rfl⟩
      obtain ⟨x, hx⟩ : ∃ x, (X k).e = x := ⟨_, rfl⟩
      rw [hx] at x2 x3 x4 x5
      rw [hK] at x0 v0 v1
      rw [hN] at x1
      clear hx hK hN
      obtain ⟨L, v, htm, hrm, hnd, hnq, hnv⟩ := HST.out
      have hql := hrm.lt
      have HSW : Hid (SwP w (wr.alloc (.cells #[.int .i64 K, .int .i64 n, .int .i64 x.v, .int .u64 x.p, .int .u64 x.f, .int .i64 x.r] 35)) p g w1.heap.size room wr.heap.size v K n x L) :=
        ⟨HB.out.alloc HB.out.size _, htm.below ((Below.refl wr.heap.size wr).alloc (Nat.le_refl _) _), hrm.below ((Below.refl wr.heap.size wr).alloc (Nat.le_refl _) _), hnd, hnq, hnv, heap_alloc_new wr _, fun z => by have := HFl.out _ z; omega, by omega, HF1.out, hw1⟩
      have hk6 : K % 6 = 0 ∨ K % 6 = 1 ∨ K % 6 = 2 ∨ K % 6 = 3 ∨ K % 6 = 4 ∨ K % 6 = 5 := by omega
      clear htm hrm hnd hnq hnv HST
      go_upto_block 2 with (go_at_call 9; refine (c_Place K 6 (by decide) (by decide) v0 v1 _).mono ?_; rintro r w2 ⟨rfl, hw2⟩; obtain rfl := hw2.symm)
      generalize K % 6 = m at hk6 ⊢
      have swAll : ∀ (KK : Act → World → Prop) (QQ : Exit → Act → World → Prop) (c0 c1 c2 c3 c4 c6 c8 c9 c11 c12 c13 c14 c15 c16 c17 c18 c19 c20 c21 c22 c23 c24 c25 c26 c27 c28 c29 c30 c31 c32 c33 c34 c35 c36 c37 c38 c39 c40 c41 c42 c43 c44 c45 c46 c47 c48 c49 c51 c52 c53 c54 c55 c56 c57 c58 c59 c60 c61 c62 c63 c64 c65 c66 c67 c68 c69 c70 c71 c72 c73 c74 c75 c76 c77 c78 c79 c80 c81 c82 c83 c84 c85 c86 c87 c88 c89 c90 c91 c92 c93 c94 c95 c96 c97 c98 c99 c100 c101 c102 c103 c104 c105 c106 c107 c108 c109 c110 c111 c112 c113 c114 c115 c116 c117 c118 c119 c120 c121 c122 c123 c124 c125 c126 c127 c128 c129 c130 c131 c132 c133 c134 c135 c136 c137 c138 c139 c140 c141 c142 c143 c144 c145 c146 c147 c148 c149 : Value) (hK : ∀ (wx : World) (d11 d12 d13 d14 d51 d52 d53 d54 d55 d56 d57 d58 d59 d60 d61 d62 d63 d64 d65 d66 d67 d68 d69 d70 d71 d72 d73 d74 d75 d76 d77 d78 d79 d80 d81 d82 d83 d84 d85 d86 d87 d88 d89 d90 d91 d92 d93 d94 d95 d96 d97 d98 d99 d100 d101 d102 d103 d104 d105 d106 d107 d108 d109 d110 d111 d112 d113 d114 d115 d116 d117 d118 d119 d120 d121 d122 d123 d124 d125 d126 d127 d128 d129 d130 d131 d132 d133 d134 d135 d136 d137 d138 d139 d140 : Value), S5 wx p g w1.heap.size room → Below w.heap.size w wx → KK ⟨#[c0, c1, c2, c3, c4, .pointer (some ⟨p, 0, none⟩), c6, .pointer (some ⟨w1.heap.size, 0, none⟩), c8, c9, .pointer (some ⟨wr.heap.size, 0, none⟩), d11, d12, d13, d14, c15, c16, c17, c18, c19, c20, c21, c22, c23, c24, c25, c26, c27, c28, c29, c30, c31, c32, c33, c34, c35, c36, c37, c38, c39, c40, c41, c42, c43, c44, c45, c46, c47, c48, c49, .int .i64 m, d51, d52, d53, d54, d55, d56, d57, d58, d59, d60, d61, d62, d63, d64, d65, d66, d67, d68, d69, d70, d71, d72, d73, d74, d75, d76, d77, d78, d79, d80, d81, d82, d83, d84, d85, d86, d87, d88, d89, d90, d91, d92, d93, d94, d95, d96, d97, d98, d99, d100, d101, d102, d103, d104, d105, d106, d107, d108, d109, d110, d111, d112, d113, d114, d115, d116, d117, d118, d119, d120, d121, d122, d123, d124, d125, d126, d127, d128, d129, d130, d131, d132, d133, d134, d135, d136, d137, d138, d139, d140, c141, c142, c143, c144, c145, c146, c147, c148, c149], []⟩ wx), Code.wp Try.prog sw3 (Exit.then KK QQ) ⟨#[c0, c1, c2, c3, c4, .pointer (some ⟨p, 0, none⟩), c6, .pointer (some ⟨w1.heap.size, 0, none⟩), c8, c9, .pointer (some ⟨wr.heap.size, 0, none⟩), c11, c12, c13, c14, c15, c16, c17, c18, c19, c20, c21, c22, c23, c24, c25, c26, c27, c28, c29, c30, c31, c32, c33, c34, c35, c36, c37, c38, c39, c40, c41, c42, c43, c44, c45, c46, c47, c48, c49, .int .i64 m, c51, c52, c53, c54, c55, c56, c57, c58, c59, c60, c61, c62, c63, c64, c65, c66, c67, c68, c69, c70, c71, c72, c73, c74, c75, c76, c77, c78, c79, c80, c81, c82, c83, c84, c85, c86, c87, c88, c89, c90, c91, c92, c93, c94, c95, c96, c97, c98, c99, c100, c101, c102, c103, c104, c105, c106, c107, c108, c109, c110, c111, c112, c113, c114, c115, c116, c117, c118, c119, c120, c121, c122, c123, c124, c125, c126, c127, c128, c129, c130, c131, c132, c133, c134, c135, c136, c137, c138, c139, c140, c141, c142, c143, c144, c145, c146, c147, c148, c149], []⟩ (wr.alloc (.cells #[.int .i64 K, .int .i64 n, .int .i64 x.v, .int .u64 x.p, .int .u64 x.f, .int .i64 x.r] 35)) := by
        intro KK QQ c0 c1 c2 c3 c4 c6 c8 c9 c11 c12 c13 c14 c15 c16 c17 c18 c19 c20 c21 c22 c23 c24 c25 c26 c27 c28 c29 c30 c31 c32 c33 c34 c35 c36 c37 c38 c39 c40 c41 c42 c43 c44 c45 c46 c47 c48 c49 c51 c52 c53 c54 c55 c56 c57 c58 c59 c60 c61 c62 c63 c64 c65 c66 c67 c68 c69 c70 c71 c72 c73 c74 c75 c76 c77 c78 c79 c80 c81 c82 c83 c84 c85 c86 c87 c88 c89 c90 c91 c92 c93 c94 c95 c96 c97 c98 c99 c100 c101 c102 c103 c104 c105 c106 c107 c108 c109 c110 c111 c112 c113 c114 c115 c116 c117 c118 c119 c120 c121 c122 c123 c124 c125 c126 c127 c128 c129 c130 c131 c132 c133 c134 c135 c136 c137 c138 c139 c140 c141 c142 c143 c144 c145 c146 c147 c148 c149 hK
        rcases hk6 with rfl | rfl | rfl | rfl | rfl | rfl
        · exact sp_0 w _ p g w1.heap.size room wr.heap.size v K n x L HSW.out _ _ _ _ _ _ _ _ _ _ _ _ _ _ _ _ _ _ _ _ _ _ _ _ _ _ _ _ _ _ _ _ _ _ _ _ _ _ _ _ _ _ _ _ _ _ _ _ _ _ _ _ _ _ _ _ _ _ _ _ _ _ _ _ _ _ _ _ _ _ _ _ _ _ _ _ _ _ _ _ _ _ _ _ _ _ _ _ _ _ _ _ _ _ _ _ _ _ _ _ _ _ _ _ _ _ _ _ _ _ _ _ _ _ _ _ _ _ _ _ _ _ _ _ _ _ _ _ _ _ _ _ _ _ _ _ _ _ _ _ _ _ _ _ _ _ KK QQ hK
        · exact sp_1 w _ p g w1.heap.size room wr.heap.size v K n x L HSW.out _ _ _ _ _ _ _ _ _ _ _ _ _ _ _ _ _ _ _ _ _ _ _ _ _ _ _ _ _ _ _ _ _ _ _ _ _ _ _ _ _ _ _ _ _ _ _ _ _ _ _ _ _ _ _ _ _ _ _ _ _ _ _ _ _ _ _ _ _ _ _ _ _ _ _ _ _ _ _ _ _ _ _ _ _ _ _ _ _ _ _ _ _ _ _ _ _ _ _ _ _ _ _ _ _ _ _ _ _ _ _ _ _ _ _ _ _ _ _ _ _ _ _ _ _ _ _ _ _ _ _ _ _ _ _ _ _ _ _ _ _ _ _ _ _ _ KK QQ hK
        · exact sp_2 w _ p g w1.heap.size room wr.heap.size v K n x L HSW.out _ _ _ _ _ _ _ _ _ _ _ _ _ _ _ _ _ _ _ _ _ _ _ _ _ _ _ _ _ _ _ _ _ _ _ _ _ _ _ _ _ _ _ _ _ _ _ _ _ _ _ _ _ _ _ _ _ _ _ _ _ _ _ _ _ _ _ _ _ _ _ _ _ _ _ _ _ _ _ _ _ _ _ _ _ _ _ _ _ _ _ _ _ _ _ _ _ _ _ _ _ _ _ _ _ _ _ _ _ _ _ _ _ _ _ _ _ _ _ _ _ _ _ _ _ _ _ _ _ _ _ _ _ _ _ _ _ _ _ _ _ _ _ _ _ _ KK QQ hK
        · exact sp_3 w _ p g w1.heap.size room wr.heap.size v K n x L HSW.out _ _ _ _ _ _ _ _ _ _ _ _ _ _ _ _ _ _ _ _ _ _ _ _ _ _ _ _ _ _ _ _ _ _ _ _ _ _ _ _ _ _ _ _ _ _ _ _ _ _ _ _ _ _ _ _ _ _ _ _ _ _ _ _ _ _ _ _ _ _ _ _ _ _ _ _ _ _ _ _ _ _ _ _ _ _ _ _ _ _ _ _ _ _ _ _ _ _ _ _ _ _ _ _ _ _ _ _ _ _ _ _ _ _ _ _ _ _ _ _ _ _ _ _ _ _ _ _ _ _ _ _ _ _ _ _ _ _ _ _ _ _ _ _ _ _ KK QQ hK
        · exact sp_4 w _ p g w1.heap.size room wr.heap.size v K n x L HSW.out _ _ _ _ _ _ _ _ _ _ _ _ _ _ _ _ _ _ _ _ _ _ _ _ _ _ _ _ _ _ _ _ _ _ _ _ _ _ _ _ _ _ _ _ _ _ _ _ _ _ _ _ _ _ _ _ _ _ _ _ _ _ _ _ _ _ _ _ _ _ _ _ _ _ _ _ _ _ _ _ _ _ _ _ _ _ _ _ _ _ _ _ _ _ _ _ _ _ _ _ _ _ _ _ _ _ _ _ _ _ _ _ _ _ _ _ _ _ _ _ _ _ _ _ _ _ _ _ _ _ _ _ _ _ _ _ _ _ _ _ _ _ _ _ _ _ KK QQ hK
        · exact sp_5 w _ p g w1.heap.size room wr.heap.size v K n x L HSW.out _ _ _ _ _ _ _ _ _ _ _ _ _ _ _ _ _ _ _ _ _ _ _ _ _ _ _ _ _ _ _ _ _ _ _ _ _ _ _ _ _ _ _ _ _ _ _ _ _ _ _ _ _ _ _ _ _ _ _ _ _ _ _ _ _ _ _ _ _ _ _ _ _ _ _ _ _ _ _ _ _ _ _ _ _ _ _ _ _ _ _ _ _ _ _ _ _ _ _ _ _ _ _ _ _ _ _ _ _ _ _ _ _ _ _ _ _ _ _ _ _ _ _ _ _ _ _ _ _ _ _ _ _ _ _ _ _ _ _ _ _ _ _ _ _ _ KK QQ hK
      refine swAll _ _ _ _ _ _ _ _ _ _ _ _ _ _ _ _ _ _ _ _ _ _ _ _ _ _ _ _ _ _ _ _ _ _ _ _ _ _ _ _ _ _ _ _ _ _ _ _ _ _ _ _ _ _ _ _ _ _ _ _ _ _ _ _ _ _ _ _ _ _ _ _ _ _ _ _ _ _ _ _ _ _ _ _ _ _ _ _ _ _ _ _ _ _ _ _ _ _ _ _ _ _ _ _ _ _ _ _ _ _ _ _ _ _ _ _ _ _ _ _ _ _ _ _ _ _ _ _ _ _ _ _ _ _ _ _ _ _ _ _ _ _ _ _ _ _ _ _ ?_
      clear swAll
      intro wc e11 e12 e13 e14 e51 e52 e53 e54 e55 e56 e57 e58 e59 e60 e61 e62 e63 e64 e65 e66 e67 e68 e69 e70 e71 e72 e73 e74 e75 e76 e77 e78 e79 e80 e81 e82 e83 e84 e85 e86 e87 e88 e89 e90 e91 e92 e93 e94 e95 e96 e97 e98 e99 e100 e101 e102 e103 e104 e105 e106 e107 e108 e109 e110 e111 e112 e113 e114 e115 e116 e117 e118 e119 e120 e121 e122 e123 e124 e125 e126 e127 e128 e129 e130 e131 e132 e133 e134 e135 e136 e137 e138 e139 e140 hst hb
      obtain ⟨L2, v2, hm, hr, hnd, hnq, hnv⟩ := hst
      have HST2 : Hid (S5 wc p g w1.heap.size room) := ⟨L2, v2, hm, hr, hnd, hnq, hnv⟩
      have HM3 : Hid (TM wc.drew p g room L2) := hm.below (Below.refl _ _).drew
      have HR3 : Hid (RM wc.drew w1.heap.size room v2 L2) := hr.below (Below.refl _ _).drew
      obtain ⟨ad2, cap2, rfl, -⟩ := hr.es.rd
      have e1 := hr.c1
      have HB3 := hid hb
      have hl3 := hm.len
      have HEN : Hid (∀ w5, Below wc.drew.heap.size wc.drew w5 → w5.cell? ⟨w1.heap.size, 1, none⟩ = some (.slice ad2 L2.length cap2)) := fun w5 h5 => (HR3.out.below h5).c1
      clear hm hr hnd hnq hnv hb x0 x1 x2 x3 x4 x5 hk6 HSW
      go_wp2_with fail
      go_region_law (first
        | (refine step_call1 rfl 22 (.tmp 141) _ rfl (.pointer (some ⟨p, 0, none⟩)) (by go_simp) (Try.call22 _ _) (c_Entries wc.drew p g room L2 HM3.out) ?_; rintro e w5 ⟨v5, rfl, he5, hb5⟩; have HE5 := hid he5; have HB5 := hid hb5; have f1 := HEN.out w5 hb5; clear he5 hb5; refine ⟨_, rfl, ?_⟩)
        | (refine step_call rfl 21 (.tmp 142) (.tmp 146) _ _ rfl v5 (.slice ad2 L2.length cap2) (by go_simp) (by go_simp) (Try.call21 _ _) (c_Same w5 v5 (.slice ad2 L2.length cap2) L2 HE5.out.rd ((HR3.out.below HB5.out).es.rd) (by omega)) ?_; rintro e w6 ⟨rfl, hs6⟩; have HS6 := hid hs6; clear hs6; refine ⟨_, rfl, ?_⟩))
      all_goals
        go_wp2_with fail
        go_roundw
        case rel =>
          have b5 : Below wc.heap.size wc w5 := (Below.refl wc.heap.size wc).drew.trans HB5.out
          have b6 : Below wc.heap.size wc w6 := b5.trans (HS6.out.below _)
          obtain ⟨L9, v9, q1, q2, q3, q4, q5⟩ := HST2.out
          exact ⟨k + 1, by omega, by go_num, ⟨L9, v9, q1.below b6, q2.below b6, q3, q4, q5⟩, HB3.out.trans (b6.mono HB3.out.size)⟩
        case measure => simp [intOf]; omega
    · obtain rfl : k = la := by omega
      go_wp2_with (go_at_call 8; refine (c_awake _).mono ?_; rintro e w3 ⟨rfl, hb3⟩; have HB3 := hid hb3; clear hb3)
      go_ret
      exact ⟨rfl, HB.out.trans (HB3.out.mono HB.out.size)⟩
theorem w_TlbPlays (w : World) (room : Int) (_ : -9223372036854775808 ≤ room) (_ : room ≤ 9223372036854775807) (ad : Option Addr) (la cap ab ao : Nat) (X : Nat → OpV) (hX : Sc w ad la cap ab ao X) :
    Calls Try.prog 3 #[.int .i64 room, .slice ad la cap] w fun e w' => e = .returned (.bool true) ∧ Below w.heap.size w w' := by
  by_cases h : room < 1 ∨ 64 < room
  · exact w_TlbPlays_bad w room h _
  · obtain ⟨n, rfl⟩ : ∃ n : Nat, room = n := ⟨room.toNat, by omega⟩
    exact w_TlbPlays_ok w n (by omega) (by omega) ad la cap ab ao X hX
end Go.Proofs.Ytgenjhcpcjhpmaa
