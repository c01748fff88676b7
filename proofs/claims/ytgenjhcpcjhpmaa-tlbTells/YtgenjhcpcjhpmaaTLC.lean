/- TlbTells, walked. -/
import Derived.Test.YtgenjhcpcjhpmaaTLB
import Derived.Deep.CutBlock
namespace Go.Proofs.Ytgenjhcpcjhpmaa
open Go.RowKit
set_option linter.unusedVariables false

set_option maxHeartbeats 1000000 in
set_option maxRecDepth 100000 in
theorem w_TlbTells_bad (w : World) (room : Int) (hr : room < 1 ∨ 64 < room) (s : Value) (vm pg : Int) :
    Calls Try.prog 4 #[.int .i64 room, s, .int .i64 vm, .int .u64 pg] w fun e w' => e = .returned (.bool true) ∧ Below w.heap.size w w' := by
  have HR := hid hr
  rcases hr with hr | hr
  · go_enter Try.func4, Try.ntmps4
    go_wp2_with (first
      | (go_at_call 6; refine (c_New_bad _ room HR.out).mono ?_; rintro e w1 ⟨rfl, hw⟩; obtain rfl := hw)
      | (go_at_call 8; refine (c_awake _).mono ?_; rintro e w2 ⟨rfl, hb⟩; have HB := hid hb; clear hb))
    go_ret
    exact ⟨rfl, HB.out⟩
  · have h1 : ¬ room < 1 := by omega
    go_enter Try.func4, Try.ntmps4
    go_wp2_with (first
      | (go_at_call 6; refine (c_New_bad _ room HR.out).mono ?_; rintro e w1 ⟨rfl, hw⟩; obtain rfl := hw)
      | (go_at_call 8; refine (c_awake _).mono ?_; rintro e w2 ⟨rfl, hb⟩; have HB := hid hb; clear hb))
    go_ret
    exact ⟨rfl, HB.out⟩
set_option maxHeartbeats 4000000 in
set_option maxRecDepth 1000000 in
theorem w_TlbTells_ok (w : World) (room : Nat) (h0 : 0 < room) (h1 : room ≤ 64) (ad : Option Addr) (la cap ab ao : Nat) (X : Nat → OpV) (hX : Sc w ad la cap ab ao X) (vm pg : Int) :
    Calls Try.prog 4 #[.int .i64 room, .slice ad la cap, .int .i64 vm, .int .u64 pg] w fun e w' => e = .returned (.bool true) ∧ Below w.heap.size w w' := by
  have HX := hid hX
  have hlc := hX.len
  have hcm := hX.cap
  clear hX
  go_enter Try.func4, Try.ntmps4
  go_wp2_with (go_at_call 6; refine (c_New _ room h0 h1 _ rfl).mono ?_; rintro e w1 ⟨p, g, rfl, hm, hb, hf⟩; have HM1 := hid hm; have HB1 := hid hb; have HF1 := hid hf; clear hm hb hf)
  have hw1 := HB1.out.size
  have HFl : Hid (∀ k, Ft p g k → k < w1.heap.size) := fun k hk => HM1.out.lt hk
  go_loopw [12, 13] (fun t i wr => ∃ (k : Nat) (b : Bool), k ≤ la ∧ i = .int .i64 k ∧ t = .bool b ∧ St wr p g room w1.heap.size vm pg b ∧ Below w.heap.size w wr) (fun _ i _ => la - (intOf i).toNat)
  case atStart => exact ⟨0, false, by omega, rfl, rfl, ⟨[], TV.zero, HM1.out.below ((Below.refl _ _).alloc (Nat.le_refl _) _), Nd.nil, Iv.nil _ _ _ _, heap_alloc_new w1 _⟩, HB1.out.alloc hw1 _⟩
  case round =>
    obtain ⟨k, b, hk, rfl, rfl, hst, hb⟩ := hrel
    have HST := hid hst
    have HB := hid hb
    clear hst hb
    by_cases hlt : k < la
    · obtain ⟨rfl, hab⟩ := HX.out.at0 (by omega)
      obtain ⟨x0, x1, x2, x3, x4, x5⟩ := (Sc.below HX.out HB.out).cell k hlt
      obtain ⟨v0, v1⟩ := HX.out.num k hlt
      have hab2 := Nat.lt_of_lt_of_le hab HB.out.size
      obtain ⟨K, hK⟩ : ∃ K, (X k).kind = K := ⟨_, rfl⟩
      obtain ⟨n, hN⟩ : ∃ n, (X k).n = n := ⟨_, rfl⟩
      obtain ⟨x, hx⟩ : ∃ x, (X k).e = x := ⟨_, rfl⟩
      rw [hx] at x2 x3 x4 x5
      rw [hK] at x0 v0 v1
      rw [hN] at x1
      clear hx hK hN
      obtain ⟨L, lst, hm, hnd, hiv, hrw⟩ := HST.out
      have hwl := hrw.lt
      have HSW : Hid (SwH w (wr.alloc (.cells #[.int .i64 K, .int .i64 n, .int .i64 x.v, .int .u64 x.p, .int .u64 x.f, .int .i64 x.r] 35)) p g room w1.heap.size wr.heap.size K n x L lst vm pg b) :=
        ⟨HB.out.alloc HB.out.size _, hm.below ((Below.refl wr.heap.size wr).alloc (Nat.le_refl _) _), hnd, hiv, hrw.below ((Below.refl wr.heap.size wr).alloc (Nat.le_refl _) _), heap_alloc_new wr _, fun q => Nat.lt_irrefl _ (HFl.out _ q), fun q => by have := HFl.out _ q; omega, HF1.out, hw1⟩
      have hk6 : K % 6 = 0 ∨ K % 6 = 1 ∨ K % 6 = 2 ∨ K % 6 = 3 ∨ K % 6 = 4 ∨ K % 6 = 5 := by omega
      clear hm hnd hiv hrw HST
      go_upto_block 2 with (go_at_call 9; refine (c_Place K 6 (by decide) (by decide) v0 v1 _).mono ?_; rintro r w2 ⟨rfl, hw2⟩; obtain rfl := hw2.symm)
      generalize K % 6 = m at hk6 ⊢
      have swAll : ∀ (KK : Act → World → Prop) (QQ : Exit → Act → World → Prop) (c1 c4 c5 c6 c7 c8 c10 c13 c15 c16 c17 c18 c19 c20 c21 c22 c23 c24 c25 c26 c27 c28 c29 c30 c31 c32 c33 c34 c35 c36 c37 c38 c39 c40 c41 c42 c43 c44 c45 c46 c47 c48 c49 c50 c51 c52 c54 c55 c56 c57 c58 c59 c60 c61 c62 c63 c64 c65 c66 c67 c68 c69 c70 c71 c72 c73 c74 c75 c76 c77 c78 c79 c80 c81 c82 c83 c84 c85 c86 c87 c88 c89 c90 c91 c92 c93 c94 c95 c96 c97 c98 c99 c100 c101 c102 c103 c104 c105 c106 c107 c108 c109 c110 c111 c112 c113 c114 c115 c116 c117 c118 c119 c120 c121 c122 c123 c124 c125 c126 c127 c128 c129 c130 c131 c132 c133 c134 c135 c136 c137 c138 c139 c140 c141 c142 c143 c144 c145 c146 c147 c148 c149 c150 c151 c152 c153 c154 c155 c156 c157 c158 c159 c160 c161 c162 c163 c164 c165 c166 c167 c168 c169 c170 c171 c172 c173 c174 c175 c176 c177 c178 c179 c180 c181 c182 c183 c184 c185 c186 c187 c188 c189 c190 c191 : Value) (hK : ∀ (b' : Bool) (wx : World) (d54 d55 d56 d57 d58 d59 d60 d61 d62 d63 d64 d65 d66 d67 d68 d69 d70 d71 d72 d73 d74 d75 d76 d77 d78 d79 d80 d81 d82 d83 d84 d85 d86 d87 d88 d89 d90 d91 d92 d93 d94 d95 d96 d97 d98 d99 d100 d101 d102 d103 d104 d105 d106 d107 d108 d109 d110 d111 d112 d113 d114 d115 d116 d117 d118 d119 d120 d121 d122 d123 : Value), St wx p g room w1.heap.size vm pg b' → Below w.heap.size w wx → KK ⟨#[.int .i64 (room : Int), c1, .int .i64 vm, .int .u64 pg, c4, c5, c6, c7, c8, .pointer (some ⟨p, 0, none⟩), c10, .pointer (some ⟨w1.heap.size, 0, none⟩), Value.bool b', c13, .pointer (some ⟨wr.heap.size, 0, none⟩), c15, c16, c17, c18, c19, c20, c21, c22, c23, c24, c25, c26, c27, c28, c29, c30, c31, c32, c33, c34, c35, c36, c37, c38, c39, c40, c41, c42, c43, c44, c45, c46, c47, c48, c49, c50, c51, c52, .int .i64 m, d54, d55, d56, d57, d58, d59, d60, d61, d62, d63, d64, d65, d66, d67, d68, d69, d70, d71, d72, d73, d74, d75, d76, d77, d78, d79, d80, d81, d82, d83, d84, d85, d86, d87, d88, d89, d90, d91, d92, d93, d94, d95, d96, d97, d98, d99, d100, d101, d102, d103, d104, d105, d106, d107, d108, d109, d110, d111, d112, d113, d114, d115, d116, d117, d118, d119, d120, d121, d122, d123, c124, c125, c126, c127, c128, c129, c130, c131, c132, c133, c134, c135, c136, c137, c138, c139, c140, c141, c142, c143, c144, c145, c146, c147, c148, c149, c150, c151, c152, c153, c154, c155, c156, c157, c158, c159, c160, c161, c162, c163, c164, c165, c166, c167, c168, c169, c170, c171, c172, c173, c174, c175, c176, c177, c178, c179, c180, c181, c182, c183, c184, c185, c186, c187, c188, c189, c190, c191], []⟩ wx), Code.wp Try.prog sw4 (Exit.then KK QQ) ⟨#[.int .i64 (room : Int), c1, .int .i64 vm, .int .u64 pg, c4, c5, c6, c7, c8, .pointer (some ⟨p, 0, none⟩), c10, .pointer (some ⟨w1.heap.size, 0, none⟩), .bool b, c13, .pointer (some ⟨wr.heap.size, 0, none⟩), c15, c16, c17, c18, c19, c20, c21, c22, c23, c24, c25, c26, c27, c28, c29, c30, c31, c32, c33, c34, c35, c36, c37, c38, c39, c40, c41, c42, c43, c44, c45, c46, c47, c48, c49, c50, c51, c52, .int .i64 m, c54, c55, c56, c57, c58, c59, c60, c61, c62, c63, c64, c65, c66, c67, c68, c69, c70, c71, c72, c73, c74, c75, c76, c77, c78, c79, c80, c81, c82, c83, c84, c85, c86, c87, c88, c89, c90, c91, c92, c93, c94, c95, c96, c97, c98, c99, c100, c101, c102, c103, c104, c105, c106, c107, c108, c109, c110, c111, c112, c113, c114, c115, c116, c117, c118, c119, c120, c121, c122, c123, c124, c125, c126, c127, c128, c129, c130, c131, c132, c133, c134, c135, c136, c137, c138, c139, c140, c141, c142, c143, c144, c145, c146, c147, c148, c149, c150, c151, c152, c153, c154, c155, c156, c157, c158, c159, c160, c161, c162, c163, c164, c165, c166, c167, c168, c169, c170, c171, c172, c173, c174, c175, c176, c177, c178, c179, c180, c181, c182, c183, c184, c185, c186, c187, c188, c189, c190, c191], []⟩ (wr.alloc (.cells #[.int .i64 K, .int .i64 n, .int .i64 x.v, .int .u64 x.p, .int .u64 x.f, .int .i64 x.r] 35)) := by
        intro KK QQ c1 c4 c5 c6 c7 c8 c10 c13 c15 c16 c17 c18 c19 c20 c21 c22 c23 c24 c25 c26 c27 c28 c29 c30 c31 c32 c33 c34 c35 c36 c37 c38 c39 c40 c41 c42 c43 c44 c45 c46 c47 c48 c49 c50 c51 c52 c54 c55 c56 c57 c58 c59 c60 c61 c62 c63 c64 c65 c66 c67 c68 c69 c70 c71 c72 c73 c74 c75 c76 c77 c78 c79 c80 c81 c82 c83 c84 c85 c86 c87 c88 c89 c90 c91 c92 c93 c94 c95 c96 c97 c98 c99 c100 c101 c102 c103 c104 c105 c106 c107 c108 c109 c110 c111 c112 c113 c114 c115 c116 c117 c118 c119 c120 c121 c122 c123 c124 c125 c126 c127 c128 c129 c130 c131 c132 c133 c134 c135 c136 c137 c138 c139 c140 c141 c142 c143 c144 c145 c146 c147 c148 c149 c150 c151 c152 c153 c154 c155 c156 c157 c158 c159 c160 c161 c162 c163 c164 c165 c166 c167 c168 c169 c170 c171 c172 c173 c174 c175 c176 c177 c178 c179 c180 c181 c182 c183 c184 c185 c186 c187 c188 c189 c190 c191 hK
        rcases hk6 with rfl | rfl | rfl | rfl | rfl | rfl
        · exact sw_0 w _ p g room w1.heap.size wr.heap.size K n x L lst vm pg b HSW.out _ _ _ _ _ _ _ _ _ _ _ _ _ _ _ _ _ _ _ _ _ _ _ _ _ _ _ _ _ _ _ _ _ _ _ _ _ _ _ _ _ _ _ _ _ _ _ _ _ _ _ _ _ _ _ _ _ _ _ _ _ _ _ _ _ _ _ _ _ _ _ _ _ _ _ _ _ _ _ _ _ _ _ _ _ _ _ _ _ _ _ _ _ _ _ _ _ _ _ _ _ _ _ _ _ _ _ _ _ _ _ _ _ _ _ _ _ _ _ _ _ _ _ _ _ _ _ _ _ _ _ _ _ _ _ _ _ _ _ _ _ _ _ _ _ _ _ _ _ _ _ _ _ _ _ _ _ _ _ _ _ _ _ _ _ _ _ _ _ _ _ _ _ _ _ _ _ _ _ _ _ _ _ _ KK QQ hK
        · exact sw_1 w _ p g room w1.heap.size wr.heap.size K n x L lst vm pg b HSW.out _ _ _ _ _ _ _ _ _ _ _ _ _ _ _ _ _ _ _ _ _ _ _ _ _ _ _ _ _ _ _ _ _ _ _ _ _ _ _ _ _ _ _ _ _ _ _ _ _ _ _ _ _ _ _ _ _ _ _ _ _ _ _ _ _ _ _ _ _ _ _ _ _ _ _ _ _ _ _ _ _ _ _ _ _ _ _ _ _ _ _ _ _ _ _ _ _ _ _ _ _ _ _ _ _ _ _ _ _ _ _ _ _ _ _ _ _ _ _ _ _ _ _ _ _ _ _ _ _ _ _ _ _ _ _ _ _ _ _ _ _ _ _ _ _ _ _ _ _ _ _ _ _ _ _ _ _ _ _ _ _ _ _ _ _ _ _ _ _ _ _ _ _ _ _ _ _ _ _ _ _ _ _ _ KK QQ hK
        · exact sw_2 w _ p g room w1.heap.size wr.heap.size K n x L lst vm pg b HSW.out _ _ _ _ _ _ _ _ _ _ _ _ _ _ _ _ _ _ _ _ _ _ _ _ _ _ _ _ _ _ _ _ _ _ _ _ _ _ _ _ _ _ _ _ _ _ _ _ _ _ _ _ _ _ _ _ _ _ _ _ _ _ _ _ _ _ _ _ _ _ _ _ _ _ _ _ _ _ _ _ _ _ _ _ _ _ _ _ _ _ _ _ _ _ _ _ _ _ _ _ _ _ _ _ _ _ _ _ _ _ _ _ _ _ _ _ _ _ _ _ _ _ _ _ _ _ _ _ _ _ _ _ _ _ _ _ _ _ _ _ _ _ _ _ _ _ _ _ _ _ _ _ _ _ _ _ _ _ _ _ _ _ _ _ _ _ _ _ _ _ _ _ _ _ _ _ _ _ _ _ _ _ _ _ KK QQ hK
        · exact sw_3 w _ p g room w1.heap.size wr.heap.size K n x L lst vm pg b HSW.out _ _ _ _ _ _ _ _ _ _ _ _ _ _ _ _ _ _ _ _ _ _ _ _ _ _ _ _ _ _ _ _ _ _ _ _ _ _ _ _ _ _ _ _ _ _ _ _ _ _ _ _ _ _ _ _ _ _ _ _ _ _ _ _ _ _ _ _ _ _ _ _ _ _ _ _ _ _ _ _ _ _ _ _ _ _ _ _ _ _ _ _ _ _ _ _ _ _ _ _ _ _ _ _ _ _ _ _ _ _ _ _ _ _ _ _ _ _ _ _ _ _ _ _ _ _ _ _ _ _ _ _ _ _ _ _ _ _ _ _ _ _ _ _ _ _ _ _ _ _ _ _ _ _ _ _ _ _ _ _ _ _ _ _ _ _ _ _ _ _ _ _ _ _ _ _ _ _ _ _ _ _ _ _ KK QQ hK
        · exact sw_4 w _ p g room w1.heap.size wr.heap.size K n x L lst vm pg b HSW.out _ _ _ _ _ _ _ _ _ _ _ _ _ _ _ _ _ _ _ _ _ _ _ _ _ _ _ _ _ _ _ _ _ _ _ _ _ _ _ _ _ _ _ _ _ _ _ _ _ _ _ _ _ _ _ _ _ _ _ _ _ _ _ _ _ _ _ _ _ _ _ _ _ _ _ _ _ _ _ _ _ _ _ _ _ _ _ _ _ _ _ _ _ _ _ _ _ _ _ _ _ _ _ _ _ _ _ _ _ _ _ _ _ _ _ _ _ _ _ _ _ _ _ _ _ _ _ _ _ _ _ _ _ _ _ _ _ _ _ _ _ _ _ _ _ _ _ _ _ _ _ _ _ _ _ _ _ _ _ _ _ _ _ _ _ _ _ _ _ _ _ _ _ _ _ _ _ _ _ _ _ _ _ _ KK QQ hK
        · exact sw_5 w _ p g room w1.heap.size wr.heap.size K n x L lst vm pg b HSW.out _ _ _ _ _ _ _ _ _ _ _ _ _ _ _ _ _ _ _ _ _ _ _ _ _ _ _ _ _ _ _ _ _ _ _ _ _ _ _ _ _ _ _ _ _ _ _ _ _ _ _ _ _ _ _ _ _ _ _ _ _ _ _ _ _ _ _ _ _ _ _ _ _ _ _ _ _ _ _ _ _ _ _ _ _ _ _ _ _ _ _ _ _ _ _ _ _ _ _ _ _ _ _ _ _ _ _ _ _ _ _ _ _ _ _ _ _ _ _ _ _ _ _ _ _ _ _ _ _ _ _ _ _ _ _ _ _ _ _ _ _ _ _ _ _ _ _ _ _ _ _ _ _ _ _ _ _ _ _ _ _ _ _ _ _ _ _ _ _ _ _ _ _ _ _ _ _ _ _ _ _ _ _ _ KK QQ hK
      refine swAll _ _ _ _ _ _ _ _ _ _ _ _ _ _ _ _ _ _ _ _ _ _ _ _ _ _ _ _ _ _ _ _ _ _ _ _ _ _ _ _ _ _ _ _ _ _ _ _ _ _ _ _ _ _ _ _ _ _ _ _ _ _ _ _ _ _ _ _ _ _ _ _ _ _ _ _ _ _ _ _ _ _ _ _ _ _ _ _ _ _ _ _ _ _ _ _ _ _ _ _ _ _ _ _ _ _ _ _ _ _ _ _ _ _ _ _ _ _ _ _ _ _ _ _ _ _ _ _ _ _ _ _ _ _ _ _ _ _ _ _ _ _ _ _ _ _ _ _ _ _ _ _ _ _ _ _ _ _ _ _ _ _ _ _ _ _ _ _ _ _ _ _ _ _ _ _ _ _ _ _ _ _ _ _ _ _ ?_
      clear swAll
      intro b' wc e54 e55 e56 e57 e58 e59 e60 e61 e62 e63 e64 e65 e66 e67 e68 e69 e70 e71 e72 e73 e74 e75 e76 e77 e78 e79 e80 e81 e82 e83 e84 e85 e86 e87 e88 e89 e90 e91 e92 e93 e94 e95 e96 e97 e98 e99 e100 e101 e102 e103 e104 e105 e106 e107 e108 e109 e110 e111 e112 e113 e114 e115 e116 e117 e118 e119 e120 e121 e122 e123 hst hb
      obtain ⟨L2, lst2, hm, hnd, hiv, hrw⟩ := hst
      have HM3 := hid hm
      have HN3 := hid hnd
      have HV3 := hid hiv
      have HR3 := hid hrw
      have HB3 := hid hb
      have hl3 := hm.len
      have hrl := hrw.lt
      have heq := run_eqT
      have hnr : ¬ room < L2.length := by omega
      have hnr2 : decide (room < L2.length) = false := by simp; omega
      have hiv2 := hiv.lk
      clear hm hnd hiv hrw hb x0 x1 x2 x3 x4 x5 hk6 HSW
      rcases hiv2 with ⟨hk1, rfl⟩ | hk1
      · have HK1 := hid hk1
        clear hk1
        go_upto_block 3 with (first
          | (go_at_call 12; refine (c_Look _ p g room L2 HM3.out vm pg).mono ?_; rintro e w4 ⟨rfl, hb4⟩; rw [HK1.out]; have HB4 := hid hb4; have HM4 := hid (HM3.out.below hb4); have HR4 := hid (HR3.out.below hb4); have hrl4 := HR4.out.lt; obtain ⟨l0, l1, l2, l3⟩ := cells1 HR4.out; clear hb4)
          | (go_at_call 22; refine (c_Entries _ p g room L2 (HM4.out.below ((Below.refl _ _).alloc (Nat.le_refl _) _))).mono ?_; rintro e w5 ⟨v5, rfl, he5, hb5⟩; have HE5 := hid he5; have HB5 := hid (((Below.refl wc.heap.size wc).trans HB4.out).alloc HB4.out.size _ |>.trans (hb5.mono (by have := HB4.out.size; simp; omega))); obtain ⟨ad5, cap5, rfl, hrd5⟩ := he5.rd; have HRD := hid hrd5; clear he5 hb5 hrd5))
        refine lp_4 w5 L2 (by omega) HN3.out ad5 cap5 HRD.out _ _ _ _ _ _ _ _ _ _ _ _ _ _ _ _ _ _ _ _ _ _ _ _ _ _ _ _ _ _ _ _ _ _ _ _ _ _ _ _ _ _ _ _ _ _ _ _ _ _ _ _ _ _ _ _ _ _ _ _ _ _ _ _ _ _ _ _ _ _ _ _ _ _ _ _ _ _ _ _ _ _ _ _ _ _ _ _ _ _ _ _ _ _ _ _ _ _ _ _ _ _ _ _ _ _ _ _ _ _ _ _ _ _ _ _ _ _ _ _ _ _ _ _ _ _ _ _ _ _ _ _ _ _ _ _ _ _ _ _ _ _ _ _ _ _ _ _ _ _ _ _ _ _ _ _ _ _ _ _ _ _ _ _ _ _ _ _ _ _ _ _ _ _ _ _ _ _ _ _ _ _ _ _ _ _ _ _ _ _ _ ?_
        intro wx y8 y18 y19 y156 y157 y158 y159 y160 y161 y162 y163 y164 y165 y166 y167 y168 y169 y170 y171 y172 y173 y174 y175 y176 y177 y178 y179 y180 y181 y182 y183 y184 y185 y186 y187 y188 y189 y190 hs6
        have HS6 := hid hs6
        have HW5 : Hid (Below w.heap.size w w5) := HB3.out.trans (HB5.out.mono HB3.out.size)
        have HSt : Hid (St w5 p g room w1.heap.size vm pg true) := ⟨L2, lst2, HM3.out.below HB5.out, HN3.out, HV3.out, HR3.out.below HB5.out⟩
        clear hs6
        go_wp2_with fail
        go_roundw
        case rel => exact ⟨k + 1, true, by omega, by go_num, rfl, by
          obtain ⟨L9, lst9, q1, q2, q3, q4⟩ := HSt.out
          exact ⟨L9, lst9, q1.below (HS6.out.below _), q2, q3, q4.below (HS6.out.below _)⟩, HW5.out.trans (HS6.out.below _)⟩
        case measure => simp [intOf]; omega
      · have HK1 := hid hk1
        clear hk1
        have hzr := run_eqT TV.zero
        go_upto_block 3 with (first
          | (go_at_call 12; refine (c_Look _ p g room L2 HM3.out vm pg).mono ?_; rintro e w4 ⟨rfl, hb4⟩; rw [HK1.out]; have HB4 := hid hb4; have HM4 := hid (HM3.out.below hb4); have HR4 := hid (HR3.out.below hb4); have hrl4 := HR4.out.lt; obtain ⟨l0, l1, l2, l3⟩ := cells1 HR4.out; clear hb4)
          | (go_at_call 22; refine (c_Entries _ p g room L2 (HM4.out.below ((Below.refl _ _).alloc (Nat.le_refl _) _))).mono ?_; rintro e w5 ⟨v5, rfl, he5, hb5⟩; have HE5 := hid he5; have HB5 := hid (((Below.refl wc.heap.size wc).trans HB4.out).alloc HB4.out.size _ |>.trans (hb5.mono (by have := HB4.out.size; simp; omega))); obtain ⟨ad5, cap5, rfl, hrd5⟩ := he5.rd; have HRD := hid hrd5; clear he5 hb5 hrd5))
        refine lp_4 w5 L2 (by omega) HN3.out ad5 cap5 HRD.out _ _ _ _ _ _ _ _ _ _ _ _ _ _ _ _ _ _ _ _ _ _ _ _ _ _ _ _ _ _ _ _ _ _ _ _ _ _ _ _ _ _ _ _ _ _ _ _ _ _ _ _ _ _ _ _ _ _ _ _ _ _ _ _ _ _ _ _ _ _ _ _ _ _ _ _ _ _ _ _ _ _ _ _ _ _ _ _ _ _ _ _ _ _ _ _ _ _ _ _ _ _ _ _ _ _ _ _ _ _ _ _ _ _ _ _ _ _ _ _ _ _ _ _ _ _ _ _ _ _ _ _ _ _ _ _ _ _ _ _ _ _ _ _ _ _ _ _ _ _ _ _ _ _ _ _ _ _ _ _ _ _ _ _ _ _ _ _ _ _ _ _ _ _ _ _ _ _ _ _ _ _ _ _ _ _ _ _ _ _ _ ?_
        intro wx y8 y18 y19 y156 y157 y158 y159 y160 y161 y162 y163 y164 y165 y166 y167 y168 y169 y170 y171 y172 y173 y174 y175 y176 y177 y178 y179 y180 y181 y182 y183 y184 y185 y186 y187 y188 y189 y190 hs6
        have HS6 := hid hs6
        have HW5 : Hid (Below w.heap.size w w5) := HB3.out.trans (HB5.out.mono HB3.out.size)
        have HSt : Hid (St w5 p g room w1.heap.size vm pg b') := ⟨L2, lst2, HM3.out.below HB5.out, HN3.out, HV3.out, HR3.out.below HB5.out⟩
        clear hs6
        go_wp2_with fail
        go_roundw
        case rel => exact ⟨k + 1, b', by omega, by go_num, rfl, by
          obtain ⟨L9, lst9, q1, q2, q3, q4⟩ := HSt.out
          exact ⟨L9, lst9, q1.below (HS6.out.below _), q2, q3, q4.below (HS6.out.below _)⟩, HW5.out.trans (HS6.out.below _)⟩
        case measure => simp [intOf]; omega
    · obtain rfl : k = la := by omega
      go_wp2_with (go_at_call 8; refine (c_awake _).mono ?_; rintro e w3 ⟨rfl, hb3⟩; have HB3 := hid hb3; clear hb3)
      go_ret
      exact ⟨rfl, HB.out.trans (HB3.out.mono HB.out.size)⟩
theorem w_TlbTells (w : World) (room : Int) (_ : -9223372036854775808 ≤ room) (_ : room ≤ 9223372036854775807) (ad : Option Addr) (la cap ab ao : Nat) (X : Nat → OpV) (hX : Sc w ad la cap ab ao X) (vm : Int) (_ : -9223372036854775808 ≤ vm) (_ : vm ≤ 9223372036854775807) (pg : Int) (_ : 0 ≤ pg) (_ : pg < 18446744073709551616) :
    Calls Try.prog 4 #[.int .i64 room, .slice ad la cap, .int .i64 vm, .int .u64 pg] w fun e w' => e = .returned (.bool true) ∧ Below w.heap.size w w' := by
  by_cases h : room < 1 ∨ 64 < room
  · exact w_TlbTells_bad w room h _ vm pg
  · obtain ⟨n, rfl⟩ : ∃ n : Nat, room = n := ⟨room.toNat, by omega⟩
    exact w_TlbTells_ok w n (by omega) (by omega) ad la cap ab ao X hX vm pg
end Go.Proofs.Ytgenjhcpcjhpmaa
