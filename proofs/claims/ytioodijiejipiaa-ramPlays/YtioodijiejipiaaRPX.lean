/- RamPlays, walked. -/
import Derived.Test.YtioodijiejipiaaRPJ
import Derived.Test.YtioodijiejipiaaRPS0
import Derived.Test.YtioodijiejipiaaRPS1
import Derived.Test.YtioodijiejipiaaRPS2
import Derived.Test.YtioodijiejipiaaRPS3
import Derived.Test.YtioodijiejipiaaRPS4
import Derived.Test.YtioodijiejipiaaRPS5
import Derived.Test.YtioodijiejipiaaRPW
import Derived.Test.YtioodijiejipiaaRYA
import Derived.Deep.CutBlock
namespace Go.Proofs.Ytioodijiejipiaa
open Go.RowKit
set_option linter.unusedVariables false

theorem wrap64_b (x : Int) : 0 ≤ IntKind.u64.wrap x ∧ IntKind.u64.wrap x < 18446744073709551616 := by
  have e : IntKind.u64.wrap x = x % 18446744073709551616 := by simp [IntKind.wrap, IntKind.bits, IntKind.signed]
  rw [e]; omega
theorem ob_kind {wr : World} {bx : Nat} {c0 c1 c2 c3 c4 c5 : Value} {t : TypeId} {fr : Nat × Nat} (h : wr.heap[bx]? = some (.cells #[c0, c1, c2, c3, c4, c5] t fr)) : wr.cell? ⟨bx, 0, none⟩ = some c0 := by
  simp [World.cell?, h]
theorem c_BaseM (w : World) (S : Nat → Prop) (p : Nat) (base : Int) (n : Nat) (f : Nat → Int) (h : Mem w S p base n f) : Calls Try.prog 8 #[.pointer (some ⟨p, 0, none⟩)] w fun e w' => e = .returned (.int .u64 base) ∧ w' = w := by
  obtain ⟨g, hs, hr, rfl, _⟩ := h
  exact c_Base w p g base hs f hr
theorem c_FramesM (w : World) (S : Nat → Prop) (p : Nat) (base : Int) (n : Nat) (f : Nat → Int) (h : Mem w S p base n f) : Calls Try.prog 9 #[.pointer (some ⟨p, 0, none⟩)] w fun e w' => e = .returned (.int .i64 n) ∧ w' = w := by
  obtain ⟨g, hs, hr, rfl, _⟩ := h
  exact c_Frames w p g base hs f hr
theorem flat_get (L : List (Nat × Nat)) (j : Nat) (e : Nat × Nat) (h : L[j]? = some e) : (L.flatMap fun e => [Value.pointer (some ⟨e.1, 0, none⟩), Value.pointer (some ⟨e.2, 0, none⟩)])[j * 2]? = some (.pointer (some ⟨e.1, 0, none⟩)) ∧ (L.flatMap fun e => [Value.pointer (some ⟨e.1, 0, none⟩), Value.pointer (some ⟨e.2, 0, none⟩)])[j * 2 + 1]? = some (.pointer (some ⟨e.2, 0, none⟩)) := by
  induction L generalizing j with
  | nil => simp at h
  | cons a L ih =>
    cases j with
    | zero => simp at h; subst h; simp
    | succ j =>
      have := ih j (by simpa using h)
      rw [show (j + 1) * 2 = j * 2 + 1 + 1 by omega]
      simpa using this
set_option maxHeartbeats 8000000 in
set_option maxRecDepth 1000000 in
theorem w_RamPlays_good (w : World) (base : Int) (n : Nat) (b0 : 0 ≤ base) (b1 : base ≤ 4503599627370496) (bm : base % 4096 = 0) (n0 : 0 < n) (n1 : n ≤ 1024) (ad : Option Addr) (la cap : Nat) (aa : Addr) (X : Nat → OpV) (hlc : la ≤ cap) (hcm : cap ≤ 9223372036854775807) (hsl : 0 < la → ad = some aa ∧ aa.block < w.heap.size) (hX : ∀ i, i < la → OpOk w (X i) ∧ ∀ j u, (X i).cells[j]? = some u → w.cell? (aa.add (i * 6 + j)) = some u)
    (hla : la * 16 + 16 ≤ 140737488355328) (hbs : ∀ i, i < la → (X i).bl ≤ 140737488355328) :
    Calls Try.prog 3 #[.int .u64 base, .int .i64 n, .slice ad la cap] w fun e w' => e = .returned (.bool true) ∧ Below w.heap.size w w' := by
  have HSL := hid hsl
  have HXX := hid hX
  have HBS := hid hbs
  clear hsl hX hbs
  go_enter Try.func3, Try.ntmps3
  go_wp2_with (first
    | (go_at_call 5; refine (c_New w base n b0 b1 bm n0 n1).mono ?_; rintro e w1 ⟨p, S, rfl, hm, hb, hS⟩; have HM1 := hid hm; have HB1 := hid hb; have HS1 := hid hS; clear hm hb hS)
    | (go_at_call 6; refine (q_New w1 base n b0 b1 bm n0 n1).mono ?_; rintro e w2 ⟨q, T, rfl, hm, hb, hS⟩; have HM2 := hid hm; have HB2 := hid hb; have HS2 := hid hS; clear hm hb hS)
    | (go_at_call 8; refine (c_BaseM w2 S p base n _ (Mem.below HM1.out HB2.out)).mono ?_; rintro e w3 ⟨rfl, hw3⟩; obtain rfl := hw3.symm)
    | (go_at_call 9; refine (c_FramesM w2 S p base n _ (Mem.below HM1.out HB2.out)).mono ?_; rintro e w3 ⟨rfl, hw3⟩; obtain rfl := hw3.symm))
  go_loopw [7, 9, 11, 12] (fun vp vq vo i wr => ∃ (k p q : Nat), k ≤ la ∧ i = .int .i64 k ∧ vp = .pointer (some ⟨p, 0, none⟩) ∧ vq = .pointer (some ⟨q, 0, none⟩) ∧ S6 w wr base n p q vo k) (fun _ _ _ i _ => la - (intOf i).toNat)
  case atStart =>
    have z1 := HB1.out.size
    exact ⟨0, p, q, by omega, rfl, rfl, rfl, fun _ => 0, S, T, fun _ => False, ⟨Mem.below HM1.out HB2.out, HM2.out, ⟨[], Nat.le_refl _, World.ownsRow_nil _ _ _ _, (fun k hk => by cases hk), (fun e he => by cases he)⟩, HB1.out.trans (HB2.out.mono HB1.out.size), fun k s t => by have := HM1.out.lt s; have := HS2.out k t; omega, fun k s => ⟨HS1.out k s, fun z => z⟩, fun k t => ⟨by have := HS2.out k t; omega, fun z => z⟩, fun k z => z.elim, fun e he => by cases he⟩⟩
  case round =>
    clear HM1 HB1 HS1 HM2 HB2 HS2
    obtain ⟨k, p, q, hk, rfl, rfl, rfl, f, hrp⟩ := hrel
    have HRP := hid hrp
    have HB := hid hrp.bw
    clear hrp
    by_cases hlt : k < la
    · obtain ⟨rfl, hab⟩ := HSL.out (by omega)
      obtain ⟨hok, hcl⟩ := HXX.out k hlt
      have hbl := HBS.out k hlt
      have hmm : k * 16 + 16 ≤ 140737488355328 := by omega
      have hsp : aa.spot = none := by
        have := (HXX.out 0 (by omega)).2 0 _ rfl
        have := World.cell?_spot this
        simpa [Addr.add] using this
      obtain ⟨ab, ao, asp⟩ := aa
      obtain rfl : asp = none := hsp
      have cell : ∀ j u, (X k).cells[j]? = some u → wr.cell? ⟨ab, ao + (k * 6 + j), none⟩ = some u := fun j u hu => by
        have := hcl j u hu
        rw [addr_add] at this
        rw [← this]
        exact Below.cell HB.out (p := ⟨ab, ao + (k * 6 + j), none⟩) hab
      have HOK := hid hok
      clear hcl hok
      obtain ⟨Y, hY⟩ : ∃ Y, X k = Y := ⟨_, rfl⟩
      rw [hY] at cell HOK hbl
      clear hY
      obtain ⟨Kd, Sz, Ad, V, Nr, bad, bl, bc, ba, br⟩ := Y
      have x0 : wr.cell? ⟨ab, ao + k * 6, none⟩ = some (.int .i64 Kd) := cell 0 _ rfl
      have x1 : wr.cell? ⟨ab, ao + k * 6 + 1, none⟩ = some (.int .i64 Sz) := by rw [Nat.add_assoc]; exact cell 1 _ rfl
      have x2 : wr.cell? ⟨ab, ao + k * 6 + 2, none⟩ = some (.int .u64 Ad) := by rw [Nat.add_assoc]; exact cell 2 _ rfl
      have x3 : wr.cell? ⟨ab, ao + k * 6 + 3, none⟩ = some (.int .u64 V) := by rw [Nat.add_assoc]; exact cell 3 _ rfl
      have x4 : wr.cell? ⟨ab, ao + k * 6 + 4, none⟩ = some (.bool Nr) := by rw [Nat.add_assoc]; exact cell 4 _ rfl
      have x5 : wr.cell? ⟨ab, ao + k * 6 + 5, none⟩ = some (.slice bad bl bc) := by rw [Nat.add_assoc]; exact cell 5 _ rfl
      clear cell
      obtain ⟨s0, s1⟩ := HOK.out.size
      obtain ⟨a0, a1⟩ := HOK.out.addr
      obtain ⟨k0, k1⟩ := HOK.out.kind
      simp only at s0 s1 a0 a1 k0 k1 hbl
      cases Nr with
      | false =>
        have HR0 : Hid (Rp w (wr.alloc (.cells #[.int .i64 Kd, .int .i64 Sz, .int .u64 Ad, .int .u64 V, .bool false, .slice bad bl bc] 37)) base n p q f f u11 k [(wr.heap.size, Obj.cells #[.int .i64 Kd, .int .i64 Sz, .int .u64 Ad, .int .u64 V, .bool false, .slice bad bl bc] 37 (0, 0))]) := HRP.out.more ((Below.refl _ _).alloc (Nat.le_refl _) _) (Nat.le_refl _) (heap_alloc_new wr _)
        go_upto_region 17 with fail
        refine r_17 w _ base n p q wr.heap.size f u11 k Ad Kd Sz Ad V false bad bl bc HR0.out a0 (by omega) s0 s1 _ _ _ _ _ _ _ _ _ _ _ _ _ _ _ _ _ _ _ _ _ _ _ _ _ _ _ _ _ _ _ _ _ _ _ _ _ _ _ _ _ _ _ _ _ _ _ _ _ _ _ _ _ _ _ _ _ _ _ _ _ _ _ _ _ _ _ _ _ _ _ _ _ _ _ _ _ _ _ _ _ _ _ _ _ _ _ _ _ _ _ _ _ _ _ _ _ _ _ _ _ _ _ _ _ _ _ _ _ _ _ _ _ _ _ _ _ _ _ _ _ _ _ _ _ _ _ _ _ _ _ _ _ _ _ _ _ _ _ _ _ _ _ _ _ _ _ _ _ _ _ _ _ _ _ _ _ _ _ _ _ _ _ _ _ _ _ _ _ _ _ _ _ _ _ _ _ _ _ _ _ _ _ _ _ _ _ _ _ _ _ _ _ _ _ _ _ _ _ _ _ _ _ _ _ _ _ _ _ _ _ _ _ _ _ _ _ _ _ _ _ _ _ _ _ _ _ _ _ _ _ _ _ _ _ _ _ _ _ _ _ _ _ _ _ _ _ _ _ _ _ ?_
        intro wx g85 g86 g87 g88 g89 g90 g91 g92 g93 g94 g95 h17
        have HR1 := hid h17
        have y0 := ob_kind (h17.at (List.mem_cons_self ..))
        clear h17
        go_upto_block 2 with (go_at_call 12; refine (c_Place Kd 6 (by decide) (by decide) k0 k1 _).mono ?_; rintro r w2 ⟨rfl, hw2⟩; obtain rfl := hw2.symm)
        have hk6 : Kd % 6 = 0 ∨ Kd % 6 = 1 ∨ Kd % 6 = 2 ∨ Kd % 6 = 3 ∨ Kd % 6 = 4 ∨ Kd % 6 = 5 := by omega
        generalize Kd % 6 = m at hk6 ⊢
        obtain ⟨A, hA⟩ : ∃ A, A = Ad := ⟨_, rfl⟩
        rw [← hA]
        have hAb : 0 ≤ A ∧ A < 18446744073709551616 := by rw [hA]; exact ⟨a0, by omega⟩
        have swAll : ∀ (KK : Act → World → Prop) (QQ : Exit → Act → World → Prop) (c0 c1 c2 c3 c4 c5 c6 c8 c10 c12 c16 c17 c18 c19 c20 c21 c22 c23 c24 c25 c26 c27 c28 c29 c30 c31 c32 c33 c34 c35 c36 c37 c38 c39 c40 c41 c42 c43 c44 c45 c46 c47 c48 c49 c50 c51 c52 c53 c54 c55 c56 c57 c58 c59 c60 c61 c62 c63 c64 c65 c66 c67 c68 c69 c70 c71 c72 c73 c74 c75 c76 c77 c78 c79 c80 c81 c82 c83 c84 c85 c86 c87 c88 c89 c90 c91 c92 c93 c94 c95 c96 c97 c99 c100 c101 c102 c103 c104 c105 c106 c107 c108 c109 c110 c111 c112 c113 c114 c115 c116 c117 c118 c119 c120 c121 c122 c123 c124 c125 c126 c127 c128 c129 c130 c131 c132 c133 c134 c135 c136 c137 c138 c139 c140 c141 c142 c143 c144 c145 c146 c147 c148 c149 c150 c151 c152 c153 c154 c155 c156 c157 c158 c159 c160 c161 c162 c163 c164 c165 c166 c167 c168 c169 c170 c171 c172 c173 c174 c175 c176 c177 c178 c179 c180 c181 c182 c183 c184 c185 c186 c187 c188 c189 c190 c191 c192 c193 c194 c195 c196 c197 c198 c199 c200 c201 c202 c203 c204 c205 c206 c207 c208 c209 c210 c211 c212 c213 c214 c215 c216 c217 c218 c219 c220 c221 c222 c223 c224 c225 c226 c227 c228 c229 c230 c231 c232 c233 c234 c235 c236 c237 c238 c239 c240 c241 c242 c243 c244 c245 c246 c247 c248 c249 c250 c251 c252 : Value) (hX : ∀ (wx : World) (p' q' : Nat) (vo' : Value) (d16 d17 d18 d19 d20 d21 d22 d23 d24 d25 d99 d100 d101 d102 d103 d104 d105 d106 d107 d108 d109 d110 d111 d112 d113 d114 d115 d116 d117 d118 d119 d120 d121 d122 d123 d124 d125 d126 d127 d128 d129 d130 d131 d132 d133 d134 d135 d136 d137 d138 d139 d140 d141 d142 d143 d144 d145 d146 d147 d148 d149 d150 d151 d152 d153 d154 d155 d156 d157 d158 d159 d160 d161 d162 d163 d164 d165 d166 d167 d168 d169 d170 d171 d172 d173 d174 d175 d176 d177 d178 d179 d180 d181 d182 d183 d184 d185 d186 d187 d188 d189 d190 d191 d192 d193 d194 d195 d196 d197 d198 d199 d200 d201 d202 d203 d204 d205 d206 d207 d208 d209 d210 d211 d212 d213 d214 d215 d216 d217 d218 d219 d220 d221 d222 d223 d224 d225 d226 d227 d228 d229 d230 d231 : Value), S6 w wx base n p' q' vo' (k + 1) → KK ⟨#[c0, c1, c2, c3, c4, c5, c6, .pointer (some ⟨p', 0, none⟩), c8, .pointer (some ⟨q', 0, none⟩), c10, vo', c12, .pointer (some ⟨wr.heap.size, 0, none⟩), .int .u64 A, .bool true, d16, d17, d18, d19, d20, d21, d22, d23, d24, d25, c26, c27, c28, c29, c30, c31, c32, c33, c34, c35, c36, c37, c38, c39, c40, c41, c42, c43, c44, c45, c46, c47, c48, c49, c50, c51, c52, c53, c54, c55, c56, c57, c58, c59, c60, c61, c62, c63, c64, c65, c66, c67, c68, c69, c70, c71, c72, c73, c74, c75, c76, c77, c78, c79, c80, c81, c82, c83, c84, c85, c86, c87, c88, c89, c90, c91, c92, c93, c94, c95, c96, c97, .int .i64 m, d99, d100, d101, d102, d103, d104, d105, d106, d107, d108, d109, d110, d111, d112, d113, d114, d115, d116, d117, d118, d119, d120, d121, d122, d123, d124, d125, d126, d127, d128, d129, d130, d131, d132, d133, d134, d135, d136, d137, d138, d139, d140, d141, d142, d143, d144, d145, d146, d147, d148, d149, d150, d151, d152, d153, d154, d155, d156, d157, d158, d159, d160, d161, d162, d163, d164, d165, d166, d167, d168, d169, d170, d171, d172, d173, d174, d175, d176, d177, d178, d179, d180, d181, d182, d183, d184, d185, d186, d187, d188, d189, d190, d191, d192, d193, d194, d195, d196, d197, d198, d199, d200, d201, d202, d203, d204, d205, d206, d207, d208, d209, d210, d211, d212, d213, d214, d215, d216, d217, d218, d219, d220, d221, d222, d223, d224, d225, d226, d227, d228, d229, d230, d231, c232, c233, c234, c235, c236, c237, c238, c239, c240, c241, c242, c243, c244, c245, c246, c247, c248, c249, c250, c251, c252], []⟩ wx), Code.wp Try.prog swR (Exit.then KK QQ) ⟨#[c0, c1, c2, c3, c4, c5, c6, .pointer (some ⟨p, 0, none⟩), c8, .pointer (some ⟨q, 0, none⟩), c10, u11, c12, .pointer (some ⟨wr.heap.size, 0, none⟩), .int .u64 A, .bool true, c16, c17, c18, c19, c20, c21, c22, c23, c24, c25, c26, c27, c28, c29, c30, c31, c32, c33, c34, c35, c36, c37, c38, c39, c40, c41, c42, c43, c44, c45, c46, c47, c48, c49, c50, c51, c52, c53, c54, c55, c56, c57, c58, c59, c60, c61, c62, c63, c64, c65, c66, c67, c68, c69, c70, c71, c72, c73, c74, c75, c76, c77, c78, c79, c80, c81, c82, c83, c84, c85, c86, c87, c88, c89, c90, c91, c92, c93, c94, c95, c96, c97, .int .i64 m, c99, c100, c101, c102, c103, c104, c105, c106, c107, c108, c109, c110, c111, c112, c113, c114, c115, c116, c117, c118, c119, c120, c121, c122, c123, c124, c125, c126, c127, c128, c129, c130, c131, c132, c133, c134, c135, c136, c137, c138, c139, c140, c141, c142, c143, c144, c145, c146, c147, c148, c149, c150, c151, c152, c153, c154, c155, c156, c157, c158, c159, c160, c161, c162, c163, c164, c165, c166, c167, c168, c169, c170, c171, c172, c173, c174, c175, c176, c177, c178, c179, c180, c181, c182, c183, c184, c185, c186, c187, c188, c189, c190, c191, c192, c193, c194, c195, c196, c197, c198, c199, c200, c201, c202, c203, c204, c205, c206, c207, c208, c209, c210, c211, c212, c213, c214, c215, c216, c217, c218, c219, c220, c221, c222, c223, c224, c225, c226, c227, c228, c229, c230, c231, c232, c233, c234, c235, c236, c237, c238, c239, c240, c241, c242, c243, c244, c245, c246, c247, c248, c249, c250, c251, c252], []⟩ wx := by
          intro KK QQ c0 c1 c2 c3 c4 c5 c6 c8 c10 c12 c16 c17 c18 c19 c20 c21 c22 c23 c24 c25 c26 c27 c28 c29 c30 c31 c32 c33 c34 c35 c36 c37 c38 c39 c40 c41 c42 c43 c44 c45 c46 c47 c48 c49 c50 c51 c52 c53 c54 c55 c56 c57 c58 c59 c60 c61 c62 c63 c64 c65 c66 c67 c68 c69 c70 c71 c72 c73 c74 c75 c76 c77 c78 c79 c80 c81 c82 c83 c84 c85 c86 c87 c88 c89 c90 c91 c92 c93 c94 c95 c96 c97 c99 c100 c101 c102 c103 c104 c105 c106 c107 c108 c109 c110 c111 c112 c113 c114 c115 c116 c117 c118 c119 c120 c121 c122 c123 c124 c125 c126 c127 c128 c129 c130 c131 c132 c133 c134 c135 c136 c137 c138 c139 c140 c141 c142 c143 c144 c145 c146 c147 c148 c149 c150 c151 c152 c153 c154 c155 c156 c157 c158 c159 c160 c161 c162 c163 c164 c165 c166 c167 c168 c169 c170 c171 c172 c173 c174 c175 c176 c177 c178 c179 c180 c181 c182 c183 c184 c185 c186 c187 c188 c189 c190 c191 c192 c193 c194 c195 c196 c197 c198 c199 c200 c201 c202 c203 c204 c205 c206 c207 c208 c209 c210 c211 c212 c213 c214 c215 c216 c217 c218 c219 c220 c221 c222 c223 c224 c225 c226 c227 c228 c229 c230 c231 c232 c233 c234 c235 c236 c237 c238 c239 c240 c241 c242 c243 c244 c245 c246 c247 c248 c249 c250 c251 c252 hX
          rcases hk6 with rfl | rfl | rfl | rfl | rfl | rfl
          · exact sr_0 w _ base n p q wr.heap.size f u11 k A Kd Sz Ad V false bad bl bc ba br HR1.out hAb HOK.out hbl hmm _ _ _ _ _ _ _ _ _ _ _ _ _ _ _ _ _ _ _ _ _ _ _ _ _ _ _ _ _ _ _ _ _ _ _ _ _ _ _ _ _ _ _ _ _ _ _ _ _ _ _ _ _ _ _ _ _ _ _ _ _ _ _ _ _ _ _ _ _ _ _ _ _ _ _ _ _ _ _ _ _ _ _ _ _ _ _ _ _ _ _ _ _ _ _ _ _ _ _ _ _ _ _ _ _ _ _ _ _ _ _ _ _ _ _ _ _ _ _ _ _ _ _ _ _ _ _ _ _ _ _ _ _ _ _ _ _ _ _ _ _ _ _ _ _ _ _ _ _ _ _ _ _ _ _ _ _ _ _ _ _ _ _ _ _ _ _ _ _ _ _ _ _ _ _ _ _ _ _ _ _ _ _ _ _ _ _ _ _ _ _ _ _ _ _ _ _ _ _ _ _ _ _ _ _ _ _ _ _ _ _ _ _ _ _ _ _ _ _ _ _ _ _ _ _ _ _ _ _ _ _ _ _ _ _ _ _ _ _ _ _ _ _ _ _ _ KK QQ hX
          · exact sr_1 w _ base n p q wr.heap.size f u11 k A Kd Sz Ad V false bad bl bc ba br HR1.out hAb HOK.out hbl hmm _ _ _ _ _ _ _ _ _ _ _ _ _ _ _ _ _ _ _ _ _ _ _ _ _ _ _ _ _ _ _ _ _ _ _ _ _ _ _ _ _ _ _ _ _ _ _ _ _ _ _ _ _ _ _ _ _ _ _ _ _ _ _ _ _ _ _ _ _ _ _ _ _ _ _ _ _ _ _ _ _ _ _ _ _ _ _ _ _ _ _ _ _ _ _ _ _ _ _ _ _ _ _ _ _ _ _ _ _ _ _ _ _ _ _ _ _ _ _ _ _ _ _ _ _ _ _ _ _ _ _ _ _ _ _ _ _ _ _ _ _ _ _ _ _ _ _ _ _ _ _ _ _ _ _ _ _ _ _ _ _ _ _ _ _ _ _ _ _ _ _ _ _ _ _ _ _ _ _ _ _ _ _ _ _ _ _ _ _ _ _ _ _ _ _ _ _ _ _ _ _ _ _ _ _ _ _ _ _ _ _ _ _ _ _ _ _ _ _ _ _ _ _ _ _ _ _ _ _ _ _ _ _ _ _ _ _ _ _ _ _ _ _ _ _ _ KK QQ hX
          · exact sr_2 w _ base n p q wr.heap.size f u11 k A Kd Sz Ad V false bad bl bc ba br HR1.out hAb HOK.out hbl hmm _ _ _ _ _ _ _ _ _ _ _ _ _ _ _ _ _ _ _ _ _ _ _ _ _ _ _ _ _ _ _ _ _ _ _ _ _ _ _ _ _ _ _ _ _ _ _ _ _ _ _ _ _ _ _ _ _ _ _ _ _ _ _ _ _ _ _ _ _ _ _ _ _ _ _ _ _ _ _ _ _ _ _ _ _ _ _ _ _ _ _ _ _ _ _ _ _ _ _ _ _ _ _ _ _ _ _ _ _ _ _ _ _ _ _ _ _ _ _ _ _ _ _ _ _ _ _ _ _ _ _ _ _ _ _ _ _ _ _ _ _ _ _ _ _ _ _ _ _ _ _ _ _ _ _ _ _ _ _ _ _ _ _ _ _ _ _ _ _ _ _ _ _ _ _ _ _ _ _ _ _ _ _ _ _ _ _ _ _ _ _ _ _ _ _ _ _ _ _ _ _ _ _ _ _ _ _ _ _ _ _ _ _ _ _ _ _ _ _ _ _ _ _ _ _ _ _ _ _ _ _ _ _ _ _ _ _ _ _ _ _ _ _ _ _ _ KK QQ hX
          · exact sr_3 w _ base n p q wr.heap.size f u11 k A Kd Sz Ad V false bad bl bc ba br HR1.out hAb HOK.out hbl hmm _ _ _ _ _ _ _ _ _ _ _ _ _ _ _ _ _ _ _ _ _ _ _ _ _ _ _ _ _ _ _ _ _ _ _ _ _ _ _ _ _ _ _ _ _ _ _ _ _ _ _ _ _ _ _ _ _ _ _ _ _ _ _ _ _ _ _ _ _ _ _ _ _ _ _ _ _ _ _ _ _ _ _ _ _ _ _ _ _ _ _ _ _ _ _ _ _ _ _ _ _ _ _ _ _ _ _ _ _ _ _ _ _ _ _ _ _ _ _ _ _ _ _ _ _ _ _ _ _ _ _ _ _ _ _ _ _ _ _ _ _ _ _ _ _ _ _ _ _ _ _ _ _ _ _ _ _ _ _ _ _ _ _ _ _ _ _ _ _ _ _ _ _ _ _ _ _ _ _ _ _ _ _ _ _ _ _ _ _ _ _ _ _ _ _ _ _ _ _ _ _ _ _ _ _ _ _ _ _ _ _ _ _ _ _ _ _ _ _ _ _ _ _ _ _ _ _ _ _ _ _ _ _ _ _ _ _ _ _ _ _ _ _ _ _ _ KK QQ hX
          · exact sr_4 w _ base n p q wr.heap.size f u11 k A Kd Sz Ad V false bad bl bc ba br HR1.out hAb HOK.out hbl hmm _ _ _ _ _ _ _ _ _ _ _ _ _ _ _ _ _ _ _ _ _ _ _ _ _ _ _ _ _ _ _ _ _ _ _ _ _ _ _ _ _ _ _ _ _ _ _ _ _ _ _ _ _ _ _ _ _ _ _ _ _ _ _ _ _ _ _ _ _ _ _ _ _ _ _ _ _ _ _ _ _ _ _ _ _ _ _ _ _ _ _ _ _ _ _ _ _ _ _ _ _ _ _ _ _ _ _ _ _ _ _ _ _ _ _ _ _ _ _ _ _ _ _ _ _ _ _ _ _ _ _ _ _ _ _ _ _ _ _ _ _ _ _ _ _ _ _ _ _ _ _ _ _ _ _ _ _ _ _ _ _ _ _ _ _ _ _ _ _ _ _ _ _ _ _ _ _ _ _ _ _ _ _ _ _ _ _ _ _ _ _ _ _ _ _ _ _ _ _ _ _ _ _ _ _ _ _ _ _ _ _ _ _ _ _ _ _ _ _ _ _ _ _ _ _ _ _ _ _ _ _ _ _ _ _ _ _ _ _ _ _ _ _ _ _ _ KK QQ hX
          · exact sr_5 w _ base n p q wr.heap.size f u11 k A Kd Sz Ad V false bad bl bc ba br HR1.out hAb HOK.out hbl hmm _ _ _ _ _ _ _ _ _ _ _ _ _ _ _ _ _ _ _ _ _ _ _ _ _ _ _ _ _ _ _ _ _ _ _ _ _ _ _ _ _ _ _ _ _ _ _ _ _ _ _ _ _ _ _ _ _ _ _ _ _ _ _ _ _ _ _ _ _ _ _ _ _ _ _ _ _ _ _ _ _ _ _ _ _ _ _ _ _ _ _ _ _ _ _ _ _ _ _ _ _ _ _ _ _ _ _ _ _ _ _ _ _ _ _ _ _ _ _ _ _ _ _ _ _ _ _ _ _ _ _ _ _ _ _ _ _ _ _ _ _ _ _ _ _ _ _ _ _ _ _ _ _ _ _ _ _ _ _ _ _ _ _ _ _ _ _ _ _ _ _ _ _ _ _ _ _ _ _ _ _ _ _ _ _ _ _ _ _ _ _ _ _ _ _ _ _ _ _ _ _ _ _ _ _ _ _ _ _ _ _ _ _ _ _ _ _ _ _ _ _ _ _ _ _ _ _ _ _ _ _ _ _ _ _ _ _ _ _ _ _ _ _ _ _ _ KK QQ hX
        refine swAll _ _ _ _ _ _ _ _ _ _ _ _ _ _ _ _ _ _ _ _ _ _ _ _ _ _ _ _ _ _ _ _ _ _ _ _ _ _ _ _ _ _ _ _ _ _ _ _ _ _ _ _ _ _ _ _ _ _ _ _ _ _ _ _ _ _ _ _ _ _ _ _ _ _ _ _ _ _ _ _ _ _ _ _ _ _ _ _ _ _ _ _ _ _ _ _ _ _ _ _ _ _ _ _ _ _ _ _ _ _ _ _ _ _ _ _ _ _ _ _ _ _ _ _ _ _ _ _ _ _ _ _ _ _ _ _ _ _ _ _ _ _ _ _ _ _ _ _ _ _ _ _ _ _ _ _ _ _ _ _ _ _ _ _ _ _ _ _ _ _ _ _ _ _ _ _ _ _ _ _ _ _ _ _ _ _ _ _ _ _ _ _ _ _ _ _ _ _ _ _ _ _ _ _ _ _ _ _ _ _ _ _ _ _ _ _ _ _ _ _ _ _ _ _ _ _ _ _ _ _ _ _ _ _ _ _ _ _ _ _ _ _ _ _ _ _ _ _ ?_
        clear swAll
        intro wc p' q' vo' e16 e17 e18 e19 e20 e21 e22 e23 e24 e25 e99 e100 e101 e102 e103 e104 e105 e106 e107 e108 e109 e110 e111 e112 e113 e114 e115 e116 e117 e118 e119 e120 e121 e122 e123 e124 e125 e126 e127 e128 e129 e130 e131 e132 e133 e134 e135 e136 e137 e138 e139 e140 e141 e142 e143 e144 e145 e146 e147 e148 e149 e150 e151 e152 e153 e154 e155 e156 e157 e158 e159 e160 e161 e162 e163 e164 e165 e166 e167 e168 e169 e170 e171 e172 e173 e174 e175 e176 e177 e178 e179 e180 e181 e182 e183 e184 e185 e186 e187 e188 e189 e190 e191 e192 e193 e194 e195 e196 e197 e198 e199 e200 e201 e202 e203 e204 e205 e206 e207 e208 e209 e210 e211 e212 e213 e214 e215 e216 e217 e218 e219 e220 e221 e222 e223 e224 e225 e226 e227 e228 e229 e230 e231 hst
        have HST := hid hst
        clear hst
        go_wp2_with fail
        go_roundw
        case rel => exact ⟨k + 1, p', q', by omega, by go_num, rfl, rfl, HST.out⟩
        case measure => simp [intOf]; omega
      | true =>
        have AB : 0 ≤ IntKind.u64.wrap (base + Ad % ((n : Int) * 4096 + 16)) ∧ IntKind.u64.wrap (base + Ad % ((n : Int) * 4096 + 16)) < 18446744073709551616 := wrap64_b _
        have HR0 : Hid (Rp w (wr.alloc (.cells #[.int .i64 Kd, .int .i64 Sz, .int .u64 Ad, .int .u64 V, .bool true, .slice bad bl bc] 37)) base n p q f f u11 k [(wr.heap.size, Obj.cells #[.int .i64 Kd, .int .i64 Sz, .int .u64 Ad, .int .u64 V, .bool true, .slice bad bl bc] 37 (0, 0))]) := HRP.out.more ((Below.refl _ _).alloc (Nat.le_refl _) _) (Nat.le_refl _) (heap_alloc_new wr _)
        go_upto_region 17 with fail
        refine r_17 w _ base n p q wr.heap.size f u11 k (IntKind.u64.wrap (base + Ad % ((n : Int) * 4096 + 16))) Kd Sz Ad V true bad bl bc HR0.out AB.1 AB.2 s0 s1 _ _ _ _ _ _ _ _ _ _ _ _ _ _ _ _ _ _ _ _ _ _ _ _ _ _ _ _ _ _ _ _ _ _ _ _ _ _ _ _ _ _ _ _ _ _ _ _ _ _ _ _ _ _ _ _ _ _ _ _ _ _ _ _ _ _ _ _ _ _ _ _ _ _ _ _ _ _ _ _ _ _ _ _ _ _ _ _ _ _ _ _ _ _ _ _ _ _ _ _ _ _ _ _ _ _ _ _ _ _ _ _ _ _ _ _ _ _ _ _ _ _ _ _ _ _ _ _ _ _ _ _ _ _ _ _ _ _ _ _ _ _ _ _ _ _ _ _ _ _ _ _ _ _ _ _ _ _ _ _ _ _ _ _ _ _ _ _ _ _ _ _ _ _ _ _ _ _ _ _ _ _ _ _ _ _ _ _ _ _ _ _ _ _ _ _ _ _ _ _ _ _ _ _ _ _ _ _ _ _ _ _ _ _ _ _ _ _ _ _ _ _ _ _ _ _ _ _ _ _ _ _ _ _ _ _ _ _ _ _ _ _ _ _ _ _ _ _ _ _ _ ?_
        intro wx g85 g86 g87 g88 g89 g90 g91 g92 g93 g94 g95 h17
        have HR1 := hid h17
        have y0 := ob_kind (h17.at (List.mem_cons_self ..))
        clear h17
        go_upto_block 2 with (go_at_call 12; refine (c_Place Kd 6 (by decide) (by decide) k0 k1 _).mono ?_; rintro r w2 ⟨rfl, hw2⟩; obtain rfl := hw2.symm)
        have hk6 : Kd % 6 = 0 ∨ Kd % 6 = 1 ∨ Kd % 6 = 2 ∨ Kd % 6 = 3 ∨ Kd % 6 = 4 ∨ Kd % 6 = 5 := by omega
        generalize Kd % 6 = m at hk6 ⊢
        obtain ⟨A, hA⟩ : ∃ A, A = (IntKind.u64.wrap (base + Ad % ((n : Int) * 4096 + 16))) := ⟨_, rfl⟩
        rw [← hA]
        have hAb : 0 ≤ A ∧ A < 18446744073709551616 := by rw [hA]; exact AB
        have swAll : ∀ (KK : Act → World → Prop) (QQ : Exit → Act → World → Prop) (c0 c1 c2 c3 c4 c5 c6 c8 c10 c12 c16 c17 c18 c19 c20 c21 c22 c23 c24 c25 c26 c27 c28 c29 c30 c31 c32 c33 c34 c35 c36 c37 c38 c39 c40 c41 c42 c43 c44 c45 c46 c47 c48 c49 c50 c51 c52 c53 c54 c55 c56 c57 c58 c59 c60 c61 c62 c63 c64 c65 c66 c67 c68 c69 c70 c71 c72 c73 c74 c75 c76 c77 c78 c79 c80 c81 c82 c83 c84 c85 c86 c87 c88 c89 c90 c91 c92 c93 c94 c95 c96 c97 c99 c100 c101 c102 c103 c104 c105 c106 c107 c108 c109 c110 c111 c112 c113 c114 c115 c116 c117 c118 c119 c120 c121 c122 c123 c124 c125 c126 c127 c128 c129 c130 c131 c132 c133 c134 c135 c136 c137 c138 c139 c140 c141 c142 c143 c144 c145 c146 c147 c148 c149 c150 c151 c152 c153 c154 c155 c156 c157 c158 c159 c160 c161 c162 c163 c164 c165 c166 c167 c168 c169 c170 c171 c172 c173 c174 c175 c176 c177 c178 c179 c180 c181 c182 c183 c184 c185 c186 c187 c188 c189 c190 c191 c192 c193 c194 c195 c196 c197 c198 c199 c200 c201 c202 c203 c204 c205 c206 c207 c208 c209 c210 c211 c212 c213 c214 c215 c216 c217 c218 c219 c220 c221 c222 c223 c224 c225 c226 c227 c228 c229 c230 c231 c232 c233 c234 c235 c236 c237 c238 c239 c240 c241 c242 c243 c244 c245 c246 c247 c248 c249 c250 c251 c252 : Value) (hX : ∀ (wx : World) (p' q' : Nat) (vo' : Value) (d16 d17 d18 d19 d20 d21 d22 d23 d24 d25 d99 d100 d101 d102 d103 d104 d105 d106 d107 d108 d109 d110 d111 d112 d113 d114 d115 d116 d117 d118 d119 d120 d121 d122 d123 d124 d125 d126 d127 d128 d129 d130 d131 d132 d133 d134 d135 d136 d137 d138 d139 d140 d141 d142 d143 d144 d145 d146 d147 d148 d149 d150 d151 d152 d153 d154 d155 d156 d157 d158 d159 d160 d161 d162 d163 d164 d165 d166 d167 d168 d169 d170 d171 d172 d173 d174 d175 d176 d177 d178 d179 d180 d181 d182 d183 d184 d185 d186 d187 d188 d189 d190 d191 d192 d193 d194 d195 d196 d197 d198 d199 d200 d201 d202 d203 d204 d205 d206 d207 d208 d209 d210 d211 d212 d213 d214 d215 d216 d217 d218 d219 d220 d221 d222 d223 d224 d225 d226 d227 d228 d229 d230 d231 : Value), S6 w wx base n p' q' vo' (k + 1) → KK ⟨#[c0, c1, c2, c3, c4, c5, c6, .pointer (some ⟨p', 0, none⟩), c8, .pointer (some ⟨q', 0, none⟩), c10, vo', c12, .pointer (some ⟨wr.heap.size, 0, none⟩), .int .u64 A, .bool true, d16, d17, d18, d19, d20, d21, d22, d23, d24, d25, c26, c27, c28, c29, c30, c31, c32, c33, c34, c35, c36, c37, c38, c39, c40, c41, c42, c43, c44, c45, c46, c47, c48, c49, c50, c51, c52, c53, c54, c55, c56, c57, c58, c59, c60, c61, c62, c63, c64, c65, c66, c67, c68, c69, c70, c71, c72, c73, c74, c75, c76, c77, c78, c79, c80, c81, c82, c83, c84, c85, c86, c87, c88, c89, c90, c91, c92, c93, c94, c95, c96, c97, .int .i64 m, d99, d100, d101, d102, d103, d104, d105, d106, d107, d108, d109, d110, d111, d112, d113, d114, d115, d116, d117, d118, d119, d120, d121, d122, d123, d124, d125, d126, d127, d128, d129, d130, d131, d132, d133, d134, d135, d136, d137, d138, d139, d140, d141, d142, d143, d144, d145, d146, d147, d148, d149, d150, d151, d152, d153, d154, d155, d156, d157, d158, d159, d160, d161, d162, d163, d164, d165, d166, d167, d168, d169, d170, d171, d172, d173, d174, d175, d176, d177, d178, d179, d180, d181, d182, d183, d184, d185, d186, d187, d188, d189, d190, d191, d192, d193, d194, d195, d196, d197, d198, d199, d200, d201, d202, d203, d204, d205, d206, d207, d208, d209, d210, d211, d212, d213, d214, d215, d216, d217, d218, d219, d220, d221, d222, d223, d224, d225, d226, d227, d228, d229, d230, d231, c232, c233, c234, c235, c236, c237, c238, c239, c240, c241, c242, c243, c244, c245, c246, c247, c248, c249, c250, c251, c252], []⟩ wx), Code.wp Try.prog swR (Exit.then KK QQ) ⟨#[c0, c1, c2, c3, c4, c5, c6, .pointer (some ⟨p, 0, none⟩), c8, .pointer (some ⟨q, 0, none⟩), c10, u11, c12, .pointer (some ⟨wr.heap.size, 0, none⟩), .int .u64 A, .bool true, c16, c17, c18, c19, c20, c21, c22, c23, c24, c25, c26, c27, c28, c29, c30, c31, c32, c33, c34, c35, c36, c37, c38, c39, c40, c41, c42, c43, c44, c45, c46, c47, c48, c49, c50, c51, c52, c53, c54, c55, c56, c57, c58, c59, c60, c61, c62, c63, c64, c65, c66, c67, c68, c69, c70, c71, c72, c73, c74, c75, c76, c77, c78, c79, c80, c81, c82, c83, c84, c85, c86, c87, c88, c89, c90, c91, c92, c93, c94, c95, c96, c97, .int .i64 m, c99, c100, c101, c102, c103, c104, c105, c106, c107, c108, c109, c110, c111, c112, c113, c114, c115, c116, c117, c118, c119, c120, c121, c122, c123, c124, c125, c126, c127, c128, c129, c130, c131, c132, c133, c134, c135, c136, c137, c138, c139, c140, c141, c142, c143, c144, c145, c146, c147, c148, c149, c150, c151, c152, c153, c154, c155, c156, c157, c158, c159, c160, c161, c162, c163, c164, c165, c166, c167, c168, c169, c170, c171, c172, c173, c174, c175, c176, c177, c178, c179, c180, c181, c182, c183, c184, c185, c186, c187, c188, c189, c190, c191, c192, c193, c194, c195, c196, c197, c198, c199, c200, c201, c202, c203, c204, c205, c206, c207, c208, c209, c210, c211, c212, c213, c214, c215, c216, c217, c218, c219, c220, c221, c222, c223, c224, c225, c226, c227, c228, c229, c230, c231, c232, c233, c234, c235, c236, c237, c238, c239, c240, c241, c242, c243, c244, c245, c246, c247, c248, c249, c250, c251, c252], []⟩ wx := by
          intro KK QQ c0 c1 c2 c3 c4 c5 c6 c8 c10 c12 c16 c17 c18 c19 c20 c21 c22 c23 c24 c25 c26 c27 c28 c29 c30 c31 c32 c33 c34 c35 c36 c37 c38 c39 c40 c41 c42 c43 c44 c45 c46 c47 c48 c49 c50 c51 c52 c53 c54 c55 c56 c57 c58 c59 c60 c61 c62 c63 c64 c65 c66 c67 c68 c69 c70 c71 c72 c73 c74 c75 c76 c77 c78 c79 c80 c81 c82 c83 c84 c85 c86 c87 c88 c89 c90 c91 c92 c93 c94 c95 c96 c97 c99 c100 c101 c102 c103 c104 c105 c106 c107 c108 c109 c110 c111 c112 c113 c114 c115 c116 c117 c118 c119 c120 c121 c122 c123 c124 c125 c126 c127 c128 c129 c130 c131 c132 c133 c134 c135 c136 c137 c138 c139 c140 c141 c142 c143 c144 c145 c146 c147 c148 c149 c150 c151 c152 c153 c154 c155 c156 c157 c158 c159 c160 c161 c162 c163 c164 c165 c166 c167 c168 c169 c170 c171 c172 c173 c174 c175 c176 c177 c178 c179 c180 c181 c182 c183 c184 c185 c186 c187 c188 c189 c190 c191 c192 c193 c194 c195 c196 c197 c198 c199 c200 c201 c202 c203 c204 c205 c206 c207 c208 c209 c210 c211 c212 c213 c214 c215 c216 c217 c218 c219 c220 c221 c222 c223 c224 c225 c226 c227 c228 c229 c230 c231 c232 c233 c234 c235 c236 c237 c238 c239 c240 c241 c242 c243 c244 c245 c246 c247 c248 c249 c250 c251 c252 hX
          rcases hk6 with rfl | rfl | rfl | rfl | rfl | rfl
          · exact sr_0 w _ base n p q wr.heap.size f u11 k A Kd Sz Ad V true bad bl bc ba br HR1.out hAb HOK.out hbl hmm _ _ _ _ _ _ _ _ _ _ _ _ _ _ _ _ _ _ _ _ _ _ _ _ _ _ _ _ _ _ _ _ _ _ _ _ _ _ _ _ _ _ _ _ _ _ _ _ _ _ _ _ _ _ _ _ _ _ _ _ _ _ _ _ _ _ _ _ _ _ _ _ _ _ _ _ _ _ _ _ _ _ _ _ _ _ _ _ _ _ _ _ _ _ _ _ _ _ _ _ _ _ _ _ _ _ _ _ _ _ _ _ _ _ _ _ _ _ _ _ _ _ _ _ _ _ _ _ _ _ _ _ _ _ _ _ _ _ _ _ _ _ _ _ _ _ _ _ _ _ _ _ _ _ _ _ _ _ _ _ _ _ _ _ _ _ _ _ _ _ _ _ _ _ _ _ _ _ _ _ _ _ _ _ _ _ _ _ _ _ _ _ _ _ _ _ _ _ _ _ _ _ _ _ _ _ _ _ _ _ _ _ _ _ _ _ _ _ _ _ _ _ _ _ _ _ _ _ _ _ _ _ _ _ _ _ _ _ _ _ _ _ _ _ _ _ KK QQ hX
          · exact sr_1 w _ base n p q wr.heap.size f u11 k A Kd Sz Ad V true bad bl bc ba br HR1.out hAb HOK.out hbl hmm _ _ _ _ _ _ _ _ _ _ _ _ _ _ _ _ _ _ _ _ _ _ _ _ _ _ _ _ _ _ _ _ _ _ _ _ _ _ _ _ _ _ _ _ _ _ _ _ _ _ _ _ _ _ _ _ _ _ _ _ _ _ _ _ _ _ _ _ _ _ _ _ _ _ _ _ _ _ _ _ _ _ _ _ _ _ _ _ _ _ _ _ _ _ _ _ _ _ _ _ _ _ _ _ _ _ _ _ _ _ _ _ _ _ _ _ _ _ _ _ _ _ _ _ _ _ _ _ _ _ _ _ _ _ _ _ _ _ _ _ _ _ _ _ _ _ _ _ _ _ _ _ _ _ _ _ _ _ _ _ _ _ _ _ _ _ _ _ _ _ _ _ _ _ _ _ _ _ _ _ _ _ _ _ _ _ _ _ _ _ _ _ _ _ _ _ _ _ _ _ _ _ _ _ _ _ _ _ _ _ _ _ _ _ _ _ _ _ _ _ _ _ _ _ _ _ _ _ _ _ _ _ _ _ _ _ _ _ _ _ _ _ _ _ _ _ KK QQ hX
          · exact sr_2 w _ base n p q wr.heap.size f u11 k A Kd Sz Ad V true bad bl bc ba br HR1.out hAb HOK.out hbl hmm _ _ _ _ _ _ _ _ _ _ _ _ _ _ _ _ _ _ _ _ _ _ _ _ _ _ _ _ _ _ _ _ _ _ _ _ _ _ _ _ _ _ _ _ _ _ _ _ _ _ _ _ _ _ _ _ _ _ _ _ _ _ _ _ _ _ _ _ _ _ _ _ _ _ _ _ _ _ _ _ _ _ _ _ _ _ _ _ _ _ _ _ _ _ _ _ _ _ _ _ _ _ _ _ _ _ _ _ _ _ _ _ _ _ _ _ _ _ _ _ _ _ _ _ _ _ _ _ _ _ _ _ _ _ _ _ _ _ _ _ _ _ _ _ _ _ _ _ _ _ _ _ _ _ _ _ _ _ _ _ _ _ _ _ _ _ _ _ _ _ _ _ _ _ _ _ _ _ _ _ _ _ _ _ _ _ _ _ _ _ _ _ _ _ _ _ _ _ _ _ _ _ _ _ _ _ _ _ _ _ _ _ _ _ _ _ _ _ _ _ _ _ _ _ _ _ _ _ _ _ _ _ _ _ _ _ _ _ _ _ _ _ _ _ _ _ KK QQ hX
          · exact sr_3 w _ base n p q wr.heap.size f u11 k A Kd Sz Ad V true bad bl bc ba br HR1.out hAb HOK.out hbl hmm _ _ _ _ _ _ _ _ _ _ _ _ _ _ _ _ _ _ _ _ _ _ _ _ _ _ _ _ _ _ _ _ _ _ _ _ _ _ _ _ _ _ _ _ _ _ _ _ _ _ _ _ _ _ _ _ _ _ _ _ _ _ _ _ _ _ _ _ _ _ _ _ _ _ _ _ _ _ _ _ _ _ _ _ _ _ _ _ _ _ _ _ _ _ _ _ _ _ _ _ _ _ _ _ _ _ _ _ _ _ _ _ _ _ _ _ _ _ _ _ _ _ _ _ _ _ _ _ _ _ _ _ _ _ _ _ _ _ _ _ _ _ _ _ _ _ _ _ _ _ _ _ _ _ _ _ _ _ _ _ _ _ _ _ _ _ _ _ _ _ _ _ _ _ _ _ _ _ _ _ _ _ _ _ _ _ _ _ _ _ _ _ _ _ _ _ _ _ _ _ _ _ _ _ _ _ _ _ _ _ _ _ _ _ _ _ _ _ _ _ _ _ _ _ _ _ _ _ _ _ _ _ _ _ _ _ _ _ _ _ _ _ _ _ _ _ KK QQ hX
          · exact sr_4 w _ base n p q wr.heap.size f u11 k A Kd Sz Ad V true bad bl bc ba br HR1.out hAb HOK.out hbl hmm _ _ _ _ _ _ _ _ _ _ _ _ _ _ _ _ _ _ _ _ _ _ _ _ _ _ _ _ _ _ _ _ _ _ _ _ _ _ _ _ _ _ _ _ _ _ _ _ _ _ _ _ _ _ _ _ _ _ _ _ _ _ _ _ _ _ _ _ _ _ _ _ _ _ _ _ _ _ _ _ _ _ _ _ _ _ _ _ _ _ _ _ _ _ _ _ _ _ _ _ _ _ _ _ _ _ _ _ _ _ _ _ _ _ _ _ _ _ _ _ _ _ _ _ _ _ _ _ _ _ _ _ _ _ _ _ _ _ _ _ _ _ _ _ _ _ _ _ _ _ _ _ _ _ _ _ _ _ _ _ _ _ _ _ _ _ _ _ _ _ _ _ _ _ _ _ _ _ _ _ _ _ _ _ _ _ _ _ _ _ _ _ _ _ _ _ _ _ _ _ _ _ _ _ _ _ _ _ _ _ _ _ _ _ _ _ _ _ _ _ _ _ _ _ _ _ _ _ _ _ _ _ _ _ _ _ _ _ _ _ _ _ _ _ _ _ KK QQ hX
          · exact sr_5 w _ base n p q wr.heap.size f u11 k A Kd Sz Ad V true bad bl bc ba br HR1.out hAb HOK.out hbl hmm _ _ _ _ _ _ _ _ _ _ _ _ _ _ _ _ _ _ _ _ _ _ _ _ _ _ _ _ _ _ _ _ _ _ _ _ _ _ _ _ _ _ _ _ _ _ _ _ _ _ _ _ _ _ _ _ _ _ _ _ _ _ _ _ _ _ _ _ _ _ _ _ _ _ _ _ _ _ _ _ _ _ _ _ _ _ _ _ _ _ _ _ _ _ _ _ _ _ _ _ _ _ _ _ _ _ _ _ _ _ _ _ _ _ _ _ _ _ _ _ _ _ _ _ _ _ _ _ _ _ _ _ _ _ _ _ _ _ _ _ _ _ _ _ _ _ _ _ _ _ _ _ _ _ _ _ _ _ _ _ _ _ _ _ _ _ _ _ _ _ _ _ _ _ _ _ _ _ _ _ _ _ _ _ _ _ _ _ _ _ _ _ _ _ _ _ _ _ _ _ _ _ _ _ _ _ _ _ _ _ _ _ _ _ _ _ _ _ _ _ _ _ _ _ _ _ _ _ _ _ _ _ _ _ _ _ _ _ _ _ _ _ _ _ _ _ KK QQ hX
        refine swAll _ _ _ _ _ _ _ _ _ _ _ _ _ _ _ _ _ _ _ _ _ _ _ _ _ _ _ _ _ _ _ _ _ _ _ _ _ _ _ _ _ _ _ _ _ _ _ _ _ _ _ _ _ _ _ _ _ _ _ _ _ _ _ _ _ _ _ _ _ _ _ _ _ _ _ _ _ _ _ _ _ _ _ _ _ _ _ _ _ _ _ _ _ _ _ _ _ _ _ _ _ _ _ _ _ _ _ _ _ _ _ _ _ _ _ _ _ _ _ _ _ _ _ _ _ _ _ _ _ _ _ _ _ _ _ _ _ _ _ _ _ _ _ _ _ _ _ _ _ _ _ _ _ _ _ _ _ _ _ _ _ _ _ _ _ _ _ _ _ _ _ _ _ _ _ _ _ _ _ _ _ _ _ _ _ _ _ _ _ _ _ _ _ _ _ _ _ _ _ _ _ _ _ _ _ _ _ _ _ _ _ _ _ _ _ _ _ _ _ _ _ _ _ _ _ _ _ _ _ _ _ _ _ _ _ _ _ _ _ _ _ _ _ _ _ _ _ _ ?_
        clear swAll
        intro wc p' q' vo' e16 e17 e18 e19 e20 e21 e22 e23 e24 e25 e99 e100 e101 e102 e103 e104 e105 e106 e107 e108 e109 e110 e111 e112 e113 e114 e115 e116 e117 e118 e119 e120 e121 e122 e123 e124 e125 e126 e127 e128 e129 e130 e131 e132 e133 e134 e135 e136 e137 e138 e139 e140 e141 e142 e143 e144 e145 e146 e147 e148 e149 e150 e151 e152 e153 e154 e155 e156 e157 e158 e159 e160 e161 e162 e163 e164 e165 e166 e167 e168 e169 e170 e171 e172 e173 e174 e175 e176 e177 e178 e179 e180 e181 e182 e183 e184 e185 e186 e187 e188 e189 e190 e191 e192 e193 e194 e195 e196 e197 e198 e199 e200 e201 e202 e203 e204 e205 e206 e207 e208 e209 e210 e211 e212 e213 e214 e215 e216 e217 e218 e219 e220 e221 e222 e223 e224 e225 e226 e227 e228 e229 e230 e231 hst
        have HST := hid hst
        clear hst
        go_wp2_with fail
        go_roundw
        case rel => exact ⟨k + 1, p', q', by omega, by go_num, rfl, rfl, HST.out⟩
        case measure => simp [intOf]; omega
    · obtain rfl : k = la := by omega
      have hla1 : (k : Int) < 9223372036854775807 := by omega
      obtain ⟨S, T, O, hr⟩ := HRP.out
      obtain ⟨L, hl, hrow, hv, hel⟩ := hr.oth
      rcases hrow.2 with ⟨rfl, h0⟩ | ⟨g, cp, cur, rfl, hgb, hg, hcp, hcm2, _, _⟩
      · have HR := hid hr
        clear hr hrow hv hel HSL HXX HBS
        go_wp2_with fail
        go_loopw [26] (fun i wx => i = .int .i64 0 ∧ wx = wr) (fun _ _ => 0)
        case atStart => exact ⟨rfl, rfl⟩
        case round =>
          obtain ⟨rfl, rfl⟩ := hrel
          go_wp2_with (first
            | (go_at_call 27; refine (c_Same _ S T p q base n f HR.out.mem HR.out.rm).mono ?_; rintro e w5 ⟨rfl, hb5⟩; have HB5 := hid hb5; clear hb5)
            | (go_at_call 7; refine (c_awake w5).mono ?_; rintro e w6 ⟨rfl, hb6⟩; have HB6 := hid hb6; clear hb6))
          go_ret
          exact ⟨rfl, HB.out.trans ((HB5.out.trans (HB6.out.mono HB5.out.size)).mono HB.out.size)⟩
      · obtain ⟨m, hm⟩ : ∃ m, L.length = m := ⟨_, rfl⟩
        rw [hm] at hl HRP hcp ⊢
        clear hr hrow hv hel hm hg HSL HXX HBS
        go_wp2_with fail
        go_loopw [26] (fun i wx => ∃ j : Nat, j ≤ m ∧ i = .int .i64 j ∧ Rp w wx base n p q f f (.slice (some ⟨g, 0, none⟩) m cp) k []) (fun i _ => m - (intOf i).toNat)
        case atStart => exact ⟨0, by omega, rfl, HRP.out⟩
        case round =>
          obtain ⟨j, hj, rfl, hR⟩ := hrel
          have HR := hid hR
          clear hR
          by_cases hjm : j < m
          · obtain ⟨S1, T1, O1, h1⟩ := HR.out
            obtain ⟨L1, _, hrow1, _, hel1⟩ := h1.oth
            have hL1 : L1.length = m := by
              rcases hrow1.2 with ⟨e, _⟩ | ⟨g', cp', cur', e, _⟩
              · simp at e
              · simp at e; omega
            obtain ⟨e, he⟩ : ∃ e, L1[j]? = some e := ⟨_, List.getElem?_eq_getElem (by omega)⟩
            obtain ⟨Sa, Ta, fa, ha, hb, _, _⟩ := hel1 e (List.mem_of_getElem? he)
            have c0 : wr.cell? ⟨g, j * 2, none⟩ = some (.pointer (some ⟨e.1, 0, none⟩)) := by
              have := World.ownsRow.cells hrow1 (g := g) rfl (j * 2) _ (flat_get L1 j e he).1
              rw [addr_add, Nat.zero_add] at this; exact this
            have c1 : wr.cell? ⟨g, j * 2 + 1, none⟩ = some (.pointer (some ⟨e.2, 0, none⟩)) := by
              have := World.ownsRow.cells hrow1 (g := g) rfl (j * 2 + 1) _ (flat_get L1 j e he).2
              rw [addr_add, Nat.zero_add] at this; exact this
            have HA := hid ha
            have HBq := hid hb
            clear h1 hrow1 hel1 he ha hb
            go_wp2_with (go_at_call 27; refine (c_Same _ Sa Ta e.1 e.2 base n fa HA.out HBq.out).mono ?_; rintro e9 w9 ⟨rfl, hb9⟩; have HB9 := hid hb9; clear hb9)
            go_roundw
            case rel => exact ⟨j + 1, by omega, by go_num, HR.out.below HB9.out⟩
            case measure => simp [intOf]; omega
          · obtain rfl : j = m := by omega
            obtain ⟨S1, T1, O1, h1⟩ := HR.out
            have HR1 := hid h1
            have HBz := hid h1.bw
            clear h1
            go_wp2_with (first
              | (go_at_call 27; refine (c_Same _ S1 T1 p q base n f HR1.out.mem HR1.out.rm).mono ?_; rintro e w5 ⟨rfl, hb5⟩; have HB5 := hid hb5; clear hb5)
              | (go_at_call 7; refine (c_awake w5).mono ?_; rintro e w6 ⟨rfl, hb6⟩; have HB6 := hid hb6; clear hb6))
            go_ret
            exact ⟨rfl, HBz.out.trans ((HB5.out.trans (HB6.out.mono HB5.out.size)).mono HBz.out.size)⟩
end Go.Proofs.Ytioodijiejipiaa
