/- The walks of InstFields: what is read has fields within their bounds. -/
import Derived.Test.YtedkkdjmikhejaaDoorIL
import Derived.Test.YtedkkdjmikhejaaDoorIMF
namespace Go.Proofs.YtedkkdjmikhejaaDoor
open Go.RowKit
set_option linter.unusedVariables false

set_option maxRecDepth 100000 in
theorem fw_1 (a : Int) (h0 : 0 ≤ a) (h1 : a < 4294967296) (w : World) (hG : G w) (hk : (D a).2 = true) (r0 : 0 ≤ (D a).1.rd) (r1 : (D a).1.rd ≤ 31) (s0 : 0 ≤ (D a).1.rs1) (s1 : (D a).1.rs1 ≤ 31) (t0 : 0 ≤ (D a).1.rs2) (t1 : (D a).1.rs2 ≤ 31) (hkind : (D a).1.kind = 1) (hz : (D a).1.size = 0) (m0 : (D a).1.imm.tmod 4096 = 0) (m1 : -2147483648 ≤ (D a).1.imm) (m2 : (D a).1.imm < 2147483648) :
    Calls Tryd.prog 5 #[.int .u32 a] w fun e w' => e = .returned (.bool true) ∧ Below w.heap.size w w' := by
  go_enter Tryd.func5, Tryd.ntmps5
  go_wp2_with (first | (go_at_call 7; refine (m_Decode a h0 h1 _ hG).mono ?_; rintro e w1 ⟨rfl, hb⟩) | (go_at_call 8; refine (m_awake _ ((hG.below hb).alloc _)).mono ?_; rintro e w2 ⟨rfl, hb2⟩))
  go_ret
  exact ⟨rfl, belowT hb (belowA hb2)⟩
set_option maxRecDepth 100000 in
theorem fw_2 (a : Int) (h0 : 0 ≤ a) (h1 : a < 4294967296) (w : World) (hG : G w) (hk : (D a).2 = true) (r0 : 0 ≤ (D a).1.rd) (r1 : (D a).1.rd ≤ 31) (s0 : 0 ≤ (D a).1.rs1) (s1 : (D a).1.rs1 ≤ 31) (t0 : 0 ≤ (D a).1.rs2) (t1 : (D a).1.rs2 ≤ 31) (hkind : (D a).1.kind = 2) (hz : (D a).1.size = 0) (m0 : (D a).1.imm.tmod 4096 = 0) (m1 : -2147483648 ≤ (D a).1.imm) (m2 : (D a).1.imm < 2147483648) :
    Calls Tryd.prog 5 #[.int .u32 a] w fun e w' => e = .returned (.bool true) ∧ Below w.heap.size w w' := by
  go_enter Tryd.func5, Tryd.ntmps5
  go_wp2_with (first | (go_at_call 7; refine (m_Decode a h0 h1 _ hG).mono ?_; rintro e w1 ⟨rfl, hb⟩) | (go_at_call 8; refine (m_awake _ ((hG.below hb).alloc _)).mono ?_; rintro e w2 ⟨rfl, hb2⟩))
  go_ret
  exact ⟨rfl, belowT hb (belowA hb2)⟩
set_option maxRecDepth 100000 in
theorem fw_3 (a : Int) (h0 : 0 ≤ a) (h1 : a < 4294967296) (w : World) (hG : G w) (hk : (D a).2 = true) (r0 : 0 ≤ (D a).1.rd) (r1 : (D a).1.rd ≤ 31) (s0 : 0 ≤ (D a).1.rs1) (s1 : (D a).1.rs1 ≤ 31) (t0 : 0 ≤ (D a).1.rs2) (t1 : (D a).1.rs2 ≤ 31) (hkind : (D a).1.kind = 3) (hz : (D a).1.size = 0) (m0 : (D a).1.imm.tmod 2 = 0) (m1 : -1048576 ≤ (D a).1.imm) (m2 : (D a).1.imm < 1048576) :
    Calls Tryd.prog 5 #[.int .u32 a] w fun e w' => e = .returned (.bool true) ∧ Below w.heap.size w w' := by
  go_enter Tryd.func5, Tryd.ntmps5
  go_wp2_with (first | (go_at_call 7; refine (m_Decode a h0 h1 _ hG).mono ?_; rintro e w1 ⟨rfl, hb⟩) | (go_at_call 8; refine (m_awake _ ((hG.below hb).alloc _)).mono ?_; rintro e w2 ⟨rfl, hb2⟩))
  go_ret
  exact ⟨rfl, belowT hb (belowA hb2)⟩
set_option maxRecDepth 100000 in
theorem fw_5 (a : Int) (h0 : 0 ≤ a) (h1 : a < 4294967296) (w : World) (hG : G w) (hk : (D a).2 = true) (r0 : 0 ≤ (D a).1.rd) (r1 : (D a).1.rd ≤ 31) (s0 : 0 ≤ (D a).1.rs1) (s1 : (D a).1.rs1 ≤ 31) (t0 : 0 ≤ (D a).1.rs2) (t1 : (D a).1.rs2 ≤ 31) (hkind : (D a).1.kind = 5) (hz : (D a).1.size = 0) (m0 : (D a).1.imm.tmod 2 = 0) (m1 : -4096 ≤ (D a).1.imm) (m2 : (D a).1.imm < 4096) :
    Calls Tryd.prog 5 #[.int .u32 a] w fun e w' => e = .returned (.bool true) ∧ Below w.heap.size w w' := by
  go_enter Tryd.func5, Tryd.ntmps5
  go_wp2_with (first | (go_at_call 7; refine (m_Decode a h0 h1 _ hG).mono ?_; rintro e w1 ⟨rfl, hb⟩) | (go_at_call 8; refine (m_awake _ ((hG.below hb).alloc _)).mono ?_; rintro e w2 ⟨rfl, hb2⟩))
  go_ret
  exact ⟨rfl, belowT hb (belowA hb2)⟩
set_option maxRecDepth 100000 in
theorem fw_s0 (a : Int) (h0 : 0 ≤ a) (h1 : a < 4294967296) (w : World) (hG : G w) (hk : (D a).2 = true) (r0 : 0 ≤ (D a).1.rd) (r1 : (D a).1.rd ≤ 31) (s0 : 0 ≤ (D a).1.rs1) (s1 : (D a).1.rs1 ≤ 31) (t0 : 0 ≤ (D a).1.rs2) (t1 : (D a).1.rs2 ≤ 31) (k0 : 1 ≤ (D a).1.kind) (k1 : (D a).1.kind ≤ 20) (n1 : (D a).1.kind ≠ 1) (n2 : (D a).1.kind ≠ 2) (n3 : (D a).1.kind ≠ 3) (n5 : (D a).1.kind ≠ 5) (hz : (D a).1.size = 0) (m1 : -2048 ≤ (D a).1.imm) (m2 : (D a).1.imm < 4096) :
    Calls Tryd.prog 5 #[.int .u32 a] w fun e w' => e = .returned (.bool true) ∧ Below w.heap.size w w' := by
  go_enter Tryd.func5, Tryd.ntmps5
  go_wp2_with (first | (go_at_call 7; refine (m_Decode a h0 h1 _ hG).mono ?_; rintro e w1 ⟨rfl, hb⟩) | (go_at_call 8; refine (m_awake _ ((hG.below hb).alloc _)).mono ?_; rintro e w2 ⟨rfl, hb2⟩))
  go_ret
  exact ⟨rfl, belowT hb (belowA hb2)⟩
set_option maxRecDepth 100000 in
theorem fw_s1 (a : Int) (h0 : 0 ≤ a) (h1 : a < 4294967296) (w : World) (hG : G w) (hk : (D a).2 = true) (r0 : 0 ≤ (D a).1.rd) (r1 : (D a).1.rd ≤ 31) (s0 : 0 ≤ (D a).1.rs1) (s1 : (D a).1.rs1 ≤ 31) (t0 : 0 ≤ (D a).1.rs2) (t1 : (D a).1.rs2 ≤ 31) (k0 : 1 ≤ (D a).1.kind) (k1 : (D a).1.kind ≤ 20) (n1 : (D a).1.kind ≠ 1) (n2 : (D a).1.kind ≠ 2) (n3 : (D a).1.kind ≠ 3) (n5 : (D a).1.kind ≠ 5) (hz : (D a).1.size = 1) (m1 : -2048 ≤ (D a).1.imm) (m2 : (D a).1.imm < 4096) :
    Calls Tryd.prog 5 #[.int .u32 a] w fun e w' => e = .returned (.bool true) ∧ Below w.heap.size w w' := by
  go_enter Tryd.func5, Tryd.ntmps5
  go_wp2_with (first | (go_at_call 7; refine (m_Decode a h0 h1 _ hG).mono ?_; rintro e w1 ⟨rfl, hb⟩) | (go_at_call 8; refine (m_awake _ ((hG.below hb).alloc _)).mono ?_; rintro e w2 ⟨rfl, hb2⟩))
  go_ret
  exact ⟨rfl, belowT hb (belowA hb2)⟩
set_option maxRecDepth 100000 in
theorem fw_s2 (a : Int) (h0 : 0 ≤ a) (h1 : a < 4294967296) (w : World) (hG : G w) (hk : (D a).2 = true) (r0 : 0 ≤ (D a).1.rd) (r1 : (D a).1.rd ≤ 31) (s0 : 0 ≤ (D a).1.rs1) (s1 : (D a).1.rs1 ≤ 31) (t0 : 0 ≤ (D a).1.rs2) (t1 : (D a).1.rs2 ≤ 31) (k0 : 1 ≤ (D a).1.kind) (k1 : (D a).1.kind ≤ 20) (n1 : (D a).1.kind ≠ 1) (n2 : (D a).1.kind ≠ 2) (n3 : (D a).1.kind ≠ 3) (n5 : (D a).1.kind ≠ 5) (hz : (D a).1.size = 2) (m1 : -2048 ≤ (D a).1.imm) (m2 : (D a).1.imm < 4096) :
    Calls Tryd.prog 5 #[.int .u32 a] w fun e w' => e = .returned (.bool true) ∧ Below w.heap.size w w' := by
  go_enter Tryd.func5, Tryd.ntmps5
  go_wp2_with (first | (go_at_call 7; refine (m_Decode a h0 h1 _ hG).mono ?_; rintro e w1 ⟨rfl, hb⟩) | (go_at_call 8; refine (m_awake _ ((hG.below hb).alloc _)).mono ?_; rintro e w2 ⟨rfl, hb2⟩))
  go_ret
  exact ⟨rfl, belowT hb (belowA hb2)⟩
set_option maxRecDepth 100000 in
theorem fw_s4 (a : Int) (h0 : 0 ≤ a) (h1 : a < 4294967296) (w : World) (hG : G w) (hk : (D a).2 = true) (r0 : 0 ≤ (D a).1.rd) (r1 : (D a).1.rd ≤ 31) (s0 : 0 ≤ (D a).1.rs1) (s1 : (D a).1.rs1 ≤ 31) (t0 : 0 ≤ (D a).1.rs2) (t1 : (D a).1.rs2 ≤ 31) (k0 : 1 ≤ (D a).1.kind) (k1 : (D a).1.kind ≤ 20) (n1 : (D a).1.kind ≠ 1) (n2 : (D a).1.kind ≠ 2) (n3 : (D a).1.kind ≠ 3) (n5 : (D a).1.kind ≠ 5) (hz : (D a).1.size = 4) (m1 : -2048 ≤ (D a).1.imm) (m2 : (D a).1.imm < 4096) :
    Calls Tryd.prog 5 #[.int .u32 a] w fun e w' => e = .returned (.bool true) ∧ Below w.heap.size w w' := by
  go_enter Tryd.func5, Tryd.ntmps5
  go_wp2_with (first | (go_at_call 7; refine (m_Decode a h0 h1 _ hG).mono ?_; rintro e w1 ⟨rfl, hb⟩) | (go_at_call 8; refine (m_awake _ ((hG.below hb).alloc _)).mono ?_; rintro e w2 ⟨rfl, hb2⟩))
  go_ret
  exact ⟨rfl, belowT hb (belowA hb2)⟩
set_option maxRecDepth 100000 in
theorem fw_s8 (a : Int) (h0 : 0 ≤ a) (h1 : a < 4294967296) (w : World) (hG : G w) (hk : (D a).2 = true) (r0 : 0 ≤ (D a).1.rd) (r1 : (D a).1.rd ≤ 31) (s0 : 0 ≤ (D a).1.rs1) (s1 : (D a).1.rs1 ≤ 31) (t0 : 0 ≤ (D a).1.rs2) (t1 : (D a).1.rs2 ≤ 31) (k0 : 1 ≤ (D a).1.kind) (k1 : (D a).1.kind ≤ 20) (n1 : (D a).1.kind ≠ 1) (n2 : (D a).1.kind ≠ 2) (n3 : (D a).1.kind ≠ 3) (n5 : (D a).1.kind ≠ 5) (hz : (D a).1.size = 8) (m1 : -2048 ≤ (D a).1.imm) (m2 : (D a).1.imm < 4096) :
    Calls Tryd.prog 5 #[.int .u32 a] w fun e w' => e = .returned (.bool true) ∧ Below w.heap.size w w' := by
  go_enter Tryd.func5, Tryd.ntmps5
  go_wp2_with (first | (go_at_call 7; refine (m_Decode a h0 h1 _ hG).mono ?_; rintro e w1 ⟨rfl, hb⟩) | (go_at_call 8; refine (m_awake _ ((hG.below hb).alloc _)).mono ?_; rintro e w2 ⟨rfl, hb2⟩))
  go_ret
  exact ⟨rfl, belowT hb (belowA hb2)⟩
set_option maxRecDepth 100000 in
theorem fw_no (a : Int) (h0 : 0 ≤ a) (h1 : a < 4294967296) (w : World) (hG : G w) (hk : (D a).2 = false) :
    Calls Tryd.prog 5 #[.int .u32 a] w fun e w' => e = .returned (.bool true) ∧ Below w.heap.size w w' := by
  go_enter Tryd.func5, Tryd.ntmps5
  go_wp2_with (first | (go_at_call 7; refine (m_Decode a h0 h1 _ hG).mono ?_; rintro e w1 ⟨rfl, hb⟩) | (go_at_call 8; refine (m_awake _ ((hG.below hb).alloc _)).mono ?_; rintro e w2 ⟨rfl, hb2⟩))
  go_ret
  exact ⟨rfl, belowT hb (belowA hb2)⟩
theorem fw (a : Int) (h0 : 0 ≤ a) (h1 : a < 4294967296) (w : World) (hG : G w) :
    Calls Tryd.prog 5 #[.int .u32 a] w fun e w' => e = .returned (.bool true) ∧ Below w.heap.size w w' := by
  cases hk : (D a).2
  · exact fw_no a h0 h1 w hG hk
  · have F := D_fok a h0 h1 hk
    by_cases n1 : (D a).1.kind = 1
    · have m := F.immU (Or.inl n1)
      exact fw_1 a h0 h1 w hG hk F.rd.1 F.rd.2 F.rs1.1 F.rs1.2 F.rs2.1 F.rs2.2 n1 (F.sz0 (Or.inl n1)) (tm0 m.1) m.2.1 m.2.2
    by_cases n2 : (D a).1.kind = 2
    · have m := F.immU (Or.inr n2)
      exact fw_2 a h0 h1 w hG hk F.rd.1 F.rd.2 F.rs1.1 F.rs1.2 F.rs2.1 F.rs2.2 n2 (F.sz0 (Or.inr (Or.inl n2))) (tm0 m.1) m.2.1 m.2.2
    by_cases n3 : (D a).1.kind = 3
    · have m := F.immJ n3
      exact fw_3 a h0 h1 w hG hk F.rd.1 F.rd.2 F.rs1.1 F.rs1.2 F.rs2.1 F.rs2.2 n3 (F.sz0 (Or.inr (Or.inr (Or.inl n3)))) (tm0 m.1) m.2.1 m.2.2
    by_cases n5 : (D a).1.kind = 5
    · have m := F.immB n5
      exact fw_5 a h0 h1 w hG hk F.rd.1 F.rd.2 F.rs1.1 F.rs1.2 F.rs2.1 F.rs2.2 n5 (F.sz0 (Or.inr (Or.inr (Or.inr n5)))) (tm0 m.1) m.2.1 m.2.2
    have m := F.imm ⟨n1, n2, n3, n5⟩
    rcases F.size with z | z | z | z | z
    · exact fw_s0 a h0 h1 w hG hk F.rd.1 F.rd.2 F.rs1.1 F.rs1.2 F.rs2.1 F.rs2.2 F.kind.1 F.kind.2 n1 n2 n3 n5 z m.1 m.2
    · exact fw_s1 a h0 h1 w hG hk F.rd.1 F.rd.2 F.rs1.1 F.rs1.2 F.rs2.1 F.rs2.2 F.kind.1 F.kind.2 n1 n2 n3 n5 z m.1 m.2
    · exact fw_s2 a h0 h1 w hG hk F.rd.1 F.rd.2 F.rs1.1 F.rs1.2 F.rs2.1 F.rs2.2 F.kind.1 F.kind.2 n1 n2 n3 n5 z m.1 m.2
    · exact fw_s4 a h0 h1 w hG hk F.rd.1 F.rd.2 F.rs1.1 F.rs1.2 F.rs2.1 F.rs2.2 F.kind.1 F.kind.2 n1 n2 n3 n5 z m.1 m.2
    · exact fw_s8 a h0 h1 w hG hk F.rd.1 F.rd.2 F.rs1.1 F.rs1.2 F.rs2.1 F.rs2.2 F.kind.1 F.kind.2 n1 n2 n3 n5 z m.1 m.2
end Go.Proofs.YtedkkdjmikhejaaDoor
