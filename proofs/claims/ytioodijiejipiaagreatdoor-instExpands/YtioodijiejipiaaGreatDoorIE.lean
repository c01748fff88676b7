/- What a compressed instruction stands for: what Expand answers, for every one. New blocks alone. -/
import Derived.Test.YtioodijiejipiaaGreatDoorIH
namespace Go.Proofs.YtioodijiejipiaaGreatDoor
open Go.RowKit
set_option linter.unusedVariables false

theorem s_addi (d r n : Int) (w : World) : Calls Tryz.prog 61 #[.int .i64 d, .int .i64 r, .int .i64 n] w fun e w' => e = .returned (I.v ⟨9, 1, d, r, 0, n, 0, false⟩) ∧ Below w.heap.size w w' := by
  go_enter Tryz.func61, Tryz.ntmps61
  go_wp2
  exact bodyPost_ret (v := I.v ⟨9, 1, d, r, 0, n, 0, false⟩) (by simp [results, Tryz.results61, go_sem]) rfl ⟨rfl, below1 _⟩
theorem s_aluImm (f d n : Int) (w : World) : Calls Tryz.prog 71 #[.int .i64 f, .int .i64 d, .int .i64 n] w fun e w' => e = .returned (I.v ⟨9, f, d, d, 0, n, 0, false⟩) ∧ Below w.heap.size w w' := by
  go_enter Tryz.func71, Tryz.ntmps71
  go_wp2
  exact bodyPost_ret (v := I.v ⟨9, f, d, d, 0, n, 0, false⟩) (by simp [results, Tryz.results71, go_sem]) rfl ⟨rfl, below1 _⟩
theorem s_alu (f d r s : Int) (w : World) : Calls Tryz.prog 112 #[.int .i64 f, .int .i64 d, .int .i64 r, .int .i64 s] w fun e w' => e = .returned (I.v ⟨8, f, d, r, s, 0, 0, false⟩) ∧ Below w.heap.size w w' := by
  go_enter Tryz.func112, Tryz.ntmps112
  go_wp2
  exact bodyPost_ret (v := I.v ⟨8, f, d, r, s, 0, 0, false⟩) (by simp [results, Tryz.results112, go_sem]) rfl ⟨rfl, below1 _⟩
theorem s_store (z s r n : Int) (w : World) : Calls Tryz.prog 68 #[.int .i64 z, .int .i64 s, .int .i64 r, .int .i64 n] w fun e w' => e = .returned (I.v ⟨7, 0, 0, r, s, n, z, false⟩) ∧ Below w.heap.size w w' := by
  go_enter Tryz.func68, Tryz.ntmps68
  go_wp2
  exact bodyPost_ret (v := I.v ⟨7, 0, 0, r, s, n, z, false⟩) (by simp [results, Tryz.results68, go_sem]) rfl ⟨rfl, below1 _⟩
theorem s_branch (f r n : Int) (w : World) : Calls Tryz.prog 75 #[.int .i64 f, .int .i64 r, .int .i64 n] w fun e w' => e = .returned (I.v ⟨5, f, 0, r, 0, n, 0, false⟩) ∧ Below w.heap.size w w' := by
  go_enter Tryz.func75, Tryz.ntmps75
  go_wp2
  exact bodyPost_ret (v := I.v ⟨5, f, 0, r, 0, n, 0, false⟩) (by simp [results, Tryz.results75, go_sem]) rfl ⟨rfl, below1 _⟩
theorem s_jalr (d r : Int) (w : World) : Calls Tryz.prog 113 #[.int .i64 d, .int .i64 r] w fun e w' => e = .returned (I.v ⟨4, 0, d, r, 0, 0, 0, false⟩) ∧ Below w.heap.size w w' := by
  go_enter Tryz.func113, Tryz.ntmps113
  go_wp2
  exact bodyPost_ret (v := I.v ⟨4, 0, d, r, 0, 0, 0, false⟩) (by simp [results, Tryz.results113, go_sem]) rfl ⟨rfl, below1 _⟩
set_option maxRecDepth 100000 in
theorem x0_0 (c : Int) (h0 : 0 ≤ c) (h1 : c ≤ 65535) (w : World) (hs : cF3 c = 0) :
    Calls Tryz.prog 42 #[.int .u16 c] w fun e w' => e = .returned (.tuple #[(onl ⟨9, 1, cS2 c, 2, 0, cStack c, 0, false⟩ (cStack c)).1.v, .bool (onl ⟨9, 1, cS2 c, 2, 0, cStack c, 0, false⟩ (cStack c)).2]) ∧ Below w.heap.size w w' := by
  go_enter Tryz.func42, Tryz.ntmps42
  go_wp2_with (first | (go_at_call 59; refine (h_f3 c h0 h1 _).mono ?_; rintro e w' ⟨rfl, rfl⟩) | (go_at_call 62; refine (h_shortRs2 c h0 h1 _).mono ?_; rintro e w' ⟨rfl, rfl⟩) | (go_at_call 63; refine (h_immStack c h0 h1 _).mono ?_; rintro e w' ⟨rfl, rfl⟩) | (go_at_call 61; refine (s_addi _ _ _ _).mono ?_; rintro e w1 ⟨rfl, hb⟩; obtain ⟨hc1, hf1⟩ := bcell hb) | (go_at_call 60; refine (m_only _ _ _ _ _ _ _ _ _ _).mono ?_; rintro e w2 ⟨rfl, hb2⟩; obtain ⟨hc2, hf2⟩ := bcell (belowT hb hb2)) | (go_at_call 45; go_in) | (go_at_call 48; go_in))
  exact bodyPost_ret (v := .tuple #[(onl ⟨9, 1, cS2 c, 2, 0, cStack c, 0, false⟩ (cStack c)).1.v, .bool (onl ⟨9, 1, cS2 c, 2, 0, cStack c, 0, false⟩ (cStack c)).2]) (by simp [results, Tryz.results42, go_sem, hc2]) rfl ⟨rfl, below8 (belowA (belowT hb hb2)) (Nat.le_refl _) _ _ _ _ _ _ _ _⟩
set_option maxRecDepth 100000 in
theorem x0_2 (c : Int) (h0 : 0 ≤ c) (h1 : c ≤ 65535) (w : World) (hs : cF3 c = 2) :
    Calls Tryz.prog 42 #[.int .u16 c] w fun e w' => e = .returned (.tuple #[I.v ⟨6, 0, cS2 c, cS1 c, 0, cWord c, 4, true⟩, .bool true]) ∧ Below w.heap.size w w' := by
  go_enter Tryz.func42, Tryz.ntmps42
  go_wp2_with (first | (go_at_call 59; refine (h_f3 c h0 h1 _).mono ?_; rintro e w' ⟨rfl, rfl⟩) | (go_at_call 65; refine (h_shortRs1 c h0 h1 _).mono ?_; rintro e w' ⟨rfl, rfl⟩) | (go_at_call 62; refine (h_shortRs2 c h0 h1 _).mono ?_; rintro e w' ⟨rfl, rfl⟩) | (go_at_call 66; refine (h_immWord c h0 h1 _).mono ?_; rintro e w' ⟨rfl, rfl⟩) | (go_at_call 64; refine (s_load _ _ _ _ _).mono ?_; rintro e w1 ⟨rfl, hb⟩; obtain ⟨hc1, hf1⟩ := bcell hb) | (go_at_call 45; go_in) | (go_at_call 48; go_in))
  exact bodyPost_ret (v := .tuple #[I.v ⟨6, 0, cS2 c, cS1 c, 0, cWord c, 4, true⟩, .bool true]) (by simp [results, Tryz.results42, go_sem, hc1]) rfl ⟨rfl, below8 (belowA hb) (Nat.le_refl _) _ _ _ _ _ _ _ _⟩
set_option maxRecDepth 100000 in
theorem x0_3 (c : Int) (h0 : 0 ≤ c) (h1 : c ≤ 65535) (w : World) (hs : cF3 c = 3) :
    Calls Tryz.prog 42 #[.int .u16 c] w fun e w' => e = .returned (.tuple #[I.v ⟨6, 0, cS2 c, cS1 c, 0, cDouble c, 8, true⟩, .bool true]) ∧ Below w.heap.size w w' := by
  go_enter Tryz.func42, Tryz.ntmps42
  go_wp2_with (first | (go_at_call 59; refine (h_f3 c h0 h1 _).mono ?_; rintro e w' ⟨rfl, rfl⟩) | (go_at_call 65; refine (h_shortRs1 c h0 h1 _).mono ?_; rintro e w' ⟨rfl, rfl⟩) | (go_at_call 62; refine (h_shortRs2 c h0 h1 _).mono ?_; rintro e w' ⟨rfl, rfl⟩) | (go_at_call 67; refine (h_immDouble c h0 h1 _).mono ?_; rintro e w' ⟨rfl, rfl⟩) | (go_at_call 64; refine (s_load _ _ _ _ _).mono ?_; rintro e w1 ⟨rfl, hb⟩; obtain ⟨hc1, hf1⟩ := bcell hb) | (go_at_call 45; go_in) | (go_at_call 48; go_in))
  exact bodyPost_ret (v := .tuple #[I.v ⟨6, 0, cS2 c, cS1 c, 0, cDouble c, 8, true⟩, .bool true]) (by simp [results, Tryz.results42, go_sem, hc1]) rfl ⟨rfl, below8 (belowA hb) (Nat.le_refl _) _ _ _ _ _ _ _ _⟩
set_option maxRecDepth 100000 in
theorem x0_6 (c : Int) (h0 : 0 ≤ c) (h1 : c ≤ 65535) (w : World) (hs : cF3 c = 6) :
    Calls Tryz.prog 42 #[.int .u16 c] w fun e w' => e = .returned (.tuple #[I.v ⟨7, 0, 0, cS1 c, cS2 c, cWord c, 4, false⟩, .bool true]) ∧ Below w.heap.size w w' := by
  go_enter Tryz.func42, Tryz.ntmps42
  go_wp2_with (first | (go_at_call 59; refine (h_f3 c h0 h1 _).mono ?_; rintro e w' ⟨rfl, rfl⟩) | (go_at_call 65; refine (h_shortRs1 c h0 h1 _).mono ?_; rintro e w' ⟨rfl, rfl⟩) | (go_at_call 62; refine (h_shortRs2 c h0 h1 _).mono ?_; rintro e w' ⟨rfl, rfl⟩) | (go_at_call 66; refine (h_immWord c h0 h1 _).mono ?_; rintro e w' ⟨rfl, rfl⟩) | (go_at_call 68; refine (s_store _ _ _ _ _).mono ?_; rintro e w1 ⟨rfl, hb⟩; obtain ⟨hc1, hf1⟩ := bcell hb) | (go_at_call 45; go_in) | (go_at_call 48; go_in))
  exact bodyPost_ret (v := .tuple #[I.v ⟨7, 0, 0, cS1 c, cS2 c, cWord c, 4, false⟩, .bool true]) (by simp [results, Tryz.results42, go_sem, hc1]) rfl ⟨rfl, below8 (belowA hb) (Nat.le_refl _) _ _ _ _ _ _ _ _⟩
set_option maxRecDepth 100000 in
theorem x0_7 (c : Int) (h0 : 0 ≤ c) (h1 : c ≤ 65535) (w : World) (hs : cF3 c = 7) :
    Calls Tryz.prog 42 #[.int .u16 c] w fun e w' => e = .returned (.tuple #[I.v ⟨7, 0, 0, cS1 c, cS2 c, cDouble c, 8, false⟩, .bool true]) ∧ Below w.heap.size w w' := by
  go_enter Tryz.func42, Tryz.ntmps42
  go_wp2_with (first | (go_at_call 59; refine (h_f3 c h0 h1 _).mono ?_; rintro e w' ⟨rfl, rfl⟩) | (go_at_call 65; refine (h_shortRs1 c h0 h1 _).mono ?_; rintro e w' ⟨rfl, rfl⟩) | (go_at_call 62; refine (h_shortRs2 c h0 h1 _).mono ?_; rintro e w' ⟨rfl, rfl⟩) | (go_at_call 67; refine (h_immDouble c h0 h1 _).mono ?_; rintro e w' ⟨rfl, rfl⟩) | (go_at_call 68; refine (s_store _ _ _ _ _).mono ?_; rintro e w1 ⟨rfl, hb⟩; obtain ⟨hc1, hf1⟩ := bcell hb) | (go_at_call 45; go_in) | (go_at_call 48; go_in))
  exact bodyPost_ret (v := .tuple #[I.v ⟨7, 0, 0, cS1 c, cS2 c, cDouble c, 8, false⟩, .bool true]) (by simp [results, Tryz.results42, go_sem, hc1]) rfl ⟨rfl, below8 (belowA hb) (Nat.le_refl _) _ _ _ _ _ _ _ _⟩
set_option maxRecDepth 100000 in
theorem x0_e (c : Int) (h0 : 0 ≤ c) (h1 : c ≤ 65535) (w : World) (q0 : cF3 c ≠ 0) (q2 : cF3 c ≠ 2) (q3 : cF3 c ≠ 3) (q6 : cF3 c ≠ 6) (q7 : cF3 c ≠ 7) :
    Calls Tryz.prog 42 #[.int .u16 c] w fun e w' => e = .returned (.tuple #[I.v ⟨0, 0, 0, 0, 0, 0, 0, false⟩, .bool false]) ∧ Below w.heap.size w w' := by
  go_enter Tryz.func42, Tryz.ntmps42
  go_wp2_with (first | (go_at_call 59; refine (h_f3 c h0 h1 _).mono ?_; rintro e w' ⟨rfl, rfl⟩) | (go_at_call 45; go_in) | (go_at_call 48; go_in))
  exact bodyPost_ret (v := .tuple #[I.v ⟨0, 0, 0, 0, 0, 0, 0, false⟩, .bool false]) (by simp [results, Tryz.results42, go_sem]) rfl ⟨rfl, below1 _⟩
set_option maxRecDepth 100000 in
theorem xu_2 (c : Int) (h0 : 0 ≤ c) (h1 : c ≤ 65535) (w : World) (hs : cRd c = 2) :
    Calls Tryz.prog 72 #[.int .u16 c] w fun e w' => e = .returned (.tuple #[(onl ⟨9, 1, 2, 2, 0, cMove c, 0, false⟩ (cMove c)).1.v, .bool (onl ⟨9, 1, 2, 2, 0, cMove c, 0, false⟩ (cMove c)).2]) ∧ Below w.heap.size w w' := by
  go_enter Tryz.func72, Tryz.ntmps72
  go_wp2_with (first | (go_at_call 69; refine (h_rd c h0 h1 _).mono ?_; rintro e w' ⟨rfl, rfl⟩) | (go_at_call 110; refine (h_immMove c h0 h1 _).mono ?_; rintro e w' ⟨rfl, rfl⟩) | (go_at_call 61; refine (s_addi _ _ _ _).mono ?_; rintro e w1 ⟨rfl, hb⟩; obtain ⟨hc1, hf1⟩ := bcell hb) | (go_at_call 60; refine (m_only _ _ _ _ _ _ _ _ _ _).mono ?_; rintro e w2 ⟨rfl, hb2⟩; obtain ⟨hc2, hf2⟩ := bcell (belowT hb hb2)) | (go_at_call 45; go_in) | (go_at_call 48; go_in))
  exact bodyPost_ret (v := .tuple #[(onl ⟨9, 1, 2, 2, 0, cMove c, 0, false⟩ (cMove c)).1.v, .bool (onl ⟨9, 1, 2, 2, 0, cMove c, 0, false⟩ (cMove c)).2]) (by simp [results, Tryz.results72, go_sem, hc2]) rfl ⟨rfl, below8 (belowA (belowT hb hb2)) (Nat.le_refl _) _ _ _ _ _ _ _ _⟩
set_option maxRecDepth 100000 in
theorem xu_e (c : Int) (h0 : 0 ≤ c) (h1 : c ≤ 65535) (w : World) (hs : cRd c ≠ 2) :
    Calls Tryz.prog 72 #[.int .u16 c] w fun e w' => e = .returned (.tuple #[(onl ⟨1, 0, cRd c, 0, 0, cSmall c * 4096, 0, false⟩ (cSmall c * 4096)).1.v, .bool (onl ⟨1, 0, cRd c, 0, 0, cSmall c * 4096, 0, false⟩ (cSmall c * 4096)).2]) ∧ Below w.heap.size w w' := by
  have b : -32 ≤ cSmall c ∧ cSmall c < 32 := by unfold cSmall sx cAm; split <;> omega
  obtain ⟨b0, b1⟩ := b
  go_enter Tryz.func72, Tryz.ntmps72
  go_wp2_with (first | (go_at_call 69; refine (h_rd c h0 h1 _).mono ?_; rintro e w' ⟨rfl, rfl⟩) | (go_at_call 70; refine (h_small c h0 h1 _).mono ?_; rintro e w' ⟨rfl, rfl⟩) | (go_at_call 60; refine (m_only _ _ _ _ _ _ _ _ _ _).mono ?_; rintro e w2 ⟨rfl, hb⟩; obtain ⟨hc1, hf1⟩ := bcell hb) | (go_at_call 45; go_in) | (go_at_call 48; go_in))
  exact bodyPost_ret (v := .tuple #[(onl ⟨1, 0, cRd c, 0, 0, cSmall c * 4096, 0, false⟩ (cSmall c * 4096)).1.v, .bool (onl ⟨1, 0, cRd c, 0, 0, cSmall c * 4096, 0, false⟩ (cSmall c * 4096)).2]) (by simp [results, Tryz.results72, go_sem, hc1]) rfl ⟨rfl, below8 (belowA hb) (Nat.le_refl _) _ _ _ _ _ _ _ _⟩
def cO (c : Int) : Int := c / 4096 % 2 * 4 + c / 32 % 4
def cOp (c : Int) : Int := [2, 6, 9, 10, 20, 19, 0, 0].getD (cO c).toNat 0
theorem oc_O (c : Int) (h0 : 0 ≤ c) (h1 : c ≤ 65535) : bits .or .i64 (c * 524288 % 4294967296 / 2147483648 * 4) (c * 33554432 % 4294967296 / 1073741824) = cO c := by
  rw [or64_2 (c * 524288 % 4294967296 / 2147483648 * 4) (c * 33554432 % 4294967296 / 1073741824) (by omega) (by omega) (by omega) (by omega) (by omega)]
  unfold cO; omega
theorem h_operation (c : Int) (h0 : 0 ≤ c) (h1 : c ≤ 65535) (w : World) :
    Calls Tryz.prog 111 #[.int .u16 c] w fun e w' => e = .returned (.int .i64 (cOp c)) ∧ w' = w := by
  have q := oc_O c h0 h1
  have b : cO c = 0 ∨ cO c = 1 ∨ cO c = 2 ∨ cO c = 3 ∨ cO c = 4 ∨ cO c = 5 ∨ cO c = 6 ∨ cO c = 7 := by unfold cO; omega
  unfold cOp
  rcases b with z | z | z | z | z | z | z | z
  all_goals
    rw [z]
    go_enter Tryz.func111, Tryz.ntmps111
    go_wp2
    go_ret
    exact ⟨rfl, rfl⟩
def cT (c : Int) : Int := c / 1024 % 4
set_option maxRecDepth 100000 in
theorem xc_0 (c : Int) (h0 : 0 ≤ c) (h1 : c ≤ 65535) (w : World) (hs : cT c = 0) :
    Calls Tryz.prog 73 #[.int .u16 c] w fun e w' => e = .returned (.tuple #[I.v ⟨9, 7, cS1 c, cS1 c, 0, cAm c, 0, false⟩, .bool true]) ∧ Below w.heap.size w w' := by
  have qt : c * 1048576 % 4294967296 / 1073741824 = cT c := by unfold cT; omega
  go_enter Tryz.func73, Tryz.ntmps73
  go_wp2_with (first | (go_at_call 65; refine (h_shortRs1 c h0 h1 _).mono ?_; rintro e w' ⟨rfl, rfl⟩) | (go_at_call 77; refine (h_amount c h0 h1 _).mono ?_; rintro e w' ⟨rfl, rfl⟩) | (go_at_call 70; refine (h_small c h0 h1 _).mono ?_; rintro e w' ⟨rfl, rfl⟩) | (go_at_call 71; refine (s_aluImm _ _ _ _).mono ?_; rintro e w1 ⟨rfl, hb⟩; obtain ⟨hc1, hf1⟩ := bcell hb) | (go_at_call 45; go_in) | (go_at_call 48; go_in))
  exact bodyPost_ret (v := .tuple #[I.v ⟨9, 7, cS1 c, cS1 c, 0, cAm c, 0, false⟩, .bool true]) (by simp [results, Tryz.results73, go_sem, hc1]) rfl ⟨rfl, below8 (belowA hb) (Nat.le_refl _) _ _ _ _ _ _ _ _⟩
set_option maxRecDepth 100000 in
theorem xc_1 (c : Int) (h0 : 0 ≤ c) (h1 : c ≤ 65535) (w : World) (hs : cT c = 1) :
    Calls Tryz.prog 73 #[.int .u16 c] w fun e w' => e = .returned (.tuple #[I.v ⟨9, 8, cS1 c, cS1 c, 0, cAm c, 0, false⟩, .bool true]) ∧ Below w.heap.size w w' := by
  have qt : c * 1048576 % 4294967296 / 1073741824 = cT c := by unfold cT; omega
  go_enter Tryz.func73, Tryz.ntmps73
  go_wp2_with (first | (go_at_call 65; refine (h_shortRs1 c h0 h1 _).mono ?_; rintro e w' ⟨rfl, rfl⟩) | (go_at_call 77; refine (h_amount c h0 h1 _).mono ?_; rintro e w' ⟨rfl, rfl⟩) | (go_at_call 70; refine (h_small c h0 h1 _).mono ?_; rintro e w' ⟨rfl, rfl⟩) | (go_at_call 71; refine (s_aluImm _ _ _ _).mono ?_; rintro e w1 ⟨rfl, hb⟩; obtain ⟨hc1, hf1⟩ := bcell hb) | (go_at_call 45; go_in) | (go_at_call 48; go_in))
  exact bodyPost_ret (v := .tuple #[I.v ⟨9, 8, cS1 c, cS1 c, 0, cAm c, 0, false⟩, .bool true]) (by simp [results, Tryz.results73, go_sem, hc1]) rfl ⟨rfl, below8 (belowA hb) (Nat.le_refl _) _ _ _ _ _ _ _ _⟩
set_option maxRecDepth 100000 in
theorem xc_2 (c : Int) (h0 : 0 ≤ c) (h1 : c ≤ 65535) (w : World) (hs : cT c = 2) :
    Calls Tryz.prog 73 #[.int .u16 c] w fun e w' => e = .returned (.tuple #[I.v ⟨9, 10, cS1 c, cS1 c, 0, cSmall c, 0, false⟩, .bool true]) ∧ Below w.heap.size w w' := by
  have qt : c * 1048576 % 4294967296 / 1073741824 = cT c := by unfold cT; omega
  go_enter Tryz.func73, Tryz.ntmps73
  go_wp2_with (first | (go_at_call 65; refine (h_shortRs1 c h0 h1 _).mono ?_; rintro e w' ⟨rfl, rfl⟩) | (go_at_call 77; refine (h_amount c h0 h1 _).mono ?_; rintro e w' ⟨rfl, rfl⟩) | (go_at_call 70; refine (h_small c h0 h1 _).mono ?_; rintro e w' ⟨rfl, rfl⟩) | (go_at_call 71; refine (s_aluImm _ _ _ _).mono ?_; rintro e w1 ⟨rfl, hb⟩; obtain ⟨hc1, hf1⟩ := bcell hb) | (go_at_call 45; go_in) | (go_at_call 48; go_in))
  exact bodyPost_ret (v := .tuple #[I.v ⟨9, 10, cS1 c, cS1 c, 0, cSmall c, 0, false⟩, .bool true]) (by simp [results, Tryz.results73, go_sem, hc1]) rfl ⟨rfl, below8 (belowA hb) (Nat.le_refl _) _ _ _ _ _ _ _ _⟩
set_option maxRecDepth 100000 in
theorem xc_e (c : Int) (h0 : 0 ≤ c) (h1 : c ≤ 65535) (w : World) (q0 : cT c ≠ 0) (q1 : cT c ≠ 1) (q2 : cT c ≠ 2) :
    Calls Tryz.prog 73 #[.int .u16 c] w fun e w' => e = .returned (.tuple #[(onl ⟨8, cOp c, cS1 c, cS1 c, cS2 c, 0, 0, false⟩ (cOp c)).1.v, .bool (onl ⟨8, cOp c, cS1 c, cS1 c, cS2 c, 0, 0, false⟩ (cOp c)).2]) ∧ Below w.heap.size w w' := by
  have qt : c * 1048576 % 4294967296 / 1073741824 = cT c := by unfold cT; omega
  go_enter Tryz.func73, Tryz.ntmps73
  go_wp2_with (first | (go_at_call 111; refine (h_operation c h0 h1 _).mono ?_; rintro e w' ⟨rfl, rfl⟩) | (go_at_call 65; refine (h_shortRs1 c h0 h1 _).mono ?_; rintro e w' ⟨rfl, rfl⟩) | (go_at_call 62; refine (h_shortRs2 c h0 h1 _).mono ?_; rintro e w' ⟨rfl, rfl⟩) | (go_at_call 112; refine (s_alu _ _ _ _ _).mono ?_; rintro e w1 ⟨rfl, hb⟩; obtain ⟨hc1, hf1⟩ := bcell hb) | (go_at_call 60; refine (m_only _ _ _ _ _ _ _ _ _ _).mono ?_; rintro e w2 ⟨rfl, hb2⟩; obtain ⟨hc2, hf2⟩ := bcell (belowT hb hb2)) | (go_at_call 45; go_in) | (go_at_call 48; go_in))
  exact bodyPost_ret (v := .tuple #[(onl ⟨8, cOp c, cS1 c, cS1 c, cS2 c, 0, 0, false⟩ (cOp c)).1.v, .bool (onl ⟨8, cOp c, cS1 c, cS1 c, cS2 c, 0, 0, false⟩ (cOp c)).2]) (by simp [results, Tryz.results73, go_sem, hc2]) rfl ⟨rfl, below8 (belowA (belowT hb hb2)) (Nat.le_refl _) _ _ _ _ _ _ _ _⟩
def XU (c : Int) : I × Bool := if cRd c = 2 then (onl ⟨9, 1, 2, 2, 0, cMove c, 0, false⟩ (cMove c)) else (onl ⟨1, 0, cRd c, 0, 0, cSmall c * 4096, 0, false⟩ (cSmall c * 4096))
def XC (c : Int) : I × Bool := if cT c = 0 then (⟨9, 7, cS1 c, cS1 c, 0, cAm c, 0, false⟩, true) else if cT c = 1 then (⟨9, 8, cS1 c, cS1 c, 0, cAm c, 0, false⟩, true) else if cT c = 2 then (⟨9, 10, cS1 c, cS1 c, 0, cSmall c, 0, false⟩, true) else (onl ⟨8, cOp c, cS1 c, cS1 c, cS2 c, 0, 0, false⟩ (cOp c))
theorem h_upper (c : Int) (h0 : 0 ≤ c) (h1 : c ≤ 65535) (w : World) :
    Calls Tryz.prog 72 #[.int .u16 c] w fun e w' => e = .returned (.tuple #[(XU c).1.v, .bool (XU c).2]) ∧ Below w.heap.size w w' := by
  unfold XU
  by_cases q : cRd c = 2
  · rw [if_pos q]; exact xu_2 c h0 h1 w q
  rw [if_neg q]
  exact xu_e c h0 h1 w q
theorem h_calculate (c : Int) (h0 : 0 ≤ c) (h1 : c ≤ 65535) (w : World) :
    Calls Tryz.prog 73 #[.int .u16 c] w fun e w' => e = .returned (.tuple #[(XC c).1.v, .bool (XC c).2]) ∧ Below w.heap.size w w' := by
  unfold XC
  by_cases q0 : cT c = 0
  · rw [if_pos q0]; exact xc_0 c h0 h1 w q0
  rw [if_neg q0]
  by_cases q1 : cT c = 1
  · rw [if_pos q1]; exact xc_1 c h0 h1 w q1
  rw [if_neg q1]
  by_cases q2 : cT c = 2
  · rw [if_pos q2]; exact xc_2 c h0 h1 w q2
  rw [if_neg q2]
  exact xc_e c h0 h1 w q0 q1 q2
def X0 (c : Int) : I × Bool := if cF3 c = 0 then (onl ⟨9, 1, cS2 c, 2, 0, cStack c, 0, false⟩ (cStack c)) else if cF3 c = 2 then (⟨6, 0, cS2 c, cS1 c, 0, cWord c, 4, true⟩, true) else if cF3 c = 3 then (⟨6, 0, cS2 c, cS1 c, 0, cDouble c, 8, true⟩, true) else if cF3 c = 6 then (⟨7, 0, 0, cS1 c, cS2 c, cWord c, 4, false⟩, true) else if cF3 c = 7 then (⟨7, 0, 0, cS1 c, cS2 c, cDouble c, 8, false⟩, true) else no
theorem h_first (c : Int) (h0 : 0 ≤ c) (h1 : c ≤ 65535) (w : World) :
    Calls Tryz.prog 42 #[.int .u16 c] w fun e w' => e = .returned (.tuple #[(X0 c).1.v, .bool (X0 c).2]) ∧ Below w.heap.size w w' := by
  unfold X0
  by_cases q0 : cF3 c = 0
  · rw [if_pos q0]; exact x0_0 c h0 h1 w q0
  rw [if_neg q0]
  by_cases q2 : cF3 c = 2
  · rw [if_pos q2]; exact x0_2 c h0 h1 w q2
  rw [if_neg q2]
  by_cases q3 : cF3 c = 3
  · rw [if_pos q3]; exact x0_3 c h0 h1 w q3
  rw [if_neg q3]
  by_cases q6 : cF3 c = 6
  · rw [if_pos q6]; exact x0_6 c h0 h1 w q6
  rw [if_neg q6]
  by_cases q7 : cF3 c = 7
  · rw [if_pos q7]; exact x0_7 c h0 h1 w q7
  rw [if_neg q7]
  exact x0_e c h0 h1 w q0 q2 q3 q6 q7
set_option maxRecDepth 100000 in
theorem x1_0 (c : Int) (h0 : 0 ≤ c) (h1 : c ≤ 65535) (w : World) (hs : cF3 c = 0) :
    Calls Tryz.prog 43 #[.int .u16 c] w fun e w' => e = .returned (.tuple #[I.v ⟨9, 1, cRd c, cRd c, 0, cSmall c, 0, false⟩, .bool true]) ∧ Below w.heap.size w w' := by
  go_enter Tryz.func43, Tryz.ntmps43
  go_wp2_with (first | (go_at_call 59; refine (h_f3 c h0 h1 _).mono ?_; rintro e w' ⟨rfl, rfl⟩) | (go_at_call 69; refine (h_rd c h0 h1 _).mono ?_; rintro e w' ⟨rfl, rfl⟩) | (go_at_call 70; refine (h_small c h0 h1 _).mono ?_; rintro e w' ⟨rfl, rfl⟩) | (go_at_call 61; refine (s_addi _ _ _ _).mono ?_; rintro e w1 ⟨rfl, hb⟩; obtain ⟨hc1, hf1⟩ := bcell hb) | (go_at_call 45; go_in) | (go_at_call 48; go_in))
  exact bodyPost_ret (v := .tuple #[I.v ⟨9, 1, cRd c, cRd c, 0, cSmall c, 0, false⟩, .bool true]) (by simp [results, Tryz.results43, go_sem, hc1]) rfl ⟨rfl, below8 (belowA hb) (Nat.le_refl _) _ _ _ _ _ _ _ _⟩
set_option maxRecDepth 100000 in
theorem x1_1 (c : Int) (h0 : 0 ≤ c) (h1 : c ≤ 65535) (w : World) (hs : cF3 c = 1) :
    Calls Tryz.prog 43 #[.int .u16 c] w fun e w' => e = .returned (.tuple #[(onl ⟨9, 19, cRd c, cRd c, 0, cSmall c, 0, false⟩ (cRd c)).1.v, .bool (onl ⟨9, 19, cRd c, cRd c, 0, cSmall c, 0, false⟩ (cRd c)).2]) ∧ Below w.heap.size w w' := by
  go_enter Tryz.func43, Tryz.ntmps43
  go_wp2_with (first | (go_at_call 59; refine (h_f3 c h0 h1 _).mono ?_; rintro e w' ⟨rfl, rfl⟩) | (go_at_call 69; refine (h_rd c h0 h1 _).mono ?_; rintro e w' ⟨rfl, rfl⟩) | (go_at_call 70; refine (h_small c h0 h1 _).mono ?_; rintro e w' ⟨rfl, rfl⟩) | (go_at_call 71; refine (s_aluImm _ _ _ _).mono ?_; rintro e w1 ⟨rfl, hb⟩; obtain ⟨hc1, hf1⟩ := bcell hb) | (go_at_call 60; refine (m_only _ _ _ _ _ _ _ _ _ _).mono ?_; rintro e w2 ⟨rfl, hb2⟩; obtain ⟨hc2, hf2⟩ := bcell (belowT hb hb2)) | (go_at_call 45; go_in) | (go_at_call 48; go_in))
  exact bodyPost_ret (v := .tuple #[(onl ⟨9, 19, cRd c, cRd c, 0, cSmall c, 0, false⟩ (cRd c)).1.v, .bool (onl ⟨9, 19, cRd c, cRd c, 0, cSmall c, 0, false⟩ (cRd c)).2]) (by simp [results, Tryz.results43, go_sem, hc2]) rfl ⟨rfl, below8 (belowA (belowT hb hb2)) (Nat.le_refl _) _ _ _ _ _ _ _ _⟩
set_option maxRecDepth 100000 in
theorem x1_2 (c : Int) (h0 : 0 ≤ c) (h1 : c ≤ 65535) (w : World) (hs : cF3 c = 2) :
    Calls Tryz.prog 43 #[.int .u16 c] w fun e w' => e = .returned (.tuple #[I.v ⟨9, 1, cRd c, 0, 0, cSmall c, 0, false⟩, .bool true]) ∧ Below w.heap.size w w' := by
  go_enter Tryz.func43, Tryz.ntmps43
  go_wp2_with (first | (go_at_call 59; refine (h_f3 c h0 h1 _).mono ?_; rintro e w' ⟨rfl, rfl⟩) | (go_at_call 69; refine (h_rd c h0 h1 _).mono ?_; rintro e w' ⟨rfl, rfl⟩) | (go_at_call 70; refine (h_small c h0 h1 _).mono ?_; rintro e w' ⟨rfl, rfl⟩) | (go_at_call 61; refine (s_addi _ _ _ _).mono ?_; rintro e w1 ⟨rfl, hb⟩; obtain ⟨hc1, hf1⟩ := bcell hb) | (go_at_call 45; go_in) | (go_at_call 48; go_in))
  exact bodyPost_ret (v := .tuple #[I.v ⟨9, 1, cRd c, 0, 0, cSmall c, 0, false⟩, .bool true]) (by simp [results, Tryz.results43, go_sem, hc1]) rfl ⟨rfl, below8 (belowA hb) (Nat.le_refl _) _ _ _ _ _ _ _ _⟩
set_option maxRecDepth 100000 in
theorem x1_3 (c : Int) (h0 : 0 ≤ c) (h1 : c ≤ 65535) (w : World) (hs : cF3 c = 3) :
    Calls Tryz.prog 43 #[.int .u16 c] w fun e w' => e = .returned (.tuple #[(XU c).1.v, .bool (XU c).2]) ∧ Below w.heap.size w w' := by
  go_enter Tryz.func43, Tryz.ntmps43
  go_wp2_with (first | (go_at_call 59; refine (h_f3 c h0 h1 _).mono ?_; rintro e w' ⟨rfl, rfl⟩) | (go_at_call 72; refine (h_upper c h0 h1 _).mono ?_; rintro e w1 ⟨rfl, hb⟩; obtain ⟨hc1, hf1⟩ := bcell hb) | (go_at_call 45; go_in) | (go_at_call 48; go_in))
  exact bodyPost_ret (v := .tuple #[(XU c).1.v, .bool (XU c).2]) (by simp [results, Tryz.results43, go_sem, hc1]) rfl ⟨rfl, below8 (belowA hb) (Nat.le_refl _) _ _ _ _ _ _ _ _⟩
set_option maxRecDepth 100000 in
theorem x1_4 (c : Int) (h0 : 0 ≤ c) (h1 : c ≤ 65535) (w : World) (hs : cF3 c = 4) :
    Calls Tryz.prog 43 #[.int .u16 c] w fun e w' => e = .returned (.tuple #[(XC c).1.v, .bool (XC c).2]) ∧ Below w.heap.size w w' := by
  go_enter Tryz.func43, Tryz.ntmps43
  go_wp2_with (first | (go_at_call 59; refine (h_f3 c h0 h1 _).mono ?_; rintro e w' ⟨rfl, rfl⟩) | (go_at_call 73; refine (h_calculate c h0 h1 _).mono ?_; rintro e w1 ⟨rfl, hb⟩; obtain ⟨hc1, hf1⟩ := bcell hb) | (go_at_call 45; go_in) | (go_at_call 48; go_in))
  exact bodyPost_ret (v := .tuple #[(XC c).1.v, .bool (XC c).2]) (by simp [results, Tryz.results43, go_sem, hc1]) rfl ⟨rfl, below8 (belowA hb) (Nat.le_refl _) _ _ _ _ _ _ _ _⟩
set_option maxRecDepth 100000 in
theorem x1_5 (c : Int) (h0 : 0 ≤ c) (h1 : c ≤ 65535) (w : World) (hs : cF3 c = 5) :
    Calls Tryz.prog 43 #[.int .u16 c] w fun e w' => e = .returned (.tuple #[I.v ⟨3, 0, 0, 0, 0, cJump c, 0, false⟩, .bool true]) ∧ Below w.heap.size w w' := by
  go_enter Tryz.func43, Tryz.ntmps43
  go_wp2_with (first | (go_at_call 59; refine (h_f3 c h0 h1 _).mono ?_; rintro e w' ⟨rfl, rfl⟩) | (go_at_call 74; refine (h_immJump c h0 h1 _).mono ?_; rintro e w' ⟨rfl, rfl⟩) | (go_at_call 45; go_in) | (go_at_call 48; go_in))
  exact bodyPost_ret (v := .tuple #[I.v ⟨3, 0, 0, 0, 0, cJump c, 0, false⟩, .bool true]) (by simp [results, Tryz.results43, go_sem]) rfl ⟨rfl, below1 _⟩
set_option maxRecDepth 100000 in
theorem x1_6 (c : Int) (h0 : 0 ≤ c) (h1 : c ≤ 65535) (w : World) (hs : cF3 c = 6) :
    Calls Tryz.prog 43 #[.int .u16 c] w fun e w' => e = .returned (.tuple #[I.v ⟨5, 1, 0, cS1 c, 0, cBranch c, 0, false⟩, .bool true]) ∧ Below w.heap.size w w' := by
  go_enter Tryz.func43, Tryz.ntmps43
  go_wp2_with (first | (go_at_call 59; refine (h_f3 c h0 h1 _).mono ?_; rintro e w' ⟨rfl, rfl⟩) | (go_at_call 65; refine (h_shortRs1 c h0 h1 _).mono ?_; rintro e w' ⟨rfl, rfl⟩) | (go_at_call 76; refine (h_immBranch c h0 h1 _).mono ?_; rintro e w' ⟨rfl, rfl⟩) | (go_at_call 75; refine (s_branch _ _ _ _).mono ?_; rintro e w1 ⟨rfl, hb⟩; obtain ⟨hc1, hf1⟩ := bcell hb) | (go_at_call 45; go_in) | (go_at_call 48; go_in))
  exact bodyPost_ret (v := .tuple #[I.v ⟨5, 1, 0, cS1 c, 0, cBranch c, 0, false⟩, .bool true]) (by simp [results, Tryz.results43, go_sem, hc1]) rfl ⟨rfl, below8 (belowA hb) (Nat.le_refl _) _ _ _ _ _ _ _ _⟩
set_option maxRecDepth 100000 in
theorem x1_e (c : Int) (h0 : 0 ≤ c) (h1 : c ≤ 65535) (w : World) (q0 : cF3 c ≠ 0) (q1 : cF3 c ≠ 1) (q2 : cF3 c ≠ 2) (q3 : cF3 c ≠ 3) (q4 : cF3 c ≠ 4) (q5 : cF3 c ≠ 5) (q6 : cF3 c ≠ 6) :
    Calls Tryz.prog 43 #[.int .u16 c] w fun e w' => e = .returned (.tuple #[I.v ⟨5, 2, 0, cS1 c, 0, cBranch c, 0, false⟩, .bool true]) ∧ Below w.heap.size w w' := by
  go_enter Tryz.func43, Tryz.ntmps43
  go_wp2_with (first | (go_at_call 59; refine (h_f3 c h0 h1 _).mono ?_; rintro e w' ⟨rfl, rfl⟩) | (go_at_call 65; refine (h_shortRs1 c h0 h1 _).mono ?_; rintro e w' ⟨rfl, rfl⟩) | (go_at_call 76; refine (h_immBranch c h0 h1 _).mono ?_; rintro e w' ⟨rfl, rfl⟩) | (go_at_call 75; refine (s_branch _ _ _ _).mono ?_; rintro e w1 ⟨rfl, hb⟩; obtain ⟨hc1, hf1⟩ := bcell hb) | (go_at_call 45; go_in) | (go_at_call 48; go_in))
  exact bodyPost_ret (v := .tuple #[I.v ⟨5, 2, 0, cS1 c, 0, cBranch c, 0, false⟩, .bool true]) (by simp [results, Tryz.results43, go_sem, hc1]) rfl ⟨rfl, below8 (belowA hb) (Nat.le_refl _) _ _ _ _ _ _ _ _⟩
def X1 (c : Int) : I × Bool := if cF3 c = 0 then (⟨9, 1, cRd c, cRd c, 0, cSmall c, 0, false⟩, true) else if cF3 c = 1 then (onl ⟨9, 19, cRd c, cRd c, 0, cSmall c, 0, false⟩ (cRd c)) else if cF3 c = 2 then (⟨9, 1, cRd c, 0, 0, cSmall c, 0, false⟩, true) else if cF3 c = 3 then XU c else if cF3 c = 4 then XC c else if cF3 c = 5 then (⟨3, 0, 0, 0, 0, cJump c, 0, false⟩, true) else if cF3 c = 6 then (⟨5, 1, 0, cS1 c, 0, cBranch c, 0, false⟩, true) else (⟨5, 2, 0, cS1 c, 0, cBranch c, 0, false⟩, true)
theorem h_second (c : Int) (h0 : 0 ≤ c) (h1 : c ≤ 65535) (w : World) :
    Calls Tryz.prog 43 #[.int .u16 c] w fun e w' => e = .returned (.tuple #[(X1 c).1.v, .bool (X1 c).2]) ∧ Below w.heap.size w w' := by
  unfold X1
  by_cases q0 : cF3 c = 0
  · rw [if_pos q0]; exact x1_0 c h0 h1 w q0
  rw [if_neg q0]
  by_cases q1 : cF3 c = 1
  · rw [if_pos q1]; exact x1_1 c h0 h1 w q1
  rw [if_neg q1]
  by_cases q2 : cF3 c = 2
  · rw [if_pos q2]; exact x1_2 c h0 h1 w q2
  rw [if_neg q2]
  by_cases q3 : cF3 c = 3
  · rw [if_pos q3]; exact x1_3 c h0 h1 w q3
  rw [if_neg q3]
  by_cases q4 : cF3 c = 4
  · rw [if_pos q4]; exact x1_4 c h0 h1 w q4
  rw [if_neg q4]
  by_cases q5 : cF3 c = 5
  · rw [if_pos q5]; exact x1_5 c h0 h1 w q5
  rw [if_neg q5]
  by_cases q6 : cF3 c = 6
  · rw [if_pos q6]; exact x1_6 c h0 h1 w q6
  rw [if_neg q6]
  exact x1_e c h0 h1 w q0 q1 q2 q3 q4 q5 q6
def cU (c : Int) : Int := c / 4096 % 2
set_option maxRecDepth 100000 in
theorem xm_0 (c : Int) (h0 : 0 ≤ c) (h1 : c ≤ 65535) (w : World) (hu : cU c = 1) (hd : cRd c = 0) (h2 : cR2 c = 0) :
    Calls Tryz.prog 80 #[.int .u16 c] w fun e w' => e = .returned (.tuple #[I.v ⟨12, 0, 0, 0, 0, 0, 0, false⟩, .bool true]) ∧ Below w.heap.size w w' := by
  have qu : c * 524288 % 4294967296 / 2147483648 = cU c := by unfold cU; omega
  go_enter Tryz.func80, Tryz.ntmps80
  go_wp2_with (first | (go_at_call 69; refine (h_rd c h0 h1 _).mono ?_; rintro e w' ⟨rfl, rfl⟩) | (go_at_call 81; refine (h_rs2 c h0 h1 _).mono ?_; rintro e w' ⟨rfl, rfl⟩) | (go_at_call 45; go_in) | (go_at_call 48; go_in))
  exact bodyPost_ret (v := .tuple #[I.v ⟨12, 0, 0, 0, 0, 0, 0, false⟩, .bool true]) (by simp [results, Tryz.results80, go_sem]) rfl ⟨rfl, below1 _⟩
set_option maxRecDepth 100000 in
theorem xm_1 (c : Int) (h0 : 0 ≤ c) (h1 : c ≤ 65535) (w : World) (hu : cU c = 1) (hd : cRd c ≠ 0) (h2 : cR2 c = 0) :
    Calls Tryz.prog 80 #[.int .u16 c] w fun e w' => e = .returned (.tuple #[I.v ⟨4, 0, 1, cRd c, 0, 0, 0, false⟩, .bool true]) ∧ Below w.heap.size w w' := by
  have qu : c * 524288 % 4294967296 / 2147483648 = cU c := by unfold cU; omega
  go_enter Tryz.func80, Tryz.ntmps80
  go_wp2_with (first | (go_at_call 69; refine (h_rd c h0 h1 _).mono ?_; rintro e w' ⟨rfl, rfl⟩) | (go_at_call 81; refine (h_rs2 c h0 h1 _).mono ?_; rintro e w' ⟨rfl, rfl⟩) | (go_at_call 113; refine (s_jalr _ _ _).mono ?_; rintro e w1 ⟨rfl, hb⟩; obtain ⟨hc1, hf1⟩ := bcell hb) | (go_at_call 45; go_in) | (go_at_call 48; go_in))
  exact bodyPost_ret (v := .tuple #[I.v ⟨4, 0, 1, cRd c, 0, 0, 0, false⟩, .bool true]) (by simp [results, Tryz.results80, go_sem, hc1]) rfl ⟨rfl, below8 (belowA hb) (Nat.le_refl _) _ _ _ _ _ _ _ _⟩
set_option maxRecDepth 100000 in
theorem xm_2 (c : Int) (h0 : 0 ≤ c) (h1 : c ≤ 65535) (w : World) (hu : cU c = 1) (hd : cRd c ≠ 0) (h2 : cR2 c ≠ 0) :
    Calls Tryz.prog 80 #[.int .u16 c] w fun e w' => e = .returned (.tuple #[I.v ⟨8, 1, cRd c, cRd c, cR2 c, 0, 0, false⟩, .bool true]) ∧ Below w.heap.size w w' := by
  have qu : c * 524288 % 4294967296 / 2147483648 = cU c := by unfold cU; omega
  go_enter Tryz.func80, Tryz.ntmps80
  go_wp2_with (first | (go_at_call 69; refine (h_rd c h0 h1 _).mono ?_; rintro e w' ⟨rfl, rfl⟩) | (go_at_call 81; refine (h_rs2 c h0 h1 _).mono ?_; rintro e w' ⟨rfl, rfl⟩) | (go_at_call 112; refine (s_alu _ _ _ _ _).mono ?_; rintro e w1 ⟨rfl, hb⟩; obtain ⟨hc1, hf1⟩ := bcell hb) | (go_at_call 45; go_in) | (go_at_call 48; go_in))
  exact bodyPost_ret (v := .tuple #[I.v ⟨8, 1, cRd c, cRd c, cR2 c, 0, 0, false⟩, .bool true]) (by simp [results, Tryz.results80, go_sem, hc1]) rfl ⟨rfl, below8 (belowA hb) (Nat.le_refl _) _ _ _ _ _ _ _ _⟩
set_option maxRecDepth 100000 in
theorem xm_2z (c : Int) (h0 : 0 ≤ c) (h1 : c ≤ 65535) (w : World) (hu : cU c = 1) (hd : cRd c = 0) (h2 : cR2 c ≠ 0) :
    Calls Tryz.prog 80 #[.int .u16 c] w fun e w' => e = .returned (.tuple #[I.v ⟨8, 1, 0, 0, cR2 c, 0, 0, false⟩, .bool true]) ∧ Below w.heap.size w w' := by
  have qu : c * 524288 % 4294967296 / 2147483648 = cU c := by unfold cU; omega
  go_enter Tryz.func80, Tryz.ntmps80
  go_wp2_with (first | (go_at_call 69; refine (h_rd c h0 h1 _).mono ?_; rintro e w' ⟨rfl, rfl⟩) | (go_at_call 81; refine (h_rs2 c h0 h1 _).mono ?_; rintro e w' ⟨rfl, rfl⟩) | (go_at_call 112; refine (s_alu _ _ _ _ _).mono ?_; rintro e w1 ⟨rfl, hb⟩; obtain ⟨hc1, hf1⟩ := bcell hb) | (go_at_call 45; go_in) | (go_at_call 48; go_in))
  exact bodyPost_ret (v := .tuple #[I.v ⟨8, 1, 0, 0, cR2 c, 0, 0, false⟩, .bool true]) (by simp [results, Tryz.results80, go_sem, hc1]) rfl ⟨rfl, below8 (belowA hb) (Nat.le_refl _) _ _ _ _ _ _ _ _⟩
set_option maxRecDepth 100000 in
theorem xm_3 (c : Int) (h0 : 0 ≤ c) (h1 : c ≤ 65535) (w : World) (hu : cU c = 0) (h2 : cR2 c = 0) :
    Calls Tryz.prog 80 #[.int .u16 c] w fun e w' => e = .returned (.tuple #[(onl ⟨4, 0, 0, cRd c, 0, 0, 0, false⟩ (cRd c)).1.v, .bool (onl ⟨4, 0, 0, cRd c, 0, 0, 0, false⟩ (cRd c)).2]) ∧ Below w.heap.size w w' := by
  have qu : c * 524288 % 4294967296 / 2147483648 = cU c := by unfold cU; omega
  go_enter Tryz.func80, Tryz.ntmps80
  go_wp2_with (first | (go_at_call 69; refine (h_rd c h0 h1 _).mono ?_; rintro e w' ⟨rfl, rfl⟩) | (go_at_call 81; refine (h_rs2 c h0 h1 _).mono ?_; rintro e w' ⟨rfl, rfl⟩) | (go_at_call 113; refine (s_jalr _ _ _).mono ?_; rintro e w1 ⟨rfl, hb⟩; obtain ⟨hc1, hf1⟩ := bcell hb) | (go_at_call 60; refine (m_only _ _ _ _ _ _ _ _ _ _).mono ?_; rintro e w2 ⟨rfl, hb2⟩; obtain ⟨hc2, hf2⟩ := bcell (belowT hb hb2)) | (go_at_call 45; go_in) | (go_at_call 48; go_in))
  exact bodyPost_ret (v := .tuple #[(onl ⟨4, 0, 0, cRd c, 0, 0, 0, false⟩ (cRd c)).1.v, .bool (onl ⟨4, 0, 0, cRd c, 0, 0, 0, false⟩ (cRd c)).2]) (by simp [results, Tryz.results80, go_sem, hc2]) rfl ⟨rfl, below8 (belowA (belowT hb hb2)) (Nat.le_refl _) _ _ _ _ _ _ _ _⟩
set_option maxRecDepth 100000 in
theorem xm_4 (c : Int) (h0 : 0 ≤ c) (h1 : c ≤ 65535) (w : World) (hu : cU c = 0) (h2 : cR2 c ≠ 0) :
    Calls Tryz.prog 80 #[.int .u16 c] w fun e w' => e = .returned (.tuple #[I.v ⟨8, 1, cRd c, 0, cR2 c, 0, 0, false⟩, .bool true]) ∧ Below w.heap.size w w' := by
  have qu : c * 524288 % 4294967296 / 2147483648 = cU c := by unfold cU; omega
  go_enter Tryz.func80, Tryz.ntmps80
  go_wp2_with (first | (go_at_call 69; refine (h_rd c h0 h1 _).mono ?_; rintro e w' ⟨rfl, rfl⟩) | (go_at_call 81; refine (h_rs2 c h0 h1 _).mono ?_; rintro e w' ⟨rfl, rfl⟩) | (go_at_call 112; refine (s_alu _ _ _ _ _).mono ?_; rintro e w1 ⟨rfl, hb⟩; obtain ⟨hc1, hf1⟩ := bcell hb) | (go_at_call 45; go_in) | (go_at_call 48; go_in))
  exact bodyPost_ret (v := .tuple #[I.v ⟨8, 1, cRd c, 0, cR2 c, 0, 0, false⟩, .bool true]) (by simp [results, Tryz.results80, go_sem, hc1]) rfl ⟨rfl, below8 (belowA hb) (Nat.le_refl _) _ _ _ _ _ _ _ _⟩
def XM (c : Int) : I × Bool := if cU c = 1 then (if cR2 c = 0 then (if cRd c = 0 then (⟨12, 0, 0, 0, 0, 0, 0, false⟩, true) else (⟨4, 0, 1, cRd c, 0, 0, 0, false⟩, true)) else (⟨8, 1, cRd c, cRd c, cR2 c, 0, 0, false⟩, true)) else if cR2 c = 0 then (onl ⟨4, 0, 0, cRd c, 0, 0, 0, false⟩ (cRd c)) else (⟨8, 1, cRd c, 0, cR2 c, 0, 0, false⟩, true)
theorem h_move (c : Int) (h0 : 0 ≤ c) (h1 : c ≤ 65535) (w : World) :
    Calls Tryz.prog 80 #[.int .u16 c] w fun e w' => e = .returned (.tuple #[(XM c).1.v, .bool (XM c).2]) ∧ Below w.heap.size w w' := by
  unfold XM
  by_cases hu : cU c = 1
  · rw [if_pos hu]
    by_cases h2 : cR2 c = 0
    · rw [if_pos h2]
      by_cases hd : cRd c = 0
      · rw [if_pos hd]; exact xm_0 c h0 h1 w hu hd h2
      · rw [if_neg hd]; exact xm_1 c h0 h1 w hu hd h2
    · rw [if_neg h2]
      by_cases hd : cRd c = 0
      · rw [hd]; exact xm_2z c h0 h1 w hu hd h2
      · exact xm_2 c h0 h1 w hu hd h2
  · rw [if_neg hu]
    have hu0 : cU c = 0 := by unfold cU at *; omega
    by_cases h2 : cR2 c = 0
    · rw [if_pos h2]; exact xm_3 c h0 h1 w hu0 h2
    · rw [if_neg h2]; exact xm_4 c h0 h1 w hu0 h2
set_option maxRecDepth 100000 in
theorem x2_0 (c : Int) (h0 : 0 ≤ c) (h1 : c ≤ 65535) (w : World) (hs : cF3 c = 0) :
    Calls Tryz.prog 44 #[.int .u16 c] w fun e w' => e = .returned (.tuple #[I.v ⟨9, 3, cRd c, cRd c, 0, cAm c, 0, false⟩, .bool true]) ∧ Below w.heap.size w w' := by
  go_enter Tryz.func44, Tryz.ntmps44
  go_wp2_with (first | (go_at_call 59; refine (h_f3 c h0 h1 _).mono ?_; rintro e w' ⟨rfl, rfl⟩) | (go_at_call 69; refine (h_rd c h0 h1 _).mono ?_; rintro e w' ⟨rfl, rfl⟩) | (go_at_call 77; refine (h_amount c h0 h1 _).mono ?_; rintro e w' ⟨rfl, rfl⟩) | (go_at_call 71; refine (s_aluImm _ _ _ _).mono ?_; rintro e w1 ⟨rfl, hb⟩; obtain ⟨hc1, hf1⟩ := bcell hb) | (go_at_call 45; go_in) | (go_at_call 48; go_in))
  exact bodyPost_ret (v := .tuple #[I.v ⟨9, 3, cRd c, cRd c, 0, cAm c, 0, false⟩, .bool true]) (by simp [results, Tryz.results44, go_sem, hc1]) rfl ⟨rfl, below8 (belowA hb) (Nat.le_refl _) _ _ _ _ _ _ _ _⟩
set_option maxRecDepth 100000 in
theorem x2_2 (c : Int) (h0 : 0 ≤ c) (h1 : c ≤ 65535) (w : World) (hs : cF3 c = 2) :
    Calls Tryz.prog 44 #[.int .u16 c] w fun e w' => e = .returned (.tuple #[(onl ⟨6, 0, cRd c, 2, 0, cPopW c, 4, true⟩ (cRd c)).1.v, .bool (onl ⟨6, 0, cRd c, 2, 0, cPopW c, 4, true⟩ (cRd c)).2]) ∧ Below w.heap.size w w' := by
  go_enter Tryz.func44, Tryz.ntmps44
  go_wp2_with (first | (go_at_call 59; refine (h_f3 c h0 h1 _).mono ?_; rintro e w' ⟨rfl, rfl⟩) | (go_at_call 69; refine (h_rd c h0 h1 _).mono ?_; rintro e w' ⟨rfl, rfl⟩) | (go_at_call 78; refine (h_immPopWord c h0 h1 _).mono ?_; rintro e w' ⟨rfl, rfl⟩) | (go_at_call 64; refine (s_load _ _ _ _ _).mono ?_; rintro e w1 ⟨rfl, hb⟩; obtain ⟨hc1, hf1⟩ := bcell hb) | (go_at_call 60; refine (m_only _ _ _ _ _ _ _ _ _ _).mono ?_; rintro e w2 ⟨rfl, hb2⟩; obtain ⟨hc2, hf2⟩ := bcell (belowT hb hb2)) | (go_at_call 45; go_in) | (go_at_call 48; go_in))
  exact bodyPost_ret (v := .tuple #[(onl ⟨6, 0, cRd c, 2, 0, cPopW c, 4, true⟩ (cRd c)).1.v, .bool (onl ⟨6, 0, cRd c, 2, 0, cPopW c, 4, true⟩ (cRd c)).2]) (by simp [results, Tryz.results44, go_sem, hc2]) rfl ⟨rfl, below8 (belowA (belowT hb hb2)) (Nat.le_refl _) _ _ _ _ _ _ _ _⟩
set_option maxRecDepth 100000 in
theorem x2_3 (c : Int) (h0 : 0 ≤ c) (h1 : c ≤ 65535) (w : World) (hs : cF3 c = 3) :
    Calls Tryz.prog 44 #[.int .u16 c] w fun e w' => e = .returned (.tuple #[(onl ⟨6, 0, cRd c, 2, 0, cPopD c, 8, true⟩ (cRd c)).1.v, .bool (onl ⟨6, 0, cRd c, 2, 0, cPopD c, 8, true⟩ (cRd c)).2]) ∧ Below w.heap.size w w' := by
  go_enter Tryz.func44, Tryz.ntmps44
  go_wp2_with (first | (go_at_call 59; refine (h_f3 c h0 h1 _).mono ?_; rintro e w' ⟨rfl, rfl⟩) | (go_at_call 69; refine (h_rd c h0 h1 _).mono ?_; rintro e w' ⟨rfl, rfl⟩) | (go_at_call 79; refine (h_immPopDouble c h0 h1 _).mono ?_; rintro e w' ⟨rfl, rfl⟩) | (go_at_call 64; refine (s_load _ _ _ _ _).mono ?_; rintro e w1 ⟨rfl, hb⟩; obtain ⟨hc1, hf1⟩ := bcell hb) | (go_at_call 60; refine (m_only _ _ _ _ _ _ _ _ _ _).mono ?_; rintro e w2 ⟨rfl, hb2⟩; obtain ⟨hc2, hf2⟩ := bcell (belowT hb hb2)) | (go_at_call 45; go_in) | (go_at_call 48; go_in))
  exact bodyPost_ret (v := .tuple #[(onl ⟨6, 0, cRd c, 2, 0, cPopD c, 8, true⟩ (cRd c)).1.v, .bool (onl ⟨6, 0, cRd c, 2, 0, cPopD c, 8, true⟩ (cRd c)).2]) (by simp [results, Tryz.results44, go_sem, hc2]) rfl ⟨rfl, below8 (belowA (belowT hb hb2)) (Nat.le_refl _) _ _ _ _ _ _ _ _⟩
set_option maxRecDepth 100000 in
theorem x2_4 (c : Int) (h0 : 0 ≤ c) (h1 : c ≤ 65535) (w : World) (hs : cF3 c = 4) :
    Calls Tryz.prog 44 #[.int .u16 c] w fun e w' => e = .returned (.tuple #[(XM c).1.v, .bool (XM c).2]) ∧ Below w.heap.size w w' := by
  go_enter Tryz.func44, Tryz.ntmps44
  go_wp2_with (first | (go_at_call 59; refine (h_f3 c h0 h1 _).mono ?_; rintro e w' ⟨rfl, rfl⟩) | (go_at_call 80; refine (h_move c h0 h1 _).mono ?_; rintro e w1 ⟨rfl, hb⟩; obtain ⟨hc1, hf1⟩ := bcell hb) | (go_at_call 45; go_in) | (go_at_call 48; go_in))
  exact bodyPost_ret (v := .tuple #[(XM c).1.v, .bool (XM c).2]) (by simp [results, Tryz.results44, go_sem, hc1]) rfl ⟨rfl, below8 (belowA hb) (Nat.le_refl _) _ _ _ _ _ _ _ _⟩
set_option maxRecDepth 100000 in
theorem x2_6 (c : Int) (h0 : 0 ≤ c) (h1 : c ≤ 65535) (w : World) (hs : cF3 c = 6) :
    Calls Tryz.prog 44 #[.int .u16 c] w fun e w' => e = .returned (.tuple #[I.v ⟨7, 0, 0, 2, cR2 c, cPushW c, 4, false⟩, .bool true]) ∧ Below w.heap.size w w' := by
  go_enter Tryz.func44, Tryz.ntmps44
  go_wp2_with (first | (go_at_call 59; refine (h_f3 c h0 h1 _).mono ?_; rintro e w' ⟨rfl, rfl⟩) | (go_at_call 81; refine (h_rs2 c h0 h1 _).mono ?_; rintro e w' ⟨rfl, rfl⟩) | (go_at_call 82; refine (h_immPushWord c h0 h1 _).mono ?_; rintro e w' ⟨rfl, rfl⟩) | (go_at_call 68; refine (s_store _ _ _ _ _).mono ?_; rintro e w1 ⟨rfl, hb⟩; obtain ⟨hc1, hf1⟩ := bcell hb) | (go_at_call 45; go_in) | (go_at_call 48; go_in))
  exact bodyPost_ret (v := .tuple #[I.v ⟨7, 0, 0, 2, cR2 c, cPushW c, 4, false⟩, .bool true]) (by simp [results, Tryz.results44, go_sem, hc1]) rfl ⟨rfl, below8 (belowA hb) (Nat.le_refl _) _ _ _ _ _ _ _ _⟩
set_option maxRecDepth 100000 in
theorem x2_7 (c : Int) (h0 : 0 ≤ c) (h1 : c ≤ 65535) (w : World) (hs : cF3 c = 7) :
    Calls Tryz.prog 44 #[.int .u16 c] w fun e w' => e = .returned (.tuple #[I.v ⟨7, 0, 0, 2, cR2 c, cPushD c, 8, false⟩, .bool true]) ∧ Below w.heap.size w w' := by
  go_enter Tryz.func44, Tryz.ntmps44
  go_wp2_with (first | (go_at_call 59; refine (h_f3 c h0 h1 _).mono ?_; rintro e w' ⟨rfl, rfl⟩) | (go_at_call 81; refine (h_rs2 c h0 h1 _).mono ?_; rintro e w' ⟨rfl, rfl⟩) | (go_at_call 83; refine (h_immPushDouble c h0 h1 _).mono ?_; rintro e w' ⟨rfl, rfl⟩) | (go_at_call 68; refine (s_store _ _ _ _ _).mono ?_; rintro e w1 ⟨rfl, hb⟩; obtain ⟨hc1, hf1⟩ := bcell hb) | (go_at_call 45; go_in) | (go_at_call 48; go_in))
  exact bodyPost_ret (v := .tuple #[I.v ⟨7, 0, 0, 2, cR2 c, cPushD c, 8, false⟩, .bool true]) (by simp [results, Tryz.results44, go_sem, hc1]) rfl ⟨rfl, below8 (belowA hb) (Nat.le_refl _) _ _ _ _ _ _ _ _⟩
set_option maxRecDepth 100000 in
theorem x2_e (c : Int) (h0 : 0 ≤ c) (h1 : c ≤ 65535) (w : World) (q0 : cF3 c ≠ 0) (q2 : cF3 c ≠ 2) (q3 : cF3 c ≠ 3) (q4 : cF3 c ≠ 4) (q6 : cF3 c ≠ 6) (q7 : cF3 c ≠ 7) :
    Calls Tryz.prog 44 #[.int .u16 c] w fun e w' => e = .returned (.tuple #[I.v ⟨0, 0, 0, 0, 0, 0, 0, false⟩, .bool false]) ∧ Below w.heap.size w w' := by
  go_enter Tryz.func44, Tryz.ntmps44
  go_wp2_with (first | (go_at_call 59; refine (h_f3 c h0 h1 _).mono ?_; rintro e w' ⟨rfl, rfl⟩) | (go_at_call 45; go_in) | (go_at_call 48; go_in))
  exact bodyPost_ret (v := .tuple #[I.v ⟨0, 0, 0, 0, 0, 0, 0, false⟩, .bool false]) (by simp [results, Tryz.results44, go_sem]) rfl ⟨rfl, below1 _⟩
def X2 (c : Int) : I × Bool := if cF3 c = 0 then (⟨9, 3, cRd c, cRd c, 0, cAm c, 0, false⟩, true) else if cF3 c = 2 then (onl ⟨6, 0, cRd c, 2, 0, cPopW c, 4, true⟩ (cRd c)) else if cF3 c = 3 then (onl ⟨6, 0, cRd c, 2, 0, cPopD c, 8, true⟩ (cRd c)) else if cF3 c = 4 then XM c else if cF3 c = 6 then (⟨7, 0, 0, 2, cR2 c, cPushW c, 4, false⟩, true) else if cF3 c = 7 then (⟨7, 0, 0, 2, cR2 c, cPushD c, 8, false⟩, true) else no
theorem h_third (c : Int) (h0 : 0 ≤ c) (h1 : c ≤ 65535) (w : World) :
    Calls Tryz.prog 44 #[.int .u16 c] w fun e w' => e = .returned (.tuple #[(X2 c).1.v, .bool (X2 c).2]) ∧ Below w.heap.size w w' := by
  unfold X2
  by_cases q0 : cF3 c = 0
  · rw [if_pos q0]; exact x2_0 c h0 h1 w q0
  rw [if_neg q0]
  by_cases q2 : cF3 c = 2
  · rw [if_pos q2]; exact x2_2 c h0 h1 w q2
  rw [if_neg q2]
  by_cases q3 : cF3 c = 3
  · rw [if_pos q3]; exact x2_3 c h0 h1 w q3
  rw [if_neg q3]
  by_cases q4 : cF3 c = 4
  · rw [if_pos q4]; exact x2_4 c h0 h1 w q4
  rw [if_neg q4]
  by_cases q6 : cF3 c = 6
  · rw [if_pos q6]; exact x2_6 c h0 h1 w q6
  rw [if_neg q6]
  by_cases q7 : cF3 c = 7
  · rw [if_pos q7]; exact x2_7 c h0 h1 w q7
  rw [if_neg q7]
  exact x2_e c h0 h1 w q0 q2 q3 q4 q6 q7
set_option maxRecDepth 100000 in
theorem xr_0 (c : Int) (h0 : 0 ≤ c) (h1 : c ≤ 65535) (w : World) (hs : cQ c = 0) :
    Calls Tryz.prog 28 #[.int .u16 c] w fun e w' => e = .returned (.tuple #[(X0 c).1.v, .bool (X0 c).2]) ∧ Below w.heap.size w w' := by
  go_enter Tryz.func28, Tryz.ntmps28
  go_wp2_with (first | (go_at_call 34; refine (h_quadrant c h0 h1 _).mono ?_; rintro e w' ⟨rfl, rfl⟩) | (go_at_call 42; refine (h_first c h0 h1 _).mono ?_; rintro e w1 ⟨rfl, hb⟩; obtain ⟨hc1, hf1⟩ := bcell hb) | (go_at_call 45; go_in) | (go_at_call 48; go_in))
  exact bodyPost_ret (v := .tuple #[(X0 c).1.v, .bool (X0 c).2]) (by simp [results, Tryz.results28, go_sem, hc1]) rfl ⟨rfl, below8 (belowA hb) (Nat.le_refl _) _ _ _ _ _ _ _ _⟩
set_option maxRecDepth 100000 in
theorem xr_1 (c : Int) (h0 : 0 ≤ c) (h1 : c ≤ 65535) (w : World) (hs : cQ c = 1) :
    Calls Tryz.prog 28 #[.int .u16 c] w fun e w' => e = .returned (.tuple #[(X1 c).1.v, .bool (X1 c).2]) ∧ Below w.heap.size w w' := by
  go_enter Tryz.func28, Tryz.ntmps28
  go_wp2_with (first | (go_at_call 34; refine (h_quadrant c h0 h1 _).mono ?_; rintro e w' ⟨rfl, rfl⟩) | (go_at_call 43; refine (h_second c h0 h1 _).mono ?_; rintro e w1 ⟨rfl, hb⟩; obtain ⟨hc1, hf1⟩ := bcell hb) | (go_at_call 45; go_in) | (go_at_call 48; go_in))
  exact bodyPost_ret (v := .tuple #[(X1 c).1.v, .bool (X1 c).2]) (by simp [results, Tryz.results28, go_sem, hc1]) rfl ⟨rfl, below8 (belowA hb) (Nat.le_refl _) _ _ _ _ _ _ _ _⟩
set_option maxRecDepth 100000 in
theorem xr_2 (c : Int) (h0 : 0 ≤ c) (h1 : c ≤ 65535) (w : World) (hs : cQ c = 2) :
    Calls Tryz.prog 28 #[.int .u16 c] w fun e w' => e = .returned (.tuple #[(X2 c).1.v, .bool (X2 c).2]) ∧ Below w.heap.size w w' := by
  go_enter Tryz.func28, Tryz.ntmps28
  go_wp2_with (first | (go_at_call 34; refine (h_quadrant c h0 h1 _).mono ?_; rintro e w' ⟨rfl, rfl⟩) | (go_at_call 44; refine (h_third c h0 h1 _).mono ?_; rintro e w1 ⟨rfl, hb⟩; obtain ⟨hc1, hf1⟩ := bcell hb) | (go_at_call 45; go_in) | (go_at_call 48; go_in))
  exact bodyPost_ret (v := .tuple #[(X2 c).1.v, .bool (X2 c).2]) (by simp [results, Tryz.results28, go_sem, hc1]) rfl ⟨rfl, below8 (belowA hb) (Nat.le_refl _) _ _ _ _ _ _ _ _⟩
set_option maxRecDepth 100000 in
theorem xr_e (c : Int) (h0 : 0 ≤ c) (h1 : c ≤ 65535) (w : World) (q0 : cQ c ≠ 0) (q1 : cQ c ≠ 1) (q2 : cQ c ≠ 2) :
    Calls Tryz.prog 28 #[.int .u16 c] w fun e w' => e = .returned (.tuple #[I.v ⟨0, 0, 0, 0, 0, 0, 0, false⟩, .bool false]) ∧ Below w.heap.size w w' := by
  go_enter Tryz.func28, Tryz.ntmps28
  go_wp2_with (first | (go_at_call 34; refine (h_quadrant c h0 h1 _).mono ?_; rintro e w' ⟨rfl, rfl⟩) | (go_at_call 45; go_in) | (go_at_call 48; go_in))
  exact bodyPost_ret (v := .tuple #[I.v ⟨0, 0, 0, 0, 0, 0, 0, false⟩, .bool false]) (by simp [results, Tryz.results28, go_sem]) rfl ⟨rfl, below1 _⟩
def X (c : Int) : I × Bool := if cQ c = 0 then X0 c else if cQ c = 1 then X1 c else if cQ c = 2 then X2 c else no
theorem h_read (c : Int) (h0 : 0 ≤ c) (h1 : c ≤ 65535) (w : World) :
    Calls Tryz.prog 28 #[.int .u16 c] w fun e w' => e = .returned (.tuple #[(X c).1.v, .bool (X c).2]) ∧ Below w.heap.size w w' := by
  unfold X
  by_cases q0 : cQ c = 0
  · rw [if_pos q0]; exact xr_0 c h0 h1 w q0
  rw [if_neg q0]
  by_cases q1 : cQ c = 1
  · rw [if_pos q1]; exact xr_1 c h0 h1 w q1
  rw [if_neg q1]
  by_cases q2 : cQ c = 2
  · rw [if_pos q2]; exact xr_2 c h0 h1 w q2
  rw [if_neg q2]
  exact xr_e c h0 h1 w q0 q1 q2
def expF (c : Int) : Int × Bool := if (X c).2 = true then (draftF (X c).1, true) else (0, false)
theorem m_Expand (c : Int) (h0 : 0 ≤ c) (h1 : c ≤ 65535) (w : World) (hG : G w) : Calls Tryz.prog 11 #[.int .u16 c] w fun e w' => e = .returned (.tuple #[.int .u32 (expF c).1, .bool (expF c).2]) ∧ Below w.heap.size w w' := by
  have hr := h_read c h0 h1
  cases hk : (X c).2
  · have e1 : expF c = (0, false) := if_neg (by rw [hk]; simp)
    rw [e1]
    rw [hk] at hr
    go_enter Tryz.func11, Tryz.ntmps11
    go_wp2_with (first | (go_at_call 28; refine (hr _).mono ?_; rintro e w1 ⟨rfl, hb⟩))
    go_ret2
    exact ⟨rfl, hb.alloc hb.size _⟩
  · have e1 : expF c = (draftF (X c).1, true) := if_pos hk
    rw [e1]
    rw [hk] at hr
    go_enter Tryz.func11, Tryz.ntmps11
    go_wp2_with (first | (go_at_call 28; refine (hr _).mono ?_; rintro e w1 ⟨rfl, hb⟩) | (go_at_call 25; refine (m_draft (X c).1 _ ((hG.below hb).alloc _)).mono ?_; rintro e w2 ⟨rfl, hb2⟩))
    go_ret2
    exact ⟨rfl, belowT hb (belowA hb2)⟩
def szF (c : Int) : Int := if cQ c = 3 then 4 else 2
theorem m_Size (c : Int) (h0 : 0 ≤ c) (h1 : c ≤ 65535) (w : World) : Calls Tryz.prog 13 #[.int .u16 c] w fun e w' => e = .returned (.int .i64 (szF c)) ∧ w' = w := by
  unfold szF
  by_cases q : cQ c = 3
  · rw [if_pos q]
    go_enter Tryz.func13, Tryz.ntmps13
    go_wp2_with (first | (go_at_call 34; refine (h_quadrant c h0 h1 _).mono ?_; rintro e w' ⟨rfl, rfl⟩))
    go_ret
    exact ⟨rfl, rfl⟩
  · rw [if_neg q]
    go_enter Tryz.func13, Tryz.ntmps13
    go_wp2_with (first | (go_at_call 34; refine (h_quadrant c h0 h1 _).mono ?_; rintro e w' ⟨rfl, rfl⟩))
    go_ret
    exact ⟨rfl, rfl⟩
end Go.Proofs.YtioodijiejipiaaGreatDoor
