/- The walk of InstBack: what is written is read as that instruction; what is read is written as a word that is read the same. -/
import Derived.Test.YtedkkdjmikhejaaDoorIL
import Derived.Test.YtedkkdjmikhejaaDoorIME
namespace Go.Proofs.YtedkkdjmikhejaaDoor
open Go.RowKit
set_option linter.unusedVariables false

theorem enc_no {i : I} (h : (encF i).2 = false) : encF i = (0, false) := by
  unfold encF at *
  by_cases q : (D (draftF i)).2 = true ∧ eqI (D (draftF i)).1 i = true
  · rw [if_pos q] at h; cases h
  · rw [if_neg q]
theorem enc_yes {i : I} (h : (encF i).2 = true) : encF i = (draftF i, true) ∧ (D (draftF i)).2 = true ∧ eqI (D (draftF i)).1 i = true := by
  unfold encF at *
  by_cases q : (D (draftF i)).2 = true ∧ eqI (D (draftF i)).1 i = true
  · rw [if_pos q]; exact ⟨rfl, q⟩
  · rw [if_neg q] at h; cases h
theorem eqI8 (x y : I) (b : Bool) (h : eqI x y = b) : eqI ⟨x.kind, x.fn, x.rd, x.rs1, x.rs2, x.imm, x.size, x.sg⟩ ⟨y.kind, y.fn, y.rd, y.rs1, y.rs2, y.imm, y.size, y.sg⟩ = b := h
set_option maxHeartbeats 1000000 in
set_option maxRecDepth 100000 in
theorem bw_00 (i : I) (a : Int) (h0 : 0 ≤ a) (h1 : a < 4294967296) (w : World) (hG : G w) (he : (encF i).2 = false) (hk : (D a).2 = false) :
    Calls Tryd.prog 3 #[i.v, .int .u32 a] w fun e w' => e = .returned (.bool true) ∧ Below w.heap.size w w' := by
  have heq := run_eq8
  have g1 : ∀ {w1 : World} {o : Obj}, Below (w.alloc o).heap.size (w.alloc o) w1 → G w1 := fun hb => (hG.alloc _).below hb
  have g2 : ∀ {w1 : World} {o : Obj}, Below w.heap.size w w1 → G (w1.alloc o) := fun hb => (hG.below hb).alloc _
  have g3 : ∀ {w1 : World}, Below w.heap.size w w1 → G w1 := fun hb => hG.below hb
  have hE := m_Encode i
  have hDa := m_Decode a h0 h1
  rw [hk] at hDa
  rw [enc_no he] at hE
  clear he
  have hz := not_ok a hk
  have q0 : eqI (D a).1 I.zero = true := by rw [hz]; exact eqI_self _
  have q0' : eqI ⟨(D a).1.kind, (D a).1.fn, (D a).1.rd, (D a).1.rs1, (D a).1.rs2, (D a).1.imm, (D a).1.size, (D a).1.sg⟩ ⟨0, 0, 0, 0, 0, 0, 0, false⟩ = true := q0
  clear hz q0
  clear hk
  go_enter Tryd.func3, Tryd.ntmps3
  go_wp2_with (first | (go_at_call 6; with_reducible refine (hE _ (hG.alloc _)).mono ?_; rintro e w1 ⟨rfl, hb⟩; obtain ⟨hc1, hf1⟩ := bcell hb; have hz1 := belowS hb) | (go_at_call 7; with_reducible refine (hDa _ (g1 hb)).mono ?_; rintro e w3 ⟨rfl, hb3⟩; have hB3 := belowT (belowA hb) hb3) | (go_at_call 8; with_reducible refine (m_awake _ (g2 hB3)).mono ?_; rintro e w6 ⟨rfl, hb6⟩; have hB6 := belowT hB3 (belowA hb6)))
  go_ret
  exact ⟨rfl, hB6⟩
set_option maxHeartbeats 1000000 in
set_option maxRecDepth 100000 in
theorem bw_01 (i : I) (a : Int) (h0 : 0 ≤ a) (h1 : a < 4294967296) (w : World) (hG : G w) (he : (encF i).2 = false) (hk : (D a).2 = true) :
    Calls Tryd.prog 3 #[i.v, .int .u32 a] w fun e w' => e = .returned (.bool true) ∧ Below w.heap.size w w' := by
  have heq := run_eq8
  have g1 : ∀ {w1 : World} {o : Obj}, Below (w.alloc o).heap.size (w.alloc o) w1 → G w1 := fun hb => (hG.alloc _).below hb
  have g2 : ∀ {w1 : World} {o : Obj}, Below w.heap.size w w1 → G (w1.alloc o) := fun hb => (hG.below hb).alloc _
  have g3 : ∀ {w1 : World}, Below w.heap.size w w1 → G w1 := fun hb => hG.below hb
  have hE := m_Encode i
  have hDa := m_Decode a h0 h1
  rw [hk] at hDa
  rw [enc_no he] at hE
  clear he
  obtain ⟨f0, f1⟩ := draftF_b (D a).1
  have hE2 := m_Encode (D a).1
  rw [enc_back a h0 h1 hk] at hE2
  have hDx := m_Decode (draftF (D a).1) f0 f1
  rw [back a h0 h1 hk, hk] at hDx
  have n5 := eqI8 _ _ _ (eqI_self (D a).1)
  clear hk
  go_enter Tryd.func3, Tryd.ntmps3
  go_wp2_with (first | (go_at_call 6; with_reducible refine (hE _ (hG.alloc _)).mono ?_; rintro e w1 ⟨rfl, hb⟩; obtain ⟨hc1, hf1⟩ := bcell hb; have hz1 := belowS hb) | (go_at_call 7; with_reducible refine (hDa _ (g1 hb)).mono ?_; rintro e w3 ⟨rfl, hb3⟩; have hB3 := belowT (belowA hb) hb3) | (go_at_call 6; with_reducible refine (hE2 _ (g2 hB3)).mono ?_; rintro e w4 ⟨rfl, hb4⟩; obtain ⟨hc4, hf4⟩ := bcell hb4; have hz4 := belowS hb4; have hB4 := belowT hB3 (belowA hb4)) | (go_at_call 7; with_reducible refine (hDx _ (g3 hB4)).mono ?_; rintro e w5 ⟨rfl, hb5⟩; obtain ⟨hc5, hf5⟩ := bcell hb5; have hz5 := Nat.lt_of_lt_of_le hz4 hb5.size; have hB5 := belowT hB4 hb5) | (go_at_call 8; with_reducible refine (m_awake _ (g2 hB5)).mono ?_; rintro e w6 ⟨rfl, hb6⟩; have hB6 := belowT hB5 (belowA hb6)))
  go_ret
  exact ⟨rfl, hB6⟩
set_option maxHeartbeats 1000000 in
set_option maxRecDepth 100000 in
theorem bw_10 (i : I) (a : Int) (h0 : 0 ≤ a) (h1 : a < 4294967296) (w : World) (hG : G w) (he : (encF i).2 = true) (hk : (D a).2 = false) :
    Calls Tryd.prog 3 #[i.v, .int .u32 a] w fun e w' => e = .returned (.bool true) ∧ Below w.heap.size w w' := by
  have heq := run_eq8
  have g1 : ∀ {w1 : World} {o : Obj}, Below (w.alloc o).heap.size (w.alloc o) w1 → G w1 := fun hb => (hG.alloc _).below hb
  have g2 : ∀ {w1 : World} {o : Obj}, Below w.heap.size w w1 → G (w1.alloc o) := fun hb => (hG.below hb).alloc _
  have g3 : ∀ {w1 : World}, Below w.heap.size w w1 → G w1 := fun hb => hG.below hb
  have hE := m_Encode i
  have hDa := m_Decode a h0 h1
  rw [hk] at hDa
  obtain ⟨d0, d1⟩ := draftF_b i
  obtain ⟨n1, n2, n3⟩ := enc_yes he
  have hDi := m_Decode (draftF i) d0 d1
  rw [n1] at hE
  rw [n2] at hDi
  have n4 := eqI8 _ _ _ n3
  clear n1 n2 n3 he
  have hz := not_ok a hk
  have q0 : eqI (D a).1 I.zero = true := by rw [hz]; exact eqI_self _
  have q0' : eqI ⟨(D a).1.kind, (D a).1.fn, (D a).1.rd, (D a).1.rs1, (D a).1.rs2, (D a).1.imm, (D a).1.size, (D a).1.sg⟩ ⟨0, 0, 0, 0, 0, 0, 0, false⟩ = true := q0
  clear hz q0
  clear hk
  go_enter Tryd.func3, Tryd.ntmps3
  go_wp2_with (first | (go_at_call 6; with_reducible refine (hE _ (hG.alloc _)).mono ?_; rintro e w1 ⟨rfl, hb⟩; obtain ⟨hc1, hf1⟩ := bcell hb; have hz1 := belowS hb) | (go_at_call 7; with_reducible refine (hDi _ (g1 hb)).mono ?_; rintro e w2 ⟨rfl, hb2⟩; obtain ⟨hc2, hf2⟩ := bcell hb2; have hz2 := Nat.lt_of_lt_of_le hz1 hb2.size; have hB2 := belowT (belowA hb) hb2) | (go_at_call 7; with_reducible refine (hDa _ (g2 hB2)).mono ?_; rintro e w3 ⟨rfl, hb3⟩; have hB3 := belowT hB2 (belowA hb3)) | (go_at_call 8; with_reducible refine (m_awake _ (g2 hB3)).mono ?_; rintro e w6 ⟨rfl, hb6⟩; have hB6 := belowT hB3 (belowA hb6)))
  go_ret
  exact ⟨rfl, hB6⟩
set_option maxHeartbeats 1000000 in
set_option maxRecDepth 100000 in
theorem bw_11 (i : I) (a : Int) (h0 : 0 ≤ a) (h1 : a < 4294967296) (w : World) (hG : G w) (he : (encF i).2 = true) (hk : (D a).2 = true) :
    Calls Tryd.prog 3 #[i.v, .int .u32 a] w fun e w' => e = .returned (.bool true) ∧ Below w.heap.size w w' := by
  have heq := run_eq8
  have g1 : ∀ {w1 : World} {o : Obj}, Below (w.alloc o).heap.size (w.alloc o) w1 → G w1 := fun hb => (hG.alloc _).below hb
  have g2 : ∀ {w1 : World} {o : Obj}, Below w.heap.size w w1 → G (w1.alloc o) := fun hb => (hG.below hb).alloc _
  have g3 : ∀ {w1 : World}, Below w.heap.size w w1 → G w1 := fun hb => hG.below hb
  have hE := m_Encode i
  have hDa := m_Decode a h0 h1
  rw [hk] at hDa
  obtain ⟨d0, d1⟩ := draftF_b i
  obtain ⟨n1, n2, n3⟩ := enc_yes he
  have hDi := m_Decode (draftF i) d0 d1
  rw [n1] at hE
  rw [n2] at hDi
  have n4 := eqI8 _ _ _ n3
  clear n1 n2 n3 he
  obtain ⟨f0, f1⟩ := draftF_b (D a).1
  have hE2 := m_Encode (D a).1
  rw [enc_back a h0 h1 hk] at hE2
  have hDx := m_Decode (draftF (D a).1) f0 f1
  rw [back a h0 h1 hk, hk] at hDx
  have n5 := eqI8 _ _ _ (eqI_self (D a).1)
  clear hk
  go_enter Tryd.func3, Tryd.ntmps3
  go_wp2_with (first | (go_at_call 6; with_reducible refine (hE _ (hG.alloc _)).mono ?_; rintro e w1 ⟨rfl, hb⟩; obtain ⟨hc1, hf1⟩ := bcell hb; have hz1 := belowS hb) | (go_at_call 7; with_reducible refine (hDi _ (g1 hb)).mono ?_; rintro e w2 ⟨rfl, hb2⟩; obtain ⟨hc2, hf2⟩ := bcell hb2; have hz2 := Nat.lt_of_lt_of_le hz1 hb2.size; have hB2 := belowT (belowA hb) hb2) | (go_at_call 7; with_reducible refine (hDa _ (g2 hB2)).mono ?_; rintro e w3 ⟨rfl, hb3⟩; have hB3 := belowT hB2 (belowA hb3)) | (go_at_call 6; with_reducible refine (hE2 _ (g2 hB3)).mono ?_; rintro e w4 ⟨rfl, hb4⟩; obtain ⟨hc4, hf4⟩ := bcell hb4; have hz4 := belowS hb4; have hB4 := belowT hB3 (belowA hb4)) | (go_at_call 7; with_reducible refine (hDx _ (g3 hB4)).mono ?_; rintro e w5 ⟨rfl, hb5⟩; obtain ⟨hc5, hf5⟩ := bcell hb5; have hz5 := Nat.lt_of_lt_of_le hz4 hb5.size; have hB5 := belowT hB4 hb5) | (go_at_call 8; with_reducible refine (m_awake _ (g2 hB5)).mono ?_; rintro e w6 ⟨rfl, hb6⟩; have hB6 := belowT hB5 (belowA hb6)))
  go_ret
  exact ⟨rfl, hB6⟩
theorem bw (i : I) (a : Int) (h0 : 0 ≤ a) (h1 : a < 4294967296) (w : World) (hG : G w) :
    Calls Tryd.prog 3 #[i.v, .int .u32 a] w fun e w' => e = .returned (.bool true) ∧ Below w.heap.size w w' := by
  cases he : (encF i).2
  · cases hk : (D a).2
    · exact bw_00 i a h0 h1 w hG he hk
    · exact bw_01 i a h0 h1 w hG he hk
  · cases hk : (D a).2
    · exact bw_10 i a h0 h1 w hG he hk
    · exact bw_11 i a h0 h1 w hG he hk
end Go.Proofs.YtedkkdjmikhejaaDoor
