/- What Encode answers, for every instruction: the draft of a word, by its parts. New blocks alone. -/
import Derived.Test.YtlfdokkopgmfjaaGreatDoorBIR
import Derived.Test.YtlfdokkopgmfjaaGreatDoorMB1
namespace Go.Proofs.YtlfdokkopgmfjaaGreatDoor.B
open Go.RowKit
set_option linter.unusedVariables false
set_option maxRecDepth 100000
theorem under_inst : Tryz.prog.underlying 92 = some (.struct (Tryz.prog.fieldsOf 92)) := by kernel_rfl
theorem stood_inst : Tryz.prog.stoodInHeld 92 = false := by kernel_rfl
theorem run_eqI (x y : I) (w : World) : (Op.equalIn 10000 92 x.v y.v).run Tryz.prog w = .ok (eqI x y) w := by
  rw [run_equalIn_struct w 9999 92 _ _ under_inst stood_inst]
  have e : eqI x y = decide (x.kind = y.kind ∧ x.fn = y.fn ∧ x.rd = y.rd ∧ x.rs1 = y.rs1 ∧ x.rs2 = y.rs2 ∧ x.imm = y.imm ∧ x.size = y.size ∧ x.sg = y.sg) := by
    rw [Bool.eq_iff_iff]; simp [eqI, and_assoc]
  rw [e]
  go_simp
  by_cases h1 : x.kind = y.kind
  · by_cases h2 : x.fn = y.fn
    · by_cases h3 : x.rd = y.rd
      · by_cases h4 : x.rs1 = y.rs1
        · by_cases h5 : x.rs2 = y.rs2
          · by_cases h6 : x.imm = y.imm
            · by_cases h7 : x.size = y.size
              · by_cases h8 : x.sg = y.sg
                · simp [*]
                · simp [*]
              · simp [*]
            · simp [*]
          · simp [*]
        · simp [*]
      · simp [*]
    · simp [*]
  · simp [*]
theorem run_eq8 (k f d r s m z : Int) (g : Bool) (k' f' d' r' s' m' z' : Int) (g' : Bool) (w : World) :
    (Op.equalIn 10000 92 (.agg #[.int .i64 k, .int .i64 f, .int .i64 d, .int .i64 r, .int .i64 s, .int .i64 m, .int .i64 z, .bool g]) (.agg #[.int .i64 k', .int .i64 f', .int .i64 d', .int .i64 r', .int .i64 s', .int .i64 m', .int .i64 z', .bool g'])).run Tryz.prog w = .ok (eqI ⟨k, f, d, r, s, m, z, g⟩ ⟨k', f', d', r', s', m', z', g'⟩) w :=
  run_eqI ⟨k, f, d, r, s, m, z, g⟩ ⟨k', f', d', r', s', m', z', g'⟩ w
theorem m_register (n : Int) (w : World) :
    Calls Tryz.prog 97 #[.int .i64 n] w fun e w' => e = .returned (.int .u32 (reg n)) ∧ w' = w := by
  go_enter Tryz.func97, Tryz.ntmps97
  go_wp2
  go_ret
  exact ⟨ret_int (and31 n), rfl⟩
theorem im_1 (n : Int) (w : World) :
    Calls Tryz.prog 98 #[.int .i64 1, .int .i64 n] w fun e w' => e = .returned (.int .u32 (imU n)) ∧ w' = w := by
  go_enter Tryz.func98, Tryz.ntmps98
  go_wp2
  go_ret
  refine ⟨ret_int ?_, rfl⟩
  unfold imU; omega
theorem im_2 (n : Int) (w : World) :
    Calls Tryz.prog 98 #[.int .i64 2, .int .i64 n] w fun e w' => e = .returned (.int .u32 (imU n)) ∧ w' = w := by
  go_enter Tryz.func98, Tryz.ntmps98
  go_wp2
  go_ret
  refine ⟨ret_int ?_, rfl⟩
  unfold imU; omega
theorem im_3 (n : Int) (w : World) :
    Calls Tryz.prog 98 #[.int .i64 3, .int .i64 n] w fun e w' => e = .returned (.int .u32 (imJ n)) ∧ w' = w := by
  go_enter Tryz.func98, Tryz.ntmps98
  go_wp2
  go_ret
  refine ⟨ret_int ?_, rfl⟩
  have q0 : n % 4294967296 * 2048 % 4294967296 / 2147483648 * 2147483648 = n / 1048576 % 2 * 2147483648 := by omega
  have q1 : n % 4294967296 * 4096 % 4294967296 / 16777216 * 4096 = n / 4096 % 256 * 4096 := by omega
  have q2 : n % 4294967296 * 1048576 % 4294967296 / 2147483648 * 1048576 = n / 2048 % 2 * 1048576 := by omega
  have q3 : n % 4294967296 * 2097152 % 4294967296 / 4194304 * 2097152 = n / 2 % 1024 * 2097152 := by omega
  rw [← or_imJ, ← q0, ← q1, ← q2, ← q3]
theorem im_5 (n : Int) (w : World) :
    Calls Tryz.prog 98 #[.int .i64 5, .int .i64 n] w fun e w' => e = .returned (.int .u32 (imB n)) ∧ w' = w := by
  go_enter Tryz.func98, Tryz.ntmps98
  go_wp2
  go_ret
  refine ⟨ret_int ?_, rfl⟩
  have q0 : n % 4294967296 * 524288 % 4294967296 / 2147483648 * 2147483648 = n / 4096 % 2 * 2147483648 := by omega
  have q1 : n % 4294967296 * 1048576 % 4294967296 / 2147483648 * 128 = n / 2048 % 2 * 128 := by omega
  have q2 : n % 4294967296 * 2097152 % 4294967296 / 67108864 * 33554432 = n / 32 % 64 * 33554432 := by omega
  have q3 : n % 4294967296 * 134217728 % 4294967296 / 268435456 * 256 = n / 2 % 16 * 256 := by omega
  rw [← or_imB, ← q0, ← q1, ← q2, ← q3]
theorem im_7 (n : Int) (w : World) :
    Calls Tryz.prog 98 #[.int .i64 7, .int .i64 n] w fun e w' => e = .returned (.int .u32 (imS n)) ∧ w' = w := by
  go_enter Tryz.func98, Tryz.ntmps98
  go_wp2
  go_ret
  refine ⟨ret_int ?_, rfl⟩
  have q0 : n % 4294967296 * 1048576 % 4294967296 / 33554432 * 33554432 = n / 32 % 128 * 33554432 := by omega
  have q1 : n % 4294967296 * 134217728 % 4294967296 / 134217728 * 128 = n % 32 * 128 := by omega
  rw [← or_imS, ← q0, ← q1]
theorem m_immediate (k n : Int) (w : World) :
    Calls Tryz.prog 98 #[.int .i64 k, .int .i64 n] w fun e w' => e = .returned (.int .u32 (imm k n)) ∧ w' = w := by
  unfold imm
  by_cases h1 : k = 1
  · subst h1; exact im_1 n w
  by_cases h2 : k = 2
  · subst h2; exact im_2 n w
  rw [if_neg (by omega)]
  by_cases h3 : k = 3
  · subst h3; exact im_3 n w
  rw [if_neg h3]
  by_cases h5 : k = 5
  · subst h5; exact im_5 n w
  rw [if_neg h5]
  by_cases h7 : k = 7
  · subst h7; exact im_7 n w
  rw [if_neg h7]
  go_enter Tryz.func98, Tryz.ntmps98
  go_wp2
  go_ret
  exact ⟨ret_int (by unfold imI; omega), rfl⟩
set_option maxHeartbeats 1000000 in
theorem m_named (n0 : Nat) (nm : Int → I × Bool) (start : Int) (i : I) (w : World) (hG : G w) (e0 : ∀ args w, (callFunc n0 args).run Tryz.prog w = .ok (.enter n0 args) w)
    (hn : ∀ a, 0 ≤ a → a < 4294967296 → ∀ w, G w → Calls Tryz.prog n0 #[.int .u32 a] w fun e w' => e = .returned (.tuple #[(nm a).1.v, .bool (nm a).2]) ∧ Below w.heap.size w w') :
    Calls Tryz.prog 142 #[.int .u32 start, .func (.func n0) #[] #[], i.v] w fun e w' => e = .returned (.int .u32 (namedF nm start i)) ∧ Below w.heap.size w w' := by
  have heq := run_eq8
  have hGb := fun (w1 : World) (o o' : Obj) (h : Below ((w.alloc o).alloc o').heap.size ((w.alloc o).alloc o') w1) => ((hG.alloc o).alloc o').below h
  go_enter Tryz.func142, Tryz.ntmps142
  go_wp2
  go_loopw [21] (fun t wr => ∃ k : Nat, k ≤ 8 ∧ t = .int .u32 k ∧ namedF nm start i = namedL nm start i k (8 - k) ∧ Below (w.heap.size + 2) ((w.alloc (Obj.cells #[Value.int IntKind.i64 i.kind, Value.int IntKind.i64 i.fn, Value.int IntKind.i64 i.rd, Value.int IntKind.i64 i.rs1, Value.int IntKind.i64 i.rs2, Value.int IntKind.i64 i.imm, Value.int IntKind.i64 i.size, Value.bool i.sg] 92)).alloc (Obj.cells #[Value.int IntKind.i64 i.kind, Value.int IntKind.i64 i.fn, Value.int IntKind.i64 0, Value.int IntKind.i64 0, Value.int IntKind.i64 0, Value.int IntKind.i64 0, Value.int IntKind.i64 i.size, Value.bool i.sg] 92)) wr) (fun t _ => 8 - (intOf t).toNat)
  case atStart => exact ⟨0, by omega, rfl, rfl, Below.refl _ _⟩
  case round =>
    obtain ⟨k, hk, rfl, hN, hB⟩ := hrel
    have hz0 : w.heap.size + 1 < wr.heap.size := by have := hB.size; simp at this; omega
    have hGr : G wr := hGb _ _ _ (hB.mono (by simp))
    have hcw : ∀ o, wr.cell? ⟨w.heap.size + 1, o, none⟩ = #[Value.int IntKind.i64 i.kind, Value.int IntKind.i64 i.fn, Value.int IntKind.i64 0, Value.int IntKind.i64 0, Value.int IntKind.i64 0, Value.int IntKind.i64 0, Value.int IntKind.i64 i.size, Value.bool i.sg][o]? := fun o => by
      rw [hB.cell (p := ⟨w.heap.size + 1, o, none⟩) (by simp), World.cell?_alloc_at _ _ _ _ (by simp)]
    have hBW : Below w.heap.size w wr := ((below1 _).alloc (by simp) _).trans (hB.mono (by omega))
    by_cases hlt : k < 8
    · obtain ⟨m, hm⟩ : ∃ m, 8 - k = m + 1 := ⟨7 - k, by omega⟩
      have hst : namedF nm start i = if hit (nm (bits .or .u32 start ((k : Int) * 4096))) i = true then bits .or .u32 start ((k : Int) * 4096) else namedL nm start i (k + 1) m := by rw [hN, hm]; rfl
      obtain ⟨A, hA⟩ : ∃ A, A = bits .or .u32 start ((k : Int) * 4096) := ⟨_, rfl⟩
      have hA0 : 0 ≤ A := by rw [hA]; exact (or32_b _ _).1
      have hA1 : A < 4294967296 := by rw [hA]; exact (or32_b _ _).2
      rw [← hA] at hst
      have hA' := hA.symm
      have HN : Hid (namedF nm start i = if hit (nm A) i = true then A else namedL nm start i (k + 1) m) := hst
      clear hst hN hA
      have hm2 : m = 8 - (k + 1) := by omega
      cases h1 : (nm A).2
      · have hh : hit (nm A) i = false := by simp [hit, h1]
        go_wp2_with (refine (hn _ hA0 hA1 _ hGr).mono ?_; rintro e w2 ⟨rfl, hb⟩; obtain ⟨hc1, hf1⟩ := bcell hb)
        go_roundw
        case rel => exact ⟨k + 1, by omega, by go_num, by rw [HN.out, hh, hm2]; rfl, (hB.trans (hb.mono (by omega))).alloc (by have := hb.size; omega) _⟩
        case measure => simp [intOf]; omega
      · cases h2 : eqI (nm A).1 (want i)
        · have hh : hit (nm A) i = false := by simp [hit, h2]
          have h2' : eqI ⟨(nm A).1.kind, (nm A).1.fn, (nm A).1.rd, (nm A).1.rs1, (nm A).1.rs2, (nm A).1.imm, (nm A).1.size, (nm A).1.sg⟩ ⟨i.kind, i.fn, 0, 0, 0, 0, i.size, i.sg⟩ = false := h2
          go_wp2_with (refine (hn _ hA0 hA1 _ hGr).mono ?_; rintro e w2 ⟨rfl, hb⟩; obtain ⟨hc1, hf1⟩ := bcell hb; have hz1 := Nat.lt_of_lt_of_le hz0 hb.size)
          go_roundw
          case rel => exact ⟨k + 1, by omega, by go_num, by rw [HN.out, hh, hm2]; rfl, (hB.trans (hb.mono (by omega))).alloc (by have := hb.size; omega) _⟩
          case measure => simp [intOf]; omega
        · have hh : hit (nm A) i = true := by simp [hit, h1, h2]
          have h2' : eqI ⟨(nm A).1.kind, (nm A).1.fn, (nm A).1.rd, (nm A).1.rs1, (nm A).1.rs2, (nm A).1.imm, (nm A).1.size, (nm A).1.sg⟩ ⟨i.kind, i.fn, 0, 0, 0, 0, i.size, i.sg⟩ = true := h2
          go_wp2_with (refine (hn _ hA0 hA1 _ hGr).mono ?_; rintro e w2 ⟨rfl, hb⟩; obtain ⟨hc1, hf1⟩ := bcell hb; have hz1 := Nat.lt_of_lt_of_le hz0 hb.size)
          go_ret
          exact ⟨ret_int (by rw [HN.out, hh]; rfl), (belowT hBW hb).alloc (by have := hb.size; have := hBW.size; omega) _⟩
    · have hk8 : k = 8 := by omega
      subst hk8
      have h0 : namedF nm start i = 0 := hN
      clear hN
      go_wp2
      go_ret
      exact ⟨ret_int h0.symm, hBW⟩
end Go.Proofs.YtlfdokkopgmfjaaGreatDoor.B
