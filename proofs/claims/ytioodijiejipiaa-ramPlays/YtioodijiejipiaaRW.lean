/- New, Read, Write, Bytes, Fill, Clear by what a memory holds. -/
import Derived.Test.YtioodijiejipiaaRV
namespace Go.Proofs.Ytioodijiejipiaa
open Go.RowKit
set_option linter.unusedVariables false

theorem info_pc : (Try.prog.info? 77).map (fun i => (i.zero, i.size, i.bytes)) = some (some (.pointer none), 1, 8) := by kernel_rfl
theorem info_u8 : (Try.prog.info? 5).map (fun i => (i.zero, i.size, i.bytes)) = some (some (.int .u8 0), 1, 1) := by kernel_rfl
theorem u_spc : Try.prog.underlying 65 = some (.slice 77) := by kernel_rfl
/-- a byte of a number -/
def byt (v : Int) (j : Nat) : Int := v / 256 ^ j % 256
theorem byt_b (v : Int) (j : Nat) : 0 ≤ byt v j ∧ byt v j < 256 := by unfold byt; omega
theorem bstep_row (v : Int) (v0 : 0 ≤ v) (v1 : v < 18446744073709551616) : bstep v 8 = (row (byt v) 0 8).toArray := by
  have e7 : v / 72057594037927936 = v / 72057594037927936 % 256 := by omega
  show #[_, _, _, _, _, _, _, _] = _
  rw [e7]
  simp [row, byt, List.range, List.range.loop]
theorem wpList_makes {P : Program} (w : World) {ops : Array Oper} {rest : List Oper} {o : Oper} {a : Act} {Q : Exit → Act → World → Prop} (hgd : o.guard = none) (x y : Operand) (T : TypeId) (ho : o.op = .makeSlice T x y) (e : TypeId) (z : Value) (bytes : Nat)
    (ht : P.underlying T = some (.slice e)) (hi : (P.info? e).map (fun i => (i.zero, i.size, i.bytes)) = some (some z, 1, bytes)) (hzc : z.cells = #[z]) (n : Nat) (hx : a.eval x = .int .i64 n) (hy : a.eval y = .int .i64 n) (hn : n ≤ 9223372036854775807) (hby : bytes * n ≤ 281474976710656)
    (cs : Array Value) (hc : (List.replicate n z).toArray = cs)
    (h : wpList P ops Q rest (a.put o.dst (.slice (some ⟨w.heap.size, 0, none⟩) n n)) (w.alloc (.cells cs e))) : wpList P ops Q (o :: rest) a w := by
  refine wpList_plain hgd fun K hK' => ?_
  obtain ⟨i, hi1, hz, hs, hb⟩ := info_parts hi
  have hb' : (i.bytes : Int) * (n : Int) ≤ 281474976710656 := by
    have h : ((i.bytes * n : Nat) : Int) ≤ 281474976710656 := by rw [hb]; omega
    rwa [Int.natCast_mul] at h
  have hr := run_make (P := P) w T e i z ht hi1 hz .i64 .i64 n n (by omega) (Int.le_refl _) hb' (by omega)
  have hcs : madeCells z.cells ((n : Int).toNat * i.size) = cs := by
    rw [← hc, hzc, hs]
    apply Array.ext'
    simpa using toList_madeCells_one z n
  rw [hcs] at hr
  simp only [Int.toNat_natCast] at hr
  unfold Oper.wp
  simp [execOp, ho, hx, hy, hr, Result.andThen]
  exact hK' _ _ h
theorem rowz (n : Nat) : (List.replicate n (Value.int .u8 0)).toArray = (row (fun _ => 0) 0 n).toArray := by rw [replicate_row n 0]
theorem c_New (w : World) (base : Int) (n : Nat) (b0 : 0 ≤ base) (b1 : base ≤ 4503599627370496) (bm : base % 4096 = 0) (n0 : 0 < n) (n1 : n ≤ 1024) :
    Calls Try.prog 5 #[.int .u64 base, .int .i64 n] w fun e w' => ∃ p S, e = .returned (.tuple #[.pointer (some ⟨p, 0, none⟩), .int .i64 0]) ∧ Mem w' S p base n (fun _ => 0) ∧ Below w.heap.size w w' ∧ ∀ k, S k → w.heap.size ≤ k := by
  go_enter Try.func5, Try.ntmps5
  go_wp2_with (at_make; refine wpList_makes _ rfl _ _ 65 rfl 77 _ 8 u_spc info_pc rfl n rfl rfl (by omega) (by omega) _ rfl ?_)
  go_ret2
  refine ⟨w.heap.size + 1, Foot (w.heap.size + 1) w.heap.size (List.replicate n none), by simp, ⟨w.heap.size, List.replicate n none, ⟨?_, ?_, fun i _ j _ => rfl, fun i h hi => ?_, fun i j h hi _ => ?_, fun j => by simp, b0, b1, by simpa using n0, by simpa using n1⟩, by simp, fun k => Iff.rfl⟩, ?_, ?_⟩
  · rw [heap_alloc2_new]; simp
  · rw [heap_alloc2_old]; simp [ptr]
  · rw [List.getElem?_replicate] at hi; split at hi <;> simp at hi
  · rw [List.getElem?_replicate] at hi; split at hi <;> simp at hi
  · exact ((Below.refl _ _).alloc (Nat.le_refl _) _).alloc (by simp) _
  · rintro k (rfl | rfl | ⟨i, hi⟩)
    · omega
    · omega
    · rw [List.getElem?_replicate] at hi; split at hi <;> simp at hi
theorem c_bytesOf2 (v : Int) (v0 : 0 ≤ v) (v1 : v < 18446744073709551616) (w : World) :
    Calls Try.prog 32 #[.int .u64 v] w fun e w' => e = .returned (.agg #[.int .u8 (byt v 0), .int .u8 (byt v 1), .int .u8 (byt v 2), .int .u8 (byt v 3), .int .u8 (byt v 4), .int .u8 (byt v 5), .int .u8 (byt v 6), .int .u8 (byt v 7)]) ∧ Below w.heap.size w w' := by
  refine (c_bytesOf v v0 v1 w).mono fun e w' h => ⟨?_, h.2⟩
  rw [h.1, bstep_row v v0 v1]
  rfl
theorem run_cut8 (b m : Nat) (h : m ≤ 8) (h0 : 0 < m) (w : World) : (Instr.sliceAt 71 (.pointer (some ⟨b, 0, none⟩)) none (some (.int .i64 (m : Int))) none).run Try.prog w = .ok (.slice (some ⟨b, 0, none⟩) m 8) w := by
  obtain ⟨i, hi, hsz⟩ : ∃ i, Try.prog.info? 5 = some i ∧ i.size = 1 := by
    cases hq : Try.prog.info? 5 with
    | none => have := s_u8; rw [hq] at this; cases this
    | some i => have := s_u8; rw [hq] at this; exact ⟨i, rfl, by simpa using this⟩
  have h1 : (0 : Int) ≤ (m : Int) ∧ (m : Int) ≤ 8 := by omega
  simp [Instr.sliceAt, run_underlying u_a8, Instr.sureAddr, Instr.sliceBounds, Instr.sliceBound, asIntOf, sizeOf, typeInfo, hi, h1, addr_add]
  intro q; omega
end Go.Proofs.Ytioodijiejipiaa
