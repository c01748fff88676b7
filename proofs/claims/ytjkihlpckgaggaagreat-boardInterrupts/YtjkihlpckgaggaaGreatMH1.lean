/- The bytes of a slot: put, writable, fits, set. -/
import Derived.Test.YtjkihlpckgaggaaGreatKA
import Derived.Test.YtjkihlpckgaggaaGreatHQ
import Derived.Great.BuildSlice
namespace Go.Proofs.YtjkihlpckgaggaaGreat.P
open Go.RowKit
open C (Only hid Still ret_bool ret_int)
set_option linter.unusedVariables false
set_option maxRecDepth 100000

theorem SpR.dn {w : World} {g : Nat} {t : TypeId} {f : Nat → Int} {N M : Nat} (h : SpR w g t f N M) (m : Nat) : SpR (w.drewN m) g t f N M := by
  obtain ⟨cur, h1, h2⟩ := h
  exact ⟨cur, h1, h2⟩
theorem only_dn {S : Nat → Prop} {a b : World} (h : Only S a b) (n : Nat) : Only S a (b.drewN n) := ⟨h.os, h.tape, h.output, h.size, h.block⟩
set_option maxHeartbeats 1000000 in
theorem s_put (w : World) (g : Nat) (t : TypeId) (f : Nat → Int) (N M : Nat) (h : SpR w g t f N M) (b off n : Nat) (v : Int) (v0 : 0 ≤ v) (v1 : v < 18446744073709551616) (hn : n ≤ 4) (h1 : off + n ≤ 256) (h2 : b + off + n ≤ N) :
    Calls Tryz.prog 63 #[.pointer (some ⟨g, b, none⟩), .int .u64 (off : Int), .int .i64 (n : Int), .int .u64 v] w fun e w' => e = .returned (.tuple #[]) ∧ SpR w' g t (C.put f (b + off) n (C.byt v)) N M ∧ Only (· = g) w w' := by
  have H := hid h
  clear h
  go_enter Tryz.func63, Tryz.ntmps63
  go_wp2_with fail
  go_loopw [11] (fun i wr => ∃ k : Nat, k ≤ n ∧ i = .int .u64 k ∧ Hid (SpR wr g t (C.put f (b + off) k (C.byt v)) N M) ∧ Hid (Only (· = g) w wr)) (fun i _ => n - (intOf i).toNat)
  case atStart => exact ⟨0, by omega, rfl, by rw [C.put_zero]; exact H, .refl w⟩
  case round =>
    obtain ⟨k, hk, rfl, HS, HO⟩ := hrel
    by_cases hlt : k < n
    · have hc := HS.out.cell (b + (off + k)) (by omega)
      have hz := HS.out.fz (b + (off + k))
      have HP : Hid (SpR (wr.setCell ⟨g, b + (off + k), none⟩ (.int .u8 (v / 256 ^ k % 256))) g t (C.put f (b + off) (k + 1) (C.byt v)) N M) := by
        have := HS.out.set (b + (off + k)) (v / 256 ^ k % 256) (by omega)
        have e := C.put_more f (b + off) k 1 (C.byt v)
        have e2 : C.put (C.put f (b + off) k (C.byt v)) (b + (off + k)) 1 (fun _ => v / 256 ^ k % 256) = C.put f (b + off) (k + 1) (C.byt v) := by
          rw [← e, ← Nat.add_assoc]
          funext j
          unfold C.put
          split
          · rename_i hj
            obtain rfl : j = b + off + k := by omega
            simp [C.byt]
          · rfl
        rw [e2] at this
        exact this
      generalize C.put f (b + off) k (C.byt v) (b + (off + k)) = y at *
      rcases (show k = 0 ∨ k = 1 ∨ k = 2 ∨ k = 3 by omega) with rfl | rfl | rfl | rfl
      all_goals
        simp only [Nat.add_zero, Int.pow_zero, Int.ediv_one, show (256 : Int) ^ 1 = 256 by decide, show (256 : Int) ^ 2 = 65536 by decide, show (256 : Int) ^ 3 = 16777216 by decide] at hc hz HP
        go_wp2
        go_roundw
        case rel => exact ⟨_, hlt, by go_num, by first | exact HP | (simpa using HP.out), HO.out.setCell (.inl rfl) _⟩
        case measure => simp [intOf]; omega
    · obtain rfl : k = n := by omega
      go_wp2
      go_returns
      exact ⟨rfl, HS.out, HO.out⟩
/-- which bits of a byte may be written -/
def mkb (o : Nat) : Int := if o = 4 then 6 else if o = 17 then 240 else if o = 18 ∨ o = 19 ∨ o = 60 then 255 else 0
theorem c_writable (o : Nat) (ho : o < 256) (w : World) : Calls Tryz.prog 238 #[.int .u64 (o : Int)] w fun e w' => e = .returned (.int .u8 (mkb o)) ∧ w' = w := by
  have HM : Hid (mkb o = if o = 4 then 6 else if o = 17 then 240 else if o = 18 ∨ o = 19 ∨ o = 60 then 255 else 0) := rfl
  generalize mkb o = m at *
  by_cases q : o = 4 ∨ o = 16 ∨ o = 17 ∨ o = 18 ∨ o = 19 ∨ o = 60
  · rcases q with rfl | rfl | rfl | rfl | rfl | rfl
    all_goals
      go_enter Tryz.func238, Tryz.ntmps238
      go_wp2
      go_ret
      exact ⟨ret_int (by rw [HM.out]; decide), rfl⟩
  · have q1 : ¬ (o : Int) = 4 := by omega
    have q2 : ¬ (o : Int) = 16 := by omega
    have q3 : ¬ (o : Int) = 17 := by omega
    have q4 : ¬ (o : Int) = 18 := by omega
    have q5 : ¬ (o : Int) = 19 := by omega
    have q6 : ¬ (o : Int) = 60 := by omega
    go_enter Tryz.func238, Tryz.ntmps238
    go_wp2
    go_ret
    exact ⟨ret_int (by rw [HM.out, if_neg (by omega), if_neg (by omega), if_neg (by omega)]), rfl⟩
/-- an offset and a size that may be asked for -/
def fitB (o z : Int) : Bool := (z == 1 || z == 2 || z == 4) && decide (o < 256) && o % z == 0
theorem c_fits (o z : Int) (o0 : 0 ≤ o) (o1 : o < 18446744073709551616) (z0 : -9223372036854775808 ≤ z) (z1 : z ≤ 9223372036854775807) (w : World) : Calls Tryz.prog 236 #[.int .u64 o, .int .i64 z] w fun e w' => e = .returned (.bool (fitB o z)) ∧ w' = w := by
  have HM : Hid (fitB o z = ((z == 1 || z == 2 || z == 4) && decide (o < 256) && o % z == 0)) := rfl
  generalize fitB o z = m at *
  by_cases q : z = 1 ∨ z = 2 ∨ z = 4
  · by_cases r : o < 256
    all_goals
      rcases q with rfl | rfl | rfl
      all_goals
        go_enter Tryz.func236, Tryz.ntmps236
        go_wp2
        go_ret
        exact ⟨ret_bool (by rw [HM.out]; simp [r] <;> omega), rfl⟩
  · have q1 : ¬ z = 1 := by omega
    have q2 : ¬ z = 2 := by omega
    have q3 : ¬ z = 4 := by omega
    go_enter Tryz.func236, Tryz.ntmps236
    go_wp2
    go_ret
    exact ⟨ret_bool (by rw [HM.out]; simp [q1, q2, q3]), rfl⟩
/-- a byte x of which the bits m are written as y's -/
def mxb (m x y : Int) : Int := bits BinOp.or IntKind.u8 (bits BinOp.andNot IntKind.u8 x m) (bits BinOp.and IntKind.u8 y m)
set_option maxHeartbeats 2000000 in
theorem s_set (w : World) (g : Nat) (t : TypeId) (f : Nat → Int) (N M : Nat) (h : SpR w g t f N M) (hf : ∀ j, Byt (f j)) (b off n : Nat) (v : Int) (v0 : 0 ≤ v) (v1 : v < 18446744073709551616) (hn : n ≤ 4) (h1 : off + n ≤ 256) (h2 : b + off + n ≤ N) :
    Calls Tryz.prog 237 #[.pointer (some ⟨g, b, none⟩), .int .u64 (off : Int), .int .i64 (n : Int), .int .u64 v] w fun e w' => e = .returned (.tuple #[]) ∧ SpR w' g t (C.put f (b + off) n (fun j => mxb (mkb (off + j)) (f (b + off + j)) (C.byt v j))) N M ∧ Only (· = g) w w' := by
  have H := hid h
  have HF := hid hf
  clear h hf
  have HW : Hid (∀ k, k < n → ∀ u, Calls Tryz.prog 238 #[.int .u64 ((off : Int) + (k : Int))] u fun e w' => e = .returned (.int .u8 (mkb (off + k))) ∧ w' = u) := fun k hk u => by
    have := c_writable (off + k) (by omega) u
    rwa [show ((off + k : Nat) : Int) = (off : Int) + (k : Int) by omega] at this
  obtain ⟨G, hG⟩ : ∃ G : Nat → Int, G = fun j => mxb (mkb (off + j)) (f (b + off + j)) (C.byt v j) := ⟨_, rfl⟩
  rw [← hG]
  have HG := hid hG
  clear hG
  go_enter Tryz.func237, Tryz.ntmps237
  go_wp2_with fail
  go_loopw [12] (fun i wr => ∃ k : Nat, k ≤ n ∧ i = .int .u64 k ∧ Hid (SpR wr g t (C.put f (b + off) k G) N M) ∧ Hid (Only (· = g) w wr)) (fun i _ => n - (intOf i).toNat)
  case atStart => exact ⟨0, by omega, rfl, by rw [C.put_zero]; exact H, .refl w⟩
  case round =>
    obtain ⟨k, hk, rfl, HS, HO⟩ := hrel
    by_cases hlt : k < n
    · have hc := HS.out.cell (b + (off + k)) (by omega)
      have hz := HS.out.fz (b + (off + k))
      rw [C.put_out _ _ _ _ _ (by omega)] at hc
      have HP : Hid (∀ m, SpR ((wr.drewN m).setCell ⟨g, b + (off + k), none⟩ (.int .u8 (mxb (mkb (off + k)) (f (b + (off + k))) (v / 256 ^ k % 256)))) g t (C.put f (b + off) (k + 1) G) N M) := fun m => by
        have := (HS.out.dn m).set (b + (off + k)) (mxb (mkb (off + k)) (f (b + (off + k))) (v / 256 ^ k % 256)) (by omega)
        have e := C.put_more f (b + off) k 1 G
        have e2 : C.put (C.put f (b + off) k G) (b + (off + k)) 1 (fun _ => mxb (mkb (off + k)) (f (b + (off + k))) (v / 256 ^ k % 256)) = C.put f (b + off) (k + 1) G := by
          rw [← e, ← Nat.add_assoc]
          funext j
          unfold C.put
          split
          · rename_i hj
            obtain rfl : j = b + off + k := by omega
            rw [HG.out]
            simp [C.byt]
          · rfl
        rw [e2] at this
        exact this
      have hw := HW.out k hlt
      obtain ⟨y0, y1⟩ := HF.out (b + (off + k))
      have m0 : 0 ≤ mkb (off + k) ∧ mkb (off + k) < 256 := by unfold mkb; split <;> (try split) <;> (try split) <;> decide
      obtain ⟨m0, m1⟩ := m0
      generalize f (b + (off + k)) = y at *
      generalize mkb (off + k) = m at *
      unfold mxb at HP
      rcases (show k = 0 ∨ k = 1 ∨ k = 2 ∨ k = 3 by omega) with rfl | rfl | rfl | rfl
      all_goals
        simp only [Nat.add_zero, Int.pow_zero, Int.ediv_one, Int.natCast_zero, Int.add_zero, show (256 : Int) ^ 1 = 256 by decide, show (256 : Int) ^ 2 = 65536 by decide, show (256 : Int) ^ 3 = 16777216 by decide] at hc hz HP hw
        go_wp2_with (go_at_call 238; refine (hw _).mono ?_; rintro e w' ⟨rfl, hw'⟩; obtain rfl := hw'.symm)
        refine wp_region_last_lit (by simp) (by kernel_rfl) (by kernel_rfl) (by kernel_rfl) ?_
        simp only [List.dropLast, List.getLast]
        repeat (go_big_quiet_step (fail))
        refine wpQuiet_nil ?_
        intro _ hwq
        obtain ⟨nq, hwq⟩ := hwq
        subst hwq
        go_wp2
        go_roundw
        case rel => exact ⟨_, hlt, by go_num, by first | exact HP.out _ | (simpa using HP.out _), (only_dn HO.out _).setCell (.inl rfl) _⟩
        case measure => simp [intOf]; omega
    · obtain rfl : k = n := by omega
      go_wp2
      go_returns
      exact ⟨rfl, HS.out, HO.out⟩
end Go.Proofs.YtjkihlpckgaggaaGreat.P
namespace Go.Proofs.YtjkihlpckgaggaaGreat.P
open Go.RowKit
open C (Only hid Still ret_bool ret_int row)
set_option linter.unusedVariables false
set_option maxRecDepth 100000

/-- a slot's bytes at its beginning -/
def sp0 (k : Int) : Nat → Int := C.put (C.put (C.put (C.put (C.put (C.put (C.put (C.put (C.put (C.put (fun _ => 0) 0 2 (C.byt 6900)) 2 2 (C.byt (4160 + k))) 6 2 (C.byt 16)) 8 4 (C.byt 4278190081)) 44 2 (C.byt 6900)) 46 2 (C.byt k)) 52 1 (C.byt 64)) 61 1 (C.byt 1)) 64 4 (C.byt 17846281)) 80 4 (C.byt 34603017)
theorem z_space : (Tryz.prog.info? 168).map (fun i => i.zero) = some (some (.agg (List.replicate 256 (Value.int .u8 0)).toArray)) := by kernel_rfl
theorem c_space : (Value.agg (List.replicate 256 (Value.int .u8 0)).toArray).cells = (row (fun _ => 0) 0 256).toArray := by rw [← C.replicate_row]; rfl
theorem u_space : Tryz.prog.underlying 168 = some (.array 256 5) := by kernel_rfl
theorem n_space : (Tryz.prog.info? 168).map (·.size) = some 256 := by kernel_rfl
theorem SpR.row {w : World} {g : Nat} {t : TypeId} {f : Nat → Int} {N : Nat} (h : SpR w g t f N N) : w.heap[g]? = some (.cells (C.row f 0 N).toArray t (0, 0)) := by
  obtain ⟨cur, h1, h2, h3, h4⟩ := h
  rw [h1]
  congr 2
  apply Array.ext'
  apply List.ext_getElem?
  intro j
  rw [Array.getElem?_toList]
  rcases Nat.lt_or_ge j N with q | q
  · rw [h4 j q]
    have := C.row_get f 0 N j q
    rw [Nat.zero_add] at this
    exact this.symm
  · rw [Array.getElem?_eq_none (by omega)]
    exact (List.getElem?_eq_none (by simpa [C.row_length] using q)).symm
theorem spR_row {w : World} {g : Nat} {t : TypeId} {f : Nat → Int} {N : Nat} (h : w.heap[g]? = some (.cells (C.row f 0 N).toArray t (0, 0))) : SpR w g t f N N :=
  ⟨_, h, by simp [C.row_length], Nat.le_refl _, fun j hj => by simpa using C.row_get f 0 N j hj⟩
theorem all_row (f : Nat → Int) (s n : Nat) : (row f s n).toArray.all (·.oneCell') = true := by
  rw [Array.all_eq_true_iff_forall_mem]
  intro v hv
  exact C.row_one f s n v (by simpa using hv)
/-- newSpace's two blocks -/
structure NS (W w : World) (f : Nat → Int) : Prop where
  a : w.heap[W.heap.size]? = some (.cells (row (fun _ => 0) 0 256).toArray 168 (0, 0))
  b : SpR w (W.heap.size + 1) 168 f 256 256
  c : Below W.heap.size W w
theorem ns_put {W w : World} {f : Nat → Int} (o z v : Int) (h : NS W w f) (o0 : 0 ≤ o) (z0 : 0 ≤ z) (z1 : z ≤ 4) (v0 : 0 ≤ v) (v1 : v < 18446744073709551616) (hs : o + z ≤ 256) :
    Calls Tryz.prog 63 #[.pointer (some ⟨W.heap.size + 1, 0, none⟩), .int .u64 o, .int .i64 z, .int .u64 v] w fun e w' => e = .returned (.tuple #[]) ∧ NS W w' (C.put f o.toNat z.toNat (C.byt v)) := by
  have := s_put w (W.heap.size + 1) 168 f 256 256 h.b 0 o.toNat z.toNat v v0 v1 (by omega) (by omega) (by omega)
  rw [Int.toNat_of_nonneg o0, Int.toNat_of_nonneg z0, Nat.zero_add] at this
  refine this.mono ?_
  rintro e w' ⟨rfl, h1, h2⟩
  exact ⟨rfl, h2.old h.a (by omega), h1, h.c.trans (h2.below _ h.c.size (fun k hk => by omega))⟩
set_option maxHeartbeats 2000000 in
theorem c_newSpace (w : World) (k : Int) (k0 : 0 ≤ k) (k1 : k < 256) : Calls Tryz.prog 47 #[.int .i64 k] w fun e w' => e = .returned (.agg (row (sp0 k) 0 256).toArray) ∧ Below w.heap.size w w' := by
  have HP : Hid (∀ w' f o z v, NS w w' f → 0 ≤ o → 0 ≤ z → z ≤ 4 → 0 ≤ v → v < 18446744073709551616 → o + z ≤ 256 → Calls Tryz.prog 63 #[.pointer (some ⟨w.heap.size + 1, 0, none⟩), .int .u64 o, .int .i64 z, .int .u64 v] w' fun e w'' => e = .returned (.tuple #[]) ∧ NS w w'' (C.put f o.toNat z.toNat (C.byt v))) := fun w' f o z v h a b c d e g => ns_put o z v h a b c d e g
  have HN : Hid (NS w ((w.alloc (.cells (row (fun _ => 0) 0 256).toArray 168)).alloc (.cells (row (fun _ => 0) 0 256).toArray 168)) (fun _ => 0)) := by
    refine ⟨?_, spR_row ?_, ((Below.refl _ _).alloc (Nat.le_refl _) _).alloc (by simp) _⟩
    · rw [Below.heap_alloc _ _ _ (by simp)]; exact heap_alloc_new w _
    · have := heap_alloc_new (w.alloc (.cells (row (fun _ => 0) 0 256).toArray 168)) (.cells (row (fun _ => 0) 0 256).toArray 168)
      simpa using this
  go_enter Tryz.func47, Tryz.ntmps47
  go_wp2_with (first
    | (with_reducible refine C.wpList_new _ c_space z_space ?_)
    | (go_at_call 63; (refine (HP.out _ _ _ _ _ HN.out (by omega) (by omega) (by omega) (by omega) (by omega) (by omega)).mono ?_); rintro e w9 ⟨rfl, hj⟩; clear HN; have HN := hid hj; clear hj)
    | ((with_reducible refine wpList_load_row rfl 168 (.tmp 3) rfl (w.heap.size + 1) ?_ 168 _ (0, 0) (.array 256 5) (show NS w _ (sp0 k) from HN.out).b.row u_space ?_ (by rw [n_space]; simp [C.row_length]) ?_); rfl; rfl)
    | ((with_reducible refine wpList_store_row rfl 168 (.tmp 2) (.tmp 19) rfl w.heap.size (row (sp0 k) 0 256).toArray ?_ ?_ 168 _ HN.out.a (by rw [n_space]; simp [C.row_length]) (by simp [C.row_length]) ?_ ?_); rfl; rfl; exact all_row _ _ _))
  have hz : (w9.setRow w.heap.size (row (sp0 k) 0 256).toArray).heap[w.heap.size]? = some (.cells (row (sp0 k) 0 256).toArray 168 (0, 0)) := setRow_heap w9 w.heap.size _ _ _ _ HN.out.a
  refine bodyPost_ret (results_cell_row rfl _ _ w.heap.size 168 _ (0, 0) (.array 256 5) rfl hz u_space rfl (by rw [n_space]; simp [C.row_length])) rfl ?_
  refine ⟨rfl, HN.out.c.trans (((Only.refl (S := (· = w.heap.size)) w9).setRow (.inl rfl) _).below _ HN.out.c.size fun x hx => by rw [hx]; exact Nat.le_refl _)⟩
end Go.Proofs.YtjkihlpckgaggaaGreat.P
