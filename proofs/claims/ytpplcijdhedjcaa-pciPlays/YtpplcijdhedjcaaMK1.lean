/- The document's bytes: put, get, right, bytes. -/
import Derived.Test.YtpplcijdhedjcaaKI
import Derived.Test.YtpplcijdhedjcaaKQ
import Derived.Test.YtpplcijdhedjcaaRows
import Derived.Test.YtpplcijdhedjcaaMC2
import Derived.OpenShut
import Derived.SizedLaws
import Derived.Deep.Slices
import Derived.Laws.AppendOwnNone
import Derived.Deep.QuietTactic
namespace Go.Proofs.Ytpplcijdhedjcaa
open Go.RowKit
open C (Only hid Still ret_bool ret_int row)
set_option linter.unusedVariables false
set_option maxRecDepth 100000

set_option maxHeartbeats 1000000 in
theorem d_put (w : World) (g : Nat) (t : TypeId) (f : Nat → Int) (h : SpR w g t f 256 256) (off n : Nat) (v : Int) (v0 : 0 ≤ v) (v1 : v < 18446744073709551616) (hn : n ≤ 4) (h1 : off + n ≤ 256) :
    Calls Try.prog 31 #[.slice (some ⟨g, 0, none⟩) 256 256, .int .i64 (off : Int), .int .i64 (n : Int), .int .u64 v] w fun e w' => e = .returned (.tuple #[]) ∧ SpR w' g t (C.put f off n (C.byt v)) 256 256 ∧ Only (· = g) w w' := by
  have H := hid h
  clear h
  go_enter Try.func31, Try.ntmps31
  go_wp2_with fail
  go_loopw [8] (fun i wr => ∃ k : Nat, k ≤ n ∧ i = .int .i64 k ∧ Hid (SpR wr g t (C.put f off k (C.byt v)) 256 256) ∧ Hid (Only (· = g) w wr)) (fun i _ => n - (intOf i).toNat)
  case atStart => exact ⟨0, by omega, rfl, by rw [C.put_zero]; exact H, .refl w⟩
  case round =>
    obtain ⟨k, hk, rfl, HS, HO⟩ := hrel
    by_cases hlt : k < n
    · have hc := HS.out.cell (off + k) (by omega)
      have hz := HS.out.fz (off + k)
      have HP : Hid (SpR (wr.setCell ⟨g, off + k, none⟩ (.int .u8 (v / 256 ^ k % 256))) g t (C.put f off (k + 1) (C.byt v)) 256 256) := by
        have := HS.out.set (off + k) (v / 256 ^ k % 256) (by omega)
        have e := C.put_more f off k 1 (C.byt v)
        have e2 : C.put (C.put f off k (C.byt v)) (off + k) 1 (fun _ => v / 256 ^ k % 256) = C.put f off (k + 1) (C.byt v) := by
          rw [← e]
          funext j
          unfold C.put
          split
          · rename_i hj
            obtain rfl : j = off + k := by omega
            simp [C.byt]
          · rfl
        rw [e2] at this
        exact this
      generalize C.put f off k (C.byt v) (off + k) = y at *
      rcases (show k = 0 ∨ k = 1 ∨ k = 2 ∨ k = 3 by omega) with rfl | rfl | rfl | rfl
      all_goals
        simp only [Nat.add_zero, Int.pow_zero, Int.ediv_one, show (256 : Int) ^ 1 = 256 by decide, show (256 : Int) ^ 2 = 65536 by decide, show (256 : Int) ^ 3 = 16777216 by decide] at hc hz HP
        go_wp2
        go_roundw
        case rel => exact ⟨_, hlt, by go_num, by first | exact HP | (simpa using HP.out), HO.out.setCell (.inl rfl) _⟩
        case measure => simp [intOf]; omega
    · obtain rfl : k = n := by omega
      go_wp2
      go_returns
      exact ⟨rfl, HS.out, HO.out⟩
theorem nu_up (g : Nat → Int) : ∀ n, C.nu g (n + 1) = g 0 + 256 * C.nu (fun j => g (1 + j)) n
  | 0 => by simp [C.nu]
  | n + 1 => by
    have ih := nu_up g n
    have e : C.nu g (n + 1 + 1) = C.nu g (n + 1) + g (n + 1) * 256 ^ (n + 1) := rfl
    have e2 : C.nu (fun j => g (1 + j)) (n + 1) = C.nu (fun j => g (1 + j)) n + g (1 + n) * 256 ^ n := rfl
    rw [e, ih, e2, Int.pow_succ, Nat.add_comm 1 n, Int.mul_add, Int.add_assoc]
    congr 2
    rw [Int.mul_comm (256 ^ n) 256, Int.mul_left_comm]
set_option maxHeartbeats 1000000 in
theorem d_get (w : World) (g : Nat) (t : TypeId) (f : Nat → Int) (h : SpR w g t f 256 256) (hf : ∀ j, Byt (f j)) (off n : Nat) (hn : n ≤ 4) (h1 : off + n ≤ 256) :
    Calls Try.prog 28 #[.slice (some ⟨g, 0, none⟩) 256 256, .int .i64 (off : Int), .int .i64 (n : Int)] w fun e w' => e = .returned (.int .u64 (C.nu (fun j => f (off + j)) n)) ∧ w' = w := by
  have HC : Hid (∀ k, k < n → w.cell? ⟨g, off + k, none⟩ = some (.int .u8 (f (off + k)))) := fun k hk => h.cell _ (by omega)
  clear h
  have HF := hid hf
  clear hf
  go_enter Try.func28, Try.ntmps28
  go_wp2_with fail
  go_loopw [7, 8] (fun v i wr => ∃ k : Nat, k ≤ n ∧ i = .int .i64 ((k : Int) - 1) ∧ v = .int .u64 (C.nu (fun j => f (off + k + j)) (n - k)) ∧ wr = w) (fun _ i _ => (intOf i + 1).toNat)
  case atStart => exact ⟨n, Nat.le_refl _, rfl, by rw [Nat.sub_self]; rfl, rfl⟩
  case round =>
    obtain ⟨k, hk, rfl, rfl, hw⟩ := hrel
    obtain rfl := hw.symm
    by_cases hlt : 0 < k
    · obtain ⟨m, rfl⟩ : ∃ m, k = m + 1 := ⟨k - 1, by omega⟩
      have hc := HC.out m (by omega)
      obtain ⟨hb0, hb1⟩ := HF.out (off + m)
      have hnu := C.nu_lt (fun j => f (off + (m + 1) + j)) (fun j => HF.out _) (n - (m + 1))
      have HS : Hid (C.nu (fun j => f (off + m + j)) (n - m) = f (off + m) + 256 * C.nu (fun j => f (off + (m + 1) + j)) (n - (m + 1))) := by
        have := nu_up (fun j => f (off + m + j)) (n - (m + 1))
        rw [show n - (m + 1) + 1 = n - m by omega, Nat.add_zero] at this
        show _ = _
        rw [this]
        congr 2
        apply C.nu_congr
        intro j _
        congr 1
        omega
      have hp : (256 : Int) ^ (n - (m + 1)) ≤ 16777216 := by
        rcases (show n - (m + 1) = 0 ∨ n - (m + 1) = 1 ∨ n - (m + 1) = 2 ∨ n - (m + 1) = 3 by omega) with h | h | h | h <;> rw [h] <;> decide
      obtain ⟨V, hV⟩ : ∃ V, V = C.nu (fun j => f (off + (m + 1) + j)) (n - (m + 1)) := ⟨_, rfl⟩
      rw [← hV] at hnu HS ⊢
      have n0 := hnu.1
      have n1 : V < 16777216 := by omega
      clear hnu hp hV
      generalize f (off + m) = y at *
      rw [show (((m + 1 : Nat) : Int) - 1) = (m : Int) by omega]
      go_wp2
      go_roundw
      case rel => exact ⟨m, by omega, by go_num, by rw [HS.out]; congr 1; omega, trivial⟩
      case measure => simp [intOf]
    · obtain rfl : k = 0 := by omega
      rw [Nat.sub_zero, Nat.add_zero]
      go_wp2
      go_ret
      exact ⟨rfl, rfl⟩
theorem d_right (o z : Int) (o0 : 0 ≤ o) (o1 : o < 18446744073709551616) (z0 : -9223372036854775808 ≤ z) (z1 : z ≤ 9223372036854775807) (w : World) : Calls Try.prog 27 #[.int .u64 o, .int .i64 z] w fun e w' => e = .returned (.bool (fitB o z)) ∧ w' = w := by
  have HM : Hid (fitB o z = ((z == 1 || z == 2 || z == 4) && decide (o < 256) && o % z == 0)) := rfl
  generalize fitB o z = m at *
  by_cases q : z = 1 ∨ z = 2 ∨ z = 4
  · by_cases r : o < 256
    all_goals
      rcases q with rfl | rfl | rfl
      all_goals
        go_enter Try.func27, Try.ntmps27
        go_wp2
        go_ret
        exact ⟨ret_bool (by rw [HM.out]; simp [r] <;> omega), rfl⟩
  · have q1 : ¬ z = 1 := by omega
    have q2 : ¬ z = 2 := by omega
    have q3 : ¬ z = 4 := by omega
    go_enter Try.func27, Try.ntmps27
    go_wp2
    go_ret
    exact ⟨ret_bool (by rw [HM.out]; simp [q1, q2, q3]), rfl⟩
/-- the document's bytes of a slot -/
def dtab (k c b l : Int) : Nat → Int := C.put (C.put (C.put (C.put (C.put (C.put (C.put (C.put (C.put (C.put (C.put (C.put (C.put (fun _ => 0) 0 2 (C.byt 6900)) 2 2 (C.byt (4160 + k))) 4 2 (C.byt c)) 6 2 (C.byt 16)) 8 4 (C.byt 4278190081)) 16 4 (C.byt b)) 44 2 (C.byt 6900)) 46 2 (C.byt k)) 52 1 (C.byt 64)) 60 1 (C.byt l)) 61 1 (C.byt 1)) 64 4 (C.byt 17846281)) 80 4 (C.byt 34603017)
theorem dtab_at (k c b l : Int) (j : Nat) : dtab k c b l j = if 4 ≤ j ∧ j < 6 then C.byt c (j - 4) else if 16 ≤ j ∧ j < 20 then C.byt b (j - 16) else if j = 60 then C.byt l (j - 60) else sp0 k j := by
  unfold dtab sp0 C.put
  by_cases h1 : 4 ≤ j ∧ j < 6
  · repeat (first | rw [if_neg (by omega)] | rw [if_pos (by omega)])
  · by_cases h2 : 16 ≤ j ∧ j < 20
    · repeat (first | rw [if_neg (by omega)] | rw [if_pos (by omega)])
    · by_cases h3 : j = 60
      · repeat (first | rw [if_neg (by omega)] | rw [if_pos (by omega)])
      · have e1 : ¬ (60 ≤ j ∧ j < 60 + 1) := by omega
        have e2 : ¬ (16 ≤ j ∧ j < 16 + 4) := by omega
        have e3 : ¬ (4 ≤ j ∧ j < 4 + 2) := by omega
        simp only [if_neg e1, if_neg e2, if_neg e3, if_neg h3]
theorem byt_small (x : Int) (h : Byt x) : C.byt x 0 = x ∧ C.byt x 1 = 0 := by
  obtain ⟨h0, h1⟩ := h
  unfold C.byt
  simp only [Int.pow_zero, show (256 : Int) ^ 1 = 256 by decide]
  omega
theorem dtab_tab (v : Sv) (h : SOk v) (j : Nat) : dtab v.k v.c v.base v.l j = tab v j := by
  rw [dtab_at]
  have hb1 := h.b1.1
  have hb2 := h.b2
  have hb3 := h.b3
  unfold Byt at hb1 hb2 hb3
  have e0 : C.byt v.base 0 = 0 := by unfold C.byt Sv.base; simp only [Int.pow_zero]; omega
  have e1 : C.byt v.base 1 = v.b1 := by unfold C.byt Sv.base; simp only [show (256 : Int) ^ 1 = 256 by decide]; omega
  have e2 : C.byt v.base 2 = v.b2 := by unfold C.byt Sv.base; simp only [show (256 : Int) ^ 2 = 65536 by decide]; omega
  have e3 : C.byt v.base 3 = v.b3 := by unfold C.byt Sv.base; simp only [show (256 : Int) ^ 3 = 16777216 by decide]; omega
  by_cases h1 : 4 ≤ j ∧ j < 6
  · rw [if_pos h1]
    rcases (show j = 4 ∨ j = 5 by omega) with rfl | rfl
    · exact (byt_small _ h.c.1).1
    · rw [(byt_small _ h.c.1).2]; simp [tab, sp0, C.put]
  · rw [if_neg h1]
    by_cases h2 : 16 ≤ j ∧ j < 20
    · rw [if_pos h2]
      rcases (show j = 16 ∨ j = 17 ∨ j = 18 ∨ j = 19 by omega) with rfl | rfl | rfl | rfl
      · rw [e0]; simp [tab, sp0, C.put]
      · exact e1
      · exact e2
      · exact e3
    · rw [if_neg h2]
      by_cases h3 : j = 60
      · rw [if_pos h3]
        subst h3
        exact (byt_small _ h.l).1
      · rw [if_neg h3]
        unfold tab
        rw [if_neg (by omega), if_neg (by omega), if_neg (by omega), if_neg (by omega), if_neg h3]
theorem info_u8P : (Try.prog.info? 5).map (fun i => (i.zero, i.size, i.bytes)) = some (some (.int .u8 0), 1, 1) := by kernel_rfl
theorem u_su8P : Try.prog.underlying 67 = some (.slice 5) := by kernel_rfl
/-- bytes' two blocks -/
structure NB (W w : World) (k c b l : Int) (f : Nat → Int) : Prop where
  a : w.heap[W.heap.size]? = some (.cells #[.int .i64 k, .int .u64 c, .int .u64 b, .int .u64 l] 62 (0, 0))
  b : SpR w (W.heap.size + 1) 5 f 256 256
  c : Below W.heap.size W w
theorem nb_put {W w : World} {k c b l : Int} {f : Nat → Int} (o z v : Int) (h : NB W w k c b l f) (o0 : 0 ≤ o) (z0 : 0 ≤ z) (z1 : z ≤ 4) (v0 : 0 ≤ v) (v1 : v < 18446744073709551616) (hs : o + z ≤ 256) :
    Calls Try.prog 31 #[.slice (some ⟨W.heap.size + 1, 0, none⟩) 256 256, .int .i64 o, .int .i64 z, .int .u64 v] w fun e w' => e = .returned (.tuple #[]) ∧ NB W w' k c b l (C.put f o.toNat z.toNat (C.byt v)) := by
  have := d_put w (W.heap.size + 1) 5 f h.b o.toNat z.toNat v v0 v1 (by omega) (by omega)
  rw [Int.toNat_of_nonneg o0, Int.toNat_of_nonneg z0] at this
  refine this.mono ?_
  rintro e w' ⟨rfl, h1, h2⟩
  exact ⟨rfl, h2.old h.a (by omega), h1, h.c.trans (h2.below _ h.c.size (fun k hk => by omega))⟩
set_option maxHeartbeats 2000000 in
theorem d_bytes (w : World) (k c b l : Int) (k0 : 0 ≤ k) (k1 : k ≤ 255) (c0 : 0 ≤ c) (c1 : c < 256) (b0 : 0 ≤ b) (b1 : b < 4294967296) (l0 : 0 ≤ l) (l1 : l < 256) : Calls Try.prog 29 #[.agg #[.int .i64 k, .int .u64 c, .int .u64 b, .int .u64 l]] w fun e w' => e = .returned (.slice (some ⟨w.heap.size + 1, 0, none⟩) 256 256) ∧ NB w w' k c b l (dtab k c b l) := by
  have HP : Hid (∀ w' f o z v, NB w w' k c b l f → 0 ≤ o → 0 ≤ z → z ≤ 4 → 0 ≤ v → v < 18446744073709551616 → o + z ≤ 256 → Calls Try.prog 31 #[.slice (some ⟨w.heap.size + 1, 0, none⟩) 256 256, .int .i64 o, .int .i64 z, .int .u64 v] w' fun e w'' => e = .returned (.tuple #[]) ∧ NB w w'' k c b l (C.put f o.toNat z.toNat (C.byt v))) := fun w' f o z v h a b c d e g => nb_put o z v h a b c d e g
  have HN : Hid (NB w ((w.alloc (.cells #[.int .i64 k, .int .u64 c, .int .u64 b, .int .u64 l] 62)).alloc (.cells (row (fun _ => 0) 0 256).toArray 5)) k c b l (fun _ => 0)) := by
    refine ⟨?_, spR_row ?_, ((Below.refl _ _).alloc (Nat.le_refl _) _).alloc (by simp) _⟩
    · rw [Below.heap_alloc _ _ _ (by simp)]; exact heap_alloc_new w _
    · have := heap_alloc_new (w.alloc (.cells #[.int .i64 k, .int .u64 c, .int .u64 b, .int .u64 l] 62)) (.cells (row (fun _ => 0) 0 256).toArray 5)
      simpa using this
  have HR : Hid ((List.replicate 256 (Value.int .u8 0)).toArray = (row (fun _ => 0) 0 256).toArray) := by
    show _ = _
    rw [C.replicate_row 256 0]
  have q0 : ((w.alloc (.cells #[.int .i64 k, .int .u64 c, .int .u64 b, .int .u64 l] 62)).alloc (.cells (row (fun _ => 0) 0 256).toArray 5)).cell? ⟨w.heap.size, 0, none⟩ = some (.int .i64 k) := cell_of_row _ _ 0 _ _ _ HN.out.a
  have HQ : Hid (∀ w9 f, NB w w9 k c b l f → w9.cell? ⟨w.heap.size, 0, none⟩ = some (.int .i64 k) ∧ w9.cell? ⟨w.heap.size, 1, none⟩ = some (.int .u64 c) ∧ w9.cell? ⟨w.heap.size, 2, none⟩ = some (.int .u64 b) ∧ w9.cell? ⟨w.heap.size, 3, none⟩ = some (.int .u64 l)) := fun w9 f h => ⟨cell_of_row _ _ 0 _ _ _ h.a, cell_of_row _ _ 1 _ _ _ h.a, cell_of_row _ _ 2 _ _ _ h.a, cell_of_row _ _ 3 _ _ _ h.a⟩
  clear q0
  go_enter Try.func29, Try.ntmps29
  go_wp2_with (first
    | (with_reducible refine C.wpList_makes _ rfl (.const (.int .i64 256)) (.const (.int .i64 256)) 67 rfl 5 (.int .u8 0) 1 u_su8P info_u8P rfl 256 rfl rfl (by decide) (by decide) (row (fun _ => 0) 0 256).toArray HR.out ?_)
    | (go_at_call 31; (refine (HP.out _ _ _ _ _ HN.out (by omega) (by omega) (by omega) (by omega) (by omega) (by omega)).mono ?_); rintro e w9 ⟨rfl, hj⟩; obtain ⟨y0, y1, y2, y3⟩ := HQ.out w9 _ hj; clear HN; have HN := hid hj; clear hj))
  go_ret
  exact ⟨rfl, HN.out⟩
end Go.Proofs.Ytpplcijdhedjcaa
namespace Go.Proofs.Ytpplcijdhedjcaa
open Go.RowKit
open C (Only hid Still ret_bool ret_int row)
set_option linter.unusedVariables false
set_option maxRecDepth 100000

theorem info_Slot : (Try.prog.info? 62).map (fun i => (i.zero, i.size, i.bytes)) = some (some (.agg #[.int .i64 0, .int .u64 0, .int .u64 0, .int .u64 0]), 4, 32) := by kernel_rfl
theorem u_sSlot : Try.prog.underlying 36 = some (.slice 62) := by kernel_rfl
/-- the document's slots, cell by cell -/
def sc (V : Nat → Sv) (j : Nat) : Value := if j % 4 = 0 then .int .i64 (V (j / 4)).k else if j % 4 = 1 then .int .u64 (V (j / 4)).c else if j % 4 = 2 then .int .u64 (V (j / 4)).base else .int .u64 (V (j / 4)).l
def slc (V : Nat → Sv) (n : Nat) : List Value := (List.range (n * 4)).map (sc V)
theorem slc_len (V : Nat → Sv) (n : Nat) : (slc V n).length = n * 4 := by simp [slc]
theorem slc_at (V : Nat → Sv) (n j : Nat) (h : j < n * 4) : (slc V n)[j]? = some (sc V j) := by simp [slc, h]
theorem slc_next (V : Nat → Sv) (n : Nat) : slc V (n + 1) = slc V n ++ [.int .i64 (V n).k, .int .u64 (V n).c, .int .u64 (V n).base, .int .u64 (V n).l] := by
  unfold slc
  rw [Nat.succ_mul, List.range_add, List.map_append]
  congr 1
  have h0 : sc V (n * 4 + 0) = .int .i64 (V n).k := by unfold sc; rw [if_pos (by omega), show (n * 4 + 0) / 4 = n by omega]
  have h1 : sc V (n * 4 + 1) = .int .u64 (V n).c := by unfold sc; rw [if_neg (by omega), if_pos (by omega), show (n * 4 + 1) / 4 = n by omega]
  have h2 : sc V (n * 4 + 2) = .int .u64 (V n).base := by unfold sc; rw [if_neg (by omega), if_neg (by omega), if_pos (by omega), show (n * 4 + 2) / 4 = n by omega]
  have h3 : sc V (n * 4 + 3) = .int .u64 (V n).l := by unfold sc; rw [if_neg (by omega), if_neg (by omega), if_neg (by omega), show (n * 4 + 3) / 4 = n by omega]
  show [sc V (n * 4 + 0), sc V (n * 4 + 1), sc V (n * 4 + 2), sc V (n * 4 + 3)] = _
  rw [h0, h1, h2, h3]
/-- the document's bus -/
structure Dx (w : World) (p : Nat) (u : Value) (n : Nat) (V : Nat → Sv) : Prop where
  top : w.heap[p]? = some (.cells #[u] 38 (0, 0))
  own : w.ownsRow 0 62 4 u n (slc V n)
theorem dx_grow {w0 w3 : World} {p j : Nat} {u v : Value} {V : Nat → Sv} {kk : Int} (ht : w0.heap[p]? = some (.cells #[u] 38 (0, 0))) (ho : w0.ownsRow 0 62 4 u j (slc V j)) (m1 : w3.ownsRow 0 62 4 v (j + 1) (slc V j ++ [.int .i64 kk, .int .u64 0, .int .u64 0, .int .u64 0])) (m2 : Only (Ug u) w0 w3) (hk : V j = sv0 kk) : Dx (w3.setCell ⟨p, 0, none⟩ v) p v (j + 1) V := by
  have t3 := m2.old ht (fun z => own_ne ho ht (by decide) p z rfl)
  have e := slc_next V j
  rw [hk] at e
  rw [show ([.int .i64 kk, .int .u64 0, .int .u64 0, .int .u64 0] : List Value) = [.int .i64 (sv0 kk).k, .int .u64 (sv0 kk).c, .int .u64 (sv0 kk).base, .int .u64 (sv0 kk).l] from rfl, ← e] at m1
  exact ⟨setRowB w3 p 0 _ _ _ _ t3 rfl, own_only m1 (only_c w3 p 0 v) (own_ne m1 t3 (by decide))⟩
def ME (w0 : World) (u : Value) (j : Nat) (V : Nat → Sv) (kk : Int) (p : Nat) : Nat → Value × Value → World → Prop
  | 0, _, w => w = w0
  | 1, x, w => x.1 = .slice (some ⟨w0.heap.size, 0, none⟩) 1 1 ∧ w = w0.alloc (.cells #[.int .i64 kk, .int .u64 0, .int .u64 0, .int .u64 0] 62)
  | 2, x, w => w.ownsRow 0 62 4 x.2 (j + 1) (slc V j ++ [.int .i64 kk, .int .u64 0, .int .u64 0, .int .u64 0]) ∧ Only (Ug u) w0 w ∧ ∀ k, Ug x.2 k → Ug u k ∨ w0.heap.size ≤ k
  | 3, x, w => ∃ w3 : World, w3.ownsRow 0 62 4 x.2 (j + 1) (slc V j ++ [.int .i64 kk, .int .u64 0, .int .u64 0, .int .u64 0]) ∧ Only (Ug u) w0 w3 ∧ (∀ k, Ug x.2 k → Ug u k ∨ w0.heap.size ≤ k) ∧ w = w3.setCell ⟨p, 0, none⟩ x.2
  | _ + 4, _, _ => False
set_option maxHeartbeats 4000000 in
theorem d_New (W : World) (ad : Option Addr) (n cap b o : Nat) (K : Nat → Int) (hL : Ls W ad n cap b o K) (n8 : n ≤ 8) (hK : ∀ j, j < n → 0 ≤ K j ∧ K j ≤ 255) : Calls Try.prog 9 #[.slice ad n cap] W fun e w' => e = .returned (.tuple #[.pointer (some ⟨W.heap.size, 0, none⟩), .int .i64 0]) ∧ ∃ u, Dx w' W.heap.size u n (fun i => sv0 (K i)) ∧ Below W.heap.size W w' ∧ ∀ k, Ug u k → W.heap.size ≤ k := by
  have HL := hid hL
  have HK := hid hK
  clear hL hK
  obtain ⟨V, hV⟩ : ∃ V : Nat → Sv, V = fun i => sv0 (K i) := ⟨_, rfl⟩
  rw [← hV]
  have HV := hid hV
  clear hV
  go_enter Try.func9, Try.ntmps9
  go_wp2_with fail
  obtain ⟨p, hp⟩ : ∃ p, p = W.heap.size := ⟨_, rfl⟩
  rw [← hp]
  have HPp := hid hp
  have HB0 : Hid (Dx (W.alloc (.cells #[.slice none 0 0] 38)) p (.slice none 0 0) 0 V) := by
    rw [HPp.out]
    exact ⟨heap_alloc_new W _, rfl, .inl ⟨rfl, rfl⟩⟩
  have HW0 : Hid (Below W.heap.size W (W.alloc (.cells #[.slice none 0 0] 38))) := (Below.refl _ _).alloc (Nat.le_refl _) _
  clear hp
  generalize W.alloc (.cells #[.slice none 0 0] 38) = w00 at *
  go_loopw [5] (fun i wr => ∃ (j : Nat) (u : Value), j ≤ n ∧ i = .int .i64 j ∧ Hid (Dx wr p u j V) ∧ Hid (Below W.heap.size W wr) ∧ Hid (∀ k, Ug u k → W.heap.size ≤ k)) (fun i _ => n - (intOf i).toNat)
  case atStart => exact ⟨0, .slice none 0 0, by omega, rfl, HB0, HW0, fun k hk => by cases hk⟩
  case round =>
    obtain ⟨j, u, hj, rfl, HB, HBW, HFR⟩ := hrel
    by_cases hlt : j < n
    · obtain ⟨rfl, hbl⟩ := HL.out.at0 (by omega)
      have HBL := hid hbl
      clear hbl
      have hcl := HL.out.len
      have hcc := HL.out.cap
      have hc : wr.cell? ⟨b, o + j, none⟩ = some (.int .i64 (K j)) := (HL.out.below HBW.out).cell j hlt
      obtain ⟨k0, k1⟩ := HK.out j hlt
      obtain ⟨kk, hkk⟩ : ∃ kk, K j = kk := ⟨_, rfl⟩
      rw [hkk] at hc k0 k1
      have HVj : Hid (V j = sv0 kk) := by show _ = _; rw [HV.out, ← hkk]
      clear hkk
      go_wp2
      refine wp_region_any (by kernel_rfl) ?_
      obtain ⟨w0, hw0⟩ : ∃ w0, w0 = wr.drew := ⟨_, rfl⟩
      rw [show ({ wr with drawn := wr.drawn + 1 } : World) = w0 from hw0.symm]
      have HTP : Hid (w0.heap[p]? = some (.cells #[u] 38 (0, 0))) := by rw [hw0]; exact HB.out.top
      have HOW : Hid (w0.ownsRow 0 62 4 u j (slc V j)) := by rw [hw0]; exact own_below HB.out.own (Below.refl _ _).drew
      have HDR : Hid (Only (fun _ => False) wr w0) := by rw [hw0]; exact (Only.refl wr).drew
      have HCL : Hid (w0.cell? ⟨b, o + j, none⟩ = some (.int .i64 kk)) := by rw [hw0]; exact hc
      clear hw0
      have HLD : Hid (∀ s x w, s ≤ 2 → ME w0 u j V kk p s x w → w.cell? ⟨p, 0, none⟩ = some u ∧ w.cell? ⟨b, o + j, none⟩ = some (.int .i64 kk)) := fun s x w hs hm => by
        have hd := own_ne HOW.out HTP.out (by decide)
        have hbw : b < w0.heap.size := Nat.lt_of_lt_of_le HBL.out (Nat.le_trans HBW.out.size HDR.out.size)
        have hbu : ¬ Ug u b := fun z => by have := HFR.out b z; have := HBL.out; omega
        match s, hm with
        | 0, hm => rw [show w = w0 from hm]; exact ⟨cell_of_row w0 p 0 _ _ _ HTP.out, HCL.out⟩
        | 1, ⟨m2, m3⟩ =>
          rw [m3]
          have hbl : Below w0.heap.size w0 (w0.alloc (.cells #[.int .i64 kk, .int .u64 0, .int .u64 0, .int .u64 0] 62)) := (Below.refl _ _).alloc (Nat.le_refl _) _
          exact ⟨cell_of_row _ p 0 _ _ _ ((Only.ofBelow (S := fun _ => False) hbl).old HTP.out fun z => z), ((Only.ofBelow (S := fun _ => False) hbl).cell (o + j) hbw fun z => z).trans HCL.out⟩
        | 2, ⟨m1, m2, m3⟩ => exact ⟨cell_of_row w p 0 _ _ _ (m2.old HTP.out fun z => hd p z rfl), (m2.cell (o + j) hbw hbu).trans HCL.out⟩
      refine wpAny_fx (α := Value × Value) (fun x => fun dd => if dd = 29 then .pointer (some ⟨p, 0, none⟩) else if dd = 30 then .pointer (some ⟨p, 0, none⟩) else if dd = 31 then .pointer (some ⟨p, 0, none⟩) else if dd = 32 then .pointer (some ⟨p, 0, none⟩) else if dd = 33 then u else if dd = 34 then .slice (some ⟨b, o, none⟩) n cap else if dd = 35 then .int .i64 (j : Int) else if dd = 36 then .pointer (some ⟨b, o + j, none⟩) else if dd = 37 then .int .i64 kk else if dd = 38 then .agg #[.int .i64 kk, .int .u64 0, .int .u64 0, .int .u64 0] else if dd = 39 then x.1 else if dd = 40 then x.2 else if dd = 41 then .pointer (some ⟨p, 0, none⟩) else if dd = 42 then .pointer (some ⟨p, 0, none⟩) else undef) (VL [10, 11, 14] 14 12 (ME w0 u j V kk p)) ?step ?fin (.bool true, .bool true) ?start
      case start => exact .start rfl
      case step =>
        rintro listed fr wr x hF hW i hj
        obtain ⟨hl, o, ho, he⟩ := mem_ready.1 hj
        have hjl : i < listed.size := by rw [hF.ls]; exact (Array.getElem?_eq_some_iff.1 ho).1
        have hl0 := getD_tf hjl hl
        clear hj
        have HF := hid hF
        have HW := hid hW
        have HE := hid he
        clear hF hW he hl
        match i, ho with
        | 0, ho =>
          obtain rfl := Option.some.inj ho
          have e4 : fr.tmps[4]?.getD undef = .pointer (some ⟨p, 0, none⟩) := HF.out.base 4 (by kernel_rfl) rfl
          exact wp_q rfl rfl (by simp [execOp, go_sem, e4]; try rfl) ⟨x, HF.out.put (by kernel_rfl) rfl rfl rfl (of_decide_eq_true rfl), HW.out.q hjl (by decide) (by decide)⟩
        | 1, ho =>
          obtain rfl := Option.some.inj ho
          have e4 : fr.tmps[4]?.getD undef = .pointer (some ⟨p, 0, none⟩) := HF.out.base 4 (by kernel_rfl) rfl
          exact wp_q rfl rfl (by simp [execOp, go_sem, e4]; try rfl) ⟨x, HF.out.put (by kernel_rfl) rfl rfl rfl (of_decide_eq_true rfl), HW.out.q hjl (by decide) (by decide)⟩
        | 2, ho =>
          obtain rfl := Option.some.inj ho
          have e30 : fr.tmps[30]?.getD undef = .pointer (some ⟨p, 0, none⟩) := HF.out.ev (i := 1) rfl rfl (HE.out ⟨1, .data⟩ (by simp) rfl)
          exact wp_q rfl rfl (by simp [execOp, go_sem, e30]; try rfl) ⟨x, HF.out.put (by kernel_rfl) rfl rfl rfl (of_decide_eq_true rfl), HW.out.q hjl (by decide) (by decide)⟩
        | 3, ho =>
          obtain rfl := Option.some.inj ho
          have e31 : fr.tmps[31]?.getD undef = .pointer (some ⟨p, 0, none⟩) := HF.out.ev (i := 2) rfl rfl (HE.out ⟨2, .data⟩ (by simp) rfl)
          exact wp_q rfl rfl (by simp [execOp, go_sem, e31]; try rfl) ⟨x, HF.out.put (by kernel_rfl) rfl rfl rfl (of_decide_eq_true rfl), HW.out.q hjl (by decide) (by decide)⟩
        | 4, ho =>
          obtain rfl := Option.some.inj ho
          have e32 : fr.tmps[32]?.getD undef = .pointer (some ⟨p, 0, none⟩) := HF.out.ev (i := 3) rfl rfl (HE.out ⟨3, .data⟩ (by simp) rfl)
          have hc : wr.cell? ⟨p, 0, none⟩ = some u := HW.out.upto 2 rfl hl0 (by decide) (fun s hs hm => (HLD.out s x wr hs hm).1)
          exact wp_q rfl rfl (by simp [execOp, go_sem, e32, hc]; try rfl) ⟨x, HF.out.put (by kernel_rfl) rfl rfl rfl (of_decide_eq_true rfl), HW.out.q hjl (by decide) (by decide)⟩
        | 5, ho =>
          obtain rfl := Option.some.inj ho
          have e0 : fr.tmps[0]?.getD undef = .slice (some ⟨b, o, none⟩) n cap := HF.out.base 0 (by kernel_rfl) rfl
          exact wp_q rfl rfl (by simp [execOp, go_sem, e0]; try rfl) ⟨x, HF.out.put (by kernel_rfl) rfl rfl rfl (of_decide_eq_true rfl), HW.out.q hjl (by decide) (by decide)⟩
        | 6, ho =>
          obtain rfl := Option.some.inj ho
          have e5 : fr.tmps[5]?.getD undef = .int .i64 (j : Int) := HF.out.base 5 (by kernel_rfl) rfl
          exact wp_q rfl rfl (by simp [execOp, go_sem, e5]; try rfl) ⟨x, HF.out.put (by kernel_rfl) rfl rfl rfl (of_decide_eq_true rfl), HW.out.q hjl (by decide) (by decide)⟩
        | 7, ho =>
          obtain rfl := Option.some.inj ho
          have e34 : fr.tmps[34]?.getD undef = .slice (some ⟨b, o, none⟩) n cap := HF.out.ev (i := 5) rfl rfl (HE.out ⟨5, .data⟩ (by simp) rfl)
          have e35 : fr.tmps[35]?.getD undef = .int .i64 (j : Int) := HF.out.ev (i := 6) rfl rfl (HE.out ⟨6, .data⟩ (by simp) rfl)
          exact wp_q rfl rfl (by simp [execOp, go_sem, e34, e35, hlt]; try rfl) ⟨x, HF.out.put (by kernel_rfl) rfl rfl rfl (of_decide_eq_true rfl), HW.out.q hjl (by decide) (by decide)⟩
        | 8, ho =>
          obtain rfl := Option.some.inj ho
          have e36 : fr.tmps[36]?.getD undef = .pointer (some ⟨b, o + j, none⟩) := HF.out.ev (i := 7) rfl rfl (HE.out ⟨7, .data⟩ (by simp) rfl)
          have hc : wr.cell? ⟨b, o + j, none⟩ = some (.int .i64 kk) := HW.out.upto 2 rfl hl0 (by decide) (fun s hs hm => (HLD.out s x wr hs hm).2)
          exact wp_q rfl rfl (by simp [execOp, go_sem, e36, hc]; try rfl) ⟨x, HF.out.put (by kernel_rfl) rfl rfl rfl (of_decide_eq_true rfl), HW.out.q hjl (by decide) (by decide)⟩
        | 9, ho =>
          obtain rfl := Option.some.inj ho
          have e37 : fr.tmps[37]?.getD undef = .int .i64 kk := HF.out.ev (i := 8) rfl rfl (HE.out ⟨8, .data⟩ (by simp) rfl)
          exact wp_q rfl rfl (by simp [execOp, go_sem, e37]; try rfl) ⟨x, HF.out.put (by kernel_rfl) rfl rfl rfl (of_decide_eq_true rfl), HW.out.q hjl (by decide) (by decide)⟩
        | 10, ho =>
          obtain rfl := Option.some.inj ho
          have e38 : fr.tmps[38]?.getD undef = .agg #[.int .i64 kk, .int .u64 0, .int .u64 0, .int .u64 0] := HF.out.ev (i := 9) rfl rfl (HE.out ⟨9, .data⟩ (by simp) rfl)
          have m1 := HW.out.1.at 0 rfl hl0 (fun j hj => by omega)
          subst m1
          obtain ⟨i0, hi0, hz0, hs0, hb0⟩ := info_parts info_Slot
          refine wp_bs rfl rfl 36 62 1 _ rfl #[.int .i64 kk, .int .u64 0, .int .u64 0, .int .u64 0] i0 _ u_sSlot hi0 hz0 (by rw [hs0]; decide) (by rw [hs0]; decide) ?_ ?_
          · have := Great.fill_whole (s := 4) (by decide) [.agg #[.int .i64 kk, .int .u64 0, .int .u64 0, .int .u64 0]] ((Array.range (1 * 4)).map (((Value.agg #[.int .i64 0, .int .u64 0, .int .u64 0, .int .u64 0]).cells)[· % (Value.agg #[.int .i64 0, .int .u64 0, .int .u64 0, .int .u64 0]).cells.size]!)) (fun v hv => by rw [List.mem_singleton.1 hv]; rfl) (by simp)
            rw [hs0]
            have e1 : Act.eval fr (.tmp 38) = .agg #[.int .i64 kk, .int .u64 0, .int .u64 0, .int .u64 0] := by simp [Act.eval, e38]
            simp only [List.map_toArray, List.map_cons, List.map_nil, e1]
            exact this
          have HFy : Hid (FrQ _ ((fun x : Value × Value => fun dd => if dd = 29 then .pointer (some ⟨p, 0, none⟩) else if dd = 30 then .pointer (some ⟨p, 0, none⟩) else if dd = 31 then .pointer (some ⟨p, 0, none⟩) else if dd = 32 then .pointer (some ⟨p, 0, none⟩) else if dd = 33 then u else if dd = 34 then .slice (some ⟨b, o, none⟩) n cap else if dd = 35 then .int .i64 (j : Int) else if dd = 36 then .pointer (some ⟨b, o + j, none⟩) else if dd = 37 then .int .i64 kk else if dd = 38 then .agg #[.int .i64 kk, .int .u64 0, .int .u64 0, .int .u64 0] else if dd = 39 then x.1 else if dd = 40 then x.2 else if dd = 41 then .pointer (some ⟨p, 0, none⟩) else if dd = 42 then .pointer (some ⟨p, 0, none⟩) else undef) (.slice (some ⟨wr.heap.size, 0, none⟩) 1 1, x.2)) _ listed fr) := HF.out.swap (fun j o d g1 g2 g3 => by
            by_cases e : d = 39
            · subst e
              have := ndB_spec (j := j) (k := 10) (d := 39) (by kernel_rfl) g1 rfl g2 rfl
              subst this
              rw [hl0] at g3; cases g3
            · simp [e])
          exact ⟨(.slice (some ⟨wr.heap.size, 0, none⟩) 1 1, x.2), HFy.out.put (by kernel_rfl) rfl rfl rfl (of_decide_eq_true rfl), HW.out.go 0 hjl rfl hl0 (fun j hj => by omega) (by intro a ha; match a, ha with | 0, _ => rfl | 1, ha => simp at ha | 2, ha => simp at ha) ⟨rfl, rfl⟩ (by decide)⟩
        | 11, ho =>
          obtain rfl := Option.some.inj ho
          have e33 : fr.tmps[33]?.getD undef = u := HF.out.ev (i := 4) rfl rfl (HE.out ⟨4, .data⟩ (by simp) rfl)
          have e39 : fr.tmps[39]?.getD undef = x.1 := HF.out.ev (i := 10) rfl rfl (HE.out ⟨10, .data⟩ (by simp) rfl)
          have h7 : listed.getD 10 false = true := HE.out ⟨10, .data⟩ (by simp) rfl
          obtain ⟨m2, rfl⟩ := HW.out.1.at 1 rfl hl0 (fun j hj => by obtain rfl : j = 0 := (by omega); exact ⟨10, rfl, h7⟩)
          obtain ⟨i0, hi0, hz0, hs0, hb0⟩ := info_parts info_Slot
          have hb1 : Below w0.heap.size w0 (w0.alloc (.cells #[.int .i64 kk, .int .u64 0, .int .u64 0, .int .u64 0] 62)) := (Below.refl _ _).alloc (Nat.le_refl _) _
          have e28' : Act.eval fr (.tmp 33) = u := by simp [Act.eval, e33]
          have e31' : Act.eval fr (.tmp 39) = .slice (some ⟨w0.heap.size, 0, none⟩) 1 1 := by simp [Act.eval, e39, m2]
          refine wpOp_step rfl fun K' hK => ?_
          refine step_append_blk _ (.tmp 33) (.tmp 39) 36 rfl 62 i0 _ 4 32 u_sSlot hi0 hz0 hs0 hb0 rfl (by decide) u j (slc V j) e28' (own_only HOW.out (T := fun _ => False) (.ofBelow hb1) fun _ _ z => z) ⟨w0.heap.size, 0, none⟩ 1 1 [.int .i64 kk, .int .u64 0, .int .u64 0, .int .u64 0] e31' rfl ?_ (by intro v hv; simp at hv; rcases hv with rfl | rfl | rfl | rfl <;> rfl) (show j + 1 ≤ 9223372036854775807 by omega) (by omega) rfl ?_
          · intro i v hv
            rw [C.addr_add, Nat.zero_add, cell_of_row _ _ i _ _ _ (heap_alloc_new w0 _)]
            simpa using hv
          intro v' w3 hown hgrow hblk
          have ho : Only (Ug u) w0 w3 := (Only.ofBelow hb1).trans (grown_ug hgrow)
          have HFy : Hid (FrQ _ ((fun x : Value × Value => fun dd => if dd = 29 then .pointer (some ⟨p, 0, none⟩) else if dd = 30 then .pointer (some ⟨p, 0, none⟩) else if dd = 31 then .pointer (some ⟨p, 0, none⟩) else if dd = 32 then .pointer (some ⟨p, 0, none⟩) else if dd = 33 then u else if dd = 34 then .slice (some ⟨b, o, none⟩) n cap else if dd = 35 then .int .i64 (j : Int) else if dd = 36 then .pointer (some ⟨b, o + j, none⟩) else if dd = 37 then .int .i64 kk else if dd = 38 then .agg #[.int .i64 kk, .int .u64 0, .int .u64 0, .int .u64 0] else if dd = 39 then x.1 else if dd = 40 then x.2 else if dd = 41 then .pointer (some ⟨p, 0, none⟩) else if dd = 42 then .pointer (some ⟨p, 0, none⟩) else undef) (x.1, v')) _ listed fr) := HF.out.swap (fun j o d g1 g2 g3 => by
            by_cases e : d = 40
            · subst e
              have := ndB_spec (j := j) (k := 11) (d := 40) (by kernel_rfl) g1 rfl g2 rfl
              subst this
              rw [hl0] at g3; cases g3
            · simp [e])
          exact hK _ _ ⟨(x.1, v'), HFy.out.put (by kernel_rfl) rfl rfl rfl (of_decide_eq_true rfl), HW.out.go 1 hjl rfl hl0 (fun j hj => by obtain rfl : j = 0 := (by omega); exact ⟨10, rfl, h7⟩) (by intro a ha; match a, ha with | 0, ha => simp at ha | 1, _ => rfl | 2, ha => simp at ha) ⟨hown, ho, fun k hk => (hblk k hk).imp id fun z => Nat.le_trans hb1.size z⟩ (by decide)⟩
        | 12, ho =>
          obtain rfl := Option.some.inj ho
          have e29 : fr.tmps[29]?.getD undef = .pointer (some ⟨p, 0, none⟩) := HF.out.ev (i := 0) rfl rfl (HE.out ⟨0, .data⟩ (by simp) rfl)
          exact wp_q rfl rfl (by simp [execOp, go_sem, e29]; try rfl) ⟨x, HF.out.put (by kernel_rfl) rfl rfl rfl (of_decide_eq_true rfl), HW.out.q hjl (by decide) (by decide)⟩
        | 13, ho =>
          obtain rfl := Option.some.inj ho
          have e41 : fr.tmps[41]?.getD undef = .pointer (some ⟨p, 0, none⟩) := HF.out.ev (i := 12) rfl rfl (HE.out ⟨12, .data⟩ (by simp) rfl)
          exact wp_q rfl rfl (by simp [execOp, go_sem, e41]; try rfl) ⟨x, HF.out.put (by kernel_rfl) rfl rfl rfl (of_decide_eq_true rfl), HW.out.q hjl (by decide) (by decide)⟩
        | 14, ho =>
          obtain rfl := Option.some.inj ho
          have e42 : fr.tmps[42]?.getD undef = .pointer (some ⟨p, 0, none⟩) := HF.out.ev (i := 13) rfl rfl (HE.out ⟨13, .data⟩ (by simp) rfl)
          have e40 : fr.tmps[40]?.getD undef = x.2 := HF.out.ev (i := 11) rfl rfl (HE.out ⟨11, .data⟩ (by simp) rfl)
          have ha : ∀ j, j < 12 → listed.getD j false = true := he_all HE.out 12 (by kernel_rfl)
          obtain ⟨m1, m2, m3⟩ := HW.out.1.at 2 rfl hl0 (fun j hj => by obtain rfl : j = 1 := (by omega); exact ⟨11, rfl, ha 11 (by decide)⟩)
          have c1 : wr.cell? ⟨p, 0, none⟩ = some u := by
            have := m2.old HTP.out (fun z => own_ne HOW.out HTP.out (by decide) p z rfl)
            exact cell_of_row wr p 0 _ _ _ this
          have z1 : wr.frozen? ⟨p, 0, none⟩ = false := by
            have := m2.old HTP.out (fun z => own_ne HOW.out HTP.out (by decide) p z rfl)
            exact frozen_of_row wr p 0 _ _ this
          obtain ⟨ad3, l3, cp3, hx2⟩ : ∃ ad l c, x.2 = .slice ad l c := by
            rcases m1.2 with ⟨q, -⟩ | ⟨g, cap, cur, q, -⟩ <;> exact ⟨_, _, _, q⟩
          exact wp_s rfl rfl (w' := wr.setCell ⟨p, 0, none⟩ x.2) (by rw [hx2] at e40; simp [execOp, go_sem, e42, e40, c1, z1, hx2]; try rfl) ⟨x, HF.out.skip rfl rfl _, HW.out.last 2 hjl rfl hl0 (fun j hj => by obtain rfl : j = 1 := (by omega); exact ⟨11, rfl, ha 11 (by decide)⟩) (by intro a h; match a, h with | 0, h => simp at h | 1, h => simp at h | 2, _ => rfl) ⟨wr, m1, m2, m3, rfl⟩ ha⟩
      case fin =>
        rintro listed fr w2 x hF hW hr
        have all := allDone hr hF.ls (by kernel_rfl)
        have k1 := hW.1.end 2 rfl (all 14 (by decide)) (fun s hs hm => by
          match s, hs, hm with
          | 3, _, hm => exact hm
          | n + 4, _, hm => exact hm.elim)
        obtain ⟨w3, m1, m2, m3, rfl⟩ := k1
        rw [hF.full all]
        clear hF hW hr all
        obtain ⟨u2, hu2⟩ : ∃ u2, u2 = x.2 := ⟨_, rfl⟩
        have HB2 : Hid (Dx (w3.setCell ⟨p, 0, none⟩ x.2) p u2 (j + 1) V) := by rw [hu2]; exact dx_grow HTP.out HOW.out m1 m2 HVj.out
        have HO2 : Hid (Below W.heap.size W (w3.setCell ⟨p, 0, none⟩ x.2)) := (HBW.out.trans (((HDR.out.mono (T := fun x => W.heap.size ≤ x) (fun _ _ z => z.elim)).trans (m2.mono fun k _ hk => HFR.out k hk)).below _ HBW.out.size fun k hk => hk)).setCell (by rw [HPp.out]; exact Nat.le_refl _) _
        have HF2 : Hid (∀ k, Ug u2 k → W.heap.size ≤ k) := by rw [hu2]; exact fun k hk => (m3 k hk).elim (HFR.out k) fun z => Nat.le_trans HBW.out.size (Nat.le_trans HDR.out.size z)
        clear m1 m2 m3 hu2 HLD
        generalize w3.setCell ⟨p, 0, none⟩ x.2 = w4 at *
        simp only [List.foldl_cons, List.foldl_nil, fillF]
        go_simp
        go_wp2
        go_roundw
        case rel => exact ⟨j + 1, u2, by omega, by go_num, HB2, HO2, HF2⟩
        case measure => simp [intOf]; omega
    · obtain rfl : j = n := by omega
      go_wp2
      go_returns
      rw [← HPp.out]
      exact ⟨rfl, u, HB.out, HPp.out ▸ HBW.out, HPp.out ▸ HFR.out⟩
end Go.Proofs.Ytpplcijdhedjcaa
namespace Go.Proofs.Ytpplcijdhedjcaa
open Go.RowKit
open C (Only hid Still ret_bool ret_int row)
set_option linter.unusedVariables false
set_option maxRecDepth 100000

/-- the document's bus, its blocks F -/
structure Dq (w : World) (F : Nat → Prop) (p n : Nat) (V : Nat → Sv) : Prop where
  b : ∃ u, Dx w p u n V ∧ ∀ x, F x ↔ x = p ∨ Ug u x
  v : VOk V
  n : n ≤ 8
section
variable {w w' : World} {F : Nat → Prop} {p n : Nat} {V : Nat → Sv}
theorem Dq.only (h : Dq w F p n V) {T : Nat → Prop} (ho : Only T w w') (hd : ∀ x, F x → ¬ T x) : Dq w' F p n V := by
  obtain ⟨u, h1, h2⟩ := h.b
  exact ⟨⟨u, ⟨ho.old h1.top (hd p ((h2 p).2 (.inl rfl))), own_only h1.own ho fun k hk => hd k ((h2 k).2 (.inr hk))⟩, h2⟩, h.v, h.n⟩
theorem Dq.below (h : Dq w F p n V) (hb : Below w.heap.size w w') : Dq w' F p n V := h.only (T := fun _ => False) (.ofBelow hb) fun _ _ z => z
theorem Dq.lt (h : Dq w F p n V) {x : Nat} (hx : F x) : x < w.heap.size := by
  obtain ⟨u, h1, h2⟩ := h.b
  rcases (h2 x).1 hx with z | z
  · subst z; exact lt_of_block h1.top
  · exact own_lt h1.own x z
theorem Dq.list (h : Dq w F p n V) : ∃ ad cp, w.cell? ⟨p, 0, none⟩ = some (.slice ad n cp) ∧ n ≤ 8 := by
  obtain ⟨u, k1, k2⟩ := h.b
  rcases k1.own.2 with ⟨q1, q2⟩ | ⟨g, cap, cur, q1, q2⟩
  · exact ⟨none, 0, by rw [cell_of_row w p 0 _ _ _ k1.top, q1, q2]; rfl, h.n⟩
  · exact ⟨_, cap, by rw [cell_of_row w p 0 _ _ _ k1.top, q1]; rfl, h.n⟩
/-- a slot's four cells -/
theorem Dq.at (h : Dq w F p n V) (s : Nat) (hs : s < n) : ∃ g cap, w.cell? ⟨p, 0, none⟩ = some (.slice (some ⟨g, 0, none⟩) n cap) ∧ n ≤ cap ∧ cap ≤ 9223372036854775807 ∧ w.cell? ⟨g, s * 4, none⟩ = some (.int .i64 (V s).k) ∧ w.cell? ⟨g, s * 4 + 1, none⟩ = some (.int .u64 (V s).c) ∧ w.cell? ⟨g, s * 4 + 2, none⟩ = some (.int .u64 (V s).base) ∧ w.cell? ⟨g, s * 4 + 3, none⟩ = some (.int .u64 (V s).l) := by
  obtain ⟨u, k1, k2⟩ := h.b
  rcases k1.own.2 with ⟨q1, q2⟩ | ⟨g, cap, cur, q1, q2, q3, q4, q5, q6, q7⟩
  · omega
  · have hc : ∀ j, j < n * 4 → w.cell? ⟨g, j, none⟩ = some (sc V j) := fun j hj => by
      rw [cell_of_row w g j _ _ _ q3]
      have : (cur.toList.take (n * 4))[j]? = (slc V n)[j]? := by rw [q7]
      rw [List.getElem?_take_of_lt hj, Array.getElem?_toList, slc_at _ _ _ hj] at this
      exact this
    refine ⟨g, cap, by rw [cell_of_row w p 0 _ _ _ k1.top, q1]; rfl, q4, q5, ?_, ?_, ?_, ?_⟩
    · rw [hc _ (by omega)]; unfold sc; rw [if_pos (by omega), show s * 4 / 4 = s by omega]
    · rw [hc _ (by omega)]; unfold sc; rw [if_neg (by omega), if_pos (by omega), show (s * 4 + 1) / 4 = s by omega]
    · rw [hc _ (by omega)]; unfold sc; rw [if_neg (by omega), if_neg (by omega), if_pos (by omega), show (s * 4 + 2) / 4 = s by omega]
    · rw [hc _ (by omega)]; unfold sc; rw [if_neg (by omega), if_neg (by omega), if_neg (by omega), show (s * 4 + 3) / 4 = s by omega]
theorem d_Kind (h : Dq w F p n V) (s : Int) (s0 : -9223372036854775808 ≤ s) (s1 : s ≤ 9223372036854775807) : Calls Try.prog 13 #[.pointer (some ⟨p, 0, none⟩), .int .i64 s] w fun e w' => e = .returned (.int .i64 (kdV n V s)) ∧ w' = w := by
  have HR : Hid (kdV n V s = if hasS n s then (V s.toNat).k else 0) := rfl
  generalize kdV n V s = r at *
  cases e2 : hasS n s
  · rw [e2] at HR
    obtain rfl : r = 0 := HR.out
    obtain ⟨ad, cp, c0, n8⟩ := h.list
    clear h HR
    by_cases q : s < 0
    · go_enter Try.func13, Try.ntmps13
      go_wp2
      go_ret
      exact ⟨rfl, rfl⟩
    · have q2 : (n : Int) ≤ s := by
        unfold hasS at e2
        simp at e2
        omega
      clear e2
      go_enter Try.func13, Try.ntmps13
      go_wp2
      go_ret
      exact ⟨rfl, rfl⟩
  · obtain ⟨r1, r2⟩ := hasS_spec e2
    rw [e2] at HR
    obtain ⟨S, rfl⟩ : ∃ S : Nat, s = S := ⟨s.toNat, by omega⟩
    obtain rfl : r = (V S).k := HR.out
    have n8 := h.n
    obtain ⟨g, cap, c0, m1, m2, c1, c2, c3, c4⟩ := h.at S (by omega)
    clear h HR e2
    go_enter Try.func13, Try.ntmps13
    go_wp2
    go_ret
    exact ⟨rfl, rfl⟩
theorem x_b2 : ∀ c : Fin 256, ((c.val : Int) / 2 % 2 == 1) = bt2 (c.val : Int) := by decide +kernel
theorem d_Bar (h : Dq w F p n V) (s : Int) (s0 : -9223372036854775808 ≤ s) (s1 : s ≤ 9223372036854775807) : Calls Try.prog 22 #[.pointer (some ⟨p, 0, none⟩), .int .i64 s] w fun e w' => e = .returned (.tuple #[.int .u64 (bsV n V s), .bool (onV n V s)]) ∧ Below w.heap.size w w' := by
  have HR : Hid (bsV n V s = if hasS n s then (V s.toNat).base else 0) := rfl
  have HO : Hid (onV n V s = (hasS n s && (V s.toNat).on)) := rfl
  generalize bsV n V s = r at *
  generalize onV n V s = t at *
  cases e2 : hasS n s
  · rw [e2] at HR HO
    obtain rfl : r = 0 := HR.out
    obtain rfl : t = false := HO.out
    obtain ⟨ad, cp, c0, n8⟩ := h.list
    clear h HR HO
    by_cases q : s < 0
    · go_enter Try.func22, Try.ntmps22
      go_wp2
      go_returns
      exact ⟨rfl, .refl _ _⟩
    · have q2 : (n : Int) ≤ s := by
        unfold hasS at e2
        simp at e2
        omega
      clear e2
      go_enter Try.func22, Try.ntmps22
      go_wp2
      go_returns
      exact ⟨rfl, .refl _ _⟩
  · obtain ⟨r1, r2⟩ := hasS_spec e2
    rw [e2] at HR HO
    obtain ⟨S, rfl⟩ : ∃ S : Nat, s = S := ⟨s.toNat, by omega⟩
    obtain rfl : r = (V S).base := HR.out
    obtain rfl : t = (V S).on := HO.out
    have n8 := h.n
    have hk := h.v S
    obtain ⟨g, cap, c0, m1, m2, c1, c2, c3, c4⟩ := h.at S (by omega)
    obtain ⟨b0, b1⟩ := base_b hk
    obtain ⟨d0, d1⟩ := hk.c.1
    have HN : Hid ((V S).on = ((V S).base != 0 && bt2 (V S).c)) := rfl
    have HT : Hid (((V S).c / 2 % 2 == 1) = bt2 (V S).c) := fin_u8 (p := fun c => (c / 2 % 2 == 1) = bt2 c) x_b2 _ hk.c.1
    clear h HR HO hk e2
    generalize (V S).on = ON at *
    generalize (V S).base = B at *
    generalize (V S).c = c at *
    generalize (V S).k = k at *
    generalize (V S).l = l at *
    cases hb : bt2 c
    · rw [hb] at HT HN
      have e1 := HT.out
      obtain rfl : ON = false := by rw [HN.out]; simp
      go_enter Try.func22, Try.ntmps22
      go_wp2
      go_quiet (fail)
      go_wp2
      go_returns
      exact ⟨rfl, ((Below.refl _ _).alloc (Nat.le_refl _) _).trans ⟨rfl, rfl, rfl, Nat.le_refl _, fun _ _ => rfl⟩⟩
    · rw [hb] at HT HN
      have e1 := HT.out
      obtain rfl : ON = (B != 0) := by rw [HN.out]; simp
      go_enter Try.func22, Try.ntmps22
      go_wp2
      go_quiet (fail)
      go_wp2
      go_returns
      exact ⟨rfl, ((Below.refl _ _).alloc (Nat.le_refl _) _).trans ⟨rfl, rfl, rfl, Nat.le_refl _, fun _ _ => rfl⟩⟩
end
theorem d_Find {w : World} {F : Nat → Prop} {p n : Nat} {V : Nat → Sv} (h : Dq w F p n V) (a : Int) (a0 : 0 ≤ a) (a1 : a < 18446744073709551616) : Calls Try.prog 20 #[.pointer (some ⟨p, 0, none⟩), .int .u64 a] w fun e w' => e = .returned (.tuple #[.int .i64 (fdS n V a), .int .u64 (fdO n V a), .bool (fdB n V a)]) ∧ Below w.heap.size w w' := by
  obtain ⟨ad, cp, c0, n8⟩ := h.list
  have HB : Hid (∀ w1, Below w.heap.size w w1 → ∀ s : Nat, s < n → Calls Try.prog 22 #[.pointer (some ⟨p, 0, none⟩), .int .i64 (s : Int)] w1 fun e w' => e = .returned (.tuple #[.int .u64 (V s).base, .bool (V s).on]) ∧ Below w.heap.size w w') := fun w1 h1 s hs => by
    have := d_Bar (h.below h1) s (by omega) (by omega)
    have e : hasS n (s : Int) = true := by unfold hasS; simp; omega
    unfold bsV onV at this
    rw [e, if_pos rfl, Bool.true_and, Int.toNat_natCast] at this
    exact this.mono fun e w' hh => ⟨hh.1, h1.trans (hh.2.mono h1.size)⟩
  have HC : Hid (∀ w1, Below w.heap.size w w1 → w1.cell? ⟨p, 0, none⟩ = some (.slice ad n cp)) := fun w1 h1 => by
    obtain ⟨u, k1, k2⟩ := h.b
    rw [World.cell?_of_block (w := w) (h1.block _ (lt_of_block k1.top))]
    exact c0
  have HV : Hid (∀ s, 0 ≤ (V s).base ∧ (V s).base < 4294967296) := fun s => base_b (h.v s)
  clear h c0
  have HH : Hid (∀ j, j < n → hitV V a j = true → (∀ i, i < j → hitV V a i = false) → fdS n V a = j ∧ fdO n V a = a - (V j).base ∧ fdB n V a = true) := fun j h1 h2 h3 => fd_hit h1 h2 h3
  have HN : Hid ((∀ i, i < n → hitV V a i = false) → fdS n V a = 0 ∧ fdO n V a = 0 ∧ fdB n V a = false) := fd_none
  generalize fdS n V a = rs at *
  generalize fdO n V a = ro at *
  generalize fdB n V a = rb at *
  go_enter Try.func20, Try.ntmps20
  go_wp2_with fail
  go_loopw [7] (fun i wr => ∃ k : Nat, k ≤ n ∧ i = .int .i64 k ∧ Hid (Below w.heap.size w wr) ∧ Hid (∀ j, j < k → hitV V a j = false)) (fun i _ => n - (intOf i).toNat)
  case atStart => exact ⟨0, by omega, rfl, .refl _ _, fun j hj => by omega⟩
  case round =>
    obtain ⟨k, hk, rfl, HS, HM⟩ := hrel
    have c0 := HC.out wr HS.out
    by_cases hlt : k < n
    · have hb := HB.out wr HS.out k hlt
      obtain ⟨v0, v1⟩ := HV.out k
      have HT : Hid (hitV V a k = ((V k).on && decide ((V k).base ≤ a ∧ a - (V k).base < 4096))) := rfl
      have hk2 := HH.out k hlt
      generalize (V k).base = B at *
      generalize (V k).on = o at *
      by_cases hit : o = true ∧ B ≤ a ∧ a - B < 4096
      · obtain ⟨rfl, q1, q2⟩ := hit
        obtain ⟨rfl, rfl, rfl⟩ := hk2 (by rw [HT.out]; simp [q1, q2]) HM.out
        go_wp2_with (go_at_call 22; refine hb.mono ?_; rintro e w1 ⟨rfl, hs⟩; have HS1 := hid hs; clear hs hb)
        go_returns
        exact ⟨rfl, HS1.out⟩
      · have HT2 : Hid (hitV V a k = false) := by
          show _ = _
          rw [HT.out]
          cases o
          · rfl
          · simp
            intro q
            have : ¬ a - B < 4096 := fun r => hit ⟨rfl, q, r⟩
            omega
        have q5 : o = true → a < B ∨ (B ≤ a ∧ ¬ a - B < 4096) := fun ho => by
          rcases Int.lt_or_le a B with z | z
          · exact .inl z
          · exact .inr ⟨z, fun r => hit ⟨ho, z, r⟩⟩
        clear hit HT hk2
        cases o
        · clear q5
          go_wp2_with (go_at_call 22; refine hb.mono ?_; rintro e w1 ⟨rfl, hs⟩; have HS1 := hid hs; clear hs hb)
          go_roundw
          case rel => exact ⟨k + 1, by omega, by go_num, HS1, fun j hj => by
            rcases Nat.lt_or_ge j k with z | z
            · exact HM.out j z
            · obtain rfl : j = k := by omega
              exact HT2.out⟩
          case measure => simp [intOf]; omega
        · rcases q5 rfl with q6 | ⟨q6, q7⟩
          all_goals
            go_wp2_with (go_at_call 22; refine hb.mono ?_; rintro e w1 ⟨rfl, hs⟩; have HS1 := hid hs; clear hs hb)
            go_roundw
            case rel => exact ⟨k + 1, by omega, by go_num, HS1, fun j hj => by
              rcases Nat.lt_or_ge j k with z | z
              · exact HM.out j z
              · obtain rfl : j = k := by omega
                exact HT2.out⟩
            case measure => simp [intOf]; omega
    · obtain rfl : k = n := by omega
      obtain ⟨rfl, rfl, rfl⟩ := HN.out HM.out
      go_wp2
      go_returns
      exact ⟨rfl, HS.out⟩
theorem d_Read {w : World} {F : Nat → Prop} {p n : Nat} {V : Nat → Sv} (h : Dq w F p n V) (s o z : Int) (s0 : -9223372036854775808 ≤ s) (s1 : s ≤ 9223372036854775807) (o0 : 0 ≤ o) (o1 : o < 18446744073709551616) (z0 : -9223372036854775808 ≤ z) (z1 : z ≤ 9223372036854775807) :
    Calls Try.prog 16 #[.pointer (some ⟨p, 0, none⟩), .int .i64 s, .int .u64 o, .int .i64 z] w fun e w' => e = .returned (.tuple #[.int .u64 (rdV n V s o z), .bool (fitB o z)]) ∧ Below w.heap.size w w' := by
  have hf := d_right o z o0 o1 z0 z1
  have HR : Hid (rdV n V s o z = if fitB o z then (if hasS n s then gv (V s.toNat) o.toNat z.toNat else 256 ^ z.toNat - 1) else 0) := rfl
  generalize rdV n V s o z = r at *
  cases e1 : fitB o z
  · rw [e1] at hf HR
    obtain rfl : r = 0 := HR.out
    clear h HR
    go_enter Try.func16, Try.ntmps16
    go_wp2_with (go_at_call 27; refine (hf _).mono ?_; rintro e w' ⟨rfl, hw⟩; obtain rfl := hw.symm)
    go_returns
    exact ⟨rfl, .refl _ _⟩
  · obtain ⟨q1, q2, q3, q4⟩ := fitB_spec e1 o0
    rw [e1] at hf HR
    cases e2 : hasS n s
    · rw [e2] at HR
      obtain rfl : r = 256 ^ z.toNat - 1 := HR.out
      obtain ⟨ad, cp, c0, n8⟩ := h.list
      clear h HR
      have q5 : s < 0 ∨ (0 ≤ s ∧ (n : Int) ≤ s) := by
        unfold hasS at e2
        simp at e2
        omega
      clear e2
      rcases q5 with q5 | ⟨q5, q6⟩
      all_goals
        rcases q1 with rfl | rfl | rfl
        all_goals
          go_enter Try.func16, Try.ntmps16
          go_wp2_with (go_at_call 27; refine (hf _).mono ?_; rintro e w' ⟨rfl, hw⟩; obtain rfl := hw.symm)
          go_returns
          exact ⟨rfl, .refl _ _⟩
    · obtain ⟨r1, r2⟩ := hasS_spec e2
      rw [e2] at HR
      obtain ⟨S, rfl⟩ : ∃ S : Nat, s = S := ⟨s.toNat, by omega⟩
      obtain rfl : r = gv (V S) o.toNat z.toNat := HR.out
      have n8 := h.n
      have hk := h.v S
      obtain ⟨g, cap, c0, m1, m2, c1, c2, c3, c4⟩ := h.at S (by omega)
      have hb := d_bytes w (V S).k (V S).c (V S).base (V S).l hk.k.1 hk.k.2 hk.c.1.1 hk.c.1.2 (base_b hk).1 (base_b hk).2 hk.l.1 hk.l.2
      have HG : Hid (∀ w2, NB w w2 (V S).k (V S).c (V S).base (V S).l (dtab (V S).k (V S).c (V S).base (V S).l) → Calls Try.prog 28 #[.slice (some ⟨w.heap.size + 1, 0, none⟩) 256 256, .int .i64 o, .int .i64 z] w2 fun e w' => e = .returned (.int .u64 (gv (V S) o.toNat z.toNat)) ∧ w' = w2) := fun w2 hn => by
        have he : dtab (V S).k (V S).c (V S).base (V S).l = tab (V S) := funext (dtab_tab (V S) hk)
        have := d_get w2 (w.heap.size + 1) 5 (tab (V S)) (by have := hn.b; rw [he] at this; exact this) (tab_b hk) o.toNat z.toNat (by omega) (by omega)
        rw [Int.toNat_of_nonneg o0, Int.toNat_of_nonneg (by omega : 0 ≤ z)] at this
        exact this
      have oz : o < 9223372036854775808 := by omega
      generalize gv (V S) o.toNat z.toNat = R at *
      generalize dtab (V S).k (V S).c (V S).base (V S).l = D at *
      generalize (V S).k = xk at *
      generalize (V S).c = xc at *
      generalize (V S).base = xb at *
      generalize (V S).l = xl at *
      clear h HR hk e2 e1
      go_enter Try.func16, Try.ntmps16
      go_wp2_with (first
        | (go_at_call 27; refine (hf _).mono ?_; rintro e w' ⟨rfl, hw⟩; obtain rfl := hw.symm; clear hf)
        | (go_at_call 29; refine hb.mono ?_; rintro e w2 ⟨rfl, hn⟩; have hg := HG.out w2 hn; have HBl := hid hn.c; clear hn hb)
        | (go_at_call 28; refine hg.mono ?_; rintro e w' ⟨rfl, hw⟩; obtain rfl := hw.symm; clear hg))
      go_returns
      exact ⟨rfl, HBl.out⟩
end Go.Proofs.Ytpplcijdhedjcaa
namespace Go.Proofs.Ytpplcijdhedjcaa
open Go.RowKit
open C (Only hid Still ret_bool ret_int row)
set_option linter.unusedVariables false
set_option maxRecDepth 100000

theorem x_a68 : ∀ c : Fin 256, a6 (c.val : Int) = (((c.val % 8) &&& 6 : Nat) : Int) := by decide +kernel
theorem and6 (a b : Int) (ha : Byt a) (hb : Byt b) : bits BinOp.and IntKind.u64 (a + b * 256) 6 = a6 a := by
  obtain ⟨A, rfl⟩ : ∃ A : Nat, a = A := ⟨a.toNat, by have := ha.1; omega⟩
  obtain ⟨B, rfl⟩ : ∃ B : Nat, b = B := ⟨b.toNat, by have := hb.1; omega⟩
  have hA : A < 256 := by have := ha.2; omega
  have hB : B < 256 := by have := hb.2; omega
  have e := u64_and_nat (A + B * 256) 6 (by omega) (by decide)
  have e1 : (A + B * 256) &&& 6 = (A % 8) &&& 6 := by
    have h1 : (A + B * 256) &&& 7 = (A + B * 256) % 8 := Nat.and_two_pow_sub_one_eq_mod _ 3
    have h2 : (A + B * 256) % 8 = A % 8 := by omega
    have h3 : (A + B * 256) &&& 6 = ((A + B * 256) &&& 7) &&& 6 := by rw [Nat.and_assoc]; rfl
    rw [h3, h1, h2]
  rw [e1] at e
  have e2 : (((A + B * 256 : Nat)) : Int) = (A : Int) + (B : Int) * 256 := by omega
  have e3 : ((6 : Nat) : Int) = 6 := rfl
  rw [e2, e3] at e
  rw [e]
  exact (x_a68 ⟨A, hA⟩).symm
/-- what the document makes of a slot's bytes -/
theorem wr_c (v : Sv) (h : SOk v) (o z : Nat) (x : Int) : bits BinOp.and IntKind.u64 (C.nu (fun j => C.put (tab v) o z (C.byt x) (4 + j)) 2) 6 = (v.wr o z x).c := by
  have hb : ∀ j, Byt (C.put (tab v) o z (C.byt x) j) := fun j => by
    unfold C.put
    split
    · exact byt_B _ _
    · exact tab_b h _
  have e : C.nu (fun j => C.put (tab v) o z (C.byt x) (4 + j)) 2 = C.put (tab v) o z (C.byt x) 4 + C.put (tab v) o z (C.byt x) 5 * 256 := by simp [C.nu]
  rw [e, and6 _ _ (hb 4) (hb 5)]
  show _ = atP o z x 4 a6 v.c
  unfold C.put atP
  by_cases q : o ≤ 4 ∧ 4 < o + z
  · rw [if_pos q, if_pos q]
  · rw [if_neg q, if_neg q]
    exact h.c.2
theorem wr_l (v : Sv) (h : SOk v) (o z : Nat) (x : Int) : C.nu (fun j => C.put (tab v) o z (C.byt x) (60 + j)) 1 = (v.wr o z x).l := by
  have e : C.nu (fun j => C.put (tab v) o z (C.byt x) (60 + j)) 1 = C.put (tab v) o z (C.byt x) 60 := by simp [C.nu]
  rw [e]
  show _ = atP o z x 60 id v.l
  unfold C.put atP
  by_cases q : o ≤ 60 ∧ 60 < o + z
  · rw [if_pos q, if_pos q]; rfl
  · rw [if_neg q, if_neg q]; rfl
theorem wr_b (v : Sv) (h : SOk v) (o z : Nat) (x : Int) : C.nu (fun j => C.put (tab v) o z (C.byt x) (16 + j)) 4 / 4096 * 4096 = (v.wr o z x).base := by
  have hb : ∀ j, Byt (C.put (tab v) o z (C.byt x) j) := fun j => by
    unfold C.put
    split
    · exact byt_B _ _
    · exact tab_b h _
  have e : C.nu (fun j => C.put (tab v) o z (C.byt x) (16 + j)) 4 = C.put (tab v) o z (C.byt x) 16 + C.put (tab v) o z (C.byt x) 17 * 256 + C.put (tab v) o z (C.byt x) 18 * 65536 + C.put (tab v) o z (C.byt x) 19 * 16777216 := by simp [C.nu]
  have e1 : atP o z x 17 hi4 v.b1 = hi4 (C.put (tab v) o z (C.byt x) 17) := by
    unfold C.put atP
    by_cases q : o ≤ 17 ∧ 17 < o + z
    · rw [if_pos q, if_pos q]
    · rw [if_neg q, if_neg q]
      show v.b1 = hi4 v.b1
      have := h.b1.2
      unfold hi4
      omega
  have e2 : atP o z x 18 id v.b2 = C.put (tab v) o z (C.byt x) 18 := by
    unfold C.put atP
    by_cases q : o ≤ 18 ∧ 18 < o + z
    · rw [if_pos q, if_pos q]; rfl
    · rw [if_neg q, if_neg q]; rfl
  have e3 : atP o z x 19 id v.b3 = C.put (tab v) o z (C.byt x) 19 := by
    unfold C.put atP
    by_cases q : o ≤ 19 ∧ 19 < o + z
    · rw [if_pos q, if_pos q]; rfl
    · rw [if_neg q, if_neg q]; rfl
  show _ = atP o z x 17 hi4 v.b1 * 256 + atP o z x 18 id v.b2 * 65536 + atP o z x 19 id v.b3 * 16777216
  rw [e, e1, e2, e3]
  have h16 := hb 16
  have h17 := hb 17
  have h18 := hb 18
  have h19 := hb 19
  generalize C.put (tab v) o z (C.byt x) 16 = y16 at *
  generalize C.put (tab v) o z (C.byt x) 17 = y17 at *
  generalize C.put (tab v) o z (C.byt x) 18 = y18 at *
  generalize C.put (tab v) o z (C.byt x) 19 = y19 at *
  unfold Byt at h16 h17 h18 h19
  unfold hi4
  omega
/-- a cell of a list's own block is stored -/
theorem own_put {w : World} {e : TypeId} {size g n cap : Nat} {f : Nat → Value} (h : w.ownsRow 0 e size (.slice (some ⟨g, 0, none⟩) n cap) n ((List.range (n * size)).map f)) (k : Nat) (x : Value) (hk : k < n * size) : (w.setCell ⟨g, k, none⟩ x).ownsRow 0 e size (.slice (some ⟨g, 0, none⟩) n cap) n ((List.range (n * size)).map fun j => if j = k then x else f j) := by
  refine ⟨by simp, ?_⟩
  rcases h.2 with ⟨q, -⟩ | ⟨g', cap', cur, q1, q2, q3, q4, q5, q6, q7⟩
  · cases q
  · simp only [Value.slice.injEq, Option.some.injEq, Addr.mk.injEq] at q1
    obtain ⟨⟨rfl, -⟩, -, rfl⟩ := q1
    refine .inr ⟨g, cap, cur.setIfInBounds k x, rfl, q2, setRowB w g k _ _ _ _ q3 rfl, q4, q5, by simpa using q6, ?_⟩
    apply List.ext_getElem?
    intro j
    rcases Nat.lt_or_ge j (n * size) with r | r
    · have : (cur.toList.take (n * size))[j]? = ((List.range (n * size)).map f)[j]? := by rw [q7]
      rw [List.getElem?_take_of_lt r, Array.getElem?_toList] at this
      rw [List.getElem?_take_of_lt r, Array.getElem?_toList, Array.getElem?_setIfInBounds, this]
      have hks : k < cur.size := by rw [q6]; exact Nat.lt_of_lt_of_le hk (Nat.mul_le_mul_right _ q4)
      by_cases e : k = j
      · subst e
        rw [if_pos rfl, if_pos hks]
        simp [r]
      · rw [if_neg e]
        simp [r]
        intro z; exact absurd z.symm e
    · rw [List.getElem?_eq_none (by simp; omega), List.getElem?_eq_none (by simpa using r)]
theorem slc_up (V : Nat → Sv) (s : Nat) (v : Sv) (j : Nat) : (if j = s * 4 + 3 then Value.int .u64 v.l else if j = s * 4 + 2 then .int .u64 v.base else if j = s * 4 + 1 then .int .u64 v.c else if j = s * 4 then .int .i64 v.k else sc V j) = sc (upV V s v) j := by
  unfold sc upV
  by_cases q : j / 4 = s
  · rw [if_pos q]
    rcases (show j = s * 4 ∨ j = s * 4 + 1 ∨ j = s * 4 + 2 ∨ j = s * 4 + 3 by omega) with h | h | h | h
    · rw [if_neg (by omega), if_neg (by omega), if_neg (by omega), if_pos h, if_pos (by omega)]
    · rw [if_neg (by omega), if_neg (by omega), if_pos h, if_neg (by omega), if_pos (by omega)]
    · rw [if_neg (by omega), if_pos h, if_neg (by omega), if_neg (by omega), if_pos (by omega)]
    · rw [if_pos h, if_neg (by omega), if_neg (by omega), if_neg (by omega)]
  · rw [if_neg q, if_neg (by omega), if_neg (by omega), if_neg (by omega), if_neg (by omega)]
/-- a slot is stored -/
theorem own_slot {w : World} {g n cap : Nat} {V : Nat → Sv} (h : w.ownsRow 0 62 4 (.slice (some ⟨g, 0, none⟩) n cap) n (slc V n)) (s : Nat) (v : Sv) (hs : s < n) : ((((w.setCell ⟨g, s * 4, none⟩ (.int .i64 v.k)).setCell ⟨g, s * 4 + 1, none⟩ (.int .u64 v.c)).setCell ⟨g, s * 4 + 2, none⟩ (.int .u64 v.base)).setCell ⟨g, s * 4 + 3, none⟩ (.int .u64 v.l)).ownsRow 0 62 4 (.slice (some ⟨g, 0, none⟩) n cap) n (slc (upV V s v) n) := by
  have h1 := own_put (own_put (own_put (own_put h (s * 4) (.int .i64 v.k) (by omega)) (s * 4 + 1) (.int .u64 v.c) (by omega)) (s * 4 + 2) (.int .u64 v.base) (by omega)) (s * 4 + 3) (.int .u64 v.l) (by omega)
  have e : (List.range (n * 4)).map (fun j => if j = s * 4 + 3 then Value.int .u64 v.l else if j = s * 4 + 2 then .int .u64 v.base else if j = s * 4 + 1 then .int .u64 v.c else if j = s * 4 then .int .i64 v.k else sc V j) = slc (upV V s v) n := by
    unfold slc
    congr 1
    funext j
    exact slc_up V s v j
  rw [e] at h1
  exact h1
set_option maxHeartbeats 4000000 in
theorem d_Write {w : World} {F : Nat → Prop} {p n : Nat} {V : Nat → Sv} (h : Dq w F p n V) (s o z x : Int) (s0 : -9223372036854775808 ≤ s) (s1 : s ≤ 9223372036854775807) (o0 : 0 ≤ o) (o1 : o < 18446744073709551616) (z0 : -9223372036854775808 ≤ z) (z1 : z ≤ 9223372036854775807) (v0 : 0 ≤ x) (v1 : x < 18446744073709551616) :
    Calls Try.prog 18 #[.pointer (some ⟨p, 0, none⟩), .int .i64 s, .int .u64 o, .int .i64 z, .int .u64 x] w fun e w' => e = .returned (.bool (fitB o z)) ∧ Dq w' F p n (wrV n V s o z x) ∧ Only F w w' := by
  have HD := hid h
  have hf := d_right o z o0 o1 z0 z1
  have HR : Hid (wrV n V s o z x = if fitB o z && hasS n s then upV V s.toNat ((V s.toNat).wr o.toNat z.toNat x) else V) := rfl
  have HRV : Hid (VOk (wrV n V s o z x)) := h.v.wr n s o z x
  generalize wrV n V s o z x = r at *
  cases e1 : fitB o z
  · rw [e1] at hf HR
    obtain rfl : r = V := HR.out
    clear h HR
    go_enter Try.func18, Try.ntmps18
    go_wp2_with (go_at_call 27; refine (hf _).mono ?_; rintro e w' ⟨rfl, hw⟩; obtain rfl := hw.symm)
    go_returns
    exact ⟨rfl, HD.out, .refl w⟩
  · obtain ⟨q1, q2, q3, q4⟩ := fitB_spec e1 o0
    rw [e1] at hf HR
    cases e2 : hasS n s
    · rw [e2] at HR
      obtain rfl : r = V := HR.out
      obtain ⟨ad, cp, c0, n8⟩ := h.list
      clear h HR
      have q5 : s < 0 ∨ (0 ≤ s ∧ (n : Int) ≤ s) := by
        unfold hasS at e2
        simp at e2
        omega
      clear e2
      rcases q5 with q5 | ⟨q5, q6⟩
      all_goals
        go_enter Try.func18, Try.ntmps18
        go_wp2_with (go_at_call 27; refine (hf _).mono ?_; rintro e w' ⟨rfl, hw⟩; obtain rfl := hw.symm)
        go_returns
        exact ⟨rfl, HD.out, .refl w⟩
    · obtain ⟨r1, r2⟩ := hasS_spec e2
      rw [e2] at HR
      obtain ⟨S, rfl⟩ : ∃ S : Nat, s = S := ⟨s.toNat, by omega⟩
      have er : r = upV V S ((V S).wr o.toNat z.toNat x) := HR.out
      have n8 := h.n
      have hk := h.v S
      have hk2 := hk.wr o.toNat z.toNat x
      obtain ⟨g, cap, c0, m1, m2, c1, c2, c3, c4⟩ := h.at S (by omega)
      obtain ⟨wa, hwa⟩ : ∃ wa, wa = w.alloc (.cells #[.int .i64 (V S).k, .int .u64 (V S).c, .int .u64 (V S).base, .int .u64 (V S).l] 62) := ⟨_, rfl⟩
      have HA1 : Hid (wa.heap[w.heap.size]? = some (.cells #[.int .i64 (V S).k, .int .u64 (V S).c, .int .u64 (V S).base, .int .u64 (V S).l] 62 (0, 0))) := by rw [hwa]; exact heap_alloc_new w _
      have HA2 : Hid (Below w.heap.size w wa) := by rw [hwa]; exact (Below.refl _ _).alloc (Nat.le_refl _) _
      have hb := d_bytes wa (V S).k (V S).c (V S).base (V S).l hk.k.1 hk.k.2 hk.c.1.1 hk.c.1.2 (base_b hk).1 (base_b hk).2 hk.l.1 hk.l.2
      have he : dtab (V S).k (V S).c (V S).base (V S).l = tab (V S) := funext (dtab_tab (V S) hk)
      rw [he] at hb
      obtain ⟨f, hfd⟩ : ∃ f, f = C.put (tab (V S)) o.toNat z.toNat (C.byt x) := ⟨_, rfl⟩
      have HFb : Hid (∀ j, Byt (f j)) := fun j => by
        rw [hfd]
        unfold C.put
        split
        · exact byt_B _ _
        · exact tab_b hk _
      have HPt : Hid (∀ wb, NB wa wb (V S).k (V S).c (V S).base (V S).l (tab (V S)) → Calls Try.prog 31 #[.slice (some ⟨wa.heap.size + 1, 0, none⟩) 256 256, .int .i64 o, .int .i64 z, .int .u64 x] wb fun e w' => e = .returned (.tuple #[]) ∧ SpR w' (wa.heap.size + 1) 5 f 256 256 ∧ w'.heap[w.heap.size]? = some (.cells #[.int .i64 (V S).k, .int .u64 (V S).c, .int .u64 (V S).base, .int .u64 (V S).l] 62 (0, 0)) ∧ Below wa.heap.size wa w') := fun wb hn => by
        have := d_put wb (wa.heap.size + 1) 5 _ hn.b o.toNat z.toNat x v0 v1 (by omega) (by omega)
        rw [Int.toNat_of_nonneg o0, Int.toNat_of_nonneg (by omega : 0 ≤ z), ← hfd] at this
        refine this.mono ?_
        rintro e w' ⟨rfl, k1, k2⟩
        have hlt : w.heap.size < wa.heap.size := lt_of_block HA1.out
        refine ⟨rfl, k1, ?_, hn.c.trans (k2.below _ hn.c.size fun y hy => by omega)⟩
        exact k2.old ((Only.ofBelow (S := fun _ => False) hn.c).old HA1.out fun z => z) (by omega)
      have HGt : Hid (∀ w' (a b : Nat), SpR w' (wa.heap.size + 1) 5 f 256 256 → b ≤ 4 → a + b ≤ 256 → Calls Try.prog 28 #[.slice (some ⟨wa.heap.size + 1, 0, none⟩) 256 256, .int .i64 (a : Int), .int .i64 (b : Int)] w' fun e w'' => e = .returned (.int .u64 (C.nu (fun j => f (a + j)) b)) ∧ w'' = w') := fun w' a b hs h1 h2 => d_get w' _ _ f hs HFb.out a b h1 h2
      have hc6 : bits BinOp.and IntKind.u64 (C.nu (fun j => f (4 + j)) 2) 6 = ((V S).wr o.toNat z.toNat x).c := by rw [hfd]; exact wr_c _ hk _ _ _
      have hb6 : C.nu (fun j => f (16 + j)) 4 / 4096 * 4096 = ((V S).wr o.toNat z.toNat x).base := by rw [hfd]; exact wr_b _ hk _ _ _
      have hl6 : C.nu (fun j => f (60 + j)) 1 = ((V S).wr o.toNat z.toNat x).l := by rw [hfd]; exact wr_l _ hk _ _ _
      have hk6 : ((V S).wr o.toNat z.toNat x).k = (V S).k := rfl
      have hx1 := C.nu_lt (fun j => f (4 + j)) (fun j => HFb.out _) 2
      have hx2 := C.nu_lt (fun j => f (16 + j)) (fun j => HFb.out _) 4
      rw [show (256 : Int) ^ 2 = 65536 by decide] at hx1
      rw [show (256 : Int) ^ 4 = 4294967296 by decide] at hx2
      obtain ⟨X1, hX1⟩ : ∃ X1, X1 = C.nu (fun j => f (4 + j)) 2 := ⟨_, rfl⟩
      obtain ⟨X2, hX2⟩ : ∃ X2, X2 = C.nu (fun j => f (16 + j)) 4 := ⟨_, rfl⟩
      have HG4 : Hid (∀ w', SpR w' (wa.heap.size + 1) 5 f 256 256 → Calls Try.prog 28 #[.slice (some ⟨wa.heap.size + 1, 0, none⟩) 256 256, .int .i64 4, .int .i64 2] w' fun e w'' => e = .returned (.int .u64 X1) ∧ w'' = w') := fun w' hs => by rw [hX1]; exact HGt.out w' 4 2 hs (by decide) (by decide)
      have HG16 : Hid (∀ w', SpR w' (wa.heap.size + 1) 5 f 256 256 → Calls Try.prog 28 #[.slice (some ⟨wa.heap.size + 1, 0, none⟩) 256 256, .int .i64 16, .int .i64 4] w' fun e w'' => e = .returned (.int .u64 X2) ∧ w'' = w') := fun w' hs => by rw [hX2]; exact HGt.out w' 16 4 hs (by decide) (by decide)
      have HG60 : Hid (∀ w', SpR w' (wa.heap.size + 1) 5 f 256 256 → Calls Try.prog 28 #[.slice (some ⟨wa.heap.size + 1, 0, none⟩) 256 256, .int .i64 60, .int .i64 1] w' fun e w'' => e = .returned (.int .u64 ((V S).wr o.toNat z.toNat x).l) ∧ w'' = w') := fun w' hs => by rw [← hl6]; exact HGt.out w' 60 1 hs (by decide) (by decide)
      rw [← hX1] at hc6 hx1
      rw [← hX2] at hb6 hx2
      obtain ⟨X10, X11⟩ := hx1
      obtain ⟨X20, X21⟩ := hx2
      obtain ⟨vv, hvv⟩ : ∃ vv, vv = (V S).wr o.toNat z.toNat x := ⟨_, rfl⟩
      rw [← hvv] at hc6 hb6 hk6 HG60 er hk2
      obtain ⟨cc0, cc1⟩ := hk2.c.1
      obtain ⟨bb0, bb1⟩ := base_b hk2
      have HFin : Hid (∀ wf, Below w.heap.size w wf → ∀ m, ∀ w9, w9 = (((((wf.drewN m).setCell ⟨g, S * 4, none⟩ (.int .i64 vv.k)).setCell ⟨g, S * 4 + 1, none⟩ (.int .u64 vv.c)).setCell ⟨g, S * 4 + 2, none⟩ (.int .u64 vv.base)).setCell ⟨g, S * 4 + 3, none⟩ (.int .u64 vv.l)) → Dq w9 F p n r ∧ Only F w w9) := fun wf hbf m w9 hw9 => by
        obtain ⟨u, k1, k2⟩ := HD.out.b
        have hu : u = .slice (some ⟨g, 0, none⟩) n cap := by
          have := cell_of_row w p 0 _ _ _ k1.top
          rw [c0] at this
          simpa using this.symm
        subst hu
        have kd := HD.out.below (hbf.trans ⟨rfl, rfl, rfl, Nat.le_refl _, fun _ _ => rfl⟩ : Below w.heap.size w (wf.drewN m))
        obtain ⟨u', j1, j2⟩ := kd.b
        have hgF : F g := (k2 g).2 (.inr rfl)
        have hpF : F p := (k2 p).2 (.inl rfl)
        have ow : (wf.drewN m).ownsRow 0 62 4 (.slice (some ⟨g, 0, none⟩) n cap) n (slc V n) := own_below k1.own (hbf.trans ⟨rfl, rfl, rfl, Nat.le_refl _, fun _ _ => rfl⟩)
        have o9 := own_slot ow S vv (by omega)
        rw [← hw9, ← er] at o9
        have hon : Only (· = g) (wf.drewN m) w9 := by
          rw [hw9]
          exact ((((Only.refl (S := (· = g)) _).setCell (.inl rfl) _).setCell (.inl rfl) _).setCell (.inl rfl) _).setCell (.inl rfl) _
        have hpg : p ≠ g := fun e => own_ne k1.own k1.top (by decide) g rfl e.symm
        have tp : (wf.drewN m).heap[p]? = some (.cells #[.slice (some ⟨g, 0, none⟩) n cap] 38 (0, 0)) := (hbf.block p (lt_of_block k1.top)).trans k1.top
        exact ⟨⟨⟨_, ⟨hon.old tp hpg, o9⟩, k2⟩, HRV.out, n8⟩, (Only.ofBelow (hbf.trans ⟨rfl, rfl, rfl, Nat.le_refl _, fun _ _ => rfl⟩ : Below w.heap.size w (wf.drewN m))).trans (hon.mono fun y _ hy => by rw [hy]; exact hgF)⟩
      have HCf : Hid (∀ wf, Below w.heap.size w wf → wf.cell? ⟨p, 0, none⟩ = some (.slice (some ⟨g, 0, none⟩) n cap) ∧ wf.cell? ⟨g, S * 4, none⟩ = some (.int .i64 (V S).k) ∧ wf.cell? ⟨g, S * 4 + 1, none⟩ = some (.int .u64 (V S).c) ∧ wf.cell? ⟨g, S * 4 + 2, none⟩ = some (.int .u64 (V S).base) ∧ wf.cell? ⟨g, S * 4 + 3, none⟩ = some (.int .u64 (V S).l) ∧ ∀ i, wf.frozen? ⟨g, i, none⟩ = false) := fun wf hbf => by
        obtain ⟨u, k1, k2⟩ := HD.out.b
        have hu : u = .slice (some ⟨g, 0, none⟩) n cap := by
          have := cell_of_row w p 0 _ _ _ k1.top
          rw [c0] at this
          simpa using this.symm
        subst hu
        obtain ⟨cur, y⟩ := own_typ k1.own (k := g) rfl
        have hg' := (hbf.block g (lt_of_block y)).trans y
        have hce : ∀ i, wf.cell? ⟨g, i, none⟩ = w.cell? ⟨g, i, none⟩ := fun i => World.cell?_of_block (w := w) (hbf.block g (lt_of_block y))
        refine ⟨(World.cell?_of_block (w := w) (hbf.block p (lt_of_block k1.top))).trans c0, ?_, ?_, ?_, ?_, fun i => frozen_of_row wf g i _ _ hg'⟩
        · rw [hce]; exact c1
        · rw [hce]; exact c2
        · rw [hce]; exact c3
        · rw [hce]; exact c4
      have hlw : w.heap.size < wa.heap.size := lt_of_block HA1.out
      have HLW := hid hlw
      clear h HR HGt hk he hfd hX1 hX2 hl6 hvv HD HRV er hk2 e2 e1
      generalize (V S).k = xk at *
      generalize (V S).c = xc at *
      generalize (V S).base = xb at *
      generalize (V S).l = xl at *
      generalize tab (V S) = tb at *
      have HWA := hid hwa
      clear hwa
      go_enter Try.func18, Try.ntmps18
      go_upto_region 6 with (go_at_call 27; refine (hf _).mono ?_; rintro e w' ⟨rfl, hw⟩; obtain rfl := hw.symm; clear hf)
      rw [← HWA.out]
      clear HWA c0 c1 c2 c3 c4
      obtain ⟨y, hy⟩ : ∃ y, y = w.heap.size := ⟨_, rfl⟩
      rw [← hy] at HA1 HPt ⊢
      have HYw := hid hy
      clear hy
      have hwe : ∀ i, wa.cell? ⟨y, i, none⟩ = #[Value.int .i64 xk, .int .u64 xc, .int .u64 xb, .int .u64 xl][i]? := fun i => cell_of_row wa y i _ _ _ HA1.out
      have a0 := hwe 0
      have a1 := hwe 1
      have a2 := hwe 2
      have a3 := hwe 3
      simp only [List.getElem?_toArray, List.getElem?_cons_zero, List.getElem?_cons_succ] at a0 a1 a2 a3
      clear hwe
      go_upto_region 8 with (first
        | (go_at_call 29; refine hb.mono ?_; rintro e wb ⟨rfl, hn⟩; have hp := HPt.out wb hn; clear hn hb)
        | (go_at_call 31; refine hp.mono ?_; rintro e wc ⟨rfl, k1, k2, k3⟩; have K1 := hid k1; have K2 := hid k2; have K3 := hid k3; clear k1 k2 k3 hp))
      have hyw : y < wa.heap.size := by rw [HYw.out]; exact HLW.out
      have HS1 : Hid (∀ q1, SpR (wc.setCell ⟨y, 1, none⟩ q1) (wa.heap.size + 1) 5 f 256 256) := fun q1 => K1.out.only (only_c wc y 1 q1) (by omega)
      have HS2 : Hid (∀ q1 q2, SpR ((wc.setCell ⟨y, 1, none⟩ q1).setCell ⟨y, 2, none⟩ q2) (wa.heap.size + 1) 5 f 256 256) := fun q1 q2 => (HS1.out q1).only (only_c _ y 2 q2) (by omega)
      have h4 := HG4.out wc K1.out
      have h16 := fun q1 => HG16.out _ (HS1.out q1)
      have h60 := fun q1 q2 => HG60.out _ (HS2.out q1 q2)
      have d0 : wc.cell? ⟨y, 0, none⟩ = some (.int .i64 xk) := cell_of_row wc y 0 _ _ _ K2.out
      have d1 : wc.cell? ⟨y, 1, none⟩ = some (.int .u64 xc) := cell_of_row wc y 1 _ _ _ K2.out
      have d2 : wc.cell? ⟨y, 2, none⟩ = some (.int .u64 xb) := cell_of_row wc y 2 _ _ _ K2.out
      have d3 : wc.cell? ⟨y, 3, none⟩ = some (.int .u64 xl) := cell_of_row wc y 3 _ _ _ K2.out
      have dz : ∀ i, wc.frozen? ⟨y, i, none⟩ = false := fun i => frozen_of_row wc y i _ _ K2.out
      have z1 := dz 1
      have z2 := dz 2
      have z3 := dz 3
      clear dz a0 a1 a2 a3
      go_upto_region 11 with (first
        | (go_at_call 28; (with_reducible refine h4.mono ?_); rintro e w' ⟨rfl, hw⟩; obtain rfl := hw.symm; clear h4)
        | (go_at_call 28; (with_reducible refine (h16 _).mono ?_); rintro e w' ⟨rfl, hw⟩; obtain rfl := hw.symm; clear h16)
        | (go_at_call 28; (with_reducible refine (h60 _ _).mono ?_); rintro e w' ⟨rfl, hw⟩; obtain rfl := hw.symm; clear h60))
      obtain ⟨wf, hwf⟩ : ∃ wf, wf = (((wc.setCell ⟨y, 1, none⟩ (.int .u64 vv.c)).setCell ⟨y, 2, none⟩ (.int .u64 vv.base)).setCell ⟨y, 3, none⟩ (.int .u64 vv.l)) := ⟨_, rfl⟩
      have HKf : Hid (wf.heap[y]? = some (.cells #[.int .i64 xk, .int .u64 vv.c, .int .u64 vv.base, .int .u64 vv.l] 62 (0, 0))) := by
        rw [hwf]
        exact setRowB _ y 3 _ _ _ _ (setRowB _ y 2 _ _ _ _ (setRowB _ y 1 _ _ _ _ K2.out rfl) rfl) rfl
      have HBf : Hid (Below w.heap.size w wf) := by
        have b1 : Below w.heap.size w wc := HA2.out.trans (K3.out.mono HA2.out.size)
        rw [hwf]
        refine ((b1.setCell ?_ _).setCell ?_ _).setCell ?_ _ <;> (show w.heap.size ≤ y; rw [HYw.out]; exact Nat.le_refl _)
      rw [← hwf]
      clear hwf d0 d1 d2 d3 z1 z2 z3 HS1 HS2
      have f0 : wf.cell? ⟨y, 0, none⟩ = some (.int .i64 xk) := cell_of_row wf y 0 _ _ _ HKf.out
      have f1 : wf.cell? ⟨y, 1, none⟩ = some (.int .u64 vv.c) := cell_of_row wf y 1 _ _ _ HKf.out
      have f2 : wf.cell? ⟨y, 2, none⟩ = some (.int .u64 vv.base) := cell_of_row wf y 2 _ _ _ HKf.out
      have f3 : wf.cell? ⟨y, 3, none⟩ = some (.int .u64 vv.l) := cell_of_row wf y 3 _ _ _ HKf.out
      obtain ⟨t0, t1, t2, t3, t4, tz⟩ := HCf.out wf HBf.out
      have tz0 := tz (S * 4)
      have tz1 := tz (S * 4 + 1)
      have tz2 := tz (S * 4 + 2)
      have tz3 := tz (S * 4 + 3)
      have HFF : Hid (∀ m w9, w9 = (((((wf.drewN m).setCell ⟨g, S * 4, none⟩ (.int .i64 xk)).setCell ⟨g, S * 4 + 1, none⟩ (.int .u64 vv.c)).setCell ⟨g, S * 4 + 2, none⟩ (.int .u64 vv.base)).setCell ⟨g, S * 4 + 3, none⟩ (.int .u64 vv.l)) → Dq w9 F p n r ∧ Only F w w9) := fun m w9 h9 => HFin.out wf HBf.out m w9 (by rw [hk6]; exact h9)
      clear tz HFin HCf hk6 hc6 hb6
      generalize vv.c = vc at *
      generalize vv.base = vb at *
      generalize vv.l = vl at *
      refine wp_region_last_lit (by simp) (by kernel_rfl) (by kernel_rfl) (by kernel_rfl) ?_
      simp only [List.dropLast, List.getLast]
      repeat (go_big_quiet_step (fail))
      refine wpQuiet_nil ?_
      intro _ hwq
      obtain ⟨nq, hwq⟩ := hwq
      subst hwq
      go_wp2
      go_returns
      exact ⟨rfl, HFF.out _ _ rfl⟩
end Go.Proofs.Ytpplcijdhedjcaa
namespace Go.Proofs.Ytpplcijdhedjcaa
open Go.RowKit
open C (Only hid Still ret_bool ret_int row)
set_option linter.unusedVariables false
set_option maxRecDepth 100000

set_option maxHeartbeats 4000000 in
theorem c_New_no (W : World) (ad : Option Addr) (n cap b o : Nat) (K : Nat → Int) (hL : Ls W ad n cap b o K) (n8 : n ≤ 8) (hK : ¬ ∀ j, j < n → 0 ≤ K j ∧ K j ≤ 255) : Calls Try.prog 8 #[.slice ad n cap] W fun e w' => e = .returned (.tuple #[.pointer none, .int .i64 1]) ∧ Below W.heap.size W w' := by
  have HL := hid hL
  have HK := hid hK
  clear hL hK
  go_enter Try.func8, Try.ntmps8
  go_wp2_with fail
  obtain ⟨p, hp⟩ : ∃ p, p = W.heap.size := ⟨_, rfl⟩
  rw [← hp]
  have HPp := hid hp
  have HB0 : Hid (Bx (W.alloc (.cells #[.slice none 0 0] 57)) p (.slice none 0 0) 0 (spn K)) := by
    rw [HPp.out]
    exact ⟨heap_alloc_new W _, rfl, .inl ⟨rfl, rfl⟩⟩
  have HW0 : Hid (Below W.heap.size W (W.alloc (.cells #[.slice none 0 0] 57))) := (Below.refl _ _).alloc (Nat.le_refl _) _
  clear hp
  generalize W.alloc (.cells #[.slice none 0 0] 57) = w00 at *
  go_loopw [14] (fun i wr => ∃ (j : Nat) (u : Value), j ≤ n ∧ i = .int .i64 j ∧ Hid (Bx wr p u j (spn K)) ∧ Hid (Below W.heap.size W wr) ∧ Hid (∀ k, Ug u k → W.heap.size ≤ k) ∧ Hid (∀ i, i < j → 0 ≤ K i ∧ K i ≤ 255)) (fun i _ => n - (intOf i).toNat)
  case atStart => exact ⟨0, .slice none 0 0, by omega, rfl, HB0, HW0, fun k hk => (by cases hk), fun i hi => absurd hi (Nat.not_lt_zero i)⟩
  case round =>
    obtain ⟨j, u, hj, rfl, HB, HBW, HFR, HGD⟩ := hrel
    by_cases hlt : j < n
    · obtain ⟨rfl, -⟩ := HL.out.at0 (by omega)
      have hcl := HL.out.len
      have hcc := HL.out.cap
      have hc : wr.cell? ⟨b, o + j, none⟩ = some (.int .i64 (K j)) := (HL.out.below HBW.out).cell j hlt
      by_cases hgd : 0 ≤ K j ∧ K j ≤ 255
      · obtain ⟨k0, k1⟩ := hgd
        have HKG : Hid (0 ≤ K j ∧ K j ≤ 255) := ⟨k0, k1⟩
        obtain ⟨kk, hkk⟩ : ∃ kk, K j = kk := ⟨_, rfl⟩
        rw [hkk] at hc k0 k1
        have HKK := hid hkk
        clear hkk
        have HNS : Hid (∀ w, Calls Try.prog 23 #[.int .i64 kk] w fun e w' => e = .returned (.agg (row (sp0 kk) 0 256).toArray) ∧ Below w.heap.size w w') := fun w => c_newSpace w kk k0 (by omega)
        obtain ⟨f, hf⟩ : ∃ f, f = spn K := ⟨_, rfl⟩
        have HBF : Hid (∀ i, i < j * 256 → f i = spn K i) := fun i _ => by rw [hf]
        rw [← hf] at HB
        clear hf
        go_wp2
        refine wp_region_any (by kernel_rfl) ?_
        obtain ⟨w0, hw0⟩ : ∃ w0, w0 = wr.drew := ⟨_, rfl⟩
        rw [show ({ wr with drawn := wr.drawn + 1 } : World) = w0 from hw0.symm]
        have HTP : Hid (w0.heap[p]? = some (.cells #[u] 57 (0, 0))) := by rw [hw0]; exact HB.out.top
        have HOW : Hid (w0.ownsRow 0 59 256 u j (row f 0 (j * 256))) := by rw [hw0]; exact own_below HB.out.own (Below.refl _ _).drew
        have HDR : Hid (Only (fun _ => False) wr w0) := by rw [hw0]; exact (Only.refl wr).drew
        clear hw0
        have HLD : Hid (∀ s x w, s ≤ 3 → MD w0 u j f kk p s x w → w.cell? ⟨p, 0, none⟩ = some u) := fun s x w hs hm => by
          have hd := own_ne HOW.out HTP.out (by decide)
          match s, hm with
          | 0, hm => rw [show w = w0 from hm]; exact cell_of_row w0 p 0 _ _ _ HTP.out
          | 1, hm => exact cell_of_row w p 0 _ _ _ ((Only.ofBelow (S := fun _ => False) hm).old HTP.out fun z => z)
          | 2, ⟨w1, m1, m2, m3⟩ => exact cell_of_row w p 0 _ _ _ ((Only.ofBelow (S := fun _ => False) (by rw [m3]; exact m1.alloc m1.size _)).old HTP.out fun z => z)
          | 3, ⟨m1, m2, m3⟩ => exact cell_of_row w p 0 _ _ _ (m2.old HTP.out fun z => hd p z rfl)
        refine wpAny_fx (α := Value × Value) (fun x => fun dd => if dd = 24 then .pointer (some ⟨p, 0, none⟩) else if dd = 25 then .pointer (some ⟨p, 0, none⟩) else if dd = 26 then .pointer (some ⟨p, 0, none⟩) else if dd = 27 then .pointer (some ⟨p, 0, none⟩) else if dd = 28 then u else if dd = 29 then .int .i64 kk else if dd = 30 then .agg (row (sp0 kk) 0 256).toArray else if dd = 31 then x.1 else if dd = 32 then x.2 else if dd = 33 then .pointer (some ⟨p, 0, none⟩) else if dd = 34 then .pointer (some ⟨p, 0, none⟩) else undef) (VL [6, 7, 8, 11] 11 9 (MD w0 u j f kk p)) ?step ?fin (.bool true, .bool true) ?start
        case start => exact .start rfl
        case step =>
          rintro listed fr wr x hF hW i hj
          obtain ⟨hl, o, ho, he⟩ := mem_ready.1 hj
          have hjl : i < listed.size := by rw [hF.ls]; exact (Array.getElem?_eq_some_iff.1 ho).1
          have hl0 := getD_tf hjl hl
          clear hj
          have HF := hid hF
          have HW := hid hW
          have HE := hid he
          clear hF hW he hl
          match i, ho with
          | 0, ho =>
            obtain rfl := Option.some.inj ho
            have e4 : fr.tmps[4]?.getD undef = .pointer (some ⟨p, 0, none⟩) := HF.out.base 4 (by kernel_rfl) rfl
            exact wp_q rfl rfl (by simp [execOp, go_sem, e4]; try rfl) ⟨x, HF.out.put (by kernel_rfl) rfl rfl rfl (of_decide_eq_true rfl), HW.out.q hjl (by decide) (by decide)⟩
          | 1, ho =>
            obtain rfl := Option.some.inj ho
            have e4 : fr.tmps[4]?.getD undef = .pointer (some ⟨p, 0, none⟩) := HF.out.base 4 (by kernel_rfl) rfl
            exact wp_q rfl rfl (by simp [execOp, go_sem, e4]; try rfl) ⟨x, HF.out.put (by kernel_rfl) rfl rfl rfl (of_decide_eq_true rfl), HW.out.q hjl (by decide) (by decide)⟩
          | 2, ho =>
            obtain rfl := Option.some.inj ho
            have e25 : fr.tmps[25]?.getD undef = .pointer (some ⟨p, 0, none⟩) := HF.out.ev (i := 1) rfl rfl (HE.out ⟨1, .data⟩ (by simp) rfl)
            exact wp_q rfl rfl (by simp [execOp, go_sem, e25]; try rfl) ⟨x, HF.out.put (by kernel_rfl) rfl rfl rfl (of_decide_eq_true rfl), HW.out.q hjl (by decide) (by decide)⟩
          | 3, ho =>
            obtain rfl := Option.some.inj ho
            have e26 : fr.tmps[26]?.getD undef = .pointer (some ⟨p, 0, none⟩) := HF.out.ev (i := 2) rfl rfl (HE.out ⟨2, .data⟩ (by simp) rfl)
            exact wp_q rfl rfl (by simp [execOp, go_sem, e26]; try rfl) ⟨x, HF.out.put (by kernel_rfl) rfl rfl rfl (of_decide_eq_true rfl), HW.out.q hjl (by decide) (by decide)⟩
          | 4, ho =>
            obtain rfl := Option.some.inj ho
            have e27 : fr.tmps[27]?.getD undef = .pointer (some ⟨p, 0, none⟩) := HF.out.ev (i := 3) rfl rfl (HE.out ⟨3, .data⟩ (by simp) rfl)
            have hc : wr.cell? ⟨p, 0, none⟩ = some u := HW.out.upto 3 rfl hl0 (by decide) (fun s hs hm => HLD.out s x wr hs hm)
            exact wp_q rfl rfl (by simp [execOp, go_sem, e27, hc]; try rfl) ⟨x, HF.out.put (by kernel_rfl) rfl rfl rfl (of_decide_eq_true rfl), HW.out.q hjl (by decide) (by decide)⟩
          | 5, ho =>
            obtain rfl := Option.some.inj ho
            have e6 : fr.tmps[6]?.getD undef = .int .i64 kk := HF.out.base 6 (by kernel_rfl) rfl
            exact wp_q rfl rfl (by simp [execOp, go_sem, e6]; try rfl) ⟨x, HF.out.put (by kernel_rfl) rfl rfl rfl (of_decide_eq_true rfl), HW.out.q hjl (by decide) (by decide)⟩
          | 6, ho =>
            obtain rfl := Option.some.inj ho
            have e29 : fr.tmps[29]?.getD undef = .int .i64 kk := HF.out.ev (i := 5) rfl rfl (HE.out ⟨5, .data⟩ (by simp) rfl)
            have m0 := HW.out.1.at 0 rfl hl0 (fun j hj => by omega)
            subst m0
            refine wp_c1 rfl rfl _ _ _ rfl (.int .i64 kk) (by simp [Act.eval, e29]) (Try.call23 _ _) (HNS.out _) ?_
            rintro r w7 ⟨rfl, kb⟩
            exact ⟨_, rfl, x, HF.out.put (by kernel_rfl) rfl rfl rfl (of_decide_eq_true rfl), HW.out.go 0 hjl rfl hl0 (fun j hj => by omega) (by intro a ha; match a, ha with | 0, _ => rfl | 1, ha => simp at ha | 2, ha => simp at ha | 3, ha => simp at ha) kb (by decide)⟩
          | 7, ho =>
            obtain rfl := Option.some.inj ho
            have e30 : fr.tmps[30]?.getD undef = .agg (row (sp0 kk) 0 256).toArray := HF.out.ev (i := 6) rfl rfl (HE.out ⟨6, .data⟩ (by simp) rfl)
            have h6 : listed.getD 6 false = true := HE.out ⟨6, .data⟩ (by simp) rfl
            have m1 := HW.out.1.at 1 rfl hl0 (fun j hj => by obtain rfl : j = 0 := (by omega); exact ⟨6, rfl, h6⟩)
            obtain ⟨i0, hi0, hz0, hs0, hb0⟩ := info_parts info_space
            refine wp_bs rfl rfl 55 59 1 _ rfl (row (sp0 kk) 0 256).toArray i0 _ u_sspace hi0 hz0 (by rw [hs0]; decide) (by rw [hs0]; decide) ?_ ?_
            · have := Great.fill_whole (s := 256) (by decide) [.agg (row (sp0 kk) 0 256).toArray] ((Array.range (1 * 256)).map (((Value.agg (List.replicate 256 (Value.int .u8 0)).toArray).cells)[· % (Value.agg (List.replicate 256 (Value.int .u8 0)).toArray).cells.size]!)) (fun v hv => by rw [List.mem_singleton.1 hv]; simp [Value.cells, C.row_length]) (by simp)
              rw [hs0]
              have e1 : Act.eval fr (.tmp 30) = .agg (row (sp0 kk) 0 256).toArray := by simp [Act.eval, e30]
              simp only [List.map_toArray, List.map_cons, List.map_nil, e1]
              refine this.trans ?_
              simp [Value.cells]
            have HFy : Hid (FrQ _ ((fun x : Value × Value => fun dd => if dd = 24 then .pointer (some ⟨p, 0, none⟩) else if dd = 25 then .pointer (some ⟨p, 0, none⟩) else if dd = 26 then .pointer (some ⟨p, 0, none⟩) else if dd = 27 then .pointer (some ⟨p, 0, none⟩) else if dd = 28 then u else if dd = 29 then .int .i64 kk else if dd = 30 then .agg (row (sp0 kk) 0 256).toArray else if dd = 31 then x.1 else if dd = 32 then x.2 else if dd = 33 then .pointer (some ⟨p, 0, none⟩) else if dd = 34 then .pointer (some ⟨p, 0, none⟩) else undef) (.slice (some ⟨wr.heap.size, 0, none⟩) 1 1, x.2)) _ listed fr) := HF.out.swap (fun j o d g1 g2 g3 => by
              by_cases e : d = 31
              · subst e
                have := ndB_spec (j := j) (k := 7) (d := 31) (by kernel_rfl) g1 rfl g2 rfl
                subst this
                rw [hl0] at g3; cases g3
              · simp [e])
            exact ⟨(.slice (some ⟨wr.heap.size, 0, none⟩) 1 1, x.2), HFy.out.put (by kernel_rfl) rfl rfl rfl (of_decide_eq_true rfl), HW.out.go 1 hjl rfl hl0 (fun j hj => by obtain rfl : j = 0 := (by omega); exact ⟨6, rfl, h6⟩) (by intro a ha; match a, ha with | 0, ha => simp at ha | 1, _ => rfl | 2, ha => simp at ha | 3, ha => simp at ha) ⟨wr, m1, rfl, rfl⟩ (by decide)⟩
          | 8, ho =>
            obtain rfl := Option.some.inj ho
            have e28 : fr.tmps[28]?.getD undef = u := HF.out.ev (i := 4) rfl rfl (HE.out ⟨4, .data⟩ (by simp) rfl)
            have e31 : fr.tmps[31]?.getD undef = x.1 := HF.out.ev (i := 7) rfl rfl (HE.out ⟨7, .data⟩ (by simp) rfl)
            have h7 : listed.getD 7 false = true := HE.out ⟨7, .data⟩ (by simp) rfl
            obtain ⟨w1, m1, m2, rfl⟩ := HW.out.1.at 2 rfl hl0 (fun j hj => by obtain rfl : j = 1 := (by omega); exact ⟨7, rfl, h7⟩)
            obtain ⟨i0, hi0, hz0, hs0, hb0⟩ := info_parts info_space
            have hb1 : Below w0.heap.size w0 (w1.alloc (.cells (row (sp0 kk) 0 256).toArray 59)) := m1.alloc m1.size _
            have e28' : Act.eval fr (.tmp 28) = u := by simp [Act.eval, e28]
            have e31' : Act.eval fr (.tmp 31) = .slice (some ⟨w1.heap.size, 0, none⟩) 1 1 := by simp [Act.eval, e31, m2]
            refine wpOp_step rfl fun K' hK => ?_
            refine step_append_blk _ (.tmp 28) (.tmp 31) 55 rfl 59 i0 _ 256 256 u_sspace hi0 hz0 hs0 hb0 (by simp [Value.cells]) (by decide) u j (row f 0 (j * 256)) e28' (own_only HOW.out (T := fun _ => False) (.ofBelow hb1) fun _ _ z => z) ⟨w1.heap.size, 0, none⟩ 1 1 (row (sp0 kk) 0 256) e31' (by simp [C.row_length]) ?_ (C.row_one _ _ _) (show j + 1 ≤ 9223372036854775807 by omega) (by omega) rfl ?_
            · intro i v hv
              have hi : i < 256 := by
                rcases Nat.lt_or_ge i 256 with q | q
                · exact q
                · rw [List.getElem?_eq_none (by simpa [C.row_length] using q)] at hv; cases hv
              rw [C.addr_add, Nat.zero_add, cell_of_row _ _ i _ _ _ (heap_alloc_new w1 _)]
              simpa using hv
            intro v' w3 hown hgrow hblk
            have ho : Only (Ug u) w0 w3 := (Only.ofBelow hb1).trans (grown_ug hgrow)
            have HFy : Hid (FrQ _ ((fun x : Value × Value => fun dd => if dd = 24 then .pointer (some ⟨p, 0, none⟩) else if dd = 25 then .pointer (some ⟨p, 0, none⟩) else if dd = 26 then .pointer (some ⟨p, 0, none⟩) else if dd = 27 then .pointer (some ⟨p, 0, none⟩) else if dd = 28 then u else if dd = 29 then .int .i64 kk else if dd = 30 then .agg (row (sp0 kk) 0 256).toArray else if dd = 31 then x.1 else if dd = 32 then x.2 else if dd = 33 then .pointer (some ⟨p, 0, none⟩) else if dd = 34 then .pointer (some ⟨p, 0, none⟩) else undef) (x.1, v')) _ listed fr) := HF.out.swap (fun j o d g1 g2 g3 => by
              by_cases e : d = 32
              · subst e
                have := ndB_spec (j := j) (k := 8) (d := 32) (by kernel_rfl) g1 rfl g2 rfl
                subst this
                rw [hl0] at g3; cases g3
              · simp [e])
            exact hK _ _ ⟨(x.1, v'), HFy.out.put (by kernel_rfl) rfl rfl rfl (of_decide_eq_true rfl), HW.out.go 2 hjl rfl hl0 (fun j hj => by obtain rfl : j = 1 := (by omega); exact ⟨7, rfl, h7⟩) (by intro a ha; match a, ha with | 0, ha => simp at ha | 1, ha => simp at ha | 2, _ => rfl | 3, ha => simp at ha) ⟨hown, ho, fun k hk => (hblk k hk).imp id fun z => Nat.le_trans hb1.size z⟩ (by decide)⟩
          | 9, ho =>
            obtain rfl := Option.some.inj ho
            have e24 : fr.tmps[24]?.getD undef = .pointer (some ⟨p, 0, none⟩) := HF.out.ev (i := 0) rfl rfl (HE.out ⟨0, .data⟩ (by simp) rfl)
            exact wp_q rfl rfl (by simp [execOp, go_sem, e24]; try rfl) ⟨x, HF.out.put (by kernel_rfl) rfl rfl rfl (of_decide_eq_true rfl), HW.out.q hjl (by decide) (by decide)⟩
          | 10, ho =>
            obtain rfl := Option.some.inj ho
            have e33 : fr.tmps[33]?.getD undef = .pointer (some ⟨p, 0, none⟩) := HF.out.ev (i := 9) rfl rfl (HE.out ⟨9, .data⟩ (by simp) rfl)
            exact wp_q rfl rfl (by simp [execOp, go_sem, e33]; try rfl) ⟨x, HF.out.put (by kernel_rfl) rfl rfl rfl (of_decide_eq_true rfl), HW.out.q hjl (by decide) (by decide)⟩
          | 11, ho =>
            obtain rfl := Option.some.inj ho
            have e34 : fr.tmps[34]?.getD undef = .pointer (some ⟨p, 0, none⟩) := HF.out.ev (i := 10) rfl rfl (HE.out ⟨10, .data⟩ (by simp) rfl)
            have e32 : fr.tmps[32]?.getD undef = x.2 := HF.out.ev (i := 8) rfl rfl (HE.out ⟨8, .data⟩ (by simp) rfl)
            have ha : ∀ j, j < 9 → listed.getD j false = true := he_all HE.out 9 (by kernel_rfl)
            obtain ⟨m1, m2, m3⟩ := HW.out.1.at 3 rfl hl0 (fun j hj => by obtain rfl : j = 2 := (by omega); exact ⟨8, rfl, ha 8 (by decide)⟩)
            have c1 : wr.cell? ⟨p, 0, none⟩ = some u := by
              have := m2.old HTP.out (fun z => own_ne HOW.out HTP.out (by decide) p z rfl)
              exact cell_of_row wr p 0 _ _ _ this
            have z1 : wr.frozen? ⟨p, 0, none⟩ = false := by
              have := m2.old HTP.out (fun z => own_ne HOW.out HTP.out (by decide) p z rfl)
              exact frozen_of_row wr p 0 _ _ this
            have o1 : x.2.oneCell' = true := by
              rcases m1.2 with ⟨q, -⟩ | ⟨g, cap, cur, q, -⟩ <;> rw [q] <;> rfl
            obtain ⟨ad3, l3, cp3, hx2⟩ : ∃ ad l c, x.2 = .slice ad l c := by
              rcases m1.2 with ⟨q, -⟩ | ⟨g, cap, cur, q, -⟩ <;> exact ⟨_, _, _, q⟩
            exact wp_s rfl rfl (w' := wr.setCell ⟨p, 0, none⟩ x.2) (by rw [hx2] at e32; simp [execOp, go_sem, e34, e32, c1, z1, hx2]; try rfl) ⟨x, HF.out.skip rfl rfl _, HW.out.last 3 hjl rfl hl0 (fun j hj => by obtain rfl : j = 2 := (by omega); exact ⟨8, rfl, ha 8 (by decide)⟩) (by intro a h; match a, h with | 0, h => simp at h | 1, h => simp at h | 2, h => simp at h | 3, _ => rfl) ⟨wr, m1, m2, m3, rfl⟩ ha⟩
        case fin =>
          rintro listed fr w2 x hF hW hr
          have all := allDone hr hF.ls (by kernel_rfl)
          have k1 := hW.1.end 3 rfl (all 11 (by decide)) (fun s hs hm => by
            match s, hs, hm with
            | 4, _, hm => exact hm
            | n + 5, _, hm => exact hm.elim)
          obtain ⟨w3, m1, m2, m3, rfl⟩ := k1
          rw [hF.full all]
          clear hF hW hr all
          obtain ⟨u2, hu2⟩ : ∃ u2, u2 = x.2 := ⟨_, rfl⟩
          have HB2 : Hid (Bx (w3.setCell ⟨p, 0, none⟩ x.2) p u2 (j + 1) (spn K)) := by rw [hu2]; exact bx_grow HTP.out HOW.out m1 m2 (fun i hi => HBF.out i hi) (by rw [HKK.out])
          have HO2 : Hid (Below W.heap.size W (w3.setCell ⟨p, 0, none⟩ x.2)) := (HBW.out.trans (((HDR.out.mono (T := fun x => W.heap.size ≤ x) (fun _ _ z => z.elim)).trans (m2.mono fun k _ hk => HFR.out k hk)).below _ HBW.out.size fun k hk => hk)).setCell (by rw [HPp.out]; exact Nat.le_refl _) _
          have HF2 : Hid (∀ k, Ug u2 k → W.heap.size ≤ k) := by rw [hu2]; exact fun k hk => (m3 k hk).elim (HFR.out k) fun z => Nat.le_trans HBW.out.size (Nat.le_trans HDR.out.size z)
          clear m1 m2 m3 hu2 HLD
          generalize w3.setCell ⟨p, 0, none⟩ x.2 = w4 at *
          simp only [List.foldl_cons, List.foldl_nil, fillF]
          go_simp
          go_wp2
          go_roundw
          case rel => exact ⟨j + 1, u2, by omega, by go_num, HB2, HO2, HF2, fun i hi => by
              rcases Nat.lt_or_ge i j with z | z
              · exact HGD.out i z
              · obtain rfl : i = j := (by omega)
                exact HKG.out⟩
          case measure => simp [intOf]; omega
      · obtain ⟨x0, x1⟩ := HL.out.num j hlt
        generalize K j = kk at *
        have hg2 : kk < 0 ∨ (0 ≤ kk ∧ 255 < kk) := by omega
        clear hgd
        rcases hg2 with q1 | ⟨q1, q2⟩
        all_goals
          go_wp2
          go_returns
          exact ⟨rfl, HBW.out⟩
    · exact absurd (fun i hi => HGD.out i (by omega)) HK.out
set_option maxHeartbeats 4000000 in
theorem d_New_no (W : World) (ad : Option Addr) (n cap b o : Nat) (K : Nat → Int) (hL : Ls W ad n cap b o K) (n8 : n ≤ 8) (hK : ¬ ∀ j, j < n → 0 ≤ K j ∧ K j ≤ 255) : Calls Try.prog 9 #[.slice ad n cap] W fun e w' => e = .returned (.tuple #[.pointer none, .int .i64 1]) ∧ Below W.heap.size W w' := by
  have HL := hid hL
  have HK := hid hK
  clear hL hK
  obtain ⟨V, hV⟩ : ∃ V : Nat → Sv, V = fun i => sv0 (K i) := ⟨_, rfl⟩
  have HV := hid hV
  clear hV
  go_enter Try.func9, Try.ntmps9
  go_wp2_with fail
  obtain ⟨p, hp⟩ : ∃ p, p = W.heap.size := ⟨_, rfl⟩
  rw [← hp]
  have HPp := hid hp
  have HB0 : Hid (Dx (W.alloc (.cells #[.slice none 0 0] 38)) p (.slice none 0 0) 0 V) := by
    rw [HPp.out]
    exact ⟨heap_alloc_new W _, rfl, .inl ⟨rfl, rfl⟩⟩
  have HW0 : Hid (Below W.heap.size W (W.alloc (.cells #[.slice none 0 0] 38))) := (Below.refl _ _).alloc (Nat.le_refl _) _
  clear hp
  generalize W.alloc (.cells #[.slice none 0 0] 38) = w00 at *
  go_loopw [5] (fun i wr => ∃ (j : Nat) (u : Value), j ≤ n ∧ i = .int .i64 j ∧ Hid (Dx wr p u j V) ∧ Hid (Below W.heap.size W wr) ∧ Hid (∀ k, Ug u k → W.heap.size ≤ k) ∧ Hid (∀ i, i < j → 0 ≤ K i ∧ K i ≤ 255)) (fun i _ => n - (intOf i).toNat)
  case atStart => exact ⟨0, .slice none 0 0, by omega, rfl, HB0, HW0, fun k hk => (by cases hk), fun i hi => absurd hi (Nat.not_lt_zero i)⟩
  case round =>
    obtain ⟨j, u, hj, rfl, HB, HBW, HFR, HGD⟩ := hrel
    by_cases hlt : j < n
    · obtain ⟨rfl, hbl⟩ := HL.out.at0 (by omega)
      have HBL := hid hbl
      clear hbl
      have hcl := HL.out.len
      have hcc := HL.out.cap
      have hc : wr.cell? ⟨b, o + j, none⟩ = some (.int .i64 (K j)) := (HL.out.below HBW.out).cell j hlt
      by_cases hgd : 0 ≤ K j ∧ K j ≤ 255
      · obtain ⟨k0, k1⟩ := hgd
        have HKG : Hid (0 ≤ K j ∧ K j ≤ 255) := ⟨k0, k1⟩
        obtain ⟨kk, hkk⟩ : ∃ kk, K j = kk := ⟨_, rfl⟩
        rw [hkk] at hc k0 k1
        have HVj : Hid (V j = sv0 kk) := by show _ = _; rw [HV.out, ← hkk]
        clear hkk
        go_wp2
        refine wp_region_any (by kernel_rfl) ?_
        obtain ⟨w0, hw0⟩ : ∃ w0, w0 = wr.drew := ⟨_, rfl⟩
        rw [show ({ wr with drawn := wr.drawn + 1 } : World) = w0 from hw0.symm]
        have HTP : Hid (w0.heap[p]? = some (.cells #[u] 38 (0, 0))) := by rw [hw0]; exact HB.out.top
        have HOW : Hid (w0.ownsRow 0 62 4 u j (slc V j)) := by rw [hw0]; exact own_below HB.out.own (Below.refl _ _).drew
        have HDR : Hid (Only (fun _ => False) wr w0) := by rw [hw0]; exact (Only.refl wr).drew
        have HCL : Hid (w0.cell? ⟨b, o + j, none⟩ = some (.int .i64 kk)) := by rw [hw0]; exact hc
        clear hw0
        have HLD : Hid (∀ s x w, s ≤ 2 → ME w0 u j V kk p s x w → w.cell? ⟨p, 0, none⟩ = some u ∧ w.cell? ⟨b, o + j, none⟩ = some (.int .i64 kk)) := fun s x w hs hm => by
          have hd := own_ne HOW.out HTP.out (by decide)
          have hbw : b < w0.heap.size := Nat.lt_of_lt_of_le HBL.out (Nat.le_trans HBW.out.size HDR.out.size)
          have hbu : ¬ Ug u b := fun z => by have := HFR.out b z; have := HBL.out; omega
          match s, hm with
          | 0, hm => rw [show w = w0 from hm]; exact ⟨cell_of_row w0 p 0 _ _ _ HTP.out, HCL.out⟩
          | 1, ⟨m2, m3⟩ =>
            rw [m3]
            have hbl : Below w0.heap.size w0 (w0.alloc (.cells #[.int .i64 kk, .int .u64 0, .int .u64 0, .int .u64 0] 62)) := (Below.refl _ _).alloc (Nat.le_refl _) _
            exact ⟨cell_of_row _ p 0 _ _ _ ((Only.ofBelow (S := fun _ => False) hbl).old HTP.out fun z => z), ((Only.ofBelow (S := fun _ => False) hbl).cell (o + j) hbw fun z => z).trans HCL.out⟩
          | 2, ⟨m1, m2, m3⟩ => exact ⟨cell_of_row w p 0 _ _ _ (m2.old HTP.out fun z => hd p z rfl), (m2.cell (o + j) hbw hbu).trans HCL.out⟩
        refine wpAny_fx (α := Value × Value) (fun x => fun dd => if dd = 29 then .pointer (some ⟨p, 0, none⟩) else if dd = 30 then .pointer (some ⟨p, 0, none⟩) else if dd = 31 then .pointer (some ⟨p, 0, none⟩) else if dd = 32 then .pointer (some ⟨p, 0, none⟩) else if dd = 33 then u else if dd = 34 then .slice (some ⟨b, o, none⟩) n cap else if dd = 35 then .int .i64 (j : Int) else if dd = 36 then .pointer (some ⟨b, o + j, none⟩) else if dd = 37 then .int .i64 kk else if dd = 38 then .agg #[.int .i64 kk, .int .u64 0, .int .u64 0, .int .u64 0] else if dd = 39 then x.1 else if dd = 40 then x.2 else if dd = 41 then .pointer (some ⟨p, 0, none⟩) else if dd = 42 then .pointer (some ⟨p, 0, none⟩) else undef) (VL [10, 11, 14] 14 12 (ME w0 u j V kk p)) ?step ?fin (.bool true, .bool true) ?start
        case start => exact .start rfl
        case step =>
          rintro listed fr wr x hF hW i hj
          obtain ⟨hl, o, ho, he⟩ := mem_ready.1 hj
          have hjl : i < listed.size := by rw [hF.ls]; exact (Array.getElem?_eq_some_iff.1 ho).1
          have hl0 := getD_tf hjl hl
          clear hj
          have HF := hid hF
          have HW := hid hW
          have HE := hid he
          clear hF hW he hl
          match i, ho with
          | 0, ho =>
            obtain rfl := Option.some.inj ho
            have e4 : fr.tmps[4]?.getD undef = .pointer (some ⟨p, 0, none⟩) := HF.out.base 4 (by kernel_rfl) rfl
            exact wp_q rfl rfl (by simp [execOp, go_sem, e4]; try rfl) ⟨x, HF.out.put (by kernel_rfl) rfl rfl rfl (of_decide_eq_true rfl), HW.out.q hjl (by decide) (by decide)⟩
          | 1, ho =>
            obtain rfl := Option.some.inj ho
            have e4 : fr.tmps[4]?.getD undef = .pointer (some ⟨p, 0, none⟩) := HF.out.base 4 (by kernel_rfl) rfl
            exact wp_q rfl rfl (by simp [execOp, go_sem, e4]; try rfl) ⟨x, HF.out.put (by kernel_rfl) rfl rfl rfl (of_decide_eq_true rfl), HW.out.q hjl (by decide) (by decide)⟩
          | 2, ho =>
            obtain rfl := Option.some.inj ho
            have e30 : fr.tmps[30]?.getD undef = .pointer (some ⟨p, 0, none⟩) := HF.out.ev (i := 1) rfl rfl (HE.out ⟨1, .data⟩ (by simp) rfl)
            exact wp_q rfl rfl (by simp [execOp, go_sem, e30]; try rfl) ⟨x, HF.out.put (by kernel_rfl) rfl rfl rfl (of_decide_eq_true rfl), HW.out.q hjl (by decide) (by decide)⟩
          | 3, ho =>
            obtain rfl := Option.some.inj ho
            have e31 : fr.tmps[31]?.getD undef = .pointer (some ⟨p, 0, none⟩) := HF.out.ev (i := 2) rfl rfl (HE.out ⟨2, .data⟩ (by simp) rfl)
            exact wp_q rfl rfl (by simp [execOp, go_sem, e31]; try rfl) ⟨x, HF.out.put (by kernel_rfl) rfl rfl rfl (of_decide_eq_true rfl), HW.out.q hjl (by decide) (by decide)⟩
          | 4, ho =>
            obtain rfl := Option.some.inj ho
            have e32 : fr.tmps[32]?.getD undef = .pointer (some ⟨p, 0, none⟩) := HF.out.ev (i := 3) rfl rfl (HE.out ⟨3, .data⟩ (by simp) rfl)
            have hc : wr.cell? ⟨p, 0, none⟩ = some u := HW.out.upto 2 rfl hl0 (by decide) (fun s hs hm => (HLD.out s x wr hs hm).1)
            exact wp_q rfl rfl (by simp [execOp, go_sem, e32, hc]; try rfl) ⟨x, HF.out.put (by kernel_rfl) rfl rfl rfl (of_decide_eq_true rfl), HW.out.q hjl (by decide) (by decide)⟩
          | 5, ho =>
            obtain rfl := Option.some.inj ho
            have e0 : fr.tmps[0]?.getD undef = .slice (some ⟨b, o, none⟩) n cap := HF.out.base 0 (by kernel_rfl) rfl
            exact wp_q rfl rfl (by simp [execOp, go_sem, e0]; try rfl) ⟨x, HF.out.put (by kernel_rfl) rfl rfl rfl (of_decide_eq_true rfl), HW.out.q hjl (by decide) (by decide)⟩
          | 6, ho =>
            obtain rfl := Option.some.inj ho
            have e5 : fr.tmps[5]?.getD undef = .int .i64 (j : Int) := HF.out.base 5 (by kernel_rfl) rfl
            exact wp_q rfl rfl (by simp [execOp, go_sem, e5]; try rfl) ⟨x, HF.out.put (by kernel_rfl) rfl rfl rfl (of_decide_eq_true rfl), HW.out.q hjl (by decide) (by decide)⟩
          | 7, ho =>
            obtain rfl := Option.some.inj ho
            have e34 : fr.tmps[34]?.getD undef = .slice (some ⟨b, o, none⟩) n cap := HF.out.ev (i := 5) rfl rfl (HE.out ⟨5, .data⟩ (by simp) rfl)
            have e35 : fr.tmps[35]?.getD undef = .int .i64 (j : Int) := HF.out.ev (i := 6) rfl rfl (HE.out ⟨6, .data⟩ (by simp) rfl)
            exact wp_q rfl rfl (by simp [execOp, go_sem, e34, e35, hlt]; try rfl) ⟨x, HF.out.put (by kernel_rfl) rfl rfl rfl (of_decide_eq_true rfl), HW.out.q hjl (by decide) (by decide)⟩
          | 8, ho =>
            obtain rfl := Option.some.inj ho
            have e36 : fr.tmps[36]?.getD undef = .pointer (some ⟨b, o + j, none⟩) := HF.out.ev (i := 7) rfl rfl (HE.out ⟨7, .data⟩ (by simp) rfl)
            have hc : wr.cell? ⟨b, o + j, none⟩ = some (.int .i64 kk) := HW.out.upto 2 rfl hl0 (by decide) (fun s hs hm => (HLD.out s x wr hs hm).2)
            exact wp_q rfl rfl (by simp [execOp, go_sem, e36, hc]; try rfl) ⟨x, HF.out.put (by kernel_rfl) rfl rfl rfl (of_decide_eq_true rfl), HW.out.q hjl (by decide) (by decide)⟩
          | 9, ho =>
            obtain rfl := Option.some.inj ho
            have e37 : fr.tmps[37]?.getD undef = .int .i64 kk := HF.out.ev (i := 8) rfl rfl (HE.out ⟨8, .data⟩ (by simp) rfl)
            exact wp_q rfl rfl (by simp [execOp, go_sem, e37]; try rfl) ⟨x, HF.out.put (by kernel_rfl) rfl rfl rfl (of_decide_eq_true rfl), HW.out.q hjl (by decide) (by decide)⟩
          | 10, ho =>
            obtain rfl := Option.some.inj ho
            have e38 : fr.tmps[38]?.getD undef = .agg #[.int .i64 kk, .int .u64 0, .int .u64 0, .int .u64 0] := HF.out.ev (i := 9) rfl rfl (HE.out ⟨9, .data⟩ (by simp) rfl)
            have m1 := HW.out.1.at 0 rfl hl0 (fun j hj => by omega)
            subst m1
            obtain ⟨i0, hi0, hz0, hs0, hb0⟩ := info_parts info_Slot
            refine wp_bs rfl rfl 36 62 1 _ rfl #[.int .i64 kk, .int .u64 0, .int .u64 0, .int .u64 0] i0 _ u_sSlot hi0 hz0 (by rw [hs0]; decide) (by rw [hs0]; decide) ?_ ?_
            · have := Great.fill_whole (s := 4) (by decide) [.agg #[.int .i64 kk, .int .u64 0, .int .u64 0, .int .u64 0]] ((Array.range (1 * 4)).map (((Value.agg #[.int .i64 0, .int .u64 0, .int .u64 0, .int .u64 0]).cells)[· % (Value.agg #[.int .i64 0, .int .u64 0, .int .u64 0, .int .u64 0]).cells.size]!)) (fun v hv => by rw [List.mem_singleton.1 hv]; rfl) (by simp)
              rw [hs0]
              have e1 : Act.eval fr (.tmp 38) = .agg #[.int .i64 kk, .int .u64 0, .int .u64 0, .int .u64 0] := by simp [Act.eval, e38]
              simp only [List.map_toArray, List.map_cons, List.map_nil, e1]
              exact this
            have HFy : Hid (FrQ _ ((fun x : Value × Value => fun dd => if dd = 29 then .pointer (some ⟨p, 0, none⟩) else if dd = 30 then .pointer (some ⟨p, 0, none⟩) else if dd = 31 then .pointer (some ⟨p, 0, none⟩) else if dd = 32 then .pointer (some ⟨p, 0, none⟩) else if dd = 33 then u else if dd = 34 then .slice (some ⟨b, o, none⟩) n cap else if dd = 35 then .int .i64 (j : Int) else if dd = 36 then .pointer (some ⟨b, o + j, none⟩) else if dd = 37 then .int .i64 kk else if dd = 38 then .agg #[.int .i64 kk, .int .u64 0, .int .u64 0, .int .u64 0] else if dd = 39 then x.1 else if dd = 40 then x.2 else if dd = 41 then .pointer (some ⟨p, 0, none⟩) else if dd = 42 then .pointer (some ⟨p, 0, none⟩) else undef) (.slice (some ⟨wr.heap.size, 0, none⟩) 1 1, x.2)) _ listed fr) := HF.out.swap (fun j o d g1 g2 g3 => by
              by_cases e : d = 39
              · subst e
                have := ndB_spec (j := j) (k := 10) (d := 39) (by kernel_rfl) g1 rfl g2 rfl
                subst this
                rw [hl0] at g3; cases g3
              · simp [e])
            exact ⟨(.slice (some ⟨wr.heap.size, 0, none⟩) 1 1, x.2), HFy.out.put (by kernel_rfl) rfl rfl rfl (of_decide_eq_true rfl), HW.out.go 0 hjl rfl hl0 (fun j hj => by omega) (by intro a ha; match a, ha with | 0, _ => rfl | 1, ha => simp at ha | 2, ha => simp at ha) ⟨rfl, rfl⟩ (by decide)⟩
          | 11, ho =>
            obtain rfl := Option.some.inj ho
            have e33 : fr.tmps[33]?.getD undef = u := HF.out.ev (i := 4) rfl rfl (HE.out ⟨4, .data⟩ (by simp) rfl)
            have e39 : fr.tmps[39]?.getD undef = x.1 := HF.out.ev (i := 10) rfl rfl (HE.out ⟨10, .data⟩ (by simp) rfl)
            have h7 : listed.getD 10 false = true := HE.out ⟨10, .data⟩ (by simp) rfl
            obtain ⟨m2, rfl⟩ := HW.out.1.at 1 rfl hl0 (fun j hj => by obtain rfl : j = 0 := (by omega); exact ⟨10, rfl, h7⟩)
            obtain ⟨i0, hi0, hz0, hs0, hb0⟩ := info_parts info_Slot
            have hb1 : Below w0.heap.size w0 (w0.alloc (.cells #[.int .i64 kk, .int .u64 0, .int .u64 0, .int .u64 0] 62)) := (Below.refl _ _).alloc (Nat.le_refl _) _
            have e28' : Act.eval fr (.tmp 33) = u := by simp [Act.eval, e33]
            have e31' : Act.eval fr (.tmp 39) = .slice (some ⟨w0.heap.size, 0, none⟩) 1 1 := by simp [Act.eval, e39, m2]
            refine wpOp_step rfl fun K' hK => ?_
            refine step_append_blk _ (.tmp 33) (.tmp 39) 36 rfl 62 i0 _ 4 32 u_sSlot hi0 hz0 hs0 hb0 rfl (by decide) u j (slc V j) e28' (own_only HOW.out (T := fun _ => False) (.ofBelow hb1) fun _ _ z => z) ⟨w0.heap.size, 0, none⟩ 1 1 [.int .i64 kk, .int .u64 0, .int .u64 0, .int .u64 0] e31' rfl ?_ (by intro v hv; simp at hv; rcases hv with rfl | rfl | rfl | rfl <;> rfl) (show j + 1 ≤ 9223372036854775807 by omega) (by omega) rfl ?_
            · intro i v hv
              rw [C.addr_add, Nat.zero_add, cell_of_row _ _ i _ _ _ (heap_alloc_new w0 _)]
              simpa using hv
            intro v' w3 hown hgrow hblk
            have ho : Only (Ug u) w0 w3 := (Only.ofBelow hb1).trans (grown_ug hgrow)
            have HFy : Hid (FrQ _ ((fun x : Value × Value => fun dd => if dd = 29 then .pointer (some ⟨p, 0, none⟩) else if dd = 30 then .pointer (some ⟨p, 0, none⟩) else if dd = 31 then .pointer (some ⟨p, 0, none⟩) else if dd = 32 then .pointer (some ⟨p, 0, none⟩) else if dd = 33 then u else if dd = 34 then .slice (some ⟨b, o, none⟩) n cap else if dd = 35 then .int .i64 (j : Int) else if dd = 36 then .pointer (some ⟨b, o + j, none⟩) else if dd = 37 then .int .i64 kk else if dd = 38 then .agg #[.int .i64 kk, .int .u64 0, .int .u64 0, .int .u64 0] else if dd = 39 then x.1 else if dd = 40 then x.2 else if dd = 41 then .pointer (some ⟨p, 0, none⟩) else if dd = 42 then .pointer (some ⟨p, 0, none⟩) else undef) (x.1, v')) _ listed fr) := HF.out.swap (fun j o d g1 g2 g3 => by
              by_cases e : d = 40
              · subst e
                have := ndB_spec (j := j) (k := 11) (d := 40) (by kernel_rfl) g1 rfl g2 rfl
                subst this
                rw [hl0] at g3; cases g3
              · simp [e])
            exact hK _ _ ⟨(x.1, v'), HFy.out.put (by kernel_rfl) rfl rfl rfl (of_decide_eq_true rfl), HW.out.go 1 hjl rfl hl0 (fun j hj => by obtain rfl : j = 0 := (by omega); exact ⟨10, rfl, h7⟩) (by intro a ha; match a, ha with | 0, ha => simp at ha | 1, _ => rfl | 2, ha => simp at ha) ⟨hown, ho, fun k hk => (hblk k hk).imp id fun z => Nat.le_trans hb1.size z⟩ (by decide)⟩
          | 12, ho =>
            obtain rfl := Option.some.inj ho
            have e29 : fr.tmps[29]?.getD undef = .pointer (some ⟨p, 0, none⟩) := HF.out.ev (i := 0) rfl rfl (HE.out ⟨0, .data⟩ (by simp) rfl)
            exact wp_q rfl rfl (by simp [execOp, go_sem, e29]; try rfl) ⟨x, HF.out.put (by kernel_rfl) rfl rfl rfl (of_decide_eq_true rfl), HW.out.q hjl (by decide) (by decide)⟩
          | 13, ho =>
            obtain rfl := Option.some.inj ho
            have e41 : fr.tmps[41]?.getD undef = .pointer (some ⟨p, 0, none⟩) := HF.out.ev (i := 12) rfl rfl (HE.out ⟨12, .data⟩ (by simp) rfl)
            exact wp_q rfl rfl (by simp [execOp, go_sem, e41]; try rfl) ⟨x, HF.out.put (by kernel_rfl) rfl rfl rfl (of_decide_eq_true rfl), HW.out.q hjl (by decide) (by decide)⟩
          | 14, ho =>
            obtain rfl := Option.some.inj ho
            have e42 : fr.tmps[42]?.getD undef = .pointer (some ⟨p, 0, none⟩) := HF.out.ev (i := 13) rfl rfl (HE.out ⟨13, .data⟩ (by simp) rfl)
            have e40 : fr.tmps[40]?.getD undef = x.2 := HF.out.ev (i := 11) rfl rfl (HE.out ⟨11, .data⟩ (by simp) rfl)
            have ha : ∀ j, j < 12 → listed.getD j false = true := he_all HE.out 12 (by kernel_rfl)
            obtain ⟨m1, m2, m3⟩ := HW.out.1.at 2 rfl hl0 (fun j hj => by obtain rfl : j = 1 := (by omega); exact ⟨11, rfl, ha 11 (by decide)⟩)
            have c1 : wr.cell? ⟨p, 0, none⟩ = some u := by
              have := m2.old HTP.out (fun z => own_ne HOW.out HTP.out (by decide) p z rfl)
              exact cell_of_row wr p 0 _ _ _ this
            have z1 : wr.frozen? ⟨p, 0, none⟩ = false := by
              have := m2.old HTP.out (fun z => own_ne HOW.out HTP.out (by decide) p z rfl)
              exact frozen_of_row wr p 0 _ _ this
            obtain ⟨ad3, l3, cp3, hx2⟩ : ∃ ad l c, x.2 = .slice ad l c := by
              rcases m1.2 with ⟨q, -⟩ | ⟨g, cap, cur, q, -⟩ <;> exact ⟨_, _, _, q⟩
            exact wp_s rfl rfl (w' := wr.setCell ⟨p, 0, none⟩ x.2) (by rw [hx2] at e40; simp [execOp, go_sem, e42, e40, c1, z1, hx2]; try rfl) ⟨x, HF.out.skip rfl rfl _, HW.out.last 2 hjl rfl hl0 (fun j hj => by obtain rfl : j = 1 := (by omega); exact ⟨11, rfl, ha 11 (by decide)⟩) (by intro a h; match a, h with | 0, h => simp at h | 1, h => simp at h | 2, _ => rfl) ⟨wr, m1, m2, m3, rfl⟩ ha⟩
        case fin =>
          rintro listed fr w2 x hF hW hr
          have all := allDone hr hF.ls (by kernel_rfl)
          have k1 := hW.1.end 2 rfl (all 14 (by decide)) (fun s hs hm => by
            match s, hs, hm with
            | 3, _, hm => exact hm
            | n + 4, _, hm => exact hm.elim)
          obtain ⟨w3, m1, m2, m3, rfl⟩ := k1
          rw [hF.full all]
          clear hF hW hr all
          obtain ⟨u2, hu2⟩ : ∃ u2, u2 = x.2 := ⟨_, rfl⟩
          have HB2 : Hid (Dx (w3.setCell ⟨p, 0, none⟩ x.2) p u2 (j + 1) V) := by rw [hu2]; exact dx_grow HTP.out HOW.out m1 m2 HVj.out
          have HO2 : Hid (Below W.heap.size W (w3.setCell ⟨p, 0, none⟩ x.2)) := (HBW.out.trans (((HDR.out.mono (T := fun x => W.heap.size ≤ x) (fun _ _ z => z.elim)).trans (m2.mono fun k _ hk => HFR.out k hk)).below _ HBW.out.size fun k hk => hk)).setCell (by rw [HPp.out]; exact Nat.le_refl _) _
          have HF2 : Hid (∀ k, Ug u2 k → W.heap.size ≤ k) := by rw [hu2]; exact fun k hk => (m3 k hk).elim (HFR.out k) fun z => Nat.le_trans HBW.out.size (Nat.le_trans HDR.out.size z)
          clear m1 m2 m3 hu2 HLD
          generalize w3.setCell ⟨p, 0, none⟩ x.2 = w4 at *
          simp only [List.foldl_cons, List.foldl_nil, fillF]
          go_simp
          go_wp2
          go_roundw
          case rel => exact ⟨j + 1, u2, by omega, by go_num, HB2, HO2, HF2, fun i hi => by
              rcases Nat.lt_or_ge i j with z | z
              · exact HGD.out i z
              · obtain rfl : i = j := (by omega)
                exact HKG.out⟩
          case measure => simp [intOf]; omega
      · obtain ⟨x0, x1⟩ := HL.out.num j hlt
        generalize K j = kk at *
        have hg2 : kk < 0 ∨ (0 ≤ kk ∧ 255 < kk) := by omega
        clear hgd
        rcases hg2 with q1 | ⟨q1, q2⟩
        all_goals
          go_wp2
          go_returns
          exact ⟨rfl, HBW.out⟩
    · exact absurd (fun i hi => HGD.out i (by omega)) HK.out

theorem c_New_8 (W : World) (ad : Option Addr) (n cap : Nat) (h1 : n ≤ cap) (h2 : cap ≤ 9223372036854775807) (n8 : 8 < n) : Calls Try.prog 8 #[.slice ad n cap] W fun e w' => e = .returned (.tuple #[.pointer none, .int .i64 1]) ∧ Below W.heap.size W w' := by
  go_enter Try.func8, Try.ntmps8
  go_wp2
  go_returns
  exact ⟨rfl, .refl _ _⟩
theorem d_New_8 (W : World) (ad : Option Addr) (n cap : Nat) (h1 : n ≤ cap) (h2 : cap ≤ 9223372036854775807) (n8 : 8 < n) : Calls Try.prog 9 #[.slice ad n cap] W fun e w' => e = .returned (.tuple #[.pointer none, .int .i64 1]) ∧ Below W.heap.size W w' := by
  go_enter Try.func9, Try.ntmps9
  go_wp2
  go_returns
  exact ⟨rfl, .refl _ _⟩
end Go.Proofs.Ytpplcijdhedjcaa
namespace Go.Proofs.Ytpplcijdhedjcaa
open Go.RowKit
open C (Only hid)
set_option linter.unusedVariables false
set_option maxRecDepth 100000

structure FrK (ops : Array Oper) (vt : Nat → Value) (t0 : Array Value) (listed : Array Bool) (a : Act) : Prop where
  q : FrQ ops vt t0 listed a
  old : ∀ j o d, ops[j]? = some o → o.dst = some d → listed.getD j false = false → a.tmps[d]? = t0[d]?
section
variable {ops : Array Oper} {vt : Nat → Value} {t0 : Array Value} {listed : Array Bool} {a : Act}
theorem FrK.start (hs : listed = Array.replicate ops.size false) : FrK ops vt t0 listed ⟨t0, []⟩ := ⟨.start hs, fun _ _ _ _ _ _ => rfl⟩
theorem FrK.put (h : FrK ops vt t0 listed a) (hn : ndB ops = true) {j : Nat} {o : Oper} {d : Nat} {v : Value} (ho : ops[j]? = some o) (hd : o.dst = some d) (hv : v = vt d) (hdl : d < t0.size) : FrK ops vt t0 (listed.setIfInBounds j true) (a.put o.dst v) := by
  refine ⟨h.q.put hn ho hd hv hdl, fun i p k hi hp hl => ?_⟩
  have hjl : j < listed.size := by rw [h.q.ls]; exact (Array.getElem?_eq_some_iff.1 ho).1
  rw [getD_set _ _ _ hjl] at hl
  have hne : i ≠ j := fun e => by rw [if_pos e] at hl; cases hl
  rw [if_neg hne] at hl
  have hdk : d ≠ k := fun e => by subst e; exact hne (ndB_spec hn hi ho hp hd)
  rw [hd]
  simp only [Act.put, Array.getElem?_setIfInBounds]
  rw [if_neg hdk]
  exact h.old i p k hi hp hl
theorem FrK.ev (h : FrK ops vt t0 listed a) {i : Nat} {o : Oper} {d : Nat} (hi : ops[i]? = some o) (hd : o.dst = some d) (hl : listed.getD i false = true) : a.tmps[d]?.getD undef = vt d := h.q.ev hi hd hl
theorem FrK.base (h : FrK ops vt t0 listed a) (d : Nat) (hd : (ops.toList.all fun o => o.dst != some d) = true) {v : Value} (hv : t0[d]? = some v) : a.tmps[d]?.getD undef = v := h.q.base d hd hv
theorem FrK.full (h : FrK ops vt t0 listed a) (hl : ∀ j, j < ops.size → listed.getD j false = true) : a = ⟨ops.toList.foldl (fillF vt) t0, []⟩ := h.q.full hl
end
theorem wpAny_fk {α : Type} {P : Program} {ops : Array Oper} {Q : Exit → Act → World → Prop} {t0 : Array Value} {w : World} (vt : α → Nat → Value) (V : α → Array Bool → World → Prop)
    (step : ∀ listed a w x, FrK ops (vt x) t0 listed a → V x listed w → ∀ i ∈ Region.ready .any ops listed, wpOp P ops Q i (fun a' w' => ∃ y, FrK ops (vt y) t0 (listed.setIfInBounds i true) a' ∧ V y (listed.setIfInBounds i true) w') a w)
    (fin : ∀ listed a w x, FrK ops (vt x) t0 listed a → V x listed w → Region.ready .any ops listed = [] → Q .normal a w) (x0 : α) (start : V x0 (Array.replicate ops.size false) w) :
    wpAny P .any ops Q ops.size (Array.replicate ops.size false) ⟨t0, []⟩ w :=
  wpAny_inv (fun listed fr wr => ∃ x, FrK ops (vt x) t0 listed fr ∧ V x listed wr) (fun l a w ⟨x, h1, h2⟩ i hi => step l a w x h1 h2 i hi) (fun l a w ⟨x, h1, h2⟩ hr => fin l a w x h1 h2 hr) _ _ _ _ (by simp) ⟨x0, FrK.start rfl, start⟩
theorem wp_qw {P : Program} {ops : Array Oper} {Q : Exit → Act → World → Prop} {i : Nat} {o : Oper} {K : Act → World → Prop} {a : Act} {w w' : World} {v : Value} (ho : ops[i]? = some o) (hw : Region.wanted o (yielded ops a.tmps) = true) (hr : (execOp a.eval o).run P w = .ok (.value v) w') (h : K (a.put o.dst v) w') : wpOp P ops Q i K a w := by
  refine wpOp_step ho fun K' hK => ?_
  rw [if_pos hw]
  unfold Oper.wp
  rw [hr]
  exact hK _ _ h
/-- a call of five arguments under a guard that holds -/
theorem wp_c5w {P : Program} {ops : Array Oper} {Q : Exit → Act → World → Prop} {i : Nat} {o : Oper} {K : Act → World → Prop} {a : Act} {w : World} (ho : ops[i]? = some o) (hw : Region.wanted o (yielded ops a.tmps) = true) (f : FuncId) (x y z t s : Operand) (ts : Array TypeId) (hop : o.op = .call { callee := .value (.func f), args := #[x, y, z, t, s], argTypes := ts }) (vx vy vz vt vs : Value) (hx : a.eval x = vx) (hy : a.eval y = vy) (hz : a.eval z = vz) (ht : a.eval t = vt) (hs : a.eval s = vs) (hnf : (callFunc f #[vx, vy, vz, vt, vs]).run P w = .ok (.enter f #[vx, vy, vz, vt, vs]) w) {R : Ending → World → Prop} (hc : Calls P f #[vx, vy, vz, vt, vs] w R)
    (h : ∀ e w', R e w' → ∃ v, e = .returned v ∧ K (a.put o.dst v) w') : wpOp P ops Q i K a w := by
  refine wpOp_step ho fun K' hK => ?_
  rw [if_pos hw]
  have he : (execOp a.eval o).run P w = .ok (.enter f #[vx, vy, vz, vt, vs]) w := by
    have hf : a.eval (.func f) = .func (.func f) #[] #[] := rfl
    simp [execOp, hop, resolve, invoke, Deferred.ofValue, hf, hx, hy, hz, ht, hs, hnf]
  unfold Oper.wp
  rw [he, Oper.upon_enter]
  refine hc.mono fun e w' hR => ?_
  obtain ⟨v, rfl, hk⟩ := h e w' hR
  exact hK _ _ hk
/-- the last operation, which turns nothing -/
theorem VL.lq {α : Type} {z : List Nat} {L B : Nat} {M : Nat → α → World → Prop} {x : α} {listed : Array Bool} {w : World} (h : VL z L B M x listed w) (hs : L < listed.size) (n1 : z.contains L = false) (ha : ∀ j, j < B → listed.getD j false = true) : VL z L B M x (listed.setIfInBounds L true) w := ⟨h.1.q hs n1, fun _ j hj' => by
  rw [getD_set _ _ _ hs]
  split
  · rfl
  · exact ha j hj'⟩
end Go.Proofs.Ytpplcijdhedjcaa
namespace Go.Proofs.Ytpplcijdhedjcaa
open Go.ChangeShapes Go.WideShapes Go.ChangeAt Go.RowKit Go.Deep
set_option linter.unusedVariables false

theorem cells_i8 : Try.prog.cellsOf 3 = 1 := by kernel_rfl
theorem cells_u8 : Try.prog.cellsOf 32 = 1 := by kernel_rfl
theorem addr_two (a : Addr) (i j : Nat) : (a.add i).add j = a.add (i + j) := by
  unfold Addr.add
  by_cases hi : i = 0
  · subst hi; simp
  · by_cases hj : j = 0
    · subst hj; simp
    · have : ¬ i + j = 0 := by omega
      simp [hi, hj, Nat.add_assoc]
theorem fld8 {T k : Nat} {t : TypeId} {o : Nat} (h : ((Try.prog.fieldsOf T)[k]?).map (fun f => (f.type, f.offset)) = some (t, o)) : ∃ f, (Try.prog.fieldsOf T)[k]? = some f ∧ f.type = t ∧ f.offset = o := by
  cases hq : (Try.prog.fieldsOf T)[k]? with
  | none => rw [hq] at h; cases h
  | some f => rw [hq] at h; simp at h; exact ⟨f, rfl, h.1, h.2⟩
structure PopV where
  kd : Int
  sz : Int
  sr : Int
  of : Int
  v : Int
def PopV.cs (x : PopV) : List Value := [.int .i64 x.kd, .int .i64 x.sz, .int .i64 x.sr, .int .u64 x.of, .int .u64 x.v]
structure PopB (x : PopV) : Prop where
  kd : -9223372036854775808 ≤ x.kd ∧ x.kd ≤ 9223372036854775807
  sz : -9223372036854775808 ≤ x.sz ∧ x.sz ≤ 9223372036854775807
  sr : -9223372036854775808 ≤ x.sr ∧ x.sr ≤ 9223372036854775807
  of : 0 ≤ x.of ∧ x.of < 18446744073709551616
  v : 0 ≤ x.v ∧ x.v < 18446744073709551616
structure Pc (w : World) (ad : Option Addr) (la cap ab ao : Nat) (X : Nat → PopV) : Prop where
  len : la ≤ cap
  cap : cap ≤ 9223372036854775807
  at0 : 0 < la → ad = some ⟨ab, ao, none⟩ ∧ ab < w.heap.size
  cell : ∀ i, i < la → ∀ j, j < 5 → w.cell? ⟨ab, ao + i * 5 + j, none⟩ = (X i).cs[j]?
  num : ∀ i, i < la → PopB (X i)
theorem Pc.below {w w' : World} {ad : Option Addr} {la cap ab ao : Nat} {X : Nat → PopV} (h : Pc w ad la cap ab ao X) (hb : Below w.heap.size w w') : Pc w' ad la cap ab ao X :=
  ⟨h.len, h.cap, fun q => ⟨(h.at0 q).1, Nat.lt_of_lt_of_le (h.at0 q).2 hb.size⟩, fun i hi j hj => by
    have hlt := (h.at0 (by omega)).2
    have e : ∀ o, w'.cell? ⟨ab, o, none⟩ = w.cell? ⟨ab, o, none⟩ := fun o => World.cell?_of_block (w := w) (hb.block _ hlt)
    rw [e]; exact h.cell i hi j hj, h.num⟩
theorem under_pop : Try.prog.underlying 34 = some (.struct (Try.prog.fieldsOf 34)) := by kernel_rfl
theorem cells_pop : Try.prog.cellsOf 34 = 5 := by kernel_rfl
theorem u_sPOp : Try.prog.underlying 23 = some (.slice 34) := by kernel_rfl
set_option maxRecDepth 100000 in
theorem open_pop {H : Type} {enc : TypeId × Value → H} {W : World} {base fuel : Nat} {cs : List Value} {x : DataW H × List MemPlace} (h : DataW.trod enc Try.prog W base (fun _ => true) true fuel 34 cs = some x) :
    ∃ X : PopV, cs = X.cs ∧ PopB X := by
  obtain ⟨xs, n, _, rfl, hcl, hlen, hfs⟩ := DataW.trod_struct under_pop h
  have hl : xs.length = 5 := by rw [hlen]; kernel_rfl
  rw [cells_pop] at hcl
  obtain ⟨f0, e0, t0, o0⟩ := fld8 (T := 34) (k := 0) (t := 3) (o := 0) (by kernel_rfl)
  have q0 := hfs 0 f0 e0
  rw [t0, o0, cells_i8, List.getElem?_eq_getElem (by omega)] at q0
  obtain ⟨z0, r0, _, w0⟩ := DataW.trod_int Try.underlying3 q0
  obtain ⟨f1, e1, t1, o1⟩ := fld8 (T := 34) (k := 1) (t := 3) (o := 1) (by kernel_rfl)
  have q1 := hfs 1 f1 e1
  rw [t1, o1, cells_i8, List.getElem?_eq_getElem (by omega)] at q1
  obtain ⟨z1, r1, _, w1⟩ := DataW.trod_int Try.underlying3 q1
  obtain ⟨f2, e2, t2, o2⟩ := fld8 (T := 34) (k := 2) (t := 3) (o := 2) (by kernel_rfl)
  have q2 := hfs 2 f2 e2
  rw [t2, o2, cells_i8, List.getElem?_eq_getElem (by omega)] at q2
  obtain ⟨z2, r2, _, w2⟩ := DataW.trod_int Try.underlying3 q2
  obtain ⟨f3, e3, t3, o3⟩ := fld8 (T := 34) (k := 3) (t := 32) (o := 3) (by kernel_rfl)
  have q3 := hfs 3 f3 e3
  rw [t3, o3, cells_u8, List.getElem?_eq_getElem (by omega)] at q3
  obtain ⟨z3, r3, _, w3⟩ := DataW.trod_int Try.underlying32 q3
  obtain ⟨f4, e4, t4, o4⟩ := fld8 (T := 34) (k := 4) (t := 32) (o := 4) (by kernel_rfl)
  have q4 := hfs 4 f4 e4
  rw [t4, o4, cells_u8, List.getElem?_eq_getElem (by omega)] at q4
  obtain ⟨z4, r4, _, w4⟩ := DataW.trod_int Try.underlying32 q4
  obtain ⟨c0, c1, c2, c3, c4, rfl⟩ : ∃ c0 c1 c2 c3 c4, cs = [c0, c1, c2, c3, c4] := by
    match cs, hcl with
    | [c0, c1, c2, c3, c4], _ => exact ⟨c0, c1, c2, c3, c4, rfl⟩
  simp at r0 r1 r2 r3 r4
  subst r0 r1 r2 r3 r4
  have b3 := bounds_u64 w3
  have b4 := bounds_u64 w4
  exact ⟨⟨z0, z1, z2, z3, z4⟩, rfl, ⟨bounds_i64 w0, bounds_i64 w1, bounds_i64 w2, ⟨b3.1, by show z3 < _; omega⟩, ⟨b4.1, by show z4 < _; omega⟩⟩⟩
set_option maxRecDepth 100000 in
/-- a script, as it stands -/
theorem open_pops {H : Type} {enc : TypeId × Value → H} {W : World} {base : Nat} {r : Reach} {b : Nat} {v : Value} {d : DataW H} {p : List MemPlace}
    (hv : Value.okWide Try.prog W r b 23 v) (h : DataW.Trod enc Try.prog W base (fun _ => true) true 23 v d p) (hlt : ∀ x ∈ p, x.block < W.heap.size) :
    ∃ (ad : Option Addr) (la cap ab ao : Nat) (X : Nat → PopV), v = .slice ad la cap ∧ Pc W ad la cap ab ao X := by
  obtain ⟨a0, len, cap, rfl⟩ := okWide_slice u_sPOp hv
  obtain ⟨fuel, hf⟩ := h
  rcases open_slice u_sPOp hf with ⟨hcs, hx⟩ | ⟨a, len', cap', m, n, D, Pl, hcs, _, hl, hm, hmm, hx, hel⟩
  · simp [Value.cells] at hcs
    obtain ⟨rfl, rfl, rfl⟩ := hcs
    exact ⟨none, 0, 0, 0, 0, fun _ => ⟨0, 0, 0, 0, 0⟩, rfl, ⟨Nat.le_refl _, by decide, fun q => absurd q (by decide), fun i hi => absurd hi (Nat.not_lt_zero i), fun i hi => absurd hi (Nat.not_lt_zero i)⟩⟩
  · simp [Value.cells] at hcs
    obtain ⟨rfl, rfl, rfl⟩ := hcs
    simp only [if_true] at hmm
    have each : ∀ i, ∃ X : PopV, i < len → PopB X ∧ ∀ j, j < 5 → W.cell? (a.add (i * 5 + j)) = X.cs[j]? := fun i => by
      rcases Nat.lt_or_ge i len with hi | hi
      · obtain ⟨cs', h1, h2⟩ := hel i (by omega)
        obtain ⟨X, rfl, b0⟩ := open_pop h2
        rw [cells_pop] at h1
        obtain ⟨_, hlen, hcell⟩ := World.cells?_some h1
        refine ⟨X, fun _ => ⟨b0, fun j hj => ?_⟩⟩
        have := hcell j hj
        rw [addr_two] at this
        exact this
      · exact ⟨⟨0, 0, 0, 0, 0⟩, fun q => by omega⟩
    obtain ⟨X, hX⟩ := Classical.axiomOfChoice each
    clear each
    have hbl : ∀ h0 : 0 < len, a.spot = none ∧ a.block < W.heap.size := fun h0 => by
      have k0 := (hX 0 h0).2 0 (by decide)
      refine ⟨by simpa [Addr.add] using World.cell?_spot k0, ?_⟩
      obtain ⟨cs', h1, _⟩ := hel 0 (by omega)
      rw [cells_pop] at h1
      have := World.cells?_block h1 (by decide)
      simpa [Addr.add] using this
    obtain ⟨ab, ao, asp⟩ := a
    refine ⟨some ⟨ab, ao, asp⟩, len, cap, ab, ao, X, rfl, ⟨hl, by simpa [maxLen] using hm, fun h0 => ?_, fun i hi j hj => ?_, fun i hi => (hX i hi).1⟩⟩
    · obtain ⟨q1, q2⟩ := hbl h0
      obtain rfl : asp = none := q1
      exact ⟨rfl, q2⟩
    · obtain ⟨q1, q2⟩ := hbl (by omega)
      obtain rfl : asp = none := q1
      have k := (hX i hi).2 j hj
      rw [C.addr_add, ← Nat.add_assoc] at k
      exact k
theorem bytes_pop : Try.prog.bytesOf 34 = 40 := by kernel_rfl
set_option maxRecDepth 100000 in
theorem pops_len {H : Type} {enc : TypeId × Value → H} {W : World} {base : Nat} {ad : Option Addr} {la cap : Nat} {d : DataW H} {p : List MemPlace} (h : DataW.Trod enc Try.prog W base (fun _ => true) true 23 (.slice ad la cap) d p) (hw : ∀ n ∈ d.weights Try.prog 23, n ≤ reachBytes) : la ≤ 8796093022208 := by
  obtain ⟨fuel, hf⟩ := h
  rcases open_slice u_sPOp hf with ⟨hcs, hx⟩ | ⟨a, len', cap', m, n, D, Pl, hcs, _, hl, hm, hmm, hx, hel⟩
  · simp [Value.cells] at hcs
    obtain ⟨rfl, rfl, rfl⟩ := hcs
    exact Nat.zero_le _
  · simp [Value.cells] at hcs
    obtain ⟨rfl, rfl, rfl⟩ := hcs
    simp only [Prod.mk.injEq] at hx
    obtain ⟨rfl, rfl⟩ := hx
    have h2 := hw ((((List.range la).map D).length + ((List.range (m - la)).map fun j => D (la + j)).length) * Try.prog.bytesOf 34) (by simp [DataW.weights])
    rw [bytes_pop] at h2
    simp [reachBytes] at h2
    omega
/-- a list of numbers of a kind, as it stands -/
structure Nu (k : IntKind) (B : Int → Prop) (w : World) (ad : Option Addr) (la cap ab ao : Nat) (A : Nat → Int) : Prop where
  len : la ≤ cap
  cap : cap ≤ 9223372036854775807
  at0 : 0 < la → ad = some ⟨ab, ao, none⟩ ∧ ab < w.heap.size
  cell : ∀ i, i < la → w.cell? ⟨ab, ao + i, none⟩ = some (.int k (A i))
  num : ∀ i, B (A i)
theorem Nu.below {k : IntKind} {B : Int → Prop} {w w' : World} {ad : Option Addr} {la cap ab ao : Nat} {A : Nat → Int} (h : Nu k B w ad la cap ab ao A) (hb : Below w.heap.size w w') : Nu k B w' ad la cap ab ao A :=
  ⟨h.len, h.cap, fun q => ⟨(h.at0 q).1, Nat.lt_of_lt_of_le (h.at0 q).2 hb.size⟩, fun i hi => by
    have hlt := (h.at0 (by omega)).2
    rw [World.cell?_of_block (w := w) (hb.block _ hlt)]; exact h.cell i hi, h.num⟩
def Bi (x : Int) : Prop := -9223372036854775808 ≤ x ∧ x ≤ 9223372036854775807
def Bu (x : Int) : Prop := 0 ≤ x ∧ x < 18446744073709551616
def Bb (x : Int) : Prop := 0 ≤ x ∧ x < 256
theorem cells_ints' : Try.prog.cellsOf 3 = 1 := by kernel_rfl
set_option maxRecDepth 100000 in
theorem open_ints {H : Type} {enc : TypeId × Value → H} {W : World} {base : Nat} {r : Reach} {b : Nat} {v : Value} {d : DataW H} {p : List MemPlace}
    (hv : Value.okWide Try.prog W r b 22 v) (h : DataW.Trod enc Try.prog W base (fun _ => true) true 22 v d p) (hlt : ∀ x ∈ p, x.block < W.heap.size) :
    ∃ (ad : Option Addr) (la cap ab ao : Nat) (A : Nat → Int), v = .slice ad la cap ∧ Nu .i64 Bi W ad la cap ab ao A := by
  obtain ⟨ad, la, cap, ar, aa, rfl, hl, hm, hw, hc⟩ := C.open_nums Try.underlying22 Try.underlying3 cells_ints' hv h hlt
  obtain ⟨ab, ao, asp⟩ := aa
  have hsp : 0 < la → asp = none := fun q => by
    have := (hc q).2.2 0 q
    simpa [Addr.add] using World.cell?_spot this
  refine ⟨ad, la, cap, ab, ao, ar, rfl, ⟨hl, hm, fun q => ?_, fun i hi => ?_, fun i => ?_⟩⟩
  · obtain rfl := hsp q
    exact ⟨(hc q).1, (hc q).2.1⟩
  · obtain rfl := hsp (by omega)
    have := (hc (by omega)).2.2 i hi
    rwa [C.addr_add] at this
  · rcases hw i with q | q
    · rw [q]; exact ⟨by decide, by decide⟩
    · exact bounds_i64 q
theorem u_ints9 : Try.prog.underlying 22 = some (.slice 3) := by kernel_rfl
theorem bytes_ints9 : Try.prog.bytesOf 3 = 8 := by kernel_rfl
set_option maxRecDepth 100000 in
theorem ints_len {H : Type} {enc : TypeId × Value → H} {W : World} {base : Nat} {ad : Option Addr} {la cap : Nat} {d : DataW H} {p : List MemPlace} (h : DataW.Trod enc Try.prog W base (fun _ => true) true 22 (.slice ad la cap) d p) (hw : ∀ n ∈ d.weights Try.prog 22, n ≤ reachBytes) : la ≤ 17592186044416 := by
  obtain ⟨fuel, hf⟩ := h
  rcases open_slice u_ints9 hf with ⟨hcs, hx⟩ | ⟨a, len', cap', m, n, D, Pl, hcs, _, hl, hm, hmm, hx, hel⟩
  · simp [Value.cells] at hcs
    obtain ⟨rfl, rfl, rfl⟩ := hcs
    exact Nat.zero_le _
  · simp [Value.cells] at hcs
    obtain ⟨rfl, rfl, rfl⟩ := hcs
    simp only [Prod.mk.injEq] at hx
    obtain ⟨rfl, rfl⟩ := hx
    have h2 := hw ((((List.range la).map D).length + ((List.range (m - la)).map fun j => D (la + j)).length) * Try.prog.bytesOf 3) (by simp [DataW.weights])
    rw [bytes_ints9] at h2
    simp [reachBytes] at h2
    omega
theorem cells_u64s' : Try.prog.cellsOf 32 = 1 := by kernel_rfl
set_option maxRecDepth 100000 in
theorem open_u64s {H : Type} {enc : TypeId × Value → H} {W : World} {base : Nat} {r : Reach} {b : Nat} {v : Value} {d : DataW H} {p : List MemPlace}
    (hv : Value.okWide Try.prog W r b 49 v) (h : DataW.Trod enc Try.prog W base (fun _ => true) true 49 v d p) (hlt : ∀ x ∈ p, x.block < W.heap.size) :
    ∃ (ad : Option Addr) (la cap ab ao : Nat) (A : Nat → Int), v = .slice ad la cap ∧ Nu .u64 Bu W ad la cap ab ao A := by
  obtain ⟨ad, la, cap, ar, aa, rfl, hl, hm, hw, hc⟩ := C.open_nums Try.underlying49 Try.underlying32 cells_u64s' hv h hlt
  obtain ⟨ab, ao, asp⟩ := aa
  have hsp : 0 < la → asp = none := fun q => by
    have := (hc q).2.2 0 q
    simpa [Addr.add] using World.cell?_spot this
  refine ⟨ad, la, cap, ab, ao, ar, rfl, ⟨hl, hm, fun q => ?_, fun i hi => ?_, fun i => ?_⟩⟩
  · obtain rfl := hsp q
    exact ⟨(hc q).1, (hc q).2.1⟩
  · obtain rfl := hsp (by omega)
    have := (hc (by omega)).2.2 i hi
    rwa [C.addr_add] at this
  · rcases hw i with q | q
    · rw [q]; exact ⟨by decide, by decide⟩
    · have := bounds_u64 q; exact ⟨this.1, by omega⟩
theorem u_u64s9 : Try.prog.underlying 49 = some (.slice 32) := by kernel_rfl
theorem bytes_u64s9 : Try.prog.bytesOf 32 = 8 := by kernel_rfl
set_option maxRecDepth 100000 in
theorem u64s_len {H : Type} {enc : TypeId × Value → H} {W : World} {base : Nat} {ad : Option Addr} {la cap : Nat} {d : DataW H} {p : List MemPlace} (h : DataW.Trod enc Try.prog W base (fun _ => true) true 49 (.slice ad la cap) d p) (hw : ∀ n ∈ d.weights Try.prog 49, n ≤ reachBytes) : la ≤ 17592186044416 := by
  obtain ⟨fuel, hf⟩ := h
  rcases open_slice u_u64s9 hf with ⟨hcs, hx⟩ | ⟨a, len', cap', m, n, D, Pl, hcs, _, hl, hm, hmm, hx, hel⟩
  · simp [Value.cells] at hcs
    obtain ⟨rfl, rfl, rfl⟩ := hcs
    exact Nat.zero_le _
  · simp [Value.cells] at hcs
    obtain ⟨rfl, rfl, rfl⟩ := hcs
    simp only [Prod.mk.injEq] at hx
    obtain ⟨rfl, rfl⟩ := hx
    have h2 := hw ((((List.range la).map D).length + ((List.range (m - la)).map fun j => D (la + j)).length) * Try.prog.bytesOf 32) (by simp [DataW.weights])
    rw [bytes_u64s9] at h2
    simp [reachBytes] at h2
    omega
theorem cells_byts' : Try.prog.cellsOf 5 = 1 := by kernel_rfl
set_option maxRecDepth 100000 in
theorem open_byts {H : Type} {enc : TypeId × Value → H} {W : World} {base : Nat} {r : Reach} {b : Nat} {v : Value} {d : DataW H} {p : List MemPlace}
    (hv : Value.okWide Try.prog W r b 67 v) (h : DataW.Trod enc Try.prog W base (fun _ => true) true 67 v d p) (hlt : ∀ x ∈ p, x.block < W.heap.size) :
    ∃ (ad : Option Addr) (la cap ab ao : Nat) (A : Nat → Int), v = .slice ad la cap ∧ Nu .u8 Bb W ad la cap ab ao A := by
  obtain ⟨ad, la, cap, ar, aa, rfl, hl, hm, hw, hc⟩ := C.open_nums Try.underlying67 Try.underlying5 cells_byts' hv h hlt
  obtain ⟨ab, ao, asp⟩ := aa
  have hsp : 0 < la → asp = none := fun q => by
    have := (hc q).2.2 0 q
    simpa [Addr.add] using World.cell?_spot this
  refine ⟨ad, la, cap, ab, ao, ar, rfl, ⟨hl, hm, fun q => ?_, fun i hi => ?_, fun i => ?_⟩⟩
  · obtain rfl := hsp q
    exact ⟨(hc q).1, (hc q).2.1⟩
  · obtain rfl := hsp (by omega)
    have := (hc (by omega)).2.2 i hi
    rwa [C.addr_add] at this
  · rcases hw i with q | q
    · rw [q]; exact ⟨by decide, by decide⟩
    · have := bounds_u8 q; exact ⟨this.1, by omega⟩
theorem u_byts9 : Try.prog.underlying 67 = some (.slice 5) := by kernel_rfl
theorem bytes_byts9 : Try.prog.bytesOf 5 = 1 := by kernel_rfl
set_option maxRecDepth 100000 in
theorem byts_len {H : Type} {enc : TypeId × Value → H} {W : World} {base : Nat} {ad : Option Addr} {la cap : Nat} {d : DataW H} {p : List MemPlace} (h : DataW.Trod enc Try.prog W base (fun _ => true) true 67 (.slice ad la cap) d p) (hw : ∀ n ∈ d.weights Try.prog 67, n ≤ reachBytes) : la ≤ 140737488351232 := by
  obtain ⟨fuel, hf⟩ := h
  rcases open_slice u_byts9 hf with ⟨hcs, hx⟩ | ⟨a, len', cap', m, n, D, Pl, hcs, _, hl, hm, hmm, hx, hel⟩
  · simp [Value.cells] at hcs
    obtain ⟨rfl, rfl, rfl⟩ := hcs
    exact Nat.zero_le _
  · simp [Value.cells] at hcs
    obtain ⟨rfl, rfl, rfl⟩ := hcs
    simp only [Prod.mk.injEq] at hx
    obtain ⟨rfl, rfl⟩ := hx
    have h2 := hw ((((List.range la).map D).length + ((List.range (m - la)).map fun j => D (la + j)).length) * Try.prog.bytesOf 5) (by simp [DataW.weights])
    rw [bytes_byts9] at h2
    simp [reachBytes] at h2
    omega
/-- a list of bools, as it stands -/
structure Bo (w : World) (ad : Option Addr) (la cap ab ao : Nat) (A : Nat → Bool) : Prop where
  len : la ≤ cap
  cap : cap ≤ 9223372036854775807
  at0 : 0 < la → ad = some ⟨ab, ao, none⟩ ∧ ab < w.heap.size
  cell : ∀ i, i < la → w.cell? ⟨ab, ao + i, none⟩ = some (.bool (A i))
theorem Bo.below {w w' : World} {ad : Option Addr} {la cap ab ao : Nat} {A : Nat → Bool} (h : Bo w ad la cap ab ao A) (hb : Below w.heap.size w w') : Bo w' ad la cap ab ao A :=
  ⟨h.len, h.cap, fun q => ⟨(h.at0 q).1, Nat.lt_of_lt_of_le (h.at0 q).2 hb.size⟩, fun i hi => by
    have hlt := (h.at0 (by omega)).2
    rw [World.cell?_of_block (w := w) (hb.block _ hlt)]; exact h.cell i hi⟩
theorem cells_bool : Try.prog.cellsOf 4 = 1 := by kernel_rfl
theorem u_sbool : Try.prog.underlying 50 = some (.slice 4) := by kernel_rfl
theorem u_bool : Try.prog.underlying 4 = some .bool := by kernel_rfl
set_option maxRecDepth 100000 in
theorem open_bools {H : Type} {enc : TypeId × Value → H} {W : World} {base : Nat} {r : Reach} {b : Nat} {v : Value} {d : DataW H} {p : List MemPlace}
    (hv : Value.okWide Try.prog W r b 50 v) (h : DataW.Trod enc Try.prog W base (fun _ => true) true 50 v d p) (hlt : ∀ x ∈ p, x.block < W.heap.size) :
    ∃ (ad : Option Addr) (la cap ab ao : Nat) (X : Nat → Bool), v = .slice ad la cap ∧ Bo W ad la cap ab ao X := by
  obtain ⟨a0, len, cap, rfl⟩ := okWide_slice u_sbool hv
  obtain ⟨fuel, hf⟩ := h
  rcases open_slice u_sbool hf with ⟨hcs, hx⟩ | ⟨a, len', cap', m, n, D, Pl, hcs, _, hl, hm, hmm, hx, hel⟩
  · simp [Value.cells] at hcs
    obtain ⟨rfl, rfl, rfl⟩ := hcs
    exact ⟨none, 0, 0, 0, 0, fun _ => false, rfl, ⟨Nat.le_refl _, by decide, fun q => absurd q (by decide), fun i hi => absurd hi (Nat.not_lt_zero i)⟩⟩
  · simp [Value.cells] at hcs
    obtain ⟨rfl, rfl, rfl⟩ := hcs
    simp only [if_true] at hmm
    have each : ∀ i, ∃ X : Bool, i < len → W.cell? (a.add i) = some (.bool X) := fun i => by
      rcases Nat.lt_or_ge i len with hi | hi
      · obtain ⟨cs', h1, h2⟩ := hel i (by omega)
        obtain ⟨X, rfl, b0⟩ := DataW.trod_bool u_bool h2
        rw [cells_bool] at h1
        obtain ⟨_, hlen, hcell⟩ := World.cells?_some h1
        refine ⟨X, fun _ => ?_⟩
        have := hcell 0 (by decide)
        rw [addr_two, Nat.mul_one, Nat.add_zero] at this
        exact this
      · exact ⟨false, fun q => by omega⟩
    obtain ⟨X, hX⟩ := Classical.axiomOfChoice each
    clear each
    have hbl : ∀ h0 : 0 < len, a.spot = none ∧ a.block < W.heap.size := fun h0 => by
      have k0 := hX 0 h0
      refine ⟨by simpa [Addr.add] using World.cell?_spot k0, ?_⟩
      obtain ⟨cs', h1, _⟩ := hel 0 (by omega)
      rw [cells_bool] at h1
      have := World.cells?_block h1 (by decide)
      simpa [Addr.add] using this
    obtain ⟨ab, ao, asp⟩ := a
    refine ⟨some ⟨ab, ao, asp⟩, len, cap, ab, ao, X, rfl, ⟨hl, by simpa [maxLen] using hm, fun h0 => ?_, fun i hi => ?_⟩⟩
    · obtain ⟨q1, q2⟩ := hbl h0
      obtain rfl : asp = none := q1
      exact ⟨rfl, q2⟩
    · obtain ⟨q1, q2⟩ := hbl (by omega)
      obtain rfl : asp = none := q1
      have k := hX i hi
      rw [C.addr_add] at k
      exact k
end Go.Proofs.Ytpplcijdhedjcaa
namespace Go.Proofs.Ytpplcijdhedjcaa
open Go.RowKit Go.ChangeShapes Go.WideShapes Go.ChangeAt Go.Deep
open C (Only hid Still ret_bool ret_int row)
set_option linter.unusedVariables false
set_option maxRecDepth 100000

/-- a list's length, and what a nil one is -/
theorem ints_ln {H : Type} {enc : TypeId × Value → H} {W : World} {base : Nat} {ad : Option Addr} {la cap : Nat} {d : DataW H} {p : List MemPlace} (h : DataW.Trod enc Try.prog W base (fun _ => true) true 22 (.slice ad la cap) d p) (hw : ∀ n ∈ d.weights Try.prog 22, n ≤ reachBytes) : la ≤ 17592186044416 ∧ (ad = none → la = 0 ∧ cap = 0) := by
  refine ⟨ints_len h hw, ?_⟩
  obtain ⟨fuel, hf⟩ := h
  rcases open_slice u_ints9 hf with ⟨hcs, hx⟩ | ⟨a, len', cap', m, n, D, Pl, hcs, _, hl, hm, hmm, hx, hel⟩
  · simp [Value.cells] at hcs
    obtain ⟨rfl, rfl, rfl⟩ := hcs
    exact fun _ => ⟨rfl, rfl⟩
  · simp [Value.cells] at hcs
    obtain ⟨rfl, rfl, rfl⟩ := hcs
    exact fun z => by cases z
def ixP (A : Nat → Int) (n : Nat) : List Value := (List.range n).map fun i => .int .i64 (A i)
theorem ixP_len (A : Nat → Int) (n : Nat) : (ixP A n).length = n := by simp [ixP]
theorem ixP_get (A : Nat → Int) (n i : Nat) (h : i < n) : (ixP A n)[i]? = some (.int .i64 (A i)) := by simp [ixP, h]
theorem ixP_one (A : Nat → Int) (n : Nat) : ∀ u ∈ ixP A n, u.oneCell' = true := by
  intro u hu
  simp [ixP] at hu
  obtain ⟨i, -, rfl⟩ := hu
  rfl
theorem own_lsP {w : World} {base : Nat} {u : Value} {n : Nat} {A : Nat → Int} (h : w.ownsRow base 3 1 u n (ixP A n)) (hA : ∀ j, Bi (A j)) : ∃ ad cap b, u = .slice ad n cap ∧ Ls w ad n cap b 0 A := by
  rcases h.2 with ⟨h1, h2⟩ | ⟨g, cap, cur, h1, -, h3, h4, h5, h6, h7⟩
  · subst h2
    exact ⟨none, 0, 0, h1, ⟨Nat.le_refl _, by decide, fun q => by omega, fun j hj => by omega, fun j hj => by omega⟩⟩
  · refine ⟨_, cap, g, h1, ⟨h4, h5, fun _ => ⟨rfl, lt_of_block h3⟩, fun j hj => ?_, fun j _ => hA j⟩⟩
    rw [Nat.zero_add, cell_of_row w g j _ _ _ h3]
    have : (cur.toList.take (n * 1))[j]? = (ixP A n)[j]? := by rw [h7]
    rw [List.getElem?_take_of_lt (by omega), Array.getElem?_toList, ixP_get _ _ _ hj] at this
    exact this
theorem nu_ls {W : World} {ad : Option Addr} {la cap ab ao : Nat} {K : Nat → Int} (h : Nu .i64 Bi W ad la cap ab ao K) : Ls W ad la cap ab ao K := ⟨h.len, h.cap, h.at0, h.cell, fun j _ => h.num j⟩
/-- kinds, as far as there are slots -/
def kOf (n : Nat) (K : Nat → Int) : Nat → Int := fun j => if j < n then K j else 0
theorem ls_kOf {w : World} {ad : Option Addr} {n cap b o : Nat} {K : Nat → Int} (h : Ls w ad n cap b o K) : Ls w ad n cap b o (kOf n K) :=
  ⟨h.len, h.cap, h.at0, fun j hj => by unfold kOf; rw [if_pos hj]; exact h.cell j hj, fun j hj => by unfold kOf; rw [if_pos hj]; exact h.num j hj⟩
theorem kOf_ok {n : Nat} {K : Nat → Int} (h : ∀ j, j < n → 0 ≤ K j ∧ K j ≤ 255) (j : Nat) : 0 ≤ kOf n K j ∧ kOf n K j ≤ 255 := by
  unfold kOf
  split
  · exact h j ‹_›
  · exact ⟨by decide, by decide⟩
/-- both buses -/
def PB (W w : World) (p q n : Nat) (V : Nat → Sv) : Prop := ∃ F G, Bq w F p n (fB V) ∧ VOk V ∧ Dq w G q n V ∧ (∀ x, F x → ¬ G x) ∧ (∀ x, F x → W.heap.size ≤ x) ∧ (∀ x, G x → W.heap.size ≤ x) ∧ Below W.heap.size W w
/-- both buses, and a block of the law's own -/
def PX (W w : World) (p q n : Nat) (V U : Nat → Sv) (xb : Nat) (cs : Array Value) : Prop := ∃ F G, Bq w F p n (fB V) ∧ VOk V ∧ Dq w G q n U ∧ (∀ x, F x → ¬ G x) ∧ (∀ x, F x → W.heap.size ≤ x) ∧ (∀ x, G x → W.heap.size ≤ x) ∧ Below W.heap.size W w ∧ ¬ F xb ∧ ¬ G xb ∧ w.heap[xb]? = some (.cells cs 34 (0, 0))
section
variable {W w w' : World} {p q n xb : Nat} {V U : Nat → Sv} {cs : Array Value}
theorem PB.bel (h : PB W w p q n V) : Below W.heap.size W w := by obtain ⟨F, G, h1, h2, h3, h4, h5, h6, h7⟩ := h; exact h7
theorem PX.bel (h : PX W w p q n V U xb cs) : Below W.heap.size W w := by obtain ⟨F, G, h1, h2, h3, h4, h5, h6, h7, -⟩ := h; exact h7
theorem PX.pb (h : PX W w p q n V V xb cs) : PB W w p q n V := by obtain ⟨F, G, h1, h2, h3, h4, h5, h6, h7, -⟩ := h; exact ⟨F, G, h1, h2, h3, h4, h5, h6, h7⟩
theorem PB.below (h : PB W w p q n V) (hb : Below w.heap.size w w') : PB W w' p q n V := by
  obtain ⟨F, G, h1, h2, h3, h4, h5, h6, h7⟩ := h
  exact ⟨F, G, h1.below hb, h2, h3.below hb, h4, h5, h6, h7.trans (hb.mono h7.size)⟩
theorem PX.below (h : PX W w p q n V U xb cs) (hb : Below w.heap.size w w') : PX W w' p q n V U xb cs := by
  obtain ⟨F, G, h1, h2, h3, h4, h5, h6, h7, h8, h9, h10⟩ := h
  exact ⟨F, G, h1.below hb, h2, h3.below hb, h4, h5, h6, h7.trans (hb.mono h7.size), h8, h9, by rw [hb.block _ (lt_of_block h10)]; exact h10⟩
theorem PB.px (h : PB W w p q n V) (cs : Array Value) : PX W (w.alloc (.cells cs 34)) p q n V V w.heap.size cs := by
  obtain ⟨F, G, h1, h2, h3, h4, h5, h6, h7⟩ := h
  have hb : Below w.heap.size w (w.alloc (.cells cs 34)) := (Below.refl _ _).alloc (Nat.le_refl _) _
  exact ⟨F, G, h1.below hb, h2, h3.below hb, h4, h5, h6, h7.trans (hb.mono h7.size), fun z => by have := h1.lt z; omega, fun z => by have := h3.lt z; omega, heap_alloc_new w _⟩
theorem PB.lb (h : PB W w p q n V) : LB W w p n V := by obtain ⟨F, G, h1, h2, h3, h4, h5, h6, h7⟩ := h; exact ⟨F, h1, h2, h5, h7⟩
theorem PX.lb (h : PX W w p q n V U xb cs) : LB W w p n V := by obtain ⟨F, G, h1, h2, h3, h4, h5, h6, h7, -⟩ := h; exact ⟨F, h1, h2, h5, h7⟩
theorem PB.dq (h : PB W w p q n V) : ∃ G, Dq w G q n V := by obtain ⟨F, G, h1, h2, h3, -⟩ := h; exact ⟨G, h3⟩
theorem PX.dq (h : PX W w p q n V U xb cs) : ∃ G, Dq w G q n U := by obtain ⟨F, G, h1, h2, h3, -⟩ := h; exact ⟨G, h3⟩
theorem PX.c (h : PX W w p q n V U xb cs) (i : Nat) (v : Value) (hv : cs[i]? = some v) : w.cell? ⟨xb, i, none⟩ = some v := by
  obtain ⟨F, G, h1, h2, h3, h4, h5, h6, h7, h8, h9, h10⟩ := h
  rw [cell_of_row w xb i _ _ _ h10]
  exact hv
theorem PX.wa (h : PX W w p q n V U xb cs) (s o z v : Int) (s0 : -9223372036854775808 ≤ s) (s1 : s ≤ 9223372036854775807) (o0 : 0 ≤ o) (o1 : o < 18446744073709551616) (z0 : -9223372036854775808 ≤ z) (z1 : z ≤ 9223372036854775807) (v0 : 0 ≤ v) (v1 : v < 18446744073709551616) : Calls Try.prog 17 #[.pointer (some ⟨p, 0, none⟩), .int .i64 s, .int .u64 o, .int .i64 z, .int .u64 v] w fun e w' => e = .returned (.bool (fitB o z)) ∧ PX W w' p q n (wrV n V s o z v) U xb cs := by
  obtain ⟨F, G, h1, h2, h3, h4, h5, h6, h7, h8, h9, h10⟩ := h
  refine (c_Write w F p n (fB V) h1 s o z v s0 s1 o0 o1 z0 z1 v0 v1).mono ?_
  rintro e w' ⟨rfl, k1, k2⟩
  rw [wrF_fB h2 n s o z v o0] at k1
  exact ⟨rfl, F, G, k1, h2.wr n s o z v, h3.only k2 fun x hx hf => h4 x hf hx, h4, h5, h6, k2.bel h5 h7, h8, h9, k2.old h10 h8⟩
theorem PX.wb (h : PX W w p q n V U xb cs) (s o z v : Int) (s0 : -9223372036854775808 ≤ s) (s1 : s ≤ 9223372036854775807) (o0 : 0 ≤ o) (o1 : o < 18446744073709551616) (z0 : -9223372036854775808 ≤ z) (z1 : z ≤ 9223372036854775807) (v0 : 0 ≤ v) (v1 : v < 18446744073709551616) : Calls Try.prog 18 #[.pointer (some ⟨q, 0, none⟩), .int .i64 s, .int .u64 o, .int .i64 z, .int .u64 v] w fun e w' => e = .returned (.bool (fitB o z)) ∧ PX W w' p q n V (wrV n U s o z v) xb cs := by
  obtain ⟨F, G, h1, h2, h3, h4, h5, h6, h7, h8, h9, h10⟩ := h
  refine (d_Write h3 s o z v s0 s1 o0 o1 z0 z1 v0 v1).mono ?_
  rintro e w' ⟨rfl, k1, k2⟩
  exact ⟨rfl, F, G, h1.only k2 h4, h2, k1, h4, h5, h6, k2.bel h6 h7, h8, h9, k2.old h10 h9⟩
theorem PX.list (h : PX W w p q n V U xb cs) : ∃ ad cp, w.cell? ⟨q, 0, none⟩ = some (.slice ad n cp) ∧ n ≤ 8 := by
  obtain ⟨G, h⟩ := h.dq
  exact h.list
theorem px_Find (h : PX W w p q n V V xb cs) (a : Int) (a0 : 0 ≤ a) (a1 : a < 18446744073709551616) : Calls Try.prog 19 #[.pointer (some ⟨p, 0, none⟩), .int .u64 a] w fun e w' => e = .returned (.tuple #[.int .i64 (fdS n V a), .int .u64 (fdO n V a), .bool (fdB n V a)]) ∧ PX W w' p q n V V xb cs :=
  (l_Find h.lb a a0 a1).mono fun e w' hh => ⟨hh.1, h.below (hh.2.below _)⟩
theorem dx_Find (h : PX W w p q n V V xb cs) (a : Int) (a0 : 0 ≤ a) (a1 : a < 18446744073709551616) : Calls Try.prog 20 #[.pointer (some ⟨q, 0, none⟩), .int .u64 a] w fun e w' => e = .returned (.tuple #[.int .i64 (fdS n V a), .int .u64 (fdO n V a), .bool (fdB n V a)]) ∧ PX W w' p q n V V xb cs := by
  obtain ⟨G, hG⟩ := h.dq
  exact (d_Find hG a a0 a1).mono fun e w' hh => ⟨hh.1, h.below hh.2⟩
theorem px_Bar (h : PX W w p q n V V xb cs) (s : Int) (s0 : -9223372036854775808 ≤ s) (s1 : s ≤ 9223372036854775807) : Calls Try.prog 21 #[.pointer (some ⟨p, 0, none⟩), .int .i64 s] w fun e w' => e = .returned (.tuple #[.int .u64 (bsV n V s), .bool (onV n V s)]) ∧ PX W w' p q n V V xb cs :=
  (l_Bar h.lb s s0 s1).mono fun e w' hh => ⟨hh.1, h.below (hh.2.below _)⟩
theorem dx_Bar (h : PX W w p q n V V xb cs) (s : Int) (s0 : -9223372036854775808 ≤ s) (s1 : s ≤ 9223372036854775807) : Calls Try.prog 22 #[.pointer (some ⟨q, 0, none⟩), .int .i64 s] w fun e w' => e = .returned (.tuple #[.int .u64 (bsV n V s), .bool (onV n V s)]) ∧ PX W w' p q n V V xb cs := by
  obtain ⟨G, hG⟩ := h.dq
  exact (d_Bar hG s s0 s1).mono fun e w' hh => ⟨hh.1, h.below hh.2⟩
theorem px_Read (h : PX W w p q n V V xb cs) (s o z : Int) (s0 : -9223372036854775808 ≤ s) (s1 : s ≤ 9223372036854775807) (o0 : 0 ≤ o) (o1 : o < 18446744073709551616) (z0 : -9223372036854775808 ≤ z) (z1 : z ≤ 9223372036854775807) : Calls Try.prog 15 #[.pointer (some ⟨p, 0, none⟩), .int .i64 s, .int .u64 o, .int .i64 z] w fun e w' => e = .returned (.tuple #[.int .u64 (rdV n V s o z), .bool (fitB o z)]) ∧ PX W w' p q n V V xb cs :=
  (l_Read h.lb s o z s0 s1 o0 o1 z0 z1).mono fun e w' hh => ⟨hh.1, by rw [hh.2]; exact h⟩
theorem dx_Read (h : PX W w p q n V V xb cs) (s o z : Int) (s0 : -9223372036854775808 ≤ s) (s1 : s ≤ 9223372036854775807) (o0 : 0 ≤ o) (o1 : o < 18446744073709551616) (z0 : -9223372036854775808 ≤ z) (z1 : z ≤ 9223372036854775807) : Calls Try.prog 16 #[.pointer (some ⟨q, 0, none⟩), .int .i64 s, .int .u64 o, .int .i64 z] w fun e w' => e = .returned (.tuple #[.int .u64 (rdV n V s o z), .bool (fitB o z)]) ∧ PX W w' p q n V V xb cs := by
  obtain ⟨G, hG⟩ := h.dq
  exact (d_Read hG s o z s0 s1 o0 o1 z0 z1).mono fun e w' hh => ⟨hh.1, h.below hh.2⟩
theorem pb_Read (h : PB W w p q n V) (s o z : Int) (s0 : -9223372036854775808 ≤ s) (s1 : s ≤ 9223372036854775807) (o0 : 0 ≤ o) (o1 : o < 18446744073709551616) (z0 : -9223372036854775808 ≤ z) (z1 : z ≤ 9223372036854775807) : Calls Try.prog 15 #[.pointer (some ⟨p, 0, none⟩), .int .i64 s, .int .u64 o, .int .i64 z] w fun e w' => e = .returned (.tuple #[.int .u64 (rdV n V s o z), .bool (fitB o z)]) ∧ PB W w' p q n V :=
  (l_Read h.lb s o z s0 s1 o0 o1 z0 z1).mono fun e w' hh => ⟨hh.1, by rw [hh.2]; exact h⟩
theorem db_Read (h : PB W w p q n V) (s o z : Int) (s0 : -9223372036854775808 ≤ s) (s1 : s ≤ 9223372036854775807) (o0 : 0 ≤ o) (o1 : o < 18446744073709551616) (z0 : -9223372036854775808 ≤ z) (z1 : z ≤ 9223372036854775807) : Calls Try.prog 16 #[.pointer (some ⟨q, 0, none⟩), .int .i64 s, .int .u64 o, .int .i64 z] w fun e w' => e = .returned (.tuple #[.int .u64 (rdV n V s o z), .bool (fitB o z)]) ∧ PB W w' p q n V := by
  obtain ⟨G, hG⟩ := h.dq
  exact (d_Read hG s o z s0 s1 o0 o1 z0 z1).mono fun e w' hh => ⟨hh.1, h.below hh.2⟩
end
/-- the program's New, its list of its own -/
theorem pb_New (W w : World) (hW : Below W.heap.size W w) (ad : Option Addr) (n cap b o : Nat) (K : Nat → Int) (hL : Ls w ad n cap b o K) (n8 : n ≤ 8) (hK : ∀ j, j < n → 0 ≤ K j ∧ K j ≤ 255) : Calls Try.prog 8 #[.slice ad n cap] w fun e w' => ∃ p, e = .returned (.tuple #[.pointer (some ⟨p, 0, none⟩), .int .i64 0]) ∧ LB W w' p n (fun i => sv0 (kOf n K i)) :=
  (l_New W w hW ad n cap b o (kOf n K) (ls_kOf hL) n8 (kOf_ok hK)).mono fun e w' hh => ⟨_, hh.1, hh.2.1⟩
/-- the document's beside it -/
theorem db_New (W w : World) (p : Nat) (ad : Option Addr) (n cap b o : Nat) (K : Nat → Int) (h : LB W w p n (fun i => sv0 (kOf n K i))) (hL : Ls w ad n cap b o K) (n8 : n ≤ 8) (hK : ∀ j, j < n → 0 ≤ K j ∧ K j ≤ 255) : Calls Try.prog 9 #[.slice ad n cap] w fun e w' => ∃ q, e = .returned (.tuple #[.pointer (some ⟨q, 0, none⟩), .int .i64 0]) ∧ PB W w' p q n (fun i => sv0 (kOf n K i)) := by
  obtain ⟨F, h1, h2, h3, h4⟩ := h
  refine (d_New w ad n cap b o (kOf n K) (ls_kOf hL) n8 fun j _ => kOf_ok hK j).mono ?_
  rintro e w' ⟨rfl, u, k1, k2, k3⟩
  exact ⟨_, rfl, F, fun x => x = w.heap.size ∨ Ug u x, h1.below k2, h2, ⟨⟨u, k1, fun x => Iff.rfl⟩, h2, n8⟩, fun x hx hg => by
    have := h1.lt hx
    rcases hg with e | e
    · omega
    · have := k3 x e; omega, h3, fun x hx => hx.elim (fun e => by rw [e]; exact h4.size) fun e => Nat.le_trans h4.size (k3 x e), h4.trans (k2.mono h4.size)⟩
end Go.Proofs.Ytpplcijdhedjcaa
namespace Go.Proofs.Ytpplcijdhedjcaa
open Go.RowKit
open C (Only hid Still ret_bool ret_int row)
set_option linter.unusedVariables false
set_option maxRecDepth 100000

theorem info_intX : (Try.prog.info? 3).map (fun i => (i.zero, i.size, i.bytes)) = some (some (.int .i64 0), 1, 8) := by kernel_rfl
theorem u_sintX : Try.prog.underlying 22 = some (.slice 3) := by kernel_rfl
theorem wtd {ops : Array Oper} {a : Act} {o oj : Oper} {j d : Nat} {b : Bool} (hg : o.guard = some (j, b)) (hj : ops[j]? = some oj) (hd : oj.dst = some d) (hv : a.tmps[d]? = some (.bool b)) : Region.wanted o (yielded ops a.tmps) = true := by
  simp [Region.wanted, hg, yielded, hj, hd, hv]
theorem cut_len (n : Nat) (W : World) (b : Addr) (cap ab ao : Nat) (K : Nat → Int) (h : Nu .i64 Bi W (some b) n cap ab ao K) : ∀ j u, (ixP K n)[j]? = some u → W.cell? (b.add j) = some u := by
  intro j u hu
  have hj : j < n := by
    rcases Nat.lt_or_ge j n with q | q
    · exact q
    · rw [List.getElem?_eq_none (by simpa [ixP_len] using q)] at hu; cases hu
  rw [ixP_get _ _ _ hj] at hu
  obtain ⟨e, _⟩ := h.at0 (by omega)
  obtain rfl := Option.some.inj e
  rw [C.addr_add, h.cell j hj]; exact hu
/-- append([]int(nil), x...) -/
theorem wpList_cp {W : World} {ops : Array Oper} {rest : List Oper} {o : Oper} {a : Act} {Q : Exit → Act → World → Prop} {ad : Option Addr} {la cap ab ao : Nat} {K : Nat → Int} (hgd : o.guard = none) (s x : Operand) (ho : o.op = .call { callee := .builtin .append, args := #[s, x], argTypes := #[22, 22] }) (hs : a.eval s = .slice none 0 0) (hx : a.eval x = .slice ad la cap) (hN : Nu .i64 Bi W ad la cap ab ao K) (hla : la ≤ 17592186044416) (hnil : ad = none → la = 0 ∧ cap = 0)
    (h : ∀ ad1 cap1 b1 w1, Ls w1 ad1 la cap1 b1 0 K → Below W.heap.size W w1 → wpList Try.prog ops Q rest (a.put o.dst (.slice ad1 la cap1)) w1) : wpList Try.prog ops Q (o :: rest) a W := by
  obtain ⟨i0, hi0, hz0, hz1, hz2⟩ := info_parts info_intX
  cases ad with
  | none =>
    obtain ⟨rfl, rfl⟩ := hnil rfl
    exact wpList_append_own_none hgd s x 22 ho W.heap.size 3 i0 1 u_sintX hi0 _ 0 [] hs (World.ownsRow_nil _ _ _ _) hx (h none 0 0 W ⟨Nat.le_refl _, (by decide), (fun z => absurd z (by decide)), (fun j z => absurd z (Nat.not_lt_zero j)), (fun j z => absurd z (Nat.not_lt_zero j))⟩ (.refl _ _))
  | some b =>
    refine wpList_append_own _ hgd s x 22 ho W.heap.size 3 i0 (.int .i64 0) 1 8 u_sintX hi0 hz0 hz1 hz2 rfl (by decide) _ 0 [] hs (World.ownsRow_nil _ _ _ _) b la cap (ixP K la) hx (by rw [ixP_len]; omega) (cut_len la W b cap ab ao K hN) (ixP_one _ _) (by unfold maxLen; omega) (by omega) (Nat.le_refl _) ?_
    intro v1 w1 hown hgrow _
    obtain ⟨ad1, cap1, b1, rfl, hls⟩ := own_lsP (A := K) (by simpa using hown) hN.num
    exact h _ _ _ _ hls ((Below.refl _ _).grown hgrow (Nat.le_refl _) (fun k q => by have q2 : (none : Option Nat) = some k := q; cases q2))
theorem dnBx (w : World) (n : Nat) : Below w.heap.size w (w.drewN n) := ⟨rfl, rfl, rfl, Nat.le_refl _, fun _ _ => rfl⟩
set_option maxHeartbeats 16000000 in
theorem w_PciPlays (W : World) (ad : Option Addr) (la cap ab ao : Nat) (K : Nat → Int) (hN : Nu .i64 Bi W ad la cap ab ao K) (bd : Option Addr) (lb bcap bb bo : Nat) (X : Nat → PopV) (hX : Pc W bd lb bcap bb bo X) (hl : la ≤ 17592186044416 ∧ (ad = none → la = 0 ∧ cap = 0)) : Calls Try.prog 3 #[.slice ad la cap, .slice bd lb bcap] W fun e w' => e = .returned (.bool true) ∧ Below W.heap.size W w' := by
  have hAw := l_awake
  obtain ⟨hla, hnil⟩ := hl
  obtain ⟨i0, hi0, hz0, hz1, hz2⟩ := info_parts info_intX
  have HXs := hid hX
  have HNu := hid hN
  have hlen := hX.len
  have hcap := hX.cap
  have hln := hN.len
  have hcn := hN.cap
  clear hX hN
  by_cases hg : la ≤ 8 ∧ ∀ j, j < la → 0 ≤ K j ∧ K j ≤ 255
  · obtain ⟨n8, hK⟩ := hg
    have HK := hid hK
    have HN : Hid (∀ w ad cap b, Ls w ad la cap b 0 K → Below W.heap.size W w → Calls Try.prog 8 #[.slice ad la cap] w fun e w' => ∃ p, e = .returned (.tuple #[.pointer (some ⟨p, 0, none⟩), .int .i64 0]) ∧ LB W w' p la (fun i => sv0 (kOf la K i))) := fun w ad cap b h hw => pb_New W w hw ad la cap b 0 K h n8 HK.out
    have HM : Hid (∀ w p, LB W w p la (fun i => sv0 (kOf la K i)) → Calls Try.prog 9 #[.slice ad la cap] w fun e w' => ∃ q, e = .returned (.tuple #[.pointer (some ⟨q, 0, none⟩), .int .i64 0]) ∧ PB W w' p q la (fun i => sv0 (kOf la K i))) := fun w p h => db_New W w p ad la cap ab ao K h ((nu_ls HNu.out).below h.bel) n8 HK.out
    clear hK
    generalize (fun i => sv0 (kOf la K i)) = V0 at *
    go_enter Try.func3, Try.ntmps3
    go_upto_region 3 with (first
      | (at_builtin; refine wpList_cp rfl _ _ rfl rfl rfl HNu.out hla hnil ?_; intro ad1 cap1 b1 w1 hls hbw; have HLS := hid hls; have HBW := hid hbw; clear hls hbw)
      | (go_at_call 8; refine (HN.out _ _ _ _ HLS.out HBW.out).mono ?_; rintro e w2 ⟨p, rfl, hl⟩; have hM := HM.out _ _ hl; clear hl)
      | (go_at_call 9; refine hM.mono ?_; rintro e w3 ⟨q, rfl, hl⟩; have HPB := hid hl; clear hl hM))
    go_wp2_with fail
    go_loopw [9] (fun i wr => ∃ (j : Nat) (V : Nat → Sv), j ≤ lb ∧ i = .int .i64 j ∧ Hid (PB W wr p q la V)) (fun i _ => lb - (intOf i).toNat)
    case atStart => exact ⟨0, V0, by omega, rfl, HPB⟩
    case round =>
      obtain ⟨j, V, hj, rfl, HP⟩ := hrel
      by_cases hlt : j < lb
      · obtain ⟨rfl, -⟩ := HXs.out.at0 (by omega)
        have hPc := HXs.out.below HP.out.bel
        have c0 : wr.cell? ⟨bb, bo + j * 5, none⟩ = some (.int .i64 (X j).kd) := hPc.cell j hlt 0 (by decide)
        have c1 : wr.cell? ⟨bb, bo + j * 5 + 1, none⟩ = some (.int .i64 (X j).sz) := hPc.cell j hlt 1 (by decide)
        have c2 : wr.cell? ⟨bb, bo + j * 5 + 2, none⟩ = some (.int .i64 (X j).sr) := hPc.cell j hlt 2 (by decide)
        have c3 : wr.cell? ⟨bb, bo + j * 5 + 3, none⟩ = some (.int .u64 (X j).of) := hPc.cell j hlt 3 (by decide)
        have c4 : wr.cell? ⟨bb, bo + j * 5 + 4, none⟩ = some (.int .u64 (X j).v) := hPc.cell j hlt 4 (by decide)
        obtain ⟨o0, o1⟩ := (hPc.num j hlt).of
        obtain ⟨v0, v1⟩ := (hPc.num j hlt).v
        obtain ⟨s0, s1⟩ := (hPc.num j hlt).sz
        obtain ⟨r0, r1⟩ := (hPc.num j hlt).sr
        obtain ⟨k0, k1⟩ := (hPc.num j hlt).kd
        have hPl := C.c_Place (X j).kd 4 (by decide) (by decide) k0 k1
        have hjl : (j : Int) < lb := by omega
        clear hPc k0 k1
        generalize (X j).kd = xk at *
        generalize (X j).sz = xs at *
        generalize (X j).sr = xr at *
        generalize (X j).of = xo at *
        generalize (X j).v = xv at *
        have hk4 : xk % 4 = 0 ∨ xk % 4 = 1 ∨ xk % 4 = 2 ∨ xk % 4 = 3 := by omega
        go_upto_region 11 with fail
        obtain ⟨wy, hwy⟩ : ∃ wy, wy = wr.alloc (.cells #[.int .i64 xk, .int .i64 xs, .int .i64 xr, .int .u64 xo, .int .u64 xv] 34) := ⟨_, rfl⟩
        rw [← hwy]
        have HPy : Hid (PX W wy p q la V V wr.heap.size #[.int .i64 xk, .int .i64 xs, .int .i64 xr, .int .u64 xo, .int .u64 xv]) := by rw [hwy]; exact HP.out.px _
        clear c0 c1 c2 c3 c4 hwy HP
        generalize wr.heap.size = xb at *
        have y1 : wy.cell? ⟨xb, 1, none⟩ = some (.int .i64 xs) := HPy.out.c 1 _ rfl
        obtain ⟨qa, qc, hqc, n8'⟩ := HPy.out.list
        have HSl : Hid (∀ m, Calls Try.prog 11 #[.pointer (some ⟨p, 0, none⟩)] (wy.drewN m) fun e w' => e = .returned (.int .i64 la) ∧ w' = wy.drewN m) := fun m => l_Slots (HPy.out.below (dnBx wy m)).lb
        have HKd : Hid (∀ m, Calls Try.prog 12 #[.pointer (some ⟨p, 0, none⟩), .int .i64 xs] (wy.drewN m) fun e w' => e = .returned (.int .i64 (kdV la V xs)) ∧ w' = wy.drewN m) := fun m => l_Kind (HPy.out.below (dnBx wy m)).lb xs s0 s1
        have HDk : Hid (∀ m, Calls Try.prog 13 #[.pointer (some ⟨q, 0, none⟩), .int .i64 xs] (wy.drewN m) fun e w' => e = .returned (.int .i64 (kdV la V xs)) ∧ w' = wy.drewN m) := fun m => by
          obtain ⟨G, hG⟩ := (HPy.out.below (dnBx wy m)).dq
          exact d_Kind hG xs s0 s1
        go_quiet (first | (go_at_call 11; exact Calls.quiet_of_same (HSl.out _)) | (go_at_call 12; exact Calls.quiet_of_same (HKd.out _)) | (go_at_call 13; exact Calls.quiet_of_same (HDk.out _)))
        obtain ⟨wx, hwx⟩ : ∃ wx, wx = wy.drewN nq := ⟨_, rfl⟩
        rw [← hwx]
        have HPx : Hid (PX W wx p q la V V xb #[.int .i64 xk, .int .i64 xs, .int .i64 xr, .int .u64 xo, .int .u64 xv]) := by rw [hwx]; exact HPy.out.below (dnBx wy _)
        have x0 : wx.cell? ⟨xb, 0, none⟩ = some (.int .i64 xk) := HPx.out.c 0 _ rfl
        have x1 : wx.cell? ⟨xb, 1, none⟩ = some (.int .i64 xs) := HPx.out.c 1 _ rfl
        have x2 : wx.cell? ⟨xb, 2, none⟩ = some (.int .i64 xr) := HPx.out.c 2 _ rfl
        have x3 : wx.cell? ⟨xb, 3, none⟩ = some (.int .u64 xo) := HPx.out.c 3 _ rfl
        have x4 : wx.cell? ⟨xb, 4, none⟩ = some (.int .u64 xv) := HPx.out.c 4 _ rfl
        clear hwx y1 hqc HPy HSl HKd HDk
        rcases hk4 with hk | hk | hk | hk
        · rw [hk] at hPl
          have hR := px_Read HPx.out xs xo xr s0 s1 o0 o1 r0 r1
          go_upto_region 23 with (first
            | (go_at_call 14; refine (hPl _).mono ?_; rintro r w' ⟨rfl, hq⟩; obtain rfl := hq.symm; clear hPl)
            | (go_at_call 15; (with_reducible refine hR.mono ?_); rintro r w1 ⟨rfl, k1⟩; have hD := dx_Read k1 xs xo xr s0 s1 o0 o1 r0 r1; have y1 : w1.cell? ⟨xb, 1, none⟩ = some (.int .i64 xs) := k1.c 1 _ rfl; have y2 : w1.cell? ⟨xb, 2, none⟩ = some (.int .i64 xr) := k1.c 2 _ rfl; have y3 : w1.cell? ⟨xb, 3, none⟩ = some (.int .u64 xo) := k1.c 3 _ rfl; clear k1 hR x0 x1 x2 x3 x4)
            | (go_at_call 16; (with_reducible refine hD.mono ?_); rintro r w2 ⟨rfl, k1⟩; have HPz := hid k1; clear k1 hD y1 y2 y3))
          have hB := px_Bar HPz.out xs s0 s1
          have z1 : w2.cell? ⟨xb, 1, none⟩ = some (.int .i64 xs) := HPz.out.c 1 _ rfl
          go_wp2_with (first
            | (go_at_call 21; (with_reducible refine hB.mono ?_); rintro r w7 ⟨rfl, k1⟩; have hD := dx_Bar k1 xs s0 s1; have z7 : w7.cell? ⟨xb, 1, none⟩ = some (.int .i64 xs) := k1.c 1 _ rfl; clear k1 hB z1)
            | (go_at_call 22; (with_reducible refine hD.mono ?_); rintro r w8 ⟨rfl, k1⟩; have HP8 := hid k1; clear k1 hD z7))
          go_roundw
          case rel => exact ⟨j + 1, V, by omega, by go_num, HP8.out.pb⟩
          case measure => simp [intOf]; omega
        · rw [hk] at hPl
          go_upto_region 18 with (go_at_call 14; refine (hPl _).mono ?_; rintro r w' ⟨rfl, hq⟩; obtain rfl := hq.symm; clear hPl)
          obtain ⟨w0, hw0⟩ : ∃ w0, w0 = wx.drew := ⟨_, rfl⟩
          have HP0 : Hid (PX W w0 p q la V V xb #[.int .i64 xk, .int .i64 xs, .int .i64 xr, .int .u64 xo, .int .u64 xv]) := by rw [hw0]; exact HPx.out.below (Below.refl _ _).drew
          have HC3 := hid (HP0.out.wa xs xo xr xv s0 s1 o0 o1 r0 r1 v0 v1)
          have HC7 : Hid (∀ w1, PX W w1 p q la (wrV la V xs xo xr xv) V xb #[.int .i64 xk, .int .i64 xs, .int .i64 xr, .int .u64 xo, .int .u64 xv] → Calls Try.prog 18 #[.pointer (some ⟨q, 0, none⟩), .int .i64 xs, .int .u64 xo, .int .i64 xr, .int .u64 xv] w1 fun e w' => e = .returned (.bool (fitB xo xr)) ∧ PX W w' p q la (wrV la V xs xo xr xv) (wrV la V xs xo xr xv) xb #[.int .i64 xk, .int .i64 xs, .int .i64 xr, .int .u64 xo, .int .u64 xv]) := fun w1 h => h.wb xs xo xr xv s0 s1 o0 o1 r0 r1 v0 v1
          refine wp_region_any (by kernel_rfl) ?_
          rw [show ({ wx with drawn := wx.drawn + 1 } : World) = w0 from hw0.symm]
          have HLD : Hid (∀ {listed : Array Bool} (w : World), VP w0 (fun w1 => PX W w1 p q la (wrV la V xs xo xr xv) V xb #[.int .i64 xk, .int .i64 xs, .int .i64 xr, .int .u64 xo, .int .u64 xv]) (fun w2 => PX W w2 p q la (wrV la V xs xo xr xv) (wrV la V xs xo xr xv) xb #[.int .i64 xk, .int .i64 xs, .int .i64 xr, .int .u64 xo, .int .u64 xv]) 11 21 listed w → w.cell? ⟨xb, 1, none⟩ = some (.int .i64 xs) ∧ w.cell? ⟨xb, 2, none⟩ = some (.int .i64 xr) ∧ w.cell? ⟨xb, 3, none⟩ = some (.int .u64 xo) ∧ w.cell? ⟨xb, 4, none⟩ = some (.int .u64 xv)) := fun {listed} w hw =>
            hw.all (K := fun w => w.cell? ⟨xb, 1, none⟩ = some (.int .i64 xs) ∧ w.cell? ⟨xb, 2, none⟩ = some (.int .i64 xr) ∧ w.cell? ⟨xb, 3, none⟩ = some (.int .u64 xo) ∧ w.cell? ⟨xb, 4, none⟩ = some (.int .u64 xv)) ⟨HP0.out.c 1 _ rfl, HP0.out.c 2 _ rfl, HP0.out.c 3 _ rfl, HP0.out.c 4 _ rfl⟩ (fun w h => ⟨h.c 1 _ rfl, h.c 2 _ rfl, h.c 3 _ rfl, h.c 4 _ rfl⟩) (fun w h => ⟨h.c 1 _ rfl, h.c 2 _ rfl, h.c 3 _ rfl, h.c 4 _ rfl⟩)
          clear hw0 x0 x1 x2 x3 x4
          refine wpAny_fk (α := Unit) (fun _ => fun dd => if dd = 125 then .bool true else if dd = 126 then .bool true else if dd = 127 then .pointer (some ⟨p, 0, none⟩) else if dd = 128 then .pointer (some ⟨xb, 1, none⟩) else if dd = 129 then .int .i64 xs else if dd = 130 then .pointer (some ⟨xb, 3, none⟩) else if dd = 131 then .int .u64 xo else if dd = 132 then .pointer (some ⟨xb, 2, none⟩) else if dd = 133 then .int .i64 xr else if dd = 134 then .pointer (some ⟨xb, 4, none⟩) else if dd = 135 then .int .u64 xv else if dd = 136 then .bool (fitB xo xr) else if dd = 137 then .pointer (some ⟨q, 0, none⟩) else if dd = 138 then .pointer (some ⟨xb, 1, none⟩) else if dd = 139 then .int .i64 xs else if dd = 140 then .pointer (some ⟨xb, 3, none⟩) else if dd = 141 then .int .u64 xo else if dd = 142 then .pointer (some ⟨xb, 2, none⟩) else if dd = 143 then .int .i64 xr else if dd = 144 then .pointer (some ⟨xb, 4, none⟩) else if dd = 145 then .int .u64 xv else if dd = 146 then .bool (fitB xo xr) else if dd = 147 then .bool true else if dd = 148 then .bool true else if dd = 11 then .bool true else undef) (fun _ => VP w0 (fun w1 => PX W w1 p q la (wrV la V xs xo xr xv) V xb #[.int .i64 xk, .int .i64 xs, .int .i64 xr, .int .u64 xo, .int .u64 xv]) (fun w2 => PX W w2 p q la (wrV la V xs xo xr xv) (wrV la V xs xo xr xv) xb #[.int .i64 xk, .int .i64 xs, .int .i64 xr, .int .u64 xo, .int .u64 xv]) 11 21) ?step ?fin () ?start
          case start => exact ⟨fun _ => rfl, fun a => absurd a (by decide), fun a => absurd a (by decide)⟩
          case step =>
            rintro listed fr wr x hF hW i hj
            obtain ⟨hl, o, ho, he⟩ := mem_ready.1 hj
            have hjl : i < listed.size := by rw [hF.q.ls]; exact (Array.getElem?_eq_some_iff.1 ho).1
            clear hj
            have HF := hid hF
            have HW := hid hW
            have HE := hid he
            have HL := hid hl
            clear hF hW he hl
            match i, ho with
            | 0, ho =>
              obtain rfl := Option.some.inj ho
              have e11 : fr.tmps[11]?.getD undef = .bool true := by
                cases h : listed.getD 24 false
                · rw [HF.out.old 24 _ 11 rfl rfl h]; rfl
                · exact HF.out.ev (i := 24) rfl rfl h
              exact wp_q rfl rfl (by simp [execOp, go_sem, e11]; try rfl) ⟨(), HF.out.put (by kernel_rfl) rfl rfl rfl (of_decide_eq_true rfl), HW.out.q hjl (by decide) (by decide)⟩
            | 1, ho =>
              obtain rfl := Option.some.inj ho
              have e125 : fr.tmps[125]?.getD undef = .bool true := HF.out.ev (i := 0) rfl rfl (HE.out ⟨0, .data⟩ (by simp) rfl)
              exact wp_q rfl rfl (by simp [execOp, go_sem, e125]; try rfl) ⟨(), HF.out.put (by kernel_rfl) rfl rfl rfl (of_decide_eq_true rfl), HW.out.q hjl (by decide) (by decide)⟩
            | 2, ho =>
              obtain rfl := Option.some.inj ho
              have e5 : fr.tmps[5]?.getD undef = .pointer (some ⟨p, 0, none⟩) := HF.out.base 5 (by kernel_rfl) rfl
              have hg : fr.tmps[126]? = some (.bool true) := HF.out.q.val 1 _ 126 rfl rfl (HE.out ⟨1, .guard⟩ (by simp) rfl)
              exact wp_qw rfl (wtd rfl rfl rfl hg) (by simp [execOp, go_sem, e5]; try rfl) ⟨(), HF.out.put (by kernel_rfl) rfl rfl rfl (of_decide_eq_true rfl), HW.out.q hjl (by decide) (by decide)⟩
            | 3, ho =>
              obtain rfl := Option.some.inj ho
              have e10 : fr.tmps[10]?.getD undef = .pointer (some ⟨xb, 0, none⟩) := HF.out.base 10 (by kernel_rfl) rfl
              have hg : fr.tmps[126]? = some (.bool true) := HF.out.q.val 1 _ 126 rfl rfl (HE.out ⟨1, .guard⟩ (by simp) rfl)
              exact wp_qw rfl (wtd rfl rfl rfl hg) (by simp [execOp, go_sem, e10]; try rfl) ⟨(), HF.out.put (by kernel_rfl) rfl rfl rfl (of_decide_eq_true rfl), HW.out.q hjl (by decide) (by decide)⟩
            | 4, ho =>
              obtain rfl := Option.some.inj ho
              have e128 : fr.tmps[128]?.getD undef = .pointer (some ⟨xb, 1, none⟩) := HF.out.ev (i := 3) rfl rfl (HE.out ⟨3, .data⟩ (by simp) rfl)
              have hg : fr.tmps[126]? = some (.bool true) := HF.out.q.val 1 _ 126 rfl rfl (HE.out ⟨1, .guard⟩ (by simp) rfl)
              have hc := HLD.out _ HW.out
              exact wp_qw rfl (wtd rfl rfl rfl hg) (by simp [execOp, go_sem, e128, hc.1]; try rfl) ⟨(), HF.out.put (by kernel_rfl) rfl rfl rfl (of_decide_eq_true rfl), HW.out.q hjl (by decide) (by decide)⟩
            | 5, ho =>
              obtain rfl := Option.some.inj ho
              have e10 : fr.tmps[10]?.getD undef = .pointer (some ⟨xb, 0, none⟩) := HF.out.base 10 (by kernel_rfl) rfl
              have hg : fr.tmps[126]? = some (.bool true) := HF.out.q.val 1 _ 126 rfl rfl (HE.out ⟨1, .guard⟩ (by simp) rfl)
              exact wp_qw rfl (wtd rfl rfl rfl hg) (by simp [execOp, go_sem, e10]; try rfl) ⟨(), HF.out.put (by kernel_rfl) rfl rfl rfl (of_decide_eq_true rfl), HW.out.q hjl (by decide) (by decide)⟩
            | 6, ho =>
              obtain rfl := Option.some.inj ho
              have e130 : fr.tmps[130]?.getD undef = .pointer (some ⟨xb, 3, none⟩) := HF.out.ev (i := 5) rfl rfl (HE.out ⟨5, .data⟩ (by simp) rfl)
              have hg : fr.tmps[126]? = some (.bool true) := HF.out.q.val 1 _ 126 rfl rfl (HE.out ⟨1, .guard⟩ (by simp) rfl)
              have hc := HLD.out _ HW.out
              exact wp_qw rfl (wtd rfl rfl rfl hg) (by simp [execOp, go_sem, e130, hc.2.2.1]; try rfl) ⟨(), HF.out.put (by kernel_rfl) rfl rfl rfl (of_decide_eq_true rfl), HW.out.q hjl (by decide) (by decide)⟩
            | 7, ho =>
              obtain rfl := Option.some.inj ho
              have e10 : fr.tmps[10]?.getD undef = .pointer (some ⟨xb, 0, none⟩) := HF.out.base 10 (by kernel_rfl) rfl
              have hg : fr.tmps[126]? = some (.bool true) := HF.out.q.val 1 _ 126 rfl rfl (HE.out ⟨1, .guard⟩ (by simp) rfl)
              exact wp_qw rfl (wtd rfl rfl rfl hg) (by simp [execOp, go_sem, e10]; try rfl) ⟨(), HF.out.put (by kernel_rfl) rfl rfl rfl (of_decide_eq_true rfl), HW.out.q hjl (by decide) (by decide)⟩
            | 8, ho =>
              obtain rfl := Option.some.inj ho
              have e132 : fr.tmps[132]?.getD undef = .pointer (some ⟨xb, 2, none⟩) := HF.out.ev (i := 7) rfl rfl (HE.out ⟨7, .data⟩ (by simp) rfl)
              have hg : fr.tmps[126]? = some (.bool true) := HF.out.q.val 1 _ 126 rfl rfl (HE.out ⟨1, .guard⟩ (by simp) rfl)
              have hc := HLD.out _ HW.out
              exact wp_qw rfl (wtd rfl rfl rfl hg) (by simp [execOp, go_sem, e132, hc.2.1]; try rfl) ⟨(), HF.out.put (by kernel_rfl) rfl rfl rfl (of_decide_eq_true rfl), HW.out.q hjl (by decide) (by decide)⟩
            | 9, ho =>
              obtain rfl := Option.some.inj ho
              have e10 : fr.tmps[10]?.getD undef = .pointer (some ⟨xb, 0, none⟩) := HF.out.base 10 (by kernel_rfl) rfl
              have hg : fr.tmps[126]? = some (.bool true) := HF.out.q.val 1 _ 126 rfl rfl (HE.out ⟨1, .guard⟩ (by simp) rfl)
              exact wp_qw rfl (wtd rfl rfl rfl hg) (by simp [execOp, go_sem, e10]; try rfl) ⟨(), HF.out.put (by kernel_rfl) rfl rfl rfl (of_decide_eq_true rfl), HW.out.q hjl (by decide) (by decide)⟩
            | 10, ho =>
              obtain rfl := Option.some.inj ho
              have e134 : fr.tmps[134]?.getD undef = .pointer (some ⟨xb, 4, none⟩) := HF.out.ev (i := 9) rfl rfl (HE.out ⟨9, .data⟩ (by simp) rfl)
              have hg : fr.tmps[126]? = some (.bool true) := HF.out.q.val 1 _ 126 rfl rfl (HE.out ⟨1, .guard⟩ (by simp) rfl)
              have hc := HLD.out _ HW.out
              exact wp_qw rfl (wtd rfl rfl rfl hg) (by simp [execOp, go_sem, e134, hc.2.2.2]; try rfl) ⟨(), HF.out.put (by kernel_rfl) rfl rfl rfl (of_decide_eq_true rfl), HW.out.q hjl (by decide) (by decide)⟩
            | 11, ho =>
              obtain rfl := Option.some.inj ho
              have e127 : fr.tmps[127]?.getD undef = .pointer (some ⟨p, 0, none⟩) := HF.out.ev (i := 2) rfl rfl (HE.out ⟨2, .data⟩ (by simp) rfl)
              have e129 : fr.tmps[129]?.getD undef = .int .i64 xs := HF.out.ev (i := 4) rfl rfl (HE.out ⟨4, .data⟩ (by simp) rfl)
              have e131 : fr.tmps[131]?.getD undef = .int .u64 xo := HF.out.ev (i := 6) rfl rfl (HE.out ⟨6, .data⟩ (by simp) rfl)
              have e133 : fr.tmps[133]?.getD undef = .int .i64 xr := HF.out.ev (i := 8) rfl rfl (HE.out ⟨8, .data⟩ (by simp) rfl)
              have e135 : fr.tmps[135]?.getD undef = .int .u64 xv := HF.out.ev (i := 10) rfl rfl (HE.out ⟨10, .data⟩ (by simp) rfl)
              have hg : fr.tmps[126]? = some (.bool true) := HF.out.q.val 1 _ 126 rfl rfl (HE.out ⟨1, .guard⟩ (by simp) rfl)
              have h7 : listed.getD 11 false = false := getD_tf hjl HL.out
              obtain ⟨rfl, h15⟩ := HW.out.atz h7
              refine wp_c5w rfl (wtd rfl rfl rfl hg) _ _ _ _ _ _ _ rfl (.pointer (some ⟨p, 0, none⟩)) (.int .i64 xs) (.int .u64 xo) (.int .i64 xr) (.int .u64 xv) (by simp [Act.eval, e127]) (by simp [Act.eval, e129]) (by simp [Act.eval, e131]) (by simp [Act.eval, e133]) (by simp [Act.eval, e135]) (Try.call17 _ _) HC3.out ?_
              rintro r w7 ⟨rfl, k1⟩
              exact ⟨_, rfl, ⟨(), HF.out.put (by kernel_rfl) rfl rfl rfl (of_decide_eq_true rfl), VP.doz hjl (by decide) h15 k1⟩⟩
            | 12, ho =>
              obtain rfl := Option.some.inj ho
              have e7 : fr.tmps[7]?.getD undef = .pointer (some ⟨q, 0, none⟩) := HF.out.base 7 (by kernel_rfl) rfl
              have hg : fr.tmps[126]? = some (.bool true) := HF.out.q.val 1 _ 126 rfl rfl (HE.out ⟨1, .guard⟩ (by simp) rfl)
              exact wp_qw rfl (wtd rfl rfl rfl hg) (by simp [execOp, go_sem, e7]; try rfl) ⟨(), HF.out.put (by kernel_rfl) rfl rfl rfl (of_decide_eq_true rfl), HW.out.q hjl (by decide) (by decide)⟩
            | 13, ho =>
              obtain rfl := Option.some.inj ho
              have e10 : fr.tmps[10]?.getD undef = .pointer (some ⟨xb, 0, none⟩) := HF.out.base 10 (by kernel_rfl) rfl
              have hg : fr.tmps[126]? = some (.bool true) := HF.out.q.val 1 _ 126 rfl rfl (HE.out ⟨1, .guard⟩ (by simp) rfl)
              exact wp_qw rfl (wtd rfl rfl rfl hg) (by simp [execOp, go_sem, e10]; try rfl) ⟨(), HF.out.put (by kernel_rfl) rfl rfl rfl (of_decide_eq_true rfl), HW.out.q hjl (by decide) (by decide)⟩
            | 14, ho =>
              obtain rfl := Option.some.inj ho
              have e138 : fr.tmps[138]?.getD undef = .pointer (some ⟨xb, 1, none⟩) := HF.out.ev (i := 13) rfl rfl (HE.out ⟨13, .data⟩ (by simp) rfl)
              have hg : fr.tmps[126]? = some (.bool true) := HF.out.q.val 1 _ 126 rfl rfl (HE.out ⟨1, .guard⟩ (by simp) rfl)
              have hc := HLD.out _ HW.out
              exact wp_qw rfl (wtd rfl rfl rfl hg) (by simp [execOp, go_sem, e138, hc.1]; try rfl) ⟨(), HF.out.put (by kernel_rfl) rfl rfl rfl (of_decide_eq_true rfl), HW.out.q hjl (by decide) (by decide)⟩
            | 15, ho =>
              obtain rfl := Option.some.inj ho
              have e10 : fr.tmps[10]?.getD undef = .pointer (some ⟨xb, 0, none⟩) := HF.out.base 10 (by kernel_rfl) rfl
              have hg : fr.tmps[126]? = some (.bool true) := HF.out.q.val 1 _ 126 rfl rfl (HE.out ⟨1, .guard⟩ (by simp) rfl)
              exact wp_qw rfl (wtd rfl rfl rfl hg) (by simp [execOp, go_sem, e10]; try rfl) ⟨(), HF.out.put (by kernel_rfl) rfl rfl rfl (of_decide_eq_true rfl), HW.out.q hjl (by decide) (by decide)⟩
            | 16, ho =>
              obtain rfl := Option.some.inj ho
              have e140 : fr.tmps[140]?.getD undef = .pointer (some ⟨xb, 3, none⟩) := HF.out.ev (i := 15) rfl rfl (HE.out ⟨15, .data⟩ (by simp) rfl)
              have hg : fr.tmps[126]? = some (.bool true) := HF.out.q.val 1 _ 126 rfl rfl (HE.out ⟨1, .guard⟩ (by simp) rfl)
              have hc := HLD.out _ HW.out
              exact wp_qw rfl (wtd rfl rfl rfl hg) (by simp [execOp, go_sem, e140, hc.2.2.1]; try rfl) ⟨(), HF.out.put (by kernel_rfl) rfl rfl rfl (of_decide_eq_true rfl), HW.out.q hjl (by decide) (by decide)⟩
            | 17, ho =>
              obtain rfl := Option.some.inj ho
              have e10 : fr.tmps[10]?.getD undef = .pointer (some ⟨xb, 0, none⟩) := HF.out.base 10 (by kernel_rfl) rfl
              have hg : fr.tmps[126]? = some (.bool true) := HF.out.q.val 1 _ 126 rfl rfl (HE.out ⟨1, .guard⟩ (by simp) rfl)
              exact wp_qw rfl (wtd rfl rfl rfl hg) (by simp [execOp, go_sem, e10]; try rfl) ⟨(), HF.out.put (by kernel_rfl) rfl rfl rfl (of_decide_eq_true rfl), HW.out.q hjl (by decide) (by decide)⟩
            | 18, ho =>
              obtain rfl := Option.some.inj ho
              have e142 : fr.tmps[142]?.getD undef = .pointer (some ⟨xb, 2, none⟩) := HF.out.ev (i := 17) rfl rfl (HE.out ⟨17, .data⟩ (by simp) rfl)
              have hg : fr.tmps[126]? = some (.bool true) := HF.out.q.val 1 _ 126 rfl rfl (HE.out ⟨1, .guard⟩ (by simp) rfl)
              have hc := HLD.out _ HW.out
              exact wp_qw rfl (wtd rfl rfl rfl hg) (by simp [execOp, go_sem, e142, hc.2.1]; try rfl) ⟨(), HF.out.put (by kernel_rfl) rfl rfl rfl (of_decide_eq_true rfl), HW.out.q hjl (by decide) (by decide)⟩
            | 19, ho =>
              obtain rfl := Option.some.inj ho
              have e10 : fr.tmps[10]?.getD undef = .pointer (some ⟨xb, 0, none⟩) := HF.out.base 10 (by kernel_rfl) rfl
              have hg : fr.tmps[126]? = some (.bool true) := HF.out.q.val 1 _ 126 rfl rfl (HE.out ⟨1, .guard⟩ (by simp) rfl)
              exact wp_qw rfl (wtd rfl rfl rfl hg) (by simp [execOp, go_sem, e10]; try rfl) ⟨(), HF.out.put (by kernel_rfl) rfl rfl rfl (of_decide_eq_true rfl), HW.out.q hjl (by decide) (by decide)⟩
            | 20, ho =>
              obtain rfl := Option.some.inj ho
              have e144 : fr.tmps[144]?.getD undef = .pointer (some ⟨xb, 4, none⟩) := HF.out.ev (i := 19) rfl rfl (HE.out ⟨19, .data⟩ (by simp) rfl)
              have hg : fr.tmps[126]? = some (.bool true) := HF.out.q.val 1 _ 126 rfl rfl (HE.out ⟨1, .guard⟩ (by simp) rfl)
              have hc := HLD.out _ HW.out
              exact wp_qw rfl (wtd rfl rfl rfl hg) (by simp [execOp, go_sem, e144, hc.2.2.2]; try rfl) ⟨(), HF.out.put (by kernel_rfl) rfl rfl rfl (of_decide_eq_true rfl), HW.out.q hjl (by decide) (by decide)⟩
            | 21, ho =>
              obtain rfl := Option.some.inj ho
              have e137 : fr.tmps[137]?.getD undef = .pointer (some ⟨q, 0, none⟩) := HF.out.ev (i := 12) rfl rfl (HE.out ⟨12, .data⟩ (by simp) rfl)
              have e139 : fr.tmps[139]?.getD undef = .int .i64 xs := HF.out.ev (i := 14) rfl rfl (HE.out ⟨14, .data⟩ (by simp) rfl)
              have e141 : fr.tmps[141]?.getD undef = .int .u64 xo := HF.out.ev (i := 16) rfl rfl (HE.out ⟨16, .data⟩ (by simp) rfl)
              have e143 : fr.tmps[143]?.getD undef = .int .i64 xr := HF.out.ev (i := 18) rfl rfl (HE.out ⟨18, .data⟩ (by simp) rfl)
              have e145 : fr.tmps[145]?.getD undef = .int .u64 xv := HF.out.ev (i := 20) rfl rfl (HE.out ⟨20, .data⟩ (by simp) rfl)
              have hg : fr.tmps[126]? = some (.bool true) := HF.out.q.val 1 _ 126 rfl rfl (HE.out ⟨1, .guard⟩ (by simp) rfl)
              have h15 : listed.getD 21 false = false := getD_tf hjl HL.out
              have h7 : listed.getD 11 false = true := HE.out ⟨11, .chain⟩ (by simp) rfl
              have hm := HW.out.c1 h7 h15
              refine wp_c5w rfl (wtd rfl rfl rfl hg) _ _ _ _ _ _ _ rfl (.pointer (some ⟨q, 0, none⟩)) (.int .i64 xs) (.int .u64 xo) (.int .i64 xr) (.int .u64 xv) (by simp [Act.eval, e137]) (by simp [Act.eval, e139]) (by simp [Act.eval, e141]) (by simp [Act.eval, e143]) (by simp [Act.eval, e145]) (Try.call18 _ _) (HC7.out _ hm) ?_
              rintro r w7 ⟨rfl, k1⟩
              exact ⟨_, rfl, ⟨(), HF.out.put (by kernel_rfl) rfl rfl rfl (of_decide_eq_true rfl), VP.doy hjl (by decide) h7 k1⟩⟩
            | 22, ho =>
              obtain rfl := Option.some.inj ho
              have e136 : fr.tmps[136]?.getD undef = .bool (fitB xo xr) := HF.out.ev (i := 11) rfl rfl (HE.out ⟨11, .data⟩ (by simp) rfl)
              have e146 : fr.tmps[146]?.getD undef = .bool (fitB xo xr) := HF.out.ev (i := 21) rfl rfl (HE.out ⟨21, .data⟩ (by simp) rfl)
              have hg : fr.tmps[126]? = some (.bool true) := HF.out.q.val 1 _ 126 rfl rfl (HE.out ⟨1, .guard⟩ (by simp) rfl)
              exact wp_qw rfl (wtd rfl rfl rfl hg) (by simp [execOp, go_sem, e136, e146]; try rfl) ⟨(), HF.out.put (by kernel_rfl) rfl rfl rfl (of_decide_eq_true rfl), HW.out.q hjl (by decide) (by decide)⟩
            | 23, ho =>
              obtain rfl := Option.some.inj ho
              have e126 : fr.tmps[126]?.getD undef = .bool true := HF.out.ev (i := 1) rfl rfl (HE.out ⟨1, .data⟩ (by simp) rfl)
              have e147 : fr.tmps[147]?.getD undef = .bool true := HF.out.ev (i := 22) rfl rfl (HE.out ⟨22, .data⟩ (by simp) rfl)
              exact wp_q rfl rfl (by simp [execOp, go_sem, e126, e147]; try rfl) ⟨(), HF.out.put (by kernel_rfl) rfl rfl rfl (of_decide_eq_true rfl), HW.out.q hjl (by decide) (by decide)⟩
            | 24, ho =>
              obtain rfl := Option.some.inj ho
              have e148 : fr.tmps[148]?.getD undef = .bool true := HF.out.ev (i := 23) rfl rfl (HE.out ⟨23, .data⟩ (by simp) rfl)
              exact wp_q rfl rfl (by simp [execOp, go_sem, e148]; try rfl) ⟨(), HF.out.put (by kernel_rfl) rfl rfl rfl (of_decide_eq_true rfl), HW.out.q hjl (by decide) (by decide)⟩
          case fin =>
            rintro listed fr w2 x hF hW hr
            have all := allDone hr hF.q.ls (by kernel_rfl)
            obtain ⟨k1, -⟩ := hW.c2 (all 21 (by decide))
            rw [hF.full all]
            have HPz : Hid (PX W w2 p q la (wrV la V xs xo xr xv) (wrV la V xs xo xr xv) xb #[.int .i64 xk, .int .i64 xs, .int .i64 xr, .int .u64 xo, .int .u64 xv]) := k1
            clear hF hW hr all k1 HC3 HC7 HLD HP0 HPx
            simp only [List.foldl_cons, List.foldl_nil, fillF]
            go_simp
            generalize (wrV la V xs xo xr xv) = U at *
            go_upto_region 23 with fail
            have hB := px_Bar HPz.out xs s0 s1
            have z1 : w2.cell? ⟨xb, 1, none⟩ = some (.int .i64 xs) := HPz.out.c 1 _ rfl
            go_wp2_with (first
              | (go_at_call 21; (with_reducible refine hB.mono ?_); rintro r w7 ⟨rfl, k1⟩; have hD := dx_Bar k1 xs s0 s1; have z7 : w7.cell? ⟨xb, 1, none⟩ = some (.int .i64 xs) := k1.c 1 _ rfl; clear k1 hB z1)
              | (go_at_call 22; (with_reducible refine hD.mono ?_); rintro r w8 ⟨rfl, k1⟩; have HP8 := hid k1; clear k1 hD z7))
            go_roundw
            case rel => exact ⟨j + 1, U, by omega, by go_num, HP8.out.pb⟩
            case measure => simp [intOf]; omega
        · rw [hk] at hPl
          have hR := px_Find HPx.out xo o0 o1
          go_upto_region 23 with (first
            | (go_at_call 14; refine (hPl _).mono ?_; rintro r w' ⟨rfl, hq⟩; obtain rfl := hq.symm; clear hPl)
            | (go_at_call 19; (with_reducible refine hR.mono ?_); rintro r w1 ⟨rfl, k1⟩; have hD := dx_Find k1 xo o0 o1; have y3 : w1.cell? ⟨xb, 3, none⟩ = some (.int .u64 xo) := k1.c 3 _ rfl; clear k1 hR x0 x1 x2 x3 x4)
            | (go_at_call 20; (with_reducible refine hD.mono ?_); rintro r w2 ⟨rfl, k1⟩; have HPz := hid k1; clear k1 hD y3))
          have hB := px_Bar HPz.out xs s0 s1
          have z1 : w2.cell? ⟨xb, 1, none⟩ = some (.int .i64 xs) := HPz.out.c 1 _ rfl
          go_wp2_with (first
            | (go_at_call 21; (with_reducible refine hB.mono ?_); rintro r w7 ⟨rfl, k1⟩; have hD := dx_Bar k1 xs s0 s1; have z7 : w7.cell? ⟨xb, 1, none⟩ = some (.int .i64 xs) := k1.c 1 _ rfl; clear k1 hB z1)
            | (go_at_call 22; (with_reducible refine hD.mono ?_); rintro r w8 ⟨rfl, k1⟩; have HP8 := hid k1; clear k1 hD z7))
          go_roundw
          case rel => exact ⟨j + 1, V, by omega, by go_num, HP8.out.pb⟩
          case measure => simp [intOf]; omega
        · rw [hk] at hPl
          go_upto_region 23 with (go_at_call 14; refine (hPl _).mono ?_; rintro r w' ⟨rfl, hq⟩; obtain rfl := hq.symm; clear hPl)
          have HPz := HPx
          clear x0 x1 x2 x3 x4
          have hB := px_Bar HPz.out xs s0 s1
          have z1 : wx.cell? ⟨xb, 1, none⟩ = some (.int .i64 xs) := HPz.out.c 1 _ rfl
          go_wp2_with (first
            | (go_at_call 21; (with_reducible refine hB.mono ?_); rintro r w7 ⟨rfl, k1⟩; have hD := dx_Bar k1 xs s0 s1; have z7 : w7.cell? ⟨xb, 1, none⟩ = some (.int .i64 xs) := k1.c 1 _ rfl; clear k1 hB z1)
            | (go_at_call 22; (with_reducible refine hD.mono ?_); rintro r w8 ⟨rfl, k1⟩; have HP8 := hid k1; clear k1 hD z7))
          go_roundw
          case rel => exact ⟨j + 1, V, by omega, by go_num, HP8.out.pb⟩
          case measure => simp [intOf]; omega
      · obtain rfl : j = lb := by omega
        go_wp2_with fail
        go_loopw [26] (fun i wr => ∃ (s : Nat), s ≤ la ∧ i = .int .i64 s ∧ Hid (PB W wr p q la V)) (fun i _ => la - (intOf i).toNat)
        case atStart => exact ⟨0, by omega, rfl, HP⟩
        case round =>
          obtain ⟨s, hs, rfl, HP2⟩ := hrel
          by_cases hlt2 : s < la
          · go_wp2_with fail
            obtain ⟨wo, rfl⟩ : ∃ wo : World, wo = wr := ⟨_, rfl⟩
            go_loopw [27] (fun i wr => ∃ (o : Nat), o ≤ 64 ∧ i = .int .u64 ((o * 4 : Nat) : Int) ∧ Hid (PB W wr p q la V)) (fun i _ => 257 - (intOf i).toNat)
            case atStart => exact ⟨0, by omega, rfl, HP2⟩
            case round =>
              obtain ⟨o, ho, rfl, HP3⟩ := hrel
              by_cases hlt3 : o < 64
              · obtain ⟨oo, hoo⟩ : ∃ oo : Int, oo = ((o * 4 : Nat) : Int) := ⟨_, rfl⟩
                rw [← hoo]
                have HOO := hid hoo
                have b0 : 0 ≤ oo := by omega
                have b1 : oo < 256 := by omega
                have hR := pb_Read HP3.out (s : Int) oo 4 (by omega) (by omega) (by omega) (by omega) (by decide) (by decide)
                have HDR : Hid (∀ w, PB W w p q la V → Calls Try.prog 16 #[.pointer (some ⟨q, 0, none⟩), .int .i64 (s : Int), .int .u64 oo, .int .i64 4] w fun e w' => e = .returned (.tuple #[.int .u64 (rdV la V s oo 4), .bool (fitB oo 4)]) ∧ PB W w' p q la V) := fun w h => db_Read h (s : Int) oo 4 (by omega) (by omega) (by omega) (by omega) (by decide) (by decide)
                clear hoo
                go_wp2_with (first
                  | (go_at_call 15; (with_reducible refine hR.mono ?_); rintro r w7 ⟨rfl, k1⟩; have hD := HDR.out _ k1; clear k1 hR)
                  | (go_at_call 16; (with_reducible refine hD.mono ?_); rintro r w8 ⟨rfl, k1⟩; have HP8 := hid k1; clear k1 hD))
                go_roundw
                case rel => exact ⟨o + 1, by omega, by have := HOO.out; go_num, HP8⟩
                case measure => simp [intOf]; omega
              · obtain rfl : o = 64 := by omega
                go_wp2_with fail
                go_roundw
                case rel => exact ⟨s + 1, by omega, by go_num, HP3⟩
                case measure => simp [intOf]; omega
          · obtain rfl : s = la := by omega
            go_wp2_with (go_at_call 10; refine (hAw _).mono ?_; rintro e w3 ⟨rfl, hb⟩; have HB := hid hb; clear hb)
            go_ret
            exact ⟨rfl, HP2.out.bel.trans (HB.out.mono HP2.out.bel.size)⟩
  · have HN : Hid (∀ w ad cap b, Ls w ad la cap b 0 K → Below W.heap.size W w → Calls Try.prog 8 #[.slice ad la cap] w fun e w' => e = .returned (.tuple #[.pointer none, .int .i64 1]) ∧ Below W.heap.size W w') := fun w ad cap b h hw => by
      by_cases q8 : la ≤ 8
      · exact (c_New_no w ad la cap b 0 K h q8 fun z => hg ⟨q8, z⟩).mono fun e w' hh => ⟨hh.1, hw.trans (hh.2.mono hw.size)⟩
      · exact (c_New_8 w ad la cap h.len h.cap (by omega)).mono fun e w' hh => ⟨hh.1, hw.trans (hh.2.mono hw.size)⟩
    have HM : Hid (∀ w, Below W.heap.size W w → Calls Try.prog 9 #[.slice ad la cap] w fun e w' => e = .returned (.tuple #[.pointer none, .int .i64 1]) ∧ Below W.heap.size W w') := fun w hw => by
      by_cases q8 : la ≤ 8
      · exact (d_New_no w ad la cap ab ao K ((nu_ls HNu.out).below hw) q8 fun z => hg ⟨q8, z⟩).mono fun e w' hh => ⟨hh.1, hw.trans (hh.2.mono hw.size)⟩
      · exact (d_New_8 w ad la cap hln hcn (by omega)).mono fun e w' hh => ⟨hh.1, hw.trans (hh.2.mono hw.size)⟩
    clear hg
    go_enter Try.func3, Try.ntmps3
    go_upto_region 3 with (first
      | (at_builtin; refine wpList_cp rfl _ _ rfl rfl rfl HNu.out hla hnil ?_; intro ad1 cap1 b1 w1 hls hbw; have HLS := hid hls; have HBW := hid hbw; clear hls hbw)
      | (go_at_call 8; refine (HN.out _ _ _ _ HLS.out HBW.out).mono ?_; rintro e w2 ⟨rfl, hl⟩; have hM := HM.out _ hl; clear hl)
      | (go_at_call 9; refine hM.mono ?_; rintro e w3 ⟨rfl, hl⟩; have HB3 := hid hl; clear hl hM))
    go_wp2_with (go_at_call 10; refine (hAw _).mono ?_; rintro e w4 ⟨rfl, hb⟩; have HB := hid hb; clear hb)
    go_ret
    exact ⟨rfl, HB3.out.trans (HB.out.mono HB3.out.size)⟩
end Go.Proofs.Ytpplcijdhedjcaa
