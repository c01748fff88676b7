/- The document's New; a device beside the document's. -/
import Derived.Test.YtjkihlpckgaggaaGreatMH7
import Derived.Test.YtjkihlpckgaggaaGreatMH6
import Derived.Test.YtjkihlpckgaggaaGreatMC5
import Derived.Test.YtjkihlpckgaggaaGreatCPFB
import Derived.Test.YtjkihlpckgaggaaGreatKI
namespace Go.Proofs.YtjkihlpckgaggaaGreat
open Go.RowKit
open C (Only hid Still ret_bool ret_int TwB Mem RMem row)
set_option linter.unusedVariables false
set_option maxRecDepth 100000

theorem own_src {w : World} {g cap : Nat} {l : List Int} (h : w.ownsRow 0 5 1 (.slice (some ⟨g, 0, none⟩) l.length cap) l.length (bys l)) : ∀ j u, (bys l)[j]? = some u → w.cell? ((⟨g, 0, none⟩ : Addr).add j) = some u := fun j u hu => h.cells (g := g) rfl j u hu
def z14 : Nat → Value := fun k => if k = 4 then .slice none 0 0 else if k = 20 ∨ k = 21 then .pointer none else .int .u64 0
/-- the copy of a disk, behind append -/
structure AC (w : World) (dl : List Int) (v : Value) (w' : World) : Prop where
  own : w'.ownsRow 0 5 1 v dl.length (bys dl)
  bel : Below w.heap.size w w'
  new : ∀ k, Ug v k → w.heap.size ≤ k
set_option maxHeartbeats 2000000 in
theorem d_New0 (w : World) (kd : Int) (hk : kd = 1 ∨ kd = 2 ∨ kd = 3) (u u2 : Value) :
    Calls Tryz.prog 38 #[.int .i64 kd, .slice none 0 0] w fun r w' => ∃ p ra dk, r = .returned (.tuple #[.pointer (some ⟨p, 0, none⟩), .int .i64 0]) ∧ RX w' p ra (ds0 kd u u2) dk (.slice none 0 0) (.slice none 0 0) (.slice none 0 0) ∧ AC w [] dk w' ∧ w.heap.size ≤ p ∧ (∀ i, i < 2 → w.heap.size ≤ ra i) := by
  have HRs := hid (fun (w1 : World) (p : Nat) (dk : Value) (x : Nat → Value) (h : w1.heap[p]? = some (.cells (rcs0 kd dk (.slice none 0 0) (.slice none 0 0) x) 204 (0, 0))) => d_reset w1 p kd dk (.slice none 0 0) (.slice none 0 0) x h u u2)
  have HFN : Hid (∀ (dk : Value) (w1 w2 : World) (n1 : Nat), AC w [] dk w1 → n1 = w1.heap.size → ∀ ra, RX w2 n1 ra (ds0 kd u u2) dk (.slice none 0 0) (.slice none 0 0) (.slice none 0 0) → ra = nra (w1.alloc (.cells (rcs0 kd dk (.slice none 0 0) (.slice none 0 0) (z14)) 204)) → Only (· = n1) (w1.alloc (.cells (rcs0 kd dk (.slice none 0 0) (.slice none 0 0) (z14)) 204)) w2 → ∃ p ra dk', (Ending.returned (.tuple #[.pointer (some ⟨n1, 0, none⟩), .int .i64 0]) : Ending) = .returned (.tuple #[.pointer (some ⟨p, 0, none⟩), .int .i64 0]) ∧ RX w2 p ra (ds0 kd u u2) dk' (.slice none 0 0) (.slice none 0 0) (.slice none 0 0) ∧ AC w [] dk' w2 ∧ w.heap.size ≤ p ∧ (∀ i, i < 2 → w.heap.size ≤ ra i)) := fun dk w1 w2 n1 ha hn ra hr hra ho => by
    have hs := ha.bel.size
    have b1 : Below w.heap.size w (w1.alloc (.cells (rcs0 kd dk (.slice none 0 0) (.slice none 0 0) (z14)) 204)) := ha.bel.alloc hs _
    have ho' : Only (· = n1) w1 w2 := (Only.ofBelow ((Below.refl w1.heap.size w1).alloc (Nat.le_refl _) _)).trans ho
    refine ⟨n1, ra, dk, rfl, hr, ⟨own_only ha.own ho' fun k hk z => ?_, ha.bel.trans (ho'.below _ hs fun k hk => by omega), ha.new⟩, by omega, fun i hi => by rw [hra]; simp [nra]; omega⟩
    obtain ⟨cur, hc⟩ := own_typ ha.own hk
    have := lt_of_block hc
    omega
  obtain ⟨i0, hi, hz0, hz1, hz2⟩ := info_parts info_u8
  have HON := hid (own_nil w 5 1)
  have HAC : Hid (AC w [] (.slice none 0 0) w) := ⟨own_nil _ _ _, Below.refl _ _, fun k hk => by cases hk⟩
  have hrs := HRs.out (w.alloc (.cells (rcs0 kd (.slice none 0 0) (.slice none 0 0) (.slice none 0 0) z14) 204)) w.heap.size (.slice none 0 0) z14 (heap_alloc_new w _)
  clear HRs
  rcases hk with rfl | rfl | rfl
  all_goals
    go_enter Tryz.func38, Tryz.ntmps38
    go_wp2_with (first
      | (at_builtin; refine wpList_append_own_none rfl _ _ 23 rfl 0 5 i0 1 u_su8 hi (.slice none 0 0) 0 [] rfl HON.out rfl ?_)
      | (go_at_call 50; refine hrs.mono ?_; rintro r w2 ⟨rfl, k1, k2⟩; have K := hid (HFN.out _ _ _ _ HAC.out rfl _ k1 rfl k2); clear k1 k2))
    go_returns
    exact K.out
end Go.Proofs.YtjkihlpckgaggaaGreat
namespace Go.Proofs.YtjkihlpckgaggaaGreat
open Go.RowKit
open C (Only hid Still ret_bool ret_int row)
set_option linter.unusedVariables false
set_option maxRecDepth 100000

theorem info_u64G : (Tryz.prog.info? 27).map (fun i => (i.zero, i.size, i.bytes)) = some (some (.int .u64 0), 1, 8) := by kernel_rfl
theorem u_su64G : Tryz.prog.underlying 187 = some (.slice 27) := by kernel_rfl
def zJ : Array Value := ((List.range 97).map fun j => if j < 64 then Value.bool false else if j < 96 then .int .i64 0 else .slice none 0 0).toArray
theorem zJ_size : zJ.size = 97 := by simp [zJ]
theorem zJ_zero (w : World) : (zeroValue 191).run Tryz.prog w = .ok (.agg zJ) w := by
  have ht : Tryz.t191.zero = some (.agg zJ) := by kernel_rfl
  simp [zeroValue, go_sem, ht]
/-- where the loop stands -/
def JS (w : World) (q : Nat) (wr : World) : Prop := (∃ cs, wr.heap[q]? = some (.cells cs 191 (0, 0)) ∧ cs.size = 97) ∧ Below w.heap.size w wr ∧ w.heap.size ≤ q
theorem JS.at {w wr : World} {q : Nat} (h : JS w q wr) (k : Nat) (hk : k < 97) : ∃ v, wr.cell? ⟨q, k, none⟩ = some v ∧ wr.frozen? ⟨q, k, none⟩ = false := by
  obtain ⟨⟨cs, h1, h2⟩, -⟩ := h
  refine ⟨cs[k]'(by omega), ?_, frozen_of_row _ _ k _ _ h1⟩
  rw [cell_of_row wr q k _ _ _ h1]
  exact Array.getElem?_eq_getElem _
theorem JS.set {w wr : World} {q : Nat} (h : JS w q wr) (k : Nat) (v : Value) : JS w q (wr.setCell ⟨q, k, none⟩ v) := by
  obtain ⟨⟨cs, h1, h2⟩, h3, h4⟩ := h
  exact ⟨⟨_, setRowB wr q k _ _ _ v h1 rfl, by simpa using h2⟩, h3.setCell h4 _, h4⟩
set_option maxHeartbeats 1000000 in
theorem r_NewIntc (w : World) (n : Nat) (h1 : 1 ≤ n) (h2 : n ≤ 64) : Calls Tryz.prog 36 #[.int .i64 n] w fun e w' => ∃ p, e = .returned (.tuple #[ptr p, .int .i64 0]) ∧ Below w.heap.size w w' := by
  have hz := zJ_zero
  have hzs := zJ_size
  go_enter Tryz.func36, Tryz.ntmps36
  go_wp2_with (at_make; refine L.wpList_made _ rfl _ _ 187 rfl 27 _ 1 8 u_su64G info_u64G n rfl rfl (by omega) (by omega) _ rfl ?_)
  obtain ⟨q, hq⟩ : ∃ q, q = w.heap.size + 1 := ⟨_, rfl⟩
  have HS : Hid (JS w q ((w.alloc (.cells (madeCells #[.int .u64 0] n) 27)).alloc (.cells (zJ.setIfInBounds 96 (.slice (some ⟨w.heap.size, 0, none⟩) n n)) 191))) := by
    rw [hq]
    refine ⟨⟨zJ.setIfInBounds 96 (.slice (some ⟨w.heap.size, 0, none⟩) n n), ?_, by simp [zJ_size]⟩, ((Below.refl _ _).alloc (Nat.le_refl _) _).alloc (by simp) _, by omega⟩
    have := heap_alloc_new (w.alloc (.cells (madeCells #[.int .u64 0] n) 27)) (.cells (zJ.setIfInBounds 96 (.slice (some ⟨w.heap.size, 0, none⟩) n n)) 191)
    rwa [show (w.alloc (.cells (madeCells #[.int .u64 0] n) 27)).heap.size = w.heap.size + 1 by simp] at this
  clear hz hzs
  rw [← hq]
  clear hq
  go_loopw [5] (fun i wr => ∃ k : Nat, k ≤ 32 ∧ i = .int .i64 k ∧ Hid (JS w q wr)) (fun i _ => 32 - (intOf i).toNat)
  case atStart => exact ⟨0, by omega, rfl, HS⟩
  case round =>
    clear HS
    obtain ⟨k, hk, rfl, hJ⟩ := hrel
    by_cases hlt : k < 32
    · have hk32 : (k : Int) < 32 := by omega
      obtain ⟨v, c1, z1⟩ := hJ.out.at (64 + k) (by omega)
      have HN := hid (hJ.out.set (64 + k) (.int .i64 (-1)))
      go_wp2
      go_roundw
      case rel => exact ⟨k + 1, by omega, by go_num, HN⟩
      case measure => simp [intOf]; omega
    · have hk32 : ¬ (k : Int) < 32 := by omega
      go_wp2
      go_returns
      exact ⟨⟨q, rfl⟩, hJ.out.2.1⟩
theorem own_formB {w : World} {bs : Nat} {e : TypeId} {u : Value} {n : Nat} {xs : List Value} (h : w.ownsRow bs e 1 u n xs) : ∃ ad c, u = .slice ad n c := by
  rcases h.2 with ⟨h1, h2⟩ | ⟨g, cap, cur, h1, h2⟩
  · exact ⟨none, 0, by rw [h1, h2]⟩
  · exact ⟨_, cap, h1⟩
theorem r_disk {w : World} {g cap : Nat} {dl : List Int} (h : w.ownsRow 0 5 1 (.slice (some ⟨g, 0, none⟩) dl.length cap) dl.length (bys dl)) : ∀ j u, (bys dl)[j]? = some u → w.cell? ((⟨g, 0, none⟩ : Addr).add j) = some u := fun j u hu => h.cells (g := g) rfl j u hu
set_option maxHeartbeats 2000000 in
theorem r14_New2 (w : World) (g cap : Nat) (dl : List Int) (hd : w.ownsRow 0 5 1 (.slice (some ⟨g, 0, none⟩) dl.length cap) dl.length (bys dl)) (h0 : 0 < dl.length) (hl : dl.length ≤ 32768) (hm : dl.length % 512 = 0) :
    Calls Tryz.prog 38 #[.int .i64 2, .slice (some ⟨g, 0, none⟩) dl.length cap] w fun r w' => ∃ p, r = .returned (.tuple #[ptr p, .int .i64 0]) ∧ Below w.heap.size w w' := by
  have HRs := hid (fun (w1 : World) (p : Nat) (dk : Value) (x : Nat → Value) (h : w1.heap[p]? = some (.cells (rcs0 2 dk (.slice none 0 0) (.slice none 0 0) x) 204 (0, 0))) => d_reset w1 p 2 dk (.slice none 0 0) (.slice none 0 0) x h (.bool false) (.bool false))
  have e1 : (dl.length : Int).tmod 512 = 0 := by rw [Int.tmod_eq_emod_of_nonneg (by omega)]; omega
  have q1 : ¬ (dl.length : Int) > 32768 := by omega
  have q0 : 0 < (dl.length : Int) := by omega
  obtain ⟨i0, hi, hz0, hz1, hz2⟩ := info_parts info_u8
  have HSR := hid (r_disk hd)
  have H1 := hid (bys_one dl)
  have hlb : (bys dl).length = dl.length * 1 := by rw [bys_len]; omega
  have HLB := hid hlb
  have HLL := hid hl
  clear hd hlb hl hm
  go_enter Tryz.func38, Tryz.ntmps38
  have HRS := hid (fun (w1 : World) (dk : Value) => HRs.out (w1.alloc (.cells (rcs0 2 dk (.slice none 0 0) (.slice none 0 0) z14) 204)) w1.heap.size dk z14 (heap_alloc_new w1 _))
  clear HRs
  go_wp2_with (first
    | (at_builtin; refine wpList_append_own _ rfl _ _ 23 rfl w.heap.size 5 i0 (.int .u8 0) 1 1 u_su8 hi hz0 hz1 hz2 rfl (by decide) _ 0 [] rfl (World.ownsRow_nil _ _ _ _) ⟨g, 0, none⟩ dl.length cap (bys dl) rfl HLB.out HSR.out H1.out (by unfold maxLen; have := HLL.out; omega) (by have := HLL.out; omega) (Nat.le_refl _) ?_; intro v' w1 hown hgrow _; rw [Nat.zero_add] at hown; obtain ⟨va, vc, rfl⟩ := own_formB hown; have HG := hid hgrow; have hrs := HRS.out w1 (.slice va dl.length vc); clear hown hgrow)
    | (go_at_call 50; refine hrs.mono ?_; rintro r w2 ⟨rfl, k1, k2⟩; have K := hid k2; clear k1 k2))
  go_returns
  have b1 : Below w.heap.size w w1 := (Below.refl _ _).grown HG.out (Nat.le_refl _) (fun k q => by have q' : (none : Option Nat) = some k := q; cases q')
  have b2 : Below w.heap.size w (w1.alloc (.cells (rcs0 2 (.slice va dl.length vc) (.slice none 0 0) (.slice none 0 0) z14) 204)) := b1.alloc b1.size _
  exact ⟨w1.heap.size, rfl, b2.trans (K.out.below _ b2.size fun k hk => by have := b1.size; omega)⟩
end Go.Proofs.YtjkihlpckgaggaaGreat
namespace Go.Proofs.YtjkihlpckgaggaaGreat.P
open Go.RowKit
open C (Only hid Still ret_bool ret_int row)
set_option linter.unusedVariables false
set_option maxRecDepth 100000

set_option maxHeartbeats 1000000 in
theorem d_put (w : World) (g : Nat) (t : TypeId) (f : Nat → Int) (h : SpR w g t f 256 256) (off n : Nat) (v : Int) (v0 : 0 ≤ v) (v1 : v < 18446744073709551616) (hn : n ≤ 4) (h1 : off + n ≤ 256) :
    Calls Tryz.prog 168 #[.slice (some ⟨g, 0, none⟩) 256 256, .int .i64 (off : Int), .int .i64 (n : Int), .int .u64 v] w fun e w' => e = .returned (.tuple #[]) ∧ SpR w' g t (C.put f off n (C.byt v)) 256 256 ∧ Only (· = g) w w' := by
  have H := hid h
  clear h
  go_enter Tryz.func168, Tryz.ntmps168
  go_wp2_with fail
  go_loopw [8] (fun i wr => ∃ k : Nat, k ≤ n ∧ i = .int .i64 k ∧ Hid (SpR wr g t (C.put f off k (C.byt v)) 256 256) ∧ Hid (Only (· = g) w wr)) (fun i _ => n - (intOf i).toNat)
  case atStart => exact ⟨0, by omega, rfl, by rw [C.put_zero]; exact H, .refl w⟩
  case round =>
    obtain ⟨k, hk, rfl, HS, HO⟩ := hrel
    by_cases hlt : k < n
    · have hc := HS.out.cell (off + k) (by omega)
      have hz := HS.out.fz (off + k)
      have HP : Hid (SpR (wr.setCell ⟨g, off + k, none⟩ (.int .u8 (v / 256 ^ k % 256))) g t (C.put f off (k + 1) (C.byt v)) 256 256) := by
        have := HS.out.set (off + k) (v / 256 ^ k % 256) (by omega)
        have e := C.put_more f off k 1 (C.byt v)
        have e2 : C.put (C.put f off k (C.byt v)) (off + k) 1 (fun _ => v / 256 ^ k % 256) = C.put f off (k + 1) (C.byt v) := by
          rw [← e]
          funext j
          unfold C.put
          split
          · rename_i hj
            obtain rfl : j = off + k := by omega
            simp [C.byt]
          · rfl
        rw [e2] at this
        exact this
      generalize C.put f off k (C.byt v) (off + k) = y at *
      rcases (show k = 0 ∨ k = 1 ∨ k = 2 ∨ k = 3 by omega) with rfl | rfl | rfl | rfl
      all_goals
        simp only [Nat.add_zero, Int.pow_zero, Int.ediv_one, show (256 : Int) ^ 1 = 256 by decide, show (256 : Int) ^ 2 = 65536 by decide, show (256 : Int) ^ 3 = 16777216 by decide] at hc hz HP
        go_wp2
        go_roundw
        case rel => exact ⟨_, hlt, by go_num, by first | exact HP | (simpa using HP.out), HO.out.setCell (.inl rfl) _⟩
        case measure => simp [intOf]; omega
    · obtain rfl : k = n := by omega
      go_wp2
      go_returns
      exact ⟨rfl, HS.out, HO.out⟩
theorem nu_up (g : Nat → Int) : ∀ n, C.nu g (n + 1) = g 0 + 256 * C.nu (fun j => g (1 + j)) n
  | 0 => by simp [C.nu]
  | n + 1 => by
    have ih := nu_up g n
    have e : C.nu g (n + 1 + 1) = C.nu g (n + 1) + g (n + 1) * 256 ^ (n + 1) := rfl
    have e2 : C.nu (fun j => g (1 + j)) (n + 1) = C.nu (fun j => g (1 + j)) n + g (1 + n) * 256 ^ n := rfl
    rw [e, ih, e2, Int.pow_succ, Nat.add_comm 1 n, Int.mul_add, Int.add_assoc]
    congr 2
    rw [Int.mul_comm (256 ^ n) 256, Int.mul_left_comm]
set_option maxHeartbeats 1000000 in
theorem d_get (w : World) (g : Nat) (t : TypeId) (f : Nat → Int) (h : SpR w g t f 256 256) (hf : ∀ j, Byt (f j)) (off n : Nat) (hn : n ≤ 4) (h1 : off + n ≤ 256) :
    Calls Tryz.prog 163 #[.slice (some ⟨g, 0, none⟩) 256 256, .int .i64 (off : Int), .int .i64 (n : Int)] w fun e w' => e = .returned (.int .u64 (C.nu (fun j => f (off + j)) n)) ∧ w' = w := by
  have HC : Hid (∀ k, k < n → w.cell? ⟨g, off + k, none⟩ = some (.int .u8 (f (off + k)))) := fun k hk => h.cell _ (by omega)
  clear h
  have HF := hid hf
  clear hf
  go_enter Tryz.func163, Tryz.ntmps163
  go_wp2_with fail
  go_loopw [7, 8] (fun v i wr => ∃ k : Nat, k ≤ n ∧ i = .int .i64 ((k : Int) - 1) ∧ v = .int .u64 (C.nu (fun j => f (off + k + j)) (n - k)) ∧ wr = w) (fun _ i _ => (intOf i + 1).toNat)
  case atStart => exact ⟨n, Nat.le_refl _, rfl, by rw [Nat.sub_self]; rfl, rfl⟩
  case round =>
    obtain ⟨k, hk, rfl, rfl, hw⟩ := hrel
    obtain rfl := hw.symm
    by_cases hlt : 0 < k
    · obtain ⟨m, rfl⟩ : ∃ m, k = m + 1 := ⟨k - 1, by omega⟩
      have hc := HC.out m (by omega)
      obtain ⟨hb0, hb1⟩ := HF.out (off + m)
      have hnu := C.nu_lt (fun j => f (off + (m + 1) + j)) (fun j => HF.out _) (n - (m + 1))
      have HS : Hid (C.nu (fun j => f (off + m + j)) (n - m) = f (off + m) + 256 * C.nu (fun j => f (off + (m + 1) + j)) (n - (m + 1))) := by
        have := nu_up (fun j => f (off + m + j)) (n - (m + 1))
        rw [show n - (m + 1) + 1 = n - m by omega, Nat.add_zero] at this
        show _ = _
        rw [this]
        congr 2
        apply C.nu_congr
        intro j _
        congr 1
        omega
      have hp : (256 : Int) ^ (n - (m + 1)) ≤ 16777216 := by
        rcases (show n - (m + 1) = 0 ∨ n - (m + 1) = 1 ∨ n - (m + 1) = 2 ∨ n - (m + 1) = 3 by omega) with h | h | h | h <;> rw [h] <;> decide
      obtain ⟨V, hV⟩ : ∃ V, V = C.nu (fun j => f (off + (m + 1) + j)) (n - (m + 1)) := ⟨_, rfl⟩
      rw [← hV] at hnu HS ⊢
      have n0 := hnu.1
      have n1 : V < 16777216 := by omega
      clear hnu hp hV
      generalize f (off + m) = y at *
      rw [show (((m + 1 : Nat) : Int) - 1) = (m : Int) by omega]
      go_wp2
      go_roundw
      case rel => exact ⟨m, by omega, by go_num, by rw [HS.out]; congr 1; omega, trivial⟩
      case measure => simp [intOf]
    · obtain rfl : k = 0 := by omega
      rw [Nat.sub_zero, Nat.add_zero]
      go_wp2
      go_ret
      exact ⟨rfl, rfl⟩
theorem d_right (o z : Int) (o0 : 0 ≤ o) (o1 : o < 18446744073709551616) (z0 : -9223372036854775808 ≤ z) (z1 : z ≤ 9223372036854775807) (w : World) : Calls Tryz.prog 162 #[.int .u64 o, .int .i64 z] w fun e w' => e = .returned (.bool (fitB o z)) ∧ w' = w := by
  have HM : Hid (fitB o z = ((z == 1 || z == 2 || z == 4) && decide (o < 256) && o % z == 0)) := rfl
  generalize fitB o z = m at *
  by_cases q : z = 1 ∨ z = 2 ∨ z = 4
  · by_cases r : o < 256
    all_goals
      rcases q with rfl | rfl | rfl
      all_goals
        go_enter Tryz.func162, Tryz.ntmps162
        go_wp2
        go_ret
        exact ⟨ret_bool (by rw [HM.out]; simp [r] <;> omega), rfl⟩
  · have q1 : ¬ z = 1 := by omega
    have q2 : ¬ z = 2 := by omega
    have q3 : ¬ z = 4 := by omega
    go_enter Tryz.func162, Tryz.ntmps162
    go_wp2
    go_ret
    exact ⟨ret_bool (by rw [HM.out]; simp [q1, q2, q3]), rfl⟩
/-- the document's bytes of a slot -/
def dtab (k c b l : Int) : Nat → Int := C.put (C.put (C.put (C.put (C.put (C.put (C.put (C.put (C.put (C.put (C.put (C.put (C.put (fun _ => 0) 0 2 (C.byt 6900)) 2 2 (C.byt (4160 + k))) 4 2 (C.byt c)) 6 2 (C.byt 16)) 8 4 (C.byt 4278190081)) 16 4 (C.byt b)) 44 2 (C.byt 6900)) 46 2 (C.byt k)) 52 1 (C.byt 64)) 60 1 (C.byt l)) 61 1 (C.byt 1)) 64 4 (C.byt 17846281)) 80 4 (C.byt 34603017)
theorem dtab_at (k c b l : Int) (j : Nat) : dtab k c b l j = if 4 ≤ j ∧ j < 6 then C.byt c (j - 4) else if 16 ≤ j ∧ j < 20 then C.byt b (j - 16) else if j = 60 then C.byt l (j - 60) else sp0 k j := by
  unfold dtab sp0 C.put
  by_cases h1 : 4 ≤ j ∧ j < 6
  · repeat (first | rw [if_neg (by omega)] | rw [if_pos (by omega)])
  · by_cases h2 : 16 ≤ j ∧ j < 20
    · repeat (first | rw [if_neg (by omega)] | rw [if_pos (by omega)])
    · by_cases h3 : j = 60
      · repeat (first | rw [if_neg (by omega)] | rw [if_pos (by omega)])
      · have e1 : ¬ (60 ≤ j ∧ j < 60 + 1) := by omega
        have e2 : ¬ (16 ≤ j ∧ j < 16 + 4) := by omega
        have e3 : ¬ (4 ≤ j ∧ j < 4 + 2) := by omega
        simp only [if_neg e1, if_neg e2, if_neg e3, if_neg h3]
theorem byt_small (x : Int) (h : Byt x) : C.byt x 0 = x ∧ C.byt x 1 = 0 := by
  obtain ⟨h0, h1⟩ := h
  unfold C.byt
  simp only [Int.pow_zero, show (256 : Int) ^ 1 = 256 by decide]
  omega
theorem dtab_tab (v : Sv) (h : SOk v) (j : Nat) : dtab v.k v.c v.base v.l j = tab v j := by
  rw [dtab_at]
  have hb1 := h.b1.1
  have hb2 := h.b2
  have hb3 := h.b3
  unfold Byt at hb1 hb2 hb3
  have e0 : C.byt v.base 0 = 0 := by unfold C.byt Sv.base; simp only [Int.pow_zero]; omega
  have e1 : C.byt v.base 1 = v.b1 := by unfold C.byt Sv.base; simp only [show (256 : Int) ^ 1 = 256 by decide]; omega
  have e2 : C.byt v.base 2 = v.b2 := by unfold C.byt Sv.base; simp only [show (256 : Int) ^ 2 = 65536 by decide]; omega
  have e3 : C.byt v.base 3 = v.b3 := by unfold C.byt Sv.base; simp only [show (256 : Int) ^ 3 = 16777216 by decide]; omega
  by_cases h1 : 4 ≤ j ∧ j < 6
  · rw [if_pos h1]
    rcases (show j = 4 ∨ j = 5 by omega) with rfl | rfl
    · exact (byt_small _ h.c.1).1
    · rw [(byt_small _ h.c.1).2]; simp [tab, sp0, C.put]
  · rw [if_neg h1]
    by_cases h2 : 16 ≤ j ∧ j < 20
    · rw [if_pos h2]
      rcases (show j = 16 ∨ j = 17 ∨ j = 18 ∨ j = 19 by omega) with rfl | rfl | rfl | rfl
      · rw [e0]; simp [tab, sp0, C.put]
      · exact e1
      · exact e2
      · exact e3
    · rw [if_neg h2]
      by_cases h3 : j = 60
      · rw [if_pos h3]
        subst h3
        exact (byt_small _ h.l).1
      · rw [if_neg h3]
        unfold tab
        rw [if_neg (by omega), if_neg (by omega), if_neg (by omega), if_neg (by omega), if_neg h3]
theorem info_u8P : (Tryz.prog.info? 5).map (fun i => (i.zero, i.size, i.bytes)) = some (some (.int .u8 0), 1, 1) := by kernel_rfl
theorem u_su8P : Tryz.prog.underlying 23 = some (.slice 5) := by kernel_rfl
/-- bytes' two blocks -/
structure NB (W w : World) (k c b l : Int) (f : Nat → Int) : Prop where
  a : w.heap[W.heap.size]? = some (.cells #[.int .i64 k, .int .u64 c, .int .u64 b, .int .u64 l] 196 (0, 0))
  b : SpR w (W.heap.size + 1) 5 f 256 256
  c : Below W.heap.size W w
theorem nb_put {W w : World} {k c b l : Int} {f : Nat → Int} (o z v : Int) (h : NB W w k c b l f) (o0 : 0 ≤ o) (z0 : 0 ≤ z) (z1 : z ≤ 4) (v0 : 0 ≤ v) (v1 : v < 18446744073709551616) (hs : o + z ≤ 256) :
    Calls Tryz.prog 168 #[.slice (some ⟨W.heap.size + 1, 0, none⟩) 256 256, .int .i64 o, .int .i64 z, .int .u64 v] w fun e w' => e = .returned (.tuple #[]) ∧ NB W w' k c b l (C.put f o.toNat z.toNat (C.byt v)) := by
  have := d_put w (W.heap.size + 1) 5 f h.b o.toNat z.toNat v v0 v1 (by omega) (by omega)
  rw [Int.toNat_of_nonneg o0, Int.toNat_of_nonneg z0] at this
  refine this.mono ?_
  rintro e w' ⟨rfl, h1, h2⟩
  exact ⟨rfl, h2.old h.a (by omega), h1, h.c.trans (h2.below _ h.c.size (fun k hk => by omega))⟩
set_option maxHeartbeats 2000000 in
theorem d_bytes (w : World) (k c b l : Int) (k0 : 0 ≤ k) (k1 : k ≤ 255) (c0 : 0 ≤ c) (c1 : c < 256) (b0 : 0 ≤ b) (b1 : b < 4294967296) (l0 : 0 ≤ l) (l1 : l < 256) : Calls Tryz.prog 164 #[.agg #[.int .i64 k, .int .u64 c, .int .u64 b, .int .u64 l]] w fun e w' => e = .returned (.slice (some ⟨w.heap.size + 1, 0, none⟩) 256 256) ∧ NB w w' k c b l (dtab k c b l) := by
  have HP : Hid (∀ w' f o z v, NB w w' k c b l f → 0 ≤ o → 0 ≤ z → z ≤ 4 → 0 ≤ v → v < 18446744073709551616 → o + z ≤ 256 → Calls Tryz.prog 168 #[.slice (some ⟨w.heap.size + 1, 0, none⟩) 256 256, .int .i64 o, .int .i64 z, .int .u64 v] w' fun e w'' => e = .returned (.tuple #[]) ∧ NB w w'' k c b l (C.put f o.toNat z.toNat (C.byt v))) := fun w' f o z v h a b c d e g => nb_put o z v h a b c d e g
  have HN : Hid (NB w ((w.alloc (.cells #[.int .i64 k, .int .u64 c, .int .u64 b, .int .u64 l] 196)).alloc (.cells (row (fun _ => 0) 0 256).toArray 5)) k c b l (fun _ => 0)) := by
    refine ⟨?_, spR_row ?_, ((Below.refl _ _).alloc (Nat.le_refl _) _).alloc (by simp) _⟩
    · rw [Below.heap_alloc _ _ _ (by simp)]; exact heap_alloc_new w _
    · have := heap_alloc_new (w.alloc (.cells #[.int .i64 k, .int .u64 c, .int .u64 b, .int .u64 l] 196)) (.cells (row (fun _ => 0) 0 256).toArray 5)
      simpa using this
  have HR : Hid ((List.replicate 256 (Value.int .u8 0)).toArray = (row (fun _ => 0) 0 256).toArray) := by
    show _ = _
    rw [C.replicate_row 256 0]
  have q0 : ((w.alloc (.cells #[.int .i64 k, .int .u64 c, .int .u64 b, .int .u64 l] 196)).alloc (.cells (row (fun _ => 0) 0 256).toArray 5)).cell? ⟨w.heap.size, 0, none⟩ = some (.int .i64 k) := cell_of_row _ _ 0 _ _ _ HN.out.a
  have HQ : Hid (∀ w9 f, NB w w9 k c b l f → w9.cell? ⟨w.heap.size, 0, none⟩ = some (.int .i64 k) ∧ w9.cell? ⟨w.heap.size, 1, none⟩ = some (.int .u64 c) ∧ w9.cell? ⟨w.heap.size, 2, none⟩ = some (.int .u64 b) ∧ w9.cell? ⟨w.heap.size, 3, none⟩ = some (.int .u64 l)) := fun w9 f h => ⟨cell_of_row _ _ 0 _ _ _ h.a, cell_of_row _ _ 1 _ _ _ h.a, cell_of_row _ _ 2 _ _ _ h.a, cell_of_row _ _ 3 _ _ _ h.a⟩
  clear q0
  go_enter Tryz.func164, Tryz.ntmps164
  go_wp2_with (first
    | (with_reducible refine C.wpList_makes _ rfl (.const (.int .i64 256)) (.const (.int .i64 256)) 23 rfl 5 (.int .u8 0) 1 u_su8P info_u8P rfl 256 rfl rfl (by decide) (by decide) (row (fun _ => 0) 0 256).toArray HR.out ?_)
    | (go_at_call 168; (refine (HP.out _ _ _ _ _ HN.out (by omega) (by omega) (by omega) (by omega) (by omega) (by omega)).mono ?_); rintro e w9 ⟨rfl, hj⟩; obtain ⟨y0, y1, y2, y3⟩ := HQ.out w9 _ hj; clear HN; have HN := hid hj; clear hj))
  go_ret
  exact ⟨rfl, HN.out⟩
end Go.Proofs.YtjkihlpckgaggaaGreat.P
namespace Go.Proofs.YtjkihlpckgaggaaGreat.P
open Go.RowKit
open C (Only hid Still ret_bool ret_int row)
set_option linter.unusedVariables false
set_option maxRecDepth 100000

theorem info_Slot : (Tryz.prog.info? 196).map (fun i => (i.zero, i.size, i.bytes)) = some (some (.agg #[.int .i64 0, .int .u64 0, .int .u64 0, .int .u64 0]), 4, 32) := by kernel_rfl
theorem u_sSlot : Tryz.prog.underlying 192 = some (.slice 196) := by kernel_rfl
/-- the document's slots, cell by cell -/
def sc (V : Nat → Sv) (j : Nat) : Value := if j % 4 = 0 then .int .i64 (V (j / 4)).k else if j % 4 = 1 then .int .u64 (V (j / 4)).c else if j % 4 = 2 then .int .u64 (V (j / 4)).base else .int .u64 (V (j / 4)).l
def slc (V : Nat → Sv) (n : Nat) : List Value := (List.range (n * 4)).map (sc V)
theorem slc_len (V : Nat → Sv) (n : Nat) : (slc V n).length = n * 4 := by simp [slc]
theorem slc_at (V : Nat → Sv) (n j : Nat) (h : j < n * 4) : (slc V n)[j]? = some (sc V j) := by simp [slc, h]
theorem slc_next (V : Nat → Sv) (n : Nat) : slc V (n + 1) = slc V n ++ [.int .i64 (V n).k, .int .u64 (V n).c, .int .u64 (V n).base, .int .u64 (V n).l] := by
  unfold slc
  rw [Nat.succ_mul, List.range_add, List.map_append]
  congr 1
  have h0 : sc V (n * 4 + 0) = .int .i64 (V n).k := by unfold sc; rw [if_pos (by omega), show (n * 4 + 0) / 4 = n by omega]
  have h1 : sc V (n * 4 + 1) = .int .u64 (V n).c := by unfold sc; rw [if_neg (by omega), if_pos (by omega), show (n * 4 + 1) / 4 = n by omega]
  have h2 : sc V (n * 4 + 2) = .int .u64 (V n).base := by unfold sc; rw [if_neg (by omega), if_neg (by omega), if_pos (by omega), show (n * 4 + 2) / 4 = n by omega]
  have h3 : sc V (n * 4 + 3) = .int .u64 (V n).l := by unfold sc; rw [if_neg (by omega), if_neg (by omega), if_neg (by omega), show (n * 4 + 3) / 4 = n by omega]
  show [sc V (n * 4 + 0), sc V (n * 4 + 1), sc V (n * 4 + 2), sc V (n * 4 + 3)] = _
  rw [h0, h1, h2, h3]
/-- the document's bus -/
structure Dx (w : World) (p : Nat) (u : Value) (n : Nat) (V : Nat → Sv) : Prop where
  top : w.heap[p]? = some (.cells #[u] 194 (0, 0))
  own : w.ownsRow 0 196 4 u n (slc V n)
theorem dx_grow {w0 w3 : World} {p j : Nat} {u v : Value} {V : Nat → Sv} {kk : Int} (ht : w0.heap[p]? = some (.cells #[u] 194 (0, 0))) (ho : w0.ownsRow 0 196 4 u j (slc V j)) (m1 : w3.ownsRow 0 196 4 v (j + 1) (slc V j ++ [.int .i64 kk, .int .u64 0, .int .u64 0, .int .u64 0])) (m2 : Only (Ug u) w0 w3) (hk : V j = sv0 kk) : Dx (w3.setCell ⟨p, 0, none⟩ v) p v (j + 1) V := by
  have t3 := m2.old ht (fun z => own_ne ho ht (by decide) p z rfl)
  have e := slc_next V j
  rw [hk] at e
  rw [show ([.int .i64 kk, .int .u64 0, .int .u64 0, .int .u64 0] : List Value) = [.int .i64 (sv0 kk).k, .int .u64 (sv0 kk).c, .int .u64 (sv0 kk).base, .int .u64 (sv0 kk).l] from rfl, ← e] at m1
  exact ⟨setRowB w3 p 0 _ _ _ _ t3 rfl, own_only m1 (only_c w3 p 0 v) (own_ne m1 t3 (by decide))⟩
def ME (w0 : World) (u : Value) (j : Nat) (V : Nat → Sv) (kk : Int) (p : Nat) : Nat → Value × Value → World → Prop
  | 0, _, w => w = w0
  | 1, x, w => x.1 = .slice (some ⟨w0.heap.size, 0, none⟩) 1 1 ∧ w = w0.alloc (.cells #[.int .i64 kk, .int .u64 0, .int .u64 0, .int .u64 0] 196)
  | 2, x, w => w.ownsRow 0 196 4 x.2 (j + 1) (slc V j ++ [.int .i64 kk, .int .u64 0, .int .u64 0, .int .u64 0]) ∧ Only (Ug u) w0 w ∧ ∀ k, Ug x.2 k → Ug u k ∨ w0.heap.size ≤ k
  | 3, x, w => ∃ w3 : World, w3.ownsRow 0 196 4 x.2 (j + 1) (slc V j ++ [.int .i64 kk, .int .u64 0, .int .u64 0, .int .u64 0]) ∧ Only (Ug u) w0 w3 ∧ (∀ k, Ug x.2 k → Ug u k ∨ w0.heap.size ≤ k) ∧ w = w3.setCell ⟨p, 0, none⟩ x.2
  | _ + 4, _, _ => False
set_option maxHeartbeats 4000000 in
theorem d_New (W : World) (ad : Option Addr) (n cap b o : Nat) (K : Nat → Int) (hL : Ls W ad n cap b o K) (n8 : n ≤ 8) (hK : ∀ j, j < n → 0 ≤ K j ∧ K j ≤ 255) : Calls Tryz.prog 37 #[.slice ad n cap] W fun e w' => e = .returned (.tuple #[.pointer (some ⟨W.heap.size, 0, none⟩), .int .i64 0]) ∧ ∃ u, Dx w' W.heap.size u n (fun i => sv0 (K i)) ∧ Below W.heap.size W w' ∧ ∀ k, Ug u k → W.heap.size ≤ k := by
  have HL := hid hL
  have HK := hid hK
  clear hL hK
  obtain ⟨V, hV⟩ : ∃ V : Nat → Sv, V = fun i => sv0 (K i) := ⟨_, rfl⟩
  rw [← hV]
  have HV := hid hV
  clear hV
  go_enter Tryz.func37, Tryz.ntmps37
  go_wp2_with fail
  obtain ⟨p, hp⟩ : ∃ p, p = W.heap.size := ⟨_, rfl⟩
  rw [← hp]
  have HPp := hid hp
  have HB0 : Hid (Dx (W.alloc (.cells #[.slice none 0 0] 194)) p (.slice none 0 0) 0 V) := by
    rw [HPp.out]
    exact ⟨heap_alloc_new W _, rfl, .inl ⟨rfl, rfl⟩⟩
  have HW0 : Hid (Below W.heap.size W (W.alloc (.cells #[.slice none 0 0] 194))) := (Below.refl _ _).alloc (Nat.le_refl _) _
  clear hp
  generalize W.alloc (.cells #[.slice none 0 0] 194) = w00 at *
  go_loopw [5] (fun i wr => ∃ (j : Nat) (u : Value), j ≤ n ∧ i = .int .i64 j ∧ Hid (Dx wr p u j V) ∧ Hid (Below W.heap.size W wr) ∧ Hid (∀ k, Ug u k → W.heap.size ≤ k)) (fun i _ => n - (intOf i).toNat)
  case atStart => exact ⟨0, .slice none 0 0, by omega, rfl, HB0, HW0, fun k hk => by cases hk⟩
  case round =>
    obtain ⟨j, u, hj, rfl, HB, HBW, HFR⟩ := hrel
    by_cases hlt : j < n
    · obtain ⟨rfl, hbl⟩ := HL.out.at0 (by omega)
      have HBL := hid hbl
      clear hbl
      have hcl := HL.out.len
      have hcc := HL.out.cap
      have hc : wr.cell? ⟨b, o + j, none⟩ = some (.int .i64 (K j)) := (HL.out.below HBW.out).cell j hlt
      obtain ⟨k0, k1⟩ := HK.out j hlt
      obtain ⟨kk, hkk⟩ : ∃ kk, K j = kk := ⟨_, rfl⟩
      rw [hkk] at hc k0 k1
      have HVj : Hid (V j = sv0 kk) := by show _ = _; rw [HV.out, ← hkk]
      clear hkk
      go_wp2
      refine wp_region_any (by kernel_rfl) ?_
      obtain ⟨w0, hw0⟩ : ∃ w0, w0 = wr.drew := ⟨_, rfl⟩
      rw [show ({ wr with drawn := wr.drawn + 1 } : World) = w0 from hw0.symm]
      have HTP : Hid (w0.heap[p]? = some (.cells #[u] 194 (0, 0))) := by rw [hw0]; exact HB.out.top
      have HOW : Hid (w0.ownsRow 0 196 4 u j (slc V j)) := by rw [hw0]; exact own_below HB.out.own (Below.refl _ _).drew
      have HDR : Hid (Only (fun _ => False) wr w0) := by rw [hw0]; exact (Only.refl wr).drew
      have HCL : Hid (w0.cell? ⟨b, o + j, none⟩ = some (.int .i64 kk)) := by rw [hw0]; exact hc
      clear hw0
      have HLD : Hid (∀ s x w, s ≤ 2 → ME w0 u j V kk p s x w → w.cell? ⟨p, 0, none⟩ = some u ∧ w.cell? ⟨b, o + j, none⟩ = some (.int .i64 kk)) := fun s x w hs hm => by
        have hd := own_ne HOW.out HTP.out (by decide)
        have hbw : b < w0.heap.size := Nat.lt_of_lt_of_le HBL.out (Nat.le_trans HBW.out.size HDR.out.size)
        have hbu : ¬ Ug u b := fun z => by have := HFR.out b z; have := HBL.out; omega
        match s, hm with
        | 0, hm => rw [show w = w0 from hm]; exact ⟨cell_of_row w0 p 0 _ _ _ HTP.out, HCL.out⟩
        | 1, ⟨m2, m3⟩ =>
          rw [m3]
          have hbl : Below w0.heap.size w0 (w0.alloc (.cells #[.int .i64 kk, .int .u64 0, .int .u64 0, .int .u64 0] 196)) := (Below.refl _ _).alloc (Nat.le_refl _) _
          exact ⟨cell_of_row _ p 0 _ _ _ ((Only.ofBelow (S := fun _ => False) hbl).old HTP.out fun z => z), ((Only.ofBelow (S := fun _ => False) hbl).cell (o + j) hbw fun z => z).trans HCL.out⟩
        | 2, ⟨m1, m2, m3⟩ => exact ⟨cell_of_row w p 0 _ _ _ (m2.old HTP.out fun z => hd p z rfl), (m2.cell (o + j) hbw hbu).trans HCL.out⟩
      refine wpAny_fx (α := Value × Value) (fun x => fun dd => if dd = 29 then .pointer (some ⟨p, 0, none⟩) else if dd = 30 then .pointer (some ⟨p, 0, none⟩) else if dd = 31 then .pointer (some ⟨p, 0, none⟩) else if dd = 32 then .pointer (some ⟨p, 0, none⟩) else if dd = 33 then u else if dd = 34 then .slice (some ⟨b, o, none⟩) n cap else if dd = 35 then .int .i64 (j : Int) else if dd = 36 then .pointer (some ⟨b, o + j, none⟩) else if dd = 37 then .int .i64 kk else if dd = 38 then .agg #[.int .i64 kk, .int .u64 0, .int .u64 0, .int .u64 0] else if dd = 39 then x.1 else if dd = 40 then x.2 else if dd = 41 then .pointer (some ⟨p, 0, none⟩) else if dd = 42 then .pointer (some ⟨p, 0, none⟩) else undef) (VL [10, 11, 14] 14 12 (ME w0 u j V kk p)) ?step ?fin (.bool true, .bool true) ?start
      case start => exact .start rfl
      case step =>
        rintro listed fr wr x hF hW i hj
        obtain ⟨hl, o, ho, he⟩ := mem_ready.1 hj
        have hjl : i < listed.size := by rw [hF.ls]; exact (Array.getElem?_eq_some_iff.1 ho).1
        have hl0 := getD_tf hjl hl
        clear hj
        have HF := hid hF
        have HW := hid hW
        have HE := hid he
        clear hF hW he hl
        match i, ho with
        | 0, ho =>
          obtain rfl := Option.some.inj ho
          have e4 : fr.tmps[4]?.getD undef = .pointer (some ⟨p, 0, none⟩) := HF.out.base 4 (by kernel_rfl) rfl
          exact wp_q rfl rfl (by simp [execOp, go_sem, e4]; try rfl) ⟨x, HF.out.put (by kernel_rfl) rfl rfl rfl (of_decide_eq_true rfl), HW.out.q hjl (by decide) (by decide)⟩
        | 1, ho =>
          obtain rfl := Option.some.inj ho
          have e4 : fr.tmps[4]?.getD undef = .pointer (some ⟨p, 0, none⟩) := HF.out.base 4 (by kernel_rfl) rfl
          exact wp_q rfl rfl (by simp [execOp, go_sem, e4]; try rfl) ⟨x, HF.out.put (by kernel_rfl) rfl rfl rfl (of_decide_eq_true rfl), HW.out.q hjl (by decide) (by decide)⟩
        | 2, ho =>
          obtain rfl := Option.some.inj ho
          have e30 : fr.tmps[30]?.getD undef = .pointer (some ⟨p, 0, none⟩) := HF.out.ev (i := 1) rfl rfl (HE.out ⟨1, .data⟩ (by simp) rfl)
          exact wp_q rfl rfl (by simp [execOp, go_sem, e30]; try rfl) ⟨x, HF.out.put (by kernel_rfl) rfl rfl rfl (of_decide_eq_true rfl), HW.out.q hjl (by decide) (by decide)⟩
        | 3, ho =>
          obtain rfl := Option.some.inj ho
          have e31 : fr.tmps[31]?.getD undef = .pointer (some ⟨p, 0, none⟩) := HF.out.ev (i := 2) rfl rfl (HE.out ⟨2, .data⟩ (by simp) rfl)
          exact wp_q rfl rfl (by simp [execOp, go_sem, e31]; try rfl) ⟨x, HF.out.put (by kernel_rfl) rfl rfl rfl (of_decide_eq_true rfl), HW.out.q hjl (by decide) (by decide)⟩
        | 4, ho =>
          obtain rfl := Option.some.inj ho
          have e32 : fr.tmps[32]?.getD undef = .pointer (some ⟨p, 0, none⟩) := HF.out.ev (i := 3) rfl rfl (HE.out ⟨3, .data⟩ (by simp) rfl)
          have hc : wr.cell? ⟨p, 0, none⟩ = some u := HW.out.upto 2 rfl hl0 (by decide) (fun s hs hm => (HLD.out s x wr hs hm).1)
          exact wp_q rfl rfl (by simp [execOp, go_sem, e32, hc]; try rfl) ⟨x, HF.out.put (by kernel_rfl) rfl rfl rfl (of_decide_eq_true rfl), HW.out.q hjl (by decide) (by decide)⟩
        | 5, ho =>
          obtain rfl := Option.some.inj ho
          have e0 : fr.tmps[0]?.getD undef = .slice (some ⟨b, o, none⟩) n cap := HF.out.base 0 (by kernel_rfl) rfl
          exact wp_q rfl rfl (by simp [execOp, go_sem, e0]; try rfl) ⟨x, HF.out.put (by kernel_rfl) rfl rfl rfl (of_decide_eq_true rfl), HW.out.q hjl (by decide) (by decide)⟩
        | 6, ho =>
          obtain rfl := Option.some.inj ho
          have e5 : fr.tmps[5]?.getD undef = .int .i64 (j : Int) := HF.out.base 5 (by kernel_rfl) rfl
          exact wp_q rfl rfl (by simp [execOp, go_sem, e5]; try rfl) ⟨x, HF.out.put (by kernel_rfl) rfl rfl rfl (of_decide_eq_true rfl), HW.out.q hjl (by decide) (by decide)⟩
        | 7, ho =>
          obtain rfl := Option.some.inj ho
          have e34 : fr.tmps[34]?.getD undef = .slice (some ⟨b, o, none⟩) n cap := HF.out.ev (i := 5) rfl rfl (HE.out ⟨5, .data⟩ (by simp) rfl)
          have e35 : fr.tmps[35]?.getD undef = .int .i64 (j : Int) := HF.out.ev (i := 6) rfl rfl (HE.out ⟨6, .data⟩ (by simp) rfl)
          exact wp_q rfl rfl (by simp [execOp, go_sem, e34, e35, hlt]; try rfl) ⟨x, HF.out.put (by kernel_rfl) rfl rfl rfl (of_decide_eq_true rfl), HW.out.q hjl (by decide) (by decide)⟩
        | 8, ho =>
          obtain rfl := Option.some.inj ho
          have e36 : fr.tmps[36]?.getD undef = .pointer (some ⟨b, o + j, none⟩) := HF.out.ev (i := 7) rfl rfl (HE.out ⟨7, .data⟩ (by simp) rfl)
          have hc : wr.cell? ⟨b, o + j, none⟩ = some (.int .i64 kk) := HW.out.upto 2 rfl hl0 (by decide) (fun s hs hm => (HLD.out s x wr hs hm).2)
          exact wp_q rfl rfl (by simp [execOp, go_sem, e36, hc]; try rfl) ⟨x, HF.out.put (by kernel_rfl) rfl rfl rfl (of_decide_eq_true rfl), HW.out.q hjl (by decide) (by decide)⟩
        | 9, ho =>
          obtain rfl := Option.some.inj ho
          have e37 : fr.tmps[37]?.getD undef = .int .i64 kk := HF.out.ev (i := 8) rfl rfl (HE.out ⟨8, .data⟩ (by simp) rfl)
          exact wp_q rfl rfl (by simp [execOp, go_sem, e37]; try rfl) ⟨x, HF.out.put (by kernel_rfl) rfl rfl rfl (of_decide_eq_true rfl), HW.out.q hjl (by decide) (by decide)⟩
        | 10, ho =>
          obtain rfl := Option.some.inj ho
          have e38 : fr.tmps[38]?.getD undef = .agg #[.int .i64 kk, .int .u64 0, .int .u64 0, .int .u64 0] := HF.out.ev (i := 9) rfl rfl (HE.out ⟨9, .data⟩ (by simp) rfl)
          have m1 := HW.out.1.at 0 rfl hl0 (fun j hj => by omega)
          subst m1
          obtain ⟨i0, hi0, hz0, hs0, hb0⟩ := info_parts info_Slot
          refine wp_bs rfl rfl 192 196 1 _ rfl #[.int .i64 kk, .int .u64 0, .int .u64 0, .int .u64 0] i0 _ u_sSlot hi0 hz0 (by rw [hs0]; decide) (by rw [hs0]; decide) ?_ ?_
          · have := Great.fill_whole (s := 4) (by decide) [.agg #[.int .i64 kk, .int .u64 0, .int .u64 0, .int .u64 0]] ((Array.range (1 * 4)).map (((Value.agg #[.int .i64 0, .int .u64 0, .int .u64 0, .int .u64 0]).cells)[· % (Value.agg #[.int .i64 0, .int .u64 0, .int .u64 0, .int .u64 0]).cells.size]!)) (fun v hv => by rw [List.mem_singleton.1 hv]; rfl) (by simp)
            rw [hs0]
            have e1 : Act.eval fr (.tmp 38) = .agg #[.int .i64 kk, .int .u64 0, .int .u64 0, .int .u64 0] := by simp [Act.eval, e38]
            simp only [List.map_toArray, List.map_cons, List.map_nil, e1]
            exact this
          have HFy : Hid (FrQ _ ((fun x : Value × Value => fun dd => if dd = 29 then .pointer (some ⟨p, 0, none⟩) else if dd = 30 then .pointer (some ⟨p, 0, none⟩) else if dd = 31 then .pointer (some ⟨p, 0, none⟩) else if dd = 32 then .pointer (some ⟨p, 0, none⟩) else if dd = 33 then u else if dd = 34 then .slice (some ⟨b, o, none⟩) n cap else if dd = 35 then .int .i64 (j : Int) else if dd = 36 then .pointer (some ⟨b, o + j, none⟩) else if dd = 37 then .int .i64 kk else if dd = 38 then .agg #[.int .i64 kk, .int .u64 0, .int .u64 0, .int .u64 0] else if dd = 39 then x.1 else if dd = 40 then x.2 else if dd = 41 then .pointer (some ⟨p, 0, none⟩) else if dd = 42 then .pointer (some ⟨p, 0, none⟩) else undef) (.slice (some ⟨wr.heap.size, 0, none⟩) 1 1, x.2)) _ listed fr) := HF.out.swap (fun j o d g1 g2 g3 => by
            by_cases e : d = 39
            · subst e
              have := ndB_spec (j := j) (k := 10) (d := 39) (by kernel_rfl) g1 rfl g2 rfl
              subst this
              rw [hl0] at g3; cases g3
            · simp [e])
          exact ⟨(.slice (some ⟨wr.heap.size, 0, none⟩) 1 1, x.2), HFy.out.put (by kernel_rfl) rfl rfl rfl (of_decide_eq_true rfl), HW.out.go 0 hjl rfl hl0 (fun j hj => by omega) (by intro a ha; match a, ha with | 0, _ => rfl | 1, ha => simp at ha | 2, ha => simp at ha) ⟨rfl, rfl⟩ (by decide)⟩
        | 11, ho =>
          obtain rfl := Option.some.inj ho
          have e33 : fr.tmps[33]?.getD undef = u := HF.out.ev (i := 4) rfl rfl (HE.out ⟨4, .data⟩ (by simp) rfl)
          have e39 : fr.tmps[39]?.getD undef = x.1 := HF.out.ev (i := 10) rfl rfl (HE.out ⟨10, .data⟩ (by simp) rfl)
          have h7 : listed.getD 10 false = true := HE.out ⟨10, .data⟩ (by simp) rfl
          obtain ⟨m2, rfl⟩ := HW.out.1.at 1 rfl hl0 (fun j hj => by obtain rfl : j = 0 := (by omega); exact ⟨10, rfl, h7⟩)
          obtain ⟨i0, hi0, hz0, hs0, hb0⟩ := info_parts info_Slot
          have hb1 : Below w0.heap.size w0 (w0.alloc (.cells #[.int .i64 kk, .int .u64 0, .int .u64 0, .int .u64 0] 196)) := (Below.refl _ _).alloc (Nat.le_refl _) _
          have e28' : Act.eval fr (.tmp 33) = u := by simp [Act.eval, e33]
          have e31' : Act.eval fr (.tmp 39) = .slice (some ⟨w0.heap.size, 0, none⟩) 1 1 := by simp [Act.eval, e39, m2]
          refine wpOp_step rfl fun K' hK => ?_
          refine step_append_blk _ (.tmp 33) (.tmp 39) 192 rfl 196 i0 _ 4 32 u_sSlot hi0 hz0 hs0 hb0 rfl (by decide) u j (slc V j) e28' (own_only HOW.out (T := fun _ => False) (.ofBelow hb1) fun _ _ z => z) ⟨w0.heap.size, 0, none⟩ 1 1 [.int .i64 kk, .int .u64 0, .int .u64 0, .int .u64 0] e31' rfl ?_ (by intro v hv; simp at hv; rcases hv with rfl | rfl | rfl | rfl <;> rfl) (show j + 1 ≤ 9223372036854775807 by omega) (by omega) rfl ?_
          · intro i v hv
            rw [C.addr_add, Nat.zero_add, cell_of_row _ _ i _ _ _ (heap_alloc_new w0 _)]
            simpa using hv
          intro v' w3 hown hgrow hblk
          have ho : Only (Ug u) w0 w3 := (Only.ofBelow hb1).trans (grown_ug hgrow)
          have HFy : Hid (FrQ _ ((fun x : Value × Value => fun dd => if dd = 29 then .pointer (some ⟨p, 0, none⟩) else if dd = 30 then .pointer (some ⟨p, 0, none⟩) else if dd = 31 then .pointer (some ⟨p, 0, none⟩) else if dd = 32 then .pointer (some ⟨p, 0, none⟩) else if dd = 33 then u else if dd = 34 then .slice (some ⟨b, o, none⟩) n cap else if dd = 35 then .int .i64 (j : Int) else if dd = 36 then .pointer (some ⟨b, o + j, none⟩) else if dd = 37 then .int .i64 kk else if dd = 38 then .agg #[.int .i64 kk, .int .u64 0, .int .u64 0, .int .u64 0] else if dd = 39 then x.1 else if dd = 40 then x.2 else if dd = 41 then .pointer (some ⟨p, 0, none⟩) else if dd = 42 then .pointer (some ⟨p, 0, none⟩) else undef) (x.1, v')) _ listed fr) := HF.out.swap (fun j o d g1 g2 g3 => by
            by_cases e : d = 40
            · subst e
              have := ndB_spec (j := j) (k := 11) (d := 40) (by kernel_rfl) g1 rfl g2 rfl
              subst this
              rw [hl0] at g3; cases g3
            · simp [e])
          exact hK _ _ ⟨(x.1, v'), HFy.out.put (by kernel_rfl) rfl rfl rfl (of_decide_eq_true rfl), HW.out.go 1 hjl rfl hl0 (fun j hj => by obtain rfl : j = 0 := (by omega); exact ⟨10, rfl, h7⟩) (by intro a ha; match a, ha with | 0, ha => simp at ha | 1, _ => rfl | 2, ha => simp at ha) ⟨hown, ho, fun k hk => (hblk k hk).imp id fun z => Nat.le_trans hb1.size z⟩ (by decide)⟩
        | 12, ho =>
          obtain rfl := Option.some.inj ho
          have e29 : fr.tmps[29]?.getD undef = .pointer (some ⟨p, 0, none⟩) := HF.out.ev (i := 0) rfl rfl (HE.out ⟨0, .data⟩ (by simp) rfl)
          exact wp_q rfl rfl (by simp [execOp, go_sem, e29]; try rfl) ⟨x, HF.out.put (by kernel_rfl) rfl rfl rfl (of_decide_eq_true rfl), HW.out.q hjl (by decide) (by decide)⟩
        | 13, ho =>
          obtain rfl := Option.some.inj ho
          have e41 : fr.tmps[41]?.getD undef = .pointer (some ⟨p, 0, none⟩) := HF.out.ev (i := 12) rfl rfl (HE.out ⟨12, .data⟩ (by simp) rfl)
          exact wp_q rfl rfl (by simp [execOp, go_sem, e41]; try rfl) ⟨x, HF.out.put (by kernel_rfl) rfl rfl rfl (of_decide_eq_true rfl), HW.out.q hjl (by decide) (by decide)⟩
        | 14, ho =>
          obtain rfl := Option.some.inj ho
          have e42 : fr.tmps[42]?.getD undef = .pointer (some ⟨p, 0, none⟩) := HF.out.ev (i := 13) rfl rfl (HE.out ⟨13, .data⟩ (by simp) rfl)
          have e40 : fr.tmps[40]?.getD undef = x.2 := HF.out.ev (i := 11) rfl rfl (HE.out ⟨11, .data⟩ (by simp) rfl)
          have ha : ∀ j, j < 12 → listed.getD j false = true := he_all HE.out 12 (by kernel_rfl)
          obtain ⟨m1, m2, m3⟩ := HW.out.1.at 2 rfl hl0 (fun j hj => by obtain rfl : j = 1 := (by omega); exact ⟨11, rfl, ha 11 (by decide)⟩)
          have c1 : wr.cell? ⟨p, 0, none⟩ = some u := by
            have := m2.old HTP.out (fun z => own_ne HOW.out HTP.out (by decide) p z rfl)
            exact cell_of_row wr p 0 _ _ _ this
          have z1 : wr.frozen? ⟨p, 0, none⟩ = false := by
            have := m2.old HTP.out (fun z => own_ne HOW.out HTP.out (by decide) p z rfl)
            exact frozen_of_row wr p 0 _ _ this
          obtain ⟨ad3, l3, cp3, hx2⟩ : ∃ ad l c, x.2 = .slice ad l c := by
            rcases m1.2 with ⟨q, -⟩ | ⟨g, cap, cur, q, -⟩ <;> exact ⟨_, _, _, q⟩
          exact wp_s rfl rfl (w' := wr.setCell ⟨p, 0, none⟩ x.2) (by rw [hx2] at e40; simp [execOp, go_sem, e42, e40, c1, z1, hx2]; try rfl) ⟨x, HF.out.skip rfl rfl _, HW.out.last 2 hjl rfl hl0 (fun j hj => by obtain rfl : j = 1 := (by omega); exact ⟨11, rfl, ha 11 (by decide)⟩) (by intro a h; match a, h with | 0, h => simp at h | 1, h => simp at h | 2, _ => rfl) ⟨wr, m1, m2, m3, rfl⟩ ha⟩
      case fin =>
        rintro listed fr w2 x hF hW hr
        have all := allDone hr hF.ls (by kernel_rfl)
        have k1 := hW.1.end 2 rfl (all 14 (by decide)) (fun s hs hm => by
          match s, hs, hm with
          | 3, _, hm => exact hm
          | n + 4, _, hm => exact hm.elim)
        obtain ⟨w3, m1, m2, m3, rfl⟩ := k1
        rw [hF.full all]
        clear hF hW hr all
        obtain ⟨u2, hu2⟩ : ∃ u2, u2 = x.2 := ⟨_, rfl⟩
        have HB2 : Hid (Dx (w3.setCell ⟨p, 0, none⟩ x.2) p u2 (j + 1) V) := by rw [hu2]; exact dx_grow HTP.out HOW.out m1 m2 HVj.out
        have HO2 : Hid (Below W.heap.size W (w3.setCell ⟨p, 0, none⟩ x.2)) := (HBW.out.trans (((HDR.out.mono (T := fun x => W.heap.size ≤ x) (fun _ _ z => z.elim)).trans (m2.mono fun k _ hk => HFR.out k hk)).below _ HBW.out.size fun k hk => hk)).setCell (by rw [HPp.out]; exact Nat.le_refl _) _
        have HF2 : Hid (∀ k, Ug u2 k → W.heap.size ≤ k) := by rw [hu2]; exact fun k hk => (m3 k hk).elim (HFR.out k) fun z => Nat.le_trans HBW.out.size (Nat.le_trans HDR.out.size z)
        clear m1 m2 m3 hu2 HLD
        generalize w3.setCell ⟨p, 0, none⟩ x.2 = w4 at *
        simp only [List.foldl_cons, List.foldl_nil, fillF]
        go_simp
        go_wp2
        go_roundw
        case rel => exact ⟨j + 1, u2, by omega, by go_num, HB2, HO2, HF2⟩
        case measure => simp [intOf]; omega
    · obtain rfl : j = n := by omega
      go_wp2
      go_returns
      rw [← HPp.out]
      exact ⟨rfl, u, HB.out, HPp.out ▸ HBW.out, HPp.out ▸ HFR.out⟩
end Go.Proofs.YtjkihlpckgaggaaGreat.P
namespace Go.Proofs.YtjkihlpckgaggaaGreat
open Go.RowKit
open C (Only hid Still ret_bool ret_int row)
open P (Ls)
set_option linter.unusedVariables false
set_option maxRecDepth 100000

def zUv : Value := .agg #[.slice none 0 0, .slice none 0 0, .int .u8 0, .int .u8 0, .int .u8 0, .int .u8 0, .int .u8 0, .int .u8 0, .int .u8 0, .bool false, .bool false]
abbrev A16 := Nat × Nat × Value × Nat × Nat
/-- the document's board: its cells -/
abbrev b16 (a b ic pc : Nat) (u : Value) (s : Nat) : Array Value := #[ptr a, ptr b, ptr ic, ptr pc, u, .slice (some ⟨s, 0, none⟩) 1 1, .pointer none, .int .i64 (-1)]
structure V16 (wa : World) (ic pc : Nat) (x : A16) (listed : Array Bool) (w : World) : Prop where
  bel : Below wa.heap.size wa w
  u : listed.getD 7 false = true → ∃ ua uc, x.2.2.1 = .slice ua 1 uc
  s : listed.getD 10 false = true → w.heap[x.2.2.2.1]? = some (.cells #[.pointer none] 141 (0, 0)) ∧ wa.heap.size ≤ x.2.2.2.1
  p : listed.getD 12 false = true → w.heap[x.2.2.2.2]? = some (.cells (b16 x.1 x.2.1 ic pc x.2.2.1 x.2.2.2.1) 140 (0, 0)) ∧ wa.heap.size ≤ x.2.2.2.2
section
variable {wa w w' : World} {ic pc : Nat} {x y : A16} {listed : Array Bool}
theorem gd_ne (l : Array Bool) (j k : Nat) (hj : j < l.size) (h : k ≠ j) : (l.setIfInBounds j true).getD k false = l.getD k false := by rw [getD_set _ _ _ hj, if_neg h]
theorem V16.q (h : V16 wa ic pc x listed w) {j : Nat} (hj : j < listed.size) (n : [7, 10, 12].contains j = false) : V16 wa ic pc x (listed.setIfInBounds j true) w := by
  have n0 : (7 : Nat) ≠ j := fun e => by subst e; cases n
  have n1 : (10 : Nat) ≠ j := fun e => by subst e; cases n
  have n2 : (12 : Nat) ≠ j := fun e => by subst e; cases n
  exact ⟨h.bel, fun q => h.u (by rwa [gd_ne _ _ _ hj n0] at q), fun q => h.s (by rwa [gd_ne _ _ _ hj n1] at q), fun q => h.p (by rwa [gd_ne _ _ _ hj n2] at q)⟩
/-- something is made, ahead of the board -/
theorem V16.mkA (h : V16 wa ic pc x listed w) {j : Nat} (hj : j < listed.size) (n : [7, 10, 12].contains j = false) (h12 : listed.getD 12 false = false) (hb : Below w.heap.size w w') (hs : y.2.2.1 = x.2.2.1 ∧ y.2.2.2.1 = x.2.2.2.1) : V16 wa ic pc y (listed.setIfInBounds j true) w' := by
  have n0 : (7 : Nat) ≠ j := fun e => by subst e; cases n
  have n1 : (10 : Nat) ≠ j := fun e => by subst e; cases n
  have n2 : (12 : Nat) ≠ j := fun e => by subst e; cases n
  refine ⟨h.bel.trans (hb.mono h.bel.size), fun q => by rw [hs.1]; exact h.u (by rwa [gd_ne _ _ _ hj n0] at q), fun q => ?_, fun q => ?_⟩
  · obtain ⟨h1, h2⟩ := h.s (by rwa [gd_ne _ _ _ hj n1] at q)
    rw [hs.2]
    exact ⟨(hb.block _ (lt_of_block h1)).trans h1, h2⟩
  · rw [gd_ne _ _ _ hj n2, h12] at q
    cases q
theorem V16.mkU (h : V16 wa ic pc x listed w) (hj : 7 < listed.size) (h12 : listed.getD 12 false = false) (hb : Below w.heap.size w w') (hu : ∃ ua uc, y.2.2.1 = .slice ua 1 uc) (hs : y.2.2.2.1 = x.2.2.2.1) : V16 wa ic pc y (listed.setIfInBounds 7 true) w' := by
  refine ⟨h.bel.trans (hb.mono h.bel.size), fun _ => hu, fun q => ?_, fun q => ?_⟩
  · obtain ⟨h1, h2⟩ := h.s (by rwa [gd_ne _ _ _ hj (by decide)] at q)
    rw [hs]
    exact ⟨(hb.block _ (lt_of_block h1)).trans h1, h2⟩
  · rw [gd_ne _ _ _ hj (by decide), h12] at q
    cases q
theorem V16.mkS (h : V16 wa ic pc x listed w) (hj : 10 < listed.size) (h12 : listed.getD 12 false = false) (hu : y.2.2.1 = x.2.2.1) (hs : y.2.2.2.1 = w.heap.size) : V16 wa ic pc y (listed.setIfInBounds 10 true) (w.alloc (.cells #[.pointer none] 141)) := by
  refine ⟨h.bel.alloc h.bel.size _, fun q => by rw [hu]; exact h.u (by rwa [gd_ne _ _ _ hj (by decide)] at q), fun q => ?_, fun q => ?_⟩
  · rw [hs]; exact ⟨heap_alloc_new w _, h.bel.size⟩
  · rw [gd_ne _ _ _ hj (by decide), h12] at q
    cases q
theorem V16.mkP (h : V16 wa ic pc x listed w) (hj : 12 < listed.size) (h10 : listed.getD 10 false = true) (hs : y = (x.1, x.2.1, x.2.2.1, x.2.2.2.1, w.heap.size)) : V16 wa ic pc y (listed.setIfInBounds 12 true) (w.alloc (.cells (b16 x.1 x.2.1 ic pc x.2.2.1 x.2.2.2.1) 140)) := by
  subst hs
  refine ⟨h.bel.alloc h.bel.size _, fun q => h.u (by rwa [gd_ne _ _ _ hj (by decide)] at q), fun q => ?_, fun q => ⟨heap_alloc_new w _, h.bel.size⟩⟩
  obtain ⟨h1, h2⟩ := h.s h10
  exact ⟨(heap_alloc_old w _ (lt_of_block h1)).trans h1, h2⟩
end
def vtD (ic pc : Nat) (devs : Value) (a b : Nat) (u : Value) (s p : Nat) : Nat → Value := fun dd => if dd = 31 then zUv else if dd = 32 then ptr a else if dd = 33 then .agg #[.int .u64 0] else if dd = 34 then ptr b else if dd = 35 then ptr ic else if dd = 36 then ptr pc else if dd = 37 then devs else if dd = 38 then u else if dd = 39 then devs else if dd = 40 then .int .i64 1 else if dd = 41 then .slice (some ⟨s, 0, none⟩) 1 1 else if dd = 42 then .agg #[ptr a, ptr b, ptr ic, ptr pc, u, .slice (some ⟨s, 0, none⟩) 1 1, .pointer none, .int .i64 (-1)] else if dd = 43 then ptr p else if dd = 14 then ptr p else undef
theorem info_intG : (Tryz.prog.info? 3).map (fun i => (i.zero, i.size, i.bytes)) = some (some (.int .i64 0), 1, 8) := by kernel_rfl
theorem u_sintG : Tryz.prog.underlying 22 = some (.slice 3) := by kernel_rfl
theorem info_pD14 : (Tryz.prog.info? 141).map (fun i => (i.zero, i.size, i.bytes)) = some (some (.pointer none), 1, 8) := by kernel_rfl
theorem u_spD14 : Tryz.prog.underlying 138 = some (.slice 141) := by kernel_rfl
theorem mk_devs (w : World) : (Instr.makeSlice 138 (.int .i64 1) (.int .i64 1)).run Tryz.prog w = .ok (.slice (some ⟨w.heap.size, 0, none⟩) 1 1) (w.alloc (.cells #[.pointer none] 141)) := by
  obtain ⟨i, hi1, hz, hs, hb⟩ := info_parts info_pD14
  have hr := run_make (P := Tryz.prog) w 138 141 i _ u_spD14 hi1 hz .i64 .i64 1 1 (by omega) (by omega) (by rw [hb]; decide) (by omega)
  have hcs : madeCells (Value.pointer none).cells ((1 : Int).toNat * i.size) = #[.pointer none] := by
    rw [hs]
    apply Array.ext'
    simpa [Value.cells] using toList_madeCells_one (.pointer none) 1
  rw [hcs] at hr
  simpa using hr
/-- a disk is made, then laid -/
def M15 (wb : World) (s : Nat) : Nat → Nat → World → Prop
  | 0, _, w => w = wb
  | 1, _, w => Below wb.heap.size wb w
  | _, d, w => ∃ w8, Below wb.heap.size wb w8 ∧ w = w8.setCell ⟨s, 0, none⟩ (ptr d)
theorem M15.cell {wb w : World} {s k : Nat} {d : Nat} {p j : Nat} {v : Value} (h : M15 wb s k d w) (hp : p < wb.heap.size) (hs : p ≠ s) (hv : wb.cell? ⟨p, j, none⟩ = some v) : w.cell? ⟨p, j, none⟩ = some v := by
  match k, h with
  | 0, h => rw [show w = wb from h]; exact hv
  | 1, h => exact (Below.cell h (p := ⟨p, j, none⟩) hp).trans hv
  | k + 2, ⟨w8, h1, h2⟩ =>
    rw [h2]
    have : (w8.setCell ⟨s, 0, none⟩ (ptr d)).cell? ⟨p, j, none⟩ = w8.cell? ⟨p, j, none⟩ := World.cell?_of_block (w := w8) ((only_c w8 s 0 (ptr d)).block p (Nat.lt_of_lt_of_le hp h1.size) (fun z => hs z))
    rw [this]
    exact (Below.cell h1 (p := ⟨p, j, none⟩) hp).trans hv
def vtE (p s b o : Nat) (devs disk : Value) (d : Nat) : Nat → Value := fun dd => if dd = 81 then ptr p else if dd = 82 then ptr p else if dd = 83 then .pointer (some ⟨p, 5, none⟩) else if dd = 84 then .slice (some ⟨s, 0, none⟩) 1 1 else if dd = 85 then .int .i64 0 else if dd = 86 then devs else if dd = 87 then .int .i64 0 else if dd = 88 then .pointer (some ⟨b, o, none⟩) else if dd = 89 then .int .i64 2 else if dd = 90 then disk else if dd = 91 then .tuple #[ptr d, .int .i64 0] else if dd = 80 then .tuple #[ptr d, .int .i64 0] else if dd = 92 then ptr d else if dd = 93 then .int .i64 0 else if dd = 94 then .pointer (some ⟨s, 0, none⟩) else undef
set_option maxHeartbeats 4000000 in
theorem r16_New (w : World) (hh : Nat) (h1 : 1 ≤ hh) (h2 : hh ≤ 64) (ad : Option Addr) (cap b o : Nat) (K : Nat → Int) (hL : Ls w ad 1 cap b o K) (hK : K 0 = 2) (g gcap : Nat) (dl : List Int) (hd : w.ownsRow 0 5 1 (.slice (some ⟨g, 0, none⟩) dl.length gcap) dl.length (bys dl)) (h0 : 0 < dl.length) (hl : dl.length ≤ 32768) (hm : dl.length % 512 = 0) (en : Value) :
    Calls Tryz.prog 23 #[.int .i64 hh, .slice ad 1 cap, .slice (some ⟨g, 0, none⟩) dl.length gcap, en] w fun r w' => ∃ p, r = .returned (.tuple #[ptr p, .int .i64 0]) ∧ Below w.heap.size w w' := by
  have hr := r_Right w (hh : Int) (by omega) (by omega) ad 1 cap b o K hL (some ⟨g, 0, none⟩) dl.length gcap (by omega)
  rw [rgt_1 hh h1 h2 K 2 hK (.inr (.inl rfl)) dl.length hl hm (.inl rfl)] at hr
  have HR := hid hr
  have HI := hid (fun w8 => r_NewIntc w8 hh h1 h2)
  have hkj : ∀ j, j < 1 → 0 ≤ K j ∧ K j ≤ 255 := fun j hj => by
    obtain rfl : j = 0 := by omega
    rw [hK]; omega
  have HP := hid (fun w8 (q : Ls w8 ad 1 cap b o K) => P.d_New w8 ad 1 cap b o K q (by decide) hkj)
  have HLs := hid hL
  have HD := hid hd
  have HKK := hid hK
  have HDL := hid (show dl.length ≤ 32768 ∧ dl.length % 512 = 0 from ⟨hl, hm⟩)
  have HD0 := hid h0
  obtain ⟨rfl, hbl⟩ := hL.at0 (by decide)
  have HBL := hid hbl
  have lcap := hL.len
  have lcap2 := hL.cap
  clear hr hL hd hl hm hkj hbl h0
  go_enter Tryz.func23, Tryz.ntmps23
  go_upto_region 5 with (first
    | (go_at_call 9; refine HR.out.mono ?_; rintro r w0 ⟨rfl, q⟩; obtain rfl := q.symm)
    | (go_at_call 36; refine (HI.out w).mono ?_; rintro r w1 ⟨ic, rfl, q⟩; have B1 := hid q; clear q)
    | (go_at_call 37; refine (HP.out w1 (HLs.out.below B1.out)).mono ?_; rintro r w2 ⟨rfl, u2, q1, q2, q3⟩; have B2 := hid q2; clear q1 q2 q3))
  obtain ⟨pc, hpc⟩ : ∃ pc, pc = w1.heap.size := ⟨_, rfl⟩
  rw [← hpc]
  clear hpc
  obtain ⟨wa, hwa⟩ : ∃ wa, wa = w2.drew := ⟨_, rfl⟩
  have HB3 : Hid (Below w.heap.size w wa) := by
    have b12 : Below w.heap.size w w2 := B1.out.trans (B2.out.mono B1.out.size)
    rw [hwa]; exact b12.drew
  have HLA := hid (HLs.out.below HB3.out)
  have HMK := hid (fun w8 => mk_devs w8)
  have HV0 : Hid (V16 wa ic pc (0, 0, .slice none 0 0, 0, 0) (Array.replicate 14 false) wa) := ⟨Below.refl _ _, fun q => by simp at q, fun q => by simp at q, fun q => by simp at q⟩
  refine wp_region_any (by kernel_rfl) ?_
  rw [show ({ w2 with drawn := w2.drawn + 1 } : World) = wa from hwa.symm]
  clear hwa B1 B2
  refine wpAny_fz (α := A16) (fun x => vtD ic pc (.slice (some ⟨b, o, none⟩) 1 cap) x.1 x.2.1 x.2.2.1 x.2.2.2.1 x.2.2.2.2) (fun x listed w8 => V16 wa ic pc x listed w8) ?step ?fin (0, 0, .slice none 0 0, 0, 0) ?start
  case start => exact HV0.out
  case step =>
    rintro listed fr wr x hF hW hC i hj
    obtain ⟨hl, o, ho, he⟩ := mem_ready.1 hj
    have hjl : i < listed.size := by rw [hF.q.ls]; exact (Array.getElem?_eq_some_iff.1 ho).1
    have hl0 := getD_tf hjl hl
    clear hj
    have HF := hid hF
    have HW := hid hW
    have HE := hid he
    have HC := hid hC
    clear hF hW he hl hC
    match i, ho with
    | 0, ho =>
      obtain rfl := Option.some.inj ho
      exact wp_q rfl rfl (by simp [execOp, go_sem]; try rfl) ⟨x, HF.out.put (by kernel_rfl) rfl rfl rfl (of_decide_eq_true rfl), HW.out.q hjl (by decide)⟩
    | 1, ho =>
      obtain rfl := Option.some.inj ho
      have e31 : fr.tmps[31]?.getD undef = zUv := HF.out.ev (i := 0) rfl rfl (HE.out ⟨0, .data⟩ (by simp) rfl)
      have n11 : listed.getD 11 false = false := not_yet (j := 11) HC.out hl0 rfl ⟨1, .data⟩ (by simp) rfl rfl
      have n12 : listed.getD 12 false = false := not_yet (j := 12) HC.out n11 rfl ⟨11, .data⟩ (by simp) rfl rfl
      have hsw := HF.out.swapD (vt' := vtD ic pc (.slice (some ⟨b, o, none⟩) 1 cap) wr.heap.size x.2.1 x.2.2.1 x.2.2.2.1 x.2.2.2.2) (by kernel_rfl) (fun d => ?_)
      · exact wp_q rfl rfl (by simp [execOp, go_sem, e31, zUv]; first | done | rfl | exact ⟨rfl, rfl⟩) ⟨(wr.heap.size, x.2.1, x.2.2.1, x.2.2.2.1, x.2.2.2.2), hsw.put (by kernel_rfl) rfl rfl rfl (of_decide_eq_true rfl), HW.out.mkA hjl (by decide) n12 ((Below.refl _ _).alloc (Nat.le_refl _) (.cells #[.slice none 0 0, .slice none 0 0, .int .u8 0, .int .u8 0, .int .u8 0, .int .u8 0, .int .u8 0, .int .u8 0, .int .u8 0, .bool false, .bool false] 134)) ⟨rfl, rfl⟩⟩
      · by_cases z0 : d = 32
        · subst z0; exact .inr ⟨1, _, rfl, rfl, hl0⟩
        · by_cases z1 : d = 42
          · subst z1; exact .inr ⟨11, _, rfl, rfl, n11⟩
          · left; simp only [vtD, if_neg z0, if_neg z1]
    | 2, ho =>
      obtain rfl := Option.some.inj ho
      exact wp_q rfl rfl (by simp [execOp, go_sem]; try rfl) ⟨x, HF.out.put (by kernel_rfl) rfl rfl rfl (of_decide_eq_true rfl), HW.out.q hjl (by decide)⟩
    | 3, ho =>
      obtain rfl := Option.some.inj ho
      have e33 : fr.tmps[33]?.getD undef = .agg #[.int .u64 0] := HF.out.ev (i := 2) rfl rfl (HE.out ⟨2, .data⟩ (by simp) rfl)
      have n11 : listed.getD 11 false = false := not_yet (j := 11) HC.out hl0 rfl ⟨3, .data⟩ (by simp) rfl rfl
      have n12 : listed.getD 12 false = false := not_yet (j := 12) HC.out n11 rfl ⟨11, .data⟩ (by simp) rfl rfl
      have hsw := HF.out.swapD (vt' := vtD ic pc (.slice (some ⟨b, o, none⟩) 1 cap) x.1 wr.heap.size x.2.2.1 x.2.2.2.1 x.2.2.2.2) (by kernel_rfl) (fun d => ?_)
      · exact wp_q rfl rfl (by simp [execOp, go_sem, e33]; first | done | rfl | exact ⟨rfl, rfl⟩) ⟨(x.1, wr.heap.size, x.2.2.1, x.2.2.2.1, x.2.2.2.2), hsw.put (by kernel_rfl) rfl rfl rfl (of_decide_eq_true rfl), HW.out.mkA hjl (by decide) n12 ((Below.refl _ _).alloc (Nat.le_refl _) (.cells #[.int .u64 0] 137)) ⟨rfl, rfl⟩⟩
      · by_cases z0 : d = 34
        · subst z0; exact .inr ⟨3, _, rfl, rfl, hl0⟩
        · by_cases z1 : d = 42
          · subst z1; exact .inr ⟨11, _, rfl, rfl, n11⟩
          · left; simp only [vtD, if_neg z0, if_neg z1]
    | 4, ho =>
      obtain rfl := Option.some.inj ho
      have e10 : fr.tmps[10]?.getD undef = ptr ic := HF.out.base 10 (by kernel_rfl) rfl
      exact wp_q rfl rfl (by simp [execOp, go_sem, e10]; try rfl) ⟨x, HF.out.put (by kernel_rfl) rfl rfl rfl (of_decide_eq_true rfl), HW.out.q hjl (by decide)⟩
    | 5, ho =>
      obtain rfl := Option.some.inj ho
      have e12 : fr.tmps[12]?.getD undef = ptr pc := HF.out.base 12 (by kernel_rfl) rfl
      exact wp_q rfl rfl (by simp [execOp, go_sem, e12]; try rfl) ⟨x, HF.out.put (by kernel_rfl) rfl rfl rfl (of_decide_eq_true rfl), HW.out.q hjl (by decide)⟩
    | 6, ho =>
      obtain rfl := Option.some.inj ho
      have e1 : fr.tmps[1]?.getD undef = .slice (some ⟨b, o, none⟩) 1 cap := HF.out.base 1 (by kernel_rfl) rfl
      exact wp_q rfl rfl (by simp [execOp, go_sem, e1]; try rfl) ⟨x, HF.out.put (by kernel_rfl) rfl rfl rfl (of_decide_eq_true rfl), HW.out.q hjl (by decide)⟩
    | 7, ho =>
      obtain rfl := Option.some.inj ho
      have e37 : fr.tmps[37]?.getD undef = .slice (some ⟨b, o, none⟩) 1 cap := HF.out.ev (i := 6) rfl rfl (HE.out ⟨6, .data⟩ (by simp) rfl)
      have n11 : listed.getD 11 false = false := not_yet (j := 11) HC.out hl0 rfl ⟨7, .data⟩ (by simp) rfl rfl
      have n12 : listed.getD 12 false = false := not_yet (j := 12) HC.out n11 rfl ⟨11, .data⟩ (by simp) rfl rfl
      have hLw := HLA.out.below HW.out.bel
      obtain ⟨i0, hi0, hz0, hs0, hb0⟩ := info_parts info_intG
      have e37' : Act.eval fr (.tmp 37) = .slice (some ⟨b, o, none⟩) 1 cap := by simp [Act.eval, e37]
      refine wpOp_step rfl fun K' hK => ?_
      refine step_append_blk _ (.const (.slice none 0 0)) (.tmp 37) 22 rfl 3 i0 _ 1 8 u_sintG hi0 hz0 hs0 hb0 rfl (by decide) (.slice none 0 0) 0 [] rfl (own_nil _ _ _) ⟨b, o, none⟩ 1 cap [.int .i64 (K 0)] e37' rfl ?_ (by intro v hv; simp at hv; subst hv; rfl) (by decide) (by decide) rfl ?_
      · intro j v hv
        match j, hv with
        | 0, hv =>
          simp at hv
          subst hv
          have := hLw.cell 0 (by decide)
          simpa [Addr.add] using this
      intro v' w9 hown hgrow hblk
      have hsw := HF.out.swapD (vt' := vtD ic pc (.slice (some ⟨b, o, none⟩) 1 cap) x.1 x.2.1 v' x.2.2.2.1 x.2.2.2.2) (by kernel_rfl) (fun d => ?_)
      · exact hK _ _ ⟨(x.1, x.2.1, v', x.2.2.2.1, x.2.2.2.2), hsw.put (by kernel_rfl) rfl rfl rfl (of_decide_eq_true rfl), HW.out.mkU hjl n12 ((Below.refl _ _).grown hgrow (Nat.le_refl _) (fun k q => by have q' : (none : Option Nat) = some k := q; cases q')) (own_formB hown) rfl⟩
      · by_cases z0 : d = 38
        · subst z0; exact .inr ⟨7, _, rfl, rfl, hl0⟩
        · by_cases z1 : d = 42
          · subst z1; exact .inr ⟨11, _, rfl, rfl, n11⟩
          · left; simp only [vtD, if_neg z0, if_neg z1]
    | 8, ho =>
      obtain rfl := Option.some.inj ho
      have e1 : fr.tmps[1]?.getD undef = .slice (some ⟨b, o, none⟩) 1 cap := HF.out.base 1 (by kernel_rfl) rfl
      exact wp_q rfl rfl (by simp [execOp, go_sem, e1]; try rfl) ⟨x, HF.out.put (by kernel_rfl) rfl rfl rfl (of_decide_eq_true rfl), HW.out.q hjl (by decide)⟩
    | 9, ho =>
      obtain rfl := Option.some.inj ho
      have e39 : fr.tmps[39]?.getD undef = .slice (some ⟨b, o, none⟩) 1 cap := HF.out.ev (i := 8) rfl rfl (HE.out ⟨8, .data⟩ (by simp) rfl)
      exact wp_q rfl rfl (by simp [execOp, go_sem, e39]; try rfl) ⟨x, HF.out.put (by kernel_rfl) rfl rfl rfl (of_decide_eq_true rfl), HW.out.q hjl (by decide)⟩
    | 10, ho =>
      obtain rfl := Option.some.inj ho
      have e40 : fr.tmps[40]?.getD undef = .int .i64 1 := HF.out.ev (i := 9) rfl rfl (HE.out ⟨9, .data⟩ (by simp) rfl)
      have n11 : listed.getD 11 false = false := not_yet (j := 11) HC.out hl0 rfl ⟨10, .data⟩ (by simp) rfl rfl
      have n12 : listed.getD 12 false = false := not_yet (j := 12) HC.out n11 rfl ⟨11, .data⟩ (by simp) rfl rfl
      have hsw := HF.out.swapD (vt' := vtD ic pc (.slice (some ⟨b, o, none⟩) 1 cap) x.1 x.2.1 x.2.2.1 wr.heap.size x.2.2.2.2) (by kernel_rfl) (fun d => ?_)
      · exact wp_q rfl rfl (by simp [execOp, go_sem, e40, HMK.out]; first | done | rfl | exact ⟨rfl, rfl⟩) ⟨(x.1, x.2.1, x.2.2.1, wr.heap.size, x.2.2.2.2), hsw.put (by kernel_rfl) rfl rfl rfl (of_decide_eq_true rfl), HW.out.mkS hjl n12 rfl rfl⟩
      · by_cases z0 : d = 41
        · subst z0; exact .inr ⟨10, _, rfl, rfl, hl0⟩
        · by_cases z1 : d = 42
          · subst z1; exact .inr ⟨11, _, rfl, rfl, n11⟩
          · left; simp only [vtD, if_neg z0, if_neg z1]
    | 11, ho =>
      obtain rfl := Option.some.inj ho
      have e32 : fr.tmps[32]?.getD undef = ptr x.1 := HF.out.ev (i := 1) rfl rfl (HE.out ⟨1, .data⟩ (by simp) rfl)
      have e34 : fr.tmps[34]?.getD undef = ptr x.2.1 := HF.out.ev (i := 3) rfl rfl (HE.out ⟨3, .data⟩ (by simp) rfl)
      have e35 : fr.tmps[35]?.getD undef = ptr ic := HF.out.ev (i := 4) rfl rfl (HE.out ⟨4, .data⟩ (by simp) rfl)
      have e36 : fr.tmps[36]?.getD undef = ptr pc := HF.out.ev (i := 5) rfl rfl (HE.out ⟨5, .data⟩ (by simp) rfl)
      have e38 : fr.tmps[38]?.getD undef = x.2.2.1 := HF.out.ev (i := 7) rfl rfl (HE.out ⟨7, .data⟩ (by simp) rfl)
      have e41 : fr.tmps[41]?.getD undef = .slice (some ⟨x.2.2.2.1, 0, none⟩) 1 1 := HF.out.ev (i := 10) rfl rfl (HE.out ⟨10, .data⟩ (by simp) rfl)
      have h7 := HE.out ⟨7, .data⟩ (by simp) rfl
      obtain ⟨ua, uc, hu⟩ := HW.out.u h7
      refine wp_q rfl rfl (v := .agg #[ptr x.1, ptr x.2.1, ptr ic, ptr pc, x.2.2.1, .slice (some ⟨x.2.2.2.1, 0, none⟩) 1 1, .pointer none, .int .i64 (-1)]) (w' := wr) ?_ ⟨x, HF.out.put (by kernel_rfl) rfl rfl rfl (of_decide_eq_true rfl), HW.out.q hjl (by decide)⟩
      rw [hu] at e38 ⊢
      simp [execOp, go_sem, e32, e34, e35, e36, e38, e41]
      first | done | rfl | exact ⟨rfl, rfl⟩
    | 12, ho =>
      obtain rfl := Option.some.inj ho
      have e42 : fr.tmps[42]?.getD undef = .agg #[ptr x.1, ptr x.2.1, ptr ic, ptr pc, x.2.2.1, .slice (some ⟨x.2.2.2.1, 0, none⟩) 1 1, .pointer none, .int .i64 (-1)] := HF.out.ev (i := 11) rfl rfl (HE.out ⟨11, .data⟩ (by simp) rfl)
      have n13 : listed.getD 13 false = false := not_yet (j := 13) HC.out hl0 rfl ⟨12, .data⟩ (by simp) rfl rfl
      have h11 := HE.out ⟨11, .data⟩ (by simp) rfl
      have h10 := HC.out 11 _ rfl h11 ⟨10, .data⟩ (by simp) rfl
      have hsw := HF.out.swapD (vt' := vtD ic pc (.slice (some ⟨b, o, none⟩) 1 cap) x.1 x.2.1 x.2.2.1 x.2.2.2.1 wr.heap.size) (by kernel_rfl) (fun d => ?_)
      · exact wp_q rfl rfl (by simp [execOp, go_sem, e42]; first | done | rfl | exact ⟨rfl, rfl⟩) ⟨(x.1, x.2.1, x.2.2.1, x.2.2.2.1, wr.heap.size), hsw.put (by kernel_rfl) rfl rfl rfl (of_decide_eq_true rfl), HW.out.mkP hjl h10 rfl⟩
      · by_cases z0 : d = 43
        · subst z0; exact .inr ⟨12, _, rfl, rfl, hl0⟩
        · by_cases z1 : d = 14
          · subst z1; exact .inr ⟨13, _, rfl, rfl, n13⟩
          · left; simp only [vtD, if_neg z0, if_neg z1]
    | 13, ho =>
      obtain rfl := Option.some.inj ho
      have e43 : fr.tmps[43]?.getD undef = ptr x.2.2.2.2 := HF.out.ev (i := 12) rfl rfl (HE.out ⟨12, .data⟩ (by simp) rfl)
      exact wp_q rfl rfl (by simp [execOp, go_sem, e43]; try rfl) ⟨x, HF.out.put (by kernel_rfl) rfl rfl rfl (of_decide_eq_true rfl), HW.out.q hjl (by decide)⟩
  case fin =>
    rintro listed fr w2 x hF hW hr
    have all := allDone hr hF.q.ls (by kernel_rfl)
    obtain ⟨hbel, hsb, hpb, hls, hlp⟩ : Below wa.heap.size wa w2 ∧ w2.heap[x.2.2.2.1]? = some (.cells #[.pointer none] 141 (0, 0)) ∧ w2.heap[x.2.2.2.2]? = some (.cells (b16 x.1 x.2.1 ic pc x.2.2.1 x.2.2.2.1) 140 (0, 0)) ∧ wa.heap.size ≤ x.2.2.2.1 ∧ wa.heap.size ≤ x.2.2.2.2 := ⟨hW.bel, (hW.s (all _ (by decide))).1, (hW.p (all _ (by decide))).1, (hW.s (all _ (by decide))).2, (hW.p (all _ (by decide))).2⟩
    rw [hF.full all]
    obtain ⟨xa, xb, xu, s, p⟩ := x
    have HB4 : Hid (Below w.heap.size w w2) := hid (HB3.out.trans (hbel.mono HB3.out.size))
    have HSB := hid (show w2.heap[s]? = some (.cells #[.pointer none] 141 (0, 0)) from hsb)
    have HPB := hid (show w2.heap[p]? = some (.cells (b16 xa xb ic pc xu s) 140 (0, 0)) from hpb)
    have HSW : Hid (w.heap.size ≤ s) := hid (Nat.le_trans HB3.out.size hls)
    clear hF hr all hW hbel hsb hpb hls hlp HV0 HMK HLA
    simp only [List.foldl_cons, List.foldl_nil, fillF]
    go_simp
    go_wp2_with fail
    go_loopw [15] (fun i wr => (i = .int .i64 0 ∧ wr = w2) ∨ (i = .int .i64 1 ∧ Hid (Below w.heap.size w wr))) (fun i _ => 1 - (intOf i).toNat)
    case atStart => exact .inl ⟨rfl, rfl⟩
    case round =>
      rcases hrel with ⟨rfl, rfl⟩ | ⟨rfl, hB⟩
      · have HLA := hid (HLs.out.below HB4.out)
        have cK : wr.cell? ⟨b, o, none⟩ = some (.int .i64 2) := by
          have := HLA.out.cell 0 (by decide)
          rw [HKK.out] at this
          simpa using this
        go_upto_region 15 with fail
        obtain ⟨wb, hwb⟩ : ∃ wb, wb = wr.drew := ⟨_, rfl⟩
        have HB5 : Hid (Below w.heap.size w wb) := by rw [hwb]; exact HB4.out.drew
        have hsp : p ≠ s := fun z => by
          have h1 := HSB.out
          have h2 := HPB.out
          rw [z, h1] at h2
          simp at h2
        have HF5 : Hid (wb.cell? ⟨p, 5, none⟩ = some (.slice (some ⟨s, 0, none⟩) 1 1) ∧ p < wb.heap.size ∧ wb.cell? ⟨b, o, none⟩ = some (.int .i64 2) ∧ b < wb.heap.size ∧ b ≠ s ∧ s < wb.heap.size ∧ p ≠ s ∧ wb.heap[s]? = some (.cells #[.pointer none] 141 (0, 0))) := by
          have l1 := lt_of_block HPB.out
          have l2 := lt_of_block HSB.out
          have l3 := HBL.out
          have l4 := HB4.out.size
          have l5 := HSW.out
          rw [hwb]
          exact ⟨cell_of_row wr p 5 _ _ _ HPB.out, l1, cK, show b < wr.heap.size by omega, by omega, l2, hsp, HSB.out⟩
        have HLD : Hid (∀ (x : Nat) (listed : Array Bool) w8, VS [10, 15] (M15 wb s) x listed w8 → w8.cell? ⟨p, 5, none⟩ = some (.slice (some ⟨s, 0, none⟩) 1 1) ∧ w8.cell? ⟨b, o, none⟩ = some (.int .i64 2)) := by
          rintro x listed w8 ⟨t, -, hm⟩
          exact ⟨hm.cell HF5.out.2.1 hsp HF5.out.1, hm.cell HF5.out.2.2.2.1 HF5.out.2.2.2.2.1 HF5.out.2.2.1⟩
        have HND := hid (r14_New2 wb g gcap dl (own_only HD.out (T := fun _ => False) (.ofBelow HB5.out) (fun _ _ z => z)) HD0.out HDL.out.1 HDL.out.2)
        refine wp_region_any (by kernel_rfl) ?_
        rw [show ({ wr with drawn := wr.drawn + 1 } : World) = wb from hwb.symm]
        clear hwb cK hsp HLA
        refine wpAny_fz (α := Nat) (fun x => vtE p s b o (.slice (some ⟨b, o, none⟩) 1 cap) (.slice (some ⟨g, 0, none⟩) dl.length gcap) x) (fun x listed w8 => VS [10, 15] (M15 wb s) x listed w8) ?step ?fin 0 ?start
        case start => exact .start rfl
        case step =>
          rintro listed fr wr2 x hF hW hC i hj
          obtain ⟨hl, o, ho, he⟩ := mem_ready.1 hj
          have hjl : i < listed.size := by rw [hF.q.ls]; exact (Array.getElem?_eq_some_iff.1 ho).1
          have hl0 := getD_tf hjl hl
          clear hj
          have HF := hid hF
          have HW := hid hW
          have HE := hid he
          have HC := hid hC
          clear hF hW he hl hC
          match i, ho with
          | 0, ho =>
            obtain rfl := Option.some.inj ho
            have e14 : fr.tmps[14]?.getD undef = ptr p := HF.out.base 14 (by kernel_rfl) rfl
            exact wp_q rfl rfl (by simp [execOp, go_sem, e14]; try rfl) ⟨x, HF.out.put (by kernel_rfl) rfl rfl rfl (of_decide_eq_true rfl), HW.out.q hjl (by decide)⟩
          | 1, ho =>
            obtain rfl := Option.some.inj ho
            have e81 : fr.tmps[81]?.getD undef = ptr p := HF.out.ev (i := 0) rfl rfl (HE.out ⟨0, .data⟩ (by simp) rfl)
            exact wp_q rfl rfl (by simp [execOp, go_sem, e81]; try rfl) ⟨x, HF.out.put (by kernel_rfl) rfl rfl rfl (of_decide_eq_true rfl), HW.out.q hjl (by decide)⟩
          | 2, ho =>
            obtain rfl := Option.some.inj ho
            have e82 : fr.tmps[82]?.getD undef = ptr p := HF.out.ev (i := 1) rfl rfl (HE.out ⟨1, .data⟩ (by simp) rfl)
            exact wp_q rfl rfl (by simp [execOp, go_sem, e82]; try rfl) ⟨x, HF.out.put (by kernel_rfl) rfl rfl rfl (of_decide_eq_true rfl), HW.out.q hjl (by decide)⟩
          | 3, ho =>
            obtain rfl := Option.some.inj ho
            have e83 : fr.tmps[83]?.getD undef = .pointer (some ⟨p, 5, none⟩) := HF.out.ev (i := 2) rfl rfl (HE.out ⟨2, .data⟩ (by simp) rfl)
            obtain ⟨l1, l2⟩ := HLD.out _ _ _ HW.out
            exact wp_q rfl rfl (by simp [execOp, go_sem, e83, l1]; try rfl) ⟨x, HF.out.put (by kernel_rfl) rfl rfl rfl (of_decide_eq_true rfl), HW.out.q hjl (by decide)⟩
          | 4, ho =>
            obtain rfl := Option.some.inj ho
            have e15 : fr.tmps[15]?.getD undef = .int .i64 0 := HF.out.base 15 (by kernel_rfl) rfl
            exact wp_q rfl rfl (by simp [execOp, go_sem, e15]; try rfl) ⟨x, HF.out.put (by kernel_rfl) rfl rfl rfl (of_decide_eq_true rfl), HW.out.q hjl (by decide)⟩
          | 5, ho =>
            obtain rfl := Option.some.inj ho
            have e1 : fr.tmps[1]?.getD undef = .slice (some ⟨b, o, none⟩) 1 cap := HF.out.base 1 (by kernel_rfl) rfl
            exact wp_q rfl rfl (by simp [execOp, go_sem, e1]; try rfl) ⟨x, HF.out.put (by kernel_rfl) rfl rfl rfl (of_decide_eq_true rfl), HW.out.q hjl (by decide)⟩
          | 6, ho =>
            obtain rfl := Option.some.inj ho
            have e15 : fr.tmps[15]?.getD undef = .int .i64 0 := HF.out.base 15 (by kernel_rfl) rfl
            exact wp_q rfl rfl (by simp [execOp, go_sem, e15]; try rfl) ⟨x, HF.out.put (by kernel_rfl) rfl rfl rfl (of_decide_eq_true rfl), HW.out.q hjl (by decide)⟩
          | 7, ho =>
            obtain rfl := Option.some.inj ho
            have e86 : fr.tmps[86]?.getD undef = .slice (some ⟨b, o, none⟩) 1 cap := HF.out.ev (i := 5) rfl rfl (HE.out ⟨5, .data⟩ (by simp) rfl)
            have e87 : fr.tmps[87]?.getD undef = .int .i64 0 := HF.out.ev (i := 6) rfl rfl (HE.out ⟨6, .data⟩ (by simp) rfl)
            exact wp_q rfl rfl (by simp [execOp, go_sem, e86, e87]; try rfl) ⟨x, HF.out.put (by kernel_rfl) rfl rfl rfl (of_decide_eq_true rfl), HW.out.q hjl (by decide)⟩
          | 8, ho =>
            obtain rfl := Option.some.inj ho
            have e88 : fr.tmps[88]?.getD undef = .pointer (some ⟨b, o, none⟩) := HF.out.ev (i := 7) rfl rfl (HE.out ⟨7, .data⟩ (by simp) rfl)
            obtain ⟨l1, l2⟩ := HLD.out _ _ _ HW.out
            exact wp_q rfl rfl (by simp [execOp, go_sem, e88, l2]; try rfl) ⟨x, HF.out.put (by kernel_rfl) rfl rfl rfl (of_decide_eq_true rfl), HW.out.q hjl (by decide)⟩
          | 9, ho =>
            obtain rfl := Option.some.inj ho
            have e2 : fr.tmps[2]?.getD undef = .slice (some ⟨g, 0, none⟩) dl.length gcap := HF.out.base 2 (by kernel_rfl) rfl
            exact wp_q rfl rfl (by simp [execOp, go_sem, e2]; try rfl) ⟨x, HF.out.put (by kernel_rfl) rfl rfl rfl (of_decide_eq_true rfl), HW.out.q hjl (by decide)⟩
          | 10, ho =>
            obtain rfl := Option.some.inj ho
            have e89 : fr.tmps[89]?.getD undef = .int .i64 2 := HF.out.ev (i := 8) rfl rfl (HE.out ⟨8, .data⟩ (by simp) rfl)
            have e90 : fr.tmps[90]?.getD undef = .slice (some ⟨g, 0, none⟩) dl.length gcap := HF.out.ev (i := 9) rfl rfl (HE.out ⟨9, .data⟩ (by simp) rfl)
            have m0 : wr2 = wb := HW.out.at 0 rfl hl0 (fun j hj => by omega)
            subst m0
            have n11 : listed.getD 11 false = false := not_yet (j := 11) HC.out hl0 rfl ⟨10, .data⟩ (by simp) rfl rfl
            have n12 : listed.getD 12 false = false := not_yet (j := 12) HC.out n11 rfl ⟨11, .data⟩ (by simp) rfl rfl
            refine wp_g2 rfl rfl _ _ _ _ rfl (.int .i64 2) (.slice (some ⟨g, 0, none⟩) dl.length gcap) (by simp [Act.eval, e89]) (by simp [Act.eval, e90]) (Tryz.call38 _ _) HND.out ?_
            rintro e' w7 ⟨d, rfl, q1⟩
            have hsw := HF.out.swapD (vt' := vtE p s b o (.slice (some ⟨b, o, none⟩) 1 cap) (.slice (some ⟨g, 0, none⟩) dl.length gcap) d) (by kernel_rfl) (fun d => ?_)
            · exact ⟨_, rfl, d, hsw.put (by kernel_rfl) rfl rfl rfl (of_decide_eq_true rfl), HW.out.go 0 hjl rfl hl0 (fun j hj => by omega) (by intro a ha; match a, ha with | 0, _ => rfl | 1, ha => simp at ha) q1⟩
            · by_cases z0 : d = 91
              · subst z0; exact .inr ⟨10, _, rfl, rfl, hl0⟩
              · by_cases z1 : d = 80
                · subst z1; exact .inr ⟨11, _, rfl, rfl, n11⟩
                · by_cases z2 : d = 92
                  · subst z2; exact .inr ⟨12, _, rfl, rfl, n12⟩
                  · left; simp only [vtE, if_neg z0, if_neg z1, if_neg z2]
          | 11, ho =>
            obtain rfl := Option.some.inj ho
            have e91 : fr.tmps[91]?.getD undef = .tuple #[ptr x, .int .i64 0] := HF.out.ev (i := 10) rfl rfl (HE.out ⟨10, .data⟩ (by simp) rfl)
            exact wp_q rfl rfl (by simp [execOp, go_sem, e91]; try rfl) ⟨x, HF.out.put (by kernel_rfl) rfl rfl rfl (of_decide_eq_true rfl), HW.out.q hjl (by decide)⟩
          | 12, ho =>
            obtain rfl := Option.some.inj ho
            have e80 : fr.tmps[80]?.getD undef = .tuple #[ptr x, .int .i64 0] := HF.out.ev (i := 11) rfl rfl (HE.out ⟨11, .data⟩ (by simp) rfl)
            exact wp_q rfl rfl (by simp [execOp, go_sem, e80]; try rfl) ⟨x, HF.out.put (by kernel_rfl) rfl rfl rfl (of_decide_eq_true rfl), HW.out.q hjl (by decide)⟩
          | 13, ho =>
            obtain rfl := Option.some.inj ho
            have e80 : fr.tmps[80]?.getD undef = .tuple #[ptr x, .int .i64 0] := HF.out.ev (i := 11) rfl rfl (HE.out ⟨11, .data⟩ (by simp) rfl)
            exact wp_q rfl rfl (by simp [execOp, go_sem, e80]; try rfl) ⟨x, HF.out.put (by kernel_rfl) rfl rfl rfl (of_decide_eq_true rfl), HW.out.q hjl (by decide)⟩
          | 14, ho =>
            obtain rfl := Option.some.inj ho
            have e84 : fr.tmps[84]?.getD undef = .slice (some ⟨s, 0, none⟩) 1 1 := HF.out.ev (i := 3) rfl rfl (HE.out ⟨3, .data⟩ (by simp) rfl)
            have e85 : fr.tmps[85]?.getD undef = .int .i64 0 := HF.out.ev (i := 4) rfl rfl (HE.out ⟨4, .data⟩ (by simp) rfl)
            exact wp_q rfl rfl (by simp [execOp, go_sem, e84, e85]; try rfl) ⟨x, HF.out.put (by kernel_rfl) rfl rfl rfl (of_decide_eq_true rfl), HW.out.q hjl (by decide)⟩
          | 15, ho =>
            obtain rfl := Option.some.inj ho
            have e94 : fr.tmps[94]?.getD undef = .pointer (some ⟨s, 0, none⟩) := HF.out.ev (i := 14) rfl rfl (HE.out ⟨14, .data⟩ (by simp) rfl)
            have e92 : fr.tmps[92]?.getD undef = ptr x := HF.out.ev (i := 12) rfl rfl (HE.out ⟨12, .data⟩ (by simp) rfl)
            have hp := HE.out ⟨10, .chain⟩ (by simp) rfl
            have m0 : Below wb.heap.size wb wr2 := HW.out.at 1 rfl hl0 (fun j hj => by obtain rfl : j = 0 := (by omega); exact ⟨10, rfl, hp⟩)
            obtain ⟨f1, f2, f3, f4, f5, f6, f7, f8⟩ := HF5.out
            have tb := (m0.block _ f6).trans f8
            have c5 : wr2.cell? ⟨s, 0, none⟩ = some (.pointer none) := cell_of_row wr2 s 0 _ _ _ tb
            have z5 : wr2.frozen? ⟨s, 0, none⟩ = false := frozen_of_row _ _ 0 _ _ tb
            exact wp_s rfl rfl (by simp [execOp, go_sem, e94, e92, c5, z5]; try rfl) ⟨x, HF.out.skip rfl rfl _, HW.out.go 1 hjl rfl hl0 (fun j hj => by obtain rfl : j = 0 := (by omega); exact ⟨10, rfl, hp⟩) (by intro a ha; match a, ha with | 0, ha => simp at ha | 1, _ => rfl) ⟨wr2, m0, rfl⟩⟩
        case fin =>
          rintro listed fr w2 x hF hW hr
          have all := allDoneB hr hF.q.ls (by kernel_rfl)
          obtain ⟨w8, q1, q2⟩ := hW.end 1 rfl (all _ (by decide)) (fun t ht q => by match t, ht with | t + 2, _ => exact q)
          have hb : Below w.heap.size w w2 := by
            rw [q2]
            have := HB5.out.trans (q1.mono HB5.out.size)
            exact this.setCell HSW.out _
          rw [hF.full all]
          have HB := hid hb
          clear hF hr all hW hb HLD HND HF5 q1 q2
          simp only [List.foldl_cons, List.foldl_nil, fillF]
          go_simp
          go_wp2_with fail
          go_roundw
          case rel => exact .inr ⟨rfl, HB⟩
          case measure => simp [intOf]
      · go_wp2_with fail
        go_returns
        exact ⟨p, rfl, hB.out⟩
end Go.Proofs.YtjkihlpckgaggaaGreat
namespace Go.Proofs.YtjkihlpckgaggaaGreat
open Go.RowKit
open C (Only hid Still ret_bool ret_int row)
open P (Ls)
set_option linter.unusedVariables false
set_option maxRecDepth 100000

theorem Bo.base {W W1 w : World} {X : BX} (h : Bo W1 w X) (hb : Below W.heap.size W W1) : Bo W w X := by
  obtain ⟨c, h⟩ := h
  have hs := hb.size
  obtain ⟨Fu, u1, u2⟩ := h.u
  obtain ⟨Fi, i1, i2⟩ := h.i
  obtain ⟨Fb, b1, b2⟩ := h.b
  obtain ⟨z1, z2, z3, z4⟩ := h.w0
  exact ⟨c, hb.trans (h.bel.mono hs), h.top, h.sp, h.pr, h.pl, ⟨Fu, u1, fun k hk => ⟨(u2 k hk).1, Nat.le_trans hs (u2 k hk).2⟩⟩, ⟨Fi, i1, fun k hk => ⟨(i2 k hk).1, Nat.le_trans hs (i2 k hk).2⟩⟩, ⟨Fb, b1, fun k hk => ⟨(b2 k hk).1, Nat.le_trans hs (b2 k hk).2⟩⟩, h.vok,
    fun j hj => ⟨(h.d j hj).1, (h.d j hj).2.1, Nat.le_trans hs (h.d j hj).2.2⟩, h.n8, h.c0, ⟨Nat.le_trans hs z1, Nat.le_trans hs z2, Nat.le_trans hs z3, Nat.le_trans hs z4⟩, h.ee, h.k.1, h.k.2.1, Nat.le_trans hs h.k.2.2⟩
/-- what lies beside the board turns -/
theorem Bo.side {W W1 w w' : World} {X : BX} (h : Bo W1 w X) (hb : Below W.heap.size W W1) {T : Nat → Prop} (ho : Only T w w') (hT : ∀ k, T k → W.heap.size ≤ k ∧ k < W1.heap.size) (hC : CellsOnly w T) (hE : ∀ k o, X.E k = some o → ¬ T k) : Bo W w' X := by
  obtain ⟨c, h⟩ := h
  have hs := hb.size
  obtain ⟨Fu, u1, u2⟩ := h.u
  obtain ⟨Fi, i1, i2⟩ := h.i
  obtain ⟨Fb, b1, b2⟩ := h.b
  obtain ⟨z1, z2, z3, z4⟩ := h.w0
  have ne : ∀ k, W1.heap.size ≤ k → ¬ T k := fun k q t => by have := (hT k t).2; omega
  have hbb := hb.trans (h.bel.mono hs)
  refine ⟨c, hbb.trans (ho.below _ hbb.size fun k hk => (hT k hk).1), ho.old h.top (ne _ z1), ho.old h.sp (ne _ z2), own_only h.pr ho (fun k hk => ?_), ho.old h.pl (ne _ z4), ⟨Fu, u1.only ho (fun k hk => ne _ (u2 k hk).2), fun k hk => ⟨(u2 k hk).1, Nat.le_trans hs (u2 k hk).2⟩⟩, ⟨Fi, i1.only ho (fun k hk => ne _ (i2 k hk).2), fun k hk => ⟨(i2 k hk).1, Nat.le_trans hs (i2 k hk).2⟩⟩, ⟨Fb, b1.only ho (fun k hk => ne _ (b2 k hk).2), fun k hk => ⟨(b2 k hk).1, Nat.le_trans hs (b2 k hk).2⟩⟩, h.vok,
    fun j hj => ⟨(h.d j hj).1.only ho (ne _ (h.d j hj).2.2) hC, (h.d j hj).2.1, Nat.le_trans hs (h.d j hj).2.2⟩, h.n8, h.c0, ⟨Nat.le_trans hs z1, Nat.le_trans hs z2, Nat.le_trans hs z3, Nat.le_trans hs z4⟩, fun k o hk => by obtain ⟨e1, e2, e3⟩ := h.ee k o hk; exact ⟨ho.old e1 (hE k o hk), e2, Nat.lt_of_lt_of_le e3 ho.size⟩, by obtain ⟨⟨hv, e⟩, k2, k3⟩ := h.k; exact ⟨⟨hv, ho.old e (ne _ k3)⟩, k2, Nat.le_trans hs k3⟩⟩
  obtain rfl : X.g = k := by simpa [Ug, Value.ownBlock] using hk
  exact ne _ z3
theorem g_Flat (w : World) (m : Nat) : Calls Tryz.prog 21 #[ptr m] w fun r w' => ∃ e, r = .returned (ptr e) ∧ Below w.heap.size w w' := by
  go_enter Tryz.func21, Tryz.ntmps21
  go_wp2
  go_ret
  exact ⟨w.heap.size, rfl, (Below.refl _ _).alloc (Nat.le_refl _) _⟩
theorem cl_nilG (w : World) : C.Cl w none 0 0 0 0 (fun _ => (0, 0)) := ⟨Nat.le_refl _, by decide, fun q => absurd q (by decide), fun i hi => absurd hi (Nat.not_lt_zero i), fun i hi => absurd hi (Nat.not_lt_zero i)⟩
/-- the law's own blocks: the memories, the result -/
structure TR (rp tb p q : Nat) (w : World) : Prop where
  t : w.heap[tb]? = some (.cells #[ptr p, ptr q] 33 (0, 0))
  r : w.heap[rp]? = some (.cells #[.pointer none, .pointer none, .pointer none, .pointer none] 35 (0, 0))
theorem TR.below {rp tb p q : Nat} {w w' : World} (h : TR rp tb p q w) (hb : Below w.heap.size w w') : TR rp tb p q w' := ⟨(hb.block _ (lt_of_block h.t)).trans h.t, (hb.block _ (lt_of_block h.r)).trans h.r⟩
theorem TR.cs {rp tb p q : Nat} {w : World} (h : TR rp tb p q w) : w.cell? ⟨tb, 0, none⟩ = some (ptr p) ∧ w.cell? ⟨tb, 1, none⟩ = some (ptr q) ∧ w.cell? ⟨rp, 0, none⟩ = some (.pointer none) ∧ w.cell? ⟨rp, 1, none⟩ = some (.pointer none) ∧ w.cell? ⟨rp, 2, none⟩ = some (.pointer none) ∧ w.cell? ⟨rp, 3, none⟩ = some (.pointer none) :=
  ⟨cell_of_row w tb 0 _ _ _ h.t, cell_of_row w tb 1 _ _ _ h.t, cell_of_row w rp 0 _ _ _ h.r, cell_of_row w rp 1 _ _ _ h.r, cell_of_row w rp 2 _ _ _ h.r, cell_of_row w rp 3 _ _ _ h.r⟩
theorem ls_own {w : World} {bs : Nat} {va : Option Addr} {vc : Nat} {k : Int} (h : w.ownsRow bs 3 1 (.slice va 1 vc) 1 [.int .i64 k]) (k0 : -9223372036854775808 ≤ k) (k1 : k ≤ 9223372036854775807) : ∃ g, va = some ⟨g, 0, none⟩ ∧ Ls w va 1 vc g 0 (fun _ => k) := by
  have h2 := h.2
  rcases h2 with ⟨z, e⟩ | ⟨g, cap, cur, hv, hb, hg, e1, e2, e3, e4⟩
  · cases z
  · cases hv
    refine ⟨g, rfl, ⟨e1, by simpa [maxLen] using e2, fun _ => ⟨rfl, lt_of_block hg⟩, fun j hj => ?_, fun j hj => ⟨k0, k1⟩⟩⟩
    obtain rfl : j = 0 := by omega
    rw [h.cellAt 0 (by omega)]
    rfl
theorem row_dl (dl : List Int) : row (fun j => dl.getD j 0) 0 dl.length = bys dl := by
  unfold C.row bys
  apply List.ext_getElem?
  intro i
  by_cases h : i < dl.length
  · simp [h]
  · simp [h]
theorem own_0 {w : World} {bs : Nat} {e : TypeId} {z : Nat} {u : Value} {n : Nat} {xs : List Value} (h : w.ownsRow bs e z u n xs) : w.ownsRow 0 e z u n xs := by
  refine ⟨h.1, ?_⟩
  rcases h.2 with q | ⟨g, cap, cur, hv, hb, h3⟩
  · exact .inl q
  · exact .inr ⟨g, cap, cur, hv, Nat.zero_le _, h3⟩
theorem g_copy (w : World) (g gcap : Nat) (dl : List Int) (hd : w.ownsRow 0 5 1 (.slice (some ⟨g, 0, none⟩) dl.length gcap) dl.length (bys dl)) (h0 : 0 < dl.length) (hl : dl.length ≤ 32768) : Calls Tryz.prog 8 #[.slice (some ⟨g, 0, none⟩) dl.length gcap] w fun r w' => ∃ u, r = .returned u ∧ w'.ownsRow 0 5 1 u dl.length (bys dl) ∧ Below w.heap.size w w' := by
  have hg : g < w.heap.size := L.own_lt hd g rfl
  refine (C.c_CopyBytes w (some ⟨g, 0, none⟩) dl.length gcap (fun j => dl.getD j 0) ⟨g, 0, none⟩ (by omega) (fun q => by cases q) fun _ => ⟨rfl, hg, fun j hj => ?_⟩).mono ?_
  · have := r_disk hd j (.int .u8 (dl.getD j 0)) (by unfold bys; rw [List.getElem?_map]; simp [List.getD, hj])
    exact this
  · rintro r w' ⟨u, rfl, k1, k2⟩
    rw [row_dl] at k1
    exact ⟨u, rfl, own_0 k1, k2⟩
theorem u_on16 : Tryz.prog.underlying 35 = some (.struct (Tryz.prog.fieldsOf 35)) := by kernel_rfl
theorem s_on16 : (Tryz.prog.info? 35).map (·.size) = some 4 := by kernel_rfl
theorem ret_on {fn : Func} {p u : Tmp} (hf : fn.results = #[.cell p 35, .tmp u]) {tmps : Array Value} {w : World} (g : Nat) (cs : Array Value) (h2 : cs.size = 4) (b : Bool) (hp : tmps.getD p undef = .pointer (some ⟨g, 0, none⟩)) (hb : tmps.getD u undef = .bool b) (hg : w.heap[g]? = some (.cells cs 35 (0, 0))) : (results fn tmps).run Tryz.prog w = .ok (.tuple #[.agg cs, .bool b]) w := by
  have hp' : tmps[p]?.getD undef = .pointer (some ⟨g, 0, none⟩) := by simpa using hp
  have hb' : tmps[u]?.getD undef = .bool b := by simpa using hb
  simp [results, hf, hp', hb', asAddr, run_loadVar_row w g 35 35 cs (0, 0) (.struct (Tryz.prog.fieldsOf 35)) hg u_on16 rfl (by rw [s_on16, h2])]
set_option maxHeartbeats 4000000 in
theorem l_New16 (w : World) (hh : Nat) (h1 : 1 ≤ hh) (h2 : hh ≤ 64) (b o cap : Nat) (K : Nat → Int) (hL : Ls w (some ⟨b, o, none⟩) 1 cap b o K) (hK : K 0 = 2) (g gcap : Nat) (dl : List Int) (hd : w.ownsRow 0 5 1 (.slice (some ⟨g, 0, none⟩) dl.length gcap) dl.length (bys dl)) (h0 : 0 < dl.length) (hl : dl.length ≤ 32768) (hm : dl.length % 512 = 0) :
    Calls Tryz.prog 11 #[.int .i64 hh, .slice (some ⟨b, o, none⟩) 1 cap, .slice (some ⟨g, 0, none⟩) dl.length gcap] w fun r w' => ∃ X u dk wp mp mq, r = .returned (.tuple #[.agg #[ptr X.bp, ptr wp, ptr mp, ptr mq], .bool true]) ∧ Bo w w' X ∧ X.n = 1 ∧ X.U = L.uv0 ∧ X.I = L.iv0 hh ∧ X.V 0 = P.sv0 2 ∧ X.dv 0 = nv 2 u dk ∧ X.E = (fun _ => none) := by
  have HLs := hid hL
  have HD := hid hd
  have HKK := hid hK
  have HDL := hid (show 0 < dl.length ∧ dl.length ≤ 32768 ∧ dl.length % 512 = 0 from ⟨h0, hl, hm⟩)
  have HMe := hid (C.c_MemoryB (w.alloc (.cells #[.pointer none, .pointer none, .pointer none, .pointer none] 35)) 2147483648 (by decide) (by decide) (by decide) 2 (by decide) (by decide) none 0 0 0 0 _ (cl_nilG _))
  have HHH := hid (show 1 ≤ hh ∧ hh ≤ 64 from ⟨h1, h2⟩)
  have lcap := hL.len
  have lcap2 := hL.cap
  obtain ⟨i0, hi0, hz0, hs0, hb0⟩ := info_parts info_intG
  clear hL hd hK h0 hl hm h1 h2
  go_enter Tryz.func11, Tryz.ntmps11
  have HA : Hid (Below w.heap.size w (w.alloc (.cells #[.pointer none, .pointer none, .pointer none, .pointer none] 35))) := hid ((Below.refl _ _).alloc (Nat.le_refl _) _)
  go_wp2_with (first
    | (go_at_call 20; refine HMe.out.mono ?_; rintro r w1 ⟨mp, mq, MU, rfl, -, q2, -⟩; have W1 : Hid (Below w.heap.size w (w1.alloc (.cells #[ptr mp, ptr mq] 33))) := hid ((HA.out.trans (q2.mono HA.out.size)).alloc (Nat.le_trans HA.out.size q2.size) _); have T1 : Hid (TR w.heap.size w1.heap.size mp mq (w1.alloc (.cells #[ptr mp, ptr mq] 33))) := hid ⟨heap_alloc_new _ _, (heap_alloc_old _ _ (lt_of_block ((q2.block _ (by simp)).trans (heap_alloc_new w _)))).trans ((q2.block _ (by simp)).trans (heap_alloc_new w _))⟩; have c0 := T1.out.cs; obtain ⟨c0, c1, c2, c3, c4, c5⟩ := c0; clear q2)
    | (go_at_call 21; refine (g_Flat _ mp).mono ?_; rintro r w2 ⟨e, rfl, q⟩; have W2 : Hid (Below w.heap.size w w2) := hid (W1.out.trans (q.mono W1.out.size)); have T2 := hid (T1.out.below q); clear q)
    | (at_builtin; refine wpList_append_own _ rfl _ _ 22 rfl w2.heap.size 3 i0 (.int .i64 0) 1 8 u_sintG hi0 hz0 hs0 hb0 rfl (by decide) _ 0 [] rfl (World.ownsRow_nil _ _ _ _) ⟨b, o, none⟩ 1 cap [.int .i64 2] rfl rfl (by intro j u hj; match j, hj with | 0, hj => (simp at hj; subst hj; have := (HLs.out.below W2.out).cell 0 (by decide); rw [HKK.out] at this; simpa [Addr.add] using this)) (by intro u hu; simp at hu; subst hu; rfl) (by decide) (by decide) (Nat.le_refl _) ?_; intro v' w3 hown hgrow _; obtain ⟨va, vc, rfl⟩ := own_formB hown; obtain ⟨g3, rfl, hls⟩ := ls_own hown (by decide) (by decide); have q : Below w2.heap.size w2 w3 := (Below.refl _ _).grown hgrow (Nat.le_refl _) (fun k q => by have q' : (none : Option Nat) = some k := q; cases q'); have L3 := hid hls; have W3 : Hid (Below w.heap.size w w3) := hid (W2.out.trans (q.mono W2.out.size)); have T3 := hid (T2.out.below q); clear hown hgrow hls q)
    | (go_at_call 8; refine (g_copy w3 g gcap dl (own_only HD.out (T := fun _ => False) (.ofBelow W3.out) (fun _ _ z => z)) HDL.out.1 HDL.out.2.1).mono ?_; rintro r w4 ⟨u, rfl, q1, q2⟩; obtain ⟨uad, ucp, rfl⟩ := own_form q1; have U4 := hid q1; have L4 := hid (L3.out.below q2); have W4 : Hid (Below w.heap.size w w4) := hid (W3.out.trans (q2.mono W3.out.size)); have T4 := hid (T3.out.below q2); clear q1 q2)
    | (go_at_call 22; refine (g_New1 w4 hh HHH.out.1 HHH.out.2 _ vc g3 0 (fun _ => 2) L4.out 2 rfl (fun _ => P.sok0 2 (by decide) (by decide)) (.inr (.inl rfl)) _ _ dl U4.out HDL.out.2.1 HDL.out.2.2 (.inl rfl)).mono ?_; rintro r w5 ⟨X, ud, dk, rfl, q1, q2, q3, q4, q5, q6, q7⟩; have X5 := hid q1; have Q7 := hid q7; have Q2 := hid q2; have Q3 := hid q3; have Q4 := hid q4; have Q5 := hid q5; have Q6 := hid q6; have W5 : Hid (Below w.heap.size w w5) := hid (W4.out.trans (q1.bel.mono W4.out.size)); have T5 := hid (T4.out.below q1.bel); obtain ⟨d0, d1, d2, d3, d4, d5⟩ := T5.out.cs; clear q1 q2 q3 q4 q5 q6 q7)
    | (go_at_call 23; refine (r16_New _ hh HHH.out.1 HHH.out.2 _ cap b o K (HLs.out.below (W5.out.alloc W5.out.size _)) HKK.out g gcap dl (own_only HD.out (T := fun _ => False) (.ofBelow (W5.out.alloc W5.out.size _)) (fun _ _ z => z)) HDL.out.1 HDL.out.2.1 HDL.out.2.2 _).mono ?_; rintro r w7 ⟨wp, rfl, q⟩; have q7 := ((Below.refl w5.heap.size w5).alloc (Nat.le_refl _) _).trans (q.mono (by simp)); have T7 := hid (T5.out.below q7); have X7 := hid (X5.out.below q7); obtain ⟨f0, f1, f2, f3, f4, f5⟩ := T7.out.cs; have fz : ∀ k, w7.frozen? ⟨w.heap.size, k, none⟩ = false := fun k => frozen_of_row _ _ k _ _ T7.out.r; clear q q7))
  have r1 := setRowB w7 w.heap.size 0 _ #[ptr X.bp, .pointer none, .pointer none, .pointer none] _ (ptr X.bp) T7.out.r rfl
  have r2 := setRowB _ w.heap.size 1 _ #[ptr X.bp, ptr wp, .pointer none, .pointer none] _ (ptr wp) r1 rfl
  have r3 := setRowB _ w.heap.size 2 _ #[ptr X.bp, ptr wp, ptr mp, .pointer none] _ (ptr mp) r2 rfl
  have r4 := setRowB _ w.heap.size 3 _ #[ptr X.bp, ptr wp, ptr mp, ptr mq] _ (ptr mq) r3 rfl
  refine bodyPost_ret (ret_on Tryz.results11 w.heap.size #[ptr X.bp, ptr wp, ptr mp, ptr mq] rfl true rfl rfl r4) rfl ⟨X, ud, dk, wp, mp, mq, rfl, ?_, Q2.out, Q3.out, Q4.out, by rw [Q5.out], Q6.out, Q7.out⟩
  have ho := (((only_c w7 w.heap.size 0 (ptr X.bp)).trans (only_c _ w.heap.size 1 (ptr wp))).trans (only_c _ w.heap.size 2 (ptr mp))).trans (only_c _ w.heap.size 3 (ptr mq))
  have l4 := lt_of_block T4.out.r
  exact X7.out.side W4.out ho (fun k hk => by subst hk; exact ⟨Nat.le_refl _, l4⟩) (fun k hk => by subst hk; exact ⟨_, _, _, T7.out.r, by decide⟩) (fun k o hk => by rw [Q7.out] at hk; cases hk)
end Go.Proofs.YtjkihlpckgaggaaGreat
namespace Go.Proofs.YtjkihlpckgaggaaGreat
open Go.RowKit
open C (Only hid Still ret_bool ret_int row)
open P (Ls)
set_option linter.unusedVariables false
set_option maxRecDepth 100000

def vtF (p s b o : Nat) (kd : Int) (devs : Value) (d : Nat) : Nat → Value := fun dd => if dd = 55 then ptr p else if dd = 56 then ptr p else if dd = 57 then .pointer (some ⟨p, 5, none⟩) else if dd = 58 then .slice (some ⟨s, 0, none⟩) 1 1 else if dd = 59 then .int .i64 0 else if dd = 60 then devs else if dd = 61 then .int .i64 0 else if dd = 62 then .pointer (some ⟨b, o, none⟩) else if dd = 63 then .int .i64 kd else if dd = 64 then .tuple #[ptr d, .int .i64 0] else if dd = 54 then .tuple #[ptr d, .int .i64 0] else if dd = 65 then ptr d else if dd = 66 then .int .i64 0 else if dd = 67 then .pointer (some ⟨s, 0, none⟩) else undef
set_option maxHeartbeats 4000000 in
theorem r16_New3 (w : World) (hh : Nat) (h1 : 1 ≤ hh) (h2 : hh ≤ 64) (ad : Option Addr) (cap b o : Nat) (K : Nat → Int) (hL : Ls w ad 1 cap b o K) (kd : Int) (hK : K 0 = kd) (hk : kd = 1 ∨ kd = 3) (en : Value) :
    Calls Tryz.prog 23 #[.int .i64 hh, .slice ad 1 cap, .slice none 0 0, en] w fun r w' => ∃ p, r = .returned (.tuple #[ptr p, .int .i64 0]) ∧ Below w.heap.size w w' := by
  have hr := r_Right w (hh : Int) (by omega) (by omega) ad 1 cap b o K hL none 0 0 (by decide)
  rw [rgt_1 hh h1 h2 K kd hK (by omega) 0 (by decide) (by decide) (.inr rfl)] at hr
  have HR := hid hr
  have HI := hid (fun w8 => r_NewIntc w8 hh h1 h2)
  have hkj : ∀ j, j < 1 → 0 ≤ K j ∧ K j ≤ 255 := fun j hj => by
    obtain rfl : j = 0 := by omega
    rw [hK]; omega
  have HP := hid (fun w8 (q : Ls w8 ad 1 cap b o K) => P.d_New w8 ad 1 cap b o K q (by decide) hkj)
  have HLs := hid hL
  have HKK := hid hK
  have HKD := hid hk
  obtain ⟨rfl, hbl⟩ := hL.at0 (by decide)
  have HBL := hid hbl
  have lcap := hL.len
  have lcap2 := hL.cap
  clear hr hL hkj hbl hk
  go_enter Tryz.func23, Tryz.ntmps23
  go_upto_region 5 with (first
    | (go_at_call 9; refine HR.out.mono ?_; rintro r w0 ⟨rfl, q⟩; obtain rfl := q.symm)
    | (go_at_call 36; refine (HI.out w).mono ?_; rintro r w1 ⟨ic, rfl, q⟩; have B1 := hid q; clear q)
    | (go_at_call 37; refine (HP.out w1 (HLs.out.below B1.out)).mono ?_; rintro r w2 ⟨rfl, u2, q1, q2, q3⟩; have B2 := hid q2; clear q1 q2 q3))
  obtain ⟨pc, hpc⟩ : ∃ pc, pc = w1.heap.size := ⟨_, rfl⟩
  rw [← hpc]
  clear hpc
  obtain ⟨wa, hwa⟩ : ∃ wa, wa = w2.drew := ⟨_, rfl⟩
  have HB3 : Hid (Below w.heap.size w wa) := by
    have b12 : Below w.heap.size w w2 := B1.out.trans (B2.out.mono B1.out.size)
    rw [hwa]; exact b12.drew
  have HLA := hid (HLs.out.below HB3.out)
  have HMK := hid (fun w8 => mk_devs w8)
  have HV0 : Hid (V16 wa ic pc (0, 0, .slice none 0 0, 0, 0) (Array.replicate 14 false) wa) := ⟨Below.refl _ _, fun q => by simp at q, fun q => by simp at q, fun q => by simp at q⟩
  refine wp_region_any (by kernel_rfl) ?_
  rw [show ({ w2 with drawn := w2.drawn + 1 } : World) = wa from hwa.symm]
  clear hwa B1 B2
  refine wpAny_fz (α := A16) (fun x => vtD ic pc (.slice (some ⟨b, o, none⟩) 1 cap) x.1 x.2.1 x.2.2.1 x.2.2.2.1 x.2.2.2.2) (fun x listed w8 => V16 wa ic pc x listed w8) ?step ?fin (0, 0, .slice none 0 0, 0, 0) ?start
  case start => exact HV0.out
  case step =>
    rintro listed fr wr x hF hW hC i hj
    obtain ⟨hl, o, ho, he⟩ := mem_ready.1 hj
    have hjl : i < listed.size := by rw [hF.q.ls]; exact (Array.getElem?_eq_some_iff.1 ho).1
    have hl0 := getD_tf hjl hl
    clear hj
    have HF := hid hF
    have HW := hid hW
    have HE := hid he
    have HC := hid hC
    clear hF hW he hl hC
    match i, ho with
    | 0, ho =>
      obtain rfl := Option.some.inj ho
      exact wp_q rfl rfl (by simp [execOp, go_sem]; try rfl) ⟨x, HF.out.put (by kernel_rfl) rfl rfl rfl (of_decide_eq_true rfl), HW.out.q hjl (by decide)⟩
    | 1, ho =>
      obtain rfl := Option.some.inj ho
      have e31 : fr.tmps[31]?.getD undef = zUv := HF.out.ev (i := 0) rfl rfl (HE.out ⟨0, .data⟩ (by simp) rfl)
      have n11 : listed.getD 11 false = false := not_yet (j := 11) HC.out hl0 rfl ⟨1, .data⟩ (by simp) rfl rfl
      have n12 : listed.getD 12 false = false := not_yet (j := 12) HC.out n11 rfl ⟨11, .data⟩ (by simp) rfl rfl
      have hsw := HF.out.swapD (vt' := vtD ic pc (.slice (some ⟨b, o, none⟩) 1 cap) wr.heap.size x.2.1 x.2.2.1 x.2.2.2.1 x.2.2.2.2) (by kernel_rfl) (fun d => ?_)
      · exact wp_q rfl rfl (by simp [execOp, go_sem, e31, zUv]; first | done | rfl | exact ⟨rfl, rfl⟩) ⟨(wr.heap.size, x.2.1, x.2.2.1, x.2.2.2.1, x.2.2.2.2), hsw.put (by kernel_rfl) rfl rfl rfl (of_decide_eq_true rfl), HW.out.mkA hjl (by decide) n12 ((Below.refl _ _).alloc (Nat.le_refl _) (.cells #[.slice none 0 0, .slice none 0 0, .int .u8 0, .int .u8 0, .int .u8 0, .int .u8 0, .int .u8 0, .int .u8 0, .int .u8 0, .bool false, .bool false] 134)) ⟨rfl, rfl⟩⟩
      · by_cases z0 : d = 32
        · subst z0; exact .inr ⟨1, _, rfl, rfl, hl0⟩
        · by_cases z1 : d = 42
          · subst z1; exact .inr ⟨11, _, rfl, rfl, n11⟩
          · left; simp only [vtD, if_neg z0, if_neg z1]
    | 2, ho =>
      obtain rfl := Option.some.inj ho
      exact wp_q rfl rfl (by simp [execOp, go_sem]; try rfl) ⟨x, HF.out.put (by kernel_rfl) rfl rfl rfl (of_decide_eq_true rfl), HW.out.q hjl (by decide)⟩
    | 3, ho =>
      obtain rfl := Option.some.inj ho
      have e33 : fr.tmps[33]?.getD undef = .agg #[.int .u64 0] := HF.out.ev (i := 2) rfl rfl (HE.out ⟨2, .data⟩ (by simp) rfl)
      have n11 : listed.getD 11 false = false := not_yet (j := 11) HC.out hl0 rfl ⟨3, .data⟩ (by simp) rfl rfl
      have n12 : listed.getD 12 false = false := not_yet (j := 12) HC.out n11 rfl ⟨11, .data⟩ (by simp) rfl rfl
      have hsw := HF.out.swapD (vt' := vtD ic pc (.slice (some ⟨b, o, none⟩) 1 cap) x.1 wr.heap.size x.2.2.1 x.2.2.2.1 x.2.2.2.2) (by kernel_rfl) (fun d => ?_)
      · exact wp_q rfl rfl (by simp [execOp, go_sem, e33]; first | done | rfl | exact ⟨rfl, rfl⟩) ⟨(x.1, wr.heap.size, x.2.2.1, x.2.2.2.1, x.2.2.2.2), hsw.put (by kernel_rfl) rfl rfl rfl (of_decide_eq_true rfl), HW.out.mkA hjl (by decide) n12 ((Below.refl _ _).alloc (Nat.le_refl _) (.cells #[.int .u64 0] 137)) ⟨rfl, rfl⟩⟩
      · by_cases z0 : d = 34
        · subst z0; exact .inr ⟨3, _, rfl, rfl, hl0⟩
        · by_cases z1 : d = 42
          · subst z1; exact .inr ⟨11, _, rfl, rfl, n11⟩
          · left; simp only [vtD, if_neg z0, if_neg z1]
    | 4, ho =>
      obtain rfl := Option.some.inj ho
      have e10 : fr.tmps[10]?.getD undef = ptr ic := HF.out.base 10 (by kernel_rfl) rfl
      exact wp_q rfl rfl (by simp [execOp, go_sem, e10]; try rfl) ⟨x, HF.out.put (by kernel_rfl) rfl rfl rfl (of_decide_eq_true rfl), HW.out.q hjl (by decide)⟩
    | 5, ho =>
      obtain rfl := Option.some.inj ho
      have e12 : fr.tmps[12]?.getD undef = ptr pc := HF.out.base 12 (by kernel_rfl) rfl
      exact wp_q rfl rfl (by simp [execOp, go_sem, e12]; try rfl) ⟨x, HF.out.put (by kernel_rfl) rfl rfl rfl (of_decide_eq_true rfl), HW.out.q hjl (by decide)⟩
    | 6, ho =>
      obtain rfl := Option.some.inj ho
      have e1 : fr.tmps[1]?.getD undef = .slice (some ⟨b, o, none⟩) 1 cap := HF.out.base 1 (by kernel_rfl) rfl
      exact wp_q rfl rfl (by simp [execOp, go_sem, e1]; try rfl) ⟨x, HF.out.put (by kernel_rfl) rfl rfl rfl (of_decide_eq_true rfl), HW.out.q hjl (by decide)⟩
    | 7, ho =>
      obtain rfl := Option.some.inj ho
      have e37 : fr.tmps[37]?.getD undef = .slice (some ⟨b, o, none⟩) 1 cap := HF.out.ev (i := 6) rfl rfl (HE.out ⟨6, .data⟩ (by simp) rfl)
      have n11 : listed.getD 11 false = false := not_yet (j := 11) HC.out hl0 rfl ⟨7, .data⟩ (by simp) rfl rfl
      have n12 : listed.getD 12 false = false := not_yet (j := 12) HC.out n11 rfl ⟨11, .data⟩ (by simp) rfl rfl
      have hLw := HLA.out.below HW.out.bel
      obtain ⟨i0, hi0, hz0, hs0, hb0⟩ := info_parts info_intG
      have e37' : Act.eval fr (.tmp 37) = .slice (some ⟨b, o, none⟩) 1 cap := by simp [Act.eval, e37]
      refine wpOp_step rfl fun K' hK => ?_
      refine step_append_blk _ (.const (.slice none 0 0)) (.tmp 37) 22 rfl 3 i0 _ 1 8 u_sintG hi0 hz0 hs0 hb0 rfl (by decide) (.slice none 0 0) 0 [] rfl (own_nil _ _ _) ⟨b, o, none⟩ 1 cap [.int .i64 (K 0)] e37' rfl ?_ (by intro v hv; simp at hv; subst hv; rfl) (by decide) (by decide) rfl ?_
      · intro j v hv
        match j, hv with
        | 0, hv =>
          simp at hv
          subst hv
          have := hLw.cell 0 (by decide)
          simpa [Addr.add] using this
      intro v' w9 hown hgrow hblk
      have hsw := HF.out.swapD (vt' := vtD ic pc (.slice (some ⟨b, o, none⟩) 1 cap) x.1 x.2.1 v' x.2.2.2.1 x.2.2.2.2) (by kernel_rfl) (fun d => ?_)
      · exact hK _ _ ⟨(x.1, x.2.1, v', x.2.2.2.1, x.2.2.2.2), hsw.put (by kernel_rfl) rfl rfl rfl (of_decide_eq_true rfl), HW.out.mkU hjl n12 ((Below.refl _ _).grown hgrow (Nat.le_refl _) (fun k q => by have q' : (none : Option Nat) = some k := q; cases q')) (own_formB hown) rfl⟩
      · by_cases z0 : d = 38
        · subst z0; exact .inr ⟨7, _, rfl, rfl, hl0⟩
        · by_cases z1 : d = 42
          · subst z1; exact .inr ⟨11, _, rfl, rfl, n11⟩
          · left; simp only [vtD, if_neg z0, if_neg z1]
    | 8, ho =>
      obtain rfl := Option.some.inj ho
      have e1 : fr.tmps[1]?.getD undef = .slice (some ⟨b, o, none⟩) 1 cap := HF.out.base 1 (by kernel_rfl) rfl
      exact wp_q rfl rfl (by simp [execOp, go_sem, e1]; try rfl) ⟨x, HF.out.put (by kernel_rfl) rfl rfl rfl (of_decide_eq_true rfl), HW.out.q hjl (by decide)⟩
    | 9, ho =>
      obtain rfl := Option.some.inj ho
      have e39 : fr.tmps[39]?.getD undef = .slice (some ⟨b, o, none⟩) 1 cap := HF.out.ev (i := 8) rfl rfl (HE.out ⟨8, .data⟩ (by simp) rfl)
      exact wp_q rfl rfl (by simp [execOp, go_sem, e39]; try rfl) ⟨x, HF.out.put (by kernel_rfl) rfl rfl rfl (of_decide_eq_true rfl), HW.out.q hjl (by decide)⟩
    | 10, ho =>
      obtain rfl := Option.some.inj ho
      have e40 : fr.tmps[40]?.getD undef = .int .i64 1 := HF.out.ev (i := 9) rfl rfl (HE.out ⟨9, .data⟩ (by simp) rfl)
      have n11 : listed.getD 11 false = false := not_yet (j := 11) HC.out hl0 rfl ⟨10, .data⟩ (by simp) rfl rfl
      have n12 : listed.getD 12 false = false := not_yet (j := 12) HC.out n11 rfl ⟨11, .data⟩ (by simp) rfl rfl
      have hsw := HF.out.swapD (vt' := vtD ic pc (.slice (some ⟨b, o, none⟩) 1 cap) x.1 x.2.1 x.2.2.1 wr.heap.size x.2.2.2.2) (by kernel_rfl) (fun d => ?_)
      · exact wp_q rfl rfl (by simp [execOp, go_sem, e40, HMK.out]; first | done | rfl | exact ⟨rfl, rfl⟩) ⟨(x.1, x.2.1, x.2.2.1, wr.heap.size, x.2.2.2.2), hsw.put (by kernel_rfl) rfl rfl rfl (of_decide_eq_true rfl), HW.out.mkS hjl n12 rfl rfl⟩
      · by_cases z0 : d = 41
        · subst z0; exact .inr ⟨10, _, rfl, rfl, hl0⟩
        · by_cases z1 : d = 42
          · subst z1; exact .inr ⟨11, _, rfl, rfl, n11⟩
          · left; simp only [vtD, if_neg z0, if_neg z1]
    | 11, ho =>
      obtain rfl := Option.some.inj ho
      have e32 : fr.tmps[32]?.getD undef = ptr x.1 := HF.out.ev (i := 1) rfl rfl (HE.out ⟨1, .data⟩ (by simp) rfl)
      have e34 : fr.tmps[34]?.getD undef = ptr x.2.1 := HF.out.ev (i := 3) rfl rfl (HE.out ⟨3, .data⟩ (by simp) rfl)
      have e35 : fr.tmps[35]?.getD undef = ptr ic := HF.out.ev (i := 4) rfl rfl (HE.out ⟨4, .data⟩ (by simp) rfl)
      have e36 : fr.tmps[36]?.getD undef = ptr pc := HF.out.ev (i := 5) rfl rfl (HE.out ⟨5, .data⟩ (by simp) rfl)
      have e38 : fr.tmps[38]?.getD undef = x.2.2.1 := HF.out.ev (i := 7) rfl rfl (HE.out ⟨7, .data⟩ (by simp) rfl)
      have e41 : fr.tmps[41]?.getD undef = .slice (some ⟨x.2.2.2.1, 0, none⟩) 1 1 := HF.out.ev (i := 10) rfl rfl (HE.out ⟨10, .data⟩ (by simp) rfl)
      have h7 := HE.out ⟨7, .data⟩ (by simp) rfl
      obtain ⟨ua, uc, hu⟩ := HW.out.u h7
      refine wp_q rfl rfl (v := .agg #[ptr x.1, ptr x.2.1, ptr ic, ptr pc, x.2.2.1, .slice (some ⟨x.2.2.2.1, 0, none⟩) 1 1, .pointer none, .int .i64 (-1)]) (w' := wr) ?_ ⟨x, HF.out.put (by kernel_rfl) rfl rfl rfl (of_decide_eq_true rfl), HW.out.q hjl (by decide)⟩
      rw [hu] at e38 ⊢
      simp [execOp, go_sem, e32, e34, e35, e36, e38, e41]
      first | done | rfl | exact ⟨rfl, rfl⟩
    | 12, ho =>
      obtain rfl := Option.some.inj ho
      have e42 : fr.tmps[42]?.getD undef = .agg #[ptr x.1, ptr x.2.1, ptr ic, ptr pc, x.2.2.1, .slice (some ⟨x.2.2.2.1, 0, none⟩) 1 1, .pointer none, .int .i64 (-1)] := HF.out.ev (i := 11) rfl rfl (HE.out ⟨11, .data⟩ (by simp) rfl)
      have n13 : listed.getD 13 false = false := not_yet (j := 13) HC.out hl0 rfl ⟨12, .data⟩ (by simp) rfl rfl
      have h11 := HE.out ⟨11, .data⟩ (by simp) rfl
      have h10 := HC.out 11 _ rfl h11 ⟨10, .data⟩ (by simp) rfl
      have hsw := HF.out.swapD (vt' := vtD ic pc (.slice (some ⟨b, o, none⟩) 1 cap) x.1 x.2.1 x.2.2.1 x.2.2.2.1 wr.heap.size) (by kernel_rfl) (fun d => ?_)
      · exact wp_q rfl rfl (by simp [execOp, go_sem, e42]; first | done | rfl | exact ⟨rfl, rfl⟩) ⟨(x.1, x.2.1, x.2.2.1, x.2.2.2.1, wr.heap.size), hsw.put (by kernel_rfl) rfl rfl rfl (of_decide_eq_true rfl), HW.out.mkP hjl h10 rfl⟩
      · by_cases z0 : d = 43
        · subst z0; exact .inr ⟨12, _, rfl, rfl, hl0⟩
        · by_cases z1 : d = 14
          · subst z1; exact .inr ⟨13, _, rfl, rfl, n13⟩
          · left; simp only [vtD, if_neg z0, if_neg z1]
    | 13, ho =>
      obtain rfl := Option.some.inj ho
      have e43 : fr.tmps[43]?.getD undef = ptr x.2.2.2.2 := HF.out.ev (i := 12) rfl rfl (HE.out ⟨12, .data⟩ (by simp) rfl)
      exact wp_q rfl rfl (by simp [execOp, go_sem, e43]; try rfl) ⟨x, HF.out.put (by kernel_rfl) rfl rfl rfl (of_decide_eq_true rfl), HW.out.q hjl (by decide)⟩
  case fin =>
    rintro listed fr w2 x hF hW hr
    have all := allDone hr hF.q.ls (by kernel_rfl)
    obtain ⟨hbel, hsb, hpb, hls, hlp⟩ : Below wa.heap.size wa w2 ∧ w2.heap[x.2.2.2.1]? = some (.cells #[.pointer none] 141 (0, 0)) ∧ w2.heap[x.2.2.2.2]? = some (.cells (b16 x.1 x.2.1 ic pc x.2.2.1 x.2.2.2.1) 140 (0, 0)) ∧ wa.heap.size ≤ x.2.2.2.1 ∧ wa.heap.size ≤ x.2.2.2.2 := ⟨hW.bel, (hW.s (all _ (by decide))).1, (hW.p (all _ (by decide))).1, (hW.s (all _ (by decide))).2, (hW.p (all _ (by decide))).2⟩
    rw [hF.full all]
    obtain ⟨xa, xb, xu, s, p⟩ := x
    have HB4 : Hid (Below w.heap.size w w2) := hid (HB3.out.trans (hbel.mono HB3.out.size))
    have HSB := hid (show w2.heap[s]? = some (.cells #[.pointer none] 141 (0, 0)) from hsb)
    have HPB := hid (show w2.heap[p]? = some (.cells (b16 xa xb ic pc xu s) 140 (0, 0)) from hpb)
    have HSW : Hid (w.heap.size ≤ s) := hid (Nat.le_trans HB3.out.size hls)
    clear hF hr all hW hbel hsb hpb hls hlp HV0 HMK HLA
    simp only [List.foldl_cons, List.foldl_nil, fillF]
    go_simp
    go_wp2_with fail
    go_loopw [15] (fun i wr => (i = .int .i64 0 ∧ wr = w2) ∨ (i = .int .i64 1 ∧ Hid (Below w.heap.size w wr))) (fun i _ => 1 - (intOf i).toNat)
    case atStart => exact .inl ⟨rfl, rfl⟩
    case round =>
      rcases hrel with ⟨rfl, rfl⟩ | ⟨rfl, hB⟩
      · have HLA := hid (HLs.out.below HB4.out)
        have cK : wr.cell? ⟨b, o, none⟩ = some (.int .i64 kd) := by
          have := HLA.out.cell 0 (by decide)
          rw [HKK.out] at this
          simpa using this
        have n8 : ¬ kd = 8 := by have := HKD.out; omega
        have n2 : ¬ kd = 2 := by have := HKD.out; omega
        go_upto_region 10 with fail
        obtain ⟨wb, hwb⟩ : ∃ wb, wb = wr.drew := ⟨_, rfl⟩
        have HB5 : Hid (Below w.heap.size w wb) := by rw [hwb]; exact HB4.out.drew
        have hsp : p ≠ s := fun z => by
          have h1 := HSB.out
          have h2 := HPB.out
          rw [z, h1] at h2
          simp at h2
        have HF5 : Hid (wb.cell? ⟨p, 5, none⟩ = some (.slice (some ⟨s, 0, none⟩) 1 1) ∧ p < wb.heap.size ∧ wb.cell? ⟨b, o, none⟩ = some (.int .i64 kd) ∧ b < wb.heap.size ∧ b ≠ s ∧ s < wb.heap.size ∧ p ≠ s ∧ wb.heap[s]? = some (.cells #[.pointer none] 141 (0, 0))) := by
          have l1 := lt_of_block HPB.out
          have l2 := lt_of_block HSB.out
          have l3 := HBL.out
          have l4 := HB4.out.size
          have l5 := HSW.out
          rw [hwb]
          exact ⟨cell_of_row wr p 5 _ _ _ HPB.out, l1, cK, show b < wr.heap.size by omega, by omega, l2, hsp, HSB.out⟩
        have HLD : Hid (∀ (x : Nat) (listed : Array Bool) w8, VS [9, 14] (M15 wb s) x listed w8 → w8.cell? ⟨p, 5, none⟩ = some (.slice (some ⟨s, 0, none⟩) 1 1) ∧ w8.cell? ⟨b, o, none⟩ = some (.int .i64 kd)) := by
          rintro x listed w8 ⟨t, -, hm⟩
          exact ⟨hm.cell HF5.out.2.1 hsp HF5.out.1, hm.cell HF5.out.2.2.2.1 HF5.out.2.2.2.2.1 HF5.out.2.2.1⟩
        have HND := hid (d_New0 wb kd (by have := HKD.out; omega) (.bool false) (.bool false))
        refine wp_region_any (by kernel_rfl) ?_
        rw [show ({ wr with drawn := wr.drawn + 1 } : World) = wb from hwb.symm]
        clear hwb cK hsp HLA
        refine wpAny_fz (α := Nat) (fun x => vtF p s b o kd (.slice (some ⟨b, o, none⟩) 1 cap) x) (fun x listed w8 => VS [9, 14] (M15 wb s) x listed w8) ?step ?fin 0 ?start
        case start => exact .start rfl
        case step =>
          rintro listed fr wr2 x hF hW hC i hj
          obtain ⟨hl, o, ho, he⟩ := mem_ready.1 hj
          have hjl : i < listed.size := by rw [hF.q.ls]; exact (Array.getElem?_eq_some_iff.1 ho).1
          have hl0 := getD_tf hjl hl
          clear hj
          have HF := hid hF
          have HW := hid hW
          have HE := hid he
          have HC := hid hC
          clear hF hW he hl hC
          match i, ho with
          | 0, ho =>
            obtain rfl := Option.some.inj ho
            have e14 : fr.tmps[14]?.getD undef = ptr p := HF.out.base 14 (by kernel_rfl) rfl
            exact wp_q rfl rfl (by simp [execOp, go_sem, e14]; try rfl) ⟨x, HF.out.put (by kernel_rfl) rfl rfl rfl (of_decide_eq_true rfl), HW.out.q hjl (by decide)⟩
          | 1, ho =>
            obtain rfl := Option.some.inj ho
            have e55 : fr.tmps[55]?.getD undef = ptr p := HF.out.ev (i := 0) rfl rfl (HE.out ⟨0, .data⟩ (by simp) rfl)
            exact wp_q rfl rfl (by simp [execOp, go_sem, e55]; try rfl) ⟨x, HF.out.put (by kernel_rfl) rfl rfl rfl (of_decide_eq_true rfl), HW.out.q hjl (by decide)⟩
          | 2, ho =>
            obtain rfl := Option.some.inj ho
            have e56 : fr.tmps[56]?.getD undef = ptr p := HF.out.ev (i := 1) rfl rfl (HE.out ⟨1, .data⟩ (by simp) rfl)
            exact wp_q rfl rfl (by simp [execOp, go_sem, e56]; try rfl) ⟨x, HF.out.put (by kernel_rfl) rfl rfl rfl (of_decide_eq_true rfl), HW.out.q hjl (by decide)⟩
          | 3, ho =>
            obtain rfl := Option.some.inj ho
            have e57 : fr.tmps[57]?.getD undef = .pointer (some ⟨p, 5, none⟩) := HF.out.ev (i := 2) rfl rfl (HE.out ⟨2, .data⟩ (by simp) rfl)
            obtain ⟨l1, l2⟩ := HLD.out _ _ _ HW.out
            exact wp_q rfl rfl (by simp [execOp, go_sem, e57, l1]; try rfl) ⟨x, HF.out.put (by kernel_rfl) rfl rfl rfl (of_decide_eq_true rfl), HW.out.q hjl (by decide)⟩
          | 4, ho =>
            obtain rfl := Option.some.inj ho
            have e15 : fr.tmps[15]?.getD undef = .int .i64 0 := HF.out.base 15 (by kernel_rfl) rfl
            exact wp_q rfl rfl (by simp [execOp, go_sem, e15]; try rfl) ⟨x, HF.out.put (by kernel_rfl) rfl rfl rfl (of_decide_eq_true rfl), HW.out.q hjl (by decide)⟩
          | 5, ho =>
            obtain rfl := Option.some.inj ho
            have e1 : fr.tmps[1]?.getD undef = .slice (some ⟨b, o, none⟩) 1 cap := HF.out.base 1 (by kernel_rfl) rfl
            exact wp_q rfl rfl (by simp [execOp, go_sem, e1]; try rfl) ⟨x, HF.out.put (by kernel_rfl) rfl rfl rfl (of_decide_eq_true rfl), HW.out.q hjl (by decide)⟩
          | 6, ho =>
            obtain rfl := Option.some.inj ho
            have e15 : fr.tmps[15]?.getD undef = .int .i64 0 := HF.out.base 15 (by kernel_rfl) rfl
            exact wp_q rfl rfl (by simp [execOp, go_sem, e15]; try rfl) ⟨x, HF.out.put (by kernel_rfl) rfl rfl rfl (of_decide_eq_true rfl), HW.out.q hjl (by decide)⟩
          | 7, ho =>
            obtain rfl := Option.some.inj ho
            have e60 : fr.tmps[60]?.getD undef = .slice (some ⟨b, o, none⟩) 1 cap := HF.out.ev (i := 5) rfl rfl (HE.out ⟨5, .data⟩ (by simp) rfl)
            have e61 : fr.tmps[61]?.getD undef = .int .i64 0 := HF.out.ev (i := 6) rfl rfl (HE.out ⟨6, .data⟩ (by simp) rfl)
            exact wp_q rfl rfl (by simp [execOp, go_sem, e60, e61]; try rfl) ⟨x, HF.out.put (by kernel_rfl) rfl rfl rfl (of_decide_eq_true rfl), HW.out.q hjl (by decide)⟩
          | 8, ho =>
            obtain rfl := Option.some.inj ho
            have e62 : fr.tmps[62]?.getD undef = .pointer (some ⟨b, o, none⟩) := HF.out.ev (i := 7) rfl rfl (HE.out ⟨7, .data⟩ (by simp) rfl)
            obtain ⟨l1, l2⟩ := HLD.out _ _ _ HW.out
            exact wp_q rfl rfl (by simp [execOp, go_sem, e62, l2]; try rfl) ⟨x, HF.out.put (by kernel_rfl) rfl rfl rfl (of_decide_eq_true rfl), HW.out.q hjl (by decide)⟩
          | 9, ho =>
            obtain rfl := Option.some.inj ho
            have e63 : fr.tmps[63]?.getD undef = .int .i64 kd := HF.out.ev (i := 8) rfl rfl (HE.out ⟨8, .data⟩ (by simp) rfl)
            have m0 : wr2 = wb := HW.out.at 0 rfl hl0 (fun j hj => by omega)
            subst m0
            have n10 : listed.getD 10 false = false := not_yet (j := 10) HC.out hl0 rfl ⟨9, .data⟩ (by simp) rfl rfl
            have n11 : listed.getD 11 false = false := not_yet (j := 11) HC.out n10 rfl ⟨10, .data⟩ (by simp) rfl rfl
            refine wp_g2 rfl rfl _ _ _ _ rfl (.int .i64 kd) (.slice none 0 0) (by simp [Act.eval, e63]) rfl (Tryz.call38 _ _) HND.out ?_
            rintro e' w7 ⟨d, ra9, dk9, rfl, -, q1, -⟩
            have hsw := HF.out.swapD (vt' := vtF p s b o kd (.slice (some ⟨b, o, none⟩) 1 cap) d) (by kernel_rfl) (fun d => ?_)
            · exact ⟨_, rfl, d, hsw.put (by kernel_rfl) rfl rfl rfl (of_decide_eq_true rfl), HW.out.go 0 hjl rfl hl0 (fun j hj => by omega) (by intro a ha; match a, ha with | 0, _ => rfl | 1, ha => simp at ha) q1.bel⟩
            · by_cases z0 : d = 64
              · subst z0; exact .inr ⟨9, _, rfl, rfl, hl0⟩
              · by_cases z1 : d = 54
                · subst z1; exact .inr ⟨10, _, rfl, rfl, n10⟩
                · by_cases z2 : d = 65
                  · subst z2; exact .inr ⟨11, _, rfl, rfl, n11⟩
                  · left; simp only [vtF, if_neg z0, if_neg z1, if_neg z2]
          | 10, ho =>
            obtain rfl := Option.some.inj ho
            have e64 : fr.tmps[64]?.getD undef = .tuple #[ptr x, .int .i64 0] := HF.out.ev (i := 9) rfl rfl (HE.out ⟨9, .data⟩ (by simp) rfl)
            exact wp_q rfl rfl (by simp [execOp, go_sem, e64]; try rfl) ⟨x, HF.out.put (by kernel_rfl) rfl rfl rfl (of_decide_eq_true rfl), HW.out.q hjl (by decide)⟩
          | 11, ho =>
            obtain rfl := Option.some.inj ho
            have e54 : fr.tmps[54]?.getD undef = .tuple #[ptr x, .int .i64 0] := HF.out.ev (i := 10) rfl rfl (HE.out ⟨10, .data⟩ (by simp) rfl)
            exact wp_q rfl rfl (by simp [execOp, go_sem, e54]; try rfl) ⟨x, HF.out.put (by kernel_rfl) rfl rfl rfl (of_decide_eq_true rfl), HW.out.q hjl (by decide)⟩
          | 12, ho =>
            obtain rfl := Option.some.inj ho
            have e54 : fr.tmps[54]?.getD undef = .tuple #[ptr x, .int .i64 0] := HF.out.ev (i := 10) rfl rfl (HE.out ⟨10, .data⟩ (by simp) rfl)
            exact wp_q rfl rfl (by simp [execOp, go_sem, e54]; try rfl) ⟨x, HF.out.put (by kernel_rfl) rfl rfl rfl (of_decide_eq_true rfl), HW.out.q hjl (by decide)⟩
          | 13, ho =>
            obtain rfl := Option.some.inj ho
            have e58 : fr.tmps[58]?.getD undef = .slice (some ⟨s, 0, none⟩) 1 1 := HF.out.ev (i := 3) rfl rfl (HE.out ⟨3, .data⟩ (by simp) rfl)
            have e59 : fr.tmps[59]?.getD undef = .int .i64 0 := HF.out.ev (i := 4) rfl rfl (HE.out ⟨4, .data⟩ (by simp) rfl)
            exact wp_q rfl rfl (by simp [execOp, go_sem, e58, e59]; try rfl) ⟨x, HF.out.put (by kernel_rfl) rfl rfl rfl (of_decide_eq_true rfl), HW.out.q hjl (by decide)⟩
          | 14, ho =>
            obtain rfl := Option.some.inj ho
            have e67 : fr.tmps[67]?.getD undef = .pointer (some ⟨s, 0, none⟩) := HF.out.ev (i := 13) rfl rfl (HE.out ⟨13, .data⟩ (by simp) rfl)
            have e65 : fr.tmps[65]?.getD undef = ptr x := HF.out.ev (i := 11) rfl rfl (HE.out ⟨11, .data⟩ (by simp) rfl)
            have hp := HE.out ⟨9, .chain⟩ (by simp) rfl
            have m0 : Below wb.heap.size wb wr2 := HW.out.at 1 rfl hl0 (fun j hj => by obtain rfl : j = 0 := (by omega); exact ⟨9, rfl, hp⟩)
            obtain ⟨f1, f2, f3, f4, f5, f6, f7, f8⟩ := HF5.out
            have tb := (m0.block _ f6).trans f8
            have c5 : wr2.cell? ⟨s, 0, none⟩ = some (.pointer none) := cell_of_row wr2 s 0 _ _ _ tb
            have z5 : wr2.frozen? ⟨s, 0, none⟩ = false := frozen_of_row _ _ 0 _ _ tb
            exact wp_s rfl rfl (by simp [execOp, go_sem, e67, e65, c5, z5]; try rfl) ⟨x, HF.out.skip rfl rfl _, HW.out.go 1 hjl rfl hl0 (fun j hj => by obtain rfl : j = 0 := (by omega); exact ⟨9, rfl, hp⟩) (by intro a ha; match a, ha with | 0, ha => simp at ha | 1, _ => rfl) ⟨wr2, m0, rfl⟩⟩
        case fin =>
          rintro listed fr w2 x hF hW hr
          have all := allDoneB hr hF.q.ls (by kernel_rfl)
          obtain ⟨w8, q1, q2⟩ := hW.end 1 rfl (all _ (by decide)) (fun t ht q => by match t, ht with | t + 2, _ => exact q)
          have hb : Below w.heap.size w w2 := by
            rw [q2]
            have := HB5.out.trans (q1.mono HB5.out.size)
            exact this.setCell HSW.out _
          rw [hF.full all]
          have HB := hid hb
          clear hF hr all hW hb HLD HND HF5 q1 q2
          simp only [List.foldl_cons, List.foldl_nil, fillF]
          go_simp
          go_wp2_with fail
          go_roundw
          case rel => exact .inr ⟨rfl, HB⟩
          case measure => simp [intOf]
      · go_wp2_with fail
        go_returns
        exact ⟨p, rfl, hB.out⟩
end Go.Proofs.YtjkihlpckgaggaaGreat
namespace Go.Proofs.YtjkihlpckgaggaaGreat
open Go.RowKit
open C (Only hid Still ret_bool ret_int row)
open P (Ls)
set_option linter.unusedVariables false
set_option maxRecDepth 100000

theorem g_copy0 (w : World) : Calls Tryz.prog 8 #[.slice none 0 0] w fun r w' => ∃ u, r = .returned u ∧ w'.ownsRow 0 5 1 u ([] : List Int).length (bys []) ∧ Below w.heap.size w w' := by
  refine (C.c_CopyBytes w none 0 0 (fun _ => 0) ⟨0, 0, none⟩ (by decide) (fun _ => ⟨rfl, rfl⟩) (fun q => absurd q (by decide))).mono ?_
  rintro r w' ⟨u, rfl, k1, k2⟩
  exact ⟨u, rfl, own_0 k1, k2⟩
set_option maxHeartbeats 4000000 in
theorem l_New16c (w : World) (hh : Nat) (h1 : 1 ≤ hh) (h2 : hh ≤ 64) (b o cap : Nat) (K : Nat → Int) (hL : Ls w (some ⟨b, o, none⟩) 1 cap b o K) (kd : Int) (hK : K 0 = kd) (hk : kd = 1 ∨ kd = 3) :
    Calls Tryz.prog 11 #[.int .i64 hh, .slice (some ⟨b, o, none⟩) 1 cap, .slice none 0 0] w fun r w' => ∃ X u dk wp mp mq, r = .returned (.tuple #[.agg #[ptr X.bp, ptr wp, ptr mp, ptr mq], .bool true]) ∧ Bo w w' X ∧ X.n = 1 ∧ X.U = L.uv0 ∧ X.I = L.iv0 hh ∧ X.V = (fun _ => P.sv0 kd) ∧ X.dv 0 = nv kd u dk ∧ X.E = (fun _ => none) := by
  have HLs := hid hL
  have HKK := hid hK
  have HKD := hid hk
  have HMe := hid (C.c_MemoryB (w.alloc (.cells #[.pointer none, .pointer none, .pointer none, .pointer none] 35)) 2147483648 (by decide) (by decide) (by decide) 2 (by decide) (by decide) none 0 0 0 0 _ (cl_nilG _))
  have HHH := hid (show 1 ≤ hh ∧ hh ≤ 64 from ⟨h1, h2⟩)
  have lcap := hL.len
  have lcap2 := hL.cap
  obtain ⟨i0, hi0, hz0, hs0, hb0⟩ := info_parts info_intG
  clear hL hK h1 h2 hk
  go_enter Tryz.func11, Tryz.ntmps11
  have HA : Hid (Below w.heap.size w (w.alloc (.cells #[.pointer none, .pointer none, .pointer none, .pointer none] 35))) := hid ((Below.refl _ _).alloc (Nat.le_refl _) _)
  go_wp2_with (first
    | (go_at_call 20; refine HMe.out.mono ?_; rintro r w1 ⟨mp, mq, MU, rfl, -, q2, -⟩; have W1 : Hid (Below w.heap.size w (w1.alloc (.cells #[ptr mp, ptr mq] 33))) := hid ((HA.out.trans (q2.mono HA.out.size)).alloc (Nat.le_trans HA.out.size q2.size) _); have T1 : Hid (TR w.heap.size w1.heap.size mp mq (w1.alloc (.cells #[ptr mp, ptr mq] 33))) := hid ⟨heap_alloc_new _ _, (heap_alloc_old _ _ (lt_of_block ((q2.block _ (by simp)).trans (heap_alloc_new w _)))).trans ((q2.block _ (by simp)).trans (heap_alloc_new w _))⟩; have c0 := T1.out.cs; obtain ⟨c0, c1, c2, c3, c4, c5⟩ := c0; clear q2)
    | (go_at_call 21; refine (g_Flat _ mp).mono ?_; rintro r w2 ⟨e, rfl, q⟩; have W2 : Hid (Below w.heap.size w w2) := hid (W1.out.trans (q.mono W1.out.size)); have T2 := hid (T1.out.below q); clear q)
    | (at_builtin; refine wpList_append_own _ rfl _ _ 22 rfl w2.heap.size 3 i0 (.int .i64 0) 1 8 u_sintG hi0 hz0 hs0 hb0 rfl (by decide) _ 0 [] rfl (World.ownsRow_nil _ _ _ _) ⟨b, o, none⟩ 1 cap [.int .i64 kd] rfl rfl (by intro j u hj; match j, hj with | 0, hj => (simp at hj; subst hj; have := (HLs.out.below W2.out).cell 0 (by decide); rw [HKK.out] at this; simpa [Addr.add] using this)) (by intro u hu; simp at hu; subst hu; rfl) (by decide) (by decide) (Nat.le_refl _) ?_; intro v' w3 hown hgrow _; obtain ⟨va, vc, rfl⟩ := own_formB hown; obtain ⟨g3, rfl, hls⟩ := ls_own hown (by have := HKD.out; omega) (by have := HKD.out; omega); have q : Below w2.heap.size w2 w3 := (Below.refl _ _).grown hgrow (Nat.le_refl _) (fun k q => by have q' : (none : Option Nat) = some k := q; cases q'); have L3 := hid hls; have W3 : Hid (Below w.heap.size w w3) := hid (W2.out.trans (q.mono W2.out.size)); have T3 := hid (T2.out.below q); clear hown hgrow hls q)
    | (go_at_call 8; refine (g_copy0 w3).mono ?_; rintro r w4 ⟨u, rfl, q1, q2⟩; obtain ⟨uad, ucp, rfl⟩ := own_form q1; have U4 := hid q1; have L4 := hid (L3.out.below q2); have W4 : Hid (Below w.heap.size w w4) := hid (W3.out.trans (q2.mono W3.out.size)); have T4 := hid (T3.out.below q2); clear q1 q2)
    | (go_at_call 22; refine (g_New1 w4 hh HHH.out.1 HHH.out.2 _ vc g3 0 (fun _ => kd) L4.out kd rfl (fun _ => P.sok0 kd (by have := HKD.out; omega) (by have := HKD.out; omega)) (by have := HKD.out; omega) _ _ [] U4.out (by decide) (by decide) (.inr rfl)).mono ?_; rintro r w5 ⟨X, ud, dk, rfl, q1, q2, q3, q4, q5, q6, q7⟩; have X5 := hid q1; have Q7 := hid q7; have Q2 := hid q2; have Q3 := hid q3; have Q4 := hid q4; have Q5 := hid q5; have Q6 := hid q6; have W5 : Hid (Below w.heap.size w w5) := hid (W4.out.trans (q1.bel.mono W4.out.size)); have T5 := hid (T4.out.below q1.bel); obtain ⟨d0, d1, d2, d3, d4, d5⟩ := T5.out.cs; clear q1 q2 q3 q4 q5 q6 q7)
    | (go_at_call 23; refine (r16_New3 _ hh HHH.out.1 HHH.out.2 _ cap b o K (HLs.out.below (W5.out.alloc W5.out.size _)) kd HKK.out HKD.out _).mono ?_; rintro r w7 ⟨wp, rfl, q⟩; have q7 := ((Below.refl w5.heap.size w5).alloc (Nat.le_refl _) _).trans (q.mono (by simp)); have T7 := hid (T5.out.below q7); have X7 := hid (X5.out.below q7); obtain ⟨f0, f1, f2, f3, f4, f5⟩ := T7.out.cs; have fz : ∀ k, w7.frozen? ⟨w.heap.size, k, none⟩ = false := fun k => frozen_of_row _ _ k _ _ T7.out.r; clear q q7))
  have r1 := setRowB w7 w.heap.size 0 _ #[ptr X.bp, .pointer none, .pointer none, .pointer none] _ (ptr X.bp) T7.out.r rfl
  have r2 := setRowB _ w.heap.size 1 _ #[ptr X.bp, ptr wp, .pointer none, .pointer none] _ (ptr wp) r1 rfl
  have r3 := setRowB _ w.heap.size 2 _ #[ptr X.bp, ptr wp, ptr mp, .pointer none] _ (ptr mp) r2 rfl
  have r4 := setRowB _ w.heap.size 3 _ #[ptr X.bp, ptr wp, ptr mp, ptr mq] _ (ptr mq) r3 rfl
  refine bodyPost_ret (ret_on Tryz.results11 w.heap.size #[ptr X.bp, ptr wp, ptr mp, ptr mq] rfl true rfl rfl r4) rfl ⟨X, ud, dk, wp, mp, mq, rfl, ?_, Q2.out, Q3.out, Q4.out, Q5.out, Q6.out, Q7.out⟩
  have ho := (((only_c w7 w.heap.size 0 (ptr X.bp)).trans (only_c _ w.heap.size 1 (ptr wp))).trans (only_c _ w.heap.size 2 (ptr mp))).trans (only_c _ w.heap.size 3 (ptr mq))
  have l4 := lt_of_block T4.out.r
  exact X7.out.side W4.out ho (fun k hk => by subst hk; exact ⟨Nat.le_refl _, l4⟩) (fun k hk => by subst hk; exact ⟨_, _, _, T7.out.r, by decide⟩) (fun k o hk => by rw [Q7.out] at hk; cases hk)
end Go.Proofs.YtjkihlpckgaggaaGreat
namespace Go.Proofs.YtjkihlpckgaggaaGreat
open Go.RowKit
open C (Only hid Still ret_bool ret_int)
open P (Ls)
set_option linter.unusedVariables false
set_option maxRecDepth 100000

theorem pb_start0 (w w1 w2 w3 : World) (Fi Fu : Nat → Prop) (hh : Nat) (u2 : Value) (K : Nat → Int) (hK : ∀ j, j < 0 → 0 ≤ K j ∧ K j ≤ 255) (hV : P.VOk (fun i => P.sv0 (K i))) (I1 : L.Ix w1 Fi (w.heap.size + 1) (L.iv0 hh)) (I2 : ∀ x, Fi x → w.heap.size ≤ x) (B1 : Below w.heap.size w w1) (P1 : P.Bx w2 w1.heap.size u2 0 (P.spn K)) (B2 : Below w1.heap.size w1 w2) (P3 : ∀ k, P.Ug u2 k → w1.heap.size ≤ k) (U1 : L.Ux w3 Fu w2.heap.size L.uv0) (U2 : ∀ x, Fu x → x = w2.heap.size) (B3 : Below w2.heap.size w2 w3) (w4 : World)
    (h4 : w4 = ((((w3.alloc (.cells #[ptr w1.heap.size, .int .i64 (-1)] 123)).alloc (.map #[] 0)).alloc (.cells (bdc w2.heap.size (w.heap.size + 1) w3.heap.size (.pointer none) (w3.heap.size + 1) (sl1 (w3.heap.size + 1 + 1 + 1)) (.slice none 0 0)) 81)).alloc (.cells #[pt0 w2.heap.size] 83))) :
    ∃ c, Pb w w4 c (w3.heap.size + 1 + 1) w2.heap.size (w.heap.size + 1) w3.heap.size w1.heap.size (w3.heap.size + 1) 0 (.pointer none) (sl1 (w3.heap.size + 1 + 1 + 1)) (.slice none 0 0) #[] 0 (L.iv0 hh) (fun i => P.sv0 (K i)) ∧ c (w3.heap.size + 1 + 1 + 1) = 0 ∧ w4.heap[w3.heap.size + 1 + 1 + 1]? = some (.cells #[pt0 w2.heap.size] 83 (0, 0)) ∧ w3.heap.size + 1 + 1 + 1 < w4.heap.size := by
  have s1 := B1.size
  have s2 := B2.size
  have s3 := B3.size
  have hu : w2.heap.size < w3.heap.size := by
    obtain ⟨a, b, h1, -, -⟩ := U1
    exact lt_of_block h1.top
  have a1 := heap_alloc_new w3 (.cells #[ptr w1.heap.size, .int .i64 (-1)] 123)
  have a2 := heap_alloc_new (w3.alloc (.cells #[ptr w1.heap.size, .int .i64 (-1)] 123)) (.map #[] 0)
  rw [show (w3.alloc (.cells #[ptr w1.heap.size, .int .i64 (-1)] 123)).heap.size = w3.heap.size + 1 by simp] at a2
  have a3 := heap_alloc_new ((w3.alloc (.cells #[ptr w1.heap.size, .int .i64 (-1)] 123)).alloc (.map #[] 0)) (.cells (bdc w2.heap.size (w.heap.size + 1) w3.heap.size (.pointer none) (w3.heap.size + 1) (sl1 (w3.heap.size + 1 + 1 + 1)) (.slice none 0 0)) 81)
  rw [show ((w3.alloc (.cells #[ptr w1.heap.size, .int .i64 (-1)] 123)).alloc (.map #[] 0)).heap.size = w3.heap.size + 1 + 1 by simp] at a3
  have a4 := heap_alloc_new (((w3.alloc (.cells #[ptr w1.heap.size, .int .i64 (-1)] 123)).alloc (.map #[] 0)).alloc (.cells (bdc w2.heap.size (w.heap.size + 1) w3.heap.size (.pointer none) (w3.heap.size + 1) (sl1 (w3.heap.size + 1 + 1 + 1)) (.slice none 0 0)) 81)) (.cells #[pt0 w2.heap.size] 83)
  rw [show (((w3.alloc (.cells #[ptr w1.heap.size, .int .i64 (-1)] 123)).alloc (.map #[] 0)).alloc (.cells (bdc w2.heap.size (w.heap.size + 1) w3.heap.size (.pointer none) (w3.heap.size + 1) (sl1 (w3.heap.size + 1 + 1 + 1)) (.slice none 0 0)) 81)).heap.size = w3.heap.size + 1 + 1 + 1 by simp] at a4
  rw [← h4] at a4
  have hb : Below w3.heap.size w3 w4 := by rw [h4]; exact ((((Below.refl _ _).alloc (Nat.le_refl _) _).alloc (by simp) _).alloc (by simp; omega) _).alloc (by simp; omega) _
  have t1 : w4.heap[w3.heap.size]? = some (.cells #[ptr w1.heap.size, .int .i64 (-1)] 123 (0, 0)) := by
    rw [h4]; exact (heap_alloc_old _ _ (by simp; omega)).trans ((heap_alloc_old _ _ (by simp; omega)).trans ((heap_alloc_old _ _ (by simp)).trans a1))
  have t2 : w4.heap[w3.heap.size + 1]? = some (.map #[] 0) := by
    rw [h4]; exact (heap_alloc_old _ _ (by simp)).trans ((heap_alloc_old _ _ (by simp)).trans a2)
  have t3 : w4.heap[w3.heap.size + 1 + 1]? = some (.cells (bdc w2.heap.size (w.heap.size + 1) w3.heap.size (.pointer none) (w3.heap.size + 1) (sl1 (w3.heap.size + 1 + 1 + 1)) (.slice none 0 0)) 81 (0, 0)) := by
    rw [h4]; exact (heap_alloc_old _ _ (by simp)).trans a3
  have b13 : Below w1.heap.size w1 w4 := B2.trans ((B3.mono s2).trans (hb.mono (by omega)))
  have b23 : Below w2.heap.size w2 w4 := B3.trans (hb.mono s3)
  have P2 : P.Bq w2 (fun x => x = w1.heap.size ∨ P.Ug u2 x) w1.heap.size 0 (P.fB fun i => P.sv0 (K i)) := ⟨⟨u2, by rw [← P.spn_fB]; exact P1, fun x => Iff.rfl⟩, by rw [← P.spn_fB]; exact P.spn_b K, by decide⟩
  refine ⟨fun k => if k < w1.heap.size then 2 else if k < w2.heap.size then 3 else if k < w3.heap.size then 1 else 0, ⟨B1.trans (b13.mono s1), t3, t1, t2, ⟨Fu, U1.only (T := fun _ => False) (.ofBelow hb) (fun _ _ z => z), fun k hk => ?_⟩, ⟨Fi, I1.only (T := fun _ => False) (.ofBelow b13) (fun _ _ z => z), fun k hk => ⟨if_pos (I1.lt hk), I2 k hk⟩⟩, ⟨_, P2.only (T := fun _ => False) (.ofBelow b23) (fun _ _ z => z), fun k hk => ?_⟩, hV, by decide, ⟨?_, ?_, ?_⟩, ⟨by omega, by omega, by omega⟩⟩, ?_, a4, ?_⟩
  · obtain rfl := U2 k hk
    show (if w2.heap.size < w1.heap.size then 2 else if w2.heap.size < w2.heap.size then 3 else if w2.heap.size < w3.heap.size then 1 else 0) = 1 ∧ _
    rw [if_neg (by omega), if_neg (by omega), if_pos hu]
    exact ⟨rfl, by omega⟩
  · have l1 : k < w2.heap.size := P2.lt hk
    have l2 : w1.heap.size ≤ k := by
      rcases hk with rfl | z
      · exact Nat.le_refl _
      · exact P3 k z
    show (if k < w1.heap.size then 2 else if k < w2.heap.size then 3 else if k < w3.heap.size then 1 else 0) = 3 ∧ _
    rw [if_neg (by omega), if_pos l1]
    exact ⟨rfl, by omega⟩
  all_goals first
    | (show (if _ < w1.heap.size then 2 else if _ < w2.heap.size then 3 else if _ < w3.heap.size then 1 else 0) = 0; rw [if_neg (by omega), if_neg (by omega), if_neg (by omega)])
    | (rw [h4]; simp)
/-- the board whole, behind its places: no device -/
theorem Pb.fin0 {W w w' : World} {c : Nat → Nat} {bp pu pi ps pb mm q kc g : Nat} {I : L.IV} {V : Nat → P.Sv} (p1 : Pb W w c bp pu pi ps pb mm 0 (.pointer none) (sl1 g) (.slice none 0 0) #[] 0 I V) (cg : c g = 0) (hg : w.heap[g]? = some (.cells #[pt0 pu] 83 (0, 0))) (wg : W.heap.size ≤ g) (hb : Below w.heap.size w w') (hq : w'.heap[q]? = some (.cells (plc pu pi ps kc) 145 (0, 0))) (hl : w.heap.size ≤ q) (hkc : w'.heap[kc]? = some ckO) (hkl : w.heap.size ≤ kc) (hkq : kc ≠ q) :
    ∃ X : BX, X.bp = bp ∧ Bo W (w'.setCell ⟨bp, 6, none⟩ (.slice (some ⟨q, 0, none⟩) 4 4)) X ∧ X.n = 0 ∧ X.U = L.uv0 ∧ X.I = I ∧ X.E = (fun _ => none) := by
  have hs := hb.size
  have own : w.ownsRow 0 83 1 (sl1 g) 1 [pt0 pu] := ⟨rfl, .inr ⟨g, 1, #[pt0 pu], rfl, Nat.zero_le _, hg, Nat.le_refl _, by decide, rfl, rfl⟩⟩
  have p2 := p1.below hb (fun k => if k < w.heap.size then c k else if k = kc then 5 else 0) fun k hk => if_pos hk
  have p3 := p2.set 6 (.slice (some ⟨q, 0, none⟩) 4 4) (e5' := sl1 g) (e6' := .slice (some ⟨q, 0, none⟩) 4 4) (eng' := .pointer none) rfl
  have ho := only_c w' bp 6 (.slice (some ⟨q, 0, none⟩) 4 4)
  have own' := own_only own (T := fun _ => False) (.ofBelow hb) (fun _ _ z => z)
  have nq : q ≠ bp := fun z => by have := p2.top; rw [← z, hq] at this; simp at this
  have nk : kc ≠ bp := fun z => by have := p2.top; rw [← z, hkc] at this; simp [ckO] at this
  have lg : g < w.heap.size := lt_of_block hg
  have wq : W.heap.size ≤ q := Nat.le_trans p1.bel.size hl
  refine ⟨⟨bp, pu, pi, ps, pb, g, 1, q, kc, mm, 0, .pointer none, fun _ => 0, fun _ => nv 1 .nilIface .nilIface, L.uv0, I, V, fun _ => none⟩, rfl, ⟨_, ⟨p3.bel, p3.top, p3.sp, own_only own' ho fun k hk z => ?_, ho.old hq nq, p3.u, p3.i, p3.b, p3.vok, fun j hj => absurd hj (Nat.not_lt_zero j), show (0 : Nat) ≤ 8 by decide, ⟨p3.c0.1, p3.c0.2.1, (if_pos lg).trans cg, (if_neg (show ¬ q < w.heap.size by omega)).trans (if_neg fun z => hkq z.symm)⟩, ⟨p3.w0.1, p3.w0.2.1, wg, wq⟩, (fun k o hk => by cases hk), ⟨0, ho.old hkc nk⟩, (if_neg (show ¬ kc < w.heap.size by omega)).trans (if_pos rfl), Nat.le_trans p1.bel.size hkl⟩⟩, rfl, rfl, rfl, rfl⟩
  obtain ⟨cur, hc⟩ := own_typ own' hk
  rw [z, p2.top] at hc
  simp at hc
set_option maxHeartbeats 4000000 in
theorem g_New0 (w : World) (hh : Nat) (h1 : 1 ≤ hh) (h2 : hh ≤ 64) (adu : Option Addr) (cpu : Nat) (en : Value) :
    Calls Tryz.prog 22 #[.int .i64 hh, .slice none 0 0, .slice adu 0 cpu, en] w fun r w' => ∃ X, r = .returned (.tuple #[ptr X.bp, .int .i64 0]) ∧ Bo w w' X ∧ X.n = 0 ∧ X.U = L.uv0 ∧ X.I = L.iv0 hh ∧ X.E = (fun _ => none) := by
  have hL : Ls w none 0 0 0 0 (fun _ => 1) := ⟨by decide, by decide, fun q => absurd q (by decide), fun j hj => absurd hj (by omega), fun j hj => absurd hj (by omega)⟩
  have hr := g_Right w (hh : Int) (by omega) (by omega) none 0 0 0 0 (fun _ => 1) hL adu 0 cpu (by decide)
  rw [rgt_all (by omega) (by omega) rfl (by decide) (by decide)] at hr
  have HR := hid hr
  have HLs := hid hL
  have HV := hid (show P.VOk (fun _ => P.sv0 1) from fun _ => P.sok0 1 (by decide) (by decide))
  have hkj : ∀ j, j < 0 → 0 ≤ (1 : Int) ∧ (1 : Int) ≤ 255 := fun j hj => by omega
  have HKJ := hid hkj
  have HI := hid (fun w8 => L.i_New w8 hh h1 h2)
  have HH := hid h1
  clear hr hL hkj
  have hmm := @run_makeMap Tryz.prog
  go_enter Tryz.func22, Tryz.ntmps22
  go_wp2_with (first
    | (go_at_call 7; refine HR.out.mono ?_; rintro r w0 ⟨rfl, q⟩; obtain rfl := q.symm)
    | (go_at_call 31; refine (HI.out w).mono ?_; rintro r w1 ⟨rfl, ⟨Fi, i1, i2⟩, q⟩; have I1 := hid i1; have I2 := hid i2; have B1 := hid q; clear i1 i2 q)
    | (go_at_call 32; refine (P.c_New w1 _ 0 0 0 0 (fun _ => 1) (HLs.out.below B1.out) (by decide) HKJ.out).mono ?_; rintro r w2 ⟨rfl, u2, q1, q2, q3⟩; have P1 := hid q1; have B2 := hid q2; have P3 := hid q3; clear q1 q2 q3)
    | (go_at_call 33; refine (L.u_New w2).mono ?_; rintro r w3 ⟨rfl, ⟨Fu, u1, u2⟩, q⟩; have U1 := hid u1; have U2 := hid u2; have B3 := hid q; clear u1 u2 q))
  obtain ⟨w4, h4⟩ : ∃ w4, w4 = ((((w3.alloc (.cells #[ptr w1.heap.size, .int .i64 (-1)] 123)).alloc (.map #[] 0)).alloc (.cells (bdc w2.heap.size (w.heap.size + 1) w3.heap.size (.pointer none) (w3.heap.size + 1) (sl1 (w3.heap.size + 1 + 1 + 1)) (.slice none 0 0)) 81)).alloc (.cells #[pt0 w2.heap.size] 83)) := ⟨_, rfl⟩
  refine wp_atG h4.symm ?_
  have hst := pb_start0 w w1 w2 w3 Fi Fu hh u2 (fun _ => 1) HKJ.out HV.out I1.out I2.out B1.out P1.out B2.out P3.out U1.out U2.out B3.out w4 h4
  obtain ⟨bp, hbp⟩ : ∃ bp, bp = w3.heap.size + 1 + 1 := ⟨_, rfl⟩
  obtain ⟨g, hg⟩ : ∃ g, g = w3.heap.size + 1 + 1 + 1 := ⟨_, rfl⟩
  rw [← hg, ← hbp] at hst
  have HST := hid hst
  have HBP := hid hbp
  have HG := hid hg
  clear I1 I2 B1 P1 B2 P3 U1 U2 B3 hst h4 HR HI hmm
  rw [← hbp]
  clear hbp hg
  generalize w2.heap.size = pu at *
  generalize w.heap.size + 1 = pi at *
  generalize w1.heap.size = pb at *
  generalize w3.heap.size = ps at *
  go_loopw [52] (fun i wr => i = .int .i64 0 ∧ wr = w4) (fun i _ => 1 - (intOf i).toNat)
  case atStart => exact ⟨rfl, rfl⟩
  case round =>
    obtain ⟨rfl, rfl⟩ := hrel
    have HT := hid (show wr.heap[bp]? = some (.cells (bdc pu pi ps (.pointer none) (ps + 1) (sl1 g) (.slice none 0 0)) 81 (0, 0)) from by obtain ⟨c, p1, -⟩ := HST.out; exact p1.top)
    go_wp2_with (go_at_call 35; refine (g_newPlaces wr bp pu pi ps (ps + 1) (.pointer none) (sl1 g) (.slice none 0 0) HT.out).mono ?_; rintro r w7 ⟨q, kc, rfl, q1, q2, q3, q4, q5, q6⟩; have Q4 := hid q4; have Q5 := hid q5; have Q6 := hid q6; have Q1 := hid q1; have Q2 := hid q2; have Q3 := hid q3; have z6 : w7.frozen? ⟨bp, 6, none⟩ = false := frozen_of_row _ _ 6 _ _ ((q2.block _ (lt_of_block HT.out)).trans HT.out); have c6 : w7.cell? ⟨bp, 6, none⟩ = some (.slice none 0 0) := cell_of_row w7 bp 6 _ _ _ ((q2.block _ (lt_of_block HT.out)).trans HT.out); clear q1 q2 q3 q4 q5 q6)
    go_returns
    obtain ⟨c, p1, p2, p3, p4⟩ := HST.out
    obtain ⟨X, e1, e2⟩ := Pb.fin0 p1 p2 p3 (by have := p1.w0.1; have := HBP.out; have := HG.out; omega) Q2.out Q1.out Q3.out Q4.out Q5.out Q6.out
    exact ⟨X, by rw [e1]; rfl, e2⟩
end Go.Proofs.YtjkihlpckgaggaaGreat
