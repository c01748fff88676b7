/- load: bytes out of the memory. -/
import Derived.Test.YtioodijiejipiaaRB
import Derived.Deep.RegionLaw
namespace Go.Proofs.Ytioodijiejipiaa
open Go.RowKit
set_option linter.unusedVariables false

theorem u_su8 : Try.prog.underlying 35 = some (.slice 5) := by kernel_rfl
theorem s_u8 : (Try.prog.info? 5).map (·.size) = some 1 := by kernel_rfl
theorem u_cells : Try.prog.underlying 79 = some (.array 4096 5) := by kernel_rfl
theorem run_cut (hh m : Nat) (h : m < 4096) (w : World) : (Instr.sliceAt 79 (.pointer (some ⟨hh, 0, none⟩)) (some (.int .i64 (m : Int))) none none).run Try.prog w = .ok (.slice (some ⟨hh, m, none⟩) (4096 - m) (4096 - m)) w := by
  have e : ¬ 4096 = m := by omega
  obtain ⟨i, hi, hsz⟩ : ∃ i, Try.prog.info? 5 = some i ∧ i.size = 1 := by
    cases hq : Try.prog.info? 5 with
    | none => have := s_u8; rw [hq] at this; cases this
    | some i => have := s_u8; rw [hq] at this; exact ⟨i, rfl, by simpa using this⟩
  have h0 : (0 : Int) ≤ (m : Int) ∧ (m : Int) ≤ 4096 := by omega
  simp [Instr.sliceAt, run_underlying u_cells, Instr.sureAddr, Instr.sliceBounds, Instr.sliceBound, asIntOf, sizeOf, typeInfo, hi, hsz, e, h0, addr_add]
  intro q; omega
theorem bare_row {f d : Nat → Int} {k n off N : Nat} (h : ∀ j, k ≤ j → j < k + n → f (off + j) = d j) : row (put d 0 (k + n) fun j => f (off + j)) 0 N = row (put d 0 k fun j => f (off + j)) 0 N := by
  apply row_congr
  intro j hj
  simp only [Nat.zero_add]
  rcases Nat.lt_or_ge j k with q | q
  · rw [put_in' _ _ _ _ _ (by omega) (by omega), put_in' _ _ _ _ _ (by omega) (by omega)]
  · rw [put_out _ _ k _ _ (by omega)]
    rcases Nat.lt_or_ge j (k + n) with q' | q'
    · rw [put_in' _ _ _ _ _ (by omega) (by omega)]; exact h j q q'
    · rw [put_out _ _ _ _ _ (by omega)]
theorem next_frame {off k n q m : Nat} (h : off + k = 4096 * q + m) (hn : n = 4096 - m) (hm : m < 4096) : Value.int .i64 ((q : Int) + 1) = .int .i64 (((off + (k + n)) / 4096 : Nat) : Int) := by
  congr 1; omega
theorem next_at {off k n q m : Nat} (h : off + k = 4096 * q + m) (hn : n = 4096 - m) (hm : m < 4096) : Value.int .i64 0 = .int .i64 (((off + (k + n)) % 4096 : Nat) : Int) := by
  congr 1; omega
def lenOf : Value → Nat
  | .slice _ l _ => l
  | _ => 0
theorem c_load (w : World) (p g : Nat) (base : Int) (hs : List (Option Nat)) (f : Nat → Int) (h : RM w p g base hs f) (off len cap : Nat) (addr : Int) (ha : addr = base + off) (hl : off + len ≤ 4096 * hs.length)
    (b N : Nat) (d : Nat → Int) (t : TypeId) (hb : w.heap[b]? = some (.cells (row d 0 N).toArray t (0, 0))) (hN : len ≤ N) (hc : len ≤ cap) (hz : ∀ j, j < len → d j = 0) (t1 : t ≠ 67) (t2 : t ≠ 77) (t3 : t ≠ 79) :
    Calls Try.prog 36 #[.pointer (some ⟨p, 0, none⟩), .int .u64 addr, .slice (some ⟨b, 0, none⟩) len cap] w fun e w' => e = .returned (.tuple #[]) ∧
      w'.heap[b]? = some (.cells (row (put d 0 len (fun j => f (off + j))) 0 N).toArray t (0, 0)) ∧ Only (· = b) w w' := by
  subst ha
  have hbf : ¬ Foot p g hs b := h.typ hb t1 t2 t3
  have l1 := h.len1
  go_enter Try.func36, Try.ntmps36
  go_wp2_with (first | (go_at_call 44; refine (c_place w p g base hs f h off (by omega) _ rfl).mono ?_; rintro e w' ⟨rfl, hw⟩; obtain rfl := hw.symm))
  go_loopw [2, 6, 7] (fun v fr at' wr => ∃ (k L C : Nat) (ad : Option Addr), k + L = len ∧ k + C = cap ∧ v = .slice ad L C ∧ (0 < L → ad = some ⟨b, k, none⟩ ∧ fr = .int .i64 ((off + k) / 4096 : Nat) ∧ at' = .int .i64 ((off + k) % 4096 : Nat)) ∧
      wr.heap[b]? = some (.cells (row (put d 0 k (fun j => f (off + j))) 0 N).toArray t (0, 0)) ∧ Only (· = b) w wr) (fun v _ _ _ => lenOf v)
  case atStart => exact ⟨0, len, cap, _, by omega, by omega, rfl, fun _ => ⟨rfl, by simp, by simp⟩, by rw [put_zero]; exact hb, .refl w⟩
  case round =>
    obtain ⟨k, L, C, ad, rfl, rfl, rfl, hpos, hbw, ho⟩ := hrel
    by_cases hlt : 0 < L
    · obtain ⟨rfl, rfl, rfl⟩ := hpos hlt
      have ha4 : (off + k) / 4096 < hs.length := by omega
      obtain ⟨x, hx⟩ : ∃ x, hs[(off + k) / 4096]? = some x := ⟨_, List.getElem?_eq_getElem ha4⟩
      have hR := h.only ho (fun k' hk' (e : k' = b) => hbf (e ▸ hk'))
      have c1 := hR.cell1
      have cT := hR.cellT _ x hx
      have hmod : (off + k) % 4096 < 4096 := Nat.mod_lt _ (by decide)
      have hqm : off + k = 4096 * ((off + k) / 4096) + (off + k) % 4096 := (Nat.div_add_mod _ _).symm
      generalize hq : (off + k) / 4096 = q at *
      generalize hm : (off + k) % 4096 = m at *
      have HQ : Hid (off + k = 4096 * q + m) := hqm
      obtain ⟨n, hn⟩ : ∃ n : Nat, (if 4096 - (m : Int) < (L : Int) then 4096 - (m : Int) else (L : Int)) = (n : Int) := ⟨min (4096 - m) L, by split <;> omega⟩
      have n0 : 0 < n ∧ n ≤ L ∧ n ≤ 4096 - m ∧ (n < L → n = 4096 - m) := by split at hn <;> omega
      obtain ⟨n0, n1, n2, n3⟩ := n0
      clear hqm hq hm
      have HN : Hid (n < L → n = 4096 - m) := n3
      clear n3 hpos
      cases x with
      | none =>
        simp only [ptr] at cT
        have HB : Hid (wr.heap[b]? = some (.cells (row (put d 0 (k + n) (fun j => f (off + j))) 0 N).toArray t (0, 0))) := by
          show _ = _
          rw [hbw, bare_row (k := k) (n := n) (off := off) (by
            intro j h0 h1
            have q1 := HQ.out
            have := hR.bare _ hx (m + (j - k)) (by omega)
            rw [show off + j = 4096 * q + (m + (j - k)) by omega, this, hz j (by omega)])]
        go_wp2
        go_roundw
        case rel => exact ⟨k + n, L - n, C - n, _, by omega, by omega, rfl, fun hp => ⟨by rw [if_neg (by omega)], next_frame HQ.out (HN.out (by omega)) (by omega), next_at HQ.out (HN.out (by omega)) (by omega)⟩, HB.out, ho⟩
        case measure => simp only [lenOf]; omega
      | some hh =>
        simp only [ptr] at cT
        have hh1 := hR.full _ _ hx
        have HH : Hid (∀ j v, (row f (off + k) n)[j]? = some v → wr.drew.cell? ((⟨hh, m, none⟩ : Addr).add j) = some v) := by
          intro j v hv
          have hj : j < n := by
            rcases Nat.lt_or_ge j n with q | q
            · exact q
            · rw [List.getElem?_eq_none (by simpa [row_length] using q)] at hv; cases hv
          rw [row_get _ _ _ _ hj] at hv
          rw [addr_add, show wr.drew.cell? ⟨hh, m + j, none⟩ = wr.cell? ⟨hh, m + j, none⟩ from rfl, row_cell hh1 (m + j) (by omega), ← hv]
          have := HQ.out
          congr 3; omega
        have HF : Hid (k + (row f (off + k) n).length ≤ (row (put d 0 k fun j => f (off + j)) 0 N).length) := by show _ ≤ _; rw [row_length, row_length]; omega
        have HB : Hid (wr.drew.heap[b]? = some (.cells (row (put d 0 k fun j => f (off + j)) 0 N).toArray t (0, 0))) := hbw
        have HL : Hid ((row f (off + k) n).length = Nat.min (4096 - m) n) := by show _ = _; rw [row_length]; exact (Nat.min_eq_right n2).symm
        have hnC : n ≤ C := by omega
        have hm1 : m ≤ 4096 := by omega
        have hm2 := run_cut hh m hmod wr.drew
        clear hh1 hbw
        go_wp2
        go_region_law (refine step_copy_only rfl (.tmp 35) (.tmp 39) 35 35 rfl 5 u_su8 s_u8 ⟨hh, m, none⟩ n C (4096 - m) (4096 - m) b k (by go_simp) (by go_simp) _ t HB.out (row f (off + k) n) HL.out HH.out HF.out (row_one _ _ _) ?_; intro w4 HG4 HO4)
        have HG5 : Hid (w4.heap[b]? = some (.cells (row (put d 0 (k + n) fun j => f (off + j)) 0 N).toArray t (0, 0))) := by
          have := HG4.out
          rwa [copied (by omega)] at this
        have HO5 : Hid (Only (· = b) w w4) := ho.drew.trans HO4.out
        clear HG4 HO4 HB HF HH HL c1 cT hR ho hm2
        go_wp2
        go_roundw
        case rel => exact ⟨k + n, L - n, C - n, _, by omega, by omega, rfl, fun hp => ⟨by rw [if_neg (by omega)], next_frame HQ.out (HN.out (by omega)) (by omega), next_at HQ.out (HN.out (by omega)) (by omega)⟩, HG5.out, HO5.out⟩
        case measure => simp only [lenOf]; omega
    · obtain rfl : L = 0 := by omega
      go_wp2
      go_end0
      exact ⟨rfl, hbw, ho⟩
end Go.Proofs.Ytioodijiejipiaa
