/- An instruction of four bytes is fetched, with no tables at either stage. -/
import Derived.Test.YtooagjndelbegaaGreatDoorMH3
import Derived.Test.YtooagjndelbegaaGreatDoorBIR
namespace Go.Proofs.YtooagjndelbegaaGreatDoor
open Go.RowKit
open C (Only)
set_option linter.unusedVariables false
set_option maxRecDepth 100000

theorem m_Size4 (c : Int) (h0 : 0 ≤ c) (h1 : c ≤ 65535) (hq : c % 4 = 3) (w : World) : Calls Tryz.prog 101 #[.int .u16 c] w fun e w' => e = .returned (.int .i64 4) ∧ w' = w := by
  have e : c * 1073741824 % 4294967296 / 1073741824 = 3 := by omega
  go_enter Tryz.func101, Tryz.ntmps101
  go_wp2
  go_ret
  exact ⟨rfl, rfl⟩
set_option maxHeartbeats 1000000 in
theorem m_fetchHalf0 (w : World) (b : Nat) (s : SV) (h : St w b s) (v : CV) (hc : Cr w s.core v) (h0 : v.root = 0) (S : Nat → Prop) (bs : Int) (n : Nat) (f : Nat → Int) (hm : C.Mem w S v.m bs n f) (va : Int) (off : Nat) (hva : va = bs + off) (hl : off + 2 ≤ 4096 * n) (sa0 : 0 ≤ s.was.satp) (sa1 : s.was.satp < 1152921504606846976) :
    Calls Tryz.prog 128 #[.pointer (some ⟨b, 0, none⟩), .int .u64 va] w fun e w' => e = .returned (.tuple #[.int .u64 (C.nu (fun j => f (off + j)) 2), .bool true]) ∧ Below w.heap.size w w' := by
  obtain ⟨n0, n1, n2, n3⟩ := hm.nums
  have hh : C.hasB bs n va 2 = true := by simp only [C.hasB]; simp; omega
  have va0 : 0 ≤ va := by omega
  have va1 : va < 18446744073709551616 := by omega
  have HVA := C.hid hva
  have HHH := C.hid hh
  have HM := C.hid hm
  have HST := C.hid h
  have HCR := C.hid hc
  clear hm h hc hva hh
  go_enter Tryz.func128, Tryz.ntmps128
  go_wp2_with (go_at_call 166; refine (m_reach0 w b s HST.out v HCR.out h0 S bs n f HM.out va 1 2 sa0 sa1 va0 va1 (by omega) (by omega) HHH.out).mono ?_; rintro e w1 ⟨rfl, hb⟩; have HB := C.hid hb; clear hb)
  have kb : Below w.heap.size w (w1.alloc (.cells #[.int .u64 va, .int .u64 va, .int .i64 0, .bool false] 212)) := HB.out.alloc HB.out.size _
  have q0 := HST.out.below kb
  have q1 := HCR.out.below kb
  have HMM := C.hid (HM.out.below kb)
  have y0 : ∀ x : WB (w1.alloc (.cells #[.int .u64 va, .int .u64 va, .int .i64 0, .bool false] 212)), x.w.cell? ⟨b, 0, none⟩ = some (.pointer (some ⟨s.core, 0, none⟩)) := fun x => x.cell q0.lt (q0.c 0)
  have y1 : ∀ x : WB (w1.alloc (.cells #[.int .u64 va, .int .u64 va, .int .i64 0, .bool false] 212)), x.w.cell? ⟨s.core, 0, none⟩ = some (.pointer (some ⟨v.m, 0, none⟩)) := fun x => x.cell q1.lt q1.c.1
  have y2 : ∀ x : WB (w1.alloc (.cells #[.int .u64 va, .int .u64 va, .int .i64 0, .bool false] 212)), x.w.cell? ⟨w1.heap.size, 0, none⟩ = some (.int .u64 va) := fun x => x.cell (by simp) (cell_of_row _ _ 0 _ _ _ (heap_alloc_new _ _))
  have HKB := C.hid kb
  clear q0 q1 kb
  refine wp_region_wb (by kernel_rfl) (by kernel_rfl) ?_
  repeat
    refine wpQuiet_step (fun K hK => ?_)
    go_simp
    first
      | (refine hK _ ?_; clear hK K)
      | (refine ⟨_, fun _ => rfl, hK _ ?_⟩; clear hK K)
      | (refine ⟨.tuple #[.int .u64 (C.nu (fun j => f (off + j)) 2), .bool true], fun x => ?_, hK _ ?_⟩
         · (go_at_call 167; exact Calls.wb x (C.c_Read x.w S v.m bs n f (HMM.out.below x.h) off 2 hl (.inr (.inl rfl)) va HVA.out))
         clear hK K)
  refine wpQuiet_nil ?_
  intro _ hx
  obtain ⟨x, rfl⟩ := hx
  go_wp2
  go_ret2
  exact ⟨rfl, HKB.out.trans (x.h.mono HKB.out.size)⟩
theorem or16 (lo hi : Int) (h0 : 0 ≤ lo) (h1 : lo < 65536) (h2 : 0 ≤ hi) (h3 : hi < 65536) : bits .or .u64 lo (hi * 65536) = lo + hi * 65536 := by
  obtain ⟨a, rfl⟩ := Int.eq_ofNat_of_zero_le h0
  obtain ⟨c, rfl⟩ := Int.eq_ofNat_of_zero_le h2
  have e := u64_or_nat a (c * 65536) (by omega) (by omega)
  have e' : bits .or .u64 (a : Int) ((c : Int) * 65536) = ((a ||| (c * 65536) : Nat) : Int) := by simpa using e
  rw [e']
  have := Nat.shiftLeft_add_eq_or_of_lt (a := c) (b := a) (i := 16) (by omega)
  rw [Nat.shiftLeft_eq] at this
  rw [Nat.or_comm, show c * 65536 = c * 2 ^ 16 by rfl, ← this]
  omega
set_option maxHeartbeats 1000000 in
theorem m_decode4 (x : Int) (h0 : 0 ≤ x) (h1 : x < 4294967296) (hq : x % 4 = 3) (w : World) (hG : B.G w) :
    Calls Tryz.prog 99 #[.int .u64 x] w fun e w' => e = .returned (.tuple #[(B.D x).1.v, .bool (B.D x).2]) ∧ Below w.heap.size w w' := by
  have HG := C.hid (hG.below ((Below.refl _ _).alloc (Nat.le_refl _) (.cells #[.int .i64 0, .int .i64 0, .int .i64 0, .int .i64 0, .int .i64 0, .int .i64 0, .int .i64 0, .bool false] 87)))
  clear hG
  have HD : ∀ w, B.G w → Calls Tryz.prog 129 #[.int .u32 x] w fun e w' => e = .returned (.tuple #[(B.D x).1.v, .bool (B.D x).2]) ∧ Below w.heap.size w w' := fun w hG => B.m_Decode x h0 h1 w hG
  generalize B.D x = d at *
  obtain ⟨⟨d0, d1, d2, d3, d4, d5, d6, d7⟩, d8⟩ := d
  have HDD := C.hid HD
  clear HD
  go_enter Tryz.func99, Tryz.ntmps99
  go_wp2_with (first
    | (go_at_call 101; refine (m_Size4 (x % 65536) (by omega) (by omega) (by omega) _).mono ?_; rintro e w1 ⟨rfl, rfl⟩)
    | (go_at_call 129; refine (HDD.out _ HG.out).mono ?_; rintro e w1 ⟨rfl, hb⟩; have kc : ∀ o, w1.cell? ⟨w.heap.size, o, none⟩ = (w.alloc (.cells #[.int .i64 0, .int .i64 0, .int .i64 0, .int .i64 0, .int .i64 0, .int .i64 0, .int .i64 0, .bool false] 87)).cell? ⟨w.heap.size, o, none⟩ := (fun o => (B.bcell hb).1 _ _ (by simp)); have kf : ∀ o, w1.frozen? ⟨w.heap.size, o, none⟩ = false := (fun o => ((B.bcell hb).2 _ _ (by simp)).trans (by simp)); have kz : w.heap.size < w1.heap.size := (by have := hb.size; simp at this; omega); have kb : Below w.heap.size w w1 := ((Below.refl _ _).alloc (Nat.le_refl _) _).trans (hb.mono (by simp)); clear hb))
  refine bodyPost_ret (v := .tuple #[B.I.v ⟨d0, d1, d2, d3, d4, d5, d6, d7⟩, .bool d8]) (by simp [results, Tryz.results99, go_sem, kc]) rfl ⟨rfl, ?_⟩
  (repeat (first | (with_reducible exact Below.refl _ _) | (with_reducible assumption) | refine Below.setCell ?_ (by first | exact Nat.le_refl _ | simp | (simp; omega)) _ | refine Below.alloc ?_ (by first | exact Nat.le_refl _ | simp | (simp; omega)) _ | refine below_dn ?_ _ | refine below_setRow ?_ (by first | exact Nat.le_refl _ | simp | (simp; omega)) _))
/-- the words of an instruction of four bytes -/
def half (f : Nat → Int) (off : Nat) : Int := C.nu (fun j => f (off + j)) 2
theorem half_bd (f : Nat → Int) (hf : ∀ j, 0 ≤ f j ∧ f j < 256) (off : Nat) : 0 ≤ half f off ∧ half f off < 65536 := by
  have := C.nu_lt (fun j => f (off + j)) (fun j => hf _) 2
  unfold half
  constructor
  · exact this.1
  · have := this.2; simpa using this
def wd (f : Nat → Int) (off : Nat) : Int := half f off + half f (off + 2) * 65536
theorem only_set (w : World) (b k : Nat) (v : Value) : Only (· = b) w (w.setCell ⟨b, k, none⟩ v) := (Only.refl (S := (· = b)) w).setCell (.inl rfl) _
theorem st_cells {w : World} {b : Nat} {s : SV} (h : St w b s) : CellsOnly w (· = b) := fun k e => ⟨_, _, _, by subst e; exact h⟩
theorem Cr.ne {w : World} {c b : Nat} {v : CV} {s : SV} (hc : Cr w c v) (h : St w b s) : ¬ c = b := by
  rintro rfl
  obtain ⟨d, k, q⟩ := hc.blk
  unfold St at h
  rw [h] at q
  simp at q
/-- what turns the step alone leaves the core, the memory and the tables -/
theorem Cr.st {w w' : World} {c b : Nat} {v : CV} {s : SV} (hc : Cr w c v) (h : St w b s) (ho : Only (· = b) w w') : Cr w' c v := hc.only ho (hc.ne h) (st_cells h)
theorem mem_st {w w' : World} {b : Nat} {s : SV} {S : Nat → Prop} {m : Nat} {bs : Int} {n : Nat} {f : Nat → Int} (hm : C.Mem w S m bs n f) (h : St w b s) (ho : Only (· = b) w w') : C.Mem w' S m bs n f :=
  hm.only ho fun k hk e => by subst e; exact hm.typ h (by decide) (by decide) (by decide) hk
set_option maxHeartbeats 1000000 in
theorem m_fetchBits0 (w : World) (b : Nat) (s : SV) (h : St w b s) (v : CV) (hc : Cr w s.core v) (h0 : v.root = 0) (S : Nat → Prop) (bs : Int) (n : Nat) (f : Nat → Int) (hm : C.Mem w S v.m bs n f) (off : Nat) (hva : s.was.pc = bs + off) (hl : off + 4 ≤ 4096 * n) (sa0 : 0 ≤ s.was.satp) (sa1 : s.was.satp < 1152921504606846976) (hq : half f off % 4 = 3) :
    Calls Tryz.prog 98 #[.pointer (some ⟨b, 0, none⟩)] w fun e w' => e = .returned (.bool true) ∧ St w' b { s with bits := wd f off } ∧ Only (· = b) w w' := by
  obtain ⟨n0, n1, n2, n3⟩ := hm.nums
  obtain ⟨l0, l1⟩ := half_bd f hm.byt off
  obtain ⟨u0, u1⟩ := half_bd f hm.byt (off + 2)
  have hb := h.lt
  have p0 : 0 ≤ s.was.pc := by omega
  have p1 : s.was.pc + 2 < 18446744073709551616 := by omega
  have c34 : w.cell? ⟨b, 34, none⟩ = some (.int .u64 s.was.pc) := h.c 34
  have HF1 : Hid (Calls Tryz.prog 128 #[.pointer (some ⟨b, 0, none⟩), .int .u64 s.was.pc] w fun e w' => e = .returned (.tuple #[.int .u64 (half f off), .bool true]) ∧ Below w.heap.size w w') := m_fetchHalf0 w b s h v hc h0 S bs n f hm s.was.pc off hva (by omega) sa0 sa1
  have HF2 : Hid (∀ w1, Below w.heap.size w w1 → St (w1.setCell ⟨b, 108, none⟩ (.int .u64 (half f off))) b { s with bits := half f off } ∧ Only (· = b) w (w1.setCell ⟨b, 108, none⟩ (.int .u64 (half f off))) ∧ Calls Tryz.prog 128 #[.pointer (some ⟨b, 0, none⟩), .int .u64 (s.was.pc + 2)] (w1.setCell ⟨b, 108, none⟩ (.int .u64 (half f off))) fun e w' => e = .returned (.tuple #[.int .u64 (half f (off + 2)), .bool true]) ∧ Below (w1.setCell ⟨b, 108, none⟩ (.int .u64 (half f off))).heap.size (w1.setCell ⟨b, 108, none⟩ (.int .u64 (half f off))) w') := fun w1 hb1 => by
    have h1 := h.below hb1
    have o1 : Only (· = b) w1 (w1.setCell ⟨b, 108, none⟩ (.int .u64 (half f off))) := only_set w1 b 108 _
    have h2 : St (w1.setCell ⟨b, 108, none⟩ (.int .u64 (half f off))) b { s with bits := half f off } := h1.set 108 _ rfl
    exact ⟨h2, (Only.ofBelow hb1).trans o1, m_fetchHalf0 _ b { s with bits := half f off } h2 v ((hc.below hb1).st h1 o1) h0 S bs n f (mem_st (hm.below hb1) h1 o1) (s.was.pc + 2) (off + 2) (by omega) (by omega) sa0 sa1⟩
  have HST := C.hid h
  clear hva h hc hm
  go_enter Tryz.func98, Tryz.ntmps98
  go_wp2_with (first
    | (go_at_call 101; refine (m_Size4 (half f off) (by omega) (by omega) hq _).mono ?_; rintro e w9 ⟨rfl, rfl⟩)
    | (have t := HF1; clear HF1; go_at_call 128; refine t.out.mono ?_; rintro e w1 ⟨rfl, hb1⟩; have q1 := HST.out.below hb1; have a108 : w1.cell? ⟨b, 108, none⟩ = some (.int .u64 s.bits) := q1.c 108; have af : ∀ k, w1.frozen? ⟨b, k, none⟩ = false := q1.f; have HG2 := C.hid (HF2.out w1 hb1); have g34 : (w1.setCell ⟨b, 108, none⟩ (.int .u64 (half f off))).cell? ⟨b, 34, none⟩ = some (.int .u64 s.was.pc) := HG2.out.1.c 34; clear HF2 q1 hb1)
    | (go_at_call 128; refine HG2.out.2.2.mono ?_; rintro e w2 ⟨rfl, hb2⟩; have q2 := HG2.out.1.below hb2; have b108 : w2.cell? ⟨b, 108, none⟩ = some (.int .u64 (half f off)) := q2.c 108; have bf : ∀ k, w2.frozen? ⟨b, k, none⟩ = false := q2.f; have HQ2 := C.hid q2; have HO2 := C.hid (HG2.out.2.1.trans (Only.ofBelow hb2)); clear q2 hb2))
  go_ret
  rw [or16 _ _ l0 l1 u0 u1]
  exact ⟨rfl, HQ2.out.set 108 _ rfl, HO2.out.trans (only_set _ _ _ _)⟩
set_option maxHeartbeats 1000000 in
theorem m_fetch0 (w : World) (b : Nat) (s : SV) (h : St w b s) (v : CV) (hc : Cr w s.core v) (h0 : v.root = 0) (S : Nat → Prop) (bs : Int) (n : Nat) (f : Nat → Int) (hm : C.Mem w S v.m bs n f) (hG : B.G w) (hgl : ∀ w', Only (· = b) w w' → B.G w') (off : Nat) (hva : s.was.pc = bs + off) (hl : off + 4 ≤ 4096 * n) (sa0 : 0 ≤ s.was.satp) (sa1 : s.was.satp < 1152921504606846976) (hq : half f off % 4 = 3) (p0 : 0 ≤ s.h.pc) (p1 : s.h.pc < 18446744073709551616) (hD : (B.D (wd f off)).2 = true) :
    Calls Tryz.prog 68 #[.pointer (some ⟨b, 0, none⟩)] w fun e w' => e = .returned (.bool true) ∧ St w' b { s with bits := wd f off, i := (B.D (wd f off)).1, h := { s.h with pc := (s.h.pc + 4) % 18446744073709551616 } } ∧ Only (· = b) w w' := by
  obtain ⟨l0, l1⟩ := half_bd f hm.byt off
  obtain ⟨u0, u1⟩ := half_bd f hm.byt (off + 2)
  have W0 : 0 ≤ wd f off := by unfold wd; omega
  have W1 : wd f off < 4294967296 := by unfold wd; omega
  have W4 : wd f off % 4 = 3 := by unfold wd; omega
  have HF := C.hid (m_fetchBits0 w b s h v hc h0 S bs n f hm off hva hl sa0 sa1 hq)
  have HGL := C.hid hgl
  clear hgl hG hm hc hva hl h
  have HDC : ∀ w, B.G w → Calls Tryz.prog 99 #[.int .u64 (wd f off)] w fun e w' => e = .returned (.tuple #[(B.D (wd f off)).1.v, .bool (B.D (wd f off)).2]) ∧ Below w.heap.size w w' := fun w hG => m_decode4 _ W0 W1 W4 w hG
  generalize B.D (wd f off) = d at *
  obtain ⟨⟨d0, d1, d2, d3, d4, d5, d6, d7⟩, d8⟩ := d
  simp only at hD
  subst hD
  generalize hx : wd f off = x at *
  clear hx
  have HDD := C.hid HDC
  clear HDC
  go_enter Tryz.func68, Tryz.ntmps68
  go_wp2_with (first
    | (go_at_call 98; refine HF.out.mono ?_; rintro e w1 ⟨rfl, hs1, ho1⟩; have HS1 := C.hid hs1; have HO1 := C.hid ho1; have c108 : w1.cell? ⟨b, 108, none⟩ = some (.int .u64 x) := hs1.c 108; clear hs1 ho1)
    | (go_at_call 99; refine (HDD.out _ (HGL.out _ HO1.out)).mono ?_; rintro e w2 ⟨rfl, hb2⟩; have q2 := HS1.out.below hb2; have hlt := q2.lt; have HS2 := C.hid (q2.below ((Below.refl _ _).alloc (Nat.le_refl _) (.cells #[.int .i64 d0, .int .i64 d1, .int .i64 d2, .int .i64 d3, .int .i64 d4, .int .i64 d5, .int .i64 d6, .bool d7] 87))); have HO2 := C.hid ((HO1.out.trans (Only.ofBelow hb2)).alloc (.cells #[.int .i64 d0, .int .i64 d1, .int .i64 d2, .int .i64 d3, .int .i64 d4, .int .i64 d5, .int .i64 d6, .bool d7] 87)); have HR2 : Hid ((w2.alloc (.cells #[.int .i64 d0, .int .i64 d1, .int .i64 d2, .int .i64 d3, .int .i64 d4, .int .i64 d5, .int .i64 d6, .bool d7] 87)).heap[b]? = some (.cells ({ s with bits := x } : SV).ca 89 (0, 0))) := HS2.out; clear q2 hb2)
    | ((with_reducible refine wpL_store_sub (x := .tmp 23) (y := .tmp 21) b 100 89 _ #[.int .i64 d0, .int .i64 d1, .int .i64 d2, .int .i64 d3, .int .i64 d4, .int .i64 d5, .int .i64 d6, .bool d7] ({ s with bits := x, i := ⟨d0, d1, d2, d3, d4, d5, d6, d7⟩ } : SV).ca ?_ ?_ HR2.out ?_ ?_ ?_ ?_ ?_); rfl; rfl; exact sto_i ({ s with bits := x } : SV) ⟨d0, d1, d2, d3, d4, d5, d6, d7⟩; exact (by decide : (108 : Nat) ≤ 117); (simp [Value.oneCell']); kernel_rfl; have q3 : St ((w2.alloc (.cells #[.int .i64 d0, .int .i64 d1, .int .i64 d2, .int .i64 d3, .int .i64 d4, .int .i64 d5, .int .i64 d6, .bool d7] 87)).setRow b ({ s with bits := x, i := ⟨d0, d1, d2, d3, d4, d5, d6, d7⟩ } : SV).ca) b ({ s with bits := x, i := ⟨d0, d1, d2, d3, d4, d5, d6, d7⟩ } : SV) := setRow_heap _ b _ _ _ _ HS2.out; have n83 : ((w2.alloc (.cells #[.int .i64 d0, .int .i64 d1, .int .i64 d2, .int .i64 d3, .int .i64 d4, .int .i64 d5, .int .i64 d6, .bool d7] 87)).setRow b ({ s with bits := x, i := ⟨d0, d1, d2, d3, d4, d5, d6, d7⟩ } : SV).ca).cell? ⟨b, 83, none⟩ = some (.int .u64 s.h.pc) := q3.c 83; have n108 : ((w2.alloc (.cells #[.int .i64 d0, .int .i64 d1, .int .i64 d2, .int .i64 d3, .int .i64 d4, .int .i64 d5, .int .i64 d6, .bool d7] 87)).setRow b ({ s with bits := x, i := ⟨d0, d1, d2, d3, d4, d5, d6, d7⟩ } : SV).ca).cell? ⟨b, 108, none⟩ = some (.int .u64 x) := q3.c 108; have nf : ∀ k, ((w2.alloc (.cells #[.int .i64 d0, .int .i64 d1, .int .i64 d2, .int .i64 d3, .int .i64 d4, .int .i64 d5, .int .i64 d6, .bool d7] 87)).setRow b ({ s with bits := x, i := ⟨d0, d1, d2, d3, d4, d5, d6, d7⟩ } : SV).ca).frozen? ⟨b, k, none⟩ = false := q3.f; have HS3 := C.hid q3; clear q3))
  simp only [Act.put]
  refine wp_region_last_lit (by simp) (by kernel_rfl) (by kernel_rfl) (by kernel_rfl) ?_
  simp only [List.dropLast, List.getLast]
  repeat (go_big_quiet_step ((go_at_call 101; exact Calls.quiet_of_same (m_Size4 (x % 65536) (by omega) (by omega) (by omega) _))))
  refine wpQuiet_nil ?_
  intro _ hwq
  obtain ⟨nq, hwq⟩ := hwq
  subst hwq
  go_wp2
  go_ret
  exact ⟨rfl, (HS3.out.drewN nq).set 83 _ rfl, (only_dn (HO2.out.setRow (.inl rfl) _) nq).setCell (.inl rfl) _⟩
end Go.Proofs.YtooagjndelbegaaGreatDoor
