/- Operations of registers: what a step with an immediate does. -/
import Derived.Test.YtooagjndelbegaaGreatDoorHF
import Derived.Test.YtooagjndelbegaaGreatDoorMA1
import Derived.Test.YtooagjndelbegaaGreatDoorMH1
import Derived.Test.YtooagjndelbegaaGreatDoorMH3
import Derived.Test.YtooagjndelbegaaGreatDoorMH2
import Derived.DeepKeys
import Derived.Test.YtooagjndelbegaaGreatDoorMC2
namespace Go.Proofs.YtooagjndelbegaaGreatDoor
open Go.RowKit
open C (Only)
set_option linter.unusedVariables false
set_option maxRecDepth 100000

theorem u6_bd (n : Int) : 0 ≤ u6 n ∧ u6 n ≤ 18446744073709551615 := by unfold u6; omega
theorem HOk.rgb {h : HV} (k : HOk h) (r : Int) : 0 ≤ rg h.x r ∧ rg h.x r ≤ 18446744073709551615 := by have := k.x r.toNat; unfold rg; omega
set_option maxHeartbeats 1000000 in
theorem m_aluImm (w : World) (b : Nat) (s : SV) (h : St w b s) (ok : IOk s.i) (hw : HOk s.was) (hv : 0 ≤ A.alu s.i.fn (rg s.was.x s.i.rs1) (u6 s.i.imm) ∧ A.alu s.i.fn (rg s.was.x s.i.rs1) (u6 s.i.imm) < 18446744073709551616) :
    Calls Tryz.prog 143 #[.pointer (some ⟨b, 0, none⟩)] w fun e w' => e = .returned (.tuple #[]) ∧ St w' b { s with h := { s.h with x := setX s.h.x s.i.rd (A.alu s.i.fn (rg s.was.x s.i.rs1) (u6 s.i.imm)) } } ∧ Only (· = b) w w' := by
  have c101 : w.cell? ⟨b, 101, none⟩ = some (.int .i64 s.i.fn) := h.c 101
  obtain ⟨x0, x1⟩ := hw.rgb s.i.rs1
  obtain ⟨y0, y1⟩ := u6_bd s.i.imm
  have HX : Hid (∀ n, Calls Tryz.prog 179 #[.pointer (some ⟨b, 0, none⟩)] (w.drewN n) fun e w' => e = .returned (.int .u64 (rg s.was.x s.i.rs1)) ∧ ∃ m, w' = w.drewN m) := fun n => (m_x _ b s (h.drewN n) ok).mono fun e w' q => ⟨q.1, by obtain ⟨m, hm⟩ := q.2; exact ⟨n + m, by rw [hm]; exact World.drewN_drewN _ _ _⟩⟩
  have HI : Hid (∀ n, Calls Tryz.prog 177 #[.pointer (some ⟨b, 0, none⟩)] (w.drewN n) fun e w' => e = .returned (.int .u64 (u6 s.i.imm)) ∧ w' = w.drewN n) := fun n => m_imm _ b s (h.drewN n) ok
  have HA : Hid (∀ u : World, Calls Tryz.prog 186 #[.int .i64 s.i.fn, .int .u64 (rg s.was.x s.i.rs1), .int .u64 (u6 s.i.imm)] u fun e w' => e = .returned (.int .u64 (A.alu s.i.fn (rg s.was.x s.i.rs1) (u6 s.i.imm))) ∧ w' = u) := fun u => A.m_Alu _ _ _ x0 x1 y0 y1 u
  have HS : Hid (∀ n, Calls Tryz.prog 176 #[.pointer (some ⟨b, 0, none⟩), .int .u64 (A.alu s.i.fn (rg s.was.x s.i.rs1) (u6 s.i.imm))] (w.drewN n) fun e w' => e = .returned (.tuple #[]) ∧ St w' b { s with h := { s.h with x := setX s.h.x s.i.rd (A.alu s.i.fn (rg s.was.x s.i.rs1) (u6 s.i.imm)) } } ∧ Only (· = b) w w') := fun n => (m_set _ b s (h.drewN n) ok _ hv.1 hv.2).mono fun e w' q => ⟨q.1, q.2.1, (only_dn (Only.refl w) n).trans q.2.2⟩
  clear h ok hw hv
  generalize A.alu s.i.fn (rg s.was.x s.i.rs1) (u6 s.i.imm) = V at *
  generalize rg s.was.x s.i.rs1 = X at *
  generalize u6 s.i.imm = Y at *
  go_enter Tryz.func143, Tryz.ntmps143
  go_wp2
  refine wp_region_last_lit (by simp) (by kernel_rfl) (by kernel_rfl) (by kernel_rfl) ?_
  simp only [List.dropLast, List.getLast]
  repeat (go_big_quiet_step ((first | (go_at_call 179; exact HX.out _) | (go_at_call 177; exact Calls.quiet_of_same (HI.out _)) | (go_at_call 186; exact Calls.quiet_of_same (HA.out _)))))
  refine wpQuiet_nil ?_
  intro _ hwq
  obtain ⟨nq, hwq⟩ := hwq
  subst hwq
  go_wp2_with (go_at_call 176; refine (HS.out nq).mono ?_; rintro e w' ⟨rfl, hs, ho⟩)
  go_end0
  exact ⟨rfl, hs, ho⟩
end Go.Proofs.YtooagjndelbegaaGreatDoor
namespace Go.Proofs.YtooagjndelbegaaGreatDoor
open Go.RowKit
open C (Only)
set_option linter.unusedVariables false
set_option maxRecDepth 100000

set_option maxHeartbeats 1000000 in
theorem m_interrupt0 (h : HV) (hu : h.user = false) (ho : h.on = false) (w : World) : Calls Tryz.prog 66 #[h.v] w fun e w' => e = .returned (.tuple #[.int .u64 0, .bool false]) ∧ Below w.heap.size w w' := by
  have sz : h.ca.size = 49 := rfl
  have c33 : ∀ p : 33 < h.ca.size, h.ca[33]'p = .bool false := fun _ => by rw [← hu]; rfl
  have c34 : ∀ p : 34 < h.ca.size, h.ca[34]'p = .bool false := fun _ => by rw [← ho]; rfl
  clear hu ho
  go_enter Tryz.func66, Tryz.ntmps66
  go_wp2
  go_ret2
  exact ⟨rfl, (Below.refl _ _).alloc (Nat.le_refl _) _⟩
/-- a step at its beginning -/
def stp (c : Nat) (now : Int) (o : HV) : SV := ⟨c, now, o, o, B.I.zero, 0, EV.zero, 0, 0⟩
theorem built_step (c : Nat) (now : Int) (o : HV) : Tryz.prog.built 89 [(0, .pointer (some ⟨c, 0, none⟩)), (1, .int .u64 now), (2, o.v), (3, o.v)] = some (stp c now o).ca := by kernel_rfl
theorem wpL_build {P : Program} {ops : Array Oper} {rest : List Oper} {d : Option Nat} {t tt : TypeId} {L : List (Nat × Operand)} {pos : String} {after : Array Edge} {a : Act} {w : World} {Q : Exit → Act → World → Prop} (X : List (Nat × Value)) (cells : Array Value)
    (hX : (L.map fun p => (p.1, a.eval p.2)) = X) (hf : P.built t X = some cells) (h : wpList P ops Q rest (a.put d (.agg cells)) w) : wpList P ops Q ({ dst := d, op := Op.build t L.toArray, type := tt, pos := pos, after := after, guard := none } :: rest) a w :=
  wpList_buildTo rfl t L.toArray rfl d rfl cells (by rw [List.map_toArray]; rw [← hX] at hf; exact hf) h
theorem setRow_size (w : World) (g : Nat) (c : Array Value) : (w.setRow g c).heap.size = w.heap.size := by simp [World.setRow]
theorem ordH_ok {h : HV} (k : HOk h) : HOk (ordH h) := by
  have hb : ∀ n : Int, 0 ≤ n ∧ n < 18446744073709551616 → 0 ≤ ib n ∧ ib n < 18446744073709551616 := fun n q => by
    unfold ib
    rw [u64_and n 546 q.1 q.2 (by omega) (by omega)]
    have : n.toNat &&& (546 : Int).toNat ≤ (546 : Int).toNat := Nat.and_le_right
    have e : (546 : Int).toNat = 546 := rfl
    rw [e] at this
    rw [e]
    omega
  exact { x := fun r => by show 0 ≤ zx h.x r ∧ zx h.x r < _; unfold zx; split; omega; exact k.x r
          pc := by have := k.pc; show 0 ≤ h.pc / 2 * 2 ∧ h.pc / 2 * 2 < _; omega
          stvec := by have := k.stvec; show 0 ≤ h.stvec / 4 * 4 + h.stvec % 2 ∧ h.stvec / 4 * 4 + h.stvec % 2 < _; omega
          sscr := k.sscr
          sepc := by have := k.sepc; show 0 ≤ h.sepc / 2 * 2 ∧ h.sepc / 2 * 2 < _; omega
          scause := k.scause
          stval := k.stval
          sie := hb _ k.sie
          sip := hb _ k.sip
          satp := k.satp
          resv := k.resv }
/-- the step when its instruction has been fetched, and behind an operation with an immediate -/
def s1 (c : Nat) (now : Int) (o : HV) (x : Int) (i : B.I) : SV := { stp c now o with bits := x, i := i, h := { o with pc := (o.pc + 4) % 18446744073709551616 } }
def iv (o : HV) (i : B.I) : Int := A.alu i.fn (rg o.x i.rs1) (u6 i.imm)
def s2 (c : Nat) (now : Int) (o : HV) (x : Int) (i : B.I) : SV := { s1 c now o x i with h := { o with pc := (o.pc + 4) % 18446744073709551616, x := setX o.x i.rd (iv o i) } }
set_option maxHeartbeats 2000000 in
theorem m_run0 (w : World) (c : Nat) (v : CV) (hc : Cr w c v) (h0 : v.root = 0) (S : Nat → Prop) (bs : Int) (n : Nat) (f : Nat → Int) (hm : C.Mem w S v.m bs n f) (hG : B.G w) (h : HV) (ok : HOk h) (hu : h.user = false) (hon : h.on = false) (now : Int) (off : Nat) (hva : h.pc / 2 * 2 = bs + off) (hl : off + 4 ≤ 4096 * n) (sa1 : h.satp < 1152921504606846976) (hq : half f off % 4 = 3) (i : B.I) (hD : B.D (wd f off) = (i, true)) (hi : IOk i) (hk : i.kind = 9) (hv : 0 ≤ iv (ordH h) i ∧ iv (ordH h) i < 18446744073709551616) :
    Calls Tryz.prog 36 #[.pointer (some ⟨c, 0, none⟩), h.v, .int .u64 now] w fun e w' => ∃ b, e = .returned (.pointer (some ⟨b, 0, none⟩)) ∧ St w' b (s2 c now (ordH h) (wd f off) i) ∧ w.heap.size ≤ b ∧ Cr w' c v ∧ Only (· = c) w w' := by
  have oko := ordH_ok ok
  have HFE : Hid (∀ w1 b, Below w.heap.size w w1 → w.heap.size ≤ b → St w1 b (stp c now (ordH h)) → Calls Tryz.prog 68 #[.pointer (some ⟨b, 0, none⟩)] w1 fun e w' => e = .returned (.bool true) ∧ St w' b (s1 c now (ordH h) (wd f off) i) ∧ Only (· = b) w1 w') := fun w1 b hb1 hbl hs => by
    have := m_fetch0 w1 b (stp c now (ordH h)) hs v (hc.below hb1) h0 S bs n f (hm.below hb1) (hG.below hb1) (fun w' ho => hG.below (hb1.trans ((ho.below _ hb1.size (fun k e => by omega))))) off hva hl ok.satp.1 sa1 hq oko.pc.1 oko.pc.2 (by rw [hD])
    rw [hD] at this
    exact this
  have HKI : Hid (∀ w1, Cr w1 c v → Calls Tryz.prog 69 #[.pointer (some ⟨c, 0, none⟩), .int .i64 i.kind] w1 fun e w' => e = .returned (.func (.func 143) #[] #[]) ∧ Cr w' c v ∧ Only (· = c) w1 w') := fun w1 h1 => by
    rw [hk]
    exact m_kind c w1 v h1 9 (by omega) (by omega)
  have HDO : Hid (∀ w1 b, St w1 b (s1 c now (ordH h) (wd f off) i) → Calls Tryz.prog 143 #[.pointer (some ⟨b, 0, none⟩)] w1 fun e w' => e = .returned (.tuple #[]) ∧ St w' b (s2 c now (ordH h) (wd f off) i) ∧ Only (· = b) w1 w') := fun w1 b hs => m_aluImm w1 b _ hs hi oko hv
  have HIN : Hid (∀ w1, Calls Tryz.prog 47 #[h.v] w1 fun e w' => e = .returned (ordH h).v ∧ Below w1.heap.size w1 w') := fun w1 => m_inOrder h ok w1
  have HIT : Hid (∀ w1, Calls Tryz.prog 66 #[(ordH h).v] w1 fun e w' => e = .returned (.tuple #[.int .u64 0, .bool false]) ∧ Below w1.heap.size w1 w') := fun w1 => m_interrupt0 (ordH h) hu hon w1
  have HCR := C.hid hc
  have hcl := hc.lt
  clear hm hG hc ok hu hon hva hl sa1 hq hD hi hk hv oko h0
  generalize hX : wd f off = X at *
  clear hX
  generalize hO : ordH h = o at *
  clear hO
  go_enter Tryz.func36, Tryz.ntmps36
  go_wp2_with (first
    | ((with_reducible refine wpL_loadH (d := some 11) (x := .tmp 4) w.heap.size ?_ h ?_ ?_); rfl; exact heap_alloc_new _ _)
    | (go_at_call 47; refine (HIN.out _).mono ?_; rintro e w1 ⟨rfl, hb⟩; have HG1 := C.hid ((hb.block w.heap.size (by simp)).trans (heap_alloc_new _ _)); have hb1 := ((Below.refl w.heap.size w).alloc (Nat.le_refl _) (.cells h.ca 28)).trans (hb.mono (by simp)); have hr := heap_setRow w1 w.heap.size h.ca o.ca 28 HG1.out; have hlw : w.heap.size ≤ w1.heap.size := hb1.size; have HG3 : Hid (((w1.setRow w.heap.size o.ca).alloc (.cells (stp c now o).ca 89)).heap[w.heap.size]? = some (.cells o.ca 28 (0, 0))) := (heap_alloc_old _ _ (lt_of_block hr)).trans hr; have HST : Hid (St ((w1.setRow w.heap.size o.ca).alloc (.cells (stp c now o).ca 89)) w1.heap.size (stp c now o)) := (by have q := heap_alloc_new (w1.setRow w.heap.size o.ca) (.cells (stp c now o).ca 89); rw [setRow_size] at q; exact q); have HBW : Hid (Below w.heap.size w ((w1.setRow w.heap.size o.ca).alloc (.cells (stp c now o).ca 89))) := (below_setRow hb1 (Nat.le_refl _) _).alloc (by rw [setRow_size]; exact hlw) _; clear hb hb1 hr)
    | ((with_reducible refine wpL_storeH (x := .tmp 4) (y := .tmp 12) w.heap.size ?_ o ?_ h.ca ?_ rfl ?_); rfl; rfl; exact HG1.out)
    | ((with_reducible refine wpL_loadH (d := some 15) (x := .tmp 4) w.heap.size ?_ o ?_ ?_); rfl; exact heap_setRow _ _ _ _ _ HG1.out)
    | ((with_reducible refine wpL_loadH (d := some 16) (x := .tmp 4) w.heap.size ?_ o ?_ ?_); rfl; exact heap_setRow _ _ _ _ _ HG1.out)
    | ((with_reducible refine wpL_build (d := some 17) [(0, .pointer (some ⟨c, 0, none⟩)), (1, .int .u64 now), (2, o.v), (3, o.v)] (stp c now o).ca ?_ (built_step c now o) ?_); rfl)
    | ((with_reducible refine wpL_loadH (d := some 20) (x := .tmp 4) w.heap.size ?_ o ?_ ?_); rfl; exact HG3.out)
    | (go_at_call 66; refine (HIT.out _).mono ?_; rintro e w2 ⟨rfl, hb⟩; have HS2 := C.hid (HST.out.below hb); have HB2 := C.hid (HBW.out.trans (hb.mono HBW.out.size)); clear hb)
    | (go_at_call 68; refine (HFE.out w2 w1.heap.size HB2.out hlw HS2.out).mono ?_; rintro e w3 ⟨rfl, hs, ho⟩; have c100 : w3.cell? ⟨w1.heap.size, 100, none⟩ = some (.int .i64 i.kind) := hs.c 100; have HC3 := C.hid ((HCR.out.below HB2.out).st HS2.out ho); have HS3 := C.hid hs; have HO3 := C.hid ho; clear hs ho)
    | (go_at_call 69; refine (HKI.out w3 HC3.out).mono ?_; rintro e w4 ⟨rfl, hc4, ho4⟩; have HC4 := C.hid hc4; have HO4 := C.hid ho4; have HS4 := C.hid (HS3.out.only ho4 (by omega)); clear hc4 ho4)
    | (go_at_call 143; refine (HDO.out w4 _ HS4.out).mono ?_; rintro e w5 ⟨rfl, hs5, ho5⟩; have HC5 := C.hid (HC4.out.st HS4.out ho5); have HS5 := C.hid hs5; have HO5 := C.hid ho5; clear hs5 ho5))
  go_ret
  refine ⟨_, rfl, HS5.out, hlw, HC5.out, ?_⟩
  exact ((((Only.ofBelow (S := (· = c)) HB2.out).trans' HO3.out (fun k hk e => by omega)).trans HO4.out).trans' HO5.out (fun k hk e => by omega))
theorem m_commit0 (w : World) (b : Nat) (s : SV) (h : St w b s) (he : s.ev.wrote = false) : Calls Tryz.prog 37 #[.pointer (some ⟨b, 0, none⟩)] w fun e w' => e = .returned (.tuple #[]) ∧ w' = w := by
  have c114 : w.cell? ⟨b, 114, none⟩ = some (.bool false) := by rw [← he]; exact h.c 114
  go_enter Tryz.func37, Tryz.ntmps37
  go_wp2
  go_end0
  exact ⟨rfl, rfl⟩
end Go.Proofs.YtooagjndelbegaaGreatDoor
namespace Go.Proofs.YtooagjndelbegaaGreatDoor
open Go.RowKit
set_option linter.unusedVariables false
set_option maxRecDepth 100000

theorem and_one (a : Int) (h0 : 0 ≤ a) (h1 : a < 18446744073709551616) : bits .and .u64 a 1 = a % 2 := by
  obtain ⟨n, rfl⟩ := Int.eq_ofNat_of_zero_le h0
  have e : bits .and .u64 (n : Int) 1 = ((n &&& 1 : Nat) : Int) := u64_and_nat n 1 (by omega) (by omega)
  rw [e, Nat.and_one_is_mod]
  omega
theorem and_63 (a : Int) (h0 : 0 ≤ a) (h1 : a < 18446744073709551616) : bits .and .u64 a 9223372036854775808 = if 9223372036854775808 ≤ a then 9223372036854775808 else 0 := by
  obtain ⟨n, rfl⟩ := Int.eq_ofNat_of_zero_le h0
  have e : bits .and .u64 (n : Int) 9223372036854775808 = ((n &&& 9223372036854775808 : Nat) : Int) := u64_and_nat n 9223372036854775808 (by omega) (by omega)
  rw [e]
  have d : (n &&& 9223372036854775808) / 9223372036854775808 = n / 9223372036854775808 := by
    have := Nat.and_div_two_pow (a := n) (b := 9223372036854775808) (n := 63)
    simp only [show (2 : Nat) ^ 63 = 9223372036854775808 by decide] at this
    rw [this]
    simp only [show (9223372036854775808 : Nat) / 9223372036854775808 = 1 by decide, Nat.and_one_is_mod]
    omega
  have m : (n &&& 9223372036854775808) % 9223372036854775808 = 0 := by
    have := Nat.and_mod_two_pow (a := n) (b := 9223372036854775808) (n := 63)
    simp only [show (2 : Nat) ^ 63 = 9223372036854775808 by decide] at this
    rw [this]
    simp
  split <;> omega
set_option maxHeartbeats 1000000 in
theorem m_Trap_c (h : HV) (ok : HOk h) (cause value : Int) (c0 : 0 ≤ cause) (c1 : cause < 18446744073709551616) (c2 : ¬ 9223372036854775808 ≤ cause) (d0 : 0 ≤ value) (d1 : value < 18446744073709551616) (w : World) : Calls Tryz.prog 18 #[h.v, .int .u64 cause, .int .u64 value] w fun e w' => e = .returned (trapO (ordH h) cause value (bits .andNot .u64 (ordH h).stvec 1)).v ∧ Below w.heap.size w w' := by
  have OK := hid ok
  have OO := hid (ordOk ok)
  clear ok
  go_enter Tryz.func18, Tryz.ntmps18
  go_upto_region 2 with (first
    | ((with_reducible refine wpList_new (z := .agg HV.zero.ca) HV.zero.ca ?_ ?_ ?_); rfl; exact z_hart)
    | ((with_reducible refine wpL_loadH (x := .tmp 3) w.heap.size ?_ h ?_ ?_); rfl; exact heap2 _ _ _)
    | (go_at_call 47; refine (m_inOrder h OK.out _).mono ?_; rintro e w1 ⟨rfl, hb⟩; have HB1 := hid hb; clear hb)
    | ((with_reducible refine wpL_storeH (x := .tmp 3) (y := .tmp 8) w.heap.size ?_ (ordH h) ?_ h.ca ?_ rfl ?_); rfl; rfl; exact (HB1.out.block _ (by simp; omega)).trans (heap2 _ _ _)))
  have HP : Hid (w1.heap[w.heap.size]? = some (.cells h.ca 28 (0, 0))) := (HB1.out.block _ (by simp; omega)).trans (heap2 _ _ _)
  have HQ : Hid (w1.heap[w.heap.size + 1]? = some (.cells HV.zero.ca 28 (0, 0))) := (HB1.out.block _ (by simp)).trans (heap2' _ _ _)
  have HB0 : Hid (Below w.heap.size w w1) := (below2 _ _).trans (HB1.out.mono (by simp; omega))
  obtain ⟨o, ho⟩ : ∃ o, o = ordH h := ⟨_, rfl⟩
  rw [← ho] at OO ⊢
  have HO := hid ho
  clear ho
  obtain ⟨wa, hwa⟩ : ∃ wa, wa = w1.setRow w.heap.size o.ca := ⟨_, rfl⟩
  have HR : Hid (wa.heap[w.heap.size]? = some (.cells o.ca 28 (0, 0))) := by show _ = _; rw [hwa]; exact heap_setRow _ _ _ _ _ HP.out
  have HZ : Hid (wa.heap[w.heap.size + 1]? = some (.cells HV.zero.ca 28 (0, 0))) := by show _ = _; rw [hwa, setRow_other _ _ _ _ (by omega)]; exact HQ.out
  have HW : Hid (Below w.heap.size w wa) := by show Below _ _ _; rw [hwa]; exact below_setRow HB0.out (Nat.le_refl _) _
  rw [← hwa]
  clear hwa HP HQ HB0 HB1
  have x32 := row_cellH HR.out 32 (v := .int .u64 o.pc) (by simp [HV.ca, HV.cs])
  have x33 := row_cellH HR.out 33 (v := .bool o.user) (by simp [HV.ca, HV.cs])
  have x34 := row_cellH HR.out 34 (v := .bool o.on) (by simp [HV.ca, HV.cs])
  have x40 := row_cellH HR.out 40 (v := .int .u64 o.stvec) (by simp [HV.ca, HV.cs])
  have x35 := row_cellH HR.out 35 (v := .bool o.spie) (by simp [HV.ca, HV.cs])
  have x36 := row_cellH HR.out 36 (v := .bool o.spp) (by simp [HV.ca, HV.cs])
  have x42 := row_cellH HR.out 42 (v := .int .u64 o.sepc) (by simp [HV.ca, HV.cs])
  have x43 := row_cellH HR.out 43 (v := .int .u64 o.scause) (by simp [HV.ca, HV.cs])
  have x44 := row_cellH HR.out 44 (v := .int .u64 o.stval) (by simp [HV.ca, HV.cs])
  have fz := row_fz HR.out
  obtain ⟨t0, t1⟩ := OO.out.stvec
  have e1 : bits .and .u64 cause 9223372036854775808 = 0 := by rw [and_63 _ c0 c1, if_neg (by omega)]
  go_wp2_with (first
    | ((with_reducible refine wpL_loadH (x := .tmp 3) w.heap.size ?_ (trapO o cause value (bits .andNot .u64 o.stvec 1)) ?_ ?_); rfl; exact (row_set (row_set (row_set (row_set (row_set (row_set (row_set (row_set HR.out 42 _) 43 _) 44 _) 36 _) 35 _) 34 _) 33 _) 32 _).trans (by rw [← trap_ca]))
    | ((with_reducible refine wpL_storeH (x := .tmp 6) (y := .tmp 45) (w.heap.size + 1) ?_ (trapO o cause value (bits .andNot .u64 o.stvec 1)) ?_ HV.zero.ca ?_ rfl ?_); rfl; rfl; exact (Below.heap_setCell _ _ _ _ (by show w.heap.size + 1 ≠ w.heap.size; omega)).trans ((Below.heap_setCell _ _ _ _ (by show w.heap.size + 1 ≠ w.heap.size; omega)).trans ((Below.heap_setCell _ _ _ _ (by show w.heap.size + 1 ≠ w.heap.size; omega)).trans ((Below.heap_setCell _ _ _ _ (by show w.heap.size + 1 ≠ w.heap.size; omega)).trans ((Below.heap_setCell _ _ _ _ (by show w.heap.size + 1 ≠ w.heap.size; omega)).trans ((Below.heap_setCell _ _ _ _ (by show w.heap.size + 1 ≠ w.heap.size; omega)).trans ((Below.heap_setCell _ _ _ _ (by show w.heap.size + 1 ≠ w.heap.size; omega)).trans ((Below.heap_setCell _ _ _ _ (by show w.heap.size + 1 ≠ w.heap.size; omega)).trans (HZ.out))))))))))
  refine bodyPost_ret (ret_row Tryz.results18 (w.heap.size + 1) (trapO o cause value (bits .andNot .u64 o.stvec 1)) rfl (heap_setRow _ _ _ _ _ ((Below.heap_setCell _ _ _ _ (by show w.heap.size + 1 ≠ w.heap.size; omega)).trans ((Below.heap_setCell _ _ _ _ (by show w.heap.size + 1 ≠ w.heap.size; omega)).trans ((Below.heap_setCell _ _ _ _ (by show w.heap.size + 1 ≠ w.heap.size; omega)).trans ((Below.heap_setCell _ _ _ _ (by show w.heap.size + 1 ≠ w.heap.size; omega)).trans ((Below.heap_setCell _ _ _ _ (by show w.heap.size + 1 ≠ w.heap.size; omega)).trans ((Below.heap_setCell _ _ _ _ (by show w.heap.size + 1 ≠ w.heap.size; omega)).trans ((Below.heap_setCell _ _ _ _ (by show w.heap.size + 1 ≠ w.heap.size; omega)).trans ((Below.heap_setCell _ _ _ _ (by show w.heap.size + 1 ≠ w.heap.size; omega)).trans (HZ.out))))))))))) rfl ⟨by rw [HO.out], ?_⟩
  refine below_setRow ?_ (by omega) _
  exact ((((((((HW.out).setCell (p := ⟨w.heap.size, _, none⟩) (Nat.le_refl _) _).setCell (p := ⟨w.heap.size, _, none⟩) (Nat.le_refl _) _).setCell (p := ⟨w.heap.size, _, none⟩) (Nat.le_refl _) _).setCell (p := ⟨w.heap.size, _, none⟩) (Nat.le_refl _) _).setCell (p := ⟨w.heap.size, _, none⟩) (Nat.le_refl _) _).setCell (p := ⟨w.heap.size, _, none⟩) (Nat.le_refl _) _).setCell (p := ⟨w.heap.size, _, none⟩) (Nat.le_refl _) _).setCell (p := ⟨w.heap.size, _, none⟩) (Nat.le_refl _) _
set_option maxHeartbeats 1000000 in
theorem m_Trap_b (h : HV) (ok : HOk h) (cause value : Int) (c0 : 0 ≤ cause) (c1 : cause < 18446744073709551616) (c2 : 9223372036854775808 ≤ cause) (hs : (ordH h).stvec % 2 = 0) (d0 : 0 ≤ value) (d1 : value < 18446744073709551616) (w : World) : Calls Tryz.prog 18 #[h.v, .int .u64 cause, .int .u64 value] w fun e w' => e = .returned (trapO (ordH h) cause value (bits .andNot .u64 (ordH h).stvec 1)).v ∧ Below w.heap.size w w' := by
  have OK := hid ok
  have OO := hid (ordOk ok)
  clear ok
  go_enter Tryz.func18, Tryz.ntmps18
  go_upto_region 2 with (first
    | ((with_reducible refine wpList_new (z := .agg HV.zero.ca) HV.zero.ca ?_ ?_ ?_); rfl; exact z_hart)
    | ((with_reducible refine wpL_loadH (x := .tmp 3) w.heap.size ?_ h ?_ ?_); rfl; exact heap2 _ _ _)
    | (go_at_call 47; refine (m_inOrder h OK.out _).mono ?_; rintro e w1 ⟨rfl, hb⟩; have HB1 := hid hb; clear hb)
    | ((with_reducible refine wpL_storeH (x := .tmp 3) (y := .tmp 8) w.heap.size ?_ (ordH h) ?_ h.ca ?_ rfl ?_); rfl; rfl; exact (HB1.out.block _ (by simp; omega)).trans (heap2 _ _ _)))
  have HP : Hid (w1.heap[w.heap.size]? = some (.cells h.ca 28 (0, 0))) := (HB1.out.block _ (by simp; omega)).trans (heap2 _ _ _)
  have HQ : Hid (w1.heap[w.heap.size + 1]? = some (.cells HV.zero.ca 28 (0, 0))) := (HB1.out.block _ (by simp)).trans (heap2' _ _ _)
  have HB0 : Hid (Below w.heap.size w w1) := (below2 _ _).trans (HB1.out.mono (by simp; omega))
  obtain ⟨o, ho⟩ : ∃ o, o = ordH h := ⟨_, rfl⟩
  rw [← ho] at OO hs ⊢
  have HO := hid ho
  clear ho
  obtain ⟨wa, hwa⟩ : ∃ wa, wa = w1.setRow w.heap.size o.ca := ⟨_, rfl⟩
  have HR : Hid (wa.heap[w.heap.size]? = some (.cells o.ca 28 (0, 0))) := by show _ = _; rw [hwa]; exact heap_setRow _ _ _ _ _ HP.out
  have HZ : Hid (wa.heap[w.heap.size + 1]? = some (.cells HV.zero.ca 28 (0, 0))) := by show _ = _; rw [hwa, setRow_other _ _ _ _ (by omega)]; exact HQ.out
  have HW : Hid (Below w.heap.size w wa) := by show Below _ _ _; rw [hwa]; exact below_setRow HB0.out (Nat.le_refl _) _
  rw [← hwa]
  clear hwa HP HQ HB0 HB1
  have x32 := row_cellH HR.out 32 (v := .int .u64 o.pc) (by simp [HV.ca, HV.cs])
  have x33 := row_cellH HR.out 33 (v := .bool o.user) (by simp [HV.ca, HV.cs])
  have x34 := row_cellH HR.out 34 (v := .bool o.on) (by simp [HV.ca, HV.cs])
  have x40 := row_cellH HR.out 40 (v := .int .u64 o.stvec) (by simp [HV.ca, HV.cs])
  have x35 := row_cellH HR.out 35 (v := .bool o.spie) (by simp [HV.ca, HV.cs])
  have x36 := row_cellH HR.out 36 (v := .bool o.spp) (by simp [HV.ca, HV.cs])
  have x42 := row_cellH HR.out 42 (v := .int .u64 o.sepc) (by simp [HV.ca, HV.cs])
  have x43 := row_cellH HR.out 43 (v := .int .u64 o.scause) (by simp [HV.ca, HV.cs])
  have x44 := row_cellH HR.out 44 (v := .int .u64 o.stval) (by simp [HV.ca, HV.cs])
  have fz := row_fz HR.out
  obtain ⟨t0, t1⟩ := OO.out.stvec
  have e1 : bits .and .u64 cause 9223372036854775808 = 9223372036854775808 := by rw [and_63 _ c0 c1, if_pos (by omega)]
  have e2 : bits .and .u64 o.stvec 1 = 0 := by rw [and_one _ t0 t1]; exact hs
  clear hs
  go_wp2_with (first
    | ((with_reducible refine wpL_loadH (x := .tmp 3) w.heap.size ?_ (trapO o cause value (bits .andNot .u64 o.stvec 1)) ?_ ?_); rfl; exact (row_set (row_set (row_set (row_set (row_set (row_set (row_set (row_set HR.out 42 _) 43 _) 44 _) 36 _) 35 _) 34 _) 33 _) 32 _).trans (by rw [← trap_ca]))
    | ((with_reducible refine wpL_storeH (x := .tmp 6) (y := .tmp 45) (w.heap.size + 1) ?_ (trapO o cause value (bits .andNot .u64 o.stvec 1)) ?_ HV.zero.ca ?_ rfl ?_); rfl; rfl; exact (Below.heap_setCell _ _ _ _ (by show w.heap.size + 1 ≠ w.heap.size; omega)).trans ((Below.heap_setCell _ _ _ _ (by show w.heap.size + 1 ≠ w.heap.size; omega)).trans ((Below.heap_setCell _ _ _ _ (by show w.heap.size + 1 ≠ w.heap.size; omega)).trans ((Below.heap_setCell _ _ _ _ (by show w.heap.size + 1 ≠ w.heap.size; omega)).trans ((Below.heap_setCell _ _ _ _ (by show w.heap.size + 1 ≠ w.heap.size; omega)).trans ((Below.heap_setCell _ _ _ _ (by show w.heap.size + 1 ≠ w.heap.size; omega)).trans ((Below.heap_setCell _ _ _ _ (by show w.heap.size + 1 ≠ w.heap.size; omega)).trans ((Below.heap_setCell _ _ _ _ (by show w.heap.size + 1 ≠ w.heap.size; omega)).trans (HZ.out))))))))))
  refine bodyPost_ret (ret_row Tryz.results18 (w.heap.size + 1) (trapO o cause value (bits .andNot .u64 o.stvec 1)) rfl (heap_setRow _ _ _ _ _ ((Below.heap_setCell _ _ _ _ (by show w.heap.size + 1 ≠ w.heap.size; omega)).trans ((Below.heap_setCell _ _ _ _ (by show w.heap.size + 1 ≠ w.heap.size; omega)).trans ((Below.heap_setCell _ _ _ _ (by show w.heap.size + 1 ≠ w.heap.size; omega)).trans ((Below.heap_setCell _ _ _ _ (by show w.heap.size + 1 ≠ w.heap.size; omega)).trans ((Below.heap_setCell _ _ _ _ (by show w.heap.size + 1 ≠ w.heap.size; omega)).trans ((Below.heap_setCell _ _ _ _ (by show w.heap.size + 1 ≠ w.heap.size; omega)).trans ((Below.heap_setCell _ _ _ _ (by show w.heap.size + 1 ≠ w.heap.size; omega)).trans ((Below.heap_setCell _ _ _ _ (by show w.heap.size + 1 ≠ w.heap.size; omega)).trans (HZ.out))))))))))) rfl ⟨by rw [HO.out], ?_⟩
  refine below_setRow ?_ (by omega) _
  exact ((((((((HW.out).setCell (p := ⟨w.heap.size, _, none⟩) (Nat.le_refl _) _).setCell (p := ⟨w.heap.size, _, none⟩) (Nat.le_refl _) _).setCell (p := ⟨w.heap.size, _, none⟩) (Nat.le_refl _) _).setCell (p := ⟨w.heap.size, _, none⟩) (Nat.le_refl _) _).setCell (p := ⟨w.heap.size, _, none⟩) (Nat.le_refl _) _).setCell (p := ⟨w.heap.size, _, none⟩) (Nat.le_refl _) _).setCell (p := ⟨w.heap.size, _, none⟩) (Nat.le_refl _) _).setCell (p := ⟨w.heap.size, _, none⟩) (Nat.le_refl _) _
set_option maxHeartbeats 1000000 in
theorem m_Trap_a (h : HV) (ok : HOk h) (cause value : Int) (c0 : 0 ≤ cause) (c1 : cause < 18446744073709551616) (c2 : 9223372036854775808 ≤ cause) (hs : (ordH h).stvec % 2 = 1) (d0 : 0 ≤ value) (d1 : value < 18446744073709551616) (w : World) : Calls Tryz.prog 18 #[h.v, .int .u64 cause, .int .u64 value] w fun e w' => e = .returned (trapO (ordH h) cause value (IntKind.u64.wrap (bits .andNot .u64 (ordH h).stvec 1 + IntKind.u64.wrap (4 * bits .andNot .u64 cause 9223372036854775808)))).v ∧ Below w.heap.size w w' := by
  have OK := hid ok
  have OO := hid (ordOk ok)
  clear ok
  go_enter Tryz.func18, Tryz.ntmps18
  go_upto_region 2 with (first
    | ((with_reducible refine wpList_new (z := .agg HV.zero.ca) HV.zero.ca ?_ ?_ ?_); rfl; exact z_hart)
    | ((with_reducible refine wpL_loadH (x := .tmp 3) w.heap.size ?_ h ?_ ?_); rfl; exact heap2 _ _ _)
    | (go_at_call 47; refine (m_inOrder h OK.out _).mono ?_; rintro e w1 ⟨rfl, hb⟩; have HB1 := hid hb; clear hb)
    | ((with_reducible refine wpL_storeH (x := .tmp 3) (y := .tmp 8) w.heap.size ?_ (ordH h) ?_ h.ca ?_ rfl ?_); rfl; rfl; exact (HB1.out.block _ (by simp; omega)).trans (heap2 _ _ _)))
  have HP : Hid (w1.heap[w.heap.size]? = some (.cells h.ca 28 (0, 0))) := (HB1.out.block _ (by simp; omega)).trans (heap2 _ _ _)
  have HQ : Hid (w1.heap[w.heap.size + 1]? = some (.cells HV.zero.ca 28 (0, 0))) := (HB1.out.block _ (by simp)).trans (heap2' _ _ _)
  have HB0 : Hid (Below w.heap.size w w1) := (below2 _ _).trans (HB1.out.mono (by simp; omega))
  obtain ⟨o, ho⟩ : ∃ o, o = ordH h := ⟨_, rfl⟩
  rw [← ho] at OO hs ⊢
  have HO := hid ho
  clear ho
  obtain ⟨wa, hwa⟩ : ∃ wa, wa = w1.setRow w.heap.size o.ca := ⟨_, rfl⟩
  have HR : Hid (wa.heap[w.heap.size]? = some (.cells o.ca 28 (0, 0))) := by show _ = _; rw [hwa]; exact heap_setRow _ _ _ _ _ HP.out
  have HZ : Hid (wa.heap[w.heap.size + 1]? = some (.cells HV.zero.ca 28 (0, 0))) := by show _ = _; rw [hwa, setRow_other _ _ _ _ (by omega)]; exact HQ.out
  have HW : Hid (Below w.heap.size w wa) := by show Below _ _ _; rw [hwa]; exact below_setRow HB0.out (Nat.le_refl _) _
  rw [← hwa]
  clear hwa HP HQ HB0 HB1
  have x32 := row_cellH HR.out 32 (v := .int .u64 o.pc) (by simp [HV.ca, HV.cs])
  have x33 := row_cellH HR.out 33 (v := .bool o.user) (by simp [HV.ca, HV.cs])
  have x34 := row_cellH HR.out 34 (v := .bool o.on) (by simp [HV.ca, HV.cs])
  have x40 := row_cellH HR.out 40 (v := .int .u64 o.stvec) (by simp [HV.ca, HV.cs])
  have x35 := row_cellH HR.out 35 (v := .bool o.spie) (by simp [HV.ca, HV.cs])
  have x36 := row_cellH HR.out 36 (v := .bool o.spp) (by simp [HV.ca, HV.cs])
  have x42 := row_cellH HR.out 42 (v := .int .u64 o.sepc) (by simp [HV.ca, HV.cs])
  have x43 := row_cellH HR.out 43 (v := .int .u64 o.scause) (by simp [HV.ca, HV.cs])
  have x44 := row_cellH HR.out 44 (v := .int .u64 o.stval) (by simp [HV.ca, HV.cs])
  have fz := row_fz HR.out
  obtain ⟨t0, t1⟩ := OO.out.stvec
  have e1 : bits .and .u64 cause 9223372036854775808 = 9223372036854775808 := by rw [and_63 _ c0 c1, if_pos (by omega)]
  have e2 : bits .and .u64 o.stvec 1 = 1 := by rw [and_one _ t0 t1]; exact hs
  clear hs
  go_wp2_with (first
    | ((with_reducible refine wpL_loadH (x := .tmp 3) w.heap.size ?_ (trapO o cause value (IntKind.u64.wrap (bits .andNot .u64 o.stvec 1 + IntKind.u64.wrap (4 * bits .andNot .u64 cause 9223372036854775808)))) ?_ ?_); rfl; exact (row_set (row_set (row_set (row_set (row_set (row_set (row_set (row_set (row_set HR.out 42 _) 43 _) 44 _) 36 _) 35 _) 34 _) 33 _) 32 _) 32 _).trans (by rw [← trap_ca9 _ _ _ (bits .andNot .u64 o.stvec 1)]))
    | ((with_reducible refine wpL_storeH (x := .tmp 6) (y := .tmp 45) (w.heap.size + 1) ?_ (trapO o cause value (IntKind.u64.wrap (bits .andNot .u64 o.stvec 1 + IntKind.u64.wrap (4 * bits .andNot .u64 cause 9223372036854775808)))) ?_ HV.zero.ca ?_ rfl ?_); rfl; rfl; exact (Below.heap_setCell _ _ _ _ (by show w.heap.size + 1 ≠ w.heap.size; omega)).trans ((Below.heap_setCell _ _ _ _ (by show w.heap.size + 1 ≠ w.heap.size; omega)).trans ((Below.heap_setCell _ _ _ _ (by show w.heap.size + 1 ≠ w.heap.size; omega)).trans ((Below.heap_setCell _ _ _ _ (by show w.heap.size + 1 ≠ w.heap.size; omega)).trans ((Below.heap_setCell _ _ _ _ (by show w.heap.size + 1 ≠ w.heap.size; omega)).trans ((Below.heap_setCell _ _ _ _ (by show w.heap.size + 1 ≠ w.heap.size; omega)).trans ((Below.heap_setCell _ _ _ _ (by show w.heap.size + 1 ≠ w.heap.size; omega)).trans ((Below.heap_setCell _ _ _ _ (by show w.heap.size + 1 ≠ w.heap.size; omega)).trans ((Below.heap_setCell _ _ _ _ (by show w.heap.size + 1 ≠ w.heap.size; omega)).trans (HZ.out)))))))))))
  refine bodyPost_ret (ret_row Tryz.results18 (w.heap.size + 1) (trapO o cause value (IntKind.u64.wrap (bits .andNot .u64 o.stvec 1 + IntKind.u64.wrap (4 * bits .andNot .u64 cause 9223372036854775808)))) rfl (heap_setRow _ _ _ _ _ ((Below.heap_setCell _ _ _ _ (by show w.heap.size + 1 ≠ w.heap.size; omega)).trans ((Below.heap_setCell _ _ _ _ (by show w.heap.size + 1 ≠ w.heap.size; omega)).trans ((Below.heap_setCell _ _ _ _ (by show w.heap.size + 1 ≠ w.heap.size; omega)).trans ((Below.heap_setCell _ _ _ _ (by show w.heap.size + 1 ≠ w.heap.size; omega)).trans ((Below.heap_setCell _ _ _ _ (by show w.heap.size + 1 ≠ w.heap.size; omega)).trans ((Below.heap_setCell _ _ _ _ (by show w.heap.size + 1 ≠ w.heap.size; omega)).trans ((Below.heap_setCell _ _ _ _ (by show w.heap.size + 1 ≠ w.heap.size; omega)).trans ((Below.heap_setCell _ _ _ _ (by show w.heap.size + 1 ≠ w.heap.size; omega)).trans ((Below.heap_setCell _ _ _ _ (by show w.heap.size + 1 ≠ w.heap.size; omega)).trans (HZ.out)))))))))))) rfl ⟨by rw [HO.out], ?_⟩
  refine below_setRow ?_ (by omega) _
  exact (((((((((HW.out).setCell (p := ⟨w.heap.size, _, none⟩) (Nat.le_refl _) _).setCell (p := ⟨w.heap.size, _, none⟩) (Nat.le_refl _) _).setCell (p := ⟨w.heap.size, _, none⟩) (Nat.le_refl _) _).setCell (p := ⟨w.heap.size, _, none⟩) (Nat.le_refl _) _).setCell (p := ⟨w.heap.size, _, none⟩) (Nat.le_refl _) _).setCell (p := ⟨w.heap.size, _, none⟩) (Nat.le_refl _) _).setCell (p := ⟨w.heap.size, _, none⟩) (Nat.le_refl _) _).setCell (p := ⟨w.heap.size, _, none⟩) (Nat.le_refl _) _).setCell (p := ⟨w.heap.size, _, none⟩) (Nat.le_refl _) _
end Go.Proofs.YtooagjndelbegaaGreatDoor
namespace Go.Proofs.YtooagjndelbegaaGreatDoor
open Go.RowKit
set_option linter.unusedVariables false
set_option maxRecDepth 100000

theorem ib_ib (n : Int) (h : 0 ≤ n ∧ n < 18446744073709551616) : ib (ib n) = ib n := by
  obtain ⟨k, rfl⟩ := Int.eq_ofNat_of_zero_le h.1
  have e : ib (k : Int) = ((k &&& 546 : Nat) : Int) := u64_and_nat k 546 (by omega) (by omega)
  rw [e]
  have l : k &&& 546 ≤ 546 := Nat.and_le_right
  have e2 : ib ((k &&& 546 : Nat) : Int) = (((k &&& 546) &&& 546 : Nat) : Int) := u64_and_nat (k &&& 546) 546 (by omega) (by omega)
  rw [e2, Nat.and_assoc, Nat.and_self]
theorem zx_zx (x : Nat → Int) : zx (zx x) = zx x := by funext r; unfold zx; split <;> rfl
theorem ord_trap (h : HV) (ok : HOk h) (cause value pc : Int) (hp : pc / 2 * 2 = pc) : ordH (trapO (ordH h) cause value pc) = trapO (ordH h) cause value pc := by
  have e1 := zx_zx h.x
  have e2 : h.pc / 2 * 2 / 2 * 2 = h.pc / 2 * 2 := by omega
  have e3 : (h.stvec / 4 * 4 + h.stvec % 2) / 4 * 4 + (h.stvec / 4 * 4 + h.stvec % 2) % 2 = h.stvec / 4 * 4 + h.stvec % 2 := by omega
  have e4 := ib_ib h.sie ok.sie
  have e5 := ib_ib h.sip ok.sip
  simp only [ordH, trapO, e1, e2, e3, e4, e5, hp]
theorem wrap_u (z : Int) : IntKind.u64.wrap z = z % 18446744073709551616 := by simp [IntKind.wrap, IntKind.bits, IntKind.signed]
theorem m_Trap (h : HV) (ok : HOk h) (cause value : Int) (c0 : 0 ≤ cause) (c1 : cause < 18446744073709551616) (d0 : 0 ≤ value) (d1 : value < 18446744073709551616) (w : World) : Calls Tryz.prog 18 #[h.v, .int .u64 cause, .int .u64 value] w fun e w' => e = .returned (trapH h cause value).v ∧ Below w.heap.size w w' := by
  obtain ⟨t0, t1⟩ := (ordOk ok).stvec
  have es : (ordH h).stvec / 2 * 2 = (ordH h).stvec / 4 * 4 := by show (h.stvec / 4 * 4 + h.stvec % 2) / 2 * 2 = (h.stvec / 4 * 4 + h.stvec % 2) / 4 * 4; omega
  have en : bits .andNot .u64 (ordH h).stvec 1 = (ordH h).stvec / 4 * 4 := by rw [not1 _ t0 t1, es]
  unfold trapH
  by_cases c2 : 9223372036854775808 ≤ cause
  · by_cases hs : (ordH h).stvec % 2 = 1
    · have ep : trapPC (ordH h) cause = IntKind.u64.wrap (bits .andNot .u64 (ordH h).stvec 1 + IntKind.u64.wrap (4 * bits .andNot .u64 cause 9223372036854775808)) := by
        unfold trapPC
        rw [if_pos ⟨c2, hs⟩, en, not63 _ c0 c1, show cause % 9223372036854775808 = cause - 9223372036854775808 by omega]
      rw [ep, ord_trap h ok _ _ _ (by rw [en, wrap_u, wrap_u]; omega)]
      exact m_Trap_a h ok cause value c0 c1 c2 hs d0 d1 w
    · have ep : trapPC (ordH h) cause = bits .andNot .u64 (ordH h).stvec 1 := by unfold trapPC; rw [if_neg (fun x => hs x.2), en]
      rw [ep, ord_trap h ok _ _ _ (by rw [en]; omega)]
      exact m_Trap_b h ok cause value c0 c1 c2 (by omega) d0 d1 w
  · have ep : trapPC (ordH h) cause = bits .andNot .u64 (ordH h).stvec 1 := by unfold trapPC; rw [if_neg (fun x => c2 x.1), en]
    rw [ep, ord_trap h ok _ _ _ (by rw [en]; omega)]
    exact m_Trap_c h ok cause value c0 c1 c2 d0 d1 w
theorem wpQuiet_loadH {ops : Array Oper} {C : World → Prop} {Q : Act → Prop} {rest : List Oper} {d : Option Nat} {tt : TypeId} {x : Operand} {pos : String} {after : Array Edge} {a : Act} (g : Nat) (h : HV) (hx : a.eval x = .pointer (some ⟨g, 0, none⟩))
    (hg : ∀ w', C w' → w'.heap[g]? = some (.cells h.ca 28 (0, 0))) (hK : wpQuiet Tryz.prog ops C Q rest (a.put d h.v)) : wpQuiet Tryz.prog ops C Q ({ dst := d, op := Op.load 28 x, type := tt, pos := pos, after := after, guard := none } :: rest) a := by
  refine wpQuiet_step fun K hK' => ?_
  rw [if_pos (by simp [Region.wanted])]
  refine ⟨h.v, fun w' hw' => ?_, hK' _ hK⟩
  unfold Oper.quietAt execOp
  simp only [hx, Instr.loadAt, Instr.sureAddr, Sem.run_bind, Sem.run_pure, Result.andThen_ok, run_loadVar_row w' g 28 28 h.ca (0, 0) (.struct (Tryz.prog.fieldsOf 28)) (hg w' hw') u_hart rfl (by rw [s_hart]; rfl)]
  exact ⟨rfl, rfl⟩
end Go.Proofs.YtooagjndelbegaaGreatDoor
namespace Go.Proofs.YtooagjndelbegaaGreatDoor
open Go.RowKit
set_option linter.unusedVariables false
set_option maxRecDepth 100000

section
variable {P : Program} (w : World)
theorem eqFields_refl (d : Nat) (xs : Array Value) : ∀ fs : List Field, (∀ f ∈ fs, ∃ v, (part f.type xs f.offset).run P w = .ok v w ∧ (Op.equalIn d f.type v v).run P w = .ok true w) → (Op.eqFields d xs xs fs).run P w = .ok true w
  | [], _ => by simp [Op.eqFields]
  | f :: fs, h => by
    obtain ⟨v, h1, h2⟩ := h f (by simp)
    have ih := eqFields_refl d xs fs fun g hg => h g (by simp [hg])
    simp only [Op.eqFields]
    split
    · simp [Sem.run_bind, h1, h2, ih]
    · exact ih
theorem eqItems_refl (d : Nat) (e : TypeId) (c : Nat) (xs : Array Value) : ∀ is : List Nat, (∀ i ∈ is, ∃ v, (part e xs (i * c)).run P w = .ok v w ∧ (Op.equalIn d e v v).run P w = .ok true w) → (Op.eqItems d e c xs xs is).run P w = .ok true w
  | [], _ => by simp [Op.eqItems]
  | i :: is, h => by
    obtain ⟨v, h1, h2⟩ := h i (by simp)
    have ih := eqItems_refl d e c xs is fun g hg => h g (by simp [hg])
    simp [Op.eqItems, Sem.run_bind, h1, h2, ih]
end
theorem eq_u64 (n : Int) (d : Nat) (w : World) : (Op.equalIn (d + 1) 22 (.int .u64 n) (.int .u64 n)).run Tryz.prog w = .ok true w := by
  have hu : Tryz.prog.underlying 22 = some (.int .u64) := by kernel_rfl
  simp [Op.equalIn, run_underlying hu]
theorem eq_bool (b : Bool) (d : Nat) (w : World) : (Op.equalIn (d + 1) 4 (.bool b) (.bool b)).run Tryz.prog w = .ok true w := by
  have hu : Tryz.prog.underlying 4 = some .bool := by kernel_rfl
  simp [Op.equalIn, run_underlying hu]
theorem pk_u64 : Tryz.prog.plainKey 22 = true := by kernel_rfl
theorem pk_bool : Tryz.prog.plainKey 4 = true := by kernel_rfl
theorem co_u64 : Tryz.prog.cellsOf 22 = 1 := by kernel_rfl
def xsA (h : HV) : Array Value := (h.cs.take 32).toArray
theorem xs_get (h : HV) (r : Nat) (q : r < 32) : (xsA h)[r]? = some (.int .u64 (h.x r)) := by
  simp only [xsA, List.getElem?_toArray]
  rw [List.getElem?_take_of_lt q]
  exact hv_x h r q
theorem u_a32 : Tryz.prog.underlying 26 = some (.array 32 22) := by kernel_rfl
theorem part_x (h : HV) (w : World) : (part 26 h.ca 0).run Tryz.prog w = .ok (.agg (xsA h)) w := by
  have hi : (Tryz.prog.info? 26).map (·.size) = some 32 := by kernel_rfl
  have hx : h.ca.extract 0 32 = xsA h := by unfold HV.ca xsA; rw [List.extract_toArray]; rfl
  cases hq : Tryz.prog.info? 26 with
  | none => rw [hq] at hi; cases hi
  | some i =>
    have hs : i.size = 32 := by rw [hq] at hi; simpa using hi
    have hagg : (isAgg 26).run Tryz.prog w = .ok true w := by
      unfold isAgg
      rw [Sem.run_bind, run_underlying u_a32 w]
      rfl
    simp [part, Sem.run_bind, hagg, sizeOf, typeInfo, hq, hs, hx]
theorem eq_x (h : HV) (w : World) (d : Nat) : (Op.equalIn (d + 1 + 1) 26 (.agg (xsA h)) (.agg (xsA h))).run Tryz.prog w = .ok true w := by
  obtain ⟨i, hi⟩ : ∃ i, Tryz.prog.info? 22 = some i := Option.isSome_iff_exists.1 (by kernel_rfl)
  rw [run_equalIn_array w (d + 1) (xsA h) (xsA h) u_a32 hi]
  refine eqItems_refl w (d + 1) 22 _ (xsA h) _ fun i hi => ⟨.int .u64 (h.x i), ?_, eq_u64 _ d w⟩
  rw [co_u64, Nat.mul_one]
  exact run_part_plain w pk_u64 (xs_get h i (List.mem_range.1 hi))
/-- the fields of a hart: its registers, words, flags -/
def fldB (f : Field) : Bool := (f.type == 26 && f.offset == 0) || (f.type == 22 && (f.offset == 32 || (decide (40 ≤ f.offset) && decide (f.offset < 49)))) || (f.type == 4 && decide (33 ≤ f.offset) && decide (f.offset < 40))
theorem fld_all : (Tryz.prog.fieldsOf 28).toList.all fldB = true := by kernel_rfl
theorem stood_hart : Tryz.prog.stoodInHeld 28 = false := by kernel_rfl
theorem ca_word (h : HV) : ∀ o, (o = 32 ∨ (40 ≤ o ∧ o < 49)) → ∃ n, h.ca[o]? = some (.int .u64 n) := by
  intro o ho
  rcases (by omega : o = 32 ∨ o = 40 ∨ o = 41 ∨ o = 42 ∨ o = 43 ∨ o = 44 ∨ o = 45 ∨ o = 46 ∨ o = 47 ∨ o = 48) with rfl | rfl | rfl | rfl | rfl | rfl | rfl | rfl | rfl | rfl <;> exact ⟨_, rfl⟩
theorem ca_flag (h : HV) : ∀ o, (33 ≤ o ∧ o < 40) → ∃ b, h.ca[o]? = some (.bool b) := by
  intro o ho
  rcases (by omega : o = 33 ∨ o = 34 ∨ o = 35 ∨ o = 36 ∨ o = 37 ∨ o = 38 ∨ o = 39) with rfl | rfl | rfl | rfl | rfl | rfl | rfl <;> exact ⟨_, rfl⟩
theorem run_eqH (h : HV) (w : World) : (Op.equalIn 10000 28 h.v h.v).run Tryz.prog w = .ok true w := by
  rw [run_equalIn_struct w 9999 28 _ _ u_hart stood_hart]
  refine eqFields_refl w 9999 h.ca _ fun f hf => ?_
  have hb := List.all_eq_true.1 fld_all f hf
  simp only [fldB, Bool.or_eq_true, Bool.and_eq_true, beq_iff_eq, decide_eq_true_eq] at hb
  rcases hb with (⟨h1, h2⟩ | ⟨h1, h2⟩) | ⟨⟨h1, h2⟩, h3⟩
  · rw [h1, h2]; exact ⟨_, part_x h w, eq_x h w 9997⟩
  · obtain ⟨n, hn⟩ := ca_word h f.offset h2
    rw [h1]; exact ⟨_, run_part_plain w pk_u64 hn, eq_u64 n 9998 w⟩
  · obtain ⟨n, hn⟩ := ca_flag h f.offset ⟨h2, h3⟩
    rw [h1]; exact ⟨_, run_part_plain w pk_bool hn, eq_bool n 9998 w⟩
end Go.Proofs.YtooagjndelbegaaGreatDoor
namespace Go.Proofs.YtooagjndelbegaaGreatDoor
open Go.RowKit
open C (Only)
set_option linter.unusedVariables false
set_option maxRecDepth 100000

theorem s_event : (Tryz.prog.info? 42).map (·.size) = some 6 := by kernel_rfl
theorem u_event : Tryz.prog.underlying 42 = some (.struct (Tryz.prog.fieldsOf 42)) := by kernel_rfl
theorem only_row6 (w : World) (g : Nat) (cs : Array Value) : Only (· = g) w (w.setRow g cs) := (Only.refl (S := (· = g)) w).setRow (.inl rfl) cs
theorem wpOp_row {P : Program} {ops : Array Oper} {Q : Exit → Act → World → Prop} {i : Nat} {o : Oper} {K : Act → World → Prop} {a : Act} {w : World} (ho : ops[i]? = some o) (hg : o.guard = none) (h : Oper.wp P o a w K Q) : wpOp P ops Q i K a w :=
  wpOp_step ho fun K' hK => by
    rw [if_pos (by simp [Region.wanted, hg])]
    exact Oper.wp_mono hK h
theorem wp_load_sub {P : Program} {o : Oper} {a : Act} {w : World} {K : Act → World → Prop} {Q : Exit → Act → World → Prop} {ty : TypeId} {x : Operand} (ho : o.op = .load ty x)
    (g off : Nat) (t : TypeId) (cs sub : Array Value) (d : TypeDesc) (hx : a.eval x = .pointer (some ⟨g, off, none⟩)) (hg : w.heap[g]? = some (.cells cs t (0, 0)))
    (hs : ∀ j v, sub.toList[j]? = some v → cs[off + j]? = some v) (hu : P.underlying ty = some d) (hd : (match d with | .struct _ | .array _ _ => true | _ => false) = true) (hi : (P.info? ty).map (·.size) = some sub.size)
    (h : K (a.put o.dst (.agg sub)) w) : o.wp P a w K Q := by
  unfold Oper.wp execOp
  simp only [ho, hx, Instr.loadAt, Instr.sureAddr, Sem.run_bind, Sem.run_pure, Result.andThen_ok, run_loadVar_sub w g off t ty cs sub (0, 0) d hg hs hu hd hi]
  exact h
theorem h3a (w : World) (o o1 o2 : Obj) : (((w.alloc o).alloc o1).alloc o2).heap[w.heap.size]? = some o := (heap_alloc_old _ _ (by simp; omega)).trans (heap2 _ _ _)
theorem h3b (w : World) (o o1 o2 : Obj) : (((w.alloc o).alloc o1).alloc o2).heap[w.heap.size + 1]? = some o1 := (heap_alloc_old _ _ (by simp)).trans (heap2' _ _ _)
theorem h3c (w : World) (o o1 o2 : Obj) : (((w.alloc o).alloc o1).alloc o2).heap[w.heap.size + 1 + 1]? = some o2 := by
  have q := heap_alloc_new ((w.alloc o).alloc o1) o2
  have hs : ((w.alloc o).alloc o1).heap.size = w.heap.size + 1 + 1 := by simp
  rw [hs] at q
  exact q
set_option maxHeartbeats 4000000 in
theorem m_Step0 (w : World) (c : Nat) (v : CV) (hc : Cr w c v) (h : HV) (now : Int) (s : SV) (hs : s.ev = EV.zero)
    (hrun : ∀ w1, Below w.heap.size w w1 → Calls Tryz.prog 36 #[.pointer (some ⟨c, 0, none⟩), h.v, .int .u64 now] w1 fun e w' => ∃ b, e = .returned (.pointer (some ⟨b, 0, none⟩)) ∧ St w' b s ∧ w1.heap.size ≤ b ∧ Cr w' c v ∧ Only (· = c) w1 w') :
    Calls Tryz.prog 11 #[.pointer (some ⟨c, 0, none⟩), h.v, .int .u64 now] w fun e w' => e = .returned (.tuple #[s.h.v, EV.zero.v]) ∧ Cr w' c v ∧ Only (· = c) w w' := by
  have hcl := hc.lt
  have HRUN := C.hid hrun
  have HE := C.hid hs
  clear hrun hc hs
  have HW4 : Hid ((((w.alloc (.cells h.ca 28)).alloc (.cells HV.zero.ca 28)).alloc (.cells #[.int .i64 0, .int .i64 0, .int .u64 0, .int .u64 0, .bool false, .bool false] 42)).heap[w.heap.size]? = some (.cells h.ca 28 (0, 0))) := h3a _ _ _ _
  have HW6 : Hid ((((w.alloc (.cells h.ca 28)).alloc (.cells HV.zero.ca 28)).alloc (.cells #[.int .i64 0, .int .i64 0, .int .u64 0, .int .u64 0, .bool false, .bool false] 42)).heap[w.heap.size + 1]? = some (.cells HV.zero.ca 28 (0, 0))) := h3b _ _ _ _
  have HW7 : Hid ((((w.alloc (.cells h.ca 28)).alloc (.cells HV.zero.ca 28)).alloc (.cells #[.int .i64 0, .int .i64 0, .int .u64 0, .int .u64 0, .bool false, .bool false] 42)).heap[w.heap.size + 1 + 1]? = some (.cells EV.zero.cs.toArray 42 (0, 0))) := h3c _ _ _ _
  have HWB : Hid (Below w.heap.size w (((w.alloc (.cells h.ca 28)).alloc (.cells HV.zero.ca 28)).alloc (.cells #[.int .i64 0, .int .i64 0, .int .u64 0, .int .u64 0, .bool false, .bool false] 42))) := (((Below.refl _ _).alloc (Nat.le_refl _) _).alloc (by simp) _).alloc (by simp; omega) _
  have HWS : Hid ((((w.alloc (.cells h.ca 28)).alloc (.cells HV.zero.ca 28)).alloc (.cells #[.int .i64 0, .int .i64 0, .int .u64 0, .int .u64 0, .bool false, .bool false] 42)).heap.size = w.heap.size + 3) := by show _ = _; simp
  go_enter Tryz.func11, Tryz.ntmps11
  go_wp2_with (first
    | ((with_reducible refine wpList_newG (d := some 6) (z := .agg HV.zero.ca) (w.heap.size + 1) ?_ HV.zero.ca ?_ ?_ ?_); simp; rfl; exact z_hart)
    | ((with_reducible refine wpL_loadH (d := some 10) (x := .tmp 4) w.heap.size ?_ h ?_ ?_); rfl; exact HW4.out)
    | (go_at_call 36; refine (HRUN.out _ HWB.out).mono ?_; rintro e w1 ⟨b, rfl, hs, hbl, hc1, ho⟩; rw [HWS.out] at hbl; have HS := C.hid hs; have HC1 := C.hid hc1; have HP6 := C.hid (ho.old HW6.out (by omega)); have HP7 := C.hid (ho.old HW7.out (by omega)); have HO1 := C.hid ((Only.ofBelow (S := (· = c)) HWB.out).trans ho); have HLS := C.hid (ho.size); clear hs hc1 ho)
    | (go_at_call 37; refine (m_commit0 w1 b s HS.out (by rw [HE.out]; rfl)).mono ?_; rintro e w2 ⟨rfl, h2⟩; obtain rfl := h2.symm))
  refine wp_region_any (by kernel_rfl) ?_
  refine C.wpAny_inv (fun listed fr wr => ∃ (b0 b1 b2 b3 b4 b5 b6 b7 b8 b9 : Bool), listed = #[b0, b1, b2, b3, b4, b5, b6, b7, b8, b9] ∧ fr = { tmps := #[.pointer (some ⟨c, 0, none⟩), h.v, .int .u64 now, undef, .pointer (some ⟨w.heap.size, 0, none⟩), undef, .pointer (some ⟨w.heap.size + 1, 0, none⟩), .pointer (some ⟨w.heap.size + 1 + 1, 0, none⟩), .pointer (some ⟨b, 0, none⟩), .pointer (some ⟨c, 0, none⟩), h.v, .int .u64 now, .pointer (some ⟨b, 0, none⟩), .pointer (some ⟨b, 0, none⟩), .tuple #[], C.svd b0 (.pointer (some ⟨b, 0, none⟩)) (undef), C.svd b1 (.pointer (some ⟨b, 0, none⟩)) (undef), C.svd b2 (.pointer (some ⟨b, 51, none⟩)) (undef), C.svd b3 (s.h.v) (undef), C.svd b4 (.pointer (some ⟨b, 0, none⟩)) (undef), C.svd b5 (.pointer (some ⟨b, 0, none⟩)) (undef), C.svd b6 (.pointer (some ⟨b, 109, none⟩)) (undef), C.svd b7 (s.ev.v) (undef)], defers := [] } ∧ St wr b s ∧ wr.heap[w.heap.size + 1]? = some (.cells (C.svd b8 s.h.v HV.zero.v).cells 28 (0, 0)) ∧ wr.heap[w.heap.size + 1 + 1]? = some (.cells (C.svd b9 s.ev.v EV.zero.v).cells 42 (0, 0)) ∧ Only (fun k => k = w.heap.size + 1 ∨ k = w.heap.size + 1 + 1) w1 wr) ?step ?fin _ _ _ _ (by simp) ?start
  case start => exact ⟨false, false, false, false, false, false, false, false, false, false, rfl, rfl, HS.out, HP6.out, HP7.out, (Only.refl _).drew⟩
  case fin =>
    rintro listed fr wr ⟨b0, b1, b2, b3, b4, b5, b6, b7, b8, b9, rfl, rfl, hR⟩ hr
    obtain rfl : b0 = true := by
      cases b0 with
      | true => rfl
      | false => exact (C.ready_no hr (j := 0) rfl rfl (by kernel_rfl)).elim
    obtain rfl : b1 = true := by
      cases b1 with
      | true => rfl
      | false => exact (C.ready_no hr (j := 1) rfl rfl (by kernel_rfl)).elim
    obtain rfl : b2 = true := by
      cases b2 with
      | true => rfl
      | false => exact (C.ready_no hr (j := 2) rfl rfl (by kernel_rfl)).elim
    obtain rfl : b3 = true := by
      cases b3 with
      | true => rfl
      | false => exact (C.ready_no hr (j := 3) rfl rfl (by kernel_rfl)).elim
    obtain rfl : b4 = true := by
      cases b4 with
      | true => rfl
      | false => exact (C.ready_no hr (j := 4) rfl rfl (by kernel_rfl)).elim
    obtain rfl : b5 = true := by
      cases b5 with
      | true => rfl
      | false => exact (C.ready_no hr (j := 5) rfl rfl (by kernel_rfl)).elim
    obtain rfl : b6 = true := by
      cases b6 with
      | true => rfl
      | false => exact (C.ready_no hr (j := 6) rfl rfl (by kernel_rfl)).elim
    obtain rfl : b7 = true := by
      cases b7 with
      | true => rfl
      | false => exact (C.ready_no hr (j := 7) rfl rfl (by kernel_rfl)).elim
    obtain rfl : b8 = true := by
      cases b8 with
      | true => rfl
      | false => exact (C.ready_no hr (j := 8) rfl rfl (by kernel_rfl)).elim
    obtain rfl : b9 = true := by
      cases b9 with
      | true => rfl
      | false => exact (C.ready_no hr (j := 9) rfl rfl (by kernel_rfl)).elim
    clear hr
    simp only [C.svd]
    obtain ⟨r1, r2, r3, r4⟩ := hR
    have l6 : (loadVar 28 ⟨w.heap.size + 1, 0, none⟩).run Tryz.prog wr = .ok s.h.v wr := run_loadVar_row wr (w.heap.size + 1) 28 28 s.h.ca (0, 0) (.struct (Tryz.prog.fieldsOf 28)) r2 u_hart rfl (by rw [s_hart]; rfl)
    have l7 : (loadVar 42 ⟨w.heap.size + 1 + 1, 0, none⟩).run Tryz.prog wr = .ok s.ev.v wr := run_loadVar_row wr (w.heap.size + 1 + 1) 42 42 s.ev.cs.toArray (0, 0) (.struct (Tryz.prog.fieldsOf 42)) r3 u_event rfl (by rw [s_event]; rfl)
    have HL6 := C.hid l6
    have HL7 := C.hid l7
    have HR1 := C.hid r1
    have HR4 := C.hid r4
    clear l6 l7 r1 r2 r3 r4
    go_wp2
    refine bodyPost_ret (v := .tuple #[s.h.v, s.ev.v]) (by simp [results, Tryz.results11, asAddr, HL6.out, HL7.out]) rfl ⟨by rw [HE.out], ?_, ?_⟩
    · exact HC1.out.only HR4.out (by omega) (by
        rintro k (rfl | rfl)
        · exact ⟨_, _, _, HP6.out⟩
        · exact ⟨_, _, _, HP7.out⟩)
    · exact HO1.out.trans' HR4.out (fun k hk e => by omega)
  case step =>
    rintro listed fr wr ⟨b0, b1, b2, b3, b4, b5, b6, b7, b8, b9, rfl, rfl, hR⟩ j hj
    obtain ⟨hl, o, ho, he⟩ := mem_ready.1 hj
    clear hj
    have HH := C.hid hR
    clear hR
    have hsv : ∀ v u, C.svd true v u = v := fun _ _ => rfl
    match j, ho, hl, he with
    | 0, ho, hl, he =>
      obtain rfl := Option.some.inj ho
      simp [Region.binds] at hl he
      clear ho
      have hL := hl
      clear hl he
      subst hL
      refine wpOp_step rfl (fun K hK => ?_)
      go_simp
      refine hK _ _ ⟨true, _, _, _, _, _, _, _, _, _, rfl, ?_, HH.out⟩
      first | rfl | simp [C.svd]
    | 1, ho, hl, he =>
      obtain rfl := Option.some.inj ho
      simp [Region.binds] at hl he
      clear ho
      have hL := hl
      (try (have e0 : b0 = true := (by revert he; cases b0 <;> simp)))
      clear hl he
      (try subst e0)
      subst hL
      refine wpOp_step rfl (fun K hK => ?_)
      go_simp
      refine hK _ _ ⟨_, true, _, _, _, _, _, _, _, _, rfl, ?_, HH.out⟩
      first | rfl | simp [C.svd]
    | 2, ho, hl, he =>
      obtain rfl := Option.some.inj ho
      simp [Region.binds] at hl he
      clear ho
      have hL := hl
      (try (have e1 : b1 = true := (by revert he; cases b1 <;> simp)))
      clear hl he
      (try subst e1)
      subst hL
      refine wpOp_step rfl (fun K hK => ?_)
      go_simp
      refine hK _ _ ⟨_, _, true, _, _, _, _, _, _, _, rfl, ?_, HH.out⟩
      first | rfl | simp [C.svd]
    | 3, ho, hl, he =>
      obtain rfl := Option.some.inj ho
      simp [Region.binds] at hl he
      clear ho
      have hL := hl
      (try (have e2 : b2 = true := (by revert he; cases b2 <;> simp)))
      clear hl he
      (try subst e2)
      subst hL
      refine wpOp_row rfl rfl (wp_load_sub (x := .tmp 17) rfl b 51 89 s.ca s.h.ca (.struct (Tryz.prog.fieldsOf 28)) rfl HH.out.1 (h_sub s) u_hart rfl (by rw [s_hart]; rfl) ⟨_, _, _, true, _, _, _, _, _, _, rfl, ?_, HH.out⟩)
      first | rfl | simp [C.svd]
    | 4, ho, hl, he =>
      obtain rfl := Option.some.inj ho
      simp [Region.binds] at hl he
      clear ho
      have hL := hl
      clear hl he
      subst hL
      refine wpOp_step rfl (fun K hK => ?_)
      go_simp
      refine hK _ _ ⟨_, _, _, _, true, _, _, _, _, _, rfl, ?_, HH.out⟩
      first | rfl | simp [C.svd]
    | 5, ho, hl, he =>
      obtain rfl := Option.some.inj ho
      simp [Region.binds] at hl he
      clear ho
      have hL := hl
      (try (have e4 : b4 = true := (by revert he; cases b4 <;> simp)))
      clear hl he
      (try subst e4)
      subst hL
      refine wpOp_step rfl (fun K hK => ?_)
      go_simp
      refine hK _ _ ⟨_, _, _, _, _, true, _, _, _, _, rfl, ?_, HH.out⟩
      first | rfl | simp [C.svd]
    | 6, ho, hl, he =>
      obtain rfl := Option.some.inj ho
      simp [Region.binds] at hl he
      clear ho
      have hL := hl
      (try (have e5 : b5 = true := (by revert he; cases b5 <;> simp)))
      clear hl he
      (try subst e5)
      subst hL
      refine wpOp_step rfl (fun K hK => ?_)
      go_simp
      refine hK _ _ ⟨_, _, _, _, _, _, true, _, _, _, rfl, ?_, HH.out⟩
      first | rfl | simp [C.svd]
    | 7, ho, hl, he =>
      obtain rfl := Option.some.inj ho
      simp [Region.binds] at hl he
      clear ho
      have hL := hl
      (try (have e6 : b6 = true := (by revert he; cases b6 <;> simp)))
      clear hl he
      (try subst e6)
      subst hL
      have k0 : wr.cell? ⟨b, 109, none⟩ = some (.int .i64 s.ev.kind) := HH.out.1.c 109
      have k1 : wr.cell? ⟨b, 110, none⟩ = some (.int .i64 s.ev.access) := HH.out.1.c 110
      have k2 : wr.cell? ⟨b, 111, none⟩ = some (.int .u64 s.ev.va) := HH.out.1.c 111
      have k3 : wr.cell? ⟨b, 112, none⟩ = some (.int .u64 s.ev.gpa) := HH.out.1.c 112
      have k4 : wr.cell? ⟨b, 113, none⟩ = some (.bool s.ev.walk) := HH.out.1.c 113
      have k5 : wr.cell? ⟨b, 114, none⟩ = some (.bool s.ev.wrote) := HH.out.1.c 114
      refine wpOp_step rfl (fun K hK => ?_)
      go_simp
      refine hK _ _ ⟨_, _, _, _, _, _, _, true, _, _, rfl, ?_, HH.out⟩
      first | rfl | simp [C.svd]
    | 8, ho, hl, he =>
      obtain rfl := Option.some.inj ho
      simp [Region.binds] at hl he
      clear ho
      have hL := hl
      (try (have e0 : b0 = true := (by revert he; cases b0 <;> simp)))
      (try (have e1 : b1 = true := (by revert he; cases b1 <;> simp)))
      (try (have e2 : b2 = true := (by revert he; cases b2 <;> simp)))
      (try (have e3 : b3 = true := (by revert he; cases b3 <;> simp)))
      clear hl he
      (try subst e0)
      (try subst e1)
      (try subst e2)
      (try subst e3)
      subst hL
      refine wpOp_row rfl rfl (wp_store_row 28 (.tmp 6) (.tmp 18) rfl (w.heap.size + 1) s.h.ca rfl rfl 28 HV.zero.ca HH.out.2.1 (by rw [s_hart]; rfl) rfl (ca_one s.h) ⟨_, _, _, _, _, _, _, _, true, _, rfl, ?_, HH.out.1.only (only_row6 _ _ _) (by omega), heap_setRow _ _ _ _ _ HH.out.2.1, (setRow_other _ _ _ _ (by omega)).trans HH.out.2.2.1, HH.out.2.2.2.setRow (.inl (.inl rfl)) _⟩)
      first | rfl | simp [C.svd]
    | 9, ho, hl, he =>
      obtain rfl := Option.some.inj ho
      simp [Region.binds] at hl he
      clear ho
      have hL := hl
      (try (have e0 : b0 = true := (by revert he; cases b0 <;> simp)))
      (try (have e1 : b1 = true := (by revert he; cases b1 <;> simp)))
      (try (have e2 : b2 = true := (by revert he; cases b2 <;> simp)))
      (try (have e3 : b3 = true := (by revert he; cases b3 <;> simp)))
      (try (have e4 : b4 = true := (by revert he; cases b4 <;> simp)))
      (try (have e5 : b5 = true := (by revert he; cases b5 <;> simp)))
      (try (have e6 : b6 = true := (by revert he; cases b6 <;> simp)))
      (try (have e7 : b7 = true := (by revert he; cases b7 <;> simp)))
      (try (have e8 : b8 = true := (by revert he; cases b8 <;> simp)))
      clear hl he
      (try subst e0)
      (try subst e1)
      (try subst e2)
      (try subst e3)
      (try subst e4)
      (try subst e5)
      (try subst e6)
      (try subst e7)
      (try subst e8)
      subst hL
      refine wpOp_row rfl rfl (wp_store_row 42 (.tmp 7) (.tmp 22) rfl (w.heap.size + 1 + 1) s.ev.cs.toArray rfl rfl 42 EV.zero.cs.toArray HH.out.2.2.1 (by rw [s_event]; rfl) rfl (by simp [EV.cs, Value.oneCell']) ⟨_, _, _, _, _, _, _, _, _, true, rfl, ?_, HH.out.1.only (only_row6 _ _ _) (by omega), (setRow_other _ _ _ _ (by omega)).trans HH.out.2.1, setRow_heap _ _ _ _ _ _ HH.out.2.2.1, HH.out.2.2.2.setRow (.inl (.inr rfl)) _⟩)
      first | rfl | simp [C.svd]
    | k + 10, ho, hl, he => simp at ho
end Go.Proofs.YtooagjndelbegaaGreatDoor
namespace Go.Proofs.YtooagjndelbegaaGreatDoor
open Go.RowKit
open C (Only)
set_option linter.unusedVariables false
set_option maxRecDepth 100000

/-- both memories -/
structure Tb (w : World) (S T : Nat → Prop) (p q : Nat) (bs : Int) (n : Nat) (f : Nat → Int) : Prop where
  m : C.Mem w S p bs n f
  r : C.RMem w T q bs n f
  d : ∀ k, S k → ¬ T k
theorem Tb.below {w w' : World} {S T : Nat → Prop} {p q : Nat} {bs : Int} {n : Nat} {f : Nat → Int} (h : Tb w S T p q bs n f) (hb : Below w.heap.size w w') : Tb w' S T p q bs n f := ⟨h.m.below hb, h.r.below hb, h.d⟩
def MemPost (w : World) (bs : Int) (n : Nat) (r : Ending) (w' : World) : Prop := ∃ p q S T, r = .returned (.tuple #[.agg #[.pointer (some ⟨p, 0, none⟩), .pointer (some ⟨q, 0, none⟩)], .bool true]) ∧ Tb w' S T p q bs n (fun _ => 0) ∧ Below w.heap.size w w' ∧ ∀ k, S k ∨ T k → w.heap.size ≤ k
set_option maxHeartbeats 2000000 in
theorem m_Memory0 (w : World) (bs : Int) (n : Nat) (b0 : 0 ≤ bs) (b1 : bs ≤ 4503599627370496) (bm : bs % 4096 = 0) (n0 : 0 < n) (n1 : n ≤ 1024) :
    Calls Tryz.prog 28 #[.int .u64 bs, .int .i64 n, .slice none 0 0] w (MemPost w bs n) := by
  have HN : Hid (∀ w, Calls Tryz.prog 57 #[.int .u64 bs, .int .i64 n] w fun e w' => ∃ p S, e = .returned (.tuple #[.pointer (some ⟨p, 0, none⟩), .int .i64 0]) ∧ C.Mem w' S p bs n (fun _ => 0) ∧ Below w.heap.size w w' ∧ ∀ k, S k → w.heap.size ≤ k) := fun w => C.c_New w bs n b0 b1 bm n0 n1
  have HQ : Hid (∀ w, Calls Tryz.prog 58 #[.int .u64 bs, .int .i64 n] w fun e w' => ∃ p S, e = .returned (.tuple #[.pointer (some ⟨p, 0, none⟩), .int .i64 0]) ∧ C.RMem w' S p bs n (fun _ => 0) ∧ Below w.heap.size w w' ∧ ∀ k, S k → w.heap.size ≤ k) := fun w => C.q_New w bs n b0 b1 bm n0 n1
  clear b0 b1 bm n0 n1
  go_enter Tryz.func28, Tryz.ntmps28
  go_wp2_with (first
    | (go_at_call 57; refine (HN.out _).mono ?_; rintro e w1 ⟨p, S, rfl, hm, hb, hS⟩; have HM1 := C.hid hm; have HB1 := C.hid hb; have HS1 := C.hid hS; clear hm hb hS)
    | (go_at_call 58; refine (HQ.out w1).mono ?_; rintro e w2 ⟨q, T, rfl, hm, hb, hS⟩; have HM2 := C.hid hm; have HB2 := C.hid hb; have HS2 := C.hid hS; clear hm hb hS))
  have q1 := HB1.out.size
  have q2 := HB2.out.size
  have HP1 : Hid (w1.heap[w.heap.size]? = some (.cells #[.pointer none, .pointer none] 37 (0, 0))) := (HB1.out.block _ (by simp)).trans (heap_alloc_new w _)
  have HP2 : Hid (w2.heap[w.heap.size]? = some (.cells #[.pointer none, .pointer none] 37 (0, 0))) := (HB2.out.block _ (lt_of_block HP1.out)).trans HP1.out
  have HT0 : Hid (Tb w2 S T p q bs n (fun _ => 0)) := ⟨C.Mem.below HM1.out HB2.out, HM2.out, fun k hk ht => by have := C.Mem.lt HM1.out hk; have := HS2.out k ht; omega⟩
  have HBw : Hid (Below w.heap.size w w2) := ((Below.refl _ _).alloc (Nat.le_refl _) _).trans ((HB1.out.mono (by simp)).trans (HB2.out.mono (by simp at q1; omega)))
  have HU : Hid (∀ k, S k ∨ T k → w.heap.size < k ∧ k < w2.heap.size) := fun k hk => by
    rcases hk with z | z
    · have h1 := HS1.out k z; have h2 := C.Mem.lt HM1.out z; simp at h1; omega
    · have := HS2.out k z; have := C.RMem.lt HM2.out z; simp at q1; omega
  clear HM1 HS1 HM2 HS2 HP1 HB1 HB2 q1 q2
  go_loop [13] (fun i => i = .int .i64 0) (fun _ => 0)
  case atStart => rfl
  case round =>
    subst hrel
    have hl := lt_of_block HP2.out
    have r0 : w2.cell? ⟨w.heap.size, 0, none⟩ = some (.pointer none) := cell_of_row _ _ 0 _ _ _ HP2.out
    have r1 : w2.cell? ⟨w.heap.size, 1, none⟩ = some (.pointer none) := cell_of_row _ _ 1 _ _ _ HP2.out
    have z0 : ∀ k, w2.frozen? ⟨w.heap.size, k, none⟩ = false := fun k => frozen_of_row _ _ k _ _ HP2.out
    go_wp2
    have hO : Only (· = w.heap.size) w2 (((w2.setCell ⟨w.heap.size, 0, none⟩ (.pointer (some ⟨p, 0, none⟩))).setCell ⟨w.heap.size, 1, none⟩ (.pointer (some ⟨q, 0, none⟩))).alloc (.cells #[.pointer (some ⟨p, 0, none⟩), .pointer (some ⟨q, 0, none⟩)] 37)) := ((only_set _ _ _ _).trans (only_set _ _ _ _)).alloc _
    refine bodyPost_ret (v := .tuple #[.agg #[.pointer (some ⟨p, 0, none⟩), .pointer (some ⟨q, 0, none⟩)], .bool true]) (by simp [results, Tryz.results28, go_sem, r0, r1, hl]) rfl ⟨p, q, S, T, rfl, ⟨C.Mem.only HT0.out.m hO (fun k hk e => by have := HU.out k (.inl hk); omega), C.RMem.only HT0.out.r hO (fun k hk e => by have := HU.out k (.inr hk); omega), HT0.out.d⟩, ?_, fun k hk => Nat.le_of_lt (HU.out k hk).1⟩
    exact HBw.out.trans (Only.below hO _ HBw.out.size (fun k e => by omega))
end Go.Proofs.YtooagjndelbegaaGreatDoor
namespace Go.Proofs.YtooagjndelbegaaGreatDoor
open Go.RowKit
open C (Only)
set_option linter.unusedVariables false
set_option maxRecDepth 100000

def SrcB (w wr : World) (u len uc : Nat) (s : Nat → Int) : Prop := w.heap.size < u ∧ u < wr.heap.size ∧ len ≤ uc ∧ ∀ j, j < len → wr.cell? ⟨u, j, none⟩ = some (.int .u8 (s j))
def FillB (w wr : World) (S : Nat → Prop) (p : Nat) (bs : Int) (n : Nat) (g : Nat → Int) : Prop := ∃ S', C.Mem wr S' p bs n g ∧ Only S w wr ∧ ∀ k, S' k → S k ∨ w.heap.size ≤ k
def TFillPost (w : World) (S T : Nat → Prop) (p q : Nat) (bs : Int) (n : Nat) (g : Nat → Int) (r : Ending) (w' : World) : Prop := ∃ S' T', r = .returned (.tuple #[]) ∧ Tb w' S' T' p q bs n g ∧ Only (fun k => S k ∨ T k) w w' ∧ ∀ k, S' k ∨ T' k → (S k ∨ T k) ∨ w.heap.size ≤ k
theorem copied_src {w w' : World} {v : Value} {len : Nat} {s : Nat → Int} (hl : 0 < len) (h : w'.ownsRow w.heap.size 5 1 v len (C.row s 0 len)) : ∃ u uc, v = .slice (some ⟨u, 0, none⟩) len uc ∧ w.heap.size ≤ u ∧ u < w'.heap.size ∧ len ≤ uc ∧ ∀ j, j < len → w'.cell? ⟨u, j, none⟩ = some (.int .u8 (s j)) := by
  rcases h.2 with ⟨rfl, h2⟩ | ⟨gg, cp, cur, rfl, hgb, hg, hcp, _, _, _⟩
  · omega
  · refine ⟨gg, cp, rfl, hgb, lt_of_block hg, hcp, fun j hj => ?_⟩
    have := World.ownsRow.cells h (g := gg) rfl j _ (C.row_get s 0 len j hj)
    rw [C.addr_add] at this
    simpa using this
set_option maxHeartbeats 4000000 in
theorem m_TFill (w : World) (S T : Nat → Prop) (p q : Nat) (bs : Int) (n : Nat) (f : Nat → Int) (h : Tb w S T p q bs n f) (cb len cap : Nat) (s : Nat → Int) (hs0 : ∀ j, 0 ≤ s j ∧ s j < 256) (hl0 : 0 < len) (hl1 : len ≤ 4096) (hlc : len ≤ cap) (off : Nat) (hl : off + len ≤ 4096 * n) (addr : Int) (ha : addr = bs + off)
    (hcb : cb < w.heap.size) (hnS : ¬ S cb) (hnT : ¬ T cb) (hsrc : ∀ j, j < len → w.cell? ⟨cb, j, none⟩ = some (.int .u8 (s j))) :
    Calls Tryz.prog 31 #[.agg #[.pointer (some ⟨p, 0, none⟩), .pointer (some ⟨q, 0, none⟩)], .int .u64 addr, .slice (some ⟨cb, 0, none⟩) len cap] w (TFillPost w S T p q bs n (C.put f off len s)) := by
  have HSL : Hid (∀ k, S k ∨ T k → k < w.heap.size) := fun k hk => hk.elim (fun z => C.Mem.lt h.m z) (fun z => C.RMem.lt h.r z)
  have HDI := C.hid h.d
  have HCB : Hid (∀ wr, Below (w.alloc (.cells #[.pointer (some ⟨p, 0, none⟩), .pointer (some ⟨q, 0, none⟩)] 37)).heap.size (w.alloc (.cells #[.pointer (some ⟨p, 0, none⟩), .pointer (some ⟨q, 0, none⟩)] 37)) wr → Calls Tryz.prog 61 #[.slice (some ⟨cb, 0, none⟩) len cap] wr fun e w' => ∃ u uc, e = .returned (.slice (some ⟨u, 0, none⟩) len uc) ∧ SrcB w w' u len uc s ∧ Below wr.heap.size wr w') := fun wr hb => by
    refine (C.c_CopyBytes wr (some ⟨cb, 0, none⟩) len cap s ⟨cb, 0, none⟩ (by omega) (fun e => by cases e) (fun _ => ⟨rfl, by have := hb.size; simp at this; show cb < _; omega, fun j hj => ?_⟩)).mono ?_
    · rw [C.addr_add]
      have e : wr.cell? ⟨cb, 0 + j, none⟩ = (w.alloc (.cells #[.pointer (some ⟨p, 0, none⟩), .pointer (some ⟨q, 0, none⟩)] 37)).cell? ⟨cb, 0 + j, none⟩ := hb.cell (p := ⟨cb, 0 + j, none⟩) (by show cb < _; simp; omega)
      rw [e, World.cell?_alloc_past _ _ _ hcb]
      simpa using hsrc j hj
    · rintro e w' ⟨v, he, hr, hb'⟩
      obtain ⟨u, uc, rfl, k1, k2, k3, k4⟩ := copied_src hl0 hr
      exact ⟨u, uc, he, ⟨by have := hb.size; simp at this; omega, k2, k3, k4⟩, hb'⟩
  have HFI : Hid (∀ wr, Below (w.alloc (.cells #[.pointer (some ⟨p, 0, none⟩), .pointer (some ⟨q, 0, none⟩)] 37)).heap.size (w.alloc (.cells #[.pointer (some ⟨p, 0, none⟩), .pointer (some ⟨q, 0, none⟩)] 37)) wr → ∀ u uc, SrcB w wr u len uc s → Calls Tryz.prog 60 #[.pointer (some ⟨p, 0, none⟩), .int .u64 addr, .slice (some ⟨u, 0, none⟩) len uc] wr fun e w' => e = .returned (.bool true) ∧ FillB (w.alloc (.cells #[.pointer (some ⟨p, 0, none⟩), .pointer (some ⟨q, 0, none⟩)] 37)) w' S p bs n (C.put f off len s)) := fun wr hb u uc hu => by
    have hm := (h.m.below ((Below.refl _ _).alloc (Nat.le_refl _) (.cells #[.pointer (some ⟨p, 0, none⟩), .pointer (some ⟨q, 0, none⟩)] 37))).below hb
    refine (C.c_Fill wr S p bs n f hm off len uc hl hu.2.2.1 addr ha (some ⟨u, 0, none⟩) s hs0 ⟨u, 0, fun _ => ⟨rfl, hu.2.1, fun z => ?_, fun j hj => by simpa using hu.2.2.2 j hj⟩⟩).mono ?_
    · have := C.Mem.lt h.m z; have := hu.1; omega
    · rintro e w' ⟨S', he, hm', ho', hs'⟩
      exact ⟨he, S', hm', (Only.ofBelow hb).trans ho', fun k hk => (hs' k hk).imp id (fun z => Nat.le_trans hb.size z)⟩
  have HRI : Hid (∀ wr, Only S (w.alloc (.cells #[.pointer (some ⟨p, 0, none⟩), .pointer (some ⟨q, 0, none⟩)] 37)) wr → Calls Tryz.prog 62 #[.pointer (some ⟨q, 0, none⟩), .int .u64 addr, .slice (some ⟨cb, 0, none⟩) len cap] wr fun e w' => ∃ T', e = .returned (.bool true) ∧ C.RMem w' T' q bs n (C.put f off len s) ∧ Only T wr w' ∧ ∀ k, T' k → T k ∨ wr.heap.size ≤ k) := fun wr ho => by
    have hr0 := h.r.below ((Below.refl _ _).alloc (Nat.le_refl _) (.cells #[.pointer (some ⟨p, 0, none⟩), .pointer (some ⟨q, 0, none⟩)] 37))
    have hr := C.RMem.only hr0 ho (fun k hk hS => h.d k hS hk)
    refine C.q_Fill wr T q bs n f hr off len cap hl addr ha (some ⟨cb, 0, none⟩) s hs0 ⟨cb, 0, none⟩ (fun _ => ⟨rfl, by have := ho.size; simp at this; show cb < _; omega, hnT, fun j hj => ?_⟩)
    rw [C.addr_add]
    have e : wr.cell? ⟨cb, 0 + j, none⟩ = (w.alloc (.cells #[.pointer (some ⟨p, 0, none⟩), .pointer (some ⟨q, 0, none⟩)] 37)).cell? ⟨cb, 0 + j, none⟩ := ho.cell (0 + j) (by simp; omega) hnS
    rw [e, World.cell?_alloc_past _ _ _ hcb]
    simpa using hsrc j hj
  clear h hs0 hl ha hsrc hnS hnT
  go_enter Tryz.func31, Tryz.ntmps31
  go_wp2
  refine wp_region_any (by kernel_rfl) ?_
  refine C.wpAny_inv (fun listed fr wr => ∃ (b0 b1 b2 b3 b4 b5 : Bool) (u : Nat) (uc : Nat), listed = #[b0, b1, b2, b3, b4, b5] ∧ fr = { tmps := #[.agg #[.pointer (some ⟨p, 0, none⟩), .pointer (some ⟨q, 0, none⟩)], .int .u64 addr, .slice (some ⟨cb, 0, none⟩) len cap, .pointer (some ⟨w.heap.size, 0, none⟩), undef, undef, C.svd b0 (.pointer (some ⟨w.heap.size, 0, none⟩)) (undef), C.svd b1 (.pointer (some ⟨p, 0, none⟩)) (undef), C.svd b2 (.int .u64 addr) (undef), C.svd b3 (.slice (some ⟨cb, 0, none⟩) len cap) (undef), C.svd b4 (.slice (some ⟨u, 0, none⟩) len uc) (undef), C.svd b5 (.bool true) (undef), undef, undef, undef, undef, undef], defers := [] } ∧ (b5 = true → b1 = true ∧ b2 = true ∧ b4 = true) ∧ (b5 = false → Below (w.alloc (.cells #[.pointer (some ⟨p, 0, none⟩), .pointer (some ⟨q, 0, none⟩)] 37)).heap.size (w.alloc (.cells #[.pointer (some ⟨p, 0, none⟩), .pointer (some ⟨q, 0, none⟩)] 37)) wr ∧ (b4 = true → SrcB w wr u len uc s)) ∧ (b5 = true → FillB (w.alloc (.cells #[.pointer (some ⟨p, 0, none⟩), .pointer (some ⟨q, 0, none⟩)] 37)) wr S p bs n (C.put f off len s))) ?step ?fin _ _ _ _ (by simp) ?start
  case start => exact ⟨false, false, false, false, false, false, 0, 0, rfl, rfl, (fun h => by cases h), (fun _ => ⟨(Below.refl _ _).drew, fun h => by cases h⟩), fun h => by cases h⟩
  case fin =>
    rintro listed fr wr ⟨b0, b1, b2, b3, b4, b5, u, uc, rfl, rfl, hR⟩ hr
    obtain rfl : b0 = true := by
      cases b0 with
      | true => rfl
      | false => exact (C.ready_no hr (j := 0) rfl rfl (by kernel_rfl)).elim
    obtain rfl : b1 = true := by
      cases b1 with
      | true => rfl
      | false => exact (C.ready_no hr (j := 1) rfl rfl (by kernel_rfl)).elim
    obtain rfl : b2 = true := by
      cases b2 with
      | true => rfl
      | false => exact (C.ready_no hr (j := 2) rfl rfl (by kernel_rfl)).elim
    obtain rfl : b3 = true := by
      cases b3 with
      | true => rfl
      | false => exact (C.ready_no hr (j := 3) rfl rfl (by kernel_rfl)).elim
    obtain rfl : b4 = true := by
      cases b4 with
      | true => rfl
      | false => exact (C.ready_no hr (j := 4) rfl rfl (by kernel_rfl)).elim
    obtain rfl : b5 = true := by
      cases b5 with
      | true => rfl
      | false => exact (C.ready_no hr (j := 5) rfl rfl (by kernel_rfl)).elim
    clear hr
    simp only [C.svd]
    have hF := hR.2.2 rfl
    clear hR
    obtain ⟨S', hm', ho', hs'⟩ := hF
    have hbx : wr.heap[w.heap.size]? = some (.cells #[.pointer (some ⟨p, 0, none⟩), .pointer (some ⟨q, 0, none⟩)] 37 (0, 0)) := ho'.old (heap_alloc_new _ _) (fun z => by have := HSL.out _ (.inl z); omega)
    have g1 : wr.cell? ⟨w.heap.size, 1, none⟩ = some (.pointer (some ⟨q, 0, none⟩)) := cell_of_row _ _ 1 _ _ _ hbx
    have HRF := C.hid (HRI.out wr ho')
    have HM' := C.hid hm'
    have HO' := C.hid ho'
    have HS' := C.hid hs'
    clear hm' ho' hs'
    go_wp2_with (go_at_call 62; refine HRF.out.mono ?_; rintro e w2 ⟨T', rfl, hr2, ho2, ht2⟩)
    go_end0
    refine ⟨S', T', rfl, ⟨C.Mem.only HM'.out ho2 (fun k hk ht => ?_), hr2, fun k hk ht => ?_⟩, ?_, fun k hk => ?_⟩
    · rcases HS'.out k hk with z | z
      · exact HDI.out k z ht
      · have := HSL.out k (.inr ht); simp at z; omega
    · rcases HS'.out k hk with z | z
      · rcases ht2 k ht with y | y
        · exact HDI.out k z y
        · have := HSL.out k (.inl z); have := HO'.out.size; simp at this; omega
      · rcases ht2 k ht with y | y
        · have := HSL.out k (.inr y); simp at z; omega
        · have := C.Mem.lt HM'.out hk; omega
    · exact (((Only.refl w).alloc _).trans (HO'.out.mono (fun k _ z => .inl z))).trans (ho2.mono (fun k _ z => .inr z))
    · rcases hk with z | z
      · rcases HS'.out k z with y | y
        · exact .inl (.inl y)
        · right; simp at y; omega
      · rcases ht2 k z with y | y
        · exact .inl (.inr y)
        · right; have := HO'.out.size; simp at this; omega
  case step =>
    rintro listed fr wr ⟨b0, b1, b2, b3, b4, b5, u, uc, rfl, rfl, hR⟩ j hj
    obtain ⟨hl, o, ho, he⟩ := mem_ready.1 hj
    clear hj
    have HH := C.hid hR
    clear hR
    have hsv : ∀ v u, C.svd true v u = v := fun _ _ => rfl
    match j, ho, hl, he with
    | 0, ho, hl, he =>
      obtain rfl := Option.some.inj ho
      simp [Region.binds] at hl he
      clear ho
      have hL := hl
      clear hl he
      subst hL
      refine wpOp_step rfl (fun K hK => ?_)
      go_simp
      refine hK _ _ ⟨true, _, _, _, _, _, u, uc, rfl, ?_, (fun h => by have := HH.out.1 h; simp_all), HH.out.2.1, HH.out.2.2⟩
      first | rfl | simp [C.svd]
    | 1, ho, hl, he =>
      obtain rfl := Option.some.inj ho
      simp [Region.binds] at hl he
      clear ho
      have hL := hl
      (try (have e0 : b0 = true := (by revert he; cases b0 <;> simp)))
      clear hl he
      (try subst e0)
      subst hL
      have hb5 : b5 = false := by cases b5 with | false => rfl | true => exact absurd (HH.out.1 rfl).1 (by simp)
      subst hb5
      have g0 : wr.cell? ⟨w.heap.size, 0, none⟩ = some (.pointer (some ⟨p, 0, none⟩)) := cell_of_row _ _ 0 _ _ _ (((HH.out.2.1 rfl).1.block _ (by simp)).trans (heap_alloc_new _ _))
      refine wpOp_step rfl (fun K hK => ?_)
      go_simp
      refine hK _ _ ⟨_, true, _, _, _, _, u, uc, rfl, ?_, (fun h => by have := HH.out.1 h; simp_all), HH.out.2.1, HH.out.2.2⟩
      first | rfl | simp [C.svd]
    | 2, ho, hl, he =>
      obtain rfl := Option.some.inj ho
      simp [Region.binds] at hl he
      clear ho
      have hL := hl
      clear hl he
      subst hL
      refine wpOp_step rfl (fun K hK => ?_)
      go_simp
      refine hK _ _ ⟨_, _, true, _, _, _, u, uc, rfl, ?_, (fun h => by have := HH.out.1 h; simp_all), HH.out.2.1, HH.out.2.2⟩
      first | rfl | simp [C.svd]
    | 3, ho, hl, he =>
      obtain rfl := Option.some.inj ho
      simp [Region.binds] at hl he
      clear ho
      have hL := hl
      clear hl he
      subst hL
      refine wpOp_step rfl (fun K hK => ?_)
      go_simp
      refine hK _ _ ⟨_, _, _, true, _, _, u, uc, rfl, ?_, (fun h => by have := HH.out.1 h; simp_all), HH.out.2.1, HH.out.2.2⟩
      first | rfl | simp [C.svd]
    | 4, ho, hl, he =>
      obtain rfl := Option.some.inj ho
      simp [Region.binds] at hl he
      clear ho
      have hL := hl
      (try (have e3 : b3 = true := (by revert he; cases b3 <;> simp)))
      clear hl he
      (try subst e3)
      subst hL
      refine wpOp_step rfl (fun K hK => ?_)
      go_simp
      have hb5 : b5 = false := by cases b5 with | false => rfl | true => exact absurd (HH.out.1 rfl).2.2 (by simp)
      subst hb5
      obtain ⟨hb, _⟩ := HH.out.2.1 rfl
      refine (HCB.out wr hb).mono ?_
      rintro e w' ⟨u, uc, rfl, hsrc, hb'⟩
      refine hK _ _ ⟨_, _, _, _, true, _, u, uc, rfl, ?_, (fun h => by cases h), (fun _ => ⟨hb.trans (hb'.mono hb.size), fun _ => hsrc⟩), fun h => by cases h⟩
      first | rfl | simp [C.svd]
    | 5, ho, hl, he =>
      obtain rfl := Option.some.inj ho
      simp [Region.binds] at hl he
      clear ho
      have hL := hl
      (try (have e1 : b1 = true := (by revert he; cases b1 <;> simp)))
      (try (have e2 : b2 = true := (by revert he; cases b2 <;> simp)))
      (try (have e4 : b4 = true := (by revert he; cases b4 <;> simp)))
      clear hl he
      (try subst e1)
      (try subst e2)
      (try subst e4)
      subst hL
      refine wpOp_step rfl (fun K hK => ?_)
      go_simp
      obtain ⟨hb, hsrc⟩ := HH.out.2.1 rfl
      refine (HFI.out wr hb u uc (hsrc rfl)).mono ?_
      rintro e w' ⟨rfl, hf⟩
      refine hK _ _ ⟨_, _, _, _, _, true, u, uc, rfl, ?_, (fun _ => ⟨rfl, rfl, rfl⟩), (fun h => by cases h), fun _ => hf⟩
      first | rfl | simp [C.svd]
    | k + 6, ho, hl, he => simp at ho
end Go.Proofs.YtooagjndelbegaaGreatDoor
