/- The flags of sstatus. -/
import Derived.Test.YtlfdokkopgmfjaaGreatDoorHB
import Derived.Test.YtlfdokkopgmfjaaGreatDoorMH1
import Derived.Deep.QuietTactic
import Derived.BigQuiet
import Derived.Laws.CopyRow
import Derived.DeepKeys
import Derived.Great.BuildSlice
import Derived.Test.YtlfdokkopgmfjaaGreatDoorHQ
namespace Go.Proofs.YtlfdokkopgmfjaaGreatDoor
open Go.RowKit
set_option linter.unusedVariables false
set_option maxRecDepth 100000

def flg (t : Bool) (n : Int) : Int := if t = true then n else 0
theorem heap1 (w : World) (o : Obj) : (w.alloc o).heap[w.heap.size]? = some o := heap_alloc_new w o
end Go.Proofs.YtlfdokkopgmfjaaGreatDoor
namespace Go.Proofs.YtlfdokkopgmfjaaGreatDoor
open Go.RowKit
set_option linter.unusedVariables false
set_option maxRecDepth 100000

theorem ret_row2 {fn : Func} {p u : Tmp} (hf : fn.results = #[.cell p 27, .tmp u]) {tmps : Array Value} {w : World} (g : Nat) (h : HV) (b : Bool) (hp : tmps.getD p undef = .pointer (some ⟨g, 0, none⟩)) (hb : tmps.getD u undef = .bool b) (hg : w.heap[g]? = some (.cells h.ca 27 (0, 0))) : (results fn tmps).run Tryz.prog w = .ok (.tuple #[h.v, .bool b]) w := by
  have hp' : tmps[p]?.getD undef = .pointer (some ⟨g, 0, none⟩) := by simpa using hp
  have hb' : tmps[u]?.getD undef = .bool b := by simpa using hb
  simp [results, hf, hp', hb', asAddr, run_loadVar_row w g 27 27 h.ca (0, 0) (.struct (Tryz.prog.fieldsOf 27)) hg u_hart rfl (by rw [s_hart]; rfl)]
theorem bits_b (op : BinOp) (x y : Int) : 0 ≤ bits op .u64 x y ∧ bits op .u64 x y < 18446744073709551616 := by
  have e : ∀ z : Int, IntKind.u64.wrap z = z % 18446744073709551616 := fun z => by simp [IntKind.wrap, IntKind.bits, IntKind.signed]
  unfold bits
  rw [e]; omega
def bt (v : Int) (k : Nat) : Bool := decide (v / 2 ^ k % 2 = 1)
def stO (o : HV) (v : Int) : HV := { o with on := bt v 1, spie := bt v 5, spp := bt v 8, sum := bt v 18, mxr := bt v 19 }
def saO (o : HV) (v : Int) : HV := if v / 1152921504606846976 = 0 ∨ v / 1152921504606846976 = 8 then { o with satp := v } else o
def sipV (o : HV) (v : Int) : Int := bits .or .u64 (bits .andNot .u64 o.sip 2) (bits .and .u64 v 2)
theorem stOk {o : HV} (ok : HOk o) (v : Int) : HOk (stO o v) := ⟨ok.x, ok.pc, ok.stvec, ok.sscr, ok.sepc, ok.scause, ok.stval, ok.sie, ok.sip, ok.satp, ok.resv⟩
theorem saOk {o : HV} (ok : HOk o) (v : Int) (r : 0 ≤ v ∧ v < 18446744073709551616) : HOk (saO o v) := by
  unfold saO
  split
  · exact ⟨ok.x, ok.pc, ok.stvec, ok.sscr, ok.sepc, ok.scause, ok.stval, ok.sie, ok.sip, r, ok.resv⟩
  · exact ok
theorem st_ca (o : HV) (v : Int) : (((((o.ca.setIfInBounds 34 (.bool (bt v 1))).setIfInBounds 35 (.bool (bt v 5))).setIfInBounds 36 (.bool (bt v 8))).setIfInBounds 37 (.bool (bt v 18))).setIfInBounds 38 (.bool (bt v 19))) = (stO o v).ca := rfl
theorem and_pow (v : Int) (r : 0 ≤ v ∧ v < 18446744073709551616) (k : Nat) (hk : k < 64) : bits .and .u64 v ((2 ^ k : Nat) : Int) = if v / ((2 ^ k : Nat) : Int) % 2 = 1 then ((2 ^ k : Nat) : Int) else 0 := by
  obtain ⟨n, rfl⟩ := Int.eq_ofNat_of_zero_le r.1
  have hp : 2 ^ k < 2 ^ 64 := Nat.pow_lt_pow_right (by omega) hk
  have e : bits .and .u64 (n : Int) ((2 ^ k : Nat) : Int) = ((n &&& 2 ^ k : Nat) : Int) := u64_and_nat n (2 ^ k) (by omega) (by omega)
  rw [e]
  have p1 : 0 < 2 ^ k := Nat.two_pow_pos k
  have d : (n &&& 2 ^ k) / 2 ^ k = n / 2 ^ k % 2 := by
    rw [Nat.and_div_two_pow, Nat.div_self p1, Nat.and_one_is_mod]
  have m : (n &&& 2 ^ k) % 2 ^ k = 0 := by
    rw [Nat.and_mod_two_pow, Nat.mod_self, Nat.and_zero]
  have a := Nat.div_add_mod (n &&& 2 ^ k) (2 ^ k)
  rw [d, m] at a
  by_cases q : n / 2 ^ k % 2 = 1
  · rw [if_pos (by exact_mod_cast q)]; rw [q] at a; rw [← a]; simp
  · rw [if_neg (by exact_mod_cast q)]; rw [show n / 2 ^ k % 2 = 0 by omega] at a; rw [← a]; simp
theorem an_1 (v : Int) (r : 0 ≤ v ∧ v < 18446744073709551616) : bits .and .u64 v 2 = flg (bt v 1) 2 := by
  have := and_pow v r 1 (by omega)
  simp only [show ((2 ^ 1 : Nat) : Int) = 2 by decide] at this
  rw [this]
  unfold flg bt
  simp only [show (2 : Int) ^ 1 = 2 by decide]
  by_cases q : v / 2 % 2 = 1 <;> simp [q]
theorem ne_1 (b : Bool) : decide (flg b 2 ≠ 0) = b := by cases b <;> rfl
theorem an_5 (v : Int) (r : 0 ≤ v ∧ v < 18446744073709551616) : bits .and .u64 v 32 = flg (bt v 5) 32 := by
  have := and_pow v r 5 (by omega)
  simp only [show ((2 ^ 5 : Nat) : Int) = 32 by decide] at this
  rw [this]
  unfold flg bt
  simp only [show (2 : Int) ^ 5 = 32 by decide]
  by_cases q : v / 32 % 2 = 1 <;> simp [q]
theorem ne_5 (b : Bool) : decide (flg b 32 ≠ 0) = b := by cases b <;> rfl
theorem an_8 (v : Int) (r : 0 ≤ v ∧ v < 18446744073709551616) : bits .and .u64 v 256 = flg (bt v 8) 256 := by
  have := and_pow v r 8 (by omega)
  simp only [show ((2 ^ 8 : Nat) : Int) = 256 by decide] at this
  rw [this]
  unfold flg bt
  simp only [show (2 : Int) ^ 8 = 256 by decide]
  by_cases q : v / 256 % 2 = 1 <;> simp [q]
theorem ne_8 (b : Bool) : decide (flg b 256 ≠ 0) = b := by cases b <;> rfl
theorem an_18 (v : Int) (r : 0 ≤ v ∧ v < 18446744073709551616) : bits .and .u64 v 262144 = flg (bt v 18) 262144 := by
  have := and_pow v r 18 (by omega)
  simp only [show ((2 ^ 18 : Nat) : Int) = 262144 by decide] at this
  rw [this]
  unfold flg bt
  simp only [show (2 : Int) ^ 18 = 262144 by decide]
  by_cases q : v / 262144 % 2 = 1 <;> simp [q]
theorem ne_18 (b : Bool) : decide (flg b 262144 ≠ 0) = b := by cases b <;> rfl
theorem an_19 (v : Int) (r : 0 ≤ v ∧ v < 18446744073709551616) : bits .and .u64 v 524288 = flg (bt v 19) 524288 := by
  have := and_pow v r 19 (by omega)
  simp only [show ((2 ^ 19 : Nat) : Int) = 524288 by decide] at this
  rw [this]
  unfold flg bt
  simp only [show (2 : Int) ^ 19 = 524288 by decide]
  by_cases q : v / 524288 % 2 = 1 <;> simp [q]
theorem ne_19 (b : Bool) : decide (flg b 524288 ≠ 0) = b := by cases b <;> rfl
def pu_sie (o : HV) (n : Int) : HV := { o with sie := n }
theorem ca_sie (o : HV) (n : Int) : o.ca.setIfInBounds 45 (.int .u64 n) = (pu_sie o n).ca := rfl
theorem ok_sie {o : HV} (ok : HOk o) (n : Int) (r : 0 ≤ n ∧ n < 18446744073709551616) : HOk (pu_sie o n) := ⟨ok.x, ok.pc, ok.stvec, ok.sscr, ok.sepc, ok.scause, ok.stval, r, ok.sip, ok.satp, ok.resv⟩
def pu_stvec (o : HV) (n : Int) : HV := { o with stvec := n }
theorem ca_stvec (o : HV) (n : Int) : o.ca.setIfInBounds 40 (.int .u64 n) = (pu_stvec o n).ca := rfl
theorem ok_stvec {o : HV} (ok : HOk o) (n : Int) (r : 0 ≤ n ∧ n < 18446744073709551616) : HOk (pu_stvec o n) := ⟨ok.x, ok.pc, r, ok.sscr, ok.sepc, ok.scause, ok.stval, ok.sie, ok.sip, ok.satp, ok.resv⟩
def pu_sscr (o : HV) (n : Int) : HV := { o with sscr := n }
theorem ca_sscr (o : HV) (n : Int) : o.ca.setIfInBounds 41 (.int .u64 n) = (pu_sscr o n).ca := rfl
theorem ok_sscr {o : HV} (ok : HOk o) (n : Int) (r : 0 ≤ n ∧ n < 18446744073709551616) : HOk (pu_sscr o n) := ⟨ok.x, ok.pc, ok.stvec, r, ok.sepc, ok.scause, ok.stval, ok.sie, ok.sip, ok.satp, ok.resv⟩
def pu_sepc (o : HV) (n : Int) : HV := { o with sepc := n }
theorem ca_sepc (o : HV) (n : Int) : o.ca.setIfInBounds 42 (.int .u64 n) = (pu_sepc o n).ca := rfl
theorem ok_sepc {o : HV} (ok : HOk o) (n : Int) (r : 0 ≤ n ∧ n < 18446744073709551616) : HOk (pu_sepc o n) := ⟨ok.x, ok.pc, ok.stvec, ok.sscr, r, ok.scause, ok.stval, ok.sie, ok.sip, ok.satp, ok.resv⟩
def pu_scause (o : HV) (n : Int) : HV := { o with scause := n }
theorem ca_scause (o : HV) (n : Int) : o.ca.setIfInBounds 43 (.int .u64 n) = (pu_scause o n).ca := rfl
theorem ok_scause {o : HV} (ok : HOk o) (n : Int) (r : 0 ≤ n ∧ n < 18446744073709551616) : HOk (pu_scause o n) := ⟨ok.x, ok.pc, ok.stvec, ok.sscr, ok.sepc, r, ok.stval, ok.sie, ok.sip, ok.satp, ok.resv⟩
def pu_stval (o : HV) (n : Int) : HV := { o with stval := n }
theorem ca_stval (o : HV) (n : Int) : o.ca.setIfInBounds 44 (.int .u64 n) = (pu_stval o n).ca := rfl
theorem ok_stval {o : HV} (ok : HOk o) (n : Int) (r : 0 ≤ n ∧ n < 18446744073709551616) : HOk (pu_stval o n) := ⟨ok.x, ok.pc, ok.stvec, ok.sscr, ok.sepc, ok.scause, r, ok.sie, ok.sip, ok.satp, ok.resv⟩
def pu_sip (o : HV) (n : Int) : HV := { o with sip := n }
theorem ca_sip (o : HV) (n : Int) : o.ca.setIfInBounds 46 (.int .u64 n) = (pu_sip o n).ca := rfl
theorem ok_sip {o : HV} (ok : HOk o) (n : Int) (r : 0 ≤ n ∧ n < 18446744073709551616) : HOk (pu_sip o n) := ⟨ok.x, ok.pc, ok.stvec, ok.sscr, ok.sepc, ok.scause, ok.stval, ok.sie, r, ok.satp, ok.resv⟩
def pu_satp (o : HV) (n : Int) : HV := { o with satp := n }
theorem ca_satp (o : HV) (n : Int) : o.ca.setIfInBounds 47 (.int .u64 n) = (pu_satp o n).ca := rfl
theorem ok_satp {o : HV} (ok : HOk o) (n : Int) (r : 0 ≤ n ∧ n < 18446744073709551616) : HOk (pu_satp o n) := ⟨ok.x, ok.pc, ok.stvec, ok.sscr, ok.sepc, ok.scause, ok.stval, ok.sie, ok.sip, r, ok.resv⟩
theorem ca_sipV (o : HV) (v : Int) : o.ca.setIfInBounds 46 (.int .u64 (bits .or .u64 (bits .andNot .u64 o.sip 2) (bits .and .u64 v 2))) = (pu_sip o (sipV o v)).ca := rfl
end Go.Proofs.YtlfdokkopgmfjaaGreatDoor
namespace Go.Proofs.YtlfdokkopgmfjaaGreatDoor
open Go.RowKit
set_option linter.unusedVariables false
set_option maxRecDepth 100000

set_option maxHeartbeats 1000000 in
theorem mw_user (h : HV) (ok : HOk h) (csr v : Int) (r : 0 ≤ v ∧ v < 18446744073709551616) (w : World) (hu : (ordH h).user = true) : Calls Tryz.prog 29 #[h.v, .int .i64 csr, .int .u64 v] w fun e w' => e = .returned (.tuple #[(ordH h).v, .bool false]) ∧ Below w.heap.size w w' := by
  have OK := hid ok
  clear ok
  go_enter Tryz.func29, Tryz.ntmps29
  go_upto_region 2 with (first
    | ((with_reducible refine wpList_new (z := .agg HV.zero.ca) HV.zero.ca ?_ ?_ ?_); rfl; exact z_hart)
    | ((with_reducible refine wpL_loadH (x := .tmp 3) w.heap.size ?_ h ?_ ?_); rfl; exact heap2 _ _ _)
    | (go_at_call 50; refine (m_inOrder h OK.out _).mono ?_; rintro e w1 ⟨rfl, hb⟩; have HB1 := hid hb; clear hb)
    | ((with_reducible refine wpL_storeH (x := .tmp 3) (y := .tmp 9) w.heap.size ?_ (ordH h) ?_ h.ca ?_ rfl ?_); rfl; rfl; exact (HB1.out.block _ (by simp; omega)).trans (heap2 _ _ _)))
  have HP : Hid (w1.heap[w.heap.size]? = some (.cells h.ca 27 (0, 0))) := (HB1.out.block _ (by simp; omega)).trans (heap2 _ _ _)
  have HQ : Hid (w1.heap[w.heap.size + 1]? = some (.cells HV.zero.ca 27 (0, 0))) := (HB1.out.block _ (by simp)).trans (heap2' _ _ _)
  have HB0 : Hid (Below w.heap.size w w1) := (below2 _ _).trans (HB1.out.mono (by simp; omega))
  obtain ⟨o, ho⟩ : ∃ o, o = ordH h := ⟨_, rfl⟩
  rw [← ho]
  have OO : Hid (HOk o) := by show HOk o; rw [ho]; exact ordOk OK.out
  rw [← ho] at hu
  have HO := hid ho
  clear ho
  obtain ⟨wa, hwa⟩ : ∃ wa, wa = w1.setRow w.heap.size o.ca := ⟨_, rfl⟩
  have HR : Hid (wa.heap[w.heap.size]? = some (.cells o.ca 27 (0, 0))) := by show _ = _; rw [hwa]; exact heap_setRow _ _ _ _ _ HP.out
  have HZ : Hid (wa.heap[w.heap.size + 1]? = some (.cells HV.zero.ca 27 (0, 0))) := by show _ = _; rw [hwa, setRow_other _ _ _ _ (by omega)]; exact HQ.out
  have HW : Hid (Below w.heap.size w wa) := by show Below _ _ _; rw [hwa]; exact below_setRow HB0.out (Nat.le_refl _) _
  rw [← hwa]
  clear hwa HP HQ HB0 HB1
  have x33 := row_cellH HR.out 33 (v := .bool o.user) (by simp [HV.ca, HV.cs])
  go_wp2_with (first
    | ((with_reducible refine wpL_loadH (x := .tmp 3) w.heap.size ?_ o ?_ ?_); rfl; exact HR.out)
    | ((with_reducible refine wpL_storeH (x := .tmp 6) (y := .tmp 12) (w.heap.size + 1) ?_ o ?_ HV.zero.ca ?_ rfl ?_); rfl; rfl; exact HZ.out))
  refine bodyPost_ret (ret_row2 Tryz.results29 (w.heap.size + 1) o false rfl rfl (heap_setRow _ _ _ _ _ HZ.out)) rfl ⟨by rw [HO.out], ?_⟩
  exact below_setRow HW.out (by omega) _
set_option maxHeartbeats 1000000 in
theorem mw_no (h : HV) (ok : HOk h) (csr v : Int) (r : 0 ≤ v ∧ v < 18446744073709551616) (w : World) (n1 : csr ≠ 256) (n260 : csr ≠ 260) (n261 : csr ≠ 261) (n320 : csr ≠ 320) (n321 : csr ≠ 321) (n322 : csr ≠ 322) (n323 : csr ≠ 323) (n324 : csr ≠ 324) (n384 : csr ≠ 384) (hu : (ordH h).user = false) : Calls Tryz.prog 29 #[h.v, .int .i64 csr, .int .u64 v] w fun e w' => e = .returned (.tuple #[(ordH h).v, .bool false]) ∧ Below w.heap.size w w' := by
  have OK := hid ok
  clear ok
  go_enter Tryz.func29, Tryz.ntmps29
  go_upto_region 2 with (first
    | ((with_reducible refine wpList_new (z := .agg HV.zero.ca) HV.zero.ca ?_ ?_ ?_); rfl; exact z_hart)
    | ((with_reducible refine wpL_loadH (x := .tmp 3) w.heap.size ?_ h ?_ ?_); rfl; exact heap2 _ _ _)
    | (go_at_call 50; refine (m_inOrder h OK.out _).mono ?_; rintro e w1 ⟨rfl, hb⟩; have HB1 := hid hb; clear hb)
    | ((with_reducible refine wpL_storeH (x := .tmp 3) (y := .tmp 9) w.heap.size ?_ (ordH h) ?_ h.ca ?_ rfl ?_); rfl; rfl; exact (HB1.out.block _ (by simp; omega)).trans (heap2 _ _ _)))
  have HP : Hid (w1.heap[w.heap.size]? = some (.cells h.ca 27 (0, 0))) := (HB1.out.block _ (by simp; omega)).trans (heap2 _ _ _)
  have HQ : Hid (w1.heap[w.heap.size + 1]? = some (.cells HV.zero.ca 27 (0, 0))) := (HB1.out.block _ (by simp)).trans (heap2' _ _ _)
  have HB0 : Hid (Below w.heap.size w w1) := (below2 _ _).trans (HB1.out.mono (by simp; omega))
  obtain ⟨o, ho⟩ : ∃ o, o = ordH h := ⟨_, rfl⟩
  rw [← ho]
  have OO : Hid (HOk o) := by show HOk o; rw [ho]; exact ordOk OK.out
  rw [← ho] at hu
  have HO := hid ho
  clear ho
  obtain ⟨wa, hwa⟩ : ∃ wa, wa = w1.setRow w.heap.size o.ca := ⟨_, rfl⟩
  have HR : Hid (wa.heap[w.heap.size]? = some (.cells o.ca 27 (0, 0))) := by show _ = _; rw [hwa]; exact heap_setRow _ _ _ _ _ HP.out
  have HZ : Hid (wa.heap[w.heap.size + 1]? = some (.cells HV.zero.ca 27 (0, 0))) := by show _ = _; rw [hwa, setRow_other _ _ _ _ (by omega)]; exact HQ.out
  have HW : Hid (Below w.heap.size w wa) := by show Below _ _ _; rw [hwa]; exact below_setRow HB0.out (Nat.le_refl _) _
  rw [← hwa]
  clear hwa HP HQ HB0 HB1
  have x33 := row_cellH HR.out 33 (v := .bool o.user) (by simp [HV.ca, HV.cs])
  go_wp2_with (first
    | ((with_reducible refine wpL_loadH (x := .tmp 3) w.heap.size ?_ o ?_ ?_); rfl; exact HR.out)
    | ((with_reducible refine wpL_storeH (x := .tmp 6) (y := .tmp 14) (w.heap.size + 1) ?_ o ?_ HV.zero.ca ?_ rfl ?_); rfl; rfl; exact HZ.out))
  refine bodyPost_ret (ret_row2 Tryz.results29 (w.heap.size + 1) o false rfl rfl (heap_setRow _ _ _ _ _ HZ.out)) rfl ⟨by rw [HO.out], ?_⟩
  exact below_setRow HW.out (by omega) _
end Go.Proofs.YtlfdokkopgmfjaaGreatDoor
namespace Go.Proofs.YtlfdokkopgmfjaaGreatDoor
open Go.RowKit
set_option linter.unusedVariables false
set_option maxRecDepth 100000

/-- an event -/
structure EV where
  kind : Int
  access : Int
  va : Int
  gpa : Int
  walk : Bool
  wrote : Bool
def EV.cs (e : EV) : List Value := [.int .i64 e.kind, .int .i64 e.access, .int .u64 e.va, .int .u64 e.gpa, .bool e.walk, .bool e.wrote]
def EV.zero : EV := ⟨0, 0, 0, 0, false, false⟩
@[reducible] def EV.v (e : EV) : Value := .agg #[.int .i64 e.kind, .int .i64 e.access, .int .u64 e.va, .int .u64 e.gpa, .bool e.walk, .bool e.wrote]
theorem hv_one (h : HV) : h.cs.all (·.oneCell') = true := by simp [HV.cs, Value.oneCell']
theorem setCell_row (w : World) (g k : Nat) (cs cs' : Array Value) (t : TypeId) (v : Value) (hg : w.heap[g]? = some (.cells cs t (0, 0))) (he : cs.setIfInBounds k v = cs') : (w.setCell ⟨g, k, none⟩ v).heap[g]? = some (.cells cs' t (0, 0)) := by
  rw [setCell_eq_setRow w g k cs t (0, 0) v hg, he]
  exact setRow_heap w g cs _ t _ hg
/-- one register turned -/
def upd (x : Nat → Int) (r : Nat) (v : Int) : Nat → Int := fun k => if k = r then v else x k

theorem hv_x (h : HV) : ∀ r, r < 32 → h.cs[r]? = some (.int .u64 (h.x r))
  | 0, _ => rfl
  | 1, _ => rfl
  | 2, _ => rfl
  | 3, _ => rfl
  | 4, _ => rfl
  | 5, _ => rfl
  | 6, _ => rfl
  | 7, _ => rfl
  | 8, _ => rfl
  | 9, _ => rfl
  | 10, _ => rfl
  | 11, _ => rfl
  | 12, _ => rfl
  | 13, _ => rfl
  | 14, _ => rfl
  | 15, _ => rfl
  | 16, _ => rfl
  | 17, _ => rfl
  | 18, _ => rfl
  | 19, _ => rfl
  | 20, _ => rfl
  | 21, _ => rfl
  | 22, _ => rfl
  | 23, _ => rfl
  | 24, _ => rfl
  | 25, _ => rfl
  | 26, _ => rfl
  | 27, _ => rfl
  | 28, _ => rfl
  | 29, _ => rfl
  | 30, _ => rfl
  | 31, _ => rfl
  | n + 32, q => absurd q (by omega)

theorem hv_set (h : HV) (v : Int) : ∀ r, r < 32 → h.cs.set r (.int .u64 v) = ({ h with x := upd h.x r v } : HV).cs
  | 0, _ => rfl
  | 1, _ => rfl
  | 2, _ => rfl
  | 3, _ => rfl
  | 4, _ => rfl
  | 5, _ => rfl
  | 6, _ => rfl
  | 7, _ => rfl
  | 8, _ => rfl
  | 9, _ => rfl
  | 10, _ => rfl
  | 11, _ => rfl
  | 12, _ => rfl
  | 13, _ => rfl
  | 14, _ => rfl
  | 15, _ => rfl
  | 16, _ => rfl
  | 17, _ => rfl
  | 18, _ => rfl
  | 19, _ => rfl
  | 20, _ => rfl
  | 21, _ => rfl
  | 22, _ => rfl
  | 23, _ => rfl
  | 24, _ => rfl
  | 25, _ => rfl
  | 26, _ => rfl
  | 27, _ => rfl
  | 28, _ => rfl
  | 29, _ => rfl
  | 30, _ => rfl
  | 31, _ => rfl
  | n + 32, q => absurd q (by omega)

theorem hv_len (h : HV) : h.cs.length = 49 := rfl
/-- loads and stores of a part of a block -/
theorem run_loadVar_sub {P : Program} (w : World) (g off : Nat) (t ty : TypeId) (cs sub : Array Value) (fr : Nat × Nat) (d : TypeDesc) (hg : w.heap[g]? = some (.cells cs t fr))
    (hs : ∀ j v, sub.toList[j]? = some v → cs[off + j]? = some v) (hu : P.underlying ty = some d) (hd : (match d with | .struct _ | .array _ _ => true | _ => false) = true) (hi : (P.info? ty).map (·.size) = some sub.size) :
    (loadVar ty ⟨g, off, none⟩).run P w = .ok (.agg sub) w := by
  have hl : (loadCells ⟨g, off, none⟩ sub.toList.length).run P w = .ok sub.toList.toArray w :=
    run_loadCells_list (P := P) w ⟨g, off, none⟩ sub.toList (fun j v hv => by
      have hadd : (⟨g, off, none⟩ : Addr).add j = ⟨g, off + j, none⟩ := by unfold Addr.add; split <;> simp_all
      rw [hadd, cell_of_row w g (off + j) cs t fr hg]
      exact hs j v hv)
  cases hq : P.info? ty with
  | none => simp [hq] at hi
  | some i =>
    have hs : i.size = sub.size := by simpa [hq] using hi
    have hagg : (isAgg ty).run P w = .ok true w := by
      unfold isAgg
      rw [Sem.run_bind, run_underlying hu w]
      cases d <;> simp_all
    simp only [Array.length_toList, Array.toArray_toList] at hl
    simp [loadVar, Sem.run_bind, hagg, sizeOf, typeInfo, hq, hs, hl]
theorem run_storeVar_sub {P : Program} (w : World) (g off : Nat) (t ty : TypeId) (cs sub new : Array Value) (hg : w.heap[g]? = some (.cells cs t (0, 0)))
    (hn : (cs.toList.take off ++ sub.toList ++ cs.toList.drop (off + sub.toList.length)).toArray = new) (hl : off + sub.toList.length ≤ cs.size) (h1 : sub.all (·.oneCell') = true) (hi : (P.info? ty).map (·.size) = some sub.size) :
    (storeVar ty ⟨g, off, none⟩ (.agg sub)).run P w = .ok () (w.setRow g new) := by
  have hst := run_storeCells_at P g off t sub.toList 0 cs w hg (by simpa using hl) (fun v hv => by have := Array.all_eq_true_iff_forall_mem.1 h1 v (by simpa using hv); exact this)
  simp only [Nat.add_zero] at hst
  rw [hn] at hst
  cases hq : P.info? ty with
  | none => simp [hq] at hi
  | some i =>
    have hs : i.size = sub.size := by simpa [hq] using hi
    have hc : (Value.agg sub).cells = sub := rfl
    simp [storeVar, sizeOf, typeInfo, hq, hs, hc, hst]
theorem wpList_load_sub {P : Program} {ops : Array Oper} {rest : List Oper} {o : Oper} {a : Act} {w : World} {Q : Exit → Act → World → Prop} (hgd : o.guard = none) (ty : TypeId) (x : Operand) (ho : o.op = .load ty x)
    (g off : Nat) (hx : a.eval x = .pointer (some ⟨g, off, none⟩)) (t : TypeId) (cs sub : Array Value) (fr : Nat × Nat) (d : TypeDesc) (hg : w.heap[g]? = some (.cells cs t fr))
    (hs : ∀ j v, sub.toList[j]? = some v → cs[off + j]? = some v) (hu : P.underlying ty = some d) (hd : (match d with | .struct _ | .array _ _ => true | _ => false) = true) (hi : (P.info? ty).map (·.size) = some sub.size)
    (h : wpList P ops Q rest (a.put o.dst (.agg sub)) w) : wpList P ops Q (o :: rest) a w :=
  wpList_plain hgd fun _ hK => by
    unfold Oper.wp execOp
    simp only [ho, hx, Instr.loadAt, Instr.sureAddr, Sem.run_bind, Sem.run_pure, Result.andThen_ok, run_loadVar_sub w g off t ty cs sub fr d hg hs hu hd hi]
    exact hK _ _ h
theorem wpList_store_sub {P : Program} {ops : Array Oper} {rest : List Oper} {o : Oper} {a : Act} {w : World} {Q : Exit → Act → World → Prop} (hgd : o.guard = none) (ty : TypeId) (x y : Operand) (ho : o.op = .store ty x y)
    (g off : Nat) (hx : a.eval x = .pointer (some ⟨g, off, none⟩)) (t : TypeId) (cs sub new : Array Value) (hy : a.eval y = .agg sub) (hg : w.heap[g]? = some (.cells cs t (0, 0)))
    (hn : (cs.toList.take off ++ sub.toList ++ cs.toList.drop (off + sub.toList.length)).toArray = new) (hl : off + sub.toList.length ≤ cs.size) (h1 : sub.all (·.oneCell') = true) (hi : (P.info? ty).map (·.size) = some sub.size)
    (h : wpList P ops Q rest (a.put o.dst undef) (w.setRow g new)) : wpList P ops Q (o :: rest) a w :=
  wpList_plain hgd fun _ hK => by
    unfold Oper.wp execOp
    simp only [ho, hx, hy, Instr.storeAt, Instr.sureAddr, Sem.run_bind, Sem.run_pure, Result.andThen_ok, run_storeVar_sub w g off t ty cs sub new hg hn hl h1 hi]
    exact hK _ _ h
theorem wpL_store_sub {P : Program} {ops : Array Oper} {rest : List Oper} {d : Option Nat} {ty tt : TypeId} {x y : Operand} {pos : String} {after : Array Edge} {a : Act} {w : World} {Q : Exit → Act → World → Prop}
    (g off : Nat) (t : TypeId) (cs sub new : Array Value) (hx : a.eval x = .pointer (some ⟨g, off, none⟩)) (hy : a.eval y = .agg sub) (hg : w.heap[g]? = some (.cells cs t (0, 0)))
    (hn : (cs.toList.take off ++ sub.toList ++ cs.toList.drop (off + sub.toList.length)).toArray = new) (hl : off + sub.toList.length ≤ cs.size) (h1 : sub.all (·.oneCell') = true) (hi : (P.info? ty).map (·.size) = some sub.size)
    (h : wpList P ops Q rest (a.put d undef) (w.setRow g new)) : wpList P ops Q ({ dst := d, op := Op.store ty x y, type := tt, pos := pos, after := after, guard := none } :: rest) a w :=
  wpList_store_sub rfl ty x y rfl g off hx t cs sub new hy hg hn hl h1 hi h
theorem wpL_load_sub {P : Program} {ops : Array Oper} {rest : List Oper} {d : Option Nat} {ty tt : TypeId} {x : Operand} {pos : String} {after : Array Edge} {a : Act} {w : World} {Q : Exit → Act → World → Prop}
    (g off : Nat) (t : TypeId) (cs sub : Array Value) (td : TypeDesc) (hx : a.eval x = .pointer (some ⟨g, off, none⟩)) (hg : w.heap[g]? = some (.cells cs t (0, 0)))
    (hs : ∀ j v, sub.toList[j]? = some v → cs[off + j]? = some v) (hu : P.underlying ty = some td) (hd : (match td with | .struct _ | .array _ _ => true | _ => false) = true) (hi : (P.info? ty).map (·.size) = some sub.size)
    (h : wpList P ops Q rest (a.put d (.agg sub)) w) : wpList P ops Q ({ dst := d, op := Op.load ty x, type := tt, pos := pos, after := after, guard := none } :: rest) a w :=
  wpList_load_sub rfl ty x rfl g off hx t cs sub (0, 0) td hg hs hu hd hi h
end Go.Proofs.YtlfdokkopgmfjaaGreatDoor
namespace Go.Proofs.YtlfdokkopgmfjaaGreatDoor
open Go.RowKit
set_option linter.unusedVariables false
set_option maxRecDepth 100000

section
variable {P : Program} (w : World)
theorem eqFields_refl (d : Nat) (xs : Array Value) : ∀ fs : List Field, (∀ f ∈ fs, ∃ v, (part f.type xs f.offset).run P w = .ok v w ∧ (Op.equalIn d f.type v v).run P w = .ok true w) → (Op.eqFields d xs xs fs).run P w = .ok true w
  | [], _ => by simp [Op.eqFields]
  | f :: fs, h => by
    obtain ⟨v, h1, h2⟩ := h f (by simp)
    have ih := eqFields_refl d xs fs fun g hg => h g (by simp [hg])
    simp only [Op.eqFields]
    split
    · simp [Sem.run_bind, h1, h2, ih]
    · exact ih
theorem eqItems_refl (d : Nat) (e : TypeId) (c : Nat) (xs : Array Value) : ∀ is : List Nat, (∀ i ∈ is, ∃ v, (part e xs (i * c)).run P w = .ok v w ∧ (Op.equalIn d e v v).run P w = .ok true w) → (Op.eqItems d e c xs xs is).run P w = .ok true w
  | [], _ => by simp [Op.eqItems]
  | i :: is, h => by
    obtain ⟨v, h1, h2⟩ := h i (by simp)
    have ih := eqItems_refl d e c xs is fun g hg => h g (by simp [hg])
    simp [Op.eqItems, Sem.run_bind, h1, h2, ih]
end
theorem eq_u64 (n : Int) (d : Nat) (w : World) : (Op.equalIn (d + 1) 22 (.int .u64 n) (.int .u64 n)).run Tryz.prog w = .ok true w := by
  have hu : Tryz.prog.underlying 22 = some (.int .u64) := by kernel_rfl
  simp [Op.equalIn, run_underlying hu]
theorem eq_bool (b : Bool) (d : Nat) (w : World) : (Op.equalIn (d + 1) 4 (.bool b) (.bool b)).run Tryz.prog w = .ok true w := by
  have hu : Tryz.prog.underlying 4 = some .bool := by kernel_rfl
  simp [Op.equalIn, run_underlying hu]
theorem pk_u64 : Tryz.prog.plainKey 22 = true := by kernel_rfl
theorem pk_bool : Tryz.prog.plainKey 4 = true := by kernel_rfl
theorem co_u64 : Tryz.prog.cellsOf 22 = 1 := by kernel_rfl
def xsA (h : HV) : Array Value := (h.cs.take 32).toArray
theorem xs_get (h : HV) (r : Nat) (q : r < 32) : (xsA h)[r]? = some (.int .u64 (h.x r)) := by
  simp only [xsA, List.getElem?_toArray]
  rw [List.getElem?_take_of_lt q]
  exact hv_x h r q
theorem u_a32 : Tryz.prog.underlying 25 = some (.array 32 22) := by kernel_rfl
theorem part_x (h : HV) (w : World) : (part 25 h.ca 0).run Tryz.prog w = .ok (.agg (xsA h)) w := by
  have hi : (Tryz.prog.info? 25).map (·.size) = some 32 := by kernel_rfl
  have hx : h.ca.extract 0 32 = xsA h := by unfold HV.ca xsA; rw [List.extract_toArray]; rfl
  cases hq : Tryz.prog.info? 25 with
  | none => rw [hq] at hi; cases hi
  | some i =>
    have hs : i.size = 32 := by rw [hq] at hi; simpa using hi
    have hagg : (isAgg 25).run Tryz.prog w = .ok true w := by
      unfold isAgg
      rw [Sem.run_bind, run_underlying u_a32 w]
      rfl
    simp [part, Sem.run_bind, hagg, sizeOf, typeInfo, hq, hs, hx]
theorem eq_x (h : HV) (w : World) (d : Nat) : (Op.equalIn (d + 1 + 1) 25 (.agg (xsA h)) (.agg (xsA h))).run Tryz.prog w = .ok true w := by
  obtain ⟨i, hi⟩ : ∃ i, Tryz.prog.info? 22 = some i := Option.isSome_iff_exists.1 (by kernel_rfl)
  rw [run_equalIn_array w (d + 1) (xsA h) (xsA h) u_a32 hi]
  refine eqItems_refl w (d + 1) 22 _ (xsA h) _ fun i hi => ⟨.int .u64 (h.x i), ?_, eq_u64 _ d w⟩
  rw [co_u64, Nat.mul_one]
  exact run_part_plain w pk_u64 (xs_get h i (List.mem_range.1 hi))
/-- the fields of a hart: its registers, words, flags -/
def fldB (f : Field) : Bool := (f.type == 25 && f.offset == 0) || (f.type == 22 && (f.offset == 32 || (decide (40 ≤ f.offset) && decide (f.offset < 49)))) || (f.type == 4 && decide (33 ≤ f.offset) && decide (f.offset < 40))
theorem fld_all : (Tryz.prog.fieldsOf 27).toList.all fldB = true := by kernel_rfl
theorem stood_hart : Tryz.prog.stoodInHeld 27 = false := by kernel_rfl
theorem ca_word (h : HV) : ∀ o, (o = 32 ∨ (40 ≤ o ∧ o < 49)) → ∃ n, h.ca[o]? = some (.int .u64 n) := by
  intro o ho
  rcases (by omega : o = 32 ∨ o = 40 ∨ o = 41 ∨ o = 42 ∨ o = 43 ∨ o = 44 ∨ o = 45 ∨ o = 46 ∨ o = 47 ∨ o = 48) with rfl | rfl | rfl | rfl | rfl | rfl | rfl | rfl | rfl | rfl <;> exact ⟨_, rfl⟩
theorem ca_flag (h : HV) : ∀ o, (33 ≤ o ∧ o < 40) → ∃ b, h.ca[o]? = some (.bool b) := by
  intro o ho
  rcases (by omega : o = 33 ∨ o = 34 ∨ o = 35 ∨ o = 36 ∨ o = 37 ∨ o = 38 ∨ o = 39) with rfl | rfl | rfl | rfl | rfl | rfl | rfl <;> exact ⟨_, rfl⟩
theorem run_eqH (h : HV) (w : World) : (Op.equalIn 10000 27 h.v h.v).run Tryz.prog w = .ok true w := by
  rw [run_equalIn_struct w 9999 27 _ _ u_hart stood_hart]
  refine eqFields_refl w 9999 h.ca _ fun f hf => ?_
  have hb := List.all_eq_true.1 fld_all f hf
  simp only [fldB, Bool.or_eq_true, Bool.and_eq_true, beq_iff_eq, decide_eq_true_eq] at hb
  rcases hb with (⟨h1, h2⟩ | ⟨h1, h2⟩) | ⟨⟨h1, h2⟩, h3⟩
  · rw [h1, h2]; exact ⟨_, part_x h w, eq_x h w 9997⟩
  · obtain ⟨n, hn⟩ := ca_word h f.offset h2
    rw [h1]; exact ⟨_, run_part_plain w pk_u64 hn, eq_u64 n 9998 w⟩
  · obtain ⟨n, hn⟩ := ca_flag h f.offset ⟨h2, h3⟩
    rw [h1]; exact ⟨_, run_part_plain w pk_bool hn, eq_bool n 9998 w⟩
end Go.Proofs.YtlfdokkopgmfjaaGreatDoor
namespace Go.Proofs.YtlfdokkopgmfjaaGreatDoor
open Go.RowKit
set_option linter.unusedVariables false
set_option maxRecDepth 100000

theorem wpL_build {P : Program} {ops : Array Oper} {rest : List Oper} {d : Option Nat} {t tt : TypeId} {L : List (Nat × Operand)} {pos : String} {after : Array Edge} {a : Act} {w : World} {Q : Exit → Act → World → Prop} (X : List (Nat × Value)) (cells : Array Value)
    (hX : (L.map fun p => (p.1, a.eval p.2)) = X) (hf : P.built t X = some cells) (h : wpList P ops Q rest (a.put d (.agg cells)) w) : wpList P ops Q ({ dst := d, op := Op.build t L.toArray, type := tt, pos := pos, after := after, guard := none } :: rest) a w :=
  wpList_buildTo rfl t L.toArray rfl d rfl cells (by rw [List.map_toArray]; rw [← hX] at hf; exact hf) h
theorem setRow_size (w : World) (g : Nat) (c : Array Value) : (w.setRow g c).heap.size = w.heap.size := by simp [World.setRow]
theorem ordH_ok {h : HV} (k : HOk h) : HOk (ordH h) := by
  have hb : ∀ n : Int, 0 ≤ n ∧ n < 18446744073709551616 → 0 ≤ ib n ∧ ib n < 18446744073709551616 := fun n q => by
    unfold ib
    rw [u64_and n 546 q.1 q.2 (by omega) (by omega)]
    have : n.toNat &&& (546 : Int).toNat ≤ (546 : Int).toNat := Nat.and_le_right
    have e : (546 : Int).toNat = 546 := rfl
    rw [e] at this
    rw [e]
    omega
  exact { x := fun r => by show 0 ≤ zx h.x r ∧ zx h.x r < _; unfold zx; split; omega; exact k.x r
          pc := by have := k.pc; show 0 ≤ h.pc / 2 * 2 ∧ h.pc / 2 * 2 < _; omega
          stvec := by have := k.stvec; show 0 ≤ h.stvec / 4 * 4 + h.stvec % 2 ∧ h.stvec / 4 * 4 + h.stvec % 2 < _; omega
          sscr := k.sscr
          sepc := by have := k.sepc; show 0 ≤ h.sepc / 2 * 2 ∧ h.sepc / 2 * 2 < _; omega
          scause := k.scause
          stval := k.stval
          sie := hb _ k.sie
          sip := hb _ k.sip
          satp := k.satp
          resv := k.resv }
end Go.Proofs.YtlfdokkopgmfjaaGreatDoor
namespace Go.Proofs.YtlfdokkopgmfjaaGreatDoor.C
open Go.RowKit
set_option linter.unusedVariables false

theorem wpAny_inv {P : Program} {md : Region.Mode} {ops : Array Oper} {Q : Exit → Act → World → Prop} (J : Array Bool → Act → World → Prop)
    (step : ∀ listed a w, J listed a w → ∀ i ∈ Region.ready md ops listed, wpOp P ops Q i (J (listed.setIfInBounds i true)) a w)
    (fin : ∀ listed a w, J listed a w → Region.ready md ops listed = [] → Q .normal a w) :
    ∀ (fuel : Nat) (listed : Array Bool) (a : Act) (w : World), listed.toList.count false ≤ fuel → J listed a w → wpAny P md ops Q fuel listed a w := by
  intro fuel
  have key : ∀ (listed : Array Bool) (i : Nat), i ∈ Region.ready md ops listed → (listed.setIfInBounds i true).toList.count false + 1 = listed.toList.count false := by
    intro listed i hi
    have h0 := (mem_ready.1 hi).1
    have hlt : i < listed.size := by
      rcases Nat.lt_or_ge i listed.size with h | h
      · exact h
      · simp [Array.getElem?_eq_none h] at h0
    have hv : listed.toList[i]'(by simpa using hlt) = false := by simpa [hlt] using h0
    have hpos : 0 < listed.toList.count false := List.count_pos_iff.2 (by rw [← hv]; exact List.getElem_mem _)
    rw [Array.toList_setIfInBounds, List.count_set (by simpa using hlt), hv]
    have : ∀ c : Nat, 0 < c → c - (if (false == false) = true then 1 else 0) + (if (true == false) = true then 1 else 0) + 1 = c := by intro c hc; simp; omega
    exact this _ hpos
  induction fuel with
  | zero =>
    intro listed a w hc hJ
    have hr : Region.ready md ops listed = [] := by
      cases h : Region.ready md ops listed with
      | nil => rfl
      | cons i r => have := key listed i (by rw [h]; simp); omega
    exact ⟨hr, fin _ _ _ hJ hr⟩
  | succ fuel ih =>
    intro listed a w hc hJ
    refine ⟨fun h => fin _ _ _ hJ h, fun i hi => ?_⟩
    have := key listed i hi
    exact wpOp_mono (fun a' w' h' => ih _ a' w' (by omega) h') (step _ _ _ hJ i hi)
theorem ready_no {md : Region.Mode} {ops : Array Oper} {listed : Array Bool} (hr : Region.ready md ops listed = []) {j : Nat} {o : Oper} (ho : ops[j]? = some o) (hl : listed.getD j true = false)
    (he : (o.after.all fun e => !Region.binds md e || listed.getD e.on false) = true) : False := by
  have : j ∈ Region.ready md ops listed := by
    refine mem_ready.2 ⟨hl, o, ho, fun e h hb => ?_⟩
    have := Array.all_eq_true_iff_forall_mem.1 he e h
    simpa [hb] using this
  rw [hr] at this
  cases this
def svd : Bool → Value → Value → Value
  | true, v, _ => v
  | false, _, u => u
def bw : Bool → (Nat → Int) → (Nat → Int) → (Nat → Int)
  | true, v, _ => v
  | false, _, u => u
end Go.Proofs.YtlfdokkopgmfjaaGreatDoor.C
namespace Go.Proofs.YtlfdokkopgmfjaaGreatDoor
open Go.RowKit
set_option linter.unusedVariables false
/-- a world in which all that was there is as it was -/
structure WB (w0 : World) where
  w : World
  h : Below w0.heap.size w0 w
theorem WB.cell {w0 : World} (x : WB w0) {b o : Nat} {v : Value} (hb : b < w0.heap.size) (h : w0.cell? ⟨b, o, none⟩ = some v) : x.w.cell? ⟨b, o, none⟩ = some v := by
  rw [← h]; exact Below.cell x.h (p := ⟨b, o, none⟩) hb
/-- a callee's contract, met in a world of the class -/
theorem Calls.wb {P : Program} {f : FuncId} {args : Array Value} {w0 : World} {v : Value} (x : WB w0) (h : Calls P f args x.w fun e w' => e = .returned v ∧ Below x.w.heap.size x.w w') : Calls P f args x.w fun e w'' => e = .returned v ∧ ∃ y : WB w0, w'' = y.w :=
  h.mono fun _ w' hh => ⟨hh.1, ⟨w', x.h.trans (hh.2.mono x.h.size)⟩, rfl⟩
theorem wp_region_wb {P : Program} {id : Nat} {Q : Exit → Act → World → Prop} {a : Act} {w : World} {l : List Oper} (hm : P.follows .mixedOrders = true) (hB : Region.lexB .any l.toArray = true)
    (h : wpQuiet P l.toArray (fun w' => ∃ x : WB w, w' = x.w) (fun a' => ∀ w', (∃ x : WB w, w' = x.w) → Q .normal a' w') l a) : (Code.region id l.toArray true).wp P Q a w :=
  wp_region_quiet (C := fun w' => ∃ x : WB w, w' = x.w) hm hB ⟨⟨w.drew, (Below.refl _ _).drew⟩, rfl⟩ (by simpa using h)

end Go.Proofs.YtlfdokkopgmfjaaGreatDoor
