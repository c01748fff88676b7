/- The instruction at an address: the program's. -/
import Derived.Test.YtlfdokkopgmfjaaGreatDoorWM
import Derived.Test.YtlfdokkopgmfjaaGreatDoorWA
import Derived.Test.YtlfdokkopgmfjaaGreatDoorMB3
namespace Go.Proofs.YtlfdokkopgmfjaaGreatDoor
open Go.RowKit
set_option linter.unusedVariables false
set_option maxRecDepth 100000
/-- what two halves come to -/
def wdF (l h : Int × Bool) : Int × Int × Bool := if l.2 = false then (0, 0, false) else if B.szF l.1 = 2 then (if (B.expF l.1).2 = true then ((B.expF l.1).1, 2, true) else (0, 0, false)) else if h.2 = false then (0, 0, false) else (h.1 * 65536 + l.1, 4, true)
@[reducible] def t3V (t : Int × Int × Bool) : Value := .tuple #[.int .u32 t.1, .int .i64 t.2.1, .bool t.2.2]
def exR (c : Int) : Int × Int × Bool := if (B.expF c).2 = true then ((B.expF c).1, 2, true) else (0, 0, false)
theorem k_expanded (c : Int) (h0 : 0 ≤ c) (h1 : c ≤ 65535) (w : World) (hG : B.G w) : Calls Tryz.prog 32 #[.int .u16 c] w fun e w' => e = .returned (t3V (exR c)) ∧ Below w.heap.size w w' := by
  have HE : Hid (Calls Tryz.prog 56 #[.int .u16 c] w fun e w' => e = .returned (.tuple #[.int .u32 (B.expF c).1, .bool (B.expF c).2]) ∧ Below w.heap.size w w') := B.m_Expand c h0 h1 w hG
  clear hG h0 h1
  unfold exR
  obtain ⟨x, hx⟩ : ∃ x, x = B.expF c := ⟨_, rfl⟩
  rw [← hx] at HE ⊢
  clear hx
  obtain ⟨x, b⟩ := x
  cases b
  · rw [if_neg (by simp)]
    go_enter Tryz.func32, Tryz.ntmps32
    go_wp2_with (first
      | (go_at_call 56; refine HE.out.mono ?_; rintro e w1 ⟨rfl, hb⟩; have HB1 := hid hb; clear hb))
    exact bodyPost_ret (v := .tuple #[.int .u32 0, .int .i64 0, .bool false]) (by simp [results, Tryz.results32, go_sem]) rfl ⟨rfl, HB1.out⟩
  · rw [if_pos rfl]
    go_enter Tryz.func32, Tryz.ntmps32
    go_wp2_with (first
      | (go_at_call 56; refine HE.out.mono ?_; rintro e w1 ⟨rfl, hb⟩; have HB1 := hid hb; clear hb))
    exact bodyPost_ret (v := .tuple #[.int .u32 x, .int .i64 2, .bool true]) (by simp [results, Tryz.results32, go_sem]) rfl ⟨rfl, HB1.out⟩
theorem u_rd : Tryz.prog.underlying 50 = some (.struct (Tryz.prog.fieldsOf 50)) := by kernel_rfl
theorem s_rd : (Tryz.prog.info? 50).map (·.size) = some 6 := by kernel_rfl
theorem selfsub (cs : Array Value) : ∀ j v, cs.toList[j]? = some v → cs[0 + j]? = some v := fun j v h => by rw [Nat.zero_add, ← Array.getElem?_toList]; exact h
theorem or_hi (lo hi : Int) (h0 : 0 ≤ lo) (h1 : lo < 65536) (h2 : 0 ≤ hi) (h3 : hi < 65536) : bits .or .u32 (hi * 65536) lo = hi * 65536 + lo := by
  obtain ⟨a, rfl⟩ := Int.eq_ofNat_of_zero_le h0
  obtain ⟨c, rfl⟩ := Int.eq_ofNat_of_zero_le h2
  have e := u32_or_nat (c * 65536) a (by omega) (by omega)
  have e' : bits .or .u32 ((c : Int) * 65536) (a : Int) = (((c * 65536) ||| a : Nat) : Int) := by simpa using e
  rw [e']
  have := Nat.shiftLeft_add_eq_or_of_lt (a := c) (b := a) (i := 16) (by omega)
  rw [Nat.shiftLeft_eq] at this
  rw [show c * 65536 = c * 2 ^ 16 by rfl, ← this]
  omega
set_option maxHeartbeats 1000000 in
theorem k_word (w : World) (S : Nat → Prop) (p n : Nat) (bs : Int) (f : Nat → Int) (hm : C.Mem w S p bs n f) (e : C.EnvV) (he : EOk e) (va : Int) (a0 : 0 ≤ va) (a1 : va < 18446744073709551616) (hG : B.G w) :
    Calls Tryz.prog 14 #[.agg (rdCa p e), .int .u64 va] w fun r w' => r = .returned (t3V (wdF (ha bs n f e va) (ha bs n f e (IntKind.u64.wrap (va + 2))))) ∧ Below w.heap.size w w' := by
  have HL : Hid (∀ u, C.Mem u S p bs n f → Calls Tryz.prog 30 #[.agg (rdCa p e), .int .u64 va] u fun r w' => r = .returned (.tuple #[.int .u16 (ha bs n f e va).1, .bool (ha bs n f e va).2]) ∧ Below u.heap.size u w') := fun u hu => k_half u S p n bs f hu e he va a0 a1
  have HH : Hid (∀ u, C.Mem u S p bs n f → Calls Tryz.prog 30 #[.agg (rdCa p e), .int .u64 (IntKind.u64.wrap (va + 2))] u fun r w' => r = .returned (.tuple #[.int .u16 (ha bs n f e (IntKind.u64.wrap (va + 2))).1, .bool (ha bs n f e (IntKind.u64.wrap (va + 2))).2]) ∧ Below u.heap.size u w') := fun u hu => k_half u S p n bs f hu e he _ (wrap_b _).1 (wrap_b _).2
  have lb := ha_b bs n f hm.byt e va
  have hb := ha_b bs n f hm.byt e (IntKind.u64.wrap (va + 2))
  obtain ⟨wa, hwa⟩ : ∃ wa, wa = w.alloc (.cells (rdCa p e) 50) := ⟨_, rfl⟩
  have HA : Hid (Below w.heap.size w wa) := by show Below _ _ _; rw [hwa]; exact (Below.refl _ _).alloc (Nat.le_refl _) _
  have HR : Hid (wa.heap[w.heap.size]? = some (.cells (rdCa p e) 50 (0, 0))) := by show _ = _; rw [hwa]; exact heap_alloc_new _ _
  have HM : Hid (C.Mem wa S p bs n f) := hm.below HA.out
  have HG : Hid (B.G wa) := hG.below HA.out
  have HWA := hid hwa
  obtain ⟨l, hl⟩ : ∃ l, l = ha bs n f e va := ⟨_, rfl⟩
  obtain ⟨h, hh⟩ : ∃ h, h = ha bs n f e (IntKind.u64.wrap (va + 2)) := ⟨_, rfl⟩
  rw [← hl] at HL lb ⊢
  rw [← hh] at HH hb ⊢
  clear hl hh hwa hm hG he a0 a1
  obtain ⟨l1, l2⟩ := l
  obtain ⟨h1, h2⟩ := h
  have HSZ : Hid (∀ u, Calls Tryz.prog 31 #[.int .u16 l1] u fun e w' => e = .returned (.int .i64 (B.szF l1)) ∧ w' = u) := fun u => B.m_Size l1 lb.1 (by have := lb.2; omega) u
  have HEX : Hid (∀ u, B.G u → Calls Tryz.prog 32 #[.int .u16 l1] u fun e w' => e = .returned (t3V (exR l1)) ∧ Below u.heap.size u w') := fun u hu => k_expanded l1 lb.1 (by have := lb.2; omega) u hu
  have HOR : Hid (bits .or .u32 (h1 % 4294967296 * 65536 % 4294967296) (l1 % 4294967296) = h1 * 65536 + l1) := by
    show _ = _
    have q1 : h1 % 4294967296 * 65536 % 4294967296 = h1 * 65536 := by have := hb.1; have := hb.2; simp only at *; omega
    have q2 : l1 % 4294967296 = l1 := by have := lb.1; have := lb.2; simp only at *; omega
    rw [q1, q2]
    exact or_hi l1 h1 lb.1 lb.2 hb.1 hb.2
  have HLB := hid lb
  have HHB := hid hb
  clear lb hb
  cases l2
  · have hq : wdF (l1, false) (h1, h2) = (0, 0, false) := rfl
    rw [hq]
    clear hq
    go_enter Tryz.func14, Tryz.ntmps14
    go_upto_region 1 with (fail)
    have hwa := HWA.out
    rw [← hwa]
    clear hwa
    go_wp2_with (first
      | ((with_reducible refine wpL_load_sub (x := .tmp 2) w.heap.size 0 50 (rdCa p e) (rdCa p e) (.struct (Tryz.prog.fieldsOf 50)) ?_ HR.out ?_ u_rd ?_ ?_ ?_); rfl; exact selfsub (rdCa p e); rfl; exact s_rd)
      | (go_at_call 30; (with_reducible refine (HL.out _ HM.out).mono ?_); rintro r' w1 ⟨rfl, hb⟩; have HB1 := hid hb; have HM1 := hid (HM.out.below hb); have HR1 : Hid (w1.heap[w.heap.size]? = some (.cells (rdCa p e) 50 (0, 0))) := (hb.block _ (lt_of_row HR.out)).trans HR.out; clear hb HL)
      | ((with_reducible refine wpL_load_sub (x := .tmp 2) w.heap.size 0 50 (rdCa p e) (rdCa p e) (.struct (Tryz.prog.fieldsOf 50)) ?_ HR1.out ?_ u_rd ?_ ?_ ?_); rfl; exact selfsub (rdCa p e); rfl; exact s_rd)
      | (go_at_call 31; refine (HSZ.out _).mono ?_; rintro r' w0 ⟨rfl, rfl⟩)
      | (go_at_call 32; refine (HEX.out _ (HG.out.below HB1.out)).mono ?_; rintro r' w2 ⟨rfl, hb⟩; have HB2 := hid hb; clear hb)
      | (go_at_call 30; (with_reducible refine (HH.out _ HM1.out).mono ?_); rintro r' w2 ⟨rfl, hb⟩; have HB2 := hid hb; clear hb))
    exact bodyPost_ret (v := .tuple #[.int .u32 0, .int .i64 0, .bool false]) (by simp [results, Tryz.results14, go_sem]) rfl ⟨rfl, bT HA.out HB1.out⟩
  by_cases hz : B.szF l1 = 2
  · have hq : wdF (l1, true) (h1, h2) = exR l1 := by unfold wdF exR; rw [if_neg (by simp), if_pos hz]
    rw [hq]
    rw [hz] at HSZ
    clear hq hz
    obtain ⟨x, hx⟩ : ∃ x, x = exR l1 := ⟨_, rfl⟩
    rw [← hx] at HEX ⊢
    clear hx
    go_enter Tryz.func14, Tryz.ntmps14
    go_upto_region 1 with (fail)
    have hwa := HWA.out
    rw [← hwa]
    clear hwa
    go_wp2_with (first
      | ((with_reducible refine wpL_load_sub (x := .tmp 2) w.heap.size 0 50 (rdCa p e) (rdCa p e) (.struct (Tryz.prog.fieldsOf 50)) ?_ HR.out ?_ u_rd ?_ ?_ ?_); rfl; exact selfsub (rdCa p e); rfl; exact s_rd)
      | (go_at_call 30; (with_reducible refine (HL.out _ HM.out).mono ?_); rintro r' w1 ⟨rfl, hb⟩; have HB1 := hid hb; have HM1 := hid (HM.out.below hb); have HR1 : Hid (w1.heap[w.heap.size]? = some (.cells (rdCa p e) 50 (0, 0))) := (hb.block _ (lt_of_row HR.out)).trans HR.out; clear hb HL)
      | ((with_reducible refine wpL_load_sub (x := .tmp 2) w.heap.size 0 50 (rdCa p e) (rdCa p e) (.struct (Tryz.prog.fieldsOf 50)) ?_ HR1.out ?_ u_rd ?_ ?_ ?_); rfl; exact selfsub (rdCa p e); rfl; exact s_rd)
      | (go_at_call 31; refine (HSZ.out _).mono ?_; rintro r' w0 ⟨rfl, rfl⟩)
      | (go_at_call 32; refine (HEX.out _ (HG.out.below HB1.out)).mono ?_; rintro r' w2 ⟨rfl, hb⟩; have HB2 := hid hb; clear hb)
      | (go_at_call 30; (with_reducible refine (HH.out _ HM1.out).mono ?_); rintro r' w2 ⟨rfl, hb⟩; have HB2 := hid hb; clear hb))
    exact bodyPost_ret (v := .tuple #[.int .u32 x.1, .int .i64 x.2.1, .bool x.2.2]) (by simp [results, Tryz.results14, go_sem]) rfl ⟨rfl, bT HA.out (bT HB1.out HB2.out)⟩
  have bz : (B.szF l1 == 2) = false := by simpa using hz
  cases h2
  · have hq : wdF (l1, true) (h1, false) = (0, 0, false) := by unfold wdF; rw [if_neg (by simp), if_neg hz, if_pos rfl]
    rw [hq]
    clear hq hz
    go_enter Tryz.func14, Tryz.ntmps14
    go_upto_region 1 with (fail)
    have hwa := HWA.out
    rw [← hwa]
    clear hwa
    go_wp2_with (first
      | ((with_reducible refine wpL_load_sub (x := .tmp 2) w.heap.size 0 50 (rdCa p e) (rdCa p e) (.struct (Tryz.prog.fieldsOf 50)) ?_ HR.out ?_ u_rd ?_ ?_ ?_); rfl; exact selfsub (rdCa p e); rfl; exact s_rd)
      | (go_at_call 30; (with_reducible refine (HL.out _ HM.out).mono ?_); rintro r' w1 ⟨rfl, hb⟩; have HB1 := hid hb; have HM1 := hid (HM.out.below hb); have HR1 : Hid (w1.heap[w.heap.size]? = some (.cells (rdCa p e) 50 (0, 0))) := (hb.block _ (lt_of_row HR.out)).trans HR.out; clear hb HL)
      | ((with_reducible refine wpL_load_sub (x := .tmp 2) w.heap.size 0 50 (rdCa p e) (rdCa p e) (.struct (Tryz.prog.fieldsOf 50)) ?_ HR1.out ?_ u_rd ?_ ?_ ?_); rfl; exact selfsub (rdCa p e); rfl; exact s_rd)
      | (go_at_call 31; refine (HSZ.out _).mono ?_; rintro r' w0 ⟨rfl, rfl⟩)
      | (go_at_call 32; refine (HEX.out _ (HG.out.below HB1.out)).mono ?_; rintro r' w2 ⟨rfl, hb⟩; have HB2 := hid hb; clear hb)
      | (go_at_call 30; (with_reducible refine (HH.out _ HM1.out).mono ?_); rintro r' w2 ⟨rfl, hb⟩; have HB2 := hid hb; clear hb))
    exact bodyPost_ret (v := .tuple #[.int .u32 0, .int .i64 0, .bool false]) (by simp [results, Tryz.results14, go_sem]) rfl ⟨rfl, bT HA.out (bT HB1.out HB2.out)⟩
  · have hq : wdF (l1, true) (h1, true) = (h1 * 65536 + l1, 4, true) := by unfold wdF; rw [if_neg (by simp), if_neg hz, if_neg (by simp)]
    rw [hq]
    clear hq hz
    go_enter Tryz.func14, Tryz.ntmps14
    go_upto_region 1 with (fail)
    have hwa := HWA.out
    rw [← hwa]
    clear hwa
    go_wp2_with (first
      | ((with_reducible refine wpL_load_sub (x := .tmp 2) w.heap.size 0 50 (rdCa p e) (rdCa p e) (.struct (Tryz.prog.fieldsOf 50)) ?_ HR.out ?_ u_rd ?_ ?_ ?_); rfl; exact selfsub (rdCa p e); rfl; exact s_rd)
      | (go_at_call 30; (with_reducible refine (HL.out _ HM.out).mono ?_); rintro r' w1 ⟨rfl, hb⟩; have HB1 := hid hb; have HM1 := hid (HM.out.below hb); have HR1 : Hid (w1.heap[w.heap.size]? = some (.cells (rdCa p e) 50 (0, 0))) := (hb.block _ (lt_of_row HR.out)).trans HR.out; clear hb HL)
      | ((with_reducible refine wpL_load_sub (x := .tmp 2) w.heap.size 0 50 (rdCa p e) (rdCa p e) (.struct (Tryz.prog.fieldsOf 50)) ?_ HR1.out ?_ u_rd ?_ ?_ ?_); rfl; exact selfsub (rdCa p e); rfl; exact s_rd)
      | (go_at_call 31; refine (HSZ.out _).mono ?_; rintro r' w0 ⟨rfl, rfl⟩)
      | (go_at_call 32; refine (HEX.out _ (HG.out.below HB1.out)).mono ?_; rintro r' w2 ⟨rfl, hb⟩; have HB2 := hid hb; clear hb)
      | (go_at_call 30; (with_reducible refine (HH.out _ HM1.out).mono ?_); rintro r' w2 ⟨rfl, hb⟩; have HB2 := hid hb; clear hb))
    exact bodyPost_ret (v := .tuple #[.int .u32 (bits .or .u32 (h1 % 4294967296 * 65536 % 4294967296) (l1 % 4294967296)), .int .i64 4, .bool true]) (by simp [results, Tryz.results14, go_sem]) rfl ⟨by rw [HOR.out], bT HA.out (bT HB1.out HB2.out)⟩
end Go.Proofs.YtlfdokkopgmfjaaGreatDoor
namespace Go.Proofs.YtlfdokkopgmfjaaGreatDoor
open Go.RowKit
set_option linter.unusedVariables false
set_option maxRecDepth 100000
theorem ret_env {fn : Func} {p : Tmp} (hf : fn.results = #[.cell p 47]) {tmps : Array Value} {w : World} (g : Nat) (e : C.EnvV) (hp : tmps.getD p undef = .pointer (some ⟨g, 0, none⟩)) (hg : w.heap[g]? = some (.cells (envCa e) 47 (0, 0))) : (results fn tmps).run Tryz.prog w = .ok (.agg (envCa e)) w :=
  results_cell_row hf tmps w g 47 (envCa e) (0, 0) (.struct (Tryz.prog.fieldsOf 47)) hp hg u_env rfl (by rw [s_env]; rfl)
set_option maxHeartbeats 1000000 in
theorem k_envOf (o : HV) (root : Int) (w : World) : Calls Tryz.prog 13 #[o.v, .int .u64 root] w fun r w' => r = .returned (.agg (envCa (eO o root))) ∧ Below w.heap.size w w' := by
  obtain ⟨wa, hwa⟩ : ∃ wa, wa = (w.alloc (.cells o.ca 27)).alloc (.cells (envCa ⟨0, 0, false, false, false⟩) 47) := ⟨_, rfl⟩
  have HA : Hid (Below w.heap.size w wa) := by show Below _ _ _; rw [hwa]; exact below2 _ _
  have HR : Hid (wa.heap[w.heap.size]? = some (.cells o.ca 27 (0, 0))) := by show _ = _; rw [hwa]; exact heap2 _ _ _
  have HZ : Hid (wa.heap[w.heap.size + 1]? = some (.cells (envCa ⟨0, 0, false, false, false⟩) 47 (0, 0))) := by show _ = _; rw [hwa]; exact heap2' _ _ _
  have HWA := hid hwa
  clear hwa
  have x47 := row_cellH HR.out 47 (v := .int .u64 o.satp) (by simp [HV.ca, HV.cs])
  have x33 := row_cellH HR.out 33 (v := .bool o.user) (by simp [HV.ca, HV.cs])
  have x37 := row_cellH HR.out 37 (v := .bool o.sum) (by simp [HV.ca, HV.cs])
  have x38 := row_cellH HR.out 38 (v := .bool o.mxr) (by simp [HV.ca, HV.cs])
  go_enter Tryz.func13, Tryz.ntmps13
  go_upto_region 1 with (fail)
  have hwa := HWA.out
  rw [← hwa]
  clear hwa
  go_wp2_with (first
    | ((with_reducible refine wpL_store_sub (x := .tmp 4) (y := .tmp 14) (w.heap.size + 1) 0 47 (envCa ⟨0, 0, false, false, false⟩) (envCa (eO o root)) (envCa (eO o root)) ?_ ?_ HZ.out ?_ ?_ ?_ ?_ ?_); rfl; rfl; rfl; exact (Nat.le_refl 5); (simp [Value.oneCell']); exact s_env))
  exact bodyPost_ret (ret_env Tryz.results13 (w.heap.size + 1) (eO o root) rfl (setRow_heap _ _ _ _ _ _ HZ.out)) rfl ⟨rfl, below_setRow HA.out (by omega) _⟩
theorem built_rd (p : Nat) (e : C.EnvV) : Tryz.prog.built 50 [(0, .pointer (some ⟨p, 0, none⟩)), (1, .agg (envCa e))] = some (rdCa p e) := by kernel_rfl
set_option maxHeartbeats 1000000 in
theorem k_Fetch (w : World) (S : Nat → Prop) (p n : Nat) (bs : Int) (f : Nat → Int) (hm : C.Mem w S p bs n f) (root : Int) (ro : 0 ≤ root ∧ root < 18446744073709551616) (h : HV) (ok : HOk h) (hG : B.G w) :
    Calls Tryz.prog 5 #[.pointer (some ⟨p, 0, none⟩), .int .u64 root, h.v] w fun r w' => r = .returned (t3V (wdF (ha bs n f (eO (ordH h) root) (ordH h).pc) (ha bs n f (eO (ordH h) root) (IntKind.u64.wrap ((ordH h).pc + 2))))) ∧ Below w.heap.size w w' := by
  have HO : Hid (∀ u, Calls Tryz.prog 12 #[h.v] u fun e w' => e = .returned (ordH h).v ∧ Below u.heap.size u w') := fun u => k_inOrder h ok u
  have oo := ordOk ok
  obtain ⟨o, ho⟩ : ∃ o, o = ordH h := ⟨_, rfl⟩
  rw [← ho] at HO oo ⊢
  clear ho ok
  have HW : Hid (∀ u, C.Mem u S p bs n f → B.G u → Calls Tryz.prog 14 #[.agg (rdCa p (eO o root)), .int .u64 o.pc] u fun r w' => r = .returned (t3V (wdF (ha bs n f (eO o root) o.pc) (ha bs n f (eO o root) (IntKind.u64.wrap (o.pc + 2))))) ∧ Below u.heap.size u w') := fun u hu hg => k_word u S p n bs f hu (eO o root) ⟨oo.satp, ro⟩ o.pc oo.pc.1 oo.pc.2 hg
  have HE : Hid (∀ u, Calls Tryz.prog 13 #[o.v, .int .u64 root] u fun r w' => r = .returned (.agg (envCa (eO o root))) ∧ Below u.heap.size u w') := fun u => k_envOf o root u
  obtain ⟨t, ht⟩ : ∃ t, t = wdF (ha bs n f (eO o root) o.pc) (ha bs n f (eO o root) (IntKind.u64.wrap (o.pc + 2))) := ⟨_, rfl⟩
  rw [← ht] at HW ⊢
  clear ht oo ro
  have HM := hid hm
  have HG := hid hG
  clear hm hG
  have hbr := built_rd p (eO o root)
  go_enter Tryz.func5, Tryz.ntmps5
  go_upto_region 2 with (first
    | ((with_reducible refine wpL_loadH (x := .tmp 5) w.heap.size ?_ h ?_ ?_); rfl; exact heap1 _ _)
    | (go_at_call 12; refine (HO.out _).mono ?_; rintro e w1 ⟨rfl, hb⟩; have HB1 := hid hb; clear hb)
    | ((with_reducible refine wpL_storeH (x := .tmp 5) (y := .tmp 10) w.heap.size ?_ o ?_ h.ca ?_ rfl ?_); rfl; rfl; exact (HB1.out.block _ (by simp)).trans (heap1 _ _)))
  obtain ⟨wa, hwa⟩ : ∃ wa, wa = w1.setRow w.heap.size o.ca := ⟨_, rfl⟩
  rw [← hwa]
  have HWB : Hid (Below w.heap.size w wa) := by show Below _ _ _; rw [hwa]; exact below_setRow (((Below.refl _ _).alloc (Nat.le_refl _) _).trans (HB1.out.mono (by simp))) (Nat.le_refl _) _
  have P0 : Hid (wa.heap[w.heap.size]? = some (.cells o.ca 27 (0, 0))) := by show _ = _; rw [hwa]; exact heap_setRow _ _ _ _ _ ((HB1.out.block _ (by simp)).trans (heap1 _ _))
  clear hwa HB1
  have H0 : Hid (∀ w', (∃ x : WB wa, w' = x.w) → w'.heap[w.heap.size]? = some (.cells o.ca 27 (0, 0))) := fun w' ⟨x, hx⟩ => by rw [hx]; exact (x.h.block _ (lt_of_row P0.out)).trans P0.out
  have HMX : Hid (∀ x : WB wa, C.Mem x.w S p bs n f) := fun x => (HM.out.below HWB.out).below x.h
  have HGX : Hid (∀ x : WB wa, B.G x.w) := fun x => (HG.out.below HWB.out).below x.h
  refine wp_region_wb (by kernel_rfl) (by kernel_rfl) ?_
  repeat
    first
      | ((with_reducible refine wpQuiet_loadH w.heap.size o ?_ H0.out ?_); rfl)
      | ((with_reducible refine wpQuiet_load_one w.heap.size 32 27 o.ca (.int .u64 o.pc) ?_ ?_ ?_ H0.out ?_ ?_); rfl; exact wd_n; exact fun _ h => lv_u64 h; (simp [HV.ca, HV.cs]))
      | (refine wpQuiet_step (fun K hK => ?_)
         go_simp
         first
           | (refine hK _ ?_; clear hK K)
           | (refine ⟨_, fun _ => rfl, hK _ ?_⟩; clear hK K)
           | (refine ⟨.agg (envCa (eO o root)), fun x => ?_, hK _ ?_⟩
              · (go_at_call 13; exact Calls.wb x (HE.out x.w))
              clear hK K)
           | (refine ⟨t3V t, fun x => ?_, hK _ ?_⟩
              · (go_at_call 14; exact Calls.wb x (HW.out x.w (HMX.out x) (HGX.out x)))
              clear hK K))
  refine wpQuiet_nil ?_
  intro _ hx
  obtain ⟨x, rfl⟩ := hx
  go_wp2
  exact bodyPost_ret (v := t3V t) (by simp [results, Tryz.results5, go_sem]) rfl ⟨rfl, bT HWB.out x.h⟩
end Go.Proofs.YtlfdokkopgmfjaaGreatDoor
namespace Go.Proofs.YtlfdokkopgmfjaaGreatDoor
open Go.RowKit
set_option linter.unusedVariables false
set_option maxRecDepth 100000
set_option maxHeartbeats 2000000 in
theorem d_FetchH (w : World) (S : Nat → Prop) (p n : Nat) (bs : Int) (f : Nat → Int) (hm : C.RMem w S p bs n f) (root : Int) (h : HV) (ok : HOk h)
    (hT : ∀ (u : World) (va : Int), C.RMem u S p bs n f → 0 ≤ va → va < 18446744073709551616 → Calls Tryz.prog 16 #[.pointer (some ⟨p, 0, none⟩), .int .u64 root, (ordH h).v, .int .u64 va] u fun r w' => r = .returned (.tuple #[.int .u64 (ha bs n f (eO (ordH h) root) va).1, .bool (ha bs n f (eO (ordH h) root) va).2]) ∧ Below u.heap.size u w')
    (hS : ∀ (u : World) (c : Int), 0 ≤ c → c ≤ 65535 → Calls Tryz.prog 17 #[.int .u16 c] u fun e w' => e = .returned (.int .i64 (B.szF c)) ∧ w' = u)
    (hE : ∀ (u : World) (c : Int), 0 ≤ c → c ≤ 65535 → Calls Tryz.prog 18 #[.int .u16 c] u fun e w' => e = .returned (.tuple #[.int .u32 (B.expF c).1, .bool (B.expF c).2]) ∧ Below u.heap.size u w') :
    Calls Tryz.prog 6 #[.pointer (some ⟨p, 0, none⟩), .int .u64 root, h.v] w fun r w' => r = .returned (t3V (wdF (ha bs n f (eO (ordH h) root) (ordH h).pc) (ha bs n f (eO (ordH h) root) (IntKind.u64.wrap ((ordH h).pc + 2))))) ∧ Below w.heap.size w w' := by
  have HO : Hid (∀ u, Calls Tryz.prog 15 #[h.v] u fun e w' => e = .returned (ordH h).v ∧ Below u.heap.size u w') := fun u => r_Order h ok u
  have oo := ordOk ok
  obtain ⟨o, ho⟩ : ∃ o, o = ordH h := ⟨_, rfl⟩
  rw [← ho] at HO oo hT ⊢
  clear ho ok
  have HL : Hid (∀ u, C.RMem u S p bs n f → Calls Tryz.prog 16 #[.pointer (some ⟨p, 0, none⟩), .int .u64 root, o.v, .int .u64 o.pc] u fun r w' => r = .returned (.tuple #[.int .u64 (ha bs n f (eO o root) o.pc).1, .bool (ha bs n f (eO o root) o.pc).2]) ∧ Below u.heap.size u w') := fun u hu => hT u _ hu oo.pc.1 oo.pc.2
  have HH : Hid (∀ u, C.RMem u S p bs n f → Calls Tryz.prog 16 #[.pointer (some ⟨p, 0, none⟩), .int .u64 root, o.v, .int .u64 (IntKind.u64.wrap (o.pc + 2))] u fun r w' => r = .returned (.tuple #[.int .u64 (ha bs n f (eO o root) (IntKind.u64.wrap (o.pc + 2))).1, .bool (ha bs n f (eO o root) (IntKind.u64.wrap (o.pc + 2))).2]) ∧ Below u.heap.size u w') := fun u hu => hT u _ hu (wrap_b _).1 (wrap_b _).2
  have lb := ha_b bs n f hm.byt (eO o root) o.pc
  have hb := ha_b bs n f hm.byt (eO o root) (IntKind.u64.wrap (o.pc + 2))
  have HM := hid hm
  obtain ⟨l, hl⟩ : ∃ l, l = ha bs n f (eO o root) o.pc := ⟨_, rfl⟩
  obtain ⟨h', hh⟩ : ∃ h', h' = ha bs n f (eO o root) (IntKind.u64.wrap (o.pc + 2)) := ⟨_, rfl⟩
  rw [← hl] at HL lb ⊢
  rw [← hh] at HH hb ⊢
  clear hl hh hm hT oo
  obtain ⟨l1, l2⟩ := l
  obtain ⟨h1, h2⟩ := h'
  have HSZ : Hid (∀ u, Calls Tryz.prog 17 #[.int .u16 l1] u fun e w' => e = .returned (.int .i64 (B.szF l1)) ∧ w' = u) := fun u => hS u l1 lb.1 (by have := lb.2; simp only at *; omega)
  have HEX : Hid (∀ u, Calls Tryz.prog 18 #[.int .u16 l1] u fun e w' => e = .returned (.tuple #[.int .u32 (B.expF l1).1, .bool (B.expF l1).2]) ∧ Below u.heap.size u w') := fun u => hE u l1 lb.1 (by have := lb.2; simp only at *; omega)
  have h16 := w16 l1 lb
  have HLB : Hid ((0 ≤ l1 ∧ l1 < 65536) ∧ (0 ≤ h1 ∧ h1 < 65536)) := ⟨lb, hb⟩
  clear lb hb hS hE
  cases l2
  · have hq : wdF (l1, false) (h1, h2) = (0, 0, false) := rfl
    rw [hq]
    clear hq
    go_enter Tryz.func6, Tryz.ntmps6
    go_upto_region 2 with (first
      | ((with_reducible refine wpL_loadH (x := .tmp 5) w.heap.size ?_ h ?_ ?_); rfl; exact heap1 _ _)
      | (go_at_call 15; refine (HO.out _).mono ?_; rintro e w1 ⟨rfl, hb⟩; have HB0 := hid hb; clear hb)
      | ((with_reducible refine wpL_storeH (x := .tmp 5) (y := .tmp 15) w.heap.size ?_ o ?_ h.ca ?_ rfl ?_); rfl; rfl; exact (HB0.out.block _ (by simp)).trans (heap1 _ _)))
    obtain ⟨wa, hwa⟩ : ∃ wa, wa = w1.setRow w.heap.size o.ca := ⟨_, rfl⟩
    rw [← hwa]
    have HWB : Hid (Below w.heap.size w wa) := by show Below _ _ _; rw [hwa]; exact below_setRow (((Below.refl _ _).alloc (Nat.le_refl _) _).trans (HB0.out.mono (by simp))) (Nat.le_refl _) _
    have P0 : Hid (wa.heap[w.heap.size]? = some (.cells o.ca 27 (0, 0))) := by show _ = _; rw [hwa]; exact heap_setRow _ _ _ _ _ ((HB0.out.block _ (by simp)).trans (heap1 _ _))
    clear hwa HB0 HO
    have HMA : Hid (C.RMem wa S p bs n f) := HM.out.below HWB.out
    have x32 := row_cellH P0.out 32 (v := .int .u64 o.pc) (by simp [HV.ca, HV.cs])
    go_wp2_with (first
      | ((with_reducible refine wpL_loadH (x := .tmp 5) w.heap.size ?_ o ?_ ?_); rfl; exact P0.out)
      | (go_at_call 16; (with_reducible refine (HL.out _ HMA.out).mono ?_); rintro r' w2 ⟨rfl, hb⟩; have HB1 := hid hb; have HM1 := hid (HMA.out.below hb); have P1 : Hid (w2.heap[w.heap.size]? = some (.cells o.ca 27 (0, 0))) := (hb.block _ (lt_of_row P0.out)).trans P0.out; have y32 := row_cellH P1.out 32 (v := .int .u64 o.pc) (by simp [HV.ca, HV.cs]); clear hb HL x32)
      | ((with_reducible refine wpL_loadH (x := .tmp 5) w.heap.size ?_ o ?_ ?_); rfl; exact P1.out)
      | (go_at_call 17; refine (HSZ.out _).mono ?_; rintro r' w0 ⟨rfl, rfl⟩)
      | (go_at_call 18; refine (HEX.out _).mono ?_; rintro r' w3 ⟨rfl, hb⟩; have HB2 := hid hb; clear hb)
      | (go_at_call 16; (with_reducible refine (HH.out _ HM1.out).mono ?_); rintro r' w3 ⟨rfl, hb⟩; have HB2 := hid hb; clear hb))
    exact bodyPost_ret (v := .tuple #[.int .u32 0, .int .i64 0, .bool false]) (by simp [results, Tryz.results6, go_sem]) rfl ⟨rfl, bT HWB.out HB1.out⟩
  by_cases hz : B.szF l1 = 2
  · rw [hz] at HSZ
    obtain ⟨x, hx⟩ : ∃ x, x = B.expF l1 := ⟨_, rfl⟩
    have hq : wdF (l1, true) (h1, h2) = if x.2 = true then (x.1, 2, true) else (0, 0, false) := by unfold wdF; rw [if_neg (by simp), if_pos hz, hx]
    rw [hq]
    rw [← hx] at HEX
    clear hq hz hx
    obtain ⟨x, b⟩ := x
    cases b
    · rw [if_neg (by simp)]
      go_enter Tryz.func6, Tryz.ntmps6
      go_upto_region 2 with (first
        | ((with_reducible refine wpL_loadH (x := .tmp 5) w.heap.size ?_ h ?_ ?_); rfl; exact heap1 _ _)
        | (go_at_call 15; refine (HO.out _).mono ?_; rintro e w1 ⟨rfl, hb⟩; have HB0 := hid hb; clear hb)
        | ((with_reducible refine wpL_storeH (x := .tmp 5) (y := .tmp 15) w.heap.size ?_ o ?_ h.ca ?_ rfl ?_); rfl; rfl; exact (HB0.out.block _ (by simp)).trans (heap1 _ _)))
      obtain ⟨wa, hwa⟩ : ∃ wa, wa = w1.setRow w.heap.size o.ca := ⟨_, rfl⟩
      rw [← hwa]
      have HWB : Hid (Below w.heap.size w wa) := by show Below _ _ _; rw [hwa]; exact below_setRow (((Below.refl _ _).alloc (Nat.le_refl _) _).trans (HB0.out.mono (by simp))) (Nat.le_refl _) _
      have P0 : Hid (wa.heap[w.heap.size]? = some (.cells o.ca 27 (0, 0))) := by show _ = _; rw [hwa]; exact heap_setRow _ _ _ _ _ ((HB0.out.block _ (by simp)).trans (heap1 _ _))
      clear hwa HB0 HO
      have HMA : Hid (C.RMem wa S p bs n f) := HM.out.below HWB.out
      have x32 := row_cellH P0.out 32 (v := .int .u64 o.pc) (by simp [HV.ca, HV.cs])
      go_wp2_with (first
        | ((with_reducible refine wpL_loadH (x := .tmp 5) w.heap.size ?_ o ?_ ?_); rfl; exact P0.out)
        | (go_at_call 16; (with_reducible refine (HL.out _ HMA.out).mono ?_); rintro r' w2 ⟨rfl, hb⟩; have HB1 := hid hb; have HM1 := hid (HMA.out.below hb); have P1 : Hid (w2.heap[w.heap.size]? = some (.cells o.ca 27 (0, 0))) := (hb.block _ (lt_of_row P0.out)).trans P0.out; have y32 := row_cellH P1.out 32 (v := .int .u64 o.pc) (by simp [HV.ca, HV.cs]); clear hb HL x32)
        | ((with_reducible refine wpL_loadH (x := .tmp 5) w.heap.size ?_ o ?_ ?_); rfl; exact P1.out)
        | (go_at_call 17; refine (HSZ.out _).mono ?_; rintro r' w0 ⟨rfl, rfl⟩)
        | (go_at_call 18; refine (HEX.out _).mono ?_; rintro r' w3 ⟨rfl, hb⟩; have HB2 := hid hb; clear hb)
        | (go_at_call 16; (with_reducible refine (HH.out _ HM1.out).mono ?_); rintro r' w3 ⟨rfl, hb⟩; have HB2 := hid hb; clear hb))
      exact bodyPost_ret (v := .tuple #[.int .u32 0, .int .i64 0, .bool false]) (by simp [results, Tryz.results6, go_sem]) rfl ⟨rfl, bT HWB.out (bT HB1.out HB2.out)⟩
    · rw [if_pos rfl]
      go_enter Tryz.func6, Tryz.ntmps6
      go_upto_region 2 with (first
        | ((with_reducible refine wpL_loadH (x := .tmp 5) w.heap.size ?_ h ?_ ?_); rfl; exact heap1 _ _)
        | (go_at_call 15; refine (HO.out _).mono ?_; rintro e w1 ⟨rfl, hb⟩; have HB0 := hid hb; clear hb)
        | ((with_reducible refine wpL_storeH (x := .tmp 5) (y := .tmp 15) w.heap.size ?_ o ?_ h.ca ?_ rfl ?_); rfl; rfl; exact (HB0.out.block _ (by simp)).trans (heap1 _ _)))
      obtain ⟨wa, hwa⟩ : ∃ wa, wa = w1.setRow w.heap.size o.ca := ⟨_, rfl⟩
      rw [← hwa]
      have HWB : Hid (Below w.heap.size w wa) := by show Below _ _ _; rw [hwa]; exact below_setRow (((Below.refl _ _).alloc (Nat.le_refl _) _).trans (HB0.out.mono (by simp))) (Nat.le_refl _) _
      have P0 : Hid (wa.heap[w.heap.size]? = some (.cells o.ca 27 (0, 0))) := by show _ = _; rw [hwa]; exact heap_setRow _ _ _ _ _ ((HB0.out.block _ (by simp)).trans (heap1 _ _))
      clear hwa HB0 HO
      have HMA : Hid (C.RMem wa S p bs n f) := HM.out.below HWB.out
      have x32 := row_cellH P0.out 32 (v := .int .u64 o.pc) (by simp [HV.ca, HV.cs])
      go_wp2_with (first
        | ((with_reducible refine wpL_loadH (x := .tmp 5) w.heap.size ?_ o ?_ ?_); rfl; exact P0.out)
        | (go_at_call 16; (with_reducible refine (HL.out _ HMA.out).mono ?_); rintro r' w2 ⟨rfl, hb⟩; have HB1 := hid hb; have HM1 := hid (HMA.out.below hb); have P1 : Hid (w2.heap[w.heap.size]? = some (.cells o.ca 27 (0, 0))) := (hb.block _ (lt_of_row P0.out)).trans P0.out; have y32 := row_cellH P1.out 32 (v := .int .u64 o.pc) (by simp [HV.ca, HV.cs]); clear hb HL x32)
        | ((with_reducible refine wpL_loadH (x := .tmp 5) w.heap.size ?_ o ?_ ?_); rfl; exact P1.out)
        | (go_at_call 17; refine (HSZ.out _).mono ?_; rintro r' w0 ⟨rfl, rfl⟩)
        | (go_at_call 18; refine (HEX.out _).mono ?_; rintro r' w3 ⟨rfl, hb⟩; have HB2 := hid hb; clear hb)
        | (go_at_call 16; (with_reducible refine (HH.out _ HM1.out).mono ?_); rintro r' w3 ⟨rfl, hb⟩; have HB2 := hid hb; clear hb))
      exact bodyPost_ret (v := .tuple #[.int .u32 x, .int .i64 2, .bool true]) (by simp [results, Tryz.results6, go_sem]) rfl ⟨rfl, bT HWB.out (bT HB1.out HB2.out)⟩
  have bz : (B.szF l1 == 2) = false := by simpa using hz
  cases h2
  · have hq : wdF (l1, true) (h1, false) = (0, 0, false) := by unfold wdF; rw [if_neg (by simp), if_neg hz, if_pos rfl]
    rw [hq]
    clear hq hz
    go_enter Tryz.func6, Tryz.ntmps6
    go_upto_region 2 with (first
      | ((with_reducible refine wpL_loadH (x := .tmp 5) w.heap.size ?_ h ?_ ?_); rfl; exact heap1 _ _)
      | (go_at_call 15; refine (HO.out _).mono ?_; rintro e w1 ⟨rfl, hb⟩; have HB0 := hid hb; clear hb)
      | ((with_reducible refine wpL_storeH (x := .tmp 5) (y := .tmp 15) w.heap.size ?_ o ?_ h.ca ?_ rfl ?_); rfl; rfl; exact (HB0.out.block _ (by simp)).trans (heap1 _ _)))
    obtain ⟨wa, hwa⟩ : ∃ wa, wa = w1.setRow w.heap.size o.ca := ⟨_, rfl⟩
    rw [← hwa]
    have HWB : Hid (Below w.heap.size w wa) := by show Below _ _ _; rw [hwa]; exact below_setRow (((Below.refl _ _).alloc (Nat.le_refl _) _).trans (HB0.out.mono (by simp))) (Nat.le_refl _) _
    have P0 : Hid (wa.heap[w.heap.size]? = some (.cells o.ca 27 (0, 0))) := by show _ = _; rw [hwa]; exact heap_setRow _ _ _ _ _ ((HB0.out.block _ (by simp)).trans (heap1 _ _))
    clear hwa HB0 HO
    have HMA : Hid (C.RMem wa S p bs n f) := HM.out.below HWB.out
    have x32 := row_cellH P0.out 32 (v := .int .u64 o.pc) (by simp [HV.ca, HV.cs])
    go_wp2_with (first
      | ((with_reducible refine wpL_loadH (x := .tmp 5) w.heap.size ?_ o ?_ ?_); rfl; exact P0.out)
      | (go_at_call 16; (with_reducible refine (HL.out _ HMA.out).mono ?_); rintro r' w2 ⟨rfl, hb⟩; have HB1 := hid hb; have HM1 := hid (HMA.out.below hb); have P1 : Hid (w2.heap[w.heap.size]? = some (.cells o.ca 27 (0, 0))) := (hb.block _ (lt_of_row P0.out)).trans P0.out; have y32 := row_cellH P1.out 32 (v := .int .u64 o.pc) (by simp [HV.ca, HV.cs]); clear hb HL x32)
      | ((with_reducible refine wpL_loadH (x := .tmp 5) w.heap.size ?_ o ?_ ?_); rfl; exact P1.out)
      | (go_at_call 17; refine (HSZ.out _).mono ?_; rintro r' w0 ⟨rfl, rfl⟩)
      | (go_at_call 18; refine (HEX.out _).mono ?_; rintro r' w3 ⟨rfl, hb⟩; have HB2 := hid hb; clear hb)
      | (go_at_call 16; (with_reducible refine (HH.out _ HM1.out).mono ?_); rintro r' w3 ⟨rfl, hb⟩; have HB2 := hid hb; clear hb))
    exact bodyPost_ret (v := .tuple #[.int .u32 0, .int .i64 0, .bool false]) (by simp [results, Tryz.results6, go_sem]) rfl ⟨rfl, bT HWB.out (bT HB1.out HB2.out)⟩
  · have hq : wdF (l1, true) (h1, true) = (h1 * 65536 + l1, 4, true) := by unfold wdF; rw [if_neg (by simp), if_neg hz, if_neg (by simp)]
    rw [hq]
    clear hq hz
    go_enter Tryz.func6, Tryz.ntmps6
    go_upto_region 2 with (first
      | ((with_reducible refine wpL_loadH (x := .tmp 5) w.heap.size ?_ h ?_ ?_); rfl; exact heap1 _ _)
      | (go_at_call 15; refine (HO.out _).mono ?_; rintro e w1 ⟨rfl, hb⟩; have HB0 := hid hb; clear hb)
      | ((with_reducible refine wpL_storeH (x := .tmp 5) (y := .tmp 15) w.heap.size ?_ o ?_ h.ca ?_ rfl ?_); rfl; rfl; exact (HB0.out.block _ (by simp)).trans (heap1 _ _)))
    obtain ⟨wa, hwa⟩ : ∃ wa, wa = w1.setRow w.heap.size o.ca := ⟨_, rfl⟩
    rw [← hwa]
    have HWB : Hid (Below w.heap.size w wa) := by show Below _ _ _; rw [hwa]; exact below_setRow (((Below.refl _ _).alloc (Nat.le_refl _) _).trans (HB0.out.mono (by simp))) (Nat.le_refl _) _
    have P0 : Hid (wa.heap[w.heap.size]? = some (.cells o.ca 27 (0, 0))) := by show _ = _; rw [hwa]; exact heap_setRow _ _ _ _ _ ((HB0.out.block _ (by simp)).trans (heap1 _ _))
    clear hwa HB0 HO
    have HMA : Hid (C.RMem wa S p bs n f) := HM.out.below HWB.out
    have x32 := row_cellH P0.out 32 (v := .int .u64 o.pc) (by simp [HV.ca, HV.cs])
    go_wp2_with (first
      | ((with_reducible refine wpL_loadH (x := .tmp 5) w.heap.size ?_ o ?_ ?_); rfl; exact P0.out)
      | (go_at_call 16; (with_reducible refine (HL.out _ HMA.out).mono ?_); rintro r' w2 ⟨rfl, hb⟩; have HB1 := hid hb; have HM1 := hid (HMA.out.below hb); have P1 : Hid (w2.heap[w.heap.size]? = some (.cells o.ca 27 (0, 0))) := (hb.block _ (lt_of_row P0.out)).trans P0.out; have y32 := row_cellH P1.out 32 (v := .int .u64 o.pc) (by simp [HV.ca, HV.cs]); clear hb HL x32)
      | ((with_reducible refine wpL_loadH (x := .tmp 5) w.heap.size ?_ o ?_ ?_); rfl; exact P1.out)
      | (go_at_call 17; refine (HSZ.out _).mono ?_; rintro r' w0 ⟨rfl, rfl⟩)
      | (go_at_call 18; refine (HEX.out _).mono ?_; rintro r' w3 ⟨rfl, hb⟩; have HB2 := hid hb; clear hb)
      | (go_at_call 16; (with_reducible refine (HH.out _ HM1.out).mono ?_); rintro r' w3 ⟨rfl, hb⟩; have HB2 := hid hb; clear hb))
    have e4 : IntKind.u64.wrap (l1 + IntKind.u64.wrap (h1 * 65536)) % 4294967296 = h1 * 65536 + l1 := by have := HLB.out; rw [wrap_u, wrap_u]; omega
    exact bodyPost_ret (v := .tuple #[.int .u32 (IntKind.u64.wrap (l1 + IntKind.u64.wrap (h1 * 65536)) % 4294967296), .int .i64 4, .bool true]) (by simp [results, Tryz.results6, go_sem]) rfl ⟨by rw [e4], bT HWB.out (bT HB1.out HB2.out)⟩
end Go.Proofs.YtlfdokkopgmfjaaGreatDoor
