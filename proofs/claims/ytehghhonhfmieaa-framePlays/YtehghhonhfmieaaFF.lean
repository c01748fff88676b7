/- Release, and acknowledgements. -/
import Derived.Test.YtehghhonhfmieaaFE
namespace Go.Proofs.Ytehghhonhfmieaa
open Go.RowKit
open C (Only hid Mem Still ret_bool ret_int put)
set_option linter.unusedVariables false
set_option maxRecDepth 100000

theorem run_call_and {P : Program} {f : FuncId} {fn : Func} (hf : P.funcs[f]? = some fn) (hname : (fn.name == "runtime.NumGoroutine") = false) (hb : fn.body.isNone = true) (hn : Extern.findNext fn = none) (k : IntKind)
    (he : Extern.find fn = some (Extern.Atomic.update (Op.intBits .and) k false)) {a : Addr} {x y s : Int} {w : World} (hc : w.cell? a = some (.int k x)) (hz : w.frozen? a = false)
    (hs : (Op.intBits .and k x y).run P w = .ok (.int k s) w) :
    (callFunc f #[.pointer (some a), .int k y]).run P w = .ok (.value (.int k x)) (w.setCell a (.int k s)) := by
  rw [run_callFunc_extern hf hname hb hn he]
  change (Sem.run P (do
    let a' ← asAddr (.pointer (some a))
    let old ← Extern.Atomic.read (.int k) a'
    let new ← Op.intBits .and k (← asInt old) (← asInt (.int k y))
    store a' new .atomic
    pure (if false = true then new else old)) w).andThen _ = _
  simp [Extern.Atomic.read, asAddr, asInt, asIntOf, hc, hz, hs, run_store P w a (.int k s) .atomic rfl, Result.andThen]
/-- And of the atomic number: what was there -/
theorem k_And (a : Addr) (w : World) (x y s : Int) (hc : w.cell? a = some (.int .u64 x)) (hz : w.frozen? a = false) (hs : bits .and .u64 x y = s) :
    Calls Try.prog 52 #[.pointer (some a), .int .u64 y] w fun e w' => e = .returned (.int .u64 x) ∧ w' = w.setCell a (.int .u64 s) := by
  have hr := run_call_and (P := Try.prog) Try.func62 (by kernel_rfl) (by kernel_rfl) (by kernel_rfl) .u64 (by kernel_rfl) (y := y) (s := s) hc hz (by go_simp)
  go_enter Try.func52, Try.ntmps52
  go_wp2
  go_ret
  exact ⟨rfl, rfl⟩
theorem k_StoreU (a : Addr) (w : World) (x : Value) (y : Int) (hc : w.cell? a = some x) (hz : w.frozen? a = false) :
    Calls Try.prog 35 #[.pointer (some a), .int .u64 y] w fun e w' => e = .returned (.tuple #[]) ∧ w' = w.setCell a (.int .u64 y) := by
  have hst := run_call_store (P := Try.prog) Try.func51 (by kernel_rfl) (by kernel_rfl) (by kernel_rfl) (by kernel_rfl) (k := .u64) (y := y) hc hz
  go_enter Try.func35, Try.ntmps35
  go_wp2
  go_end0
  exact ⟨rfl, rfl⟩
/-- the memory of a pool has turned -/
theorem PL.turnM {w w' : World} {p g : Nat} {d : Int} {k : Value} {B S S' : Nat → Prop} {v : PV} {f f' : Nat → Int} (h : PL w p g d k B S v f) (hm : Mem w' S' v.m 0 v.n f') (ho : Only S w w') : PL w' p g d k B S' v f' :=
  ⟨ho.old h.top h.pS, ho.old h.tab h.gS, h.bits.only ho fun x hx => (h.BS x hx).1, hm⟩
/-- a bit is taken from all frames -/
theorem x_forgotten (w : World) (p g : Nat) (d : Int) (k : Value) (B S : Nat → Prop) (v : PV) (f : Nat → Int) (h : PL w p g d k B S v f) (ok : v.Ok) (kk : Nat) (hk : kk < 9) :
    Calls Try.prog 37 #[.pointer (some ⟨p, 0, none⟩), .int .u64 (bkN kk)] w fun e w' => e = .returned (.int .i64 (ackN v kk v.n)) ∧ ∃ S', PL w' p g d k B S' (ackP v kk v.n) (ackF v kk v.n f) ∧ Only (fun x => x = g ∨ S x) w w' ∧ ∀ x, S' x → S x := by
  have c3 := h.c3
  have n1 := ok.n1
  have OK := hid ok
  have HP : Hid (PL w p g d k B S (ackP v kk 0) (ackF v kk 0 f)) := by rw [ackP_zero, ackF_zero]; exact h
  clear h ok
  go_enter Try.func37, Try.ntmps37
  go_wp2
  go_loopw [5, 6, 7, 13] (fun c u6 u7 i wr => ∃ (j : Nat) (S' : Nat → Prop), j ≤ v.n ∧ i = .int .i64 j ∧ c = .int .i64 (ackN v kk j) ∧ Hid (PL wr p g d k B S' (ackP v kk j) (ackF v kk j f)) ∧ Hid (Only (fun x => x = g ∨ S x) w wr) ∧ Hid (∀ x, S' x → S x)) (fun c u6 u7 i _ => v.n - (intOf i).toNat)
  case atStart => exact ⟨0, S, by omega, rfl, rfl, HP, .refl w, fun _ q => q⟩
  case round =>
    obtain ⟨j, S', hj, rfl, rfl, hp, ho, hs⟩ := hrel
    have hc := ackN_le v kk j
    have d3 : wr.cell? ⟨p, 3, none⟩ = some (.slice (some ⟨g, 0, none⟩) v.n v.n) := hp.out.c3
    by_cases hlt : j < v.n
    · have c5 : wr.cell? ⟨g, j * 2 + 1, none⟩ = some (.int .u64 (encN (v.s j))) := by rw [hp.out.cs j hlt, ackP_s]
      have z5 := hp.out.fz (j * 2 + 1)
      have hA := k_And ⟨g, j * 2 + 1, none⟩ wr (encN (v.s j)) _ _ c5 z5 (rm_enc (OK.out.sl j) hk)
      have H2 := hid (hp.out.setS j (rm kk (v.s j)))
      have O2 : Hid (Only (fun x => x = g ∨ S x) w (wr.setCell ⟨g, j * 2 + 1, none⟩ (.int .u64 (encN (rm kk (v.s j)))))) := ho.out.setCell (.inl (.inl rfl)) _
      by_cases he : v.s j = 2 ^ kk
      · have e1 : ackN v kk (j + 1) = ackN v kk j + 1 := by simp [ackN, he]
        have e2 : (encN (v.s j) : Int) = (bkN kk : Int) := (enc_one (OK.out.sl j) hk).2 he
        obtain ⟨w1, hw1⟩ : ∃ w1, w1 = wr.setCell ⟨g, j * 2 + 1, none⟩ (.int .u64 (encN (rm kk (v.s j)))) := ⟨_, rfl⟩
        rw [← hw1] at hA H2 O2
        clear hw1
        have q0 : w1.cell? ⟨p, 0, none⟩ = some (.pointer (some ⟨v.m, 0, none⟩)) := H2.out.c0
        have hC := C.c_Clear w1 S' v.m 0 v.n _ H2.out.mem j hlt
        have HQ : Hid (∀ w2 S2, Mem w2 S2 v.m 0 v.n (put (ackF v kk j f) (4096 * j) 4096 (fun _ => 0)) → Only S' w1 w2 → (∀ x, S2 x → S' x) → PL (w2.setCell ⟨g, j * 2, none⟩ (.int .i64 0)) p g d k B S2 (ackP v kk (j + 1)) (ackF v kk (j + 1) f) ∧ Only (fun x => x = g ∨ S x) w (w2.setCell ⟨g, j * 2, none⟩ (.int .i64 0)) ∧ (∀ x, S2 x → S x) ∧ (∃ y, w2.cell? ⟨g, j * 2, none⟩ = some (.int .i64 y)) ∧ w2.frozen? ⟨g, j * 2, none⟩ = false) := by
          intro w2 S2 hm ho2 hs2
          have hp2 := H2.out.turnM hm ho2
          have hp3 := hp2.setO j 0
          rw [← ackP_free he, ← ackF_free f he] at hp3
          exact ⟨hp3, (O2.out.trans (ho2.mono fun x _ hx => .inr (hs.out x hx))).setCell (.inl (.inl rfl)) _, fun x hx => hs.out x (hs2 x hx), ⟨_, hp2.co j hlt⟩, hp2.fz _⟩
        clear hp ho H2 O2 he
        go_wp2_with (first
          | (go_at_call 52; refine hA.mono ?_; rintro e w' ⟨rfl, hw⟩; obtain rfl := hw.symm)
          | (go_at_call 53; refine hC.mono ?_; rintro e w2 ⟨S2, rfl, g1, g2, g3⟩; have G := hid (HQ.out w2 S2 g1 g2 g3); obtain ⟨y, hy⟩ := G.out.2.2.2.1; have hz := G.out.2.2.2.2; clear g1 g2 g3))
        go_roundw
        case rel => exact ⟨j + 1, S2, by omega, by go_num, by rw [e1]; go_num, G.out.1, G.out.2.1, G.out.2.2.1⟩
        case measure => simp [intOf]; omega
      · have e1 : ackN v kk (j + 1) = ackN v kk j := by simp [ackN, he]
        have e2 : ¬ ((encN (v.s j) : Int) = (bkN kk : Int)) := fun q => he ((enc_one (OK.out.sl j) hk).1 q)
        rw [← ackP_keep he, ← ackF_keep f he] at H2
        clear hp ho
        go_wp2_with (go_at_call 52; refine hA.mono ?_; rintro e w' ⟨rfl, hw⟩; obtain rfl := hw.symm)
        go_roundw
        case rel => exact ⟨j + 1, S', by omega, by go_num, by rw [e1], H2, O2, hs⟩
        case measure => simp [intOf]; omega
    · obtain rfl : j = v.n := by omega
      go_wp2
      go_ret
      exact ⟨rfl, S', hp.out, ho.out, hs.out⟩
/-- what an acknowledgement of hart x comes to -/
def akOk (v : PV) (x : Int) : Bool := decide (0 ≤ x) && decide (x < (v.h : Int))
theorem bt_bk (h j : Nat) : btN h j = bkN (ps h j) := rfl
theorem foot3 {F B S S' : Nat → Prop} {p g b : Nat} {n : Nat} (hF : ∀ x, F x ↔ x = p ∨ x = g ∨ B x ∨ S x) (hs : ∀ x, S' x → S x) (hb : B b ∨ n ≤ b) : ∀ x, (x = p ∨ x = g ∨ x = b ∨ S' x) → F x ∨ n ≤ x := by
  rintro x (rfl | rfl | rfl | z)
  · exact .inl ((hF _).2 (.inl rfl))
  · exact .inl ((hF _).2 (.inr (.inl rfl)))
  · rcases hb with q | q
    · exact .inl ((hF _).2 (.inr (.inr (.inl q))))
    · exact .inr q
  · exact .inl ((hF _).2 (.inr (.inr (.inr (hs x z)))))
theorem x_Ack (w : World) (F : Nat → Prop) (p : Nat) (v : PV) (f : Nat → Int) (h : Pool w F p v f) (x : Int) (hx : akOk v x = true) :
    Calls Try.prog 17 #[.pointer (some ⟨p, 0, none⟩), .int .i64 x] w fun e w' => e = .returned (.int .i64 (ackN v x.toNat v.n)) ∧ ∃ F', Pool w' F' p (ackP v x.toNat v.n) (ackF v x.toNat v.n f) ∧ Only F w w' ∧ ∀ k, F' k → F k ∨ w.heap.size ≤ k := by
  obtain ⟨g, d, k, B, S, hp, ok, hF⟩ := h
  have hx' : 0 ≤ x ∧ x < (v.h : Int) := by simpa [akOk] using hx
  obtain ⟨i, rfl⟩ := Int.eq_ofNat_of_zero_le hx'.1
  have hi : i < v.h := by omega
  have h1 := ok.h1
  have c2 := hp.c2
  have hl := x_list w p g d k B S v f h1 hp
  have HF := hid hF
  have OK := hid ok
  clear hp ok hF
  simp only [Int.toNat_natCast]
  go_enter Try.func17, Try.ntmps17
  go_wp2_with (first
    | (go_at_call 38; refine hl.mono ?_; rintro e w1 ⟨b, q, rfl, m1, m2, m3, m4, m5⟩; have M2 := hid m2; have M4 := hid m4; have M5 := hid m5; have m6 := m3 i (by omega); rw [show btN v.h i = bkN i by unfold btN ps; rw [if_pos hi]] at m6; have hf := x_forgotten w1 p g 1 _ (· = b) S v f m2 OK.out i (by omega); clear m2 m3 m4 m5)
    | (go_at_call 37; refine hf.mono ?_; rintro e w2 ⟨rfl, S2, g1, g2, g3⟩; have G1 := hid g1; have G2 := hid g2; have G3 := hid g3; clear g1 g2 g3))
  go_ret
  refine ⟨rfl, fun x => x = p ∨ x = g ∨ x = b ∨ S2 x, ⟨g, 1, _, (· = b), S2, G1.out, OK.out.ack i v.n (by omega), fun x => Iff.rfl⟩, ?_, foot3 HF.out G3.out M5.out⟩
  refine (M4.out.mono fun x _ e => (HF.out x).2 (.inl e)).trans (G2.out.mono fun x _ e => ?_)
  rcases e with e | e
  · exact (HF.out x).2 (.inr (.inl e))
  · exact (HF.out x).2 (.inr (.inr (.inr e)))
theorem x_Ack_no (w : World) (F : Nat → Prop) (p : Nat) (v : PV) (f : Nat → Int) (h : Pool w F p v f) (x : Int) (hx : akOk v x = false) :
    Calls Try.prog 17 #[.pointer (some ⟨p, 0, none⟩), .int .i64 x] w fun e w' => e = .returned (.int .i64 0) ∧ w' = w := by
  obtain ⟨g, d, k, B, S, hp, ok, hF⟩ := h
  have c2 := hp.c2
  clear hp hF
  simp [akOk] at hx
  go_enter Try.func17, Try.ntmps17
  by_cases h1 : x < 0
  · go_wp2; go_ret; exact ⟨rfl, rfl⟩
  · have h2 : x ≥ (v.h : Int) := by omega
    go_wp2; go_ret; exact ⟨rfl, rfl⟩
end Go.Proofs.Ytehghhonhfmieaa
