/- The table of an engine, made once. -/
import Derived.Test.YtajnjmjogaacpaaGreatXA
import Derived.Test.YtajnjmjogaacpaaGreatXR
import Derived.Deep.Cut
namespace Go.Proofs.YtajnjmjogaacpaaGreat
open Go.RowKit Go.ChangeMaps Go.MapKept
open C (Only hid)
set_option linter.unusedVariables false
set_option maxRecDepth 100000

theorem ins_u {P : Program} {t ke e : TypeId} (hU : P.underlying t = some (.map ke e)) (hK : P.underlying ke = some (.int .u64)) (W : World) (es es' : Array MapEntry) (c b : Nat) (k : Int) (v : Value) (hb : W.heap.size = b)
    (hn : Instr.findNow (.int .u64) (.int .u64 k) es.toList 0 = some none) (hes : es.push ⟨.int .u64 k, v, c⟩ = es') :
    (Instr.mapUpdate t (.map (some b)) (.int .u64 k) v).run P (W.alloc (.map es c)) = .ok () (W.alloc (.map es' (c + 1))) := by
  subst hb; subst hes
  have hb : (W.alloc (.map es c)).heap[W.heap.size]? = some (.map es c) := by show (W.heap.push _)[W.heap.size]? = _; simp
  have hkey : IsKey (.int .u64) (.int .u64 k) := by simp [IsKey]
  simp [Instr.mapUpdate, run_underlying hU, MapKept.run_getObj_map hb, run_checkKey hK hkey, run_findKey hK hn, MapKept.run_setObj_map _ hb, Result.andThen]
  have e : (W.heap.push (Obj.map es c)).setIfInBounds W.heap.size (.map (es.push ⟨.int .u64 k, v, c⟩) (c+1)) = W.heap.push (.map (es.push ⟨.int .u64 k, v, c⟩) (c+1)) := by
    apply Array.ext'
    simp
  show ({ W.alloc (.map es c) with heap := (W.heap.push (Obj.map es c)).setIfInBounds W.heap.size (.map (es.push ⟨.int .u64 k, v, c⟩) (c+1)) } : World) = _
  rw [e]
  rfl
theorem u_rmap : Tryz.prog.underlying 100 = some (.map 23 106) := by kernel_rfl
theorem u_ru64 : Tryz.prog.underlying 23 = some (.int .u64) := by kernel_rfl
/-- what the slots come to hold -/
def lv (e n0 : Nat) : Nat → Value
  | 6 => .pointer (some ⟨e, 0, none⟩)
  | 7 => .map (some n0)
  | 8 => .pointer (some ⟨e, 3, none⟩)
  | 9 => .pointer (some ⟨e, 3, none⟩)
  | 10 => .pointer (some ⟨e, 3, none⟩)
  | 11 => .func (.func 53) #[.pointer (some ⟨e, 3, none⟩)] #[]
  | 12 => .pointer (some ⟨e, 3, none⟩)
  | 13 => .pointer (some ⟨e, 3, none⟩)
  | 14 => .pointer (some ⟨e, 3, none⟩)
  | 15 => .func (.func 54) #[.pointer (some ⟨e, 3, none⟩)] #[]
  | 16 => .agg #[.func (.func 53) #[.pointer (some ⟨e, 3, none⟩)] #[], .func (.func 54) #[.pointer (some ⟨e, 3, none⟩)] #[]]
  | 17 => .pointer (some ⟨e, 3, none⟩)
  | 18 => .pointer (some ⟨e, 3, none⟩)
  | 19 => .pointer (some ⟨e, 4, none⟩)
  | 20 => .func (.func 53) #[.pointer (some ⟨e, 4, none⟩)] #[]
  | 21 => .pointer (some ⟨e, 3, none⟩)
  | 22 => .pointer (some ⟨e, 3, none⟩)
  | 23 => .pointer (some ⟨e, 4, none⟩)
  | 24 => .func (.func 54) #[.pointer (some ⟨e, 4, none⟩)] #[]
  | 25 => .agg #[.func (.func 53) #[.pointer (some ⟨e, 4, none⟩)] #[], .func (.func 54) #[.pointer (some ⟨e, 4, none⟩)] #[]]
  | 26 => .pointer (some ⟨e, 3, none⟩)
  | 27 => .pointer (some ⟨e, 3, none⟩)
  | 28 => .pointer (some ⟨e, 5, none⟩)
  | 29 => .func (.func 53) #[.pointer (some ⟨e, 5, none⟩)] #[]
  | 30 => .pointer (some ⟨e, 3, none⟩)
  | 31 => .pointer (some ⟨e, 3, none⟩)
  | 32 => .pointer (some ⟨e, 5, none⟩)
  | 33 => .func (.func 54) #[.pointer (some ⟨e, 5, none⟩)] #[]
  | 34 => .agg #[.func (.func 53) #[.pointer (some ⟨e, 5, none⟩)] #[], .func (.func 54) #[.pointer (some ⟨e, 5, none⟩)] #[]]
  | 35 => .pointer (some ⟨e, 0, none⟩)
  | 36 => .func (.func 55) #[.pointer (some ⟨e, 0, none⟩)] #[]
  | 37 => .pointer (some ⟨e, 0, none⟩)
  | 38 => .func (.func 56) #[.pointer (some ⟨e, 0, none⟩)] #[]
  | 39 => .agg #[.func (.func 55) #[.pointer (some ⟨e, 0, none⟩)] #[], .func (.func 56) #[.pointer (some ⟨e, 0, none⟩)] #[]]
  | 40 => .pointer (some ⟨e, 3, none⟩)
  | 41 => .pointer (some ⟨e, 3, none⟩)
  | 42 => .pointer (some ⟨e, 6, none⟩)
  | 43 => .func (.func 53) #[.pointer (some ⟨e, 6, none⟩)] #[]
  | 44 => .pointer (some ⟨e, 0, none⟩)
  | 45 => .func (.func 57) #[.pointer (some ⟨e, 0, none⟩)] #[]
  | 46 => .agg #[.func (.func 53) #[.pointer (some ⟨e, 6, none⟩)] #[], .func (.func 57) #[.pointer (some ⟨e, 0, none⟩)] #[]]
  | 47 => .pointer (some ⟨e, 3, none⟩)
  | 48 => .pointer (some ⟨e, 3, none⟩)
  | 49 => .pointer (some ⟨e, 7, none⟩)
  | 50 => .func (.func 53) #[.pointer (some ⟨e, 7, none⟩)] #[]
  | 51 => .pointer (some ⟨e, 3, none⟩)
  | 52 => .pointer (some ⟨e, 3, none⟩)
  | 53 => .pointer (some ⟨e, 7, none⟩)
  | 54 => .func (.func 54) #[.pointer (some ⟨e, 7, none⟩)] #[]
  | 55 => .agg #[.func (.func 53) #[.pointer (some ⟨e, 7, none⟩)] #[], .func (.func 54) #[.pointer (some ⟨e, 7, none⟩)] #[]]
  | 56 => .pointer (some ⟨e, 3, none⟩)
  | 57 => .pointer (some ⟨e, 3, none⟩)
  | 58 => .pointer (some ⟨e, 8, none⟩)
  | 59 => .func (.func 53) #[.pointer (some ⟨e, 8, none⟩)] #[]
  | 60 => .pointer (some ⟨e, 3, none⟩)
  | 61 => .pointer (some ⟨e, 3, none⟩)
  | 62 => .pointer (some ⟨e, 8, none⟩)
  | 63 => .func (.func 54) #[.pointer (some ⟨e, 8, none⟩)] #[]
  | 64 => .agg #[.func (.func 53) #[.pointer (some ⟨e, 8, none⟩)] #[], .func (.func 54) #[.pointer (some ⟨e, 8, none⟩)] #[]]
  | 65 => .map (some n0)
  | 66 => .pointer (some ⟨e, 0, none⟩)
  | 67 => .pointer (some ⟨e, 13, none⟩)
  | _ => undef
/-- the operation that lays an entry -/
def ix : Nat → Nat
  | 0 => 11
  | 1 => 21
  | 2 => 31
  | 3 => 37
  | 4 => 45
  | 5 => 55
  | 6 => 65
  | _ => 0
def Wl (w0 : World) (e : Nat) (es : Array MapEntry) (c : Nat) : Bool → Bool → World
  | _, true => (w0.alloc (.map es c)).setCell ⟨e, 13, none⟩ (.map (some w0.heap.size))
  | true, false => w0.alloc (.map es c)
  | false, false => w0
def WI (w0 : World) (e : Nat) (listed : Array Bool) (w : World) : Prop := ∃ es c, w = Wl w0 e es c (listed.getD 1 false) (listed.getD 69 false) ∧ TabP e es (fun i => listed.getD (ix i) false) ∧ (listed.getD 1 false = false → es = #[] ∧ c = 0) ∧ (listed.getD 69 false = true → listed.getD 1 false = true ∧ ∀ i, i < 7 → listed.getD (ix i) false = true)
def spec (j : Nat) : Bool := j == 1 || j == 69 || (List.range 8).any fun i => ix i == j
theorem TabP.congr {e : Nat} {es : Array MapEntry} {b b' : Nat → Bool} (h : TabP e es b) (hb : ∀ i, i < 7 → b' i = b i) : TabP e es b' :=
  ⟨fun x hx => by obtain ⟨i, p, q, r⟩ := h.1 x hx; exact ⟨i, p, by rw [hb i p]; exact q, r⟩, fun i p q => h.2 i p (by rw [← hb i p]; exact q)⟩
theorem ix_ne : ∀ i, i < 7 → ix i ≠ 1 ∧ ix i ≠ 69 := by decide
theorem ix_inj : ∀ i, i < 7 → ∀ j, j < 7 → ix i = ix j → i = j := by decide
theorem WI.q {w0 : World} {e : Nat} {listed : Array Bool} {w : World} (h : WI w0 e listed w) (j : Nat) (hj : j < listed.size) (h1 : j ≠ 1) (h2 : j ≠ 69) (h3 : ∀ i, i < 7 → ix i ≠ j) : WI w0 e (listed.setIfInBounds j true) w := by
  obtain ⟨es, c, q1, q2, q3, q4⟩ := h
  have g1 : (listed.setIfInBounds j true).getD 1 false = listed.getD 1 false := by rw [getD_set _ _ _ hj, if_neg (fun q => h1 q.symm)]
  have g2 : (listed.setIfInBounds j true).getD 69 false = listed.getD 69 false := by rw [getD_set _ _ _ hj, if_neg (fun q => h2 q.symm)]
  have g3 : ∀ i, i < 7 → (listed.setIfInBounds j true).getD (ix i) false = listed.getD (ix i) false := fun i hi => by rw [getD_set _ _ _ hj, if_neg (h3 i hi)]
  refine ⟨es, c, by rw [g1, g2]; exact q1, q2.congr g3, by rw [g1]; exact q3, fun z => ?_⟩
  rw [g2] at z
  rw [g1]
  exact ⟨(q4 z).1, fun i hi => by rw [g3 i hi]; exact (q4 z).2 i hi⟩
theorem WI.pre {w0 : World} {e : Nat} {listed : Array Bool} {w : World} (h : WI w0 e listed w) (i : Nat) (hi : i < 7) (h1 : listed.getD 1 false = true) (h2 : listed.getD (ix i) false = false) : ∃ es c, w = w0.alloc (.map es c) ∧ TabP e es (fun i => listed.getD (ix i) false) := by
  obtain ⟨es, c, q1, q2, q3, q4⟩ := h
  have : listed.getD 69 false = false := by
    cases z : listed.getD 69 false
    · rfl
    · have := (q4 z).2 i hi; rw [h2] at this; cases this
  rw [h1, this] at q1
  exact ⟨es, c, q1, q2⟩
theorem WI.last {w0 : World} {e : Nat} {listed : Array Bool} {w : World} (h : WI w0 e listed w) (i : Nat) (hi : i < 7) (h2 : listed.getD (ix i) false = false) : listed.getD 69 false = false := by
  obtain ⟨es, c, q1, q2, q3, q4⟩ := h
  cases z : listed.getD 69 false
  · rfl
  · have := (q4 z).2 i hi; rw [h2] at this; cases this
theorem ix_lt2 : ∀ i, i < 7 → ix i < 67 := by decide
theorem getD_tf {l : Array Bool} {j : Nat} (hj : j < l.size) (h : l.getD j true = false) : l.getD j false = false := by simp [hj] at h ⊢; exact h
theorem WI.ins {w0 : World} {e : Nat} {listed : Array Bool} {es : Array MapEntry} {c : Nat} (hT : TabP e es (fun i => listed.getD (ix i) false)) (i : Nat) (hi : i < 7) (hj : ix i < listed.size) (h1 : listed.getD 1 false = true) (h2 : listed.getD 69 false = false) (k : Int) (hk : k = 8 * (i : Int)) (v : Value) (hv : v = eR e i) :
    WI w0 e (listed.setIfInBounds (ix i) true) (w0.alloc (.map (es.push ⟨.int .u64 k, v, c⟩) (c + 1))) := by
  have n1 := ix_ne i hi
  have g1 : (listed.setIfInBounds (ix i) true).getD 1 false = true := by rw [getD_set _ _ _ hj, if_neg (fun q => n1.1 q.symm)]; exact h1
  have g2 : (listed.setIfInBounds (ix i) true).getD 69 false = false := by rw [getD_set _ _ _ hj, if_neg (fun q => n1.2 q.symm)]; exact h2
  refine ⟨_, c + 1, by rw [g1, g2]; rfl, (hT.push (b' := fun j => if j = i then true else listed.getD (ix j) false) i hi k hk v hv c (fun j => rfl)).congr fun j hj' => ?_, fun z => ?_, fun z => ?_⟩
  · rw [getD_set _ _ _ hj]
    by_cases q : j = i
    · subst q; rw [if_pos rfl, if_pos rfl]
    · rw [if_neg q, if_neg (fun z => q (ix_inj j hj' i hi z))]
  · rw [g1] at z; cases z
  · rw [g2] at z; cases z
theorem ix_lt : ∀ i, i < 7 → ix i < 70 := by decide
/-- in the end all is done: each operation waits for earlier ones alone -/
theorem allDone {ops : Array Oper} {listed : Array Bool} (hr : Region.ready .any ops listed = []) (hs : listed.size = ops.size) (hc : ((List.range ops.size).all fun j => (match ops[j]? with | some o => o.after.all fun e => decide (e.on < j) | none => true)) = true) : ∀ j, j < ops.size → listed.getD j false = true := by
  intro j
  induction j using Nat.strongRecOn with
  | _ j ih =>
    intro hj
    have h1 := List.all_eq_true.1 hc j (by simpa using hj)
    cases z : listed.getD j false with
    | true => rfl
    | false =>
      exfalso
      have hjo : ops[j]? = some ops[j] := by simp [hj]
      rw [hjo] at h1
      have : j ∈ Region.ready .any ops listed := by
        refine mem_ready.2 ⟨?_, ops[j], hjo, fun e he _ => ?_⟩
        · have hjl : j < listed.size := by rw [hs]; exact hj
          simp [hjl] at z ⊢
          exact z
        · have := Array.all_eq_true_iff_forall_mem.1 h1 e he
          have hlt : e.on < j := by simpa using this
          exact ih e.on hlt (Nat.lt_trans hlt hj)
      rw [hr] at this
      cases this
set_option maxHeartbeats 8000000 in
theorem x_lay0 (w : World) (e : Nat) (h13 : w.cell? ⟨e, 13, none⟩ = some (.map none)) (f13 : w.frozen? ⟨e, 13, none⟩ = false) (he : e < w.heap.size) :
    Calls Tryz.prog 40 #[.pointer (some ⟨e, 0, none⟩)] w fun r w' => r = .returned (.tuple #[]) ∧ ∃ es c, TabP e es (fun _ => true) ∧ w' = Wl w.drew e es c true true := by
  go_enter Tryz.func40, Tryz.ntmps40
  go_upto_region 1 with fail
  obtain ⟨w0, hw0⟩ : ∃ w0, w0 = w.drew := ⟨_, rfl⟩
  have he0 : e < w0.heap.size := by rw [hw0]; simpa using he
  replace h13 : w0.cell? ⟨e, 13, none⟩ = some (.map none) := by rw [hw0]; exact h13
  replace f13 : w0.frozen? ⟨e, 13, none⟩ = false := by rw [hw0]; exact f13
  refine wp_region_any (by kernel_rfl) ?_
  rw [show ({ w with drawn := w.drawn + 1 } : World) = w0 from hw0.symm]
  have HW0 := hid hw0
  clear hw0 he
  refine wpAny_fq (lv e w0.heap.size) (WI w0 e) ?step ?fin ?start
  case start =>
    refine ⟨#[], 0, rfl, TabP.nil e _ (fun j => ?_), fun _ => ⟨rfl, rfl⟩, fun h => absurd h (by decide)⟩
    have : (Array.replicate 70 false).getD (ix j) false = false := by
      simp only [Array.getD_eq_getD_getElem?, Array.getElem?_replicate]
      split <;> rfl
    exact this
  case fin =>
    rintro listed fr wr ⟨hF, hW⟩ hr
    have all : ∀ j, j < 70 → listed.getD j false = true := allDone hr hF.ls (by kernel_rfl)
    obtain ⟨es, c, q1, q2, -, -⟩ := hW
    rw [all 1 (by decide), all 69 (by decide)] at q1
    subst q1
    obtain ⟨t, df⟩ := fr
    obtain rfl : df = [] := hF.df
    go_end0
    exact ⟨rfl, es, c, q2.congr (fun i hi => (all (ix i) (ix_lt i hi)).symm), by rw [HW0.out]⟩
  case step =>
    rintro listed fr wr ⟨hF, hW⟩ j hj
    obtain ⟨hl, o, ho, he⟩ := mem_ready.1 hj
    have hjl : j < listed.size := by rw [hF.ls]; exact (Array.getElem?_eq_some_iff.1 ho).1
    clear hj
    have HF := hid hF
    have HW := hid hW
    have HE := hid he
    have HL := hid hl
    clear hF hW he hl
    match j, ho with
    | 0, ho =>
      obtain rfl := Option.some.inj ho
      have e0 : fr.tmps[0]?.getD undef = .pointer (some ⟨e, 0, none⟩) := HF.out.base 0 (by kernel_rfl) rfl
      exact wp_q rfl rfl (by simp [execOp, go_sem, e0]; rfl) ⟨HF.out.put (by kernel_rfl) rfl rfl rfl (show 6 < 68 by decide), HW.out.q 0 hjl (by decide) (by decide) (by decide)⟩
    | 1, ho =>
      obtain rfl := Option.some.inj ho
      have h1f : listed.getD 1 false = false := getD_tf hjl HL.out
      obtain ⟨es, c, q1, q2, q3, q4⟩ := HW.out
      have hLf : listed.getD 69 false = false := by cases z : listed.getD 69 false; rfl; have := (q4 z).1; rw [h1f] at this; cases this
      obtain ⟨rfl, rfl⟩ := q3 h1f
      rw [h1f, hLf] at q1
      obtain rfl : wr = w0 := q1
      have hmm := @run_makeMap Tryz.prog
      refine wp_q (v := .map (some wr.heap.size)) (w' := wr.alloc (.map #[] 0)) rfl rfl (by simp [execOp, go_sem, hmm]; try rfl) ⟨HF.out.put (by kernel_rfl) rfl rfl rfl (show 7 < 68 by decide), #[], 0, ?_, ?_, ?_, ?_⟩
      · rw [getD_set _ _ _ hjl, getD_set _ _ _ hjl, if_pos rfl, if_neg (by decide), hLf]; rfl
      · exact q2.congr fun i hi => by rw [getD_set _ _ _ hjl, if_neg (ix_ne i hi).1]
      · intro z; rw [getD_set _ _ _ hjl, if_pos rfl] at z; cases z
      · intro z; rw [getD_set _ _ _ hjl, if_neg (by decide), hLf] at z; cases z
    | 2, ho =>
      obtain rfl := Option.some.inj ho
      have e2 : fr.tmps[2]?.getD undef = .pointer (some ⟨e, 3, none⟩) := HF.out.base 2 (by kernel_rfl) rfl
      exact wp_q rfl rfl (by simp [execOp, go_sem, e2]; rfl) ⟨HF.out.put (by kernel_rfl) rfl rfl rfl (show 8 < 68 by decide), HW.out.q 2 hjl (by decide) (by decide) (by decide)⟩
    | 3, ho =>
      obtain rfl := Option.some.inj ho
      have e8 : fr.tmps[8]?.getD undef = .pointer (some ⟨e, 3, none⟩) := HF.out.ev (i := 2) rfl rfl (HE.out ⟨2, .data⟩ (by simp) rfl)
      exact wp_q rfl rfl (by simp [execOp, go_sem, e8]; rfl) ⟨HF.out.put (by kernel_rfl) rfl rfl rfl (show 9 < 68 by decide), HW.out.q 3 hjl (by decide) (by decide) (by decide)⟩
    | 4, ho =>
      obtain rfl := Option.some.inj ho
      have e9 : fr.tmps[9]?.getD undef = .pointer (some ⟨e, 3, none⟩) := HF.out.ev (i := 3) rfl rfl (HE.out ⟨3, .data⟩ (by simp) rfl)
      exact wp_q rfl rfl (by simp [execOp, go_sem, e9]; rfl) ⟨HF.out.put (by kernel_rfl) rfl rfl rfl (show 10 < 68 by decide), HW.out.q 4 hjl (by decide) (by decide) (by decide)⟩
    | 5, ho =>
      obtain rfl := Option.some.inj ho
      have e10 : fr.tmps[10]?.getD undef = .pointer (some ⟨e, 3, none⟩) := HF.out.ev (i := 4) rfl rfl (HE.out ⟨4, .data⟩ (by simp) rfl)
      exact wp_q rfl rfl (by simp [execOp, go_sem, e10]; rfl) ⟨HF.out.put (by kernel_rfl) rfl rfl rfl (show 11 < 68 by decide), HW.out.q 5 hjl (by decide) (by decide) (by decide)⟩
    | 6, ho =>
      obtain rfl := Option.some.inj ho
      have e2 : fr.tmps[2]?.getD undef = .pointer (some ⟨e, 3, none⟩) := HF.out.base 2 (by kernel_rfl) rfl
      exact wp_q rfl rfl (by simp [execOp, go_sem, e2]; rfl) ⟨HF.out.put (by kernel_rfl) rfl rfl rfl (show 12 < 68 by decide), HW.out.q 6 hjl (by decide) (by decide) (by decide)⟩
    | 7, ho =>
      obtain rfl := Option.some.inj ho
      have e12 : fr.tmps[12]?.getD undef = .pointer (some ⟨e, 3, none⟩) := HF.out.ev (i := 6) rfl rfl (HE.out ⟨6, .data⟩ (by simp) rfl)
      exact wp_q rfl rfl (by simp [execOp, go_sem, e12]; rfl) ⟨HF.out.put (by kernel_rfl) rfl rfl rfl (show 13 < 68 by decide), HW.out.q 7 hjl (by decide) (by decide) (by decide)⟩
    | 8, ho =>
      obtain rfl := Option.some.inj ho
      have e13 : fr.tmps[13]?.getD undef = .pointer (some ⟨e, 3, none⟩) := HF.out.ev (i := 7) rfl rfl (HE.out ⟨7, .data⟩ (by simp) rfl)
      exact wp_q rfl rfl (by simp [execOp, go_sem, e13]; rfl) ⟨HF.out.put (by kernel_rfl) rfl rfl rfl (show 14 < 68 by decide), HW.out.q 8 hjl (by decide) (by decide) (by decide)⟩
    | 9, ho =>
      obtain rfl := Option.some.inj ho
      have e14 : fr.tmps[14]?.getD undef = .pointer (some ⟨e, 3, none⟩) := HF.out.ev (i := 8) rfl rfl (HE.out ⟨8, .data⟩ (by simp) rfl)
      exact wp_q rfl rfl (by simp [execOp, go_sem, e14]; rfl) ⟨HF.out.put (by kernel_rfl) rfl rfl rfl (show 15 < 68 by decide), HW.out.q 9 hjl (by decide) (by decide) (by decide)⟩
    | 10, ho =>
      obtain rfl := Option.some.inj ho
      have e11 : fr.tmps[11]?.getD undef = .func (.func 53) #[.pointer (some ⟨e, 3, none⟩)] #[] := HF.out.ev (i := 5) rfl rfl (HE.out ⟨5, .data⟩ (by simp) rfl)
      have e15 : fr.tmps[15]?.getD undef = .func (.func 54) #[.pointer (some ⟨e, 3, none⟩)] #[] := HF.out.ev (i := 9) rfl rfl (HE.out ⟨9, .data⟩ (by simp) rfl)
      exact wp_q rfl rfl (by simp [execOp, go_sem, e11, e15]; rfl) ⟨HF.out.put (by kernel_rfl) rfl rfl rfl (show 16 < 68 by decide), HW.out.q 10 hjl (by decide) (by decide) (by decide)⟩
    | 11, ho =>
      obtain rfl := Option.some.inj ho
      have e7 : fr.tmps[7]?.getD undef = .map (some w0.heap.size) := HF.out.ev (i := 1) rfl rfl (HE.out ⟨1, .data⟩ (by simp) rfl)
      have e16 : fr.tmps[16]?.getD undef = .agg #[.func (.func 53) #[.pointer (some ⟨e, 3, none⟩)] #[], .func (.func 54) #[.pointer (some ⟨e, 3, none⟩)] #[]] := HF.out.ev (i := 10) rfl rfl (HE.out ⟨10, .data⟩ (by simp) rfl)
      have hjf : listed.getD (ix 0) false = false := getD_tf hjl HL.out
      have h1t : listed.getD 1 false = true := HE.out ⟨1, .data⟩ (by simp) rfl
      have hLf : listed.getD 69 false = false := HW.out.last 0 (by decide) hjf
      obtain ⟨es, c, rfl, hT⟩ := HW.out.pre 0 (by decide) h1t hjf
      have hms : ∀ q : Nat, q < 7 → listed.getD (ix q) false = true → (0 : Int) ≠ 8 * (q : Int) := fun q hq hb => by
        have hne : q ≠ 0 := fun z => by subst z; rw [hjf] at hb; cases hb
        omega
      have ik : (Instr.mapUpdate 100 (.map (some w0.heap.size)) (.int .u64 0) (.agg #[.func (.func 53) #[.pointer (some ⟨e, 3, none⟩)] #[], .func (.func 54) #[.pointer (some ⟨e, 3, none⟩)] #[]])).run Tryz.prog (w0.alloc (.map es c)) = .ok () (w0.alloc (.map (es.push ⟨.int .u64 0, .agg #[.func (.func 53) #[.pointer (some ⟨e, 3, none⟩)] #[], .func (.func 54) #[.pointer (some ⟨e, 3, none⟩)] #[]], c⟩) (c + 1))) := ins_u u_rmap u_ru64 w0 es _ c _ 0 _ rfl (hT.miss 0 hms) rfl
      exact wp_s (w' := w0.alloc (.map (es.push ⟨.int .u64 0, .agg #[.func (.func 53) #[.pointer (some ⟨e, 3, none⟩)] #[], .func (.func 54) #[.pointer (some ⟨e, 3, none⟩)] #[]], c⟩) (c + 1))) rfl rfl (by simp [execOp, go_sem, e7, e16, ik]) ⟨HF.out.skip rfl rfl _, WI.ins hT 0 (by decide) hjl h1t hLf 0 rfl (.agg #[.func (.func 53) #[.pointer (some ⟨e, 3, none⟩)] #[], .func (.func 54) #[.pointer (some ⟨e, 3, none⟩)] #[]]) rfl⟩
    | 12, ho =>
      obtain rfl := Option.some.inj ho
      have e2 : fr.tmps[2]?.getD undef = .pointer (some ⟨e, 3, none⟩) := HF.out.base 2 (by kernel_rfl) rfl
      exact wp_q rfl rfl (by simp [execOp, go_sem, e2]; rfl) ⟨HF.out.put (by kernel_rfl) rfl rfl rfl (show 17 < 68 by decide), HW.out.q 12 hjl (by decide) (by decide) (by decide)⟩
    | 13, ho =>
      obtain rfl := Option.some.inj ho
      have e17 : fr.tmps[17]?.getD undef = .pointer (some ⟨e, 3, none⟩) := HF.out.ev (i := 12) rfl rfl (HE.out ⟨12, .data⟩ (by simp) rfl)
      exact wp_q rfl rfl (by simp [execOp, go_sem, e17]; rfl) ⟨HF.out.put (by kernel_rfl) rfl rfl rfl (show 18 < 68 by decide), HW.out.q 13 hjl (by decide) (by decide) (by decide)⟩
    | 14, ho =>
      obtain rfl := Option.some.inj ho
      have e18 : fr.tmps[18]?.getD undef = .pointer (some ⟨e, 3, none⟩) := HF.out.ev (i := 13) rfl rfl (HE.out ⟨13, .data⟩ (by simp) rfl)
      exact wp_q rfl rfl (by simp [execOp, go_sem, e18]; rfl) ⟨HF.out.put (by kernel_rfl) rfl rfl rfl (show 19 < 68 by decide), HW.out.q 14 hjl (by decide) (by decide) (by decide)⟩
    | 15, ho =>
      obtain rfl := Option.some.inj ho
      have e19 : fr.tmps[19]?.getD undef = .pointer (some ⟨e, 4, none⟩) := HF.out.ev (i := 14) rfl rfl (HE.out ⟨14, .data⟩ (by simp) rfl)
      exact wp_q rfl rfl (by simp [execOp, go_sem, e19]; rfl) ⟨HF.out.put (by kernel_rfl) rfl rfl rfl (show 20 < 68 by decide), HW.out.q 15 hjl (by decide) (by decide) (by decide)⟩
    | 16, ho =>
      obtain rfl := Option.some.inj ho
      have e2 : fr.tmps[2]?.getD undef = .pointer (some ⟨e, 3, none⟩) := HF.out.base 2 (by kernel_rfl) rfl
      exact wp_q rfl rfl (by simp [execOp, go_sem, e2]; rfl) ⟨HF.out.put (by kernel_rfl) rfl rfl rfl (show 21 < 68 by decide), HW.out.q 16 hjl (by decide) (by decide) (by decide)⟩
    | 17, ho =>
      obtain rfl := Option.some.inj ho
      have e21 : fr.tmps[21]?.getD undef = .pointer (some ⟨e, 3, none⟩) := HF.out.ev (i := 16) rfl rfl (HE.out ⟨16, .data⟩ (by simp) rfl)
      exact wp_q rfl rfl (by simp [execOp, go_sem, e21]; rfl) ⟨HF.out.put (by kernel_rfl) rfl rfl rfl (show 22 < 68 by decide), HW.out.q 17 hjl (by decide) (by decide) (by decide)⟩
    | 18, ho =>
      obtain rfl := Option.some.inj ho
      have e22 : fr.tmps[22]?.getD undef = .pointer (some ⟨e, 3, none⟩) := HF.out.ev (i := 17) rfl rfl (HE.out ⟨17, .data⟩ (by simp) rfl)
      exact wp_q rfl rfl (by simp [execOp, go_sem, e22]; rfl) ⟨HF.out.put (by kernel_rfl) rfl rfl rfl (show 23 < 68 by decide), HW.out.q 18 hjl (by decide) (by decide) (by decide)⟩
    | 19, ho =>
      obtain rfl := Option.some.inj ho
      have e23 : fr.tmps[23]?.getD undef = .pointer (some ⟨e, 4, none⟩) := HF.out.ev (i := 18) rfl rfl (HE.out ⟨18, .data⟩ (by simp) rfl)
      exact wp_q rfl rfl (by simp [execOp, go_sem, e23]; rfl) ⟨HF.out.put (by kernel_rfl) rfl rfl rfl (show 24 < 68 by decide), HW.out.q 19 hjl (by decide) (by decide) (by decide)⟩
    | 20, ho =>
      obtain rfl := Option.some.inj ho
      have e20 : fr.tmps[20]?.getD undef = .func (.func 53) #[.pointer (some ⟨e, 4, none⟩)] #[] := HF.out.ev (i := 15) rfl rfl (HE.out ⟨15, .data⟩ (by simp) rfl)
      have e24 : fr.tmps[24]?.getD undef = .func (.func 54) #[.pointer (some ⟨e, 4, none⟩)] #[] := HF.out.ev (i := 19) rfl rfl (HE.out ⟨19, .data⟩ (by simp) rfl)
      exact wp_q rfl rfl (by simp [execOp, go_sem, e20, e24]; rfl) ⟨HF.out.put (by kernel_rfl) rfl rfl rfl (show 25 < 68 by decide), HW.out.q 20 hjl (by decide) (by decide) (by decide)⟩
    | 21, ho =>
      obtain rfl := Option.some.inj ho
      have e7 : fr.tmps[7]?.getD undef = .map (some w0.heap.size) := HF.out.ev (i := 1) rfl rfl (HE.out ⟨1, .data⟩ (by simp) rfl)
      have e25 : fr.tmps[25]?.getD undef = .agg #[.func (.func 53) #[.pointer (some ⟨e, 4, none⟩)] #[], .func (.func 54) #[.pointer (some ⟨e, 4, none⟩)] #[]] := HF.out.ev (i := 20) rfl rfl (HE.out ⟨20, .data⟩ (by simp) rfl)
      have hjf : listed.getD (ix 1) false = false := getD_tf hjl HL.out
      have h1t : listed.getD 1 false = true := HE.out ⟨1, .data⟩ (by simp) rfl
      have hLf : listed.getD 69 false = false := HW.out.last 1 (by decide) hjf
      obtain ⟨es, c, rfl, hT⟩ := HW.out.pre 1 (by decide) h1t hjf
      have hms : ∀ q : Nat, q < 7 → listed.getD (ix q) false = true → (8 : Int) ≠ 8 * (q : Int) := fun q hq hb => by
        have hne : q ≠ 1 := fun z => by subst z; rw [hjf] at hb; cases hb
        omega
      have ik : (Instr.mapUpdate 100 (.map (some w0.heap.size)) (.int .u64 8) (.agg #[.func (.func 53) #[.pointer (some ⟨e, 4, none⟩)] #[], .func (.func 54) #[.pointer (some ⟨e, 4, none⟩)] #[]])).run Tryz.prog (w0.alloc (.map es c)) = .ok () (w0.alloc (.map (es.push ⟨.int .u64 8, .agg #[.func (.func 53) #[.pointer (some ⟨e, 4, none⟩)] #[], .func (.func 54) #[.pointer (some ⟨e, 4, none⟩)] #[]], c⟩) (c + 1))) := ins_u u_rmap u_ru64 w0 es _ c _ 8 _ rfl (hT.miss 8 hms) rfl
      exact wp_s (w' := w0.alloc (.map (es.push ⟨.int .u64 8, .agg #[.func (.func 53) #[.pointer (some ⟨e, 4, none⟩)] #[], .func (.func 54) #[.pointer (some ⟨e, 4, none⟩)] #[]], c⟩) (c + 1))) rfl rfl (by simp [execOp, go_sem, e7, e25, ik]) ⟨HF.out.skip rfl rfl _, WI.ins hT 1 (by decide) hjl h1t hLf 8 rfl (.agg #[.func (.func 53) #[.pointer (some ⟨e, 4, none⟩)] #[], .func (.func 54) #[.pointer (some ⟨e, 4, none⟩)] #[]]) rfl⟩
    | 22, ho =>
      obtain rfl := Option.some.inj ho
      have e2 : fr.tmps[2]?.getD undef = .pointer (some ⟨e, 3, none⟩) := HF.out.base 2 (by kernel_rfl) rfl
      exact wp_q rfl rfl (by simp [execOp, go_sem, e2]; rfl) ⟨HF.out.put (by kernel_rfl) rfl rfl rfl (show 26 < 68 by decide), HW.out.q 22 hjl (by decide) (by decide) (by decide)⟩
    | 23, ho =>
      obtain rfl := Option.some.inj ho
      have e26 : fr.tmps[26]?.getD undef = .pointer (some ⟨e, 3, none⟩) := HF.out.ev (i := 22) rfl rfl (HE.out ⟨22, .data⟩ (by simp) rfl)
      exact wp_q rfl rfl (by simp [execOp, go_sem, e26]; rfl) ⟨HF.out.put (by kernel_rfl) rfl rfl rfl (show 27 < 68 by decide), HW.out.q 23 hjl (by decide) (by decide) (by decide)⟩
    | 24, ho =>
      obtain rfl := Option.some.inj ho
      have e27 : fr.tmps[27]?.getD undef = .pointer (some ⟨e, 3, none⟩) := HF.out.ev (i := 23) rfl rfl (HE.out ⟨23, .data⟩ (by simp) rfl)
      exact wp_q rfl rfl (by simp [execOp, go_sem, e27]; rfl) ⟨HF.out.put (by kernel_rfl) rfl rfl rfl (show 28 < 68 by decide), HW.out.q 24 hjl (by decide) (by decide) (by decide)⟩
    | 25, ho =>
      obtain rfl := Option.some.inj ho
      have e28 : fr.tmps[28]?.getD undef = .pointer (some ⟨e, 5, none⟩) := HF.out.ev (i := 24) rfl rfl (HE.out ⟨24, .data⟩ (by simp) rfl)
      exact wp_q rfl rfl (by simp [execOp, go_sem, e28]; rfl) ⟨HF.out.put (by kernel_rfl) rfl rfl rfl (show 29 < 68 by decide), HW.out.q 25 hjl (by decide) (by decide) (by decide)⟩
    | 26, ho =>
      obtain rfl := Option.some.inj ho
      have e2 : fr.tmps[2]?.getD undef = .pointer (some ⟨e, 3, none⟩) := HF.out.base 2 (by kernel_rfl) rfl
      exact wp_q rfl rfl (by simp [execOp, go_sem, e2]; rfl) ⟨HF.out.put (by kernel_rfl) rfl rfl rfl (show 30 < 68 by decide), HW.out.q 26 hjl (by decide) (by decide) (by decide)⟩
    | 27, ho =>
      obtain rfl := Option.some.inj ho
      have e30 : fr.tmps[30]?.getD undef = .pointer (some ⟨e, 3, none⟩) := HF.out.ev (i := 26) rfl rfl (HE.out ⟨26, .data⟩ (by simp) rfl)
      exact wp_q rfl rfl (by simp [execOp, go_sem, e30]; rfl) ⟨HF.out.put (by kernel_rfl) rfl rfl rfl (show 31 < 68 by decide), HW.out.q 27 hjl (by decide) (by decide) (by decide)⟩
    | 28, ho =>
      obtain rfl := Option.some.inj ho
      have e31 : fr.tmps[31]?.getD undef = .pointer (some ⟨e, 3, none⟩) := HF.out.ev (i := 27) rfl rfl (HE.out ⟨27, .data⟩ (by simp) rfl)
      exact wp_q rfl rfl (by simp [execOp, go_sem, e31]; rfl) ⟨HF.out.put (by kernel_rfl) rfl rfl rfl (show 32 < 68 by decide), HW.out.q 28 hjl (by decide) (by decide) (by decide)⟩
    | 29, ho =>
      obtain rfl := Option.some.inj ho
      have e32 : fr.tmps[32]?.getD undef = .pointer (some ⟨e, 5, none⟩) := HF.out.ev (i := 28) rfl rfl (HE.out ⟨28, .data⟩ (by simp) rfl)
      exact wp_q rfl rfl (by simp [execOp, go_sem, e32]; rfl) ⟨HF.out.put (by kernel_rfl) rfl rfl rfl (show 33 < 68 by decide), HW.out.q 29 hjl (by decide) (by decide) (by decide)⟩
    | 30, ho =>
      obtain rfl := Option.some.inj ho
      have e29 : fr.tmps[29]?.getD undef = .func (.func 53) #[.pointer (some ⟨e, 5, none⟩)] #[] := HF.out.ev (i := 25) rfl rfl (HE.out ⟨25, .data⟩ (by simp) rfl)
      have e33 : fr.tmps[33]?.getD undef = .func (.func 54) #[.pointer (some ⟨e, 5, none⟩)] #[] := HF.out.ev (i := 29) rfl rfl (HE.out ⟨29, .data⟩ (by simp) rfl)
      exact wp_q rfl rfl (by simp [execOp, go_sem, e29, e33]; rfl) ⟨HF.out.put (by kernel_rfl) rfl rfl rfl (show 34 < 68 by decide), HW.out.q 30 hjl (by decide) (by decide) (by decide)⟩
    | 31, ho =>
      obtain rfl := Option.some.inj ho
      have e7 : fr.tmps[7]?.getD undef = .map (some w0.heap.size) := HF.out.ev (i := 1) rfl rfl (HE.out ⟨1, .data⟩ (by simp) rfl)
      have e34 : fr.tmps[34]?.getD undef = .agg #[.func (.func 53) #[.pointer (some ⟨e, 5, none⟩)] #[], .func (.func 54) #[.pointer (some ⟨e, 5, none⟩)] #[]] := HF.out.ev (i := 30) rfl rfl (HE.out ⟨30, .data⟩ (by simp) rfl)
      have hjf : listed.getD (ix 2) false = false := getD_tf hjl HL.out
      have h1t : listed.getD 1 false = true := HE.out ⟨1, .data⟩ (by simp) rfl
      have hLf : listed.getD 69 false = false := HW.out.last 2 (by decide) hjf
      obtain ⟨es, c, rfl, hT⟩ := HW.out.pre 2 (by decide) h1t hjf
      have hms : ∀ q : Nat, q < 7 → listed.getD (ix q) false = true → (16 : Int) ≠ 8 * (q : Int) := fun q hq hb => by
        have hne : q ≠ 2 := fun z => by subst z; rw [hjf] at hb; cases hb
        omega
      have ik : (Instr.mapUpdate 100 (.map (some w0.heap.size)) (.int .u64 16) (.agg #[.func (.func 53) #[.pointer (some ⟨e, 5, none⟩)] #[], .func (.func 54) #[.pointer (some ⟨e, 5, none⟩)] #[]])).run Tryz.prog (w0.alloc (.map es c)) = .ok () (w0.alloc (.map (es.push ⟨.int .u64 16, .agg #[.func (.func 53) #[.pointer (some ⟨e, 5, none⟩)] #[], .func (.func 54) #[.pointer (some ⟨e, 5, none⟩)] #[]], c⟩) (c + 1))) := ins_u u_rmap u_ru64 w0 es _ c _ 16 _ rfl (hT.miss 16 hms) rfl
      exact wp_s (w' := w0.alloc (.map (es.push ⟨.int .u64 16, .agg #[.func (.func 53) #[.pointer (some ⟨e, 5, none⟩)] #[], .func (.func 54) #[.pointer (some ⟨e, 5, none⟩)] #[]], c⟩) (c + 1))) rfl rfl (by simp [execOp, go_sem, e7, e34, ik]) ⟨HF.out.skip rfl rfl _, WI.ins hT 2 (by decide) hjl h1t hLf 16 rfl (.agg #[.func (.func 53) #[.pointer (some ⟨e, 5, none⟩)] #[], .func (.func 54) #[.pointer (some ⟨e, 5, none⟩)] #[]]) rfl⟩
    | 32, ho =>
      obtain rfl := Option.some.inj ho
      have e0 : fr.tmps[0]?.getD undef = .pointer (some ⟨e, 0, none⟩) := HF.out.base 0 (by kernel_rfl) rfl
      exact wp_q rfl rfl (by simp [execOp, go_sem, e0]; rfl) ⟨HF.out.put (by kernel_rfl) rfl rfl rfl (show 35 < 68 by decide), HW.out.q 32 hjl (by decide) (by decide) (by decide)⟩
    | 33, ho =>
      obtain rfl := Option.some.inj ho
      have e35 : fr.tmps[35]?.getD undef = .pointer (some ⟨e, 0, none⟩) := HF.out.ev (i := 32) rfl rfl (HE.out ⟨32, .data⟩ (by simp) rfl)
      exact wp_q rfl rfl (by simp [execOp, go_sem, e35]; rfl) ⟨HF.out.put (by kernel_rfl) rfl rfl rfl (show 36 < 68 by decide), HW.out.q 33 hjl (by decide) (by decide) (by decide)⟩
    | 34, ho =>
      obtain rfl := Option.some.inj ho
      have e0 : fr.tmps[0]?.getD undef = .pointer (some ⟨e, 0, none⟩) := HF.out.base 0 (by kernel_rfl) rfl
      exact wp_q rfl rfl (by simp [execOp, go_sem, e0]; rfl) ⟨HF.out.put (by kernel_rfl) rfl rfl rfl (show 37 < 68 by decide), HW.out.q 34 hjl (by decide) (by decide) (by decide)⟩
    | 35, ho =>
      obtain rfl := Option.some.inj ho
      have e37 : fr.tmps[37]?.getD undef = .pointer (some ⟨e, 0, none⟩) := HF.out.ev (i := 34) rfl rfl (HE.out ⟨34, .data⟩ (by simp) rfl)
      exact wp_q rfl rfl (by simp [execOp, go_sem, e37]; rfl) ⟨HF.out.put (by kernel_rfl) rfl rfl rfl (show 38 < 68 by decide), HW.out.q 35 hjl (by decide) (by decide) (by decide)⟩
    | 36, ho =>
      obtain rfl := Option.some.inj ho
      have e36 : fr.tmps[36]?.getD undef = .func (.func 55) #[.pointer (some ⟨e, 0, none⟩)] #[] := HF.out.ev (i := 33) rfl rfl (HE.out ⟨33, .data⟩ (by simp) rfl)
      have e38 : fr.tmps[38]?.getD undef = .func (.func 56) #[.pointer (some ⟨e, 0, none⟩)] #[] := HF.out.ev (i := 35) rfl rfl (HE.out ⟨35, .data⟩ (by simp) rfl)
      exact wp_q rfl rfl (by simp [execOp, go_sem, e36, e38]; rfl) ⟨HF.out.put (by kernel_rfl) rfl rfl rfl (show 39 < 68 by decide), HW.out.q 36 hjl (by decide) (by decide) (by decide)⟩
    | 37, ho =>
      obtain rfl := Option.some.inj ho
      have e7 : fr.tmps[7]?.getD undef = .map (some w0.heap.size) := HF.out.ev (i := 1) rfl rfl (HE.out ⟨1, .data⟩ (by simp) rfl)
      have e39 : fr.tmps[39]?.getD undef = .agg #[.func (.func 55) #[.pointer (some ⟨e, 0, none⟩)] #[], .func (.func 56) #[.pointer (some ⟨e, 0, none⟩)] #[]] := HF.out.ev (i := 36) rfl rfl (HE.out ⟨36, .data⟩ (by simp) rfl)
      have hjf : listed.getD (ix 3) false = false := getD_tf hjl HL.out
      have h1t : listed.getD 1 false = true := HE.out ⟨1, .data⟩ (by simp) rfl
      have hLf : listed.getD 69 false = false := HW.out.last 3 (by decide) hjf
      obtain ⟨es, c, rfl, hT⟩ := HW.out.pre 3 (by decide) h1t hjf
      have hms : ∀ q : Nat, q < 7 → listed.getD (ix q) false = true → (24 : Int) ≠ 8 * (q : Int) := fun q hq hb => by
        have hne : q ≠ 3 := fun z => by subst z; rw [hjf] at hb; cases hb
        omega
      have ik : (Instr.mapUpdate 100 (.map (some w0.heap.size)) (.int .u64 24) (.agg #[.func (.func 55) #[.pointer (some ⟨e, 0, none⟩)] #[], .func (.func 56) #[.pointer (some ⟨e, 0, none⟩)] #[]])).run Tryz.prog (w0.alloc (.map es c)) = .ok () (w0.alloc (.map (es.push ⟨.int .u64 24, .agg #[.func (.func 55) #[.pointer (some ⟨e, 0, none⟩)] #[], .func (.func 56) #[.pointer (some ⟨e, 0, none⟩)] #[]], c⟩) (c + 1))) := ins_u u_rmap u_ru64 w0 es _ c _ 24 _ rfl (hT.miss 24 hms) rfl
      exact wp_s (w' := w0.alloc (.map (es.push ⟨.int .u64 24, .agg #[.func (.func 55) #[.pointer (some ⟨e, 0, none⟩)] #[], .func (.func 56) #[.pointer (some ⟨e, 0, none⟩)] #[]], c⟩) (c + 1))) rfl rfl (by simp [execOp, go_sem, e7, e39, ik]) ⟨HF.out.skip rfl rfl _, WI.ins hT 3 (by decide) hjl h1t hLf 24 rfl (.agg #[.func (.func 55) #[.pointer (some ⟨e, 0, none⟩)] #[], .func (.func 56) #[.pointer (some ⟨e, 0, none⟩)] #[]]) rfl⟩
    | 38, ho =>
      obtain rfl := Option.some.inj ho
      have e2 : fr.tmps[2]?.getD undef = .pointer (some ⟨e, 3, none⟩) := HF.out.base 2 (by kernel_rfl) rfl
      exact wp_q rfl rfl (by simp [execOp, go_sem, e2]; rfl) ⟨HF.out.put (by kernel_rfl) rfl rfl rfl (show 40 < 68 by decide), HW.out.q 38 hjl (by decide) (by decide) (by decide)⟩
    | 39, ho =>
      obtain rfl := Option.some.inj ho
      have e40 : fr.tmps[40]?.getD undef = .pointer (some ⟨e, 3, none⟩) := HF.out.ev (i := 38) rfl rfl (HE.out ⟨38, .data⟩ (by simp) rfl)
      exact wp_q rfl rfl (by simp [execOp, go_sem, e40]; rfl) ⟨HF.out.put (by kernel_rfl) rfl rfl rfl (show 41 < 68 by decide), HW.out.q 39 hjl (by decide) (by decide) (by decide)⟩
    | 40, ho =>
      obtain rfl := Option.some.inj ho
      have e41 : fr.tmps[41]?.getD undef = .pointer (some ⟨e, 3, none⟩) := HF.out.ev (i := 39) rfl rfl (HE.out ⟨39, .data⟩ (by simp) rfl)
      exact wp_q rfl rfl (by simp [execOp, go_sem, e41]; rfl) ⟨HF.out.put (by kernel_rfl) rfl rfl rfl (show 42 < 68 by decide), HW.out.q 40 hjl (by decide) (by decide) (by decide)⟩
    | 41, ho =>
      obtain rfl := Option.some.inj ho
      have e42 : fr.tmps[42]?.getD undef = .pointer (some ⟨e, 6, none⟩) := HF.out.ev (i := 40) rfl rfl (HE.out ⟨40, .data⟩ (by simp) rfl)
      exact wp_q rfl rfl (by simp [execOp, go_sem, e42]; rfl) ⟨HF.out.put (by kernel_rfl) rfl rfl rfl (show 43 < 68 by decide), HW.out.q 41 hjl (by decide) (by decide) (by decide)⟩
    | 42, ho =>
      obtain rfl := Option.some.inj ho
      have e0 : fr.tmps[0]?.getD undef = .pointer (some ⟨e, 0, none⟩) := HF.out.base 0 (by kernel_rfl) rfl
      exact wp_q rfl rfl (by simp [execOp, go_sem, e0]; rfl) ⟨HF.out.put (by kernel_rfl) rfl rfl rfl (show 44 < 68 by decide), HW.out.q 42 hjl (by decide) (by decide) (by decide)⟩
    | 43, ho =>
      obtain rfl := Option.some.inj ho
      have e44 : fr.tmps[44]?.getD undef = .pointer (some ⟨e, 0, none⟩) := HF.out.ev (i := 42) rfl rfl (HE.out ⟨42, .data⟩ (by simp) rfl)
      exact wp_q rfl rfl (by simp [execOp, go_sem, e44]; rfl) ⟨HF.out.put (by kernel_rfl) rfl rfl rfl (show 45 < 68 by decide), HW.out.q 43 hjl (by decide) (by decide) (by decide)⟩
    | 44, ho =>
      obtain rfl := Option.some.inj ho
      have e43 : fr.tmps[43]?.getD undef = .func (.func 53) #[.pointer (some ⟨e, 6, none⟩)] #[] := HF.out.ev (i := 41) rfl rfl (HE.out ⟨41, .data⟩ (by simp) rfl)
      have e45 : fr.tmps[45]?.getD undef = .func (.func 57) #[.pointer (some ⟨e, 0, none⟩)] #[] := HF.out.ev (i := 43) rfl rfl (HE.out ⟨43, .data⟩ (by simp) rfl)
      exact wp_q rfl rfl (by simp [execOp, go_sem, e43, e45]; rfl) ⟨HF.out.put (by kernel_rfl) rfl rfl rfl (show 46 < 68 by decide), HW.out.q 44 hjl (by decide) (by decide) (by decide)⟩
    | 45, ho =>
      obtain rfl := Option.some.inj ho
      have e7 : fr.tmps[7]?.getD undef = .map (some w0.heap.size) := HF.out.ev (i := 1) rfl rfl (HE.out ⟨1, .data⟩ (by simp) rfl)
      have e46 : fr.tmps[46]?.getD undef = .agg #[.func (.func 53) #[.pointer (some ⟨e, 6, none⟩)] #[], .func (.func 57) #[.pointer (some ⟨e, 0, none⟩)] #[]] := HF.out.ev (i := 44) rfl rfl (HE.out ⟨44, .data⟩ (by simp) rfl)
      have hjf : listed.getD (ix 4) false = false := getD_tf hjl HL.out
      have h1t : listed.getD 1 false = true := HE.out ⟨1, .data⟩ (by simp) rfl
      have hLf : listed.getD 69 false = false := HW.out.last 4 (by decide) hjf
      obtain ⟨es, c, rfl, hT⟩ := HW.out.pre 4 (by decide) h1t hjf
      have hms : ∀ q : Nat, q < 7 → listed.getD (ix q) false = true → (32 : Int) ≠ 8 * (q : Int) := fun q hq hb => by
        have hne : q ≠ 4 := fun z => by subst z; rw [hjf] at hb; cases hb
        omega
      have ik : (Instr.mapUpdate 100 (.map (some w0.heap.size)) (.int .u64 32) (.agg #[.func (.func 53) #[.pointer (some ⟨e, 6, none⟩)] #[], .func (.func 57) #[.pointer (some ⟨e, 0, none⟩)] #[]])).run Tryz.prog (w0.alloc (.map es c)) = .ok () (w0.alloc (.map (es.push ⟨.int .u64 32, .agg #[.func (.func 53) #[.pointer (some ⟨e, 6, none⟩)] #[], .func (.func 57) #[.pointer (some ⟨e, 0, none⟩)] #[]], c⟩) (c + 1))) := ins_u u_rmap u_ru64 w0 es _ c _ 32 _ rfl (hT.miss 32 hms) rfl
      exact wp_s (w' := w0.alloc (.map (es.push ⟨.int .u64 32, .agg #[.func (.func 53) #[.pointer (some ⟨e, 6, none⟩)] #[], .func (.func 57) #[.pointer (some ⟨e, 0, none⟩)] #[]], c⟩) (c + 1))) rfl rfl (by simp [execOp, go_sem, e7, e46, ik]) ⟨HF.out.skip rfl rfl _, WI.ins hT 4 (by decide) hjl h1t hLf 32 rfl (.agg #[.func (.func 53) #[.pointer (some ⟨e, 6, none⟩)] #[], .func (.func 57) #[.pointer (some ⟨e, 0, none⟩)] #[]]) rfl⟩
    | 46, ho =>
      obtain rfl := Option.some.inj ho
      have e2 : fr.tmps[2]?.getD undef = .pointer (some ⟨e, 3, none⟩) := HF.out.base 2 (by kernel_rfl) rfl
      exact wp_q rfl rfl (by simp [execOp, go_sem, e2]; rfl) ⟨HF.out.put (by kernel_rfl) rfl rfl rfl (show 47 < 68 by decide), HW.out.q 46 hjl (by decide) (by decide) (by decide)⟩
    | 47, ho =>
      obtain rfl := Option.some.inj ho
      have e47 : fr.tmps[47]?.getD undef = .pointer (some ⟨e, 3, none⟩) := HF.out.ev (i := 46) rfl rfl (HE.out ⟨46, .data⟩ (by simp) rfl)
      exact wp_q rfl rfl (by simp [execOp, go_sem, e47]; rfl) ⟨HF.out.put (by kernel_rfl) rfl rfl rfl (show 48 < 68 by decide), HW.out.q 47 hjl (by decide) (by decide) (by decide)⟩
    | 48, ho =>
      obtain rfl := Option.some.inj ho
      have e48 : fr.tmps[48]?.getD undef = .pointer (some ⟨e, 3, none⟩) := HF.out.ev (i := 47) rfl rfl (HE.out ⟨47, .data⟩ (by simp) rfl)
      exact wp_q rfl rfl (by simp [execOp, go_sem, e48]; rfl) ⟨HF.out.put (by kernel_rfl) rfl rfl rfl (show 49 < 68 by decide), HW.out.q 48 hjl (by decide) (by decide) (by decide)⟩
    | 49, ho =>
      obtain rfl := Option.some.inj ho
      have e49 : fr.tmps[49]?.getD undef = .pointer (some ⟨e, 7, none⟩) := HF.out.ev (i := 48) rfl rfl (HE.out ⟨48, .data⟩ (by simp) rfl)
      exact wp_q rfl rfl (by simp [execOp, go_sem, e49]; rfl) ⟨HF.out.put (by kernel_rfl) rfl rfl rfl (show 50 < 68 by decide), HW.out.q 49 hjl (by decide) (by decide) (by decide)⟩
    | 50, ho =>
      obtain rfl := Option.some.inj ho
      have e2 : fr.tmps[2]?.getD undef = .pointer (some ⟨e, 3, none⟩) := HF.out.base 2 (by kernel_rfl) rfl
      exact wp_q rfl rfl (by simp [execOp, go_sem, e2]; rfl) ⟨HF.out.put (by kernel_rfl) rfl rfl rfl (show 51 < 68 by decide), HW.out.q 50 hjl (by decide) (by decide) (by decide)⟩
    | 51, ho =>
      obtain rfl := Option.some.inj ho
      have e51 : fr.tmps[51]?.getD undef = .pointer (some ⟨e, 3, none⟩) := HF.out.ev (i := 50) rfl rfl (HE.out ⟨50, .data⟩ (by simp) rfl)
      exact wp_q rfl rfl (by simp [execOp, go_sem, e51]; rfl) ⟨HF.out.put (by kernel_rfl) rfl rfl rfl (show 52 < 68 by decide), HW.out.q 51 hjl (by decide) (by decide) (by decide)⟩
    | 52, ho =>
      obtain rfl := Option.some.inj ho
      have e52 : fr.tmps[52]?.getD undef = .pointer (some ⟨e, 3, none⟩) := HF.out.ev (i := 51) rfl rfl (HE.out ⟨51, .data⟩ (by simp) rfl)
      exact wp_q rfl rfl (by simp [execOp, go_sem, e52]; rfl) ⟨HF.out.put (by kernel_rfl) rfl rfl rfl (show 53 < 68 by decide), HW.out.q 52 hjl (by decide) (by decide) (by decide)⟩
    | 53, ho =>
      obtain rfl := Option.some.inj ho
      have e53 : fr.tmps[53]?.getD undef = .pointer (some ⟨e, 7, none⟩) := HF.out.ev (i := 52) rfl rfl (HE.out ⟨52, .data⟩ (by simp) rfl)
      exact wp_q rfl rfl (by simp [execOp, go_sem, e53]; rfl) ⟨HF.out.put (by kernel_rfl) rfl rfl rfl (show 54 < 68 by decide), HW.out.q 53 hjl (by decide) (by decide) (by decide)⟩
    | 54, ho =>
      obtain rfl := Option.some.inj ho
      have e50 : fr.tmps[50]?.getD undef = .func (.func 53) #[.pointer (some ⟨e, 7, none⟩)] #[] := HF.out.ev (i := 49) rfl rfl (HE.out ⟨49, .data⟩ (by simp) rfl)
      have e54 : fr.tmps[54]?.getD undef = .func (.func 54) #[.pointer (some ⟨e, 7, none⟩)] #[] := HF.out.ev (i := 53) rfl rfl (HE.out ⟨53, .data⟩ (by simp) rfl)
      exact wp_q rfl rfl (by simp [execOp, go_sem, e50, e54]; rfl) ⟨HF.out.put (by kernel_rfl) rfl rfl rfl (show 55 < 68 by decide), HW.out.q 54 hjl (by decide) (by decide) (by decide)⟩
    | 55, ho =>
      obtain rfl := Option.some.inj ho
      have e7 : fr.tmps[7]?.getD undef = .map (some w0.heap.size) := HF.out.ev (i := 1) rfl rfl (HE.out ⟨1, .data⟩ (by simp) rfl)
      have e55 : fr.tmps[55]?.getD undef = .agg #[.func (.func 53) #[.pointer (some ⟨e, 7, none⟩)] #[], .func (.func 54) #[.pointer (some ⟨e, 7, none⟩)] #[]] := HF.out.ev (i := 54) rfl rfl (HE.out ⟨54, .data⟩ (by simp) rfl)
      have hjf : listed.getD (ix 5) false = false := getD_tf hjl HL.out
      have h1t : listed.getD 1 false = true := HE.out ⟨1, .data⟩ (by simp) rfl
      have hLf : listed.getD 69 false = false := HW.out.last 5 (by decide) hjf
      obtain ⟨es, c, rfl, hT⟩ := HW.out.pre 5 (by decide) h1t hjf
      have hms : ∀ q : Nat, q < 7 → listed.getD (ix q) false = true → (40 : Int) ≠ 8 * (q : Int) := fun q hq hb => by
        have hne : q ≠ 5 := fun z => by subst z; rw [hjf] at hb; cases hb
        omega
      have ik : (Instr.mapUpdate 100 (.map (some w0.heap.size)) (.int .u64 40) (.agg #[.func (.func 53) #[.pointer (some ⟨e, 7, none⟩)] #[], .func (.func 54) #[.pointer (some ⟨e, 7, none⟩)] #[]])).run Tryz.prog (w0.alloc (.map es c)) = .ok () (w0.alloc (.map (es.push ⟨.int .u64 40, .agg #[.func (.func 53) #[.pointer (some ⟨e, 7, none⟩)] #[], .func (.func 54) #[.pointer (some ⟨e, 7, none⟩)] #[]], c⟩) (c + 1))) := ins_u u_rmap u_ru64 w0 es _ c _ 40 _ rfl (hT.miss 40 hms) rfl
      exact wp_s (w' := w0.alloc (.map (es.push ⟨.int .u64 40, .agg #[.func (.func 53) #[.pointer (some ⟨e, 7, none⟩)] #[], .func (.func 54) #[.pointer (some ⟨e, 7, none⟩)] #[]], c⟩) (c + 1))) rfl rfl (by simp [execOp, go_sem, e7, e55, ik]) ⟨HF.out.skip rfl rfl _, WI.ins hT 5 (by decide) hjl h1t hLf 40 rfl (.agg #[.func (.func 53) #[.pointer (some ⟨e, 7, none⟩)] #[], .func (.func 54) #[.pointer (some ⟨e, 7, none⟩)] #[]]) rfl⟩
    | 56, ho =>
      obtain rfl := Option.some.inj ho
      have e2 : fr.tmps[2]?.getD undef = .pointer (some ⟨e, 3, none⟩) := HF.out.base 2 (by kernel_rfl) rfl
      exact wp_q rfl rfl (by simp [execOp, go_sem, e2]; rfl) ⟨HF.out.put (by kernel_rfl) rfl rfl rfl (show 56 < 68 by decide), HW.out.q 56 hjl (by decide) (by decide) (by decide)⟩
    | 57, ho =>
      obtain rfl := Option.some.inj ho
      have e56 : fr.tmps[56]?.getD undef = .pointer (some ⟨e, 3, none⟩) := HF.out.ev (i := 56) rfl rfl (HE.out ⟨56, .data⟩ (by simp) rfl)
      exact wp_q rfl rfl (by simp [execOp, go_sem, e56]; rfl) ⟨HF.out.put (by kernel_rfl) rfl rfl rfl (show 57 < 68 by decide), HW.out.q 57 hjl (by decide) (by decide) (by decide)⟩
    | 58, ho =>
      obtain rfl := Option.some.inj ho
      have e57 : fr.tmps[57]?.getD undef = .pointer (some ⟨e, 3, none⟩) := HF.out.ev (i := 57) rfl rfl (HE.out ⟨57, .data⟩ (by simp) rfl)
      exact wp_q rfl rfl (by simp [execOp, go_sem, e57]; rfl) ⟨HF.out.put (by kernel_rfl) rfl rfl rfl (show 58 < 68 by decide), HW.out.q 58 hjl (by decide) (by decide) (by decide)⟩
    | 59, ho =>
      obtain rfl := Option.some.inj ho
      have e58 : fr.tmps[58]?.getD undef = .pointer (some ⟨e, 8, none⟩) := HF.out.ev (i := 58) rfl rfl (HE.out ⟨58, .data⟩ (by simp) rfl)
      exact wp_q rfl rfl (by simp [execOp, go_sem, e58]; rfl) ⟨HF.out.put (by kernel_rfl) rfl rfl rfl (show 59 < 68 by decide), HW.out.q 59 hjl (by decide) (by decide) (by decide)⟩
    | 60, ho =>
      obtain rfl := Option.some.inj ho
      have e2 : fr.tmps[2]?.getD undef = .pointer (some ⟨e, 3, none⟩) := HF.out.base 2 (by kernel_rfl) rfl
      exact wp_q rfl rfl (by simp [execOp, go_sem, e2]; rfl) ⟨HF.out.put (by kernel_rfl) rfl rfl rfl (show 60 < 68 by decide), HW.out.q 60 hjl (by decide) (by decide) (by decide)⟩
    | 61, ho =>
      obtain rfl := Option.some.inj ho
      have e60 : fr.tmps[60]?.getD undef = .pointer (some ⟨e, 3, none⟩) := HF.out.ev (i := 60) rfl rfl (HE.out ⟨60, .data⟩ (by simp) rfl)
      exact wp_q rfl rfl (by simp [execOp, go_sem, e60]; rfl) ⟨HF.out.put (by kernel_rfl) rfl rfl rfl (show 61 < 68 by decide), HW.out.q 61 hjl (by decide) (by decide) (by decide)⟩
    | 62, ho =>
      obtain rfl := Option.some.inj ho
      have e61 : fr.tmps[61]?.getD undef = .pointer (some ⟨e, 3, none⟩) := HF.out.ev (i := 61) rfl rfl (HE.out ⟨61, .data⟩ (by simp) rfl)
      exact wp_q rfl rfl (by simp [execOp, go_sem, e61]; rfl) ⟨HF.out.put (by kernel_rfl) rfl rfl rfl (show 62 < 68 by decide), HW.out.q 62 hjl (by decide) (by decide) (by decide)⟩
    | 63, ho =>
      obtain rfl := Option.some.inj ho
      have e62 : fr.tmps[62]?.getD undef = .pointer (some ⟨e, 8, none⟩) := HF.out.ev (i := 62) rfl rfl (HE.out ⟨62, .data⟩ (by simp) rfl)
      exact wp_q rfl rfl (by simp [execOp, go_sem, e62]; rfl) ⟨HF.out.put (by kernel_rfl) rfl rfl rfl (show 63 < 68 by decide), HW.out.q 63 hjl (by decide) (by decide) (by decide)⟩
    | 64, ho =>
      obtain rfl := Option.some.inj ho
      have e59 : fr.tmps[59]?.getD undef = .func (.func 53) #[.pointer (some ⟨e, 8, none⟩)] #[] := HF.out.ev (i := 59) rfl rfl (HE.out ⟨59, .data⟩ (by simp) rfl)
      have e63 : fr.tmps[63]?.getD undef = .func (.func 54) #[.pointer (some ⟨e, 8, none⟩)] #[] := HF.out.ev (i := 63) rfl rfl (HE.out ⟨63, .data⟩ (by simp) rfl)
      exact wp_q rfl rfl (by simp [execOp, go_sem, e59, e63]; rfl) ⟨HF.out.put (by kernel_rfl) rfl rfl rfl (show 64 < 68 by decide), HW.out.q 64 hjl (by decide) (by decide) (by decide)⟩
    | 65, ho =>
      obtain rfl := Option.some.inj ho
      have e7 : fr.tmps[7]?.getD undef = .map (some w0.heap.size) := HF.out.ev (i := 1) rfl rfl (HE.out ⟨1, .data⟩ (by simp) rfl)
      have e64 : fr.tmps[64]?.getD undef = .agg #[.func (.func 53) #[.pointer (some ⟨e, 8, none⟩)] #[], .func (.func 54) #[.pointer (some ⟨e, 8, none⟩)] #[]] := HF.out.ev (i := 64) rfl rfl (HE.out ⟨64, .data⟩ (by simp) rfl)
      have hjf : listed.getD (ix 6) false = false := getD_tf hjl HL.out
      have h1t : listed.getD 1 false = true := HE.out ⟨1, .data⟩ (by simp) rfl
      have hLf : listed.getD 69 false = false := HW.out.last 6 (by decide) hjf
      obtain ⟨es, c, rfl, hT⟩ := HW.out.pre 6 (by decide) h1t hjf
      have hms : ∀ q : Nat, q < 7 → listed.getD (ix q) false = true → (48 : Int) ≠ 8 * (q : Int) := fun q hq hb => by
        have hne : q ≠ 6 := fun z => by subst z; rw [hjf] at hb; cases hb
        omega
      have ik : (Instr.mapUpdate 100 (.map (some w0.heap.size)) (.int .u64 48) (.agg #[.func (.func 53) #[.pointer (some ⟨e, 8, none⟩)] #[], .func (.func 54) #[.pointer (some ⟨e, 8, none⟩)] #[]])).run Tryz.prog (w0.alloc (.map es c)) = .ok () (w0.alloc (.map (es.push ⟨.int .u64 48, .agg #[.func (.func 53) #[.pointer (some ⟨e, 8, none⟩)] #[], .func (.func 54) #[.pointer (some ⟨e, 8, none⟩)] #[]], c⟩) (c + 1))) := ins_u u_rmap u_ru64 w0 es _ c _ 48 _ rfl (hT.miss 48 hms) rfl
      exact wp_s (w' := w0.alloc (.map (es.push ⟨.int .u64 48, .agg #[.func (.func 53) #[.pointer (some ⟨e, 8, none⟩)] #[], .func (.func 54) #[.pointer (some ⟨e, 8, none⟩)] #[]], c⟩) (c + 1))) rfl rfl (by simp [execOp, go_sem, e7, e64, ik]) ⟨HF.out.skip rfl rfl _, WI.ins hT 6 (by decide) hjl h1t hLf 48 rfl (.agg #[.func (.func 53) #[.pointer (some ⟨e, 8, none⟩)] #[], .func (.func 54) #[.pointer (some ⟨e, 8, none⟩)] #[]]) rfl⟩
    | 66, ho =>
      obtain rfl := Option.some.inj ho
      have e7 : fr.tmps[7]?.getD undef = .map (some w0.heap.size) := HF.out.ev (i := 1) rfl rfl (HE.out ⟨1, .data⟩ (by simp) rfl)
      exact wp_q rfl rfl (by simp [execOp, go_sem, e7]; rfl) ⟨HF.out.put (by kernel_rfl) rfl rfl rfl (show 65 < 68 by decide), HW.out.q 66 hjl (by decide) (by decide) (by decide)⟩
    | 67, ho =>
      obtain rfl := Option.some.inj ho
      have hA := he_all HE.out 67 (by kernel_rfl)
      have e6 : fr.tmps[6]?.getD undef = .pointer (some ⟨e, 0, none⟩) := HF.out.ev (i := 0) rfl rfl (hA 0 (by decide))
      exact wp_q rfl rfl (by simp [execOp, go_sem, e6]; rfl) ⟨HF.out.put (by kernel_rfl) rfl rfl rfl (show 66 < 68 by decide), HW.out.q 67 hjl (by decide) (by decide) (by decide)⟩
    | 68, ho =>
      obtain rfl := Option.some.inj ho
      have hA := he_all HE.out 68 (by kernel_rfl)
      have e66 : fr.tmps[66]?.getD undef = .pointer (some ⟨e, 0, none⟩) := HF.out.ev (i := 67) rfl rfl (hA 67 (by decide))
      exact wp_q rfl rfl (by simp [execOp, go_sem, e66]; rfl) ⟨HF.out.put (by kernel_rfl) rfl rfl rfl (show 67 < 68 by decide), HW.out.q 68 hjl (by decide) (by decide) (by decide)⟩
    | 69, ho =>
      obtain rfl := Option.some.inj ho
      have hA := he_all HE.out 67 (by kernel_rfl)
      have e65 : fr.tmps[65]?.getD undef = .map (some w0.heap.size) := HF.out.ev (i := 66) rfl rfl (hA 66 (by decide))
      have e67 : fr.tmps[67]?.getD undef = .pointer (some ⟨e, 13, none⟩) := HF.out.ev (i := 68) rfl rfl (HE.out ⟨68, .data⟩ (by simp) rfl)
      obtain ⟨es, c, q1, q2, q3, q4⟩ := HW.out
      have hLf : listed.getD 69 false = false := getD_tf hjl HL.out
      rw [hA 1 (by decide), hLf] at q1
      obtain rfl : wr = w0.alloc (.map es c) := q1
      have kc : (w0.alloc (.map es c)).cell? ⟨e, 13, none⟩ = some (.map none) := (World.cell?_alloc_past _ _ _ he0).trans h13
      have kz : (w0.alloc (.map es c)).frozen? ⟨e, 13, none⟩ = false := (World.frozen?_alloc_past _ _ _ he0).trans f13
      refine wp_s (w' := (w0.alloc (.map es c)).setCell ⟨e, 13, none⟩ (.map (some w0.heap.size))) rfl rfl (by simp [execOp, go_sem, e67, e65, kc, kz]) ⟨HF.out.skip rfl rfl _, es, c, ?_, ?_, ?_, ?_⟩
      · rw [getD_set _ _ _ hjl, getD_set _ _ _ hjl, if_pos rfl]; rfl
      · exact q2.congr fun i hi => by rw [getD_set _ _ _ hjl, if_neg (ix_ne i hi).2]
      · intro z; rw [getD_set _ _ _ hjl, if_neg (by decide), hA 1 (by decide)] at z; cases z
      · intro _; refine ⟨by rw [getD_set _ _ _ hjl, if_neg (by decide)]; exact hA 1 (by decide), fun i hi => ?_⟩; rw [getD_set _ _ _ hjl, if_neg (ix_ne i hi).2]; exact hA (ix i) (ix_lt2 i hi)
    | k + 70, ho => exact absurd ho (by simp)
end Go.Proofs.YtajnjmjogaacpaaGreat
