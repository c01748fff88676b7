/- What the walks lean on: blocks that stay, the tables of the package, a map that is made and looked into, a region in whatever order. -/
import Derived.Test.YtioodijiejipiaaGreatDoorIF
import Derived.Maps.OwnOps
import Derived.Deep.RegionWith
namespace Go.Proofs.YtioodijiejipiaaGreatDoor
open Go.RowKit Go.ChangeMaps Go.MapKept
set_option linter.unusedVariables false

theorem bcell {W w1 : World} (hb : Below W.heap.size W w1) : (∀ b o, b < W.heap.size → w1.cell? ⟨b, o, none⟩ = W.cell? ⟨b, o, none⟩) ∧ (∀ b o, b < W.heap.size → w1.frozen? ⟨b, o, none⟩ = W.frozen? ⟨b, o, none⟩) :=
  ⟨fun b o h => hb.cell (p := ⟨b, o, none⟩) h, fun b o h => hb.frozen (p := ⟨b, o, none⟩) h⟩
theorem belowA {w w' : World} {o : Obj} (h : Below (w.alloc o).heap.size (w.alloc o) w') : Below w.heap.size w w' :=
  ((Below.refl _ _).alloc (Nat.le_refl _) _).trans (h.mono (by simp))
theorem belowS {w w' : World} {o : Obj} (h : Below (w.alloc o).heap.size (w.alloc o) w') : w.heap.size < w'.heap.size := by
  have := h.size; simp at this; omega
theorem below1 {w : World} (o : Obj) : Below w.heap.size w (w.alloc o) := (Below.refl _ _).alloc (Nat.le_refl _) _
theorem belowT {a b c : World} (h : Below a.heap.size a b) (k : Below b.heap.size b c) : Below a.heap.size a c := h.trans (k.mono h.size)
theorem below8 {B : Nat} {w w' : World} (h : Below B w w') {b : Nat} (hb : B ≤ b) (v0 v1 v2 v3 v4 v5 v6 v7 : Value) :
    Below B w ((((((((w'.setCell ⟨b, 0, none⟩ v0).setCell ⟨b, 1, none⟩ v1).setCell ⟨b, 2, none⟩ v2).setCell ⟨b, 3, none⟩ v3).setCell ⟨b, 4, none⟩ v4).setCell ⟨b, 5, none⟩ v5).setCell ⟨b, 6, none⟩ v6).setCell ⟨b, 7, none⟩ v7) :=
  (((((((h.setCell hb _).setCell hb _).setCell hb _).setCell hb _).setCell hb _).setCell hb _).setCell hb _).setCell hb _
theorem below5 {B : Nat} {w w' : World} (h : Below B w w') {b : Nat} (hb : B ≤ b) (v0 v1 v2 v3 v4 : Value) :
    Below B w (((((w'.setCell ⟨b, 0, none⟩ v0).setCell ⟨b, 1, none⟩ v1).setCell ⟨b, 2, none⟩ v2).setCell ⟨b, 3, none⟩ v3).setCell ⟨b, 4, none⟩ v4) :=
  ((((h.setCell hb _).setCell hb _).setCell hb _).setCell hb _).setCell hb _

/-- a table of the package, as it stands in memory -/
def Tb (w : World) (g : Nat) (t : Int → Int) (len : Int) : Prop := g < w.heap.size ∧ ∀ n : Int, 0 ≤ n → n < len → w.cell? ⟨g, n.toNat, none⟩ = some (.int .i64 (t n))
theorem Tb.below {w w' : World} {g : Nat} {t : Int → Int} {len : Int} (h : Tb w g t len) (hb : Below w.heap.size w w') : Tb w' g t len :=
  ⟨Nat.lt_of_lt_of_le h.1 hb.size, fun n h0 h1 => by rw [(bcell hb).1 _ _ h.1]; exact h.2 n h0 h1⟩
/-- the eleven tables -/
structure G (w : World) : Prop where
  cond : Tb w 0 tCond 8
  load : Tb w 1 tLoad 8
  store : Tb w 2 tStore 8
  wid : Tb w 3 tWid 8
  ato : Tb w 4 tAto 32
  bas : Tb w 5 tBas 8
  alt : Tb w 6 tAlt 8
  pro : Tb w 9 tPro 8
  basW : Tb w 7 tBasW 8
  altW : Tb w 8 tAltW 8
  proW : Tb w 10 tProW 8
theorem G.below {w w' : World} (h : G w) (hb : Below w.heap.size w w') : G w' :=
  ⟨h.cond.below hb, h.load.below hb, h.store.below hb, h.wid.below hb, h.ato.below hb, h.bas.below hb, h.alt.below hb, h.pro.below hb, h.basW.below hb, h.altW.below hb, h.proW.below hb⟩
theorem G.alloc {w : World} (h : G w) (o : Obj) : G (w.alloc o) := h.below (below1 o)

/-! a map that is made of a list, and looked into -/
theorem ins_run {P : Program} {t ke e : TypeId} (hU : P.underlying t = some (.map ke e)) (hK : P.underlying ke = some (.int .i64)) (W : World) (es : Array MapEntry) (c : Nat) (k : Int) (v : Value)
    (hn : Instr.findNow (.int .i64) (.int .i64 k) es.toList 0 = some none) :
    (Instr.mapUpdate t (.map (some W.heap.size)) (.int .i64 k) v).run P (W.alloc (.map es c)) = .ok () (W.alloc (.map (es.push ⟨.int .i64 k, v, c⟩) (c + 1))) := by
  have hb : (W.alloc (.map es c)).heap[W.heap.size]? = some (.map es c) := by show (W.heap.push _)[W.heap.size]? = _; simp
  have hkey : IsKey (.int .i64) (.int .i64 k) := by simp [IsKey]
  simp [Instr.mapUpdate, run_underlying hU, MapKept.run_getObj_map hb, run_checkKey hK hkey, run_findKey hK hn, MapKept.run_setObj_map _ hb, Result.andThen]
  have e : (W.heap.push (Obj.map es c)).setIfInBounds W.heap.size (.map (es.push ⟨.int .i64 k, v, c⟩) (c+1)) = W.heap.push (.map (es.push ⟨.int .i64 k, v, c⟩) (c+1)) := by
    apply Array.ext'
    simp
  show ({ W.alloc (.map es c) with heap := (W.heap.push (Obj.map es c)).setIfInBounds W.heap.size (.map (es.push ⟨.int .i64 k, v, c⟩) (c+1)) } : World) = _
  rw [e]
  rfl
theorem look_run {P : Program} {t ke e : TypeId} (hU : P.underlying t = some (.map ke e)) (hK : P.underlying ke = some (.int .i64)) (W : World) (es : Array MapEntry) (c : Nat) (k : Int) (i : Nat) (v : Value)
    (hn : Instr.findNow (.int .i64) (.int .i64 k) es.toList 0 = some (some (i, v))) :
    (Instr.lookup t (.map (some W.heap.size)) (.int .i64 k) true).run P (W.alloc (.map es c)) = .ok (.tuple #[v, .bool true]) (W.alloc (.map es c)) := by
  have hb : (W.alloc (.map es c)).heap[W.heap.size]? = some (.map es c) := by show (W.heap.push _)[W.heap.size]? = _; simp
  have hkey : IsKey (.int .i64) (.int .i64 k) := by simp [IsKey]
  simp [Instr.lookup, run_underlying hU, MapKept.run_getObj_map hb, run_checkKey hK hkey, run_findKey hK hn, Result.andThen]
theorem look_none {P : Program} {t ke e : TypeId} (hU : P.underlying t = some (.map ke e)) (hK : P.underlying ke = some (.int .i64)) (W : World) (es : Array MapEntry) (c : Nat) (k : Int) (z : Value) (hz : ∀ w, (zeroValue e).run P w = .ok z w)
    (hn : Instr.findNow (.int .i64) (.int .i64 k) es.toList 0 = some none) :
    (Instr.lookup t (.map (some W.heap.size)) (.int .i64 k) true).run P (W.alloc (.map es c)) = .ok (.tuple #[z, .bool false]) (W.alloc (.map es c)) := by
  have hb : (W.alloc (.map es c)).heap[W.heap.size]? = some (.map es c) := by show (W.heap.push _)[W.heap.size]? = _; simp
  have hkey : IsKey (.int .i64) (.int .i64 k) := by simp [IsKey]
  simp [Instr.lookup, run_underlying hU, MapKept.run_getObj_map hb, run_checkKey hK hkey, run_findKey hK hn, hz, Result.andThen]
theorem ins_at {P : Program} {t ke e : TypeId} (hU : P.underlying t = some (.map ke e)) (hK : P.underlying ke = some (.int .i64)) (W : World) (es es' : Array MapEntry) (c b : Nat) (k : Int) (v : Value) (hb : W.heap.size = b)
    (hn : Instr.findNow (.int .i64) (.int .i64 k) es.toList 0 = some none) (hes : es.push ⟨.int .i64 k, v, c⟩ = es') :
    (Instr.mapUpdate t (.map (some b)) (.int .i64 k) v).run P (W.alloc (.map es c)) = .ok () (W.alloc (.map es' (c + 1))) := by
  subst hb; subst hes; exact ins_run hU hK W es c k v hn
theorem look_at {P : Program} {t ke e : TypeId} (hU : P.underlying t = some (.map ke e)) (hK : P.underlying ke = some (.int .i64)) (W : World) (es : Array MapEntry) (c b : Nat) (k : Int) (i : Nat) (v : Value) (hb : W.heap.size = b)
    (hn : Instr.findNow (.int .i64) (.int .i64 k) es.toList 0 = some (some (i, v))) :
    (Instr.lookup t (.map (some b)) (.int .i64 k) true).run P (W.alloc (.map es c)) = .ok (.tuple #[v, .bool true]) (W.alloc (.map es c)) := by
  subst hb; exact look_run hU hK W es c k i v hn
theorem none_at {P : Program} {t ke e : TypeId} (hU : P.underlying t = some (.map ke e)) (hK : P.underlying ke = some (.int .i64)) (W : World) (es : Array MapEntry) (c b : Nat) (k : Int) (z : Value) (hz : ∀ w, (zeroValue e).run P w = .ok z w) (hb : W.heap.size = b)
    (hn : Instr.findNow (.int .i64) (.int .i64 k) es.toList 0 = some none) :
    (Instr.lookup t (.map (some b)) (.int .i64 k) true).run P (W.alloc (.map es c)) = .ok (.tuple #[z, .bool false]) (W.alloc (.map es c)) := by
  subst hb; exact look_none hU hK W es c k z hz hn
theorem st_func (P : Program) (w : World) (a : Addr) (m : Mode) (fn : Fn) (x y : Array Value) : (store a (.func fn x y) m).run P w = stored P w a (.func fn x y) m := run_store P w a _ m rfl
theorem st_nilFunc (P : Program) (w : World) (a : Addr) (m : Mode) : (store a .nilFunc m).run P w = stored P w a .nilFunc m := run_store P w a _ m rfl

/-! a region that draws its order, by what holds in whatever order -/
theorem wpAny_inv {P : Program} {md : Region.Mode} {ops : Array Oper} {Q : Exit → Act → World → Prop} (J : Array Bool → Act → World → Prop)
    (step : ∀ listed a w, J listed a w → ∀ i ∈ Region.ready md ops listed, wpOp P ops Q i (J (listed.setIfInBounds i true)) a w)
    (fin : ∀ listed a w, J listed a w → Region.ready md ops listed = [] → Q .normal a w) :
    ∀ (fuel : Nat) (listed : Array Bool) (a : Act) (w : World), listed.toList.count false ≤ fuel → J listed a w → wpAny P md ops Q fuel listed a w := by
  intro fuel
  have key : ∀ (listed : Array Bool) (i : Nat), i ∈ Region.ready md ops listed → (listed.setIfInBounds i true).toList.count false + 1 = listed.toList.count false := by
    intro listed i hi
    have h0 := (mem_ready.1 hi).1
    have hlt : i < listed.size := by
      rcases Nat.lt_or_ge i listed.size with h | h
      · exact h
      · simp [Array.getElem?_eq_none h] at h0
    have hv : listed.toList[i]'(by simpa using hlt) = false := by simpa [hlt] using h0
    have hpos : 0 < listed.toList.count false := List.count_pos_iff.2 (by rw [← hv]; exact List.getElem_mem _)
    rw [Array.toList_setIfInBounds, List.count_set (by simpa using hlt), hv]
    have : ∀ c : Nat, 0 < c → c - (if (false == false) = true then 1 else 0) + (if (true == false) = true then 1 else 0) + 1 = c := by intro c hc; simp; omega
    exact this _ hpos
  induction fuel with
  | zero =>
    intro listed a w hc hJ
    have hr : Region.ready md ops listed = [] := by
      cases h : Region.ready md ops listed with
      | nil => rfl
      | cons i r => have := key listed i (by rw [h]; simp); omega
    exact ⟨hr, fin _ _ _ hJ hr⟩
  | succ fuel ih =>
    intro listed a w hc hJ
    refine ⟨fun h => fin _ _ _ hJ h, fun i hi => ?_⟩
    have := key listed i hi
    exact wpOp_mono (fun a' w' h' => ih _ a' w' (by omega) h') (step _ _ _ hJ i hi)
theorem ready_no {md : Region.Mode} {ops : Array Oper} {listed : Array Bool} (hr : Region.ready md ops listed = []) {j : Nat} {o : Oper} (ho : ops[j]? = some o) (hl : listed.getD j true = false)
    (he : (o.after.all fun e => !Region.binds md e || listed.getD e.on false) = true) : False := by
  have : j ∈ Region.ready md ops listed := by
    refine mem_ready.2 ⟨hl, o, ho, fun e h hb => ?_⟩
    have := Array.all_eq_true_iff_forall_mem.1 he e h
    simpa [hb] using this
  rw [hr] at this
  cases this
def sv : Bool → Value → Value
  | true, v => v
  | false, _ => undef
def ci : Bool → Int → Int → Int
  | true, x, _ => x
  | false, _, y => y
end Go.Proofs.YtioodijiejipiaaGreatDoor
