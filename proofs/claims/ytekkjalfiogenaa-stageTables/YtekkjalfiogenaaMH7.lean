/- The document's space; both made. -/
import Derived.Test.YtekkjalfiogenaaMH6
import Derived.Test.YtekkjalfiogenaaCPFB
namespace Go.Proofs.Ytekkjalfiogenaa
open Go.RowKit
open C (Only hid Mem RMem Still ret_bool ret_int put byt rd8 lo and_lo nu TwB Cl c_MemoryB)
set_option linter.unusedVariables false
set_option maxRecDepth 100000

/-- a page that is told -/
structure Pg where
  p : Nat
  f : Nat
  m : Nat
def pgs (L : List Pg) : List Value := L.flatMap fun x => [.int .u64 (x.p : Int), .int .i64 (x.f : Int), .int .i64 (x.m : Int)]
theorem rmem_ty2 {w : World} {S : Nat → Prop} {p : Nat} {bs : Int} {n : Nat} {f : Nat → Int} (h : RMem w S p bs n f) {x : Nat} (hx : S x) : ∃ c t, w.heap[x]? = some (.cells c t (0, 0)) ∧ (t = 46 ∨ t = 124 ∨ t = 5) := by
  obtain ⟨g, hs, hr, rfl, hS⟩ := h
  rcases (hS x).1 hx with rfl | rfl | ⟨i, c, hi⟩
  · exact ⟨_, _, hr.top, .inl rfl⟩
  · exact ⟨_, _, hr.tab, .inr (.inl rfl)⟩
  · obtain ⟨_, cur, hg, _⟩ := hr.full i x c hi
    exact ⟨_, _, hg, .inr (.inr rfl)⟩
def tyG (t : Nat) : Bool := t == 123 || t == 3 || t == 58 || t == 46 || t == 124 || t == 5
section
variable {w w' : World} {q dm : Nat} {G : Nat → Prop} {v : PV} {f : Nat → Int}
theorem DPool.ty (h : DPool w G q dm v f) {x : Nat} (hx : G x) : ∃ c t, w.heap[x]? = some (.cells c t (0, 0)) ∧ tyG t = true := by
  obtain ⟨go, gw, T, L, hp, ok, hG⟩ := h
  rcases (hG x).1 hx with rfl | rfl | rfl | ⟨i, hi, hs, a, l, c, e, rfl⟩ | y
  · exact ⟨_, _, hp.top, rfl⟩
  · exact ⟨_, _, hp.tab, rfl⟩
  · exact ⟨_, _, hp.wts, rfl⟩
  · obtain ⟨b, c', cur, e1, e2, e3, e4⟩ := hp.ls i hi hs
    rw [e] at e1
    simp only [Value.slice.injEq, Option.some.injEq] at e1
    rw [e1.1]
    exact ⟨_, _, e3, rfl⟩
  · obtain ⟨c, t, h1, h2⟩ := rmem_ty2 hp.mem y
    refine ⟨c, t, h1, ?_⟩
    rcases h2 with rfl | rfl | rfl <;> rfl
theorem DPool.ne (h : DPool w G q dm v f) {x : Nat} {c : Array Value} {t : Nat} (hx : w.heap[x]? = some (.cells c t (0, 0))) (ht : tyG t = false) : ¬ G x := fun z => by
  obtain ⟨c', t', h1, h2⟩ := h.ty z
  rw [hx] at h1
  simp at h1
  rw [← h1.2, ht] at h2
  cases h2
theorem DPool.ok (h : DPool w G q dm v f) : v.Ok := by obtain ⟨_, _, _, _, _, z, _⟩ := h; exact z
theorem DPool.below (h : DPool w G q dm v f) (hb : Below w.heap.size w w') : DPool w' G q dm v f := h.only (U := fun _ => False) (.ofBelow hb) fun _ _ z => z
/-- the document's memory taken out of its pool, and put back -/
theorem DPool.open (h : DPool w G q dm v f) : ∃ S, RMem w S dm v.b v.n f ∧ (∀ k, S k → G k) ∧ ∀ w' S' f', RMem w' S' dm v.b v.n f' → Only S w w' → (∀ k, S' k → S k ∨ w.heap.size ≤ k) → ∃ G', DPool w' G' q dm v f' ∧ Only G w w' ∧ ∀ k, G' k → G k ∨ w.heap.size ≤ k := by
  obtain ⟨go, gw, T, L, hp, ok, hG⟩ := h
  refine ⟨T, hp.mem, fun x hx => (hG x).2 (.inr (.inr (.inr (.inr hx)))), fun w' S' f' hm ho hS => ?_⟩
  have hn := hp.ne
  refine ⟨fun x => x = q ∨ x = go ∨ x = gw ∨ Lb v L x ∨ S' x, ⟨go, gw, S', L, ⟨ho.old hp.top hn.2.2.2.1, ho.old hp.tab hn.2.2.2.2.1, ho.old hp.wts hn.2.2.2.2.2, hm, hp.sl, fun i hi hs => ?_⟩, ok, fun x => Iff.rfl⟩, ho.mono fun x _ hx => (hG x).2 (.inr (.inr (.inr (.inr hx)))), ?_⟩
  · obtain ⟨b, c, cur, e1, e2, e3, e4⟩ := hp.ls i hi hs
    exact ⟨b, c, cur, e1, e2, ho.old e3 (hp.lb ⟨i, hi, hs, _, _, _, e1, rfl⟩).2.2.2.2, e4⟩
  · rintro x (z | z | z | z | z)
    · exact .inl ((hG x).2 (.inl z))
    · exact .inl ((hG x).2 (.inr (.inl z)))
    · exact .inl ((hG x).2 (.inr (.inr (.inl z))))
    · exact .inl ((hG x).2 (.inr (.inr (.inr (.inl z)))))
    · exact (hS x z).imp (fun y => (hG x).2 (.inr (.inr (.inr (.inr y))))) id
end
/-- the document's space -/
structure DSs (w : World) (G : Nat → Prop) (ud ul : Value) (q p dm : Nat) (s : SV) (v : PV) (f : Nat → Int) (vm : Int) (L : List Pg) : Prop where
  dp : DPool w G p dm v f
  top : w.heap[q]? = some (.cells #[.pointer (some ⟨dm, 0, none⟩), .pointer (some ⟨p, 0, none⟩), .int .i64 vm, ud, ul] 93 (0, 0))
  fr : w.ownsRow 0 3 1 ud s.l.length (lsv s.l)
  ls : w.ownsRow 0 41 3 ul L.length (pgs L)
  iv : Inv s v f
  nu : ∀ k, Ug ud k → ¬ G k
/-- its blocks -/
def Dr (G : Nat → Prop) (ud ul : Value) (q : Nat) (k : Nat) : Prop := G k ∨ k = q ∨ Ug ud k ∨ Ug ul k
theorem r_Take (w : World) (G : Nat → Prop) (p dm : Nat) (v : PV) (f : Nat → Int) (hp : DPool w G p dm v f) (hc : 0 < cnt v.o 0 v.n) : Calls Try.prog 40 #[.pointer (some ⟨p, 0, none⟩), .int .i64 (-1)] w fun r w' => r = .returned (.tuple #[.int .i64 (ff v.o v.n : Nat), .int .i64 0]) ∧ DPool w' G p dm (v.own (ff v.o v.n) (-1)) f ∧ Only G w w' := by
  have := z_Take w G p dm v f hp (-1)
  rw [tk_free v (-1) rfl hc] at this
  exact this
theorem r_Clear (w : World) (G : Nat → Prop) (p dm : Nat) (v : PV) (f : Nat → Int) (hp : DPool w G p dm v f) (t : Nat) (ht : t < v.n) : Calls Try.prog 77 #[.pointer (some ⟨dm, 0, none⟩), .int .i64 t] w fun r w' => r = .returned (.bool true) ∧ ∃ G', DPool w' G' p dm v (clr f t) ∧ Only G w w' ∧ ∀ k, G' k → G k ∨ w.heap.size ≤ k := by
  obtain ⟨S, hm, hS, hback⟩ := hp.open
  refine (C.q_Clear w S dm v.b v.n f hm t ht).mono ?_
  rintro r w' ⟨S', rfl, h1, h2, h3⟩
  exact ⟨rfl, hback w' S' _ h1 h2 fun k hk => .inl (h3 k hk)⟩
theorem d_New_bad (w : World) (m p : Nat) (vm : Int) (hv : vmOk vm = false) : Calls Try.prog 31 #[.pointer (some ⟨m, 0, none⟩), .pointer (some ⟨p, 0, none⟩), .int .i64 vm] w fun r w' => r = .returned (.tuple #[.pointer none, .int .i64 1]) ∧ w' = w := by
  go_enter Try.func31, Try.ntmps31
  by_cases h1 : vm < 1
  · go_wp2
    go_ret2
    exact ⟨rfl, rfl⟩
  · have h2 : vm > 15 := by simp [vmOk] at hv; omega
    go_wp2
    go_ret2
    exact ⟨rfl, rfl⟩
set_option maxHeartbeats 1000000 in
theorem d_New (w : World) (G : Nat → Prop) (p dm : Nat) (v : PV) (f : Nat → Int) (hp : DPool w G p dm v f) (ba : Bas v) (vm : Int) (hv : vmOk vm = true) (hc : 0 < cnt v.o 0 v.n) :
    Calls Try.prog 31 #[.pointer (some ⟨dm, 0, none⟩), .pointer (some ⟨p, 0, none⟩), .int .i64 vm] w fun r w' => ∃ q G' ud, r = .returned (.tuple #[.pointer (some ⟨q, 0, none⟩), .int .i64 0]) ∧ DSs w' G' ud (.slice none 0 0) q p dm (s0 (ff v.o v.n)) (v.own (ff v.o v.n) (-1)) (clr f (ff v.o v.n)) vm [] ∧ Only G w w' ∧ (∀ k, G' k → G k ∨ w.heap.size ≤ k) ∧ w.heap.size ≤ q ∧ ∀ k, Ug ud k → w.heap.size ≤ k := by
  have hT := r_Take w G p dm v f hp hc
  have HI := hid (inv0 (f := f) ba hp.ok hc)
  have hlt := (cnt_pos hc).1
  have hv' : 1 ≤ vm ∧ vm ≤ 15 := by simpa [vmOk] using hv
  have g1 : ¬ vm < 1 := by omega
  have g2 : ¬ 15 < vm := by omega
  generalize ff v.o v.n = t at *
  clear hp ba hv hv' hc
  go_enter Try.func31, Try.ntmps31
  go_upto_region 6 with (go_at_call 40; refine hT.mono ?_; rintro r w1 ⟨rfl, h1, h2⟩; have H1 := hid h1; have H2 := hid h2; clear h1 h2)
  have hC := r_Clear w1 G p dm (v.own t (-1)) f H1.out t hlt
  go_wp2_with (go_at_call 77; refine hC.mono ?_; rintro r w2 ⟨rfl, G2, h1, h2, h3⟩; have H3 := hid h1; have H4 := hid h2; have H5 := hid h3; clear h1 h2 h3)
  go_ret2
  have z1 := H2.out.size
  have z2 := H4.out.size
  refine ⟨w2.heap.size + 1, G2, .slice (some ⟨w2.heap.size, 0, none⟩) 1 1, rfl, ⟨H3.out.below (((Below.refl _ _).alloc (Nat.le_refl _) _).alloc (by simp) _), heap_alloc2_new w2 _ _, ⟨rfl, .inr ⟨w2.heap.size, 1, _, rfl, Nat.zero_le _, heap_alloc2_old w2 _ _, Nat.le_refl _, by decide, rfl, rfl⟩⟩, World.ownsRow_nil _ _ _ _, HI.out, fun k hk hg => ?_⟩, ?_, fun k hk => ?_, by omega, fun k hk => ?_⟩
  · have e : w2.heap.size = k := by simpa [Ug, Value.ownBlock] using hk
    have := H3.out.lt hg
    omega
  · exact (H2.out.trans H4.out).trans (.ofBelow (((Below.refl _ _).alloc (Nat.le_refl _) _).alloc (by simp) _))
  · exact (H5.out k hk).imp id fun z => by omega
  · have e : w2.heap.size = k := by simpa [Ug, Value.ownBlock] using hk
    omega
end Go.Proofs.Ytekkjalfiogenaa
namespace Go.Proofs.Ytekkjalfiogenaa
open Go.RowKit
open C (Only hid Mem RMem Still ret_bool ret_int put byt rd8 lo and_lo nu TwB Cl c_MemoryB c_Place)
set_option linter.unusedVariables false
set_option maxRecDepth 100000

section
variable {w w' : World} {G : Nat → Prop} {ud ul : Value} {q p dm : Nat} {s : SV} {v : PV} {f : Nat → Int} {vm : Int} {L : List Pg}
theorem DSs.only (h : DSs w G ud ul q p dm s v f vm L) {T : Nat → Prop} (ho : Only T w w') (hd : ∀ k, Dr G ud ul q k → ¬ T k) : DSs w' G ud ul q p dm s v f vm L :=
  ⟨h.dp.only ho fun k hk => hd k (.inl hk), ho.old h.top (hd q (.inr (.inl rfl))), own_only h.fr ho fun k hk => hd k (.inr (.inr (.inl hk))), own_only h.ls ho fun k hk => hd k (.inr (.inr (.inr hk))), h.iv, h.nu⟩
theorem DSs.below (h : DSs w G ud ul q p dm s v f vm L) (hb : Below w.heap.size w w') : DSs w' G ud ul q p dm s v f vm L := h.only (T := fun _ => False) (.ofBelow hb) fun _ _ z => z
theorem DSs.lt (h : DSs w G ud ul q p dm s v f vm L) {k : Nat} (hk : Dr G ud ul q k) : k < w.heap.size := by
  rcases hk with hk | rfl | hk | hk
  · exact h.dp.lt hk
  · exact lt_of_block h.top
  · obtain ⟨cur, hk'⟩ := own_typ h.fr hk; exact lt_of_block hk'
  · obtain ⟨cur, hk'⟩ := own_typ h.ls hk; exact lt_of_block hk'
theorem DSs.ty (h : DSs w G ud ul q p dm s v f vm L) {k : Nat} (hk : Dr G ud ul q k) : ∃ c t, w.heap[k]? = some (.cells c t (0, 0)) ∧ (tyG t || t == 93 || t == 41) = true := by
  rcases hk with hk | rfl | hk | hk
  · obtain ⟨c, t, h1, h2⟩ := h.dp.ty hk; exact ⟨c, t, h1, by rw [h2]; rfl⟩
  · exact ⟨_, _, h.top, rfl⟩
  · obtain ⟨cur, hk'⟩ := own_typ h.fr hk; exact ⟨_, _, hk', rfl⟩
  · obtain ⟨cur, hk'⟩ := own_typ h.ls hk; exact ⟨_, _, hk', rfl⟩
theorem DSs.nq (h : DSs w G ud ul q p dm s v f vm L) : ¬ G q ∧ ¬ Ug ud q ∧ ¬ Ug ul q := by
  refine ⟨h.dp.ne h.top rfl, fun z => ?_, fun z => ?_⟩
  · obtain ⟨cur, hk'⟩ := own_typ h.fr z; rw [h.top] at hk'; simp at hk'
  · obtain ⟨cur, hk'⟩ := own_typ h.ls z; rw [h.top] at hk'; simp at hk'
theorem DSs.nl (h : DSs w G ud ul q p dm s v f vm L) {k : Nat} (hk : Ug ul k) : ¬ G k ∧ k ≠ q ∧ ¬ Ug ud k := by
  obtain ⟨cur, hk'⟩ := own_typ h.ls hk
  refine ⟨h.dp.ne hk' rfl, fun e => h.nq.2.2 (e ▸ hk), fun z => ?_⟩
  obtain ⟨cur', hk2⟩ := own_typ h.fr z
  rw [hk'] at hk2
  simp at hk2
theorem DSs.nd (h : DSs w G ud ul q p dm s v f vm L) {k : Nat} (hk : Ug ud k) : ¬ G k ∧ k ≠ q ∧ ¬ Ug ul k :=
  ⟨h.nu k hk, fun e => h.nq.2.1 (e ▸ hk), fun z => (h.nl z).2.2 hk⟩
end
theorem ty_no2 (t : Nat) (h1 : (tyF t || t == 60) = true) : (tyG t || t == 93 || t == 41) = false := by
  simp [tyF] at h1
  rcases h1 with (((((h1 | h1) | h1) | h1) | h1) | h1) | h1 <;> subst h1 <;> rfl
/-- the program's space, and the document's -/
structure OB (W w : World) (F : Nat → Prop) (u : Value) (q p : Nat) (G : Nat → Prop) (ud ul : Value) (qd pd dm : Nat) (s : SV) (v : PV) (f : Nat → Int) (s2 : SV) (v2 : PV) (f2 : Nat → Int) (vm : Int) (L : List Pg) : Prop where
  sp : SPs w F u q p s v f vm
  ds : DSs w G ud ul qd pd dm s2 v2 f2 vm L
  dj : ∀ k, Ug u k → ¬ G k ∧ ¬ Ug ud k
  new : Below W.heap.size W w
  own : ∀ k, Ar F u q k ∨ Dr G ud ul qd k → W.heap.size ≤ k
section
variable {W w w' : World} {F F' : Nat → Prop} {u u' : Value} {q p : Nat} {G G' : Nat → Prop} {ud ul ud' ul' : Value} {qd pd dm : Nat} {s s' : SV} {v v' : PV} {f f' : Nat → Int} {s2 s2' : SV} {v2 v2' : PV} {f2 f2' : Nat → Int} {vm : Int} {L L' : List Pg}
theorem SPs.ty (h : SPs w F u q p s v f vm) {k : Nat} (hk : F k ∨ k = q) : ∃ c t, w.heap[k]? = some (.cells c t (0, 0)) ∧ (tyF t || t == 60) = true := by
  rcases hk with hk | rfl
  · obtain ⟨c, t, h1, h2⟩ := h.pl.ty hk; exact ⟨c, t, h1, by rw [h2]; rfl⟩
  · exact ⟨_, _, h.sq, rfl⟩
theorem OB.disj (h : OB W w F u q p G ud ul qd pd dm s v f s2 v2 f2 vm L) {k : Nat} (hk : Ar F u q k) : ¬ Dr G ud ul qd k := fun hd => by
  have key : F k ∨ k = q → False := fun hk => by
    obtain ⟨c, t, h1, h2⟩ := h.sp.ty hk
    obtain ⟨c', t', h3, h4⟩ := h.ds.ty hd
    rw [h1] at h3
    simp at h3
    rw [← h3.2, ty_no2 t h2] at h4
    cases h4
  rcases hk with hk | hk | hk
  · exact key (.inl hk)
  · exact key (.inr hk)
  · obtain ⟨cur, hk'⟩ := own_typ h.sp.ls hk
    rcases hd with z | z | z | z
    · exact (h.dj k hk).1 z
    · subst z; rw [h.ds.top] at hk'; simp at hk'
    · exact (h.dj k hk).2 z
    · obtain ⟨cur', hk2⟩ := own_typ h.ds.ls z; rw [hk'] at hk2; simp at hk2
theorem OB.turnP (h : OB W w F u q p G ud ul qd pd dm s v f s2 v2 f2 vm L) (hp : SPs w' F' u' q p s' v' f' vm) (ho : Only (Ar F u q) w w') (ha : ∀ k, Ar F' u' q k → Ar F u q k ∨ w.heap.size ≤ k) : OB W w' F' u' q p G ud ul qd pd dm s' v' f' s2 v2 f2 vm L := by
  refine ⟨hp, h.ds.only ho fun k hk z => h.disj z hk, fun k hk => ?_, h.new.trans (ho.below _ h.new.size fun k z => h.own k (.inl z)), fun k z => ?_⟩
  · rcases ha k (.inr (.inr hk)) with z | z
    · exact ⟨fun y => h.disj z (.inl y), fun y => h.disj z (.inr (.inr (.inl y)))⟩
    · exact ⟨fun y => by have := h.ds.lt (.inl y); omega, fun y => by have := h.ds.lt (.inr (.inr (.inl y))); omega⟩
  · rcases z with z | z
    · exact (ha k z).elim (fun y => h.own k (.inl y)) fun y => Nat.le_trans h.new.size y
    · exact h.own k (.inr z)
theorem OB.turnD (h : OB W w F u q p G ud ul qd pd dm s v f s2 v2 f2 vm L) (hp : DSs w' G' ud' ul' qd pd dm s2' v2' f2' vm L') (ho : Only (Dr G ud ul qd) w w') (ha : ∀ k, Dr G' ud' ul' qd k → Dr G ud ul qd k ∨ w.heap.size ≤ k) : OB W w' F u q p G' ud' ul' qd pd dm s v f s2' v2' f2' vm L' := by
  refine ⟨h.sp.only ho fun k hk z => h.disj hk z, hp, fun k hk => ?_, h.new.trans (ho.below _ h.new.size fun k z => h.own k (.inr z)), fun k z => ?_⟩
  · have key : ∀ y, Dr G' ud' ul' qd y → y ≠ k := fun y hy e => by
      subst e
      rcases ha y hy with z | z
      · exact h.disj (.inr (.inr hk)) z
      · have := h.sp.lt (.inr (.inr hk)); omega
    exact ⟨fun y => key k (.inl y) rfl, fun y => key k (.inr (.inr (.inl y))) rfl⟩
  · rcases z with z | z
    · exact h.own k (.inl z)
    · exact (ha k z).elim (fun y => h.own k (.inr y)) fun y => Nat.le_trans h.new.size y
theorem OB.below (h : OB W w F u q p G ud ul qd pd dm s v f s2 v2 f2 vm L) (hb : Below w.heap.size w w') : OB W w' F u q p G ud ul qd pd dm s v f s2 v2 f2 vm L :=
  h.turnP (h.sp.below hb) (.ofBelow hb) fun _ z => .inl z
end
theorem cnt_v0 (m : Nat) (b : Int) (r h n : Nat) (hr : r < n) : 0 < cnt (v0 m b r h n).o 0 n := by
  rcases Nat.eq_zero_or_pos (cnt (v0 m b r h n).o 0 n) with z | z
  · exact absurd (show (if r < r then (-1 : Int) else 0) = 0 by rw [if_neg (Nat.lt_irrefl _)]) (cnt_zero z r hr)
  · exact z
theorem ff_v0 (m : Nat) (b : Int) (r h n : Nat) (hr : r < n) : ff (v0 m b r h n).o n = r :=
  ff_eq hr (show (if r < r then (-1 : Int) else 0) = 0 by rw [if_neg (Nat.lt_irrefl _)]) fun j hj => by show (if j < r then (-1 : Int) else 0) ≠ 0; rw [if_pos hj]; decide
theorem bas_v0 (m : Nat) (b : Int) (h n : Nat) (bm : b % 4096 = 0) (b0 : 0 ≤ b) (b1 : b ≤ 1099511627776) (hn : n ≤ 1024) : Bas (v0 m b 1 h n) := ⟨bm, b0, b1, Nat.le_refl _, hn⟩
def onv (q qd p pd m dm : Nat) : Value := .agg #[.pointer (some ⟨q, 0, none⟩), .pointer (some ⟨qd, 0, none⟩), .pointer (some ⟨p, 0, none⟩), .pointer (some ⟨pd, 0, none⟩), .pointer (some ⟨m, 0, none⟩), .pointer (some ⟨dm, 0, none⟩)]
theorem u_on : Try.prog.underlying 33 = some (.struct (Try.prog.fieldsOf 33)) := by kernel_rfl
theorem s_on : (Try.prog.info? 33).map (·.size) = some 6 := by kernel_rfl
theorem cl0 (w : World) : Cl w none 0 0 0 0 (fun _ => (0, 0)) := ⟨Nat.le_refl _, by decide, fun h => absurd h (by decide), fun i h => absurd h (by omega), fun i h => absurd h (by omega)⟩
/-- the pools made over both memories -/
structure PP (W w : World) (F : Nat → Prop) (p : Nat) (G : Nat → Prop) (pd dm : Nat) (v : PV) (f : Nat → Int) : Prop where
  pl : Pool w F p v f
  dp : DPool w G pd dm v f
  new : Below W.heap.size W w
  own : ∀ k, F k ∨ G k → W.heap.size ≤ k
theorem l_Mem10 (w : World) (bs : Int) (b0 : 0 ≤ bs) (b1 : bs ≤ 1099511627776) (bm : bs % 4096 = 0) (n : Nat) (n0 : 0 < n) (n1 : n ≤ 1024) (n' : Int) (hn : n' = (n : Int)) : Calls Try.prog 27 #[.int .u64 bs, .int .i64 n', .slice none 0 0] w fun r w' => ∃ m dm S T, r = .returned (.tuple #[.agg #[.pointer (some ⟨m, 0, none⟩), .pointer (some ⟨dm, 0, none⟩)], .bool true]) ∧ Mem w' S m bs n (fun _ => 0) ∧ RMem w' T dm bs n (fun _ => 0) ∧ Below w.heap.size w w' ∧ ∀ k, S k ∨ T k → w.heap.size ≤ k := by
  subst hn
  refine (c_MemoryB w bs b0 b1 bm n n0 n1 none 0 0 0 0 (fun _ => (0, 0)) (cl0 w)).mono ?_
  rintro r w' ⟨p, q, U, rfl, ⟨S, T, h1, h2, h3, h4⟩, h5, h6⟩
  exact ⟨p, q, S, T, rfl, h1, h2, h5, fun k hk => h6 k ((h3 k).2 hk)⟩
end Go.Proofs.Ytekkjalfiogenaa
