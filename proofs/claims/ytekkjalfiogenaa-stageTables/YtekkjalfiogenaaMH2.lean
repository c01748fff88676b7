/- A guest's second stage as plain numbers: which tables there are, which pages are mapped, and how a memory says so. Nothing here speaks of the program. -/
import Derived.Test.YtekkjalfiogenaaMH1
import Derived.Test.YtekkjalfiogenaaMC5
import Derived.Laws.BitsAllLaws
namespace Go.Proofs.Ytekkjalfiogenaa
open Go.RowKit
open C (put byt rd8 rd8_same rd8_other rd8_zero)
set_option linter.unusedVariables false
set_option maxRecDepth 100000

/-- the entry of a table in frame t (0: none) -/
def tE (b : Int) (t : Nat) : Int := if t = 0 then 0 else (b / 4096 + t) * 1024 + 1
/-- the entry of a page in frame t with these rights (0: none) -/
def lE (b : Int) (t pm : Nat) : Int := if pm = 0 then 0 else (b / 4096 + t) * 1024 + 209 + pm
/-- rights that may be -/
def okP (p : Nat) : Prop := p = 2 ∨ p = 6 ∨ p = 8 ∨ p = 10 ∨ p = 14
/-- r: the root; k1: the tables of level 1 by their entry; k0: those of level 0 by the page's upper bits; pf, pp: a page's frame and rights; tg: what a frame is (0: no table); l: the tables in their order -/
structure SV where
  r : Nat
  k1 : Nat → Nat
  k0 : Nat → Nat
  pf : Nat → Nat
  pp : Nat → Nat
  tg : Nat → Nat
  l : List Nat
structure Bas (v : PV) : Prop where
  bm : v.b % 4096 = 0
  b0 : 0 ≤ v.b
  b1 : v.b ≤ 1099511627776
  rs : 1 ≤ v.r
  n2 : v.n ≤ 1024
/-- what stands in the memory is what the space is -/
structure Inv (s : SV) (v : PV) (f : Nat → Int) : Prop where
  ba : Bas v
  root : s.tg s.r = 1
  tr : ∀ x, s.tg x ≠ 0 → x < v.n ∧ v.o x = -1 ∧ x ≠ 0
  lm : ∀ x, x ∈ s.l ↔ s.tg x ≠ 0
  l0 : ∃ t, s.l = s.r :: t
  ll : s.l.length + cnt v.o 0 v.n ≤ v.n
  a1 : ∀ i, s.k1 i ≠ 0 → i < 512 ∧ s.tg (s.k1 i) = 2 + i
  a0 : ∀ q, s.k0 q ≠ 0 → s.k1 (q / 512) ≠ 0 ∧ s.tg (s.k0 q) = 514 + q
  ap : ∀ p, s.pp p ≠ 0 → s.k0 (p / 512) ≠ 0 ∧ okP (s.pp p) ∧ s.pf p < v.n ∧ v.o (s.pf p) ≠ -1
  e2 : ∀ i, i < 512 → rd8 f (4096 * s.r + 8 * i) = tE v.b (s.k1 i)
  e1 : ∀ i j, s.k1 i ≠ 0 → j < 512 → rd8 f (4096 * s.k1 i + 8 * j) = tE v.b (s.k0 (512 * i + j))
  e0 : ∀ q k, s.k0 q ≠ 0 → k < 512 → rd8 f (4096 * s.k0 q + 8 * k) = lE v.b (s.pf (512 * q + k)) (s.pp (512 * q + k))
theorem Inv.k1lt {s : SV} {v : PV} {f : Nat → Int} (h : Inv s v f) {i : Nat} (hi : s.k1 i ≠ 0) : s.k1 i < v.n ∧ i < 512 := ⟨(h.tr _ (by have := (h.a1 i hi).2; omega)).1, (h.a1 i hi).1⟩
theorem Inv.k0lt {s : SV} {v : PV} {f : Nat → Int} (h : Inv s v f) {q : Nat} (hq : s.k0 q ≠ 0) : s.k0 q < v.n ∧ q < 262144 := by
  have h1 := h.a0 q hq
  have h2 := h.k1lt h1.1
  exact ⟨(h.tr _ (by have := h1.2; omega)).1, by omega⟩
theorem Inv.pplt {s : SV} {v : PV} {f : Nat → Int} (h : Inv s v f) {p : Nat} (hp : s.pp p ≠ 0) : p < 134217728 := by
  have h1 := h.k0lt (h.ap p hp).1
  omega
theorem Inv.rlt {s : SV} {v : PV} {f : Nat → Int} (h : Inv s v f) : s.r < v.n ∧ s.r ≠ 0 := by
  have := h.tr s.r (by rw [h.root]; decide)
  exact ⟨this.1, this.2.2⟩
theorem nu8_zero (g : Nat → Int) (h : ∀ j, j < 8 → g j = 0) : C.nu g 8 = 0 := by
  rw [C.nu_congr (c := fun _ => 0) 8 h]; rfl
theorem rd8_clear (f : Nat → Int) (t i : Nat) (h : i < 512) : rd8 (put f (4096 * t) 4096 (fun _ => 0)) (4096 * t + 8 * i) = 0 :=
  nu8_zero _ fun j hj => by rw [C.put_in' _ _ _ _ _ (by omega) (by omega)]
theorem rd8_fr {f f' : Nat → Int} {x : Nat} (h : ∀ j, j < 4096 → f' (4096 * x + j) = f (4096 * x + j)) {i : Nat} (hi : i < 512) : rd8 f' (4096 * x + 8 * i) = rd8 f (4096 * x + 8 * i) := by
  unfold rd8
  exact C.nu_congr 8 fun j hj => by rw [show 4096 * x + 8 * i + j = 4096 * x + (8 * i + j) by omega]; exact h _ (by omega)
theorem rd8_put (f g : Nat → Int) (o n p : Nat) (h : p + 8 ≤ o ∨ o + n ≤ p) : rd8 (put f o n g) p = rd8 f p := by
  unfold rd8
  exact C.nu_congr 8 fun j hj => C.put_out f o n g (p + j) (by omega)
theorem tE_b {b : Int} {t : Nat} (b0 : 0 ≤ b) (b1 : b ≤ 1099511627776) (ht : t ≤ 1024) : 0 ≤ tE b t ∧ tE b t < 18446744073709551616 := by unfold tE; split <;> omega
theorem lE_b {b : Int} {t pm : Nat} (b0 : 0 ≤ b) (b1 : b ≤ 1099511627776) (ht : t ≤ 1024) (hp : pm = 0 ∨ okP pm) : 0 ≤ lE b t pm ∧ lE b t pm < 18446744073709551616 := by unfold okP at hp; unfold lE; split <;> omega
/-- a frame is cleared -/
def clr (f : Nat → Int) (t : Nat) : Nat → Int := put f (4096 * t) 4096 (fun _ => 0)
/-- an entry is written -/
def w8 (f : Nat → Int) (o : Nat) (e : Int) : Nat → Int := put f o 8 (byt e)
theorem clr_fr (f : Nat → Int) (t x : Nat) (h : x ≠ t) (j : Nat) (hj : j < 4096) : clr f t (4096 * x + j) = f (4096 * x + j) := C.put_out _ _ _ _ _ (by omega)
theorem w8_fr (f : Nat → Int) (y i : Nat) (hi : i < 512) (e : Int) (x : Nat) (h : x ≠ y) (j : Nat) (hj : j < 4096) : w8 f (4096 * y + 8 * i) e (4096 * x + j) = f (4096 * x + j) := C.put_out _ _ _ _ _ (by omega)
/-- a table t is made and entered at y's entry i: what another frame's entries are -/
theorem ent_far (f : Nat → Int) (t y i : Nat) (hi : i < 512) (e : Int) (x : Nat) (h1 : x ≠ t) (h2 : x ≠ y) {j : Nat} (hj : j < 512) : rd8 (w8 (clr f t) (4096 * y + 8 * i) e) (4096 * x + 8 * j) = rd8 f (4096 * x + 8 * j) :=
  rd8_fr (fun k hk => by rw [w8_fr _ _ _ hi _ _ h2 _ hk, clr_fr _ _ _ h1 _ hk]) hj
theorem ent_new (f : Nat → Int) (t y i : Nat) (hi : i < 512) (e : Int) (h2 : t ≠ y) {j : Nat} (hj : j < 512) : rd8 (w8 (clr f t) (4096 * y + 8 * i) e) (4096 * t + 8 * j) = 0 := by
  rw [rd8_fr (f := clr f t) (fun k hk => w8_fr _ _ _ hi _ _ h2 _ hk) hj]
  exact rd8_clear f t j hj
theorem w8_at (f : Nat → Int) (y i : Nat) (e : Int) (e0 : 0 ≤ e) (e1 : e < 18446744073709551616) (j : Nat) : rd8 (w8 f (4096 * y + 8 * i) e) (4096 * y + 8 * j) = if j = i then e else rd8 f (4096 * y + 8 * j) := by
  by_cases q : j = i
  · subst q; rw [if_pos rfl]; exact rd8_same _ _ _ e0 e1
  · rw [if_neg q]; exact rd8_other _ _ _ _ (by omega)
theorem ent_at (f : Nat → Int) (t y i : Nat) (hi : i < 512) (e : Int) (e0 : 0 ≤ e) (e1 : e < 18446744073709551616) (h : y ≠ t) {j : Nat} (hj : j < 512) : rd8 (w8 (clr f t) (4096 * y + 8 * i) e) (4096 * y + 8 * j) = if j = i then e else rd8 f (4096 * y + 8 * j) := by
  rw [w8_at _ _ _ _ e0 e1]
  split
  · rfl
  · exact rd8_fr (fun k hk => clr_fr _ _ _ h _ hk) hj
theorem cnt_upd (o : Nat → Int) (i : Nat) (x : Int) (h0 : o i = 0) (hx : x ≠ 0) : ∀ n, cnt (upd o i x) 0 n + (if i < n then 1 else 0) = cnt o 0 n
  | 0 => by simp [cnt]
  | n + 1 => by
    have h := cnt_upd o i x h0 hx n
    unfold cnt
    by_cases e : n = i
    · subst e
      rw [upd_same, h0]
      simp [hx] at h ⊢
      exact h
    · rw [upd_other _ _ _ _ e]
      have : (i < n + 1) = (i < n) := by apply propext; omega
      simp only [this]
      cases decide (o n = 0)
      · exact h
      · simp only [cond_true]; omega
theorem cnt_zero {o : Nat → Int} : ∀ {n : Nat}, cnt o 0 n = 0 → ∀ j, j < n → o j ≠ 0
  | 0, _, j, hj => absurd hj (Nat.not_lt_zero _)
  | n + 1, h, j, hj => by
    unfold cnt at h
    by_cases e : o n = 0
    · simp [e] at h
    · simp [e] at h
      by_cases q : j = n
      · subst q; exact e
      · exact cnt_zero h j (by omega)
theorem cnt_none {o : Nat → Int} : ∀ {n : Nat}, (∀ j, j < n → o j ≠ 0) → cnt o 0 n = 0
  | 0, _ => rfl
  | n + 1, h => by
    unfold cnt
    simp [h n (by omega), cnt_none (n := n) fun j hj => h j (by omega)]
theorem cnt_pos {o : Nat → Int} {n : Nat} (h : 0 < cnt o 0 n) : ff o n < n ∧ o (ff o n) = 0 := by
  obtain ⟨h1, h2, h3⟩ := ff_spec o n
  rcases Nat.lt_or_ge (ff o n) n with q | q
  · exact ⟨q, h2 q⟩
  · have := cnt_none (o := o) (n := n) fun j hj => h3 j (by omega)
    omega
/-- a table more of level 1, of level 0; a page's entry -/
def SV.add1 (s : SV) (i t : Nat) : SV := ⟨s.r, upd s.k1 i t, s.k0, s.pf, s.pp, upd s.tg t (2 + i), s.l ++ [t]⟩
def SV.add0 (s : SV) (q t : Nat) : SV := ⟨s.r, s.k1, upd s.k0 q t, s.pf, s.pp, upd s.tg t (514 + q), s.l ++ [t]⟩
def SV.leaf (s : SV) (p fr pm : Nat) : SV := ⟨s.r, s.k1, s.k0, upd s.pf p fr, upd s.pp p pm, s.tg, s.l⟩
section
variable {s : SV} {v : PV} {f f' : Nat → Int}
theorem Inv.keep (h : Inv s v f) (hk : ∀ x, s.tg x ≠ 0 → ∀ j, j < 4096 → f' (4096 * x + j) = f (4096 * x + j)) : Inv s v f' := by
  refine ⟨h.ba, h.root, h.tr, h.lm, h.l0, h.ll, h.a1, h.a0, h.ap, fun i hi => ?_, fun i j hi hj => ?_, fun q k hq hk' => ?_⟩
  · rw [rd8_fr (hk _ (by rw [h.root]; decide)) hi]; exact h.e2 i hi
  · rw [rd8_fr (hk _ (by have := (h.a1 i hi).2; omega)) hj]; exact h.e1 i j hi hj
  · rw [rd8_fr (hk _ (by have := (h.a0 q hq).2; omega)) hk']; exact h.e0 q k hq hk'
theorem Bas.own (h : Bas v) (t : Nat) (x : Int) : Bas (v.own t x) := ⟨h.bm, h.b0, h.b1, h.rs, h.n2⟩
theorem Inv.own (h : Inv s v f) {t : Nat} (ht : t < v.n) (h0 : v.o t = 0) {x : Int} (hx : 1 ≤ x ∨ x = -1) (hne : x = -1 → ∀ p, s.pp p ≠ 0 → s.pf p ≠ t) : Inv s (v.own t x) f := by
  have c := cnt_upd v.o t x h0 (by omega) v.n
  rw [if_pos ht] at c
  refine ⟨h.ba.own t x, h.root, fun y hy => ?_, h.lm, h.l0, ?_, h.a1, h.a0, fun p hp => ?_, h.e2, h.e1, h.e0⟩
  · obtain ⟨h1, h2, h3⟩ := h.tr y hy
    exact ⟨h1, by show upd v.o t x y = -1; rw [upd_other _ _ _ _ (fun e => by subst e; omega)]; exact h2, h3⟩
  · show s.l.length + cnt (upd v.o t x) 0 v.n ≤ v.n
    have := h.ll; omega
  · obtain ⟨h1, h2, h3, h4⟩ := h.ap p hp
    refine ⟨h1, h2, h3, ?_⟩
    show upd v.o t x (s.pf p) ≠ -1
    by_cases e : s.pf p = t
    · rw [e, upd_same]
      rcases hx with hx | hx
      · omega
      · exact absurd e (hne hx p hp)
    · rw [upd_other _ _ _ _ e]; exact h4
theorem Inv.notab (h : Inv s v f) {t : Nat} (h0 : v.o t ≠ -1) : s.tg t = 0 := by
  rcases Nat.eq_zero_or_pos (s.tg t) with z | z
  · exact z
  · exact absurd (h.tr t (by omega)).2.1 h0
theorem Inv.new0 (h : Inv s v f) (ok : v.Ok) {t : Nat} (h0 : v.o t = 0) : t ≠ 0 := fun e => by
  subst e
  have := ok.rs 0 h.ba.rs
  omega
theorem Inv.mk1 {i t : Nat} (h : Inv s v f) (ok : v.Ok) (hne : ∀ p, s.pp p ≠ 0 → s.pf p ≠ t) (hi : i < 512) (hk : s.k1 i = 0) (ht : t < v.n) (h0 : v.o t = 0) : Inv (s.add1 i t) (v.own t (-1)) (w8 (clr f t) (4096 * s.r + 8 * i) (tE v.b t)) := by
  have tz := h.notab (t := t) (by omega)
  have t0 := h.new0 ok h0
  have c := cnt_upd v.o t (-1) h0 (by decide) v.n
  rw [if_pos ht] at c
  have ne : ∀ x, s.tg x ≠ 0 → x ≠ t := fun x hx e => hx (e ▸ tz)
  have rt : s.r ≠ t := ne _ (by rw [h.root]; decide)
  have b := tE_b (t := t) h.ba.b0 h.ba.b1 (by have := h.ba.n2; omega)
  refine ⟨h.ba.own t _, ?_, fun y hy => ?_, fun x => ?_, ?_, ?_, fun j hj => ?_, fun q hq => ?_, fun p hp => ?_, fun j hj => ?_, fun a j ha hj => ?_, fun q k hq hk' => ?_⟩
  · show upd s.tg t _ s.r = 1
    rw [upd_other _ _ _ _ rt]; exact h.root
  · show y < v.n ∧ upd v.o t (-1) y = -1 ∧ y ≠ 0
    by_cases e : y = t
    · subst e; exact ⟨ht, upd_same _ _ _, t0⟩
    · obtain ⟨h1, h2, h3⟩ := h.tr y (by have : upd s.tg t (2 + i) y ≠ 0 := hy; rwa [upd_other _ _ _ _ e] at this)
      exact ⟨h1, by rw [upd_other _ _ _ _ e]; exact h2, h3⟩
  · show x ∈ s.l ++ [t] ↔ upd s.tg t (2 + i) x ≠ 0
    rw [List.mem_append, List.mem_singleton, h.lm]
    by_cases e : x = t
    · subst e; rw [upd_same]; exact ⟨fun _ => by omega, fun _ => .inr rfl⟩
    · rw [upd_other _ _ _ _ e]; exact ⟨fun z => z.resolve_right e, .inl⟩
  · obtain ⟨l, e⟩ := h.l0; exact ⟨l ++ [t], by show s.l ++ [t] = _; rw [e]; rfl⟩
  · show (s.l ++ [t]).length + cnt (upd v.o t (-1)) 0 v.n ≤ v.n
    have := h.ll; simp; omega
  · show j < 512 ∧ upd s.tg t (2 + i) (upd s.k1 i t j) = 2 + j
    have hj' : upd s.k1 i t j ≠ 0 := hj
    by_cases e : j = i
    · subst e; rw [upd_same, upd_same]; exact ⟨hi, rfl⟩
    · rw [upd_other _ _ _ _ e] at hj' ⊢
      obtain ⟨h1, h2⟩ := h.a1 j hj'
      exact ⟨h1, by rw [upd_other _ _ _ _ (ne _ (by omega))]; exact h2⟩
  · show upd s.k1 i t (q / 512) ≠ 0 ∧ upd s.tg t (2 + i) (s.k0 q) = 514 + q
    obtain ⟨h1, h2⟩ := h.a0 q hq
    refine ⟨?_, by rw [upd_other _ _ _ _ (ne _ (by omega))]; exact h2⟩
    rw [upd_other _ _ _ _ (fun e => h1 (by rw [e]; exact hk))]; exact h1
  · show s.k0 (p / 512) ≠ 0 ∧ okP (s.pp p) ∧ s.pf p < v.n ∧ upd v.o t (-1) (s.pf p) ≠ -1
    obtain ⟨h1, h2, h3, h4⟩ := h.ap p hp
    exact ⟨h1, h2, h3, by rw [upd_other _ _ _ _ (hne p hp)]; exact h4⟩
  · show _ = tE v.b (upd s.k1 i t j)
    rw [show (s.add1 i t).r = s.r from rfl, ent_at _ _ _ _ hi _ b.1 b.2 rt hj]
    by_cases e : j = i
    · subst e; rw [if_pos rfl, upd_same]
    · rw [if_neg e, upd_other _ _ _ _ e]; exact h.e2 j hj
  · show rd8 _ (4096 * upd s.k1 i t a + 8 * j) = tE v.b (s.k0 (512 * a + j))
    have ha' : upd s.k1 i t a ≠ 0 := ha
    by_cases e : a = i
    · subst e
      rw [upd_same, ent_new _ _ _ _ hi _ rt.symm hj]
      have : s.k0 (512 * a + j) = 0 := by
        rcases Nat.eq_zero_or_pos (s.k0 (512 * a + j)) with z | z
        · exact z
        · have := (h.a0 (512 * a + j) (by omega)).1
          rw [show (512 * a + j) / 512 = a by omega] at this
          exact absurd hk this
      rw [this]; rfl
    · rw [upd_other _ _ _ _ e] at ha' ⊢
      have h2 := (h.a1 a ha').2
      rw [ent_far _ _ _ _ hi _ _ (ne _ (by omega)) (fun z => by rw [z, h.root] at h2; omega) hj]
      exact h.e1 a j ha' hj
  · show rd8 _ (4096 * s.k0 q + 8 * k) = _
    have hq' : s.k0 q ≠ 0 := hq
    have h2 := (h.a0 q hq').2
    rw [ent_far _ _ _ _ hi _ _ (ne _ (by omega)) (fun z => by rw [z, h.root] at h2; omega) hk']
    exact h.e0 q k hq' hk'
theorem Inv.mk0 {q t : Nat} (h : Inv s v f) (ok : v.Ok) (hne : ∀ p, s.pp p ≠ 0 → s.pf p ≠ t) (hi : s.k1 (q / 512) ≠ 0) (hk : s.k0 q = 0) (ht : t < v.n) (h0 : v.o t = 0) : Inv (s.add0 q t) (v.own t (-1)) (w8 (clr f t) (4096 * s.k1 (q / 512) + 8 * (q % 512)) (tE v.b t)) := by
  have tz := h.notab (t := t) (by omega)
  have t0 := h.new0 ok h0
  have c := cnt_upd v.o t (-1) h0 (by decide) v.n
  rw [if_pos ht] at c
  have ne : ∀ x, s.tg x ≠ 0 → x ≠ t := fun x hx e => hx (e ▸ tz)
  have rt : s.r ≠ t := ne _ (by rw [h.root]; decide)
  have hm : q % 512 < 512 := Nat.mod_lt _ (by decide)
  have gy := (h.a1 _ hi).2
  have yt : s.k1 (q / 512) ≠ t := ne _ (by omega)
  have b := tE_b (t := t) h.ba.b0 h.ba.b1 (by have := h.ba.n2; omega)
  refine ⟨h.ba.own t _, ?_, fun y hy => ?_, fun x => ?_, ?_, ?_, fun j hj => ?_, fun a ha => ?_, fun p hp => ?_, fun j hj => ?_, fun a j ha hj => ?_, fun a k ha hk' => ?_⟩
  · show upd s.tg t _ s.r = 1
    rw [upd_other _ _ _ _ rt]; exact h.root
  · show y < v.n ∧ upd v.o t (-1) y = -1 ∧ y ≠ 0
    by_cases e : y = t
    · subst e; exact ⟨ht, upd_same _ _ _, t0⟩
    · obtain ⟨h1, h2, h3⟩ := h.tr y (by have : upd s.tg t (514 + q) y ≠ 0 := hy; rwa [upd_other _ _ _ _ e] at this)
      exact ⟨h1, by rw [upd_other _ _ _ _ e]; exact h2, h3⟩
  · show x ∈ s.l ++ [t] ↔ upd s.tg t (514 + q) x ≠ 0
    rw [List.mem_append, List.mem_singleton, h.lm]
    by_cases e : x = t
    · subst e; rw [upd_same]; exact ⟨fun _ => by omega, fun _ => .inr rfl⟩
    · rw [upd_other _ _ _ _ e]; exact ⟨fun z => z.resolve_right e, .inl⟩
  · obtain ⟨l, e⟩ := h.l0; exact ⟨l ++ [t], by show s.l ++ [t] = _; rw [e]; rfl⟩
  · show (s.l ++ [t]).length + cnt (upd v.o t (-1)) 0 v.n ≤ v.n
    have := h.ll; simp; omega
  · show j < 512 ∧ upd s.tg t (514 + q) (s.k1 j) = 2 + j
    obtain ⟨h1, h2⟩ := h.a1 j hj
    exact ⟨h1, by rw [upd_other _ _ _ _ (ne _ (by omega))]; exact h2⟩
  · show s.k1 (a / 512) ≠ 0 ∧ upd s.tg t (514 + q) (upd s.k0 q t a) = 514 + a
    have ha' : upd s.k0 q t a ≠ 0 := ha
    by_cases e : a = q
    · subst e; rw [upd_same, upd_same]; exact ⟨hi, rfl⟩
    · rw [upd_other _ _ _ _ e] at ha' ⊢
      obtain ⟨h1, h2⟩ := h.a0 a ha'
      exact ⟨h1, by rw [upd_other _ _ _ _ (ne _ (by omega))]; exact h2⟩
  · show upd s.k0 q t (p / 512) ≠ 0 ∧ okP (s.pp p) ∧ s.pf p < v.n ∧ upd v.o t (-1) (s.pf p) ≠ -1
    obtain ⟨h1, h2, h3, h4⟩ := h.ap p hp
    refine ⟨?_, h2, h3, by rw [upd_other _ _ _ _ (hne p hp)]; exact h4⟩
    rw [upd_other _ _ _ _ (fun e => h1 (by rw [e]; exact hk))]; exact h1
  · show rd8 _ (4096 * s.r + 8 * j) = _
    rw [ent_far _ _ _ _ hm _ _ rt (fun z => by rw [← z, h.root] at gy; omega) hj]; exact h.e2 j hj
  · show rd8 _ (4096 * s.k1 a + 8 * j) = tE v.b (upd s.k0 q t (512 * a + j))
    have ha' : s.k1 a ≠ 0 := ha
    have h2 := (h.a1 a ha').2
    by_cases e : a = q / 512
    · subst e
      rw [ent_at _ _ _ _ hm _ b.1 b.2 yt hj]
      by_cases e2 : j = q % 512
      · subst e2
        rw [if_pos rfl, show 512 * (q / 512) + q % 512 = q by omega, upd_same]
      · rw [if_neg e2, upd_other _ _ _ _ (by omega)]; exact h.e1 _ j hi hj
    · rw [ent_far _ _ _ _ hm _ _ (ne _ (by omega)) (fun z => by rw [z] at h2; omega) hj, upd_other _ _ _ _ (by omega)]
      exact h.e1 a j ha' hj
  · show rd8 _ (4096 * upd s.k0 q t a + 8 * k) = _
    have ha' : upd s.k0 q t a ≠ 0 := ha
    by_cases e : a = q
    · subst e
      rw [upd_same, ent_new _ _ _ _ hm _ yt.symm hk']
      have : s.pp (512 * a + k) = 0 := by
        rcases Nat.eq_zero_or_pos (s.pp (512 * a + k)) with z | z
        · exact z
        · have := (h.ap (512 * a + k) (by omega)).1
          rw [show (512 * a + k) / 512 = a by omega] at this
          exact absurd hk this
      show 0 = lE v.b (s.pf _) (s.pp _)
      rw [this]; rfl
    · rw [upd_other _ _ _ _ e] at ha' ⊢
      have h2 := (h.a0 a ha').2
      rw [ent_far _ _ _ _ hm _ _ (ne _ (by omega)) (fun z => by rw [z] at h2; have := (h.a1 _ hi).1; omega) hk']
      exact h.e0 a k ha' hk'
theorem Inv.mkl (h : Inv s v f) {p fr pm : Nat} (hq : s.k0 (p / 512) ≠ 0) (hp : pm = 0 ∨ okP pm ∧ fr < v.n ∧ v.o fr ≠ -1) (hf : fr ≤ 1024) : Inv (s.leaf p fr pm) v (w8 f (4096 * s.k0 (p / 512) + 8 * (p % 512)) (lE v.b fr pm)) := by
  have hm : p % 512 < 512 := Nat.mod_lt _ (by decide)
  have gy := (h.a0 _ hq).2
  have b := lE_b (t := fr) (pm := pm) h.ba.b0 h.ba.b1 hf (hp.imp id (·.1))
  refine ⟨h.ba, h.root, h.tr, h.lm, h.l0, h.ll, h.a1, h.a0, fun a ha => ?_, fun j hj => ?_, fun a j ha hj => ?_, fun a k ha hk' => ?_⟩
  · show s.k0 (a / 512) ≠ 0 ∧ okP (upd s.pp p pm a) ∧ upd s.pf p fr a < v.n ∧ v.o (upd s.pf p fr a) ≠ -1
    have ha' : upd s.pp p pm a ≠ 0 := ha
    by_cases e : a = p
    · subst e; rw [upd_same] at ha'; rw [upd_same, upd_same]
      exact ⟨hq, hp.resolve_left ha'⟩
    · rw [upd_other _ _ _ _ e] at ha'
      rw [upd_other _ _ _ _ e, upd_other _ _ _ _ e]; exact h.ap a ha'
  · show rd8 _ (4096 * s.r + 8 * j) = _
    rw [rd8_fr (f := f) (fun k hk => w8_fr _ _ _ hm _ _ (fun z => by rw [← z, h.root] at gy; omega) _ hk) hj]; exact h.e2 j hj
  · show rd8 _ (4096 * s.k1 a + 8 * j) = _
    have h2 := (h.a1 a ha).2
    have h3 := (h.a1 a ha).1
    rw [rd8_fr (f := f) (fun k hk => w8_fr _ _ _ hm _ _ (fun z => by rw [← z] at gy; omega) _ hk) hj]; exact h.e1 a j ha hj
  · show rd8 _ (4096 * s.k0 a + 8 * k) = lE v.b (upd s.pf p fr (512 * a + k)) (upd s.pp p pm (512 * a + k))
    have h2 := (h.a0 a ha).2
    by_cases e : a = p / 512
    · subst e
      rw [w8_at _ _ _ _ b.1 b.2]
      by_cases e2 : k = p % 512
      · subst e2
        rw [if_pos rfl, show 512 * (p / 512) + p % 512 = p by omega, upd_same, upd_same]
      · rw [if_neg e2, upd_other _ _ _ _ (by omega), upd_other _ _ _ _ (by omega)]; exact h.e0 _ k ha hk'
    · rw [rd8_fr (f := f) (fun k hk => w8_fr _ _ _ hm _ _ (fun z => by rw [z] at h2; omega) _ hk) hk', upd_other _ _ _ _ (by omega), upd_other _ _ _ _ (by omega)]
      exact h.e0 a k ha hk'
end
end Go.Proofs.Ytekkjalfiogenaa
namespace Go.Proofs.Ytekkjalfiogenaa
open Go.RowKit
open C (Only hid Mem Still ret_bool ret_int put byt rd8 lo and_lo)
set_option linter.unusedVariables false
set_option maxRecDepth 100000

def okPb (x : Int) : Bool := decide (x = 2 ∨ x = 6 ∨ x = 8 ∨ x = 10 ∨ x = 14)
theorem andNot14 (x : Int) (h0 : -9223372036854775808 ≤ x) (h1 : x ≤ 9223372036854775807) (h : bits .andNot .i64 x 14 = 0) : 0 ≤ x ∧ x ≤ 14 := by
  have h2 : IntKind.i64.wrap ((BitVec.ofInt 64 x &&& ~~~ BitVec.ofInt 64 14).toNat : Int) = 0 := h
  have h3 : ((BitVec.ofInt 64 x &&& ~~~ BitVec.ofInt 64 14).toNat : Int) % 18446744073709551616 = 0 := by
    have e : ((2 : Int) ^ 64) = 18446744073709551616 := by decide
    have e2 : ((2 : Int) ^ 63) = 9223372036854775808 := by decide
    simp only [IntKind.wrap, IntKind.bits, IntKind.signed, e, e2] at h2
    revert h2
    split <;> omega
  have h4 : (BitVec.ofInt 64 x &&& ~~~ BitVec.ofInt 64 14) = 0#64 := by
    apply BitVec.eq_of_toNat_eq
    have := (BitVec.ofInt 64 x &&& ~~~ BitVec.ofInt 64 14).isLt
    simp only [BitVec.toNat_ofNat]
    omega
  have h5 : BitVec.ofInt 64 x = BitVec.ofInt 64 x &&& 14#64 := by
    apply BitVec.eq_of_getLsbD_eq
    intro i hi
    have := congrArg (fun b => BitVec.getLsbD b i) h4
    simp only [BitVec.getLsbD_and, BitVec.getLsbD_not, hi, decide_true, Bool.true_and, BitVec.getLsbD_zero, show BitVec.ofInt 64 14 = 14#64 from rfl] at this ⊢
    cases h : (BitVec.ofInt 64 x).getLsbD i <;> cases h' : (14#64).getLsbD i <;> simp_all
  have h6 : (BitVec.ofInt 64 x).toNat ≤ 14 := by
    rw [h5, BitVec.toNat_and]
    exact Nat.and_le_right
  rw [BitVec.toNat_ofInt] at h6
  omega
theorem c_isPage (p : Int) (w : World) : Calls Try.prog 51 #[.int .u64 p] w fun e w' => e = .returned (.bool (decide (p < 134217728))) ∧ w' = w := by
  go_enter Try.func51, Try.ntmps51
  go_wp2
  go_ret
  exact ⟨rfl, rfl⟩
theorem c_isPerm (x : Int) (h0 : -9223372036854775808 ≤ x) (h1 : x ≤ 9223372036854775807) (w : World) : Calls Try.prog 53 #[.int .i64 x] w fun e w' => e = .returned (.bool (okPb x)) ∧ w' = w := by
  by_cases hx : 0 ≤ x ∧ x ≤ 14
  · obtain ⟨n, rfl⟩ := Int.eq_ofNat_of_zero_le hx.1
    have hn : n < 15 := by omega
    clear hx h0 h1
    go_enter Try.func53, Try.ntmps53
    rcases n with _ | _ | _ | _ | _ | _ | _ | _ | _ | _ | _ | _ | _ | _ | _ | n
    all_goals first
      | (exfalso; omega)
      | (go_wp2; go_ret; exact ⟨rfl, rfl⟩)
  · have h : ¬ bits .andNot .i64 x 14 = 0 := fun h => hx (andNot14 x h0 h1 h)
    have e : okPb x = false := by unfold okPb; simp; omega
    rw [e]
    go_enter Try.func53, Try.ntmps53
    go_wp2
    go_ret
    exact ⟨rfl, rfl⟩
theorem c_index0 (p : Int) (p0 : 0 ≤ p) (p1 : p < 18446744073709551616) (w : World) : Calls Try.prog 59 #[.int .u64 p, .int .i64 0] w fun e w' => e = .returned (.int .u64 (p % 512)) ∧ w' = w := by
  go_enter Try.func59, Try.ntmps59
  go_wp2
  go_ret
  exact ⟨ret_int (by go_num), rfl⟩
theorem c_index1 (p : Int) (p0 : 0 ≤ p) (p1 : p < 18446744073709551616) (w : World) : Calls Try.prog 59 #[.int .u64 p, .int .i64 1] w fun e w' => e = .returned (.int .u64 (p / 512 % 512)) ∧ w' = w := by
  go_enter Try.func59, Try.ntmps59
  go_wp2
  go_ret
  exact ⟨ret_int (by go_num), rfl⟩
theorem c_index2 (p : Int) (p0 : 0 ≤ p) (p1 : p < 18446744073709551616) (w : World) : Calls Try.prog 59 #[.int .u64 p, .int .i64 2] w fun e w' => e = .returned (.int .u64 (p / 262144 % 512)) ∧ w' = w := by
  go_enter Try.func59, Try.ntmps59
  go_wp2
  go_ret
  exact ⟨ret_int (by go_num), rfl⟩
theorem c_entryAt (t i : Int) (t0 : 0 ≤ t) (t1 : t ≤ 4503599627370495) (i0 : 0 ≤ i) (i1 : i < 512) (x : Int) (hx : t * 4096 + i * 8 = x) (w : World) : Calls Try.prog 58 #[.int .u64 t, .int .u64 i] w fun e w' => e = .returned (.int .u64 x) ∧ w' = w := by
  subst hx
  go_enter Try.func58, Try.ntmps58
  go_wp2
  go_ret
  exact ⟨ret_int (by go_num), rfl⟩
theorem c_pageAt (i j k : Int) (i0 : 0 ≤ i) (i1 : i < 512) (j0 : 0 ≤ j) (j1 : j < 512) (k0 : 0 ≤ k) (k1 : k < 512) (w : World) : Calls Try.prog 71 #[.int .u64 i, .int .u64 j, .int .u64 k] w fun e w' => e = .returned (.int .u64 ((i * 512 + j) * 512 + k)) ∧ w' = w := by
  go_enter Try.func71, Try.ntmps71
  go_wp2
  go_ret
  exact ⟨ret_int (by go_num), rfl⟩
theorem c_number (e : Int) (e0 : 0 ≤ e) (e1 : e < 18446744073709551616) (w : World) : Calls Try.prog 63 #[.int .u64 e] w fun r w' => r = .returned (.int .u64 (e / 1024)) ∧ w' = w := by
  go_enter Try.func63, Try.ntmps63
  go_wp2
  go_ret
  exact ⟨ret_int (by go_num), rfl⟩
theorem c_perm (e : Int) (e0 : 0 ≤ e) (e1 : e < 18446744073709551616) (w : World) : Calls Try.prog 90 #[.int .u64 e] w fun r w' => r = .returned (.int .i64 ((lo e &&& 14 : Nat) : Int)) ∧ w' = w := by
  have h := and_lo e e0 e1 14 (by decide)
  have h2 : (lo e &&& 14 : Nat) ≤ 14 := Nat.and_le_right
  go_enter Try.func90, Try.ntmps90
  go_wp2
  go_ret
  exact ⟨ret_int (by rw [show (14 : Int) = ((14 : Nat) : Int) from rfl, h]; unfold wrap64; omega), rfl⟩
theorem or_low (x : Nat) (c : Nat) (hx : x < 4503599627370496) (hc : c < 1024) : bits .or .u64 ((x * 1024 : Nat) : Int) (c : Int) = ((x * 1024 + c : Nat) : Int) := by
  rw [bits_or_u64_nat _ _ (by omega) (by omega)]
  have := Nat.shiftLeft_add_eq_or_of_lt (i := 10) (b := c) (by omega) x
  rw [Nat.shiftLeft_eq] at this
  rw [← this]
theorem or_pm : ∀ pm : Fin 15, okPb ((pm : Nat) : Int) = true → (209 ||| (pm : Nat)) = 209 + pm := by decide
theorem c_tableAt (x : Int) (x0 : 0 ≤ x) (x1 : x < 4503599627370496) (w : World) : Calls Try.prog 57 #[.int .u64 x] w fun r w' => r = .returned (.int .u64 (x * 1024 + 1)) ∧ w' = w := by
  obtain ⟨n, rfl⟩ := Int.eq_ofNat_of_zero_le x0
  have h := or_low n 1 (by omega) (by decide)
  have e : IntKind.u64.wrap ((n : Int) * 1024) = ((n * 1024 : Nat) : Int) := by rw [IntKind.wrap_u64]; omega
  go_enter Try.func57, Try.ntmps57
  go_wp2
  go_ret
  exact ⟨ret_int (by first | (rw [e]; exact h) | exact h | (simp only [Int.natCast_mul] at h; exact h)), rfl⟩
theorem c_leafAt (x : Int) (x0 : 0 ≤ x) (x1 : x < 4503599627370496) (pm : Nat) (hp : okP pm) (w : World) : Calls Try.prog 60 #[.int .u64 x, .int .i64 pm] w fun r w' => r = .returned (.int .u64 (x * 1024 + 209 + pm)) ∧ w' = w := by
  obtain ⟨n, rfl⟩ := Int.eq_ofNat_of_zero_le x0
  have hl : pm < 15 := by unfold okP at hp; omega
  have h := or_low n 209 (by omega) (by decide)
  have h2 : bits .or .u64 ((n * 1024 + 209 : Nat) : Int) (pm : Int) = ((n * 1024 + (209 + pm) : Nat) : Int) := by
    rw [bits_or_u64_nat _ _ (by omega) (by omega)]
    have a := Nat.shiftLeft_add_eq_or_of_lt (i := 10) (b := 209) (by decide) n
    have b := Nat.shiftLeft_add_eq_or_of_lt (i := 10) (b := 209 + pm) (by omega) n
    rw [Nat.shiftLeft_eq] at a b
    have c := or_pm ⟨pm, hl⟩ (by unfold okP at hp; unfold okPb; simp; omega)
    have c' : 209 ||| pm = 209 + pm := c
    show ((n * 2 ^ 10 + 209 ||| pm : Nat) : Int) = ((n * 2 ^ 10 + (209 + pm) : Nat) : Int)
    rw [a, b, Nat.or_assoc, c']
  have e : IntKind.u64.wrap ((n : Int) * 1024) = ((n * 1024 : Nat) : Int) := by rw [IntKind.wrap_u64]; omega
  go_enter Try.func60, Try.ntmps60
  go_wp2
  go_ret
  exact ⟨ret_int (by
    simp only [Int.natCast_mul, Int.natCast_add, Int.cast_ofNat_Int] at h h2
    rw [h, h2]; omega), rfl⟩
def isT (e : Int) : Bool := decide (lo e &&& 1 ≠ 0) && decide (lo e &&& 14 = 0)
def isL (e : Int) : Bool := decide (lo e &&& 1 ≠ 0) && okPb ((lo e &&& 14 : Nat) : Int)
theorem c_isTable (e : Int) (e0 : 0 ≤ e) (e1 : e < 18446744073709551616) (w : World) : Calls Try.prog 69 #[.int .u64 e] w fun r w' => r = .returned (.bool (isT e)) ∧ w' = w := by
  have h := and_lo e e0 e1 1 (by decide)
  have hp := c_perm e e0 e1
  have h' : bits .and .u64 e 1 = ((lo e &&& 1 : Nat) : Int) := h
  unfold isT
  generalize lo e &&& 14 = a at hp ⊢
  generalize lo e &&& 1 = b at h' ⊢
  clear h
  by_cases hb : b = 0
  · subst hb
    go_enter Try.func69, Try.ntmps69
    go_wp2
    go_ret
    exact ⟨rfl, rfl⟩
  · go_enter Try.func69, Try.ntmps69
    go_wp2_with (go_at_call 90; refine (hp _).mono ?_; rintro r w' ⟨rfl, hw⟩; obtain rfl := hw.symm)
    go_ret
    exact ⟨ret_bool (by rw [Bool.eq_iff_iff]; simp [hb]), rfl⟩
theorem c_isLeaf (e : Int) (e0 : 0 ≤ e) (e1 : e < 18446744073709551616) (w : World) : Calls Try.prog 70 #[.int .u64 e] w fun r w' => r = .returned (.bool (isL e)) ∧ w' = w := by
  have h := and_lo e e0 e1 1 (by decide)
  have hp := c_perm e e0 e1
  have h' : bits .and .u64 e 1 = ((lo e &&& 1 : Nat) : Int) := h
  have hl : lo e &&& 14 ≤ 14 := Nat.and_le_right
  have hq := c_isPerm ((lo e &&& 14 : Nat) : Int) (by omega) (by omega)
  unfold isL
  generalize lo e &&& 14 = a at hp hq hl ⊢
  generalize lo e &&& 1 = b at h' ⊢
  clear h
  by_cases hb : b = 0
  · subst hb
    go_enter Try.func70, Try.ntmps70
    go_wp2
    go_ret
    exact ⟨rfl, rfl⟩
  · go_enter Try.func70, Try.ntmps70
    go_wp2_with (first
      | (go_at_call 90; refine (hp _).mono ?_; rintro r w' ⟨rfl, hw⟩; obtain rfl := hw.symm)
      | (go_at_call 53; refine (hq _).mono ?_; rintro r w' ⟨rfl, hw⟩; obtain rfl := hw.symm))
    go_ret
    exact ⟨ret_bool (by simp [hb]), rfl⟩
theorem lo_tE (b : Int) (t : Nat) (b0 : 0 ≤ b) : lo (tE b t) = if t = 0 then 0 else 1 := by
  unfold tE lo; split <;> omega
theorem lo_lE (b : Int) (t pm : Nat) (b0 : 0 ≤ b) (hp : pm = 0 ∨ okP pm) : lo (lE b t pm) = if pm = 0 then 0 else 209 + pm := by
  unfold okP at hp
  unfold lE lo; split <;> omega
theorem isT_t (b : Int) (t : Nat) (b0 : 0 ≤ b) : isT (tE b t) = decide (t ≠ 0) := by
  unfold isT; rw [lo_tE b t b0]
  by_cases h : t = 0
  · subst h; rfl
  · rw [if_neg h]; simp [h]
theorem isL_l (b : Int) (t pm : Nat) (b0 : 0 ≤ b) (hp : pm = 0 ∨ okP pm) : isL (lE b t pm) = decide (pm ≠ 0) := by
  unfold isL; rw [lo_lE b t pm b0 hp]
  rcases hp with h | h | h | h | h | h <;> subst h <;> rfl
theorem pm_l (b : Int) (t pm : Nat) (b0 : 0 ≤ b) (hp : okP pm) : lo (lE b t pm) &&& 14 = pm := by
  rw [lo_lE b t pm b0 (.inr hp)]
  rcases hp with h | h | h | h | h <;> subst h <;> rfl
theorem num_t (b : Int) (t : Nat) (h : t ≠ 0) : tE b t / 1024 = b / 4096 + t := by unfold tE; rw [if_neg h]; omega
theorem num_l (b : Int) (t pm : Nat) (hp : okP pm) : lE b t pm / 1024 = b / 4096 + t := by unfold okP at hp; unfold lE; rw [if_neg (by omega)]; omega
end Go.Proofs.Ytekkjalfiogenaa
