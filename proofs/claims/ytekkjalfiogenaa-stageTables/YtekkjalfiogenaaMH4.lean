/- Pages: the walk whole. -/
import Derived.Test.YtekkjalfiogenaaMH3
namespace Go.Proofs.Ytekkjalfiogenaa
open Go.RowKit Go.Shelf
open C (Only hid)
set_option linter.unusedVariables false
set_option maxRecDepth 100000
attribute [local go_sem] Oper.semAt_some

/-- what is told of the leaves of a table -/
def pc0 (fr pm : Int → Nat) (i j : Nat) (zs : List (Nat × Int)) : List Value := zs.flatMap fun z => pgc (((i : Int) * 512 + j) * 512 + z.1) (fr z.2) (pm z.2)
def pc1 (EE : Int → Nat → Int) (fr pm : Int → Nat) (i : Nat) (ys : List (Nat × Int)) : List Value := ys.flatMap fun y => pc0 fr pm i y.1 (lst (EE (y.2 / 1024)) isL 512)
def pc2 (EE : Int → Nat → Int) (fr pm : Int → Nat) (xs : List (Nat × Int)) : List Value := xs.flatMap fun x => pc1 EE fr pm x.1 (lst (EE (x.2 / 1024)) isT 512)
theorem pc0_len (fr pm : Int → Nat) (i j : Nat) (zs : List (Nat × Int)) : (pc0 fr pm i j zs).length = 3 * zs.length := by
  induction zs with
  | nil => rfl
  | cons z zs ih => simp only [pc0, List.flatMap_cons, List.length_append, List.length_cons] at ih ⊢; rw [ih]; simp [pgc]; omega
theorem pc1_len (EE : Int → Nat → Int) (fr pm : Int → Nat) (i : Nat) (ys : List (Nat × Int)) : (pc1 EE fr pm i ys).length % 3 = 0 ∧ (pc1 EE fr pm i ys).length ≤ 1536 * ys.length := by
  induction ys with
  | nil => exact ⟨rfl, Nat.le_refl _⟩
  | cons y ys ih =>
    simp only [pc1, List.flatMap_cons, List.length_append, List.length_cons] at ih ⊢
    rw [pc0_len]
    have := lst_len (EE (y.2 / 1024)) isL 512
    omega
theorem pc2_len (EE : Int → Nat → Int) (fr pm : Int → Nat) (xs : List (Nat × Int)) : (pc2 EE fr pm xs).length % 3 = 0 ∧ (pc2 EE fr pm xs).length ≤ 786432 * xs.length := by
  induction xs with
  | nil => exact ⟨rfl, Nat.le_refl _⟩
  | cons x xs ih =>
    simp only [pc2, List.flatMap_cons, List.length_append, List.length_cons] at ih ⊢
    have h1 := pc1_len EE fr pm x.1 (lst (EE (x.2 / 1024)) isT 512)
    have := lst_len (EE (x.2 / 1024)) isT 512
    omega
/-- the list of pages as it grows, in its box -/
def Hp (n₀ Ba : Nat) (L : List Value) (W : World) : Prop := ∃ v, Boxed W Ba 64 v ∧ W.ownsRow n₀ 41 3 v (L.length / 3) L ∧ True
theorem Hp.own {β : Type} (n₀ Ba : Nat) (f : β → List Value) : Own (fun s W => Hp n₀ Ba (f s) W) := holdsRow_own n₀ Ba 64 41 3 (fun s => (f s).length / 3) f (fun _ _ => True)
theorem kb_own {β : Type} (n₀ Ba n : Nat) (W0 : World) (hn : n₀ ≤ W0.heap.size) (h : n₀ ≤ n) : OwnFrom n (fun (_ : β) W => Kb n₀ Ba W0 W) := by
  intro s A B row hs hg hr
  refine ⟨(ownFrom_below (β := β) hn h) s A B row hs.1 hg hr, fun b t u x y z => ?_⟩
  exact boxed_own b t (fun (_ : Unit) => u) () A B row (hs.2 b t u x y z) hg (fun r e => (hr r e).2)
end Go.Proofs.Ytekkjalfiogenaa
namespace Go.Proofs.Ytekkjalfiogenaa
open Go.RowKit Go.Shelf
open C (Only hid)
set_option linter.unusedVariables false
set_option maxRecDepth 100000
attribute [local go_sem] Oper.semAt_some

set_option maxHeartbeats 4000000 in
theorem e_Pages (F : Fence) (n : Nat) (hfn : ∀ f, F.fn f) (hro : F.round = none) (hn : 12 ≤ n) (q : Nat) (r : Int) (EE : Int → Nat → Int) (fr pm : Int → Nat) (OK : Int → Prop) (w : World) (cq : w.cell? ⟨q, 1, none⟩ = some (.int .u64 r))
    (k0 : OK r) (k1 : ∀ t i, OK t → i < 512 → isT (EE t i) = true → OK (EE t i / 1024)) (e0 : ∀ t i, 0 ≤ EE t i) (e1 : ∀ t i, EE t i < 18446744073709551616)
    (hA : ∀ m t i W', OK t → i < 512 → CallsIn F m Try.prog 58 #[.int .u64 t, .int .u64 (i : Nat)] W' fun e w' => e = .returned (.int .u64 (t * 4096 + i * 8)) ∧ Below W'.heap.size W' w')
    (hL : ∀ m t i W', OK t → i < 512 → Below w.heap.size w W' → CallsIn F m Try.prog 89 #[.pointer (some ⟨q, 0, none⟩), .int .u64 (t * 4096 + (i : Nat) * 8)] W' fun e w' => e = .returned (.int .u64 (EE t i)) ∧ Below W'.heap.size W' w')
    (hT : ∀ m e W', 0 ≤ e → e < 18446744073709551616 → CallsIn F m Try.prog 69 #[.int .u64 e] W' fun r w' => r = .returned (.bool (isT e)) ∧ w' = W')
    (hF : ∀ m e W', 0 ≤ e → e < 18446744073709551616 → CallsIn F m Try.prog 70 #[.int .u64 e] W' fun r w' => r = .returned (.bool (isL e)) ∧ w' = W')
    (hNU : ∀ m e W', 0 ≤ e → e < 18446744073709551616 → CallsIn F m Try.prog 63 #[.int .u64 e] W' fun r w' => r = .returned (.int .u64 (e / 1024)) ∧ w' = W')
    (hPA : ∀ m (i j k : Nat) W', i < 512 → j < 512 → k < 512 → CallsIn F m Try.prog 71 #[.int .u64 (i : Int), .int .u64 (j : Int), .int .u64 (k : Int)] W' fun r w' => r = .returned (.int .u64 (((i : Int) * 512 + j) * 512 + k)) ∧ w' = W')
    (hTO : ∀ m t (k : Nat) p W', OK t → k < 512 → isL (EE t k) = true → Below w.heap.size w W' → CallsIn F m Try.prog 46 #[.pointer (some ⟨q, 0, none⟩), .int .u64 p, .int .u64 (EE t k)] W' fun r w' => r = .returned (pgv p (fr (EE t k)) (pm (EE t k))) ∧ Below W'.heap.size W' w') :
    CallsIn F n Try.prog 22 #[.pointer (some ⟨q, 0, none⟩)] w fun e W' => (∃ v, e = .returned v ∧ W'.ownsRow w.heap.size 41 3 v ((pc2 EE fr pm (lst (EE r) isT 512)).length / 3) (pc2 EE fr pm (lst (EE r) isT 512))) ∧ Below w.heap.size w W' := by
  have h1 : 1 ≤ n := by omega
  refine callsIn_of_wp_marks Try.func22 rfl (hfn _) ?_ hro
  simp only [Try.ntmps22, List.size_toArray, List.length_cons, List.length_nil, Nat.reduceAdd, Nat.reduceSub, Array.replicate_succ, Array.replicate_zero, List.push_toArray, List.append_toArray, List.nil_append, List.cons_append]
  gi_wp2
  have bS := (Boxed.new w 24 (.pointer (some ⟨q, 0, none⟩))).alloc (.cells #[.slice none 0 0] 64)
  have bA := Boxed.new (w.alloc (.cells #[.pointer (some ⟨q, 0, none⟩)] 24)) 64 (.slice none 0 0)
  rw [World.size_alloc] at bA
  have hB0 : Below w.heap.size w ((w.alloc (.cells #[.pointer (some ⟨q, 0, none⟩)] 24)).alloc (.cells #[.slice none 0 0] 64)) := ((Below.refl _ w).alloc (Nat.le_refl _) _).alloc (by simp) _
  obtain ⟨w0, hw0⟩ : ∃ w0, w0 = ((w.alloc (.cells #[.pointer (some ⟨q, 0, none⟩)] 24)).alloc (.cells #[.slice none 0 0] 64)).drew := ⟨_, rfl⟩
  have hs0 : w0.heap.size = w.heap.size + 2 := by rw [hw0]; simp
  have hB1 : Below w.heap.size w w0 := by rw [hw0]; exact hB0.drew
  have bS0 : Boxed w0 w.heap.size 24 (.pointer (some ⟨q, 0, none⟩)) := by rw [hw0]; exact bS
  have bA0 : Boxed w0 (w.heap.size + 1) 64 (.slice none 0 0) := by rw [hw0]; exact bA
  refine pg_r2 F n hfn h1 _ w.heap.size q r _ w0 hw0 bS.cell ((hB0.cell (p := ⟨q, 1, none⟩) (cell_lt cq)).trans cq) (e_entries F (n - 1) hfn hro q _ r _) ?_
  clear hw0 bS bA hB0
  have c1 := ((Boxed.new w0 139 (.pointer (some ⟨q, 0, none⟩))).alloc (.cells #[.int .u64 r] 22)).alloc (.cells #[.func (.func 69) #[] #[]] 147)
  have c2 := (Boxed.new (w0.alloc (.cells #[.pointer (some ⟨q, 0, none⟩)] 139)) 22 (.int .u64 r)).alloc (.cells #[.func (.func 69) #[] #[]] 147)
  have c3 := Boxed.new ((w0.alloc (.cells #[.pointer (some ⟨q, 0, none⟩)] 139)).alloc (.cells #[.int .u64 r] 22)) 147 (.func (.func 69) #[] #[])
  simp only [World.size_alloc] at c2 c3
  have hb : Below w0.heap.size w0 (((w0.alloc (.cells #[.pointer (some ⟨q, 0, none⟩)] 139)).alloc (.cells #[.int .u64 r] 22)).alloc (.cells #[.func (.func 69) #[] #[]] 147)) := (((Below.refl _ _).alloc (Nat.le_refl _) _).alloc (by simp) _).alloc (by simp; omega) _
  have hsz : (((w0.alloc (.cells #[.pointer (some ⟨q, 0, none⟩)] 139)).alloc (.cells #[.int .u64 r] 22)).alloc (.cells #[.func (.func 69) #[] #[]] 147)).heap.size = w.heap.size + 5 := by simp; omega
  obtain ⟨W0, hW0⟩ : ∃ W0, (((w0.alloc (.cells #[.pointer (some ⟨q, 0, none⟩)] 139)).alloc (.cells #[.int .u64 r] 22)).alloc (.cells #[.func (.func 69) #[] #[]] 147)) = W0 := ⟨_, rfl⟩
  rw [hW0] at c1 c2 c3 hb hsz ⊢
  clear hW0
  have hBW : Below w.heap.size w W0 := hB1.trans (hb.mono (by omega))
  have bS1 : Boxed W0 w.heap.size 24 (.pointer (some ⟨q, 0, none⟩)) := (hb.block _ bS0.lt).trans bS0
  have bA1 : Boxed W0 (w.heap.size + 1) 64 (.slice none 0 0) := (hb.block _ bA0.lt).trans bA0
  have Hs0 := hid hs0
  have Hsz := hid hsz
  clear hs0 hsz
  gi_wp2
  refine wpIn_rangeFunc_ownH hro h1 (gf := 99) (lb := #[.pointer (some ⟨w0.heap.size, 0, none⟩), .pointer (some ⟨w0.heap.size + 1, 0, none⟩), .pointer (some ⟨w0.heap.size + 1 + 1, 0, none⟩)]) rfl (hfn _) (enters_of Try.func99 (by kernel_rfl) rfl)
    (e_stops F (n - 1) hfn hro (by have := Hs0.out; have := Hsz.out; omega) w0.heap.size (w0.heap.size + 1) (w0.heap.size + 1 + 1) w.heap.size q 69 r (EE r) isT W0 (by have := Hs0.out; have := Hsz.out; omega) (w.heap.size + 1) (by have := Hs0.out; have := Hsz.out; omega) (by have := Hs0.out; have := Hsz.out; omega) (by have := Hs0.out; have := Hsz.out; omega) c1 c2 c3 (e0 r) (e1 r) (fun i W' hi => hA _ r i W' k0 hi) (fun i W' hi h => hL _ r i W' k0 hi (hBW.trans h)) (Try.call69) (fun i W' => hT _ _ W' (e0 r i) (e1 r i)))
    (fun h k => Kb.trans h k) (Kb.put (by have := Hs0.out; have := Hsz.out; omega)) (Below.refl _ _) (fun _ => rfl)
    (fun pre W => Hp w.heap.size (w.heap.size + 1) (pc2 EE fr pm (pre.map Subtype.val)) W ∧ Kb w.heap.size (w.heap.size + 1) W0 W)
    (fun _ _ _ => False)
    (OwnFrom.and (Own.from (Hp.own _ _ _) _) (kb_own _ _ _ _ (by have := Hs0.out; have := Hsz.out; omega) (by have := Hs0.out; have := Hsz.out; omega)))
    (fun _ _ _ _ _ hs _ _ => hs)
    ⟨⟨_, bA1, by simp only [pc2, List.map_nil, List.flatMap_nil, List.length_nil, Nat.zero_div]; exact World.ownsRow_nil _ _ _ _, trivial⟩, Kb.refl _ _ _⟩
    (fun x a' W => ∃ Bx, w.heap.size + 1 < Bx ∧ Boxed W Bx 22 (.int .u64 (x.1.1 : Int)) ∧ a' = { tmps := #[.pointer (some ⟨q, 0, none⟩), .pointer (some ⟨w.heap.size, 0, none⟩), .slice none 0 0, .pointer (some ⟨w.heap.size + 1, 0, none⟩), .pointer (some ⟨Bx, 0, none⟩), .int .u64 x.1.2, undef, undef, undef, undef, .pointer (some ⟨q, 0, none⟩), .pointer (some ⟨q, 0, none⟩), .pointer (some ⟨q, 0, none⟩), .pointer (some ⟨q, 0, none⟩), .pointer (some ⟨q, 0, none⟩), .pointer (some ⟨q, 0, none⟩), .pointer (some ⟨q, 1, none⟩), .int .u64 r, .func (.func 99) #[] #[.pointer (some ⟨w0.heap.size, 0, none⟩), .pointer (some ⟨w0.heap.size + 1, 0, none⟩), .pointer (some ⟨w0.heap.size + 1 + 1, 0, none⟩)], .int .u64 (x.1.1 : Int), .int .u64 x.1.2, undef, undef, undef, undef, undef, undef, undef, undef, undef, undef, undef, undef, undef, undef, undef, undef, undef, undef, undef, undef, undef, undef, undef, undef, undef, undef, undef], defers := [] })
    (fun x a' _ X Y row hs hg hr => by obtain ⟨Bx, h1, h2, h3⟩ := hs; exact ⟨Bx, h1, boxed_own Bx 22 (fun (_ : Unit) => Value.int .u64 (x.1.1 : Int)) () X Y row h2 hg (fun r e => (hr r e).2), h3⟩)
    ?assign ?body ?done ?stop
  case assign =>
    rintro l pre x W K ⟨⟨v, z1, z2, -⟩, hK1⟩ hK
    gi_wp2
    have hz := hK1.1.size
    have hba : Below W.heap.size W (W.alloc (.cells #[.int .u64 (x.1.1 : Int)] 22)) := (Below.refl _ W).alloc (Nat.le_refl _) _
    have hkb : Kb w.heap.size (w.heap.size + 1) W (W.alloc (.cells #[.int .u64 (x.1.1 : Int)] 22)) := Kb.below (Nat.le_trans (by have := Hs0.out; have := Hsz.out; omega) hz) hba
    exact hK _ _ ((KeepsOthers.alloc _ _).from _) hkb ⟨⟨v, z1.alloc _, z2.alloc _, trivial⟩, hK1.trans hkb⟩ ⟨W.heap.size, z1.lt, Boxed.new W 22 _, rfl⟩
  case body =>
    rintro l pre x a' W hl ⟨r0, hr⟩ ⟨hHp, hK1⟩ ⟨Bx, hBx, bX, rfl⟩ hlt
    obtain ⟨xl, xe, xt⟩ := x.2
    have okx : OK (x.1.2 / 1024) := by rw [xe]; exact k1 r _ k0 xl (xe ▸ xt)
    have x0 : 0 ≤ x.1.2 := by rw [xe]; exact e0 _ _
    have x1 : x.1.2 < 18446744073709551616 := by rw [xe]; exact e1 _ _
    have XE := hid xe
    have XT := hid xt
    clear xe xt
    have bSW := hK1.2 _ _ _ bS1 (by omega) (by decide)
    have h1' : 1 ≤ n - 1 - 1 := by omega
    have hBWW := hBW.trans hK1.1
    gi_wp2
    obtain ⟨w1, hw1⟩ : ∃ w1, w1 = W.drew := ⟨_, rfl⟩
    have hd : Below W.heap.size W w1 := by rw [hw1]; exact (Below.refl _ _).drew
    have hs1 : w1.heap.size = W.heap.size := by rw [hw1]; rfl
    have hkd : KeepsOthers W w1 := by rw [hw1]; exact KeepsOthers.drew _
    refine pg_r5 (F.inRound l) (n - 1 - 1) hfn h1' _ w.heap.size q x.1.2 W w1 hw1 bSW.cell (fun w' => CallsIn.inRound l (hNU _ _ w' x0 x1)) (CallsIn.inRound l (e_entries F (n - 1 - 1 - 1) hfn hro q _ (x.1.2 / 1024) _)) ?_
    clear hw1
    have d1 := ((Boxed.new w1 139 (.pointer (some ⟨q, 0, none⟩))).alloc (.cells #[.int .u64 (x.1.2 / 1024)] 22)).alloc (.cells #[.func (.func 69) #[] #[]] 147)
    have d2 := (Boxed.new (w1.alloc (.cells #[.pointer (some ⟨q, 0, none⟩)] 139)) 22 (.int .u64 (x.1.2 / 1024))).alloc (.cells #[.func (.func 69) #[] #[]] 147)
    have d3 := Boxed.new ((w1.alloc (.cells #[.pointer (some ⟨q, 0, none⟩)] 139)).alloc (.cells #[.int .u64 (x.1.2 / 1024)] 22)) 147 (.func (.func 69) #[] #[])
    simp only [World.size_alloc] at d2 d3
    have hbb : Below w1.heap.size w1 (((w1.alloc (.cells #[.pointer (some ⟨q, 0, none⟩)] 139)).alloc (.cells #[.int .u64 (x.1.2 / 1024)] 22)).alloc (.cells #[.func (.func 69) #[] #[]] 147)) := (((Below.refl _ _).alloc (Nat.le_refl _) _).alloc (by simp) _).alloc (by simp; omega) _
    have hkk : KeepsOthers w1 (((w1.alloc (.cells #[.pointer (some ⟨q, 0, none⟩)] 139)).alloc (.cells #[.int .u64 (x.1.2 / 1024)] 22)).alloc (.cells #[.func (.func 69) #[] #[]] 147)) := ((KeepsOthers.alloc _ _).trans (KeepsOthers.alloc _ _)).trans (KeepsOthers.alloc _ _)
    have hsz1 : (((w1.alloc (.cells #[.pointer (some ⟨q, 0, none⟩)] 139)).alloc (.cells #[.int .u64 (x.1.2 / 1024)] 22)).alloc (.cells #[.func (.func 69) #[] #[]] 147)).heap.size = W.heap.size + 3 := by simp; omega
    obtain ⟨W1, hW1⟩ : ∃ W1, (((w1.alloc (.cells #[.pointer (some ⟨q, 0, none⟩)] 139)).alloc (.cells #[.int .u64 (x.1.2 / 1024)] 22)).alloc (.cells #[.func (.func 69) #[] #[]] 147)) = W1 := ⟨_, rfl⟩
    rw [hW1] at d1 d2 d3 hbb hsz1 hkk ⊢
    clear hW1
    have hWW1 : Below W.heap.size W W1 := hd.trans (hbb.mono (by omega))
    have hKO1 : KeepsOthers W W1 := hkd.trans hkk
    have hWle := hK1.1.size
    have Hs1 := hid hs1
    have Hsz1 := hid hsz1
    have hKb1 : Kb w.heap.size (w.heap.size + 1) W W1 := Kb.below (by have := Hsz.out; omega) hWW1
    have hr' : W1.heap[l]? = some (.loop r0) := (hWW1.block l (Array.getElem?_eq_some_iff.1 hr).1).trans hr
    have bA2 := hHp
    have hl' : w.heap.size + 1 < W.heap.size := by have := Hsz.out; omega
    clear hs1 hsz1
    gi_wp2
    refine wpIn_rangeFunc_ownN (l₀ := l) (r₀ := r0) rfl hr' h1' (gf := 99) (lb := #[.pointer (some ⟨w1.heap.size, 0, none⟩), .pointer (some ⟨w1.heap.size + 1, 0, none⟩), .pointer (some ⟨w1.heap.size + 1 + 1, 0, none⟩)]) rfl (hfn _) (enters_of Try.func99 (by kernel_rfl) rfl)
      ((e_stops F (n - 1 - 1 - 1) hfn hro (by omega) w1.heap.size (w1.heap.size + 1) (w1.heap.size + 1 + 1) w.heap.size q 69 (x.1.2 / 1024) (EE (x.1.2 / 1024)) isT W1 (by have := Hs0.out; have := Hsz.out; have := Hs1.out; have := Hsz1.out; omega) (w.heap.size + 1) (by have := Hs0.out; have := Hsz.out; have := Hs1.out; have := Hsz1.out; omega) (by have := Hs0.out; have := Hsz.out; have := Hs1.out; have := Hsz1.out; omega) (by have := Hs0.out; have := Hsz.out; have := Hs1.out; have := Hsz1.out; omega) d1 d2 d3 (e0 _) (e1 _) (fun i W' hi => hA _ _ i W' okx hi) (fun i W' hi h => hL _ _ i W' okx hi ((hBWW.trans hKb1.1).trans h)) (Try.call69) (fun i W' => hT _ _ W' (e0 _ i) (e1 _ i))).inRound l)
      (fun h k => Kb.trans h k) (Kb.put (by have := Hs0.out; have := Hsz.out; have := Hs1.out; have := Hsz1.out; omega)) (Below.refl _ _) (fun _ => rfl)
      (fun pre' W' => Hp w.heap.size (w.heap.size + 1) (pc2 EE fr pm (pre.map Subtype.val) ++ pc1 EE fr pm x.1.1 (pre'.map Subtype.val)) W' ∧ Kb w.heap.size (w.heap.size + 1) W1 W' ∧ KeepsFrom W0.heap.size W W')
      (fun _ _ _ => False)
      (OwnFrom.and (Own.from (Hp.own _ _ _) _) (OwnFrom.and (kb_own _ _ _ _ (by have := Hs0.out; have := Hsz.out; have := Hs1.out; have := Hsz1.out; omega) (by have := Hs0.out; have := Hsz.out; have := Hs1.out; have := Hsz1.out; omega)) (ownFrom_keepsFrom (by have := Hs0.out; have := Hsz.out; have := Hs1.out; have := Hsz1.out; omega))))
      (fun _ _ _ _ _ hs _ _ => hs)
      ⟨by obtain ⟨v, z1, z2, -⟩ := hHp; exact ⟨v, (hWW1.block _ z1.lt).trans z1, by simp only [pc1, List.map_nil, List.flatMap_nil, List.append_nil]; exact own_b z2 hWW1, trivial⟩, Kb.refl _ _ _, hKO1.from _⟩
      (fun y a' W' => ∃ By, w.heap.size + 1 < By ∧ Boxed W' By 22 (.int .u64 (y.1.1 : Int)) ∧ a' = { tmps := #[.pointer (some ⟨q, 0, none⟩), .pointer (some ⟨w.heap.size, 0, none⟩), .slice none 0 0, .pointer (some ⟨w.heap.size + 1, 0, none⟩), .pointer (some ⟨Bx, 0, none⟩), .int .u64 x.1.2, .pointer (some ⟨By, 0, none⟩), .int .u64 y.1.2, undef, undef, .pointer (some ⟨q, 0, none⟩), .pointer (some ⟨q, 0, none⟩), .pointer (some ⟨q, 0, none⟩), .pointer (some ⟨q, 0, none⟩), .pointer (some ⟨q, 0, none⟩), .pointer (some ⟨q, 0, none⟩), .pointer (some ⟨q, 1, none⟩), .int .u64 r, .func (.func 99) #[] #[.pointer (some ⟨w0.heap.size, 0, none⟩), .pointer (some ⟨w0.heap.size + 1, 0, none⟩), .pointer (some ⟨w0.heap.size + 1 + 1, 0, none⟩)], .int .u64 (x.1.1 : Int), .int .u64 x.1.2, .pointer (some ⟨q, 0, none⟩), .pointer (some ⟨q, 0, none⟩), .pointer (some ⟨q, 0, none⟩), .int .u64 x.1.2, .int .u64 (x.1.2 / 1024), .func (.func 99) #[] #[.pointer (some ⟨w1.heap.size, 0, none⟩), .pointer (some ⟨w1.heap.size + 1, 0, none⟩), .pointer (some ⟨w1.heap.size + 1 + 1, 0, none⟩)], .int .u64 (y.1.1 : Int), .int .u64 y.1.2, undef, undef, undef, undef, undef, undef, undef, undef, undef, undef, undef, undef, undef, undef, undef, undef, undef, undef, undef], defers := [] })
      (fun y a' _ X Y row hs hg hr => by obtain ⟨Bx, h1, h2, h3⟩ := hs; exact ⟨Bx, h1, boxed_own Bx 22 (fun (_ : Unit) => Value.int .u64 (y.1.1 : Int)) () X Y row h2 hg (fun r e => (hr r e).2), h3⟩)
      ?assign2 ?body2 ?done2 ?stop2
    case assign2 =>
      rintro l2 pre' y W' K ⟨⟨v, z1, z2, -⟩, hK2, hKF⟩ hK
      gi_wp2
      have hz := hK2.1.size
      have hba : Below W'.heap.size W' (W'.alloc (.cells #[.int .u64 (y.1.1 : Int)] 22)) := (Below.refl _ W').alloc (Nat.le_refl _) _
      have hkb : Kb w.heap.size (w.heap.size + 1) W' (W'.alloc (.cells #[.int .u64 (y.1.1 : Int)] 22)) := Kb.below (Nat.le_trans (by have := Hs0.out; have := Hsz.out; have := Hs1.out; have := Hsz1.out; omega) hz) hba
      exact hK _ _ ((KeepsOthers.alloc _ _).from _) hkb ⟨⟨v, z1.alloc _, z2.alloc _, trivial⟩, hK2.trans hkb, hKF.trans ((KeepsOthers.alloc _ _).from _)⟩ ⟨W'.heap.size, z1.lt, Boxed.new W' 22 _, rfl⟩
    case body2 =>
      rintro l2 pre' y a' W' hl2 ⟨r2, hr2⟩ ⟨hHp2, hK2, hKF⟩ ⟨By, hBy, bY, rfl⟩ hlt2
      obtain ⟨yl, ye, yt⟩ := y.2
      have oky : OK (y.1.2 / 1024) := by rw [ye]; exact k1 _ _ okx yl (ye ▸ yt)
      have y0 : 0 ≤ y.1.2 := by rw [ye]; exact e0 _ _
      have y1 : y.1.2 < 18446744073709551616 := by rw [ye]; exact e1 _ _
      have YE := hid ye
      have YT := hid yt
      clear ye yt
      have bSW2 := hK2.2 _ _ _ (hKb1.2 _ _ _ bSW (by omega) (by decide)) (by omega) (by decide)
      have bX2 := hK2.2 _ _ _ (hKb1.2 _ _ _ bX (by omega) (by decide)) (by omega) (by decide)
      have h2' : 1 ≤ n - 1 - 1 - 1 - 1 := by omega
      have hBW2 := (hBWW.trans hKb1.1).trans hK2.1
      gi_wp2
      obtain ⟨w2, hw2⟩ : ∃ w2, w2 = W'.drew := ⟨_, rfl⟩
      have hd2 : Below W'.heap.size W' w2 := by rw [hw2]; exact (Below.refl _ _).drew
      have hs2 : w2.heap.size = W'.heap.size := by rw [hw2]; rfl
      have hkd2 : KeepsOthers W' w2 := by rw [hw2]; exact KeepsOthers.drew _
      refine pg_r8 ((F.inRound l).inRound l2) (n - 1 - 1 - 1 - 1) hfn h2' _ w.heap.size q y.1.2 W' w2 hw2 bSW2.cell (fun w' => CallsIn.inRound l2 (hNU _ _ w' y0 y1)) (CallsIn.inRound l2 (e_entries F (n - 1 - 1 - 1 - 1 - 1) hfn hro q _ (y.1.2 / 1024) _)) ?_
      clear hw2
      have g1 := ((Boxed.new w2 139 (.pointer (some ⟨q, 0, none⟩))).alloc (.cells #[.int .u64 (y.1.2 / 1024)] 22)).alloc (.cells #[.func (.func 70) #[] #[]] 147)
      have g2 := (Boxed.new (w2.alloc (.cells #[.pointer (some ⟨q, 0, none⟩)] 139)) 22 (.int .u64 (y.1.2 / 1024))).alloc (.cells #[.func (.func 70) #[] #[]] 147)
      have g3 := Boxed.new ((w2.alloc (.cells #[.pointer (some ⟨q, 0, none⟩)] 139)).alloc (.cells #[.int .u64 (y.1.2 / 1024)] 22)) 147 (.func (.func 70) #[] #[])
      simp only [World.size_alloc] at g2 g3
      have hbb2 : Below w2.heap.size w2 (((w2.alloc (.cells #[.pointer (some ⟨q, 0, none⟩)] 139)).alloc (.cells #[.int .u64 (y.1.2 / 1024)] 22)).alloc (.cells #[.func (.func 70) #[] #[]] 147)) := (((Below.refl _ _).alloc (Nat.le_refl _) _).alloc (by simp) _).alloc (by simp; omega) _
      have hkk2 : KeepsOthers w2 (((w2.alloc (.cells #[.pointer (some ⟨q, 0, none⟩)] 139)).alloc (.cells #[.int .u64 (y.1.2 / 1024)] 22)).alloc (.cells #[.func (.func 70) #[] #[]] 147)) := ((KeepsOthers.alloc _ _).trans (KeepsOthers.alloc _ _)).trans (KeepsOthers.alloc _ _)
      have hsz2 : (((w2.alloc (.cells #[.pointer (some ⟨q, 0, none⟩)] 139)).alloc (.cells #[.int .u64 (y.1.2 / 1024)] 22)).alloc (.cells #[.func (.func 70) #[] #[]] 147)).heap.size = W'.heap.size + 3 := by simp; omega
      obtain ⟨W2, hW2⟩ : ∃ W2, (((w2.alloc (.cells #[.pointer (some ⟨q, 0, none⟩)] 139)).alloc (.cells #[.int .u64 (y.1.2 / 1024)] 22)).alloc (.cells #[.func (.func 70) #[] #[]] 147)) = W2 := ⟨_, rfl⟩
      rw [hW2] at g1 g2 g3 hbb2 hsz2 hkk2 ⊢
      clear hW2
      have hWW2 : Below W'.heap.size W' W2 := hd2.trans (hbb2.mono (by omega))
      have hKO2 : KeepsOthers W' W2 := hkd2.trans hkk2
      have hWle2 := hK2.1.size
      have Hs2 := hid hs2
      have Hsz2 := hid hsz2
      have hl3 : w.heap.size + 1 < W'.heap.size := by have := Hsz1.out; omega
      have hKb2 : Kb w.heap.size (w.heap.size + 1) W' W2 := Kb.below (by omega) hWW2
      have hr3 : W2.heap[l2]? = some (.loop r2) := (hWW2.block l2 (Array.getElem?_eq_some_iff.1 hr2).1).trans hr2
      clear hs2 hsz2
      gi_wp2
      refine wpIn_rangeFunc_ownN (l₀ := l2) (r₀ := r2) rfl hr3 h2' (gf := 99) (lb := #[.pointer (some ⟨w2.heap.size, 0, none⟩), .pointer (some ⟨w2.heap.size + 1, 0, none⟩), .pointer (some ⟨w2.heap.size + 1 + 1, 0, none⟩)]) rfl (hfn _) (enters_of Try.func99 (by kernel_rfl) rfl)
        ((e_stops F (n - 1 - 1 - 1 - 1 - 1) hfn hro (by omega) w2.heap.size (w2.heap.size + 1) (w2.heap.size + 1 + 1) w.heap.size q 70 (y.1.2 / 1024) (EE (y.1.2 / 1024)) isL W2 (by have := Hs0.out; have := Hsz.out; have := Hs1.out; have := Hsz1.out; have := Hs2.out; have := Hsz2.out; omega) (w.heap.size + 1) (by have := Hs0.out; have := Hsz.out; have := Hs1.out; have := Hsz1.out; have := Hs2.out; have := Hsz2.out; omega) (by have := Hs0.out; have := Hsz.out; have := Hs1.out; have := Hsz1.out; have := Hs2.out; have := Hsz2.out; omega) (by have := Hs0.out; have := Hsz.out; have := Hs1.out; have := Hsz1.out; have := Hs2.out; have := Hsz2.out; omega) g1 g2 g3 (e0 _) (e1 _) (fun i W' hi => hA _ _ i W' oky hi) (fun i W' hi h => hL _ _ i W' oky hi ((hBW2.trans hKb2.1).trans h)) (Try.call70) (fun i W' => hF _ _ W' (e0 _ i) (e1 _ i))).inRound l2)
        (fun h k => Kb.trans h k) (Kb.put (by have := Hs0.out; have := Hsz.out; have := Hs1.out; have := Hsz1.out; have := Hs2.out; have := Hsz2.out; omega)) (Below.refl _ _) (fun _ => rfl)
        (fun pre2 V => Hp w.heap.size (w.heap.size + 1) ((pc2 EE fr pm (pre.map Subtype.val) ++ pc1 EE fr pm x.1.1 (pre'.map Subtype.val)) ++ pc0 fr pm x.1.1 y.1.1 (pre2.map Subtype.val)) V ∧ Kb w.heap.size (w.heap.size + 1) W2 V ∧ (KeepsFrom W0.heap.size W' V ∧ KeepsFrom W1.heap.size W' V))
        (fun _ _ _ => False)
        (OwnFrom.and (Own.from (Hp.own _ _ _) _) (OwnFrom.and (kb_own _ _ _ _ (by have := Hs0.out; have := Hsz.out; have := Hs1.out; have := Hsz1.out; have := Hs2.out; have := Hsz2.out; omega) (by have := Hs0.out; have := Hsz.out; have := Hs1.out; have := Hsz1.out; have := Hs2.out; have := Hsz2.out; omega)) (OwnFrom.and (ownFrom_keepsFrom (by have := Hs0.out; have := Hsz.out; have := Hs1.out; have := Hsz1.out; have := Hs2.out; have := Hsz2.out; omega)) (ownFrom_keepsFrom (by have := Hs0.out; have := Hsz.out; have := Hs1.out; have := Hsz1.out; have := Hs2.out; have := Hsz2.out; omega)))))
        (fun _ _ _ _ _ hs _ _ => hs)
        ⟨by obtain ⟨v, z1, z2, -⟩ := hHp2; exact ⟨v, (hWW2.block _ z1.lt).trans z1, by simp only [pc0, List.map_nil, List.flatMap_nil, List.append_nil]; exact own_b z2 hWW2, trivial⟩, Kb.refl _ _ _, hKO2.from _, hKO2.from _⟩
        (fun z a' V => a' = { tmps := #[.pointer (some ⟨q, 0, none⟩), .pointer (some ⟨w.heap.size, 0, none⟩), .slice none 0 0, .pointer (some ⟨w.heap.size + 1, 0, none⟩), .pointer (some ⟨Bx, 0, none⟩), .int .u64 x.1.2, .pointer (some ⟨By, 0, none⟩), .int .u64 y.1.2, .int .u64 (z.1.1 : Int), .int .u64 z.1.2, .pointer (some ⟨q, 0, none⟩), .pointer (some ⟨q, 0, none⟩), .pointer (some ⟨q, 0, none⟩), .pointer (some ⟨q, 0, none⟩), .pointer (some ⟨q, 0, none⟩), .pointer (some ⟨q, 0, none⟩), .pointer (some ⟨q, 1, none⟩), .int .u64 r, .func (.func 99) #[] #[.pointer (some ⟨w0.heap.size, 0, none⟩), .pointer (some ⟨w0.heap.size + 1, 0, none⟩), .pointer (some ⟨w0.heap.size + 1 + 1, 0, none⟩)], .int .u64 (x.1.1 : Int), .int .u64 x.1.2, .pointer (some ⟨q, 0, none⟩), .pointer (some ⟨q, 0, none⟩), .pointer (some ⟨q, 0, none⟩), .int .u64 x.1.2, .int .u64 (x.1.2 / 1024), .func (.func 99) #[] #[.pointer (some ⟨w1.heap.size, 0, none⟩), .pointer (some ⟨w1.heap.size + 1, 0, none⟩), .pointer (some ⟨w1.heap.size + 1 + 1, 0, none⟩)], .int .u64 (y.1.1 : Int), .int .u64 y.1.2, .pointer (some ⟨q, 0, none⟩), .pointer (some ⟨q, 0, none⟩), .pointer (some ⟨q, 0, none⟩), .int .u64 y.1.2, .int .u64 (y.1.2 / 1024), .func (.func 99) #[] #[.pointer (some ⟨w2.heap.size, 0, none⟩), .pointer (some ⟨w2.heap.size + 1, 0, none⟩), .pointer (some ⟨w2.heap.size + 1 + 1, 0, none⟩)], .int .u64 (z.1.1 : Int), .int .u64 z.1.2, undef, undef, undef, undef, undef, undef, undef, undef, undef, undef, undef], defers := [] })
        (fun _ _ _ _ _ _ hs _ _ => hs)
        ?assign3 ?body3 ?done3 ?stop3
      case assign3 =>
        rintro l3 pre2 z V K hi hK
        gi_wp2
        exact hK _ _ (KeepsFrom.refl _ _) (Kb.refl _ _ _) hi rfl
      case body3 =>
        rintro l3 pre2 z a' V _ _ ⟨⟨v, z1, z2, -⟩, hK3, hKF1, hKF2⟩ rfl hlt3
        obtain ⟨zl, ze, zt⟩ := z.2
        have hto : ∀ w', Below w.heap.size V w' → CallsIn F (n - 1 - 1 - 1 - 1 - 1 - 1 - 1) Try.prog 46 #[.pointer (some ⟨q, 0, none⟩), .int .u64 (((x.1.1 : Int) * 512 + y.1.1) * 512 + z.1.1), .int .u64 z.1.2] w' fun r w2 => r = .returned (pgv (((x.1.1 : Int) * 512 + y.1.1) * 512 + z.1.1) (fr z.1.2) (pm z.1.2)) ∧ Below w'.heap.size w' w2 := by
          intro w' h
          have := hTO (n - 1 - 1 - 1 - 1 - 1 - 1 - 1) (y.1.2 / 1024) z.1.1 (((x.1.1 : Int) * 512 + y.1.1) * 512 + z.1.1) w' oky zl (ze ▸ zt) (((hBW2.trans hKb2.1).trans hK3.1).trans h)
          rw [← ze] at this
          exact this
        clear ze zt
        have b1 := hK3.2 _ _ _ (hKb2.2 _ _ _ bSW2 (by omega) (by decide)) (by omega) (by decide)
        have b2 := hK3.2 _ _ _ (hKb2.2 _ _ _ bX2 (by omega) (by decide)) (by omega) (by decide)
        have b3 := hK3.2 _ _ _ (hKb2.2 _ _ _ bY (by omega) (by decide)) (by omega) (by decide)
        have hVle := hK3.1.size
        have q2 := pc2_len EE fr pm (pre.map Subtype.val)
        have q1 := pc1_len EE fr pm x.1.1 (pre'.map Subtype.val)
        have q0 := pc0_len fr pm x.1.1 y.1.1 (pre2.map Subtype.val)
        rw [List.length_map] at q2 q1 q0
        gi_wp2
        refine pg_round (((F.inRound l).inRound l2).inRound l3) (n - 1 - 1 - 1 - 1 - 1 - 1) hfn (by omega) _ w.heap.size w.heap.size (w.heap.size + 1) Bx By q x.1.1 y.1.1 z.1.1 (fr z.1.2) (pm z.1.2) z.1.2 v _ _ V b1 z1 b2 b3 (by omega) (by have := Hs0.out; have := Hsz.out; have := Hs1.out; have := Hsz1.out; have := Hs2.out; have := Hsz2.out; omega) z2 (by simp only [List.length_append, maxLen]; omega) (by simp only [List.length_append]; omega) (by omega) (by omega) (by omega) (fun w' => CallsIn.inRound l3 (hPA _ _ _ _ w' xl yl zl)) (fun w' h => CallsIn.inRound l3 (hto w' h)) ?_
        intro v' V' a' u1 u2 u3 u4
        refine ⟨u3.from _, u4, ⟨v', u1, ?_, trivial⟩, hK3.trans u4, hKF1.trans (u3.from _), hKF2.trans (u3.from _)⟩
        rw [List.map_append, List.map_cons, List.map_nil, show pc0 fr pm x.1.1 y.1.1 (pre2.map Subtype.val ++ [z.1]) = pc0 fr pm x.1.1 y.1.1 (pre2.map Subtype.val) ++ pgc (((x.1.1 : Int) * 512 + y.1.1) * 512 + z.1.1) (fr z.1.2) (pm z.1.2) by simp [pc0], ← List.append_assoc]
        rw [show ((pc2 EE fr pm (pre.map Subtype.val) ++ pc1 EE fr pm x.1.1 (pre'.map Subtype.val) ++ pc0 fr pm x.1.1 y.1.1 (pre2.map Subtype.val)) ++ pgc (((x.1.1 : Int) * 512 + y.1.1) * 512 + z.1.1) (fr z.1.2) (pm z.1.2)).length / 3 = (pc2 EE fr pm (pre.map Subtype.val) ++ pc1 EE fr pm x.1.1 (pre'.map Subtype.val) ++ pc0 fr pm x.1.1 y.1.1 (pre2.map Subtype.val)).length / 3 + 1 by rw [List.length_append (bs := pgc _ _ _)]; simp only [pgc, List.length_cons, List.length_nil]; omega]
        exact u2
      case done3 =>
        rintro zs V hS ⟨hHp3, hK3, hKF1, hKF2⟩
        gi_wp2
        rw [hS] at hHp3
        exact ⟨hKF2, hKb2.trans hK3, by simpa [pc1, List.append_assoc] using hHp3, hK2.trans (hKb2.trans hK3), hKF.trans hKF1⟩
      case stop3 =>
        rintro c pre2 V _ h
        exact h.elim
    case done2 =>
      rintro zs W' hS ⟨hHp2, hK2, hKF⟩
      gi_wp2
      rw [hS] at hHp2
      exact ⟨hKF, hKb1.trans hK2, by simpa [pc2] using hHp2, hK1.trans (hKb1.trans hK2)⟩
    case stop2 =>
      rintro c pre' W' _ h
      exact h.elim
  case done =>
    rintro D zs W hD hS ⟨⟨v, z1, z2, -⟩, hK1⟩ hK
    have cS := z1.cell
    rw [hS] at z2
    gi_wp2
    refine ⟨by simp, .inl ⟨_, _, rfl, run_takeDeferred hK, ?_⟩⟩
    exact ⟨_, results_tmp rfl _ _ _, ⟨v, rfl, ownsRow_putObj z2 _ hK rfl⟩, (hBW.trans hK1.1).trans (belowK_b (w := w) (Nat.le_refl _) W D _ _ (by have := Hsz.out; omega) hK rfl rfl)⟩
  case stop =>
    rintro D c pre W _ _ h _
    exact h.elim
end Go.Proofs.Ytekkjalfiogenaa
namespace Go.Proofs.Ytekkjalfiogenaa
open Go.RowKit
open C (Only hid Mem Still ret_bool ret_int put byt rd8 lo)
set_option linter.unusedVariables false
set_option maxRecDepth 100000

/-- F: the pool's blocks, u: the list of tables -/
structure SPs (w : World) (F : Nat → Prop) (u : Value) (q p : Nat) (s : SV) (v : PV) (f : Nat → Int) (vm : Int) : Prop where
  pl : Pool w F p v f
  sq : Sq w q s v p vm u
  ls : w.ownsRow 0 3 1 u s.l.length (lsv s.l)
  iv : Inv s v f
/-- its blocks are A -/
def Ar (F : Nat → Prop) (u : Value) (q : Nat) (k : Nat) : Prop := F k ∨ k = q ∨ Ug u k
section
variable {w w' : World} {F : Nat → Prop} {u : Value} {q p : Nat} {s : SV} {v : PV} {f : Nat → Int} {vm : Int}
theorem SPs.only (h : SPs w F u q p s v f vm) {T : Nat → Prop} (ho : Only T w w') (hd : ∀ k, Ar F u q k → ¬ T k) : SPs w' F u q p s v f vm :=
  ⟨h.pl.only ho fun k hk => hd k (.inl hk), h.sq.only ho (hd q (.inr (.inl rfl))), own_only h.ls ho fun k hk => hd k (.inr (.inr hk)), h.iv⟩
theorem SPs.below (h : SPs w F u q p s v f vm) (hb : Below w.heap.size w w') : SPs w' F u q p s v f vm := h.only (T := fun _ => False) (.ofBelow hb) fun _ _ z => z
theorem SPs.nq (h : SPs w F u q p s v f vm) : ¬ F q := h.pl.ne h.sq rfl
theorem SPs.nu (h : SPs w F u q p s v f vm) {k : Nat} (hk : Ug u k) : ¬ F k ∧ k ≠ q := by
  obtain ⟨cur, hk'⟩ := own_typ h.ls hk
  exact ⟨h.pl.ne hk' rfl, fun e => by subst e; have := h.sq; unfold Sq at this; rw [hk'] at this; simp at this⟩
theorem SPs.lt (h : SPs w F u q p s v f vm) {k : Nat} (hk : Ar F u q k) : k < w.heap.size := by
  rcases hk with hk | rfl | hk
  · exact h.pl.lt hk
  · exact lt_of_block h.sq
  · obtain ⟨cur, hk'⟩ := own_typ h.ls hk
    exact lt_of_block hk'
/-- the pool has turned, the space's own blocks not -/
theorem SPs.turn (h : SPs w F u q p s v f vm) {F' : Nat → Prop} {v' : PV} {f' : Nat → Int} (hp : Pool w' F' p v' f') (ho : Only F w w') (hm : v'.m = v.m) (hb : v'.b = v.b) (hi : Inv s v' f') : SPs w' F' u q p s v' f' vm :=
  ⟨hp, by have := h.sq.only ho h.nq; unfold Sq at this ⊢; rw [hm, hb]; exact this, own_only h.ls ho fun k hk => (h.nu hk).1, hi⟩
end
/-- an entry is written -/
theorem x_store (w : World) (F : Nat → Prop) (q p : Nat) (v : PV) (f : Nat → Int) (hp : Pool w F p v f) (c0 : w.cell? ⟨q, 0, none⟩ = some (.pointer (some ⟨v.m, 0, none⟩))) (off : Nat) (hl : off + 8 ≤ 4096 * v.n) (a : Int) (ha : a = v.b + off) (e : Int) (e0 : 0 ≤ e) (e1 : e < 18446744073709551616) :
    Calls Try.prog 56 #[.pointer (some ⟨q, 0, none⟩), .int .u64 a, .int .u64 e] w fun r w' => r = .returned (.tuple #[]) ∧ ∃ F', Pool w' F' p v (w8 f off e) ∧ Only F w w' ∧ ∀ k, F' k → F k ∨ w.heap.size ≤ k := by
  obtain ⟨S, hm, hS, hback⟩ := hp.open
  refine t_store w q v.m a e (fun w' => ∃ F', Pool w' F' p v (w8 f off e) ∧ Only F w w' ∧ ∀ k, F' k → F k ∨ w.heap.size ≤ k) c0 ((C.c_Write w S v.m v.b v.n f hm off 8 hl (by decide) a ha e e0 e1).mono ?_)
  rintro r w' ⟨S', rfl, h1, h2, h3⟩
  exact ⟨rfl, hback w' S' _ h1 h2 h3⟩
/-- what is mapped is somebody's -/
def Ow (s : SV) (v : PV) : Prop := ∀ p, s.pp p ≠ 0 → 1 ≤ v.o (s.pf p)
/-- a frame that no table is taken from, k being wanted -/
def Fre (v : PV) (k fr : Nat) : Prop := 1 ≤ v.o fr ∨ (v.o fr = 0 ∧ fr ≤ v.n ∧ k ≤ cnt v.o 0 fr)
structure TX where
  s : SV
  v : PV
  f : Nat → Int
/-- the table of level 1, of level 0, made if it is wanting -/
def TX.up1 (x : TX) (p : Nat) : TX := if x.s.k1 (p / 262144) = 0 then ⟨x.s.add1 (p / 262144) (ff x.v.o x.v.n), x.v.own (ff x.v.o x.v.n) (-1), w8 (clr x.f (ff x.v.o x.v.n)) (4096 * x.s.r + 8 * (p / 262144)) (tE x.v.b (ff x.v.o x.v.n))⟩ else x
def TX.up0 (x : TX) (p : Nat) : TX := if x.s.k0 (p / 512) = 0 then ⟨x.s.add0 (p / 512) (ff x.v.o x.v.n), x.v.own (ff x.v.o x.v.n) (-1), w8 (clr x.f (ff x.v.o x.v.n)) (4096 * x.s.k1 (p / 262144) + 8 * (p / 512 % 512)) (tE x.v.b (ff x.v.o x.v.n))⟩ else x
def TX.lf (x : TX) (p fr pm : Nat) : TX := ⟨x.s.leaf p fr pm, x.v, w8 x.f (lfO x.s p) (lE x.v.b fr pm)⟩
def TX.map (x : TX) (p fr pm : Nat) : TX := ((x.up1 p).up0 p).lf p fr pm
def argOk (v : PV) (page fr pm : Int) : Bool := decide (page < 134217728) && decide (0 ≤ fr) && decide (fr < (v.n : Int)) && okPb pm
/-- what Map answers -/
def mapC (x : TX) (page fr pm : Int) : Int := bif argOk x.v page fr pm then (if x.s.pp page.toNat ≠ 0 then 20 else if cnt x.v.o 0 x.v.n < dnL x.s page.toNat then 10 else 0) else 1
section
variable {x : TX} {p : Nat}
theorem PV.Ok.mon {v : PV} (ok : v.Ok) (hc : 0 < cnt v.o 0 v.n) : (v.own (ff v.o v.n) (-1)).Ok := by
  have := ok.take (-1)
  rw [tk_free v (-1) rfl hc] at this
  exact this
theorem TX.up1_yes (hz : x.s.k1 (p / 262144) = 0) : x.up1 p = ⟨x.s.add1 (p / 262144) (ff x.v.o x.v.n), x.v.own (ff x.v.o x.v.n) (-1), w8 (clr x.f (ff x.v.o x.v.n)) (4096 * x.s.r + 8 * (p / 262144)) (tE x.v.b (ff x.v.o x.v.n))⟩ := if_pos hz
theorem TX.up1_no (hz : x.s.k1 (p / 262144) ≠ 0) : x.up1 p = x := if_neg hz
theorem TX.up0_yes (hz : x.s.k0 (p / 512) = 0) : x.up0 p = ⟨x.s.add0 (p / 512) (ff x.v.o x.v.n), x.v.own (ff x.v.o x.v.n) (-1), w8 (clr x.f (ff x.v.o x.v.n)) (4096 * x.s.k1 (p / 262144) + 8 * (p / 512 % 512)) (tE x.v.b (ff x.v.o x.v.n))⟩ := if_pos hz
theorem TX.up0_no (hz : x.s.k0 (p / 512) ≠ 0) : x.up0 p = x := if_neg hz
theorem own_cnt {v : PV} (hc : 0 < cnt v.o 0 v.n) : cnt (v.own (ff v.o v.n) (-1)).o 0 v.n + 1 = cnt v.o 0 v.n := by
  obtain ⟨h1, h2⟩ := cnt_pos hc
  have := cnt_upd v.o (ff v.o v.n) (-1) h2 (by decide) v.n
  rw [if_pos h1] at this
  exact this
/-- a table of level 1 more -/
theorem TX.step1 (hi : Inv x.s x.v x.f) (ok : x.v.Ok) (hne : ∀ p, x.s.pp p ≠ 0 → x.s.pf p ≠ ff x.v.o x.v.n) (hp : p < 134217728) (hz : x.s.k1 (p / 262144) = 0) (hc : 0 < cnt x.v.o 0 x.v.n) :
    Inv (x.s.add1 (p / 262144) (ff x.v.o x.v.n)) (x.v.own (ff x.v.o x.v.n) (-1)) (w8 (clr x.f (ff x.v.o x.v.n)) (4096 * x.s.r + 8 * (p / 262144)) (tE x.v.b (ff x.v.o x.v.n))) ∧
    dnO (x.s.add1 (p / 262144) (ff x.v.o x.v.n)) p = 4096 * ff x.v.o x.v.n + 8 * (p / 512 % 512) ∧ dnL (x.s.add1 (p / 262144) (ff x.v.o x.v.n)) p = 1 ∧ ((x.up1 p).up1 p) = x.up1 p := by
  obtain ⟨h1, h2⟩ := cnt_pos hc
  have h0 := hi.new0 ok h2
  have k0 : x.s.k0 (p / 512) = 0 := by
    rcases Nat.eq_zero_or_pos (x.s.k0 (p / 512)) with z | z
    · exact z
    · have := (hi.a0 (p / 512) (by omega)).1
      rw [show p / 512 / 512 = p / 262144 by omega] at this
      exact absurd hz this
  have e1 : (x.s.add1 (p / 262144) (ff x.v.o x.v.n)).k1 (p / 262144) = ff x.v.o x.v.n := upd_same _ _ _
  have e0 : (x.s.add1 (p / 262144) (ff x.v.o x.v.n)).k0 (p / 512) = 0 := k0
  refine ⟨hi.mk1 ok hne (by omega) hz h1 h2, ?_, ?_, ?_⟩
  · unfold dnO; rw [e1, if_neg h0, e0, if_pos rfl]
  · unfold dnL; rw [e1, if_neg h0, e0, if_pos rfl]
  · rw [TX.up1_yes hz]; exact TX.up1_no (by show (x.s.add1 _ _).k1 _ ≠ 0; rw [e1]; exact h0)
/-- a table of level 0 more -/
theorem TX.step0 (hi : Inv x.s x.v x.f) (ok : x.v.Ok) (hne : ∀ p, x.s.pp p ≠ 0 → x.s.pf p ≠ ff x.v.o x.v.n) (hp : p < 134217728) (hk : x.s.k1 (p / 262144) ≠ 0) (hz : x.s.k0 (p / 512) = 0) (hc : 0 < cnt x.v.o 0 x.v.n) :
    Inv (x.s.add0 (p / 512) (ff x.v.o x.v.n)) (x.v.own (ff x.v.o x.v.n) (-1)) (w8 (clr x.f (ff x.v.o x.v.n)) (4096 * x.s.k1 (p / 262144) + 8 * (p / 512 % 512)) (tE x.v.b (ff x.v.o x.v.n))) ∧
    dnO (x.s.add0 (p / 512) (ff x.v.o x.v.n)) p = 4096 * ff x.v.o x.v.n + 8 * (p % 512) ∧ dnL (x.s.add0 (p / 512) (ff x.v.o x.v.n)) p = 0 ∧ ((x.up0 p).up1 p).up0 p = (x.up1 p).up0 p := by
  obtain ⟨h1, h2⟩ := cnt_pos hc
  have h0 := hi.new0 ok h2
  have e1 : (x.s.add0 (p / 512) (ff x.v.o x.v.n)).k0 (p / 512) = ff x.v.o x.v.n := upd_same _ _ _
  have e0 : (x.s.add0 (p / 512) (ff x.v.o x.v.n)).k1 (p / 262144) = x.s.k1 (p / 262144) := rfl
  have hm := hi.mk0 ok hne (q := p / 512) (t := ff x.v.o x.v.n) (by rw [show p / 512 / 512 = p / 262144 by omega]; exact hk) hz h1 h2
  rw [show p / 512 / 512 = p / 262144 by omega] at hm
  refine ⟨hm, ?_, ?_, ?_⟩
  · unfold dnO; rw [e0, if_neg hk, e1, if_neg h0]
  · unfold dnL; rw [e0, if_neg hk, e1, if_neg h0]
  · rw [TX.up1_no hk, TX.up0_yes hz, TX.up1_no (x := ⟨x.s.add0 (p / 512) (ff x.v.o x.v.n), x.v.own (ff x.v.o x.v.n) (-1), w8 (clr x.f (ff x.v.o x.v.n)) (4096 * x.s.k1 (p / 262144) + 8 * (p / 512 % 512)) (tE x.v.b (ff x.v.o x.v.n))⟩) (by show (x.s.add0 _ _).k1 _ ≠ 0; rw [e0]; exact hk)]
    exact TX.up0_no (by show (x.s.add0 _ _).k0 _ ≠ 0; rw [e1]; exact h0)
end
section
variable (w : World) (F : Nat → Prop) (u : Value) (q pl : Nat) (s : SV) (v : PV) (f : Nat → Int) (vm : Int) (h : SPs w F u q pl s v f vm)
include h
theorem r_leaf_yes (p : Nat) (hp : s.pp p ≠ 0) : Calls Try.prog 45 #[.pointer (some ⟨q, 0, none⟩), .int .u64 p] w fun r w' => r = .returned (.tuple #[.int .u64 (v.b + (lfO s p : Nat)), .int .u64 (lE v.b (s.pf p) (s.pp p)), .bool true]) ∧ Below w.heap.size w w' := by
  obtain ⟨S, hm, -, -⟩ := h.pl.open
  exact c_leaf_yes w q S s v f pl vm u h.sq hm h.iv p hp
theorem r_leaf_no (page : Int) (p0 : 0 ≤ page) (hp : s.pp page.toNat = 0) : Calls Try.prog 45 #[.pointer (some ⟨q, 0, none⟩), .int .u64 page] w fun r w' => (∃ x y, r = .returned (.tuple #[.int .u64 x, .int .u64 y, .bool false])) ∧ Below w.heap.size w w' := by
  obtain ⟨S, hm, -, -⟩ := h.pl.open
  exact c_leaf_no w q S s v f pl vm u h.sq hm h.iv page p0 hp
theorem r_Find_yes (p : Nat) (hp : s.pp p ≠ 0) : Calls Try.prog 10 #[.pointer (some ⟨q, 0, none⟩), .int .u64 p] w fun r w' => r = .returned (.tuple #[pgv p (s.pf p) (s.pp p), .bool true]) ∧ Below w.heap.size w w' := by
  obtain ⟨S, hm, -, -⟩ := h.pl.open
  exact c_Find_yes w q S s v f pl vm u h.sq hm h.iv p hp
theorem r_Find_no (page : Int) (p0 : 0 ≤ page) (hp : s.pp page.toNat = 0) : Calls Try.prog 10 #[.pointer (some ⟨q, 0, none⟩), .int .u64 page] w fun r w' => r = .returned (.tuple #[pgv 0 0 0, .bool false]) ∧ Below w.heap.size w w' := by
  obtain ⟨S, hm, -, -⟩ := h.pl.open
  exact c_Find_no w q S s v f pl vm u h.sq hm h.iv page p0 hp
theorem r_down (p : Nat) (hp : p < 134217728) : Calls Try.prog 54 #[.pointer (some ⟨q, 0, none⟩), .int .u64 p] w fun r w' => r = .returned (.tuple #[.int .u64 (v.b + (dnO s p : Nat)), .int .i64 (dnL s p : Nat)]) ∧ Below w.heap.size w w' := by
  obtain ⟨S, hm, -, -⟩ := h.pl.open
  exact c_down w q S s v f pl vm u h.sq hm h.iv p hp
theorem r_Frames : Calls Try.prog 52 #[.pointer (some ⟨v.m, 0, none⟩)] w fun r w' => r = .returned (.int .i64 v.n) ∧ w' = w := by
  obtain ⟨S, hm, -, -⟩ := h.pl.open
  exact c_FramesM w S v.m v.b v.n f hm
theorem r_Count (x : Int) : Calls Try.prog 26 #[.pointer (some ⟨pl, 0, none⟩), .int .i64 x] w fun e w' => e = .returned (.int .i64 (cnt v.o x v.n)) ∧ w' = w := by
  obtain ⟨g, d, k, B, S, hp, ok, hF⟩ := h.pl
  exact c_Count w pl g d k B S v f hp ok x
theorem r_pageOf (t : Nat) (ht : t ≤ 1024) : Calls Try.prog 61 #[.pointer (some ⟨q, 0, none⟩), .int .i64 t] w fun r w' => r = .returned (.int .u64 (v.b / 4096 + t)) ∧ w' = w := by
  obtain ⟨S, hm, -, -⟩ := h.pl.open
  exact c_pageOf w q S s v f pl vm u h.sq hm t ht
theorem r_frameOf (t : Nat) (ht : t ≤ 1024) (x : Int) (hx : x = v.b / 4096 + t) : Calls Try.prog 62 #[.pointer (some ⟨q, 0, none⟩), .int .u64 x] w fun r w' => r = .returned (.int .i64 t) ∧ w' = w := by
  obtain ⟨S, hm, -, -⟩ := h.pl.open
  exact c_frameOf w q S s v f pl vm u h.sq hm t ht x hx
end
/-- a page is refused -/
theorem t_map_arg (w : World) (q m n : Nat) (page fr pm : Int) (m0 : -9223372036854775808 ≤ pm) (m1 : pm ≤ 9223372036854775807) (c0 : w.cell? ⟨q, 0, none⟩ = some (.pointer (some ⟨m, 0, none⟩))) (hf : Calls Try.prog 52 #[.pointer (some ⟨m, 0, none⟩)] w fun r w' => r = .returned (.int .i64 n) ∧ w' = w) (ha : (decide (page < 134217728) && decide (0 ≤ fr) && decide (fr < (n : Int)) && okPb pm) = false) :
    Calls Try.prog 16 #[.pointer (some ⟨q, 0, none⟩), .int .u64 page, .int .i64 fr, .int .i64 pm] w fun r w' => r = .returned (.int .i64 1) ∧ w' = w := by
  have h := c_isPage page
  have hp := c_isPerm pm m0 m1
  clear m0 m1
  go_enter Try.func16, Try.ntmps16
  by_cases h1 : page < 134217728
  · rw [decide_eq_true h1] at h ha
    by_cases h2 : fr < 0
    · go_wp2_with (go_at_call 51; refine (h _).mono ?_; rintro r w1 ⟨rfl, hw⟩; obtain rfl := hw.symm)
      go_ret
      exact ⟨rfl, rfl⟩
    · by_cases h3 : fr ≥ (n : Int)
      · go_wp2_with (first
          | (go_at_call 51; refine (h _).mono ?_; rintro r w1 ⟨rfl, hw⟩; obtain rfl := hw.symm)
          | (go_at_call 52; refine hf.mono ?_; rintro r w1 ⟨rfl, hw⟩; obtain rfl := hw.symm))
        go_ret
        exact ⟨rfl, rfl⟩
      · have h4 : okPb pm = false := by
          rw [decide_eq_true (show 0 ≤ fr by omega), decide_eq_true (show fr < (n : Int) by omega)] at ha
          simpa using ha
        rw [h4] at hp
        clear ha
        go_wp2_with (first
          | (go_at_call 51; refine (h _).mono ?_; rintro r w1 ⟨rfl, hw⟩; obtain rfl := hw.symm)
          | (go_at_call 53; refine (hp _).mono ?_; rintro r w1 ⟨rfl, hw⟩; obtain rfl := hw.symm)
          | (go_at_call 52; refine hf.mono ?_; rintro r w1 ⟨rfl, hw⟩; obtain rfl := hw.symm))
        go_ret
        exact ⟨rfl, rfl⟩
  · rw [decide_eq_false h1] at h
    clear ha
    go_wp2_with (go_at_call 51; refine (h _).mono ?_; rintro r w1 ⟨rfl, hw⟩; obtain rfl := hw.symm)
    go_ret
    exact ⟨rfl, rfl⟩
theorem t_map_mapped (w : World) (q m n : Nat) (page fr pm a e : Int) (m0 : -9223372036854775808 ≤ pm) (m1 : pm ≤ 9223372036854775807) (c0 : w.cell? ⟨q, 0, none⟩ = some (.pointer (some ⟨m, 0, none⟩))) (hf : Calls Try.prog 52 #[.pointer (some ⟨m, 0, none⟩)] w fun r w' => r = .returned (.int .i64 n) ∧ w' = w) (ha : (decide (page < 134217728) && decide (0 ≤ fr) && decide (fr < (n : Int)) && okPb pm) = true)
    (hl : Calls Try.prog 45 #[.pointer (some ⟨q, 0, none⟩), .int .u64 page] w fun r w' => r = .returned (.tuple #[.int .u64 a, .int .u64 e, .bool true]) ∧ Below w.heap.size w w') :
    Calls Try.prog 16 #[.pointer (some ⟨q, 0, none⟩), .int .u64 page, .int .i64 fr, .int .i64 pm] w fun r w' => r = .returned (.int .i64 20) ∧ Below w.heap.size w w' := by
  have h := c_isPage page
  have hp := c_isPerm pm m0 m1
  simp only [Bool.and_eq_true, decide_eq_true_eq] at ha
  obtain ⟨⟨⟨h1, h2⟩, h3⟩, h4⟩ := ha
  rw [decide_eq_true h1] at h
  rw [h4] at hp
  clear m0 m1 h1 h4
  have g2 : ¬ fr < 0 := by omega
  have g3 : ¬ (n : Int) ≤ fr := by omega
  go_enter Try.func16, Try.ntmps16
  go_wp2_with (first
    | (go_at_call 51; refine (h _).mono ?_; rintro r w1 ⟨rfl, hw⟩; obtain rfl := hw.symm)
    | (go_at_call 53; refine (hp _).mono ?_; rintro r w1 ⟨rfl, hw⟩; obtain rfl := hw.symm)
    | (go_at_call 52; refine hf.mono ?_; rintro r w1 ⟨rfl, hw⟩; obtain rfl := hw.symm)
    | (go_at_call 45; refine hl.mono ?_; rintro r w1 ⟨rfl, hb⟩; have HB := hid hb; clear hb))
  go_ret
  exact ⟨rfl, HB.out⟩
end Go.Proofs.Ytekkjalfiogenaa
