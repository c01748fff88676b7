/- RamPlays: both memories, the pairs put aside, and what lies beside: what each call turns. -/
import Derived.Test.YtioodijiejipiaaRPA
import Derived.Test.YtioodijiejipiaaRC
import Derived.Test.YtioodijiejipiaaRK
import Derived.Test.YtioodijiejipiaaRP
namespace Go.Proofs.Ytioodijiejipiaa
open Go.RowKit
set_option linter.unusedVariables false

/-- the pairs that were put aside -/
def Oth (w0 : Nat) (wr : World) (base : Int) (n : Nat) (v : Value) (m : Nat) (O : Nat → Prop) : Prop :=
  ∃ L : List (Nat × Nat), L.length ≤ m ∧ wr.ownsRow w0 52 2 v L.length (L.flatMap fun e => [.pointer (some ⟨e.1, 0, none⟩), .pointer (some ⟨e.2, 0, none⟩)]) ∧ (∀ k, v.ownBlock = some k → O k) ∧ ∀ e ∈ L, ∃ S T f, Mem wr S e.1 base n f ∧ RMem wr T e.2 base n f ∧ (∀ k, S k → O k) ∧ ∀ k, T k → O k
theorem row_only {w w' : World} {base : Nat} {e : TypeId} {size : Nat} {v : Value} {n : Nat} {xs : List Value} {S : Nat → Prop} (h : w.ownsRow base e size v n xs) (ho : Only S w w') (hd : ∀ k, v.ownBlock = some k → ¬ S k) : w'.ownsRow base e size v n xs :=
  ⟨h.1, h.2.imp id fun ⟨g, cap, cur, e, hb, hg, rest⟩ => ⟨g, cap, cur, e, hb, ho.old hg (hd g (by rw [e]; rfl)), rest⟩⟩
theorem Oth.only {w0 : Nat} {wr w' : World} {base : Int} {n : Nat} {v : Value} {m : Nat} {O S : Nat → Prop} (h : Oth w0 wr base n v m O) (ho : Only S wr w') (hd : ∀ k, O k → ¬ S k) : Oth w0 w' base n v m O := by
  obtain ⟨L, hl, hr, hv, he⟩ := h
  refine ⟨L, hl, row_only hr ho (fun k hk => hd k (hv k hk)), hv, fun e hm => ?_⟩
  obtain ⟨S1, T1, f, h1, h2, h3, h4⟩ := he e hm
  exact ⟨S1, T1, f, h1.only ho (fun k z => hd k (h3 k z)), h2.only ho (fun k z => hd k (h4 k z)), h3, h4⟩
structure RH (w wr : World) (base : Int) (n p q : Nat) (f g : Nat → Int) (vo : Value) (m : Nat) (Y : List (Nat × Obj)) (S T O : Nat → Prop) : Prop where
  mem : Mem wr S p base n f
  rm : RMem wr T q base n g
  oth : Oth w.heap.size wr base n vo m O
  bw : Below w.heap.size w wr
  st : ∀ k, S k → ¬ T k
  so : ∀ k, S k → w.heap.size ≤ k ∧ ¬ O k
  to : ∀ k, T k → w.heap.size ≤ k ∧ ¬ O k
  ol : ∀ k, O k → k < wr.heap.size
  ks : ∀ e ∈ Y, wr.heap[e.1]? = some e.2 ∧ ¬ S e.1 ∧ ¬ T e.1
/-- both memories and what lies beside -/
def Rp (w wr : World) (base : Int) (n p q : Nat) (f g : Nat → Int) (vo : Value) (m : Nat) (Y : List (Nat × Obj)) : Prop := ∃ S T O, RH w wr base n p q f g vo m Y S T O
section
variable {w wr w' : World} {base : Int} {n p q : Nat} {f g f' g' : Nat → Int} {vo : Value} {m : Nat} {Y : List (Nat × Obj)} {S T O S' T' : Nat → Prop}
theorem RH.mstep (h : RH w wr base n p q f g vo m Y S T O) (hm : Mem w' S' p base n f') (ho : Only S wr w') (hs : ∀ k, S' k → S k ∨ wr.heap.size ≤ k) : RH w w' base n p q f' g vo m Y S' T O where
  mem := hm
  rm := h.rm.only ho fun k t s => h.st k s t
  oth := h.oth.only ho fun k o s => (h.so k s).2 o
  bw := h.bw.trans (ho.below _ h.bw.size fun k s => (h.so k s).1)
  st := fun k s t => by rcases hs k s with z | z; exact h.st k z t; exact absurd (h.rm.lt t) (by omega)
  so := fun k s => by
    rcases hs k s with z | z
    · exact h.so k z
    · have := h.bw.size; exact ⟨by omega, fun o => absurd (h.ol k o) (by omega)⟩
  to := h.to
  ol := fun k o => Nat.lt_of_lt_of_le (h.ol k o) ho.size
  ks := fun e he => by
    obtain ⟨a, b, c⟩ := h.ks e he
    exact ⟨ho.old a b, fun s => by rcases hs _ s with z | z; exact b z; exact absurd (lt_of_block a) (by omega), c⟩
theorem RH.rstep (h : RH w wr base n p q f g vo m Y S T O) (hm : RMem w' T' q base n g') (ho : Only T wr w') (hs : ∀ k, T' k → T k ∨ wr.heap.size ≤ k) : RH w w' base n p q f g' vo m Y S T' O where
  mem := h.mem.only ho fun k s t => h.st k s t
  rm := hm
  oth := h.oth.only ho fun k o s => (h.to k s).2 o
  bw := h.bw.trans (ho.below _ h.bw.size fun k s => (h.to k s).1)
  st := fun k s t => by rcases hs k t with z | z; exact h.st k s z; exact absurd (h.mem.lt s) (by omega)
  so := h.so
  to := fun k s => by
    rcases hs k s with z | z
    · exact h.to k z
    · have := h.bw.size; exact ⟨by omega, fun o => absurd (h.ol k o) (by omega)⟩
  ol := fun k o => Nat.lt_of_lt_of_le (h.ol k o) ho.size
  ks := fun e he => by
    obtain ⟨a, b, c⟩ := h.ks e he
    exact ⟨ho.old a c, b, fun s => by rcases hs _ s with z | z; exact c z; exact absurd (lt_of_block a) (by omega)⟩
theorem RH.below (h : RH w wr base n p q f g vo m Y S T O) (hb : Below wr.heap.size wr w') : RH w w' base n p q f g vo m Y S T O :=
  h.mstep (h.mem.below hb) (.ofBelow hb) fun k s => .inl s
theorem Rp.below (h : Rp w wr base n p q f g vo m Y) (hb : Below wr.heap.size wr w') : Rp w w' base n p q f g vo m Y := by
  obtain ⟨S, T, O, h⟩ := h; exact ⟨S, T, O, h.below hb⟩
theorem Rp.still (h : Rp w wr base n p q f g vo m Y) (hs : Still wr w') : Rp w w' base n p q f g vo m Y := h.below (hs.below _)
theorem Rp.drew (h : Rp w wr base n p q f g vo m Y) : Rp w wr.drew base n p q f g vo m Y := h.below (Below.refl _ _).drew
theorem Rp.bw (h : Rp w wr base n p q f g vo m Y) : Below w.heap.size w wr := by obtain ⟨S, T, O, h⟩ := h; exact h.bw
theorem Rp.at (h : Rp w wr base n p q f g vo m Y) {b : Nat} {o : Obj} (hb : (b, o) ∈ Y) : wr.heap[b]? = some o := by obtain ⟨S, T, O, h⟩ := h; exact (h.ks _ hb).1
theorem Rp.less (h : Rp w wr base n p q f g vo m Y) {Z : List (Nat × Obj)} (hz : ∀ e ∈ Z, e ∈ Y) : Rp w wr base n p q f g vo m Z := by
  obtain ⟨S, T, O, h⟩ := h; exact ⟨S, T, O, ⟨h.mem, h.rm, h.oth, h.bw, h.st, h.so, h.to, h.ol, fun e he => h.ks e (hz e he)⟩⟩
theorem Rp.more (h : Rp w wr base n p q f g vo m Y) (hb : Below wr.heap.size wr w') {b : Nat} {o : Obj} (h1 : wr.heap.size ≤ b) (h2 : w'.heap[b]? = some o) : Rp w w' base n p q f g vo m ((b, o) :: Y) := by
  obtain ⟨S, T, O, h⟩ := h
  have k := h.below hb
  refine ⟨S, T, O, ⟨k.mem, k.rm, k.oth, k.bw, k.st, k.so, k.to, k.ol, fun e he => ?_⟩⟩
  rcases List.mem_cons.1 he with rfl | he
  · exact ⟨h2, fun s => absurd (h.mem.lt s) (by show ¬ b < _; omega), fun s => absurd (h.rm.lt s) (by show ¬ b < _; omega)⟩
  · exact k.ks e he
theorem k_Has (h : Rp w wr base n p q f g vo m Y) (addr size : Int) (a0 : 0 ≤ addr) (a1 : addr < 18446744073709551616) (s0 : -9223372036854775808 ≤ size) (s1 : size ≤ 9223372036854775807) :
    Calls Try.prog 10 #[.pointer (some ⟨p, 0, none⟩), .int .u64 addr, .int .i64 size] wr fun e w' => e = .returned (.bool (hasB base n addr size)) ∧ Rp w w' base n p q f g vo m Y := by
  obtain ⟨S, T, O, h⟩ := h
  exact (c_HasM wr S p base n f h.mem addr size a0 a1 s0 s1 _ rfl).mono fun e w' hh => ⟨hh.1, S, T, O, h.below (hh.2.below _)⟩
theorem k_HasR (h : Rp w wr base n p q f g vo m Y) (addr size : Int) (a0 : 0 ≤ addr) (a1 : addr < 18446744073709551616) (s0 : -9223372036854775808 ≤ size) (s1 : size ≤ 9223372036854775807) :
    Calls Try.prog 11 #[.pointer (some ⟨q, 0, none⟩), .int .u64 addr, .int .i64 size] wr fun e w' => e = .returned (.bool (hasB base n addr size)) ∧ Rp w w' base n p q f g vo m Y := by
  obtain ⟨S, T, O, h⟩ := h
  exact (q_HasM wr T q base n g h.rm addr size a0 a1 s0 s1).mono fun e w' hh => ⟨hh.1, S, T, O, h.below (hh.2.below _)⟩
theorem k_Write (h : Rp w wr base n p q f g vo m Y) (addr size v : Int) (a0 : 0 ≤ addr) (a1 : addr < 18446744073709551616) (s0 : -9223372036854775808 ≤ size) (s1 : size ≤ 9223372036854775807) (v0 : 0 ≤ v) (v1 : v < 18446744073709551616) :
    Calls Try.prog 13 #[.pointer (some ⟨p, 0, none⟩), .int .u64 addr, .int .i64 size, .int .u64 v] wr fun e w' => e = .returned (.bool (okN base n addr size)) ∧ Rp w w' base n p q (wrF base n f addr size v) g vo m Y := by
  obtain ⟨S, T, O, h⟩ := h
  exact (c_WriteA wr S p base n f h.mem addr size v a0 a1 s0 s1 v0 v1).mono fun e w' ⟨S', h1, h2, h3, h4⟩ => ⟨h1, S', T, O, h.mstep h2 h3 h4⟩
theorem k_WriteR (h : Rp w wr base n p q f g vo m Y) (addr size v : Int) (a0 : 0 ≤ addr) (a1 : addr < 18446744073709551616) (s0 : -9223372036854775808 ≤ size) (s1 : size ≤ 9223372036854775807) (v0 : 0 ≤ v) (v1 : v < 18446744073709551616) :
    Calls Try.prog 14 #[.pointer (some ⟨q, 0, none⟩), .int .u64 addr, .int .i64 size, .int .u64 v] wr fun e w' => e = .returned (.bool (okN base n addr size)) ∧ Rp w w' base n p q f (wrF base n g addr size v) vo m Y := by
  obtain ⟨S, T, O, h⟩ := h
  exact (q_WriteA wr T q base n g h.rm addr size v a0 a1 s0 s1 v0 v1).mono fun e w' ⟨S', h1, h2, h3, h4⟩ => ⟨h1, S, S', O, h.rstep h2 h3 h4⟩
theorem k_Read (h : Rp w wr base n p q f g vo m Y) (addr size : Int) (a0 : 0 ≤ addr) (a1 : addr < 18446744073709551616) (s0 : -9223372036854775808 ≤ size) (s1 : size ≤ 9223372036854775807) :
    Calls Try.prog 15 #[.pointer (some ⟨p, 0, none⟩), .int .u64 addr, .int .i64 size] wr fun e w' => e = .returned (.tuple #[.int .u64 (rdF base n f addr size), .bool (okN base n addr size)]) ∧ Rp w w' base n p q f g vo m Y := by
  obtain ⟨S, T, O, h⟩ := h
  exact (c_ReadA wr S p base n f h.mem addr size a0 a1 s0 s1).mono fun e w' hh => ⟨hh.1, S, T, O, h.below hh.2⟩
theorem k_ReadR (h : Rp w wr base n p q f g vo m Y) (addr size : Int) (a0 : 0 ≤ addr) (a1 : addr < 18446744073709551616) (s0 : -9223372036854775808 ≤ size) (s1 : size ≤ 9223372036854775807) :
    Calls Try.prog 16 #[.pointer (some ⟨q, 0, none⟩), .int .u64 addr, .int .i64 size] wr fun e w' => e = .returned (.tuple #[.int .u64 (rdF base n g addr size), .bool (okN base n addr size)]) ∧ Rp w w' base n p q f g vo m Y := by
  obtain ⟨S, T, O, h⟩ := h
  exact (q_ReadA wr T q base n g h.rm addr size a0 a1 s0 s1).mono fun e w' hh => ⟨hh.1, S, T, O, h.below hh.2⟩
theorem k_Clear (h : Rp w wr base n p q f g vo m Y) (i : Int) :
    Calls Try.prog 23 #[.pointer (some ⟨p, 0, none⟩), .int .i64 i] wr fun e w' => e = .returned (.bool (decide (0 ≤ i ∧ i < n))) ∧ Rp w w' base n p q (clF n f i) g vo m Y := by
  obtain ⟨S, T, O, h⟩ := h
  exact (c_ClearA wr S p base n f h.mem i).mono fun e w' ⟨S', h1, h2, h3, h4⟩ => ⟨h1, S', T, O, h.mstep h2 h3 h4⟩
theorem k_ClearR (h : Rp w wr base n p q f g vo m Y) (i : Int) :
    Calls Try.prog 24 #[.pointer (some ⟨q, 0, none⟩), .int .i64 i] wr fun e w' => e = .returned (.bool (decide (0 ≤ i ∧ i < n))) ∧ Rp w w' base n p q f (clF n g i) vo m Y := by
  obtain ⟨S, T, O, h⟩ := h
  exact (q_ClearA wr T q base n g h.rm i).mono fun e w' ⟨S', h1, h2, h3, h4⟩ => ⟨h1, S, S', O, h.rstep h2 h3 h4⟩
theorem k_Bytes (h : Rp w wr base n p q f g vo m Y) (addr size : Int) (a0 : 0 ≤ addr) (a1 : addr < 18446744073709551616) (s0 : -9223372036854775808 ≤ size) (s1 : size ≤ 9223372036854775807) :
    Calls Try.prog 20 #[.pointer (some ⟨p, 0, none⟩), .int .u64 addr, .int .i64 size] wr fun e w' => ∃ u, e = .returned (.tuple #[u, .bool (hasB base n addr size)]) ∧ Sl w' u (if hasB base n addr size = true then size.toNat else 0) (fun j => f ((addr - base).toNat + j)) ∧ Below wr.heap.size wr w' ∧ Rp w w' base n p q f g vo m Y := by
  obtain ⟨S, T, O, h⟩ := h
  refine (c_BytesA wr S p base n f h.mem addr size a0 a1 s0 s1).mono fun e w' => ?_
  rintro ⟨u, k, h1, h2, h3, h4⟩
  subst h3
  exact ⟨u, h1, h2, h4, S, T, O, h.below h4⟩
theorem k_BytesR (h : Rp w wr base n p q f g vo m Y) (addr size : Int) (a0 : 0 ≤ addr) (a1 : addr < 18446744073709551616) (s0 : -9223372036854775808 ≤ size) (s1 : size ≤ 9223372036854775807) :
    Calls Try.prog 21 #[.pointer (some ⟨q, 0, none⟩), .int .u64 addr, .int .i64 size] wr fun e w' => ∃ u, e = .returned (.tuple #[u, .bool (hasB base n addr size)]) ∧ Sl w' u (if hasB base n addr size = true then size.toNat else 0) (fun j => g ((addr - base).toNat + j)) ∧ Below wr.heap.size wr w' ∧ Rp w w' base n p q f g vo m Y := by
  obtain ⟨S, T, O, h⟩ := h
  refine (q_BytesA wr T q base n g h.rm addr size a0 a1 s0 s1).mono fun e w' => ?_
  rintro ⟨u, k, h1, h2, h3, h4⟩
  subst h3
  exact ⟨u, h1, h2, h4, S, T, O, h.below h4⟩
/-- bytes that lie beside both memories -/
def Src (w wr : World) (v : Value) (len : Nat) (s : Nat → Int) (Y : List (Nat × Obj)) : Prop :=
  ∃ ad cap, v = .slice ad len cap ∧ len ≤ cap ∧ ∃ sb so, 0 < len → ad = some ⟨sb, so, none⟩ ∧ (sb < w.heap.size ∨ ∃ o, (sb, o) ∈ Y) ∧ ∀ j, j < len → wr.cell? ⟨sb, so + j, none⟩ = some (.int .u8 (s j))
theorem Src.use {v : Value} {len : Nat} {s : Nat → Int} (hs : Src w wr v len s Y) (h : RH w wr base n p q f g vo m Y S T O) : ∃ ad cap, v = .slice ad len cap ∧ len ≤ cap ∧ ∃ sb so, 0 < len → ad = some ⟨sb, so, none⟩ ∧ sb < wr.heap.size ∧ ¬ S sb ∧ ¬ T sb ∧ ∀ j, j < len → wr.cell? ⟨sb, so + j, none⟩ = some (.int .u8 (s j)) := by
  obtain ⟨ad, cap, h1, h2, sb, so, h3⟩ := hs
  refine ⟨ad, cap, h1, h2, sb, so, fun z => ?_⟩
  obtain ⟨a, b, c⟩ := h3 z
  rcases b with b | ⟨o, b⟩
  · have := h.bw.size
    exact ⟨a, by omega, fun x => by have := (h.so _ x).1; omega, fun x => by have := (h.to _ x).1; omega, c⟩
  · obtain ⟨x, y, z⟩ := h.ks _ b
    exact ⟨a, lt_of_block x, y, z, c⟩
theorem k_Fill (h : Rp w wr base n p q f g vo m Y) (addr : Int) (a0 : 0 ≤ addr) (a1 : addr < 18446744073709551616) (v : Value) (len : Nat) (hl : len ≤ 9223372036854775807) (s : Nat → Int) (hs0 : ∀ j, 0 ≤ s j ∧ s j < 256) (hs : Src w wr v len s Y) :
    Calls Try.prog 17 #[.pointer (some ⟨p, 0, none⟩), .int .u64 addr, v] wr fun e w' => e = .returned (.bool (hasB base n addr len)) ∧ Rp w w' base n p q (fiF base n f addr len s) g vo m Y := by
  obtain ⟨S, T, O, h⟩ := h
  obtain ⟨ad, cap, rfl, hc, sb, so, hk⟩ := hs.use h
  unfold fiF
  cases hb : hasB base n addr len with
  | false =>
    exact (c_Fill_bad wr S p base n f h.mem addr a0 a1 ad len cap hl hb).mono fun e w' hh => ⟨hh.1, S, T, O, h.below (hh.2.below _)⟩
  | true =>
    obtain ⟨off, l2, e1, e2, hll⟩ := hasB_off hb
    obtain rfl : len = l2 := by omega
    have e3 : (addr - base).toNat = off := by omega
    rw [e3]
    exact (c_Fill wr S p base n f h.mem off len cap hll hc addr e1 ad s hs0 ⟨sb, so, fun z => ⟨(hk z).1, (hk z).2.1, (hk z).2.2.1, (hk z).2.2.2.2⟩⟩).mono fun e w' ⟨S', h1, h2, h3, h4⟩ => ⟨h1, S', T, O, h.mstep h2 h3 h4⟩
theorem k_FillR (h : Rp w wr base n p q f g vo m Y) (addr : Int) (a0 : 0 ≤ addr) (a1 : addr < 18446744073709551616) (v : Value) (len : Nat) (hl : len ≤ 9223372036854775807) (s : Nat → Int) (hs0 : ∀ j, 0 ≤ s j ∧ s j < 256) (hs : Src w wr v len s Y) :
    Calls Try.prog 19 #[.pointer (some ⟨q, 0, none⟩), .int .u64 addr, v] wr fun e w' => e = .returned (.bool (hasB base n addr len)) ∧ Rp w w' base n p q f (fiF base n g addr len s) vo m Y := by
  obtain ⟨S, T, O, h⟩ := h
  obtain ⟨ad, cap, rfl, hc, sb, so, hk⟩ := hs.use h
  unfold fiF
  cases hb : hasB base n addr len with
  | false =>
    exact (q_Fill_bad wr T q base n g h.rm addr a0 a1 ad len cap hl hb).mono fun e w' hh => ⟨hh.1, S, T, O, h.below (hh.2.below _)⟩
  | true =>
    obtain ⟨off, l2, e1, e2, hll⟩ := hasB_off hb
    obtain rfl : len = l2 := by omega
    have e3 : (addr - base).toNat = off := by omega
    rw [e3]
    exact (q_Fill wr T q base n g h.rm off len cap hll addr e1 ad s hs0 ⟨sb, so, none⟩ (fun z => ⟨(hk z).1, (hk z).2.1, (hk z).2.2.2.1, fun j hj => by rw [addr_add]; exact (hk z).2.2.2.2 j hj⟩)).mono fun e w' ⟨S', h1, h2, h3, h4⟩ => ⟨h1, S, S', O, h.rstep h2 h3 h4⟩
end
end Go.Proofs.Ytioodijiejipiaa
