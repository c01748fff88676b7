/- New: a bus. -/
import Derived.Test.YtjkihlpckgaggaaGreatMH1
import Derived.Test.YtjkihlpckgaggaaGreatKQ
import Derived.Test.YtjkihlpckgaggaaGreatHQ
import Derived.Test.YtjkihlpckgaggaaGreatMC2
import Derived.Laws.AppendOwn
import Derived.Deep.DeepCutAuto
import Derived.Deep.CutBlock
import Derived.Laws.Bits64
import Derived.BigQuiet
import Derived.Handy
import Derived.Deep.RegionWith
import Derived.Deep.RegionLaw
import Derived.Laws.Pointers
import Derived.RegionTactic
import Derived.RegionCalls
import Derived.Laws.NewBlocks
import Derived.Laws.BitsAllLaws
namespace Go.Proofs.YtjkihlpckgaggaaGreat.P
open Go.RowKit
open C (Only hid Still ret_bool ret_int row)
set_option linter.unusedVariables false
set_option maxRecDepth 100000

theorem info_space : (Tryz.prog.info? 168).map (fun i => (i.zero, i.size, i.bytes)) = some (some (.agg (List.replicate 256 (Value.int .u8 0)).toArray), 256, 256) := by kernel_rfl
theorem u_sspace : Tryz.prog.underlying 164 = some (.slice 168) := by kernel_rfl
/-- a bus: its block, its list of slots; f its bytes, slot behind slot -/
structure Bx (w : World) (p : Nat) (u : Value) (n : Nat) (f : Nat → Int) : Prop where
  top : w.heap[p]? = some (.cells #[u] 166 (0, 0))
  own : w.ownsRow 0 168 256 u n (row f 0 (n * 256))
/-- the bytes of slots at their beginning -/
def spn (K : Nat → Int) (i : Nat) : Int := sp0 (K (i / 256)) (i % 256)
theorem sp0_b (k : Int) (j : Nat) : Byt (sp0 k j) := by
  unfold sp0
  have hb : ∀ v j, 0 ≤ C.byt v j ∧ C.byt v j < 256 := C.byt_b
  have hp : ∀ (g : Nat → Int) o n v, (∀ i, Byt (g i)) → ∀ i, Byt (C.put g o n (C.byt v) i) := fun g o n v hg i => by
    unfold C.put
    split
    · exact hb _ _
    · exact hg i
  exact hp _ _ _ _ (hp _ _ _ _ (hp _ _ _ _ (hp _ _ _ _ (hp _ _ _ _ (hp _ _ _ _ (hp _ _ _ _ (hp _ _ _ _ (hp _ _ _ _ (hp _ _ _ _ fun i => ⟨by decide, by decide⟩))))))))) j
theorem spn_b (K : Nat → Int) (i : Nat) : Byt (spn K i) := sp0_b _ _
theorem row_join (f g : Nat → Int) (n m : Nat) (h : ∀ j, j < m → f (n + j) = g j) : row f 0 n ++ row g 0 m = row f 0 (n + m) := by
  apply List.ext_getElem?
  intro i
  rcases Nat.lt_or_ge i n with q | q
  · rw [List.getElem?_append_left (by simpa [C.row_length] using q), C.row_get _ _ _ _ q, C.row_get _ _ _ _ (by omega)]
  · rw [List.getElem?_append_right (by simpa [C.row_length] using q), C.row_length]
    rcases Nat.lt_or_ge i (n + m) with r | r
    · rw [C.row_get _ _ _ _ (by omega), C.row_get _ _ _ _ r, Nat.zero_add, Nat.zero_add, ← h (i - n) (by omega), show n + (i - n) = i by omega]
    · rw [List.getElem?_eq_none (by simp [C.row_length]; omega), List.getElem?_eq_none (by simp [C.row_length]; omega)]
theorem bx_grow {w0 w3 : World} {p j : Nat} {u v : Value} {f K : Nat → Int} {kk : Int} (ht : w0.heap[p]? = some (.cells #[u] 166 (0, 0))) (ho : w0.ownsRow 0 168 256 u j (row f 0 (j * 256))) (m1 : w3.ownsRow 0 168 256 v (j + 1) (row f 0 (j * 256) ++ row (sp0 kk) 0 256)) (m2 : Only (Ug u) w0 w3) (hf : ∀ i, i < j * 256 → f i = spn K i) (hk : K j = kk) : Bx (w3.setCell ⟨p, 0, none⟩ v) p v (j + 1) (spn K) := by
  have t3 := m2.old ht (fun z => own_ne ho ht (by decide) p z rfl)
  have e : row f 0 (j * 256) ++ row (sp0 kk) 0 256 = row (spn K) 0 ((j + 1) * 256) := by
    rw [C.row_congr (f := f) (g := spn K) (s := 0) (t := 0) (n := j * 256) (fun i hi => by rw [Nat.zero_add]; exact hf i hi), row_join _ _ _ _ (fun i hi => by unfold spn; rw [show (j * 256 + i) / 256 = j by omega, show (j * 256 + i) % 256 = i by omega, hk]), Nat.succ_mul]
  rw [e] at m1
  exact ⟨setRowB w3 p 0 _ _ _ _ t3 rfl, own_only m1 (only_c w3 p 0 v) (own_ne m1 t3 (by decide))⟩
/-- how far a slot is made: its space, the list of one, the list that grew, the store -/
def MD (w0 : World) (u : Value) (j : Nat) (f : Nat → Int) (kk : Int) (p : Nat) : Nat → Value × Value → World → Prop
  | 0, _, w => w = w0
  | 1, _, w => Below w0.heap.size w0 w
  | 2, x, w => ∃ w1, Below w0.heap.size w0 w1 ∧ x.1 = .slice (some ⟨w1.heap.size, 0, none⟩) 1 1 ∧ w = w1.alloc (.cells (row (sp0 kk) 0 256).toArray 168)
  | 3, x, w => w.ownsRow 0 168 256 x.2 (j + 1) (row f 0 (j * 256) ++ row (sp0 kk) 0 256) ∧ Only (Ug u) w0 w ∧ ∀ k, Ug x.2 k → Ug u k ∨ w0.heap.size ≤ k
  | 4, x, w => ∃ w3 : World, w3.ownsRow 0 168 256 x.2 (j + 1) (row f 0 (j * 256) ++ row (sp0 kk) 0 256) ∧ Only (Ug u) w0 w3 ∧ (∀ k, Ug x.2 k → Ug u k ∨ w0.heap.size ≤ k) ∧ w = w3.setCell ⟨p, 0, none⟩ x.2
  | _ + 5, _, _ => False
/-- a list of ints that can be read -/
structure Ls (w : World) (ad : Option Addr) (n cap b o : Nat) (K : Nat → Int) : Prop where
  len : n ≤ cap
  cap : cap ≤ 9223372036854775807
  at0 : 0 < n → ad = some ⟨b, o, none⟩ ∧ b < w.heap.size
  cell : ∀ j, j < n → w.cell? ⟨b, o + j, none⟩ = some (.int .i64 (K j))
  num : ∀ j, j < n → -9223372036854775808 ≤ K j ∧ K j ≤ 9223372036854775807
theorem Ls.below {w w' : World} {ad : Option Addr} {n cap b o : Nat} {K : Nat → Int} (h : Ls w ad n cap b o K) (hb : Below w.heap.size w w') : Ls w' ad n cap b o K :=
  ⟨h.len, h.cap, fun q => ⟨(h.at0 q).1, Nat.lt_of_lt_of_le (h.at0 q).2 hb.size⟩, fun j hj => by
    rw [World.cell?_of_block (w := w) (hb.block _ (h.at0 (by omega)).2)]
    exact h.cell j hj, h.num⟩
set_option maxHeartbeats 4000000 in
theorem c_New (W : World) (ad : Option Addr) (n cap b o : Nat) (K : Nat → Int) (hL : Ls W ad n cap b o K) (n8 : n ≤ 8) (hK : ∀ j, j < n → 0 ≤ K j ∧ K j ≤ 255) : Calls Tryz.prog 32 #[.slice ad n cap] W fun e w' => e = .returned (.tuple #[.pointer (some ⟨W.heap.size, 0, none⟩), .int .i64 0]) ∧ ∃ u, Bx w' W.heap.size u n (spn K) ∧ Below W.heap.size W w' ∧ ∀ k, Ug u k → W.heap.size ≤ k := by
  have HL := hid hL
  have HK := hid hK
  clear hL hK
  go_enter Tryz.func32, Tryz.ntmps32
  go_wp2_with fail
  obtain ⟨p, hp⟩ : ∃ p, p = W.heap.size := ⟨_, rfl⟩
  rw [← hp]
  have HPp := hid hp
  have HB0 : Hid (Bx (W.alloc (.cells #[.slice none 0 0] 166)) p (.slice none 0 0) 0 (spn K)) := by
    rw [HPp.out]
    exact ⟨heap_alloc_new W _, rfl, .inl ⟨rfl, rfl⟩⟩
  have HW0 : Hid (Below W.heap.size W (W.alloc (.cells #[.slice none 0 0] 166))) := (Below.refl _ _).alloc (Nat.le_refl _) _
  clear hp
  generalize W.alloc (.cells #[.slice none 0 0] 166) = w00 at *
  go_loopw [14] (fun i wr => ∃ (j : Nat) (u : Value), j ≤ n ∧ i = .int .i64 j ∧ Hid (Bx wr p u j (spn K)) ∧ Hid (Below W.heap.size W wr) ∧ Hid (∀ k, Ug u k → W.heap.size ≤ k)) (fun i _ => n - (intOf i).toNat)
  case atStart => exact ⟨0, .slice none 0 0, by omega, rfl, HB0, HW0, fun k hk => by cases hk⟩
  case round =>
    obtain ⟨j, u, hj, rfl, HB, HBW, HFR⟩ := hrel
    by_cases hlt : j < n
    · obtain ⟨rfl, -⟩ := HL.out.at0 (by omega)
      have hcl := HL.out.len
      have hcc := HL.out.cap
      have hc : wr.cell? ⟨b, o + j, none⟩ = some (.int .i64 (K j)) := (HL.out.below HBW.out).cell j hlt
      obtain ⟨k0, k1⟩ := HK.out j hlt
      obtain ⟨kk, hkk⟩ : ∃ kk, K j = kk := ⟨_, rfl⟩
      rw [hkk] at hc k0 k1
      have HKK := hid hkk
      clear hkk
      have HNS : Hid (∀ w, Calls Tryz.prog 47 #[.int .i64 kk] w fun e w' => e = .returned (.agg (row (sp0 kk) 0 256).toArray) ∧ Below w.heap.size w w') := fun w => c_newSpace w kk k0 (by omega)
      obtain ⟨f, hf⟩ : ∃ f, f = spn K := ⟨_, rfl⟩
      have HBF : Hid (∀ i, i < j * 256 → f i = spn K i) := fun i _ => by rw [hf]
      rw [← hf] at HB
      clear hf
      go_wp2
      refine wp_region_any (by kernel_rfl) ?_
      obtain ⟨w0, hw0⟩ : ∃ w0, w0 = wr.drew := ⟨_, rfl⟩
      rw [show ({ wr with drawn := wr.drawn + 1 } : World) = w0 from hw0.symm]
      have HTP : Hid (w0.heap[p]? = some (.cells #[u] 166 (0, 0))) := by rw [hw0]; exact HB.out.top
      have HOW : Hid (w0.ownsRow 0 168 256 u j (row f 0 (j * 256))) := by rw [hw0]; exact own_below HB.out.own (Below.refl _ _).drew
      have HDR : Hid (Only (fun _ => False) wr w0) := by rw [hw0]; exact (Only.refl wr).drew
      clear hw0
      have HLD : Hid (∀ s x w, s ≤ 3 → MD w0 u j f kk p s x w → w.cell? ⟨p, 0, none⟩ = some u) := fun s x w hs hm => by
        have hd := own_ne HOW.out HTP.out (by decide)
        match s, hm with
        | 0, hm => rw [show w = w0 from hm]; exact cell_of_row w0 p 0 _ _ _ HTP.out
        | 1, hm => exact cell_of_row w p 0 _ _ _ ((Only.ofBelow (S := fun _ => False) hm).old HTP.out fun z => z)
        | 2, ⟨w1, m1, m2, m3⟩ => exact cell_of_row w p 0 _ _ _ ((Only.ofBelow (S := fun _ => False) (by rw [m3]; exact m1.alloc m1.size _)).old HTP.out fun z => z)
        | 3, ⟨m1, m2, m3⟩ => exact cell_of_row w p 0 _ _ _ (m2.old HTP.out fun z => hd p z rfl)
      refine wpAny_fx (α := Value × Value) (fun x => fun dd => if dd = 24 then .pointer (some ⟨p, 0, none⟩) else if dd = 25 then .pointer (some ⟨p, 0, none⟩) else if dd = 26 then .pointer (some ⟨p, 0, none⟩) else if dd = 27 then .pointer (some ⟨p, 0, none⟩) else if dd = 28 then u else if dd = 29 then .int .i64 kk else if dd = 30 then .agg (row (sp0 kk) 0 256).toArray else if dd = 31 then x.1 else if dd = 32 then x.2 else if dd = 33 then .pointer (some ⟨p, 0, none⟩) else if dd = 34 then .pointer (some ⟨p, 0, none⟩) else undef) (VL [6, 7, 8, 11] 11 9 (MD w0 u j f kk p)) ?step ?fin (.bool true, .bool true) ?start
      case start => exact .start rfl
      case step =>
        rintro listed fr wr x hF hW i hj
        obtain ⟨hl, o, ho, he⟩ := mem_ready.1 hj
        have hjl : i < listed.size := by rw [hF.ls]; exact (Array.getElem?_eq_some_iff.1 ho).1
        have hl0 := getD_tf hjl hl
        clear hj
        have HF := hid hF
        have HW := hid hW
        have HE := hid he
        clear hF hW he hl
        match i, ho with
        | 0, ho =>
          obtain rfl := Option.some.inj ho
          have e4 : fr.tmps[4]?.getD undef = .pointer (some ⟨p, 0, none⟩) := HF.out.base 4 (by kernel_rfl) rfl
          exact wp_q rfl rfl (by simp [execOp, go_sem, e4]; try rfl) ⟨x, HF.out.put (by kernel_rfl) rfl rfl rfl (of_decide_eq_true rfl), HW.out.q hjl (by decide) (by decide)⟩
        | 1, ho =>
          obtain rfl := Option.some.inj ho
          have e4 : fr.tmps[4]?.getD undef = .pointer (some ⟨p, 0, none⟩) := HF.out.base 4 (by kernel_rfl) rfl
          exact wp_q rfl rfl (by simp [execOp, go_sem, e4]; try rfl) ⟨x, HF.out.put (by kernel_rfl) rfl rfl rfl (of_decide_eq_true rfl), HW.out.q hjl (by decide) (by decide)⟩
        | 2, ho =>
          obtain rfl := Option.some.inj ho
          have e25 : fr.tmps[25]?.getD undef = .pointer (some ⟨p, 0, none⟩) := HF.out.ev (i := 1) rfl rfl (HE.out ⟨1, .data⟩ (by simp) rfl)
          exact wp_q rfl rfl (by simp [execOp, go_sem, e25]; try rfl) ⟨x, HF.out.put (by kernel_rfl) rfl rfl rfl (of_decide_eq_true rfl), HW.out.q hjl (by decide) (by decide)⟩
        | 3, ho =>
          obtain rfl := Option.some.inj ho
          have e26 : fr.tmps[26]?.getD undef = .pointer (some ⟨p, 0, none⟩) := HF.out.ev (i := 2) rfl rfl (HE.out ⟨2, .data⟩ (by simp) rfl)
          exact wp_q rfl rfl (by simp [execOp, go_sem, e26]; try rfl) ⟨x, HF.out.put (by kernel_rfl) rfl rfl rfl (of_decide_eq_true rfl), HW.out.q hjl (by decide) (by decide)⟩
        | 4, ho =>
          obtain rfl := Option.some.inj ho
          have e27 : fr.tmps[27]?.getD undef = .pointer (some ⟨p, 0, none⟩) := HF.out.ev (i := 3) rfl rfl (HE.out ⟨3, .data⟩ (by simp) rfl)
          have hc : wr.cell? ⟨p, 0, none⟩ = some u := HW.out.upto 3 rfl hl0 (by decide) (fun s hs hm => HLD.out s x wr hs hm)
          exact wp_q rfl rfl (by simp [execOp, go_sem, e27, hc]; try rfl) ⟨x, HF.out.put (by kernel_rfl) rfl rfl rfl (of_decide_eq_true rfl), HW.out.q hjl (by decide) (by decide)⟩
        | 5, ho =>
          obtain rfl := Option.some.inj ho
          have e6 : fr.tmps[6]?.getD undef = .int .i64 kk := HF.out.base 6 (by kernel_rfl) rfl
          exact wp_q rfl rfl (by simp [execOp, go_sem, e6]; try rfl) ⟨x, HF.out.put (by kernel_rfl) rfl rfl rfl (of_decide_eq_true rfl), HW.out.q hjl (by decide) (by decide)⟩
        | 6, ho =>
          obtain rfl := Option.some.inj ho
          have e29 : fr.tmps[29]?.getD undef = .int .i64 kk := HF.out.ev (i := 5) rfl rfl (HE.out ⟨5, .data⟩ (by simp) rfl)
          have m0 := HW.out.1.at 0 rfl hl0 (fun j hj => by omega)
          subst m0
          refine wp_c1 rfl rfl _ _ _ rfl (.int .i64 kk) (by simp [Act.eval, e29]) (Tryz.call47 _ _) (HNS.out _) ?_
          rintro r w7 ⟨rfl, kb⟩
          exact ⟨_, rfl, x, HF.out.put (by kernel_rfl) rfl rfl rfl (of_decide_eq_true rfl), HW.out.go 0 hjl rfl hl0 (fun j hj => by omega) (by intro a ha; match a, ha with | 0, _ => rfl | 1, ha => simp at ha | 2, ha => simp at ha | 3, ha => simp at ha) kb (by decide)⟩
        | 7, ho =>
          obtain rfl := Option.some.inj ho
          have e30 : fr.tmps[30]?.getD undef = .agg (row (sp0 kk) 0 256).toArray := HF.out.ev (i := 6) rfl rfl (HE.out ⟨6, .data⟩ (by simp) rfl)
          have h6 : listed.getD 6 false = true := HE.out ⟨6, .data⟩ (by simp) rfl
          have m1 := HW.out.1.at 1 rfl hl0 (fun j hj => by obtain rfl : j = 0 := (by omega); exact ⟨6, rfl, h6⟩)
          obtain ⟨i0, hi0, hz0, hs0, hb0⟩ := info_parts info_space
          refine wp_bs rfl rfl 164 168 1 _ rfl (row (sp0 kk) 0 256).toArray i0 _ u_sspace hi0 hz0 (by rw [hs0]; decide) (by rw [hs0]; decide) ?_ ?_
          · have := Great.fill_whole (s := 256) (by decide) [.agg (row (sp0 kk) 0 256).toArray] ((Array.range (1 * 256)).map (((Value.agg (List.replicate 256 (Value.int .u8 0)).toArray).cells)[· % (Value.agg (List.replicate 256 (Value.int .u8 0)).toArray).cells.size]!)) (fun v hv => by rw [List.mem_singleton.1 hv]; simp [Value.cells, C.row_length]) (by simp)
            rw [hs0]
            have e1 : Act.eval fr (.tmp 30) = .agg (row (sp0 kk) 0 256).toArray := by simp [Act.eval, e30]
            simp only [List.map_toArray, List.map_cons, List.map_nil, e1]
            refine this.trans ?_
            simp [Value.cells]
          have HFy : Hid (FrQ _ ((fun x : Value × Value => fun dd => if dd = 24 then .pointer (some ⟨p, 0, none⟩) else if dd = 25 then .pointer (some ⟨p, 0, none⟩) else if dd = 26 then .pointer (some ⟨p, 0, none⟩) else if dd = 27 then .pointer (some ⟨p, 0, none⟩) else if dd = 28 then u else if dd = 29 then .int .i64 kk else if dd = 30 then .agg (row (sp0 kk) 0 256).toArray else if dd = 31 then x.1 else if dd = 32 then x.2 else if dd = 33 then .pointer (some ⟨p, 0, none⟩) else if dd = 34 then .pointer (some ⟨p, 0, none⟩) else undef) (.slice (some ⟨wr.heap.size, 0, none⟩) 1 1, x.2)) _ listed fr) := HF.out.swap (fun j o d g1 g2 g3 => by
            by_cases e : d = 31
            · subst e
              have := ndB_spec (j := j) (k := 7) (d := 31) (by kernel_rfl) g1 rfl g2 rfl
              subst this
              rw [hl0] at g3; cases g3
            · simp [e])
          exact ⟨(.slice (some ⟨wr.heap.size, 0, none⟩) 1 1, x.2), HFy.out.put (by kernel_rfl) rfl rfl rfl (of_decide_eq_true rfl), HW.out.go 1 hjl rfl hl0 (fun j hj => by obtain rfl : j = 0 := (by omega); exact ⟨6, rfl, h6⟩) (by intro a ha; match a, ha with | 0, ha => simp at ha | 1, _ => rfl | 2, ha => simp at ha | 3, ha => simp at ha) ⟨wr, m1, rfl, rfl⟩ (by decide)⟩
        | 8, ho =>
          obtain rfl := Option.some.inj ho
          have e28 : fr.tmps[28]?.getD undef = u := HF.out.ev (i := 4) rfl rfl (HE.out ⟨4, .data⟩ (by simp) rfl)
          have e31 : fr.tmps[31]?.getD undef = x.1 := HF.out.ev (i := 7) rfl rfl (HE.out ⟨7, .data⟩ (by simp) rfl)
          have h7 : listed.getD 7 false = true := HE.out ⟨7, .data⟩ (by simp) rfl
          obtain ⟨w1, m1, m2, rfl⟩ := HW.out.1.at 2 rfl hl0 (fun j hj => by obtain rfl : j = 1 := (by omega); exact ⟨7, rfl, h7⟩)
          obtain ⟨i0, hi0, hz0, hs0, hb0⟩ := info_parts info_space
          have hb1 : Below w0.heap.size w0 (w1.alloc (.cells (row (sp0 kk) 0 256).toArray 168)) := m1.alloc m1.size _
          have e28' : Act.eval fr (.tmp 28) = u := by simp [Act.eval, e28]
          have e31' : Act.eval fr (.tmp 31) = .slice (some ⟨w1.heap.size, 0, none⟩) 1 1 := by simp [Act.eval, e31, m2]
          refine wpOp_step rfl fun K' hK => ?_
          refine step_append_blk _ (.tmp 28) (.tmp 31) 164 rfl 168 i0 _ 256 256 u_sspace hi0 hz0 hs0 hb0 (by simp [Value.cells]) (by decide) u j (row f 0 (j * 256)) e28' (own_only HOW.out (T := fun _ => False) (.ofBelow hb1) fun _ _ z => z) ⟨w1.heap.size, 0, none⟩ 1 1 (row (sp0 kk) 0 256) e31' (by simp [C.row_length]) ?_ (C.row_one _ _ _) (show j + 1 ≤ 9223372036854775807 by omega) (by omega) rfl ?_
          · intro i v hv
            have hi : i < 256 := by
              rcases Nat.lt_or_ge i 256 with q | q
              · exact q
              · rw [List.getElem?_eq_none (by simpa [C.row_length] using q)] at hv; cases hv
            rw [C.addr_add, Nat.zero_add, cell_of_row _ _ i _ _ _ (heap_alloc_new w1 _)]
            simpa using hv
          intro v' w3 hown hgrow hblk
          have ho : Only (Ug u) w0 w3 := (Only.ofBelow hb1).trans (grown_ug hgrow)
          have HFy : Hid (FrQ _ ((fun x : Value × Value => fun dd => if dd = 24 then .pointer (some ⟨p, 0, none⟩) else if dd = 25 then .pointer (some ⟨p, 0, none⟩) else if dd = 26 then .pointer (some ⟨p, 0, none⟩) else if dd = 27 then .pointer (some ⟨p, 0, none⟩) else if dd = 28 then u else if dd = 29 then .int .i64 kk else if dd = 30 then .agg (row (sp0 kk) 0 256).toArray else if dd = 31 then x.1 else if dd = 32 then x.2 else if dd = 33 then .pointer (some ⟨p, 0, none⟩) else if dd = 34 then .pointer (some ⟨p, 0, none⟩) else undef) (x.1, v')) _ listed fr) := HF.out.swap (fun j o d g1 g2 g3 => by
            by_cases e : d = 32
            · subst e
              have := ndB_spec (j := j) (k := 8) (d := 32) (by kernel_rfl) g1 rfl g2 rfl
              subst this
              rw [hl0] at g3; cases g3
            · simp [e])
          exact hK _ _ ⟨(x.1, v'), HFy.out.put (by kernel_rfl) rfl rfl rfl (of_decide_eq_true rfl), HW.out.go 2 hjl rfl hl0 (fun j hj => by obtain rfl : j = 1 := (by omega); exact ⟨7, rfl, h7⟩) (by intro a ha; match a, ha with | 0, ha => simp at ha | 1, ha => simp at ha | 2, _ => rfl | 3, ha => simp at ha) ⟨hown, ho, fun k hk => (hblk k hk).imp id fun z => Nat.le_trans hb1.size z⟩ (by decide)⟩
        | 9, ho =>
          obtain rfl := Option.some.inj ho
          have e24 : fr.tmps[24]?.getD undef = .pointer (some ⟨p, 0, none⟩) := HF.out.ev (i := 0) rfl rfl (HE.out ⟨0, .data⟩ (by simp) rfl)
          exact wp_q rfl rfl (by simp [execOp, go_sem, e24]; try rfl) ⟨x, HF.out.put (by kernel_rfl) rfl rfl rfl (of_decide_eq_true rfl), HW.out.q hjl (by decide) (by decide)⟩
        | 10, ho =>
          obtain rfl := Option.some.inj ho
          have e33 : fr.tmps[33]?.getD undef = .pointer (some ⟨p, 0, none⟩) := HF.out.ev (i := 9) rfl rfl (HE.out ⟨9, .data⟩ (by simp) rfl)
          exact wp_q rfl rfl (by simp [execOp, go_sem, e33]; try rfl) ⟨x, HF.out.put (by kernel_rfl) rfl rfl rfl (of_decide_eq_true rfl), HW.out.q hjl (by decide) (by decide)⟩
        | 11, ho =>
          obtain rfl := Option.some.inj ho
          have e34 : fr.tmps[34]?.getD undef = .pointer (some ⟨p, 0, none⟩) := HF.out.ev (i := 10) rfl rfl (HE.out ⟨10, .data⟩ (by simp) rfl)
          have e32 : fr.tmps[32]?.getD undef = x.2 := HF.out.ev (i := 8) rfl rfl (HE.out ⟨8, .data⟩ (by simp) rfl)
          have ha : ∀ j, j < 9 → listed.getD j false = true := he_all HE.out 9 (by kernel_rfl)
          obtain ⟨m1, m2, m3⟩ := HW.out.1.at 3 rfl hl0 (fun j hj => by obtain rfl : j = 2 := (by omega); exact ⟨8, rfl, ha 8 (by decide)⟩)
          have c1 : wr.cell? ⟨p, 0, none⟩ = some u := by
            have := m2.old HTP.out (fun z => own_ne HOW.out HTP.out (by decide) p z rfl)
            exact cell_of_row wr p 0 _ _ _ this
          have z1 : wr.frozen? ⟨p, 0, none⟩ = false := by
            have := m2.old HTP.out (fun z => own_ne HOW.out HTP.out (by decide) p z rfl)
            exact frozen_of_row wr p 0 _ _ this
          have o1 : x.2.oneCell' = true := by
            rcases m1.2 with ⟨q, -⟩ | ⟨g, cap, cur, q, -⟩ <;> rw [q] <;> rfl
          obtain ⟨ad3, l3, cp3, hx2⟩ : ∃ ad l c, x.2 = .slice ad l c := by
            rcases m1.2 with ⟨q, -⟩ | ⟨g, cap, cur, q, -⟩ <;> exact ⟨_, _, _, q⟩
          exact wp_s rfl rfl (w' := wr.setCell ⟨p, 0, none⟩ x.2) (by rw [hx2] at e32; simp [execOp, go_sem, e34, e32, c1, z1, hx2]; try rfl) ⟨x, HF.out.skip rfl rfl _, HW.out.last 3 hjl rfl hl0 (fun j hj => by obtain rfl : j = 2 := (by omega); exact ⟨8, rfl, ha 8 (by decide)⟩) (by intro a h; match a, h with | 0, h => simp at h | 1, h => simp at h | 2, h => simp at h | 3, _ => rfl) ⟨wr, m1, m2, m3, rfl⟩ ha⟩
      case fin =>
        rintro listed fr w2 x hF hW hr
        have all := allDone hr hF.ls (by kernel_rfl)
        have k1 := hW.1.end 3 rfl (all 11 (by decide)) (fun s hs hm => by
          match s, hs, hm with
          | 4, _, hm => exact hm
          | n + 5, _, hm => exact hm.elim)
        obtain ⟨w3, m1, m2, m3, rfl⟩ := k1
        rw [hF.full all]
        clear hF hW hr all
        obtain ⟨u2, hu2⟩ : ∃ u2, u2 = x.2 := ⟨_, rfl⟩
        have HB2 : Hid (Bx (w3.setCell ⟨p, 0, none⟩ x.2) p u2 (j + 1) (spn K)) := by rw [hu2]; exact bx_grow HTP.out HOW.out m1 m2 (fun i hi => HBF.out i hi) (by rw [HKK.out])
        have HO2 : Hid (Below W.heap.size W (w3.setCell ⟨p, 0, none⟩ x.2)) := (HBW.out.trans (((HDR.out.mono (T := fun x => W.heap.size ≤ x) (fun _ _ z => z.elim)).trans (m2.mono fun k _ hk => HFR.out k hk)).below _ HBW.out.size fun k hk => hk)).setCell (by rw [HPp.out]; exact Nat.le_refl _) _
        have HF2 : Hid (∀ k, Ug u2 k → W.heap.size ≤ k) := by rw [hu2]; exact fun k hk => (m3 k hk).elim (HFR.out k) fun z => Nat.le_trans HBW.out.size (Nat.le_trans HDR.out.size z)
        clear m1 m2 m3 hu2 HLD
        generalize w3.setCell ⟨p, 0, none⟩ x.2 = w4 at *
        simp only [List.foldl_cons, List.foldl_nil, fillF]
        go_simp
        go_wp2
        go_roundw
        case rel => exact ⟨j + 1, u2, by omega, by go_num, HB2, HO2, HF2⟩
        case measure => simp [intOf]; omega
    · obtain rfl : j = n := by omega
      go_wp2
      go_returns
      rw [← HPp.out]
      exact ⟨rfl, u, HB.out, HPp.out ▸ HBW.out, HPp.out ▸ HFR.out⟩
end Go.Proofs.YtjkihlpckgaggaaGreat.P
namespace Go.Proofs.YtjkihlpckgaggaaGreat
open Go.RowKit
open C (Only hid Still ret_bool ret_int)
open P (Ls)
set_option linter.unusedVariables false
set_option maxRecDepth 100000

/-- is a number among the first n? -/
def memK (K : Nat → Int) (x : Int) : Nat → Bool
  | 0 => false
  | n + 1 => memK K x n || K n == x
theorem memK_hit {K : Nat → Int} {x : Int} : ∀ {n j : Nat}, j < n → K j = x → memK K x n = true
  | n + 1, j, h, e => by
    unfold memK
    by_cases z : j = n
    · subst z; simp [e]
    · rw [memK_hit (n := n) (by omega) e]; simp
theorem memK_no {K : Nat → Int} {x : Int} {n : Nat} (h : memK K x n = false) : ∀ j, j < n → K j ≠ x := fun j hj e => by
  rw [memK_hit hj e] at h; cases h
theorem memK_s {K : Nat → Int} {x : Int} {n : Nat} (h : memK K x n = false) (hx : ¬ x = K n) : memK K x (n + 1) = false := by
  unfold memK
  rw [h]
  simp
  exact fun e => hx e.symm
def kd1 (k : Int) : Bool := k == 1 || k == 2 || k == 3 || k == 8
/-- kinds that there are, none twice -/
def okK (K : Nat → Int) : Nat → Bool
  | 0 => true
  | n + 1 => okK K n && (kd1 (K n) && !memK K (K n) n)
theorem okK_no {K : Nat → Int} : ∀ {n j : Nat}, j < n → (kd1 (K j) && !memK K (K j) j) = false → okK K n = false
  | n + 1, j, h, e => by
    unfold okK
    by_cases z : j = n
    · subst z; rw [e]; simp
    · rw [okK_no (n := n) (by omega) e]; simp
theorem okK_at {K : Nat → Int} {n j : Nat} (h : okK K n = true) (hj : j < n) : kd1 (K j) = true ∧ memK K (K j) j = false := by
  cases e : (kd1 (K j) && !memK K (K j) j)
  · rw [okK_no hj e] at h; cases h
  · simpa using e
theorem okK_len {K : Nat → Int} {n : Nat} (h : okK K n = true) : n ≤ 4 := by
  rcases Nat.lt_or_ge 4 n with q | q
  · exfalso
    have a : ∀ j, j < 5 → (K j = 1 ∨ K j = 2 ∨ K j = 3 ∨ K j = 8) ∧ ∀ i, i < j → K i ≠ K j := fun j hj => by
      obtain ⟨h1, h2⟩ := okK_at h (j := j) (by omega)
      exact ⟨by simpa [kd1, or_assoc] using h1, memK_no h2⟩
    obtain ⟨a0, -⟩ := a 0 (by decide)
    obtain ⟨a1, b1⟩ := a 1 (by decide)
    obtain ⟨a2, b2⟩ := a 2 (by decide)
    obtain ⟨a3, b3⟩ := a 3 (by decide)
    obtain ⟨a4, b4⟩ := a 4 (by decide)
    have c01 := b1 0 (by decide)
    have c02 := b2 0 (by decide)
    have c12 := b2 1 (by decide)
    have c03 := b3 0 (by decide)
    have c13 := b3 1 (by decide)
    have c23 := b3 2 (by decide)
    have c04 := b4 0 (by decide)
    have c14 := b4 1 (by decide)
    have c24 := b4 2 (by decide)
    have c34 := b4 3 (by decide)
    omega
  · exact q
/-- may a board be so? -/
def rgt (h : Int) (K : Nat → Int) (n m : Nat) : Bool := decide (1 ≤ h ∧ h ≤ 64) && (okK K n && (bif memK K 2 n then decide (m ≤ 32768 ∧ m % 512 = 0) else decide (m = 0)))

theorem g_Index (w : World) (ad : Option Addr) (n cap b o : Nat) (K : Nat → Int) (hL : Ls w ad n cap b o K) (x : Int) : Calls Tryz.prog 27 #[.slice ad n cap, .int .i64 x] w fun e w' => ∃ r : Int, e = .returned (.int .i64 r) ∧ (decide (0 ≤ r)) = memK K x n ∧ w' = w := by
  have HL := hid hL
  have h1 := hL.len
  have h2 := hL.cap
  clear hL
  go_enter Tryz.func27, Tryz.ntmps27
  go_wp2
  go_loopw [8] (fun i wr => ∃ j : Nat, j ≤ n ∧ i = .int .i64 j ∧ memK K x j = false ∧ wr = w) (fun i _ => n - (intOf i).toNat)
  case atStart => exact ⟨0, by omega, rfl, rfl, rfl⟩
  case round =>
    obtain ⟨j, hj, rfl, hm, rfl⟩ := hrel
    have HM := hid hm
    clear hm
    by_cases hlt : j < n
    · have hlt' : (j : Int) < (n : Int) := by omega
      obtain ⟨rfl, hb⟩ := HL.out.at0 (by omega)
      have c := HL.out.cell j hlt
      clear hb
      by_cases hx : x = K j
      · go_wp2
        go_ret
        exact ⟨j, rfl, by rw [memK_hit hlt hx.symm]; simp, rfl⟩
      · go_wp2
        go_roundw
        case rel => exact ⟨j + 1, by omega, by go_num, memK_s HM.out hx, by trivial⟩
        case measure => simp [intOf]; omega
    · have hge : ¬ (j : Int) < (n : Int) := by omega
      obtain rfl : j = n := by omega
      go_wp2
      go_ret
      exact ⟨-1, rfl, by rw [HM.out]; rfl, rfl⟩
theorem g_Contains (w : World) (ad : Option Addr) (n cap b o : Nat) (K : Nat → Int) (hL : Ls w ad n cap b o K) (x : Int) : Calls Tryz.prog 19 #[.slice ad n cap, .int .i64 x] w fun e w' => e = .returned (.bool (memK K x n)) ∧ w' = w := by
  have HI := hid (g_Index w ad n cap b o K hL x)
  clear hL
  go_enter Tryz.func19, Tryz.ntmps19
  go_wp2_with (go_at_call 27; refine HI.out.mono ?_; rintro e w1 ⟨r, rfl, k1, k2⟩; obtain rfl := k2.symm; have H1 := hid k1; clear k1)
  go_ret
  exact ⟨by rw [← H1.out]; rfl, rfl⟩
theorem Ls.pre {w : World} {ad : Option Addr} {n cap b o : Nat} {K : Nat → Int} (h : Ls w ad n cap b o K) {j : Nat} (hj : j ≤ n) : Ls w ad j cap b o K :=
  ⟨Nat.le_trans hj h.len, h.cap, fun q => h.at0 (by omega), fun i hi => h.cell i (by omega), fun i hi => h.num i (by omega)⟩
set_option maxHeartbeats 1000000 in
theorem g_areDevs (w : World) (ad : Option Addr) (n cap b o : Nat) (K : Nat → Int) (hL : Ls w ad n cap b o K) : Calls Tryz.prog 17 #[.slice ad n cap] w fun e w' => e = .returned (.bool (okK K n)) ∧ w' = w := by
  have HL := hid hL
  have h1 := hL.len
  have h2 := hL.cap
  clear hL
  go_enter Tryz.func17, Tryz.ntmps17
  go_wp2
  go_loopw [7] (fun i wr => ∃ j : Nat, j ≤ n ∧ i = .int .i64 j ∧ okK K j = true ∧ wr = w) (fun i _ => n - (intOf i).toNat)
  case atStart => exact ⟨0, by omega, rfl, rfl, rfl⟩
  case round =>
    obtain ⟨j, hj, rfl, hm, rfl⟩ := hrel
    have HM := hid hm
    clear hm
    by_cases hlt : j < n
    · have hlt' : (j : Int) < (n : Int) := by omega
      have HC := hid (fun (hs : True) => g_Contains wr ad j cap b o K (Ls.pre HL.out hj) (K j))
      obtain ⟨rfl, hb⟩ := HL.out.at0 (by omega)
      have c := HL.out.cell j hlt
      clear hb
      have HK : Hid (kd1 (K j) = false → okK K n = false) := hid fun e => okK_no hlt (by rw [e]; rfl)
      have HN : Hid (memK K (K j) j = true → okK K n = false) := hid fun e => okK_no hlt (by rw [e]; simp)
      have HY : Hid (kd1 (K j) = true → memK K (K j) j = false → okK K (j + 1) = true) := hid fun e1 e2 => by unfold okK; rw [HM.out, e1, e2]; rfl
      have hcj : j ≤ cap := by omega
      have hcj' : (j : Int) ≤ (cap : Int) := by omega
      generalize K j = x at *
      by_cases k1 : x = 1 ∨ x = 2 ∨ x = 3 ∨ x = 8
      · have hk : kd1 x = true := by simp [kd1]; omega
        cases hmm : memK K x j
        · have HMM := hid hmm
          have HKK := hid hk
          clear hmm hk
          rcases k1 with rfl | rfl | rfl | rfl
          all_goals
            go_wp2_with (go_at_call 19; refine (HC.out trivial).mono ?_; rintro e w1 ⟨rfl, k2⟩; obtain rfl := k2.symm; rw [HMM.out])
            go_roundw
            case rel => exact ⟨j + 1, by omega, by go_num, HY.out HKK.out HMM.out, by trivial⟩
            case measure => simp [intOf]; omega
        · have HMM := hid hmm
          clear hmm hk
          rcases k1 with rfl | rfl | rfl | rfl
          all_goals
            go_wp2_with (go_at_call 19; refine (HC.out trivial).mono ?_; rintro e w1 ⟨rfl, k2⟩; obtain rfl := k2.symm; rw [HMM.out])
            go_ret
            exact ⟨by rw [HN.out HMM.out]; rfl, rfl⟩
      · have hk : kd1 x = false := by simp [kd1]; omega
        have HKK := hid hk
        have n1 : ¬ x = 1 := fun e => k1 (.inl e)
        have n2 : ¬ x = 2 := fun e => k1 (.inr (.inl e))
        have n3 : ¬ x = 3 := fun e => k1 (.inr (.inr (.inl e)))
        have n8 : ¬ x = 8 := fun e => k1 (.inr (.inr (.inr e)))
        clear hk k1
        go_wp2
        go_ret
        exact ⟨by rw [HK.out HKK.out]; rfl, rfl⟩
    · have hge : ¬ (j : Int) < (n : Int) := by omega
      obtain rfl : j = n := by omega
      go_wp2
      go_ret
      exact ⟨by rw [HM.out]; rfl, rfl⟩
theorem g_isDisk (w : World) (ad : Option Addr) (m cap : Nat) (hm : (m : Int) ≤ 9223372036854775807) (z : Bool) : Calls Tryz.prog 18 #[.slice ad m cap, .bool z] w fun e w' => e = .returned (.bool (bif z then decide (m ≤ 32768 ∧ m % 512 = 0) else decide (m = 0))) ∧ w' = w := by
  have d1 : ((m : Int) == 0) = decide (m = 0) := by rw [Bool.eq_iff_iff]; simp
  have d2 : ((m : Int) % 512 == 0) = decide (m % 512 = 0) := by rw [Bool.eq_iff_iff]; simp; omega
  have e1 : (m : Int).tmod 512 = ((m % 512 : Nat) : Int) := by rw [Int.tmod_eq_emod_of_nonneg (by omega)]; omega
  cases z
  · go_enter Tryz.func18, Tryz.ntmps18
    go_wp2
    go_ret
    refine ⟨ret_bool ?_, rfl⟩
    simp
  · go_enter Tryz.func18, Tryz.ntmps18
    by_cases hl : (m : Int) ≤ 32768
    · have hl2 : m ≤ 32768 := by omega
      go_wp2
      go_ret
      refine ⟨ret_bool ?_, rfl⟩
      simp [hl2]
    · have hl2 : ¬ m ≤ 32768 := by omega
      go_wp2
      go_ret
      refine ⟨ret_bool ?_, rfl⟩
      simp
end Go.Proofs.YtjkihlpckgaggaaGreat
namespace Go.Proofs.YtjkihlpckgaggaaGreat
open Go.RowKit
open C (Only hid Still ret_bool ret_int)
open P (Ls)
set_option linter.unusedVariables false
set_option maxRecDepth 100000

set_option maxHeartbeats 1000000 in
theorem g_Right (w : World) (h : Int) (h0 : -9223372036854775808 ≤ h) (h1 : h ≤ 9223372036854775807) (ad : Option Addr) (n cap b o : Nat) (K : Nat → Int) (hL : Ls w ad n cap b o K) (ad2 : Option Addr) (m cap2 : Nat) (hm : (m : Int) ≤ 9223372036854775807) :
    Calls Tryz.prog 7 #[.int .i64 h, .slice ad n cap, .slice ad2 m cap2] w fun e w' => e = .returned (.bool (rgt h K n m)) ∧ w' = w := by
  have HA := hid (g_areDevs w ad n cap b o K hL)
  have HC := hid (g_Contains w ad n cap b o K hL 2)
  clear hL
  by_cases a1 : 1 ≤ h
  · by_cases a2 : h ≤ 64
    · have a3 : decide (1 ≤ h ∧ h ≤ 64) = true := by simp [a1, a2]
      have HR : Hid (rgt h K n m = (okK K n && (bif memK K 2 n then decide (m ≤ 32768 ∧ m % 512 = 0) else decide (m = 0)))) := hid (by unfold rgt; rw [a3]; rfl)
      clear a3
      generalize okK K n = ok at *
      generalize memK K 2 n = mk at *
      have HD := hid (g_isDisk w ad2 m cap2 hm mk)
      generalize (bif mk then decide (m ≤ 32768 ∧ m % 512 = 0) else decide (m = 0)) = dk at *
      go_enter Tryz.func7, Tryz.ntmps7
      cases ok
      · go_wp2_with (first
          | (go_at_call 17; refine HA.out.mono ?_; rintro e w1 ⟨rfl, k2⟩; obtain rfl := k2.symm))
        go_ret
        exact ⟨by rw [HR.out]; rfl, rfl⟩
      · go_wp2_with (first
          | (go_at_call 17; refine HA.out.mono ?_; rintro e w1 ⟨rfl, k2⟩; obtain rfl := k2.symm)
          | (go_at_call 19; refine HC.out.mono ?_; rintro e w1 ⟨rfl, k2⟩; obtain rfl := k2.symm)
          | (go_at_call 18; refine HD.out.mono ?_; rintro e w1 ⟨rfl, k2⟩; obtain rfl := k2.symm))
        go_ret
        exact ⟨by rw [HR.out]; rfl, rfl⟩
    · have HR : Hid (rgt h K n m = false) := hid (by unfold rgt; simp [a2])
      go_enter Tryz.func7, Tryz.ntmps7
      go_wp2
      go_ret
      exact ⟨by rw [HR.out]; rfl, rfl⟩
  · have HR : Hid (rgt h K n m = false) := hid (by unfold rgt; simp [a1])
    go_enter Tryz.func7, Tryz.ntmps7
    go_wp2
    go_ret
    exact ⟨by rw [HR.out]; rfl, rfl⟩
theorem rgt_len {h : Int} {K : Nat → Int} {n m : Nat} (q : 8 < n) : rgt h K n m = false := by
  unfold rgt
  cases e : okK K n
  · simp
  · have := okK_len e; omega
theorem rgt_m {h : Int} {K : Nat → Int} {n m : Nat} (q : 32768 < m ∨ ¬ m % 512 = 0) : rgt h K n m = false := by
  unfold rgt
  cases e : memK K 2 n
  · have : ¬ m = 0 := by omega
    simp [this]
  · have : ¬ (m ≤ 32768 ∧ m % 512 = 0) := by omega
    simp [this]
theorem rgt_all {h : Int} {K : Nat → Int} {n m : Nat} (a : 1 ≤ h) (a2 : h ≤ 64) (hk : okK K n = true) (q : m ≤ 32768) (q2 : m % 512 = 0) : rgt h K n m = (memK K 2 n || decide (m = 0)) := by
  unfold rgt
  rw [hk]
  cases e : memK K 2 n <;> simp [a, a2, q, q2]
theorem rgt_ok {h : Int} {K : Nat → Int} {n m : Nat} (hk : okK K n = false) : rgt h K n m = false := by
  unfold rgt
  rw [hk]
  simp
set_option maxHeartbeats 2000000 in
theorem r_Right (w : World) (h : Int) (h0 : -9223372036854775808 ≤ h) (h1 : h ≤ 9223372036854775807) (ad : Option Addr) (n cap b o : Nat) (K : Nat → Int) (hL : Ls w ad n cap b o K) (ad2 : Option Addr) (m cap2 : Nat) (hm : (m : Int) ≤ 9223372036854775807) :
    Calls Tryz.prog 9 #[.int .i64 h, .slice ad n cap, .slice ad2 m cap2] w fun e w' => e = .returned (.bool (rgt h K n m)) ∧ w' = w := by
  have HL := hid hL
  have l1 := hL.len
  have l2 := hL.cap
  clear hL
  by_cases a1 : h < 1
  · have HR : Hid (rgt h K n m = false) := hid (by unfold rgt; have : ¬ 1 ≤ h := (by omega); simp [this])
    go_enter Tryz.func9, Tryz.ntmps9
    go_wp2
    go_ret
    exact ⟨by rw [HR.out]; rfl, rfl⟩
  · by_cases a2 : h > 64
    · have HR : Hid (rgt h K n m = false) := hid (by unfold rgt; have : ¬ h ≤ 64 := (by omega); simp [this])
      go_enter Tryz.func9, Tryz.ntmps9
      go_wp2
      go_ret
      exact ⟨by rw [HR.out]; rfl, rfl⟩
    · by_cases a3 : (n : Int) > 8
      · have HR : Hid (rgt h K n m = false) := hid (rgt_len (by omega))
        go_enter Tryz.func9, Tryz.ntmps9
        go_wp2
        go_ret
        exact ⟨by rw [HR.out]; rfl, rfl⟩
      · by_cases a4 : (m : Int) > 32768
        · have HR : Hid (rgt h K n m = false) := hid (rgt_m (.inl (by omega)))
          go_enter Tryz.func9, Tryz.ntmps9
          go_wp2
          go_ret
          exact ⟨by rw [HR.out]; rfl, rfl⟩
        · have e1 : (m : Int).tmod 512 = ((m % 512 : Nat) : Int) := by rw [Int.tmod_eq_emod_of_nonneg (by omega)]; omega
          by_cases a5 : m % 512 = 0
          · rw [a5] at e1
            have e1' : (m : Int).tmod 512 = 0 := e1
            clear e1
            have HRA := hid (fun (q : okK K n = true) => rgt_all (h := h) (m := m) (by omega) (by omega) q (by omega) a5)
            clear a5
            go_enter Tryz.func9, Tryz.ntmps9
            go_wp2
            go_loopw [7, 8] (fun bk i wr => ∃ j : Nat, j ≤ n ∧ bk = .bool (memK K 2 j) ∧ i = .int .i64 j ∧ okK K j = true ∧ wr = w) (fun _ i _ => n - (intOf i).toNat)
            case atStart => exact ⟨0, by omega, rfl, rfl, rfl, rfl⟩
            case round =>
              obtain ⟨j, hj, rfl, rfl, hk, rfl⟩ := hrel
              have HK := hid hk
              clear hk
              by_cases hlt : j < n
              · have hlt' : (j : Int) < (n : Int) := by omega
                obtain ⟨rfl, hb⟩ := HL.out.at0 (by omega)
                have c := HL.out.cell j hlt
                clear hb
                have HNk : Hid (kd1 (K j) = false → okK K n = false) := hid fun e => okK_no hlt (by rw [e]; rfl)
                have HNm : Hid (memK K (K j) j = true → okK K n = false) := hid fun e => okK_no hlt (by rw [e]; simp)
                have HY : Hid (kd1 (K j) = true → memK K (K j) j = false → okK K (j + 1) = true) := hid fun e1 e2 => by unfold okK; rw [HK.out, e1, e2]; rfl
                have HM2 : Hid (memK K 2 (j + 1) = (memK K 2 j || K j == 2)) := hid rfl
                by_cases k1 : K j = 1 ∨ K j = 2 ∨ K j = 3 ∨ K j = 8
                · have hk : kd1 (K j) = true := by simp [kd1]; omega
                  have HKK := hid hk
                  clear hk
                  obtain ⟨x, hx⟩ : ∃ x, K j = x := ⟨_, rfl⟩
                  have HX := hid hx
                  obtain ⟨mj, hmj⟩ : ∃ mj, memK K 2 j = mj := ⟨_, rfl⟩
                  rw [hmj] at HM2 ⊢
                  rw [hx] at c k1 HNk HNm HY HM2 HKK
                  obtain ⟨m2, hm2⟩ : ∃ m2, memK K 2 (j + 1) = m2 := ⟨_, rfl⟩
                  rw [hm2] at HM2
                  have HMe := hid hm2
                  clear hmj hx hm2
                  have step : ∀ (bk : Bool), bk = m2 → Hid (bk = m2) := fun _ e => hid e
                  cases mj <;> rcases k1 with rfl | rfl | rfl | rfl
                  all_goals
                    have hm2 := HM2.out
                    simp at hm2
                    subst hm2
                    go_wp2
                    go_loopw [10] (fun i wr2 => ∃ t : Nat, t ≤ j ∧ i = .int .i64 t ∧ memK K (K j) t = false ∧ wr2 = wr) (fun i _ => j - (intOf i).toNat)
                    case atStart => exact ⟨0, by omega, rfl, rfl, rfl⟩
                    case round =>
                      obtain ⟨t, ht, rfl, hmt, rfl⟩ := hrel
                      have HT := hid hmt
                      clear hmt
                      by_cases htl : t < j
                      · have htl' : (t : Int) < (j : Int) := by omega
                        have ct := HL.out.cell t (by omega)
                        have hti : (t : Int) < (n : Int) := by omega
                        rw [HX.out] at HT
                        by_cases he : K t = K j
                        · have he2 := he
                          rw [HX.out] at he2
                          rw [he2] at ct
                          have HF := hid (HNm.out (memK_hit htl he2))
                          clear he he2
                          go_wp2
                          go_ret
                          exact ⟨by rw [rgt_ok HF.out]; rfl, rfl⟩
                        · rw [HX.out] at he
                          have HE := hid (memK_s HT.out (fun q => he q.symm))
                          go_wp2
                          go_roundw
                          case rel => exact ⟨t + 1, by omega, by go_num, by rw [HX.out]; exact HE.out, by trivial⟩
                          case measure => simp [intOf]; omega
                      · have hge : ¬ (t : Int) < (j : Int) := by omega
                        obtain rfl : t = j := by omega
                        rw [HX.out] at HT
                        go_wp2
                        go_roundw
                        case rel => exact ⟨t + 1, by omega, by rw [HMe.out], by go_num, HY.out HKK.out HT.out, by trivial⟩
                        case measure => simp [intOf]; omega
                · have hk : kd1 (K j) = false := by simp [kd1]; omega
                  have HF := hid (HNk.out hk)
                  obtain ⟨x, hx⟩ : ∃ x, K j = x := ⟨_, rfl⟩
                  rw [hx] at c k1
                  have n1 : (x != 1) = true := by simp; omega
                  have n2 : (x != 2) = true := by simp; omega
                  have n3 : (x != 3) = true := by simp; omega
                  have n8 : (x != 8) = true := by simp; omega
                  clear hk k1 HM2 hx HNk HNm HY
                  go_wp2
                  go_ret
                  exact ⟨by rw [rgt_ok HF.out]; rfl, rfl⟩
              · have hge : ¬ (j : Int) < (n : Int) := by omega
                obtain rfl : j = n := by omega
                have HRR := hid (HRA.out HK.out)
                have d1 : ((m : Int) == 0) = decide (m = 0) := by rw [Bool.eq_iff_iff]; simp
                cases hmm : memK K 2 j
                · rw [hmm] at HRR
                  go_wp2
                  go_ret
                  exact ⟨by rw [HRR.out]; simp, rfl⟩
                · rw [hmm] at HRR
                  go_wp2
                  go_ret
                  exact ⟨by rw [HRR.out]; rfl, rfl⟩
          · have e2 : ¬ (m : Int).tmod 512 = 0 := by omega
            have HR : Hid (rgt h K n m = false) := hid (rgt_m (.inr a5))
            clear e1
            go_enter Tryz.func9, Tryz.ntmps9
            go_wp2
            go_ret
            exact ⟨by rw [HR.out]; rfl, rfl⟩
end Go.Proofs.YtjkihlpckgaggaaGreat
namespace Go.Proofs.YtjkihlpckgaggaaGreat.L
open Go.RowKit
open C (Only hid Still ret_bool ret_int)
set_option linter.unusedVariables false
set_option maxRecDepth 100000

section
variable {P : Program} (w : World) {o : Oper} {a : Act} {Q : Exit → Act → World → Prop} (s x : Operand) (t : TypeId)
    (ho : o.op = .call { callee := .builtin .append, args := #[s, x], argTypes := #[t, t] })
    (e : TypeId) (i : TypeInfo) (z : Value) (size bytes : Nat) (ht : P.underlying t = some (.slice e)) (hi : P.info? e = some i) (hz : i.zero = some z)
    (hsize : i.size = size) (hby : i.bytes = bytes) (hzs : z.cells.size = size) (hsz : 0 < size)
    (v : Value) (n : Nat) (xs : List Value) (hs : a.eval s = v) (hown : w.ownsRow 0 e size v n xs)
    (ad : Addr) (m c : Nat) (news : List Value) (hx : a.eval x = .slice (some ad) m c) (hl : news.length = m * size) (hnews : ∀ j u, news[j]? = some u → w.cell? (ad.add j) = some u) (h1 : ∀ u ∈ news, u.oneCell' = true)
    (h63 : n + m ≤ maxLen) (hbytes : (n + m) * bytes ≤ 140737488355328)
include ho ht hi hz hsize hby hzs hsz hs hown hx hl hnews h1 h63 hbytes
/-- append: the list's block is the elder one or a new one -/
theorem wp_append_blk {K : Act → World → Prop} (h : ∀ v' w', w'.ownsRow 0 e size v' (n + m) (xs ++ news) → w.grownBy w' v.ownBlock → (∀ k, v'.ownBlock = some k → v.ownBlock = some k ∨ w.heap.size ≤ k) → K (a.put o.dst v') w') : o.wp P a w K Q := by
  obtain ⟨v', w', hr, h2, h3, h4⟩ := run_append_own (P := P) w 0 t o.type e i z size bytes ht hi hz hsize hby hzs hsz v n xs hown ad m c news hl hnews h1 h63 hbytes (Nat.zero_le _)
  have hb : ∀ k, v'.ownBlock = some k → v.ownBlock = some k ∨ w.heap.size ≤ k := by
    rcases hown.2 with ⟨rfl, rfl⟩ | ⟨g, cap, cur, rfl, hbg, hg, hnc, hcm, hcs, htake⟩
    · obtain ⟨v2, w2, hr2, h22, -, -⟩ := run_append_own (P := P) w w.heap.size t o.type e i z size bytes ht hi hz hsize hby hzs hsz (.slice none 0 0) 0 xs ⟨hown.1, .inl ⟨rfl, rfl⟩⟩ ad m c news hl hnews h1 h63 hbytes (Nat.le_refl _)
      rw [hr] at hr2
      injection hr2 with e1 e2
      subst e1
      exact fun k hk => .inr (h22.lt k hk).1
    · subst hsize
      by_cases hroom : n + m ≤ cap
      · have hfit : n * i.size + news.length ≤ cur.size := by rw [hl, hcs, ← Nat.add_mul]; exact Nat.mul_le_mul_right _ hroom
        have hr2 := run_append_room (P := P) w t o.type e i ht hi g n cap cur hg ad m c news hl hnews h1 hroom hfit
        rw [hr] at hr2
        injection hr2 with e1 e2
        subst e1
        exact fun k hk => .inl hk
      · have holds : ∀ j u, xs[j]? = some u → w.cell? ((⟨g, 0, none⟩ : Addr).add j) = some u := hown.cells (g := g) rfl
        have hr2 := run_append_grow (P := P) w t o.type e i z ht hi hz ⟨g, 0, none⟩ n cap xs hown.1 holds ad m c news hl hnews (by omega) (by simp only [maxLen] at h63; omega) (growslice_fits (by omega) (by rw [hby]; exact hbytes))
        rw [hr] at hr2
        injection hr2 with e1 e2
        subst e1
        exact fun k hk => .inr (by simp [Value.ownBlock] at hk; omega)
  unfold Oper.wp execOp
  simp only [ho, resolve, invoke, builtin, Sem.run_bind, Sem.run_pure, Result.andThen_ok, List.map_toArray, List.map_cons, List.map_nil, hs, hx, hr]
  exact h v' w' h2 h3 hb
theorem wpList_append_blk {ops : Array Oper} {rest : List Oper} (hgd : o.guard = none) (h : ∀ v' w', w'.ownsRow 0 e size v' (n + m) (xs ++ news) → w.grownBy w' v.ownBlock → (∀ k, v'.ownBlock = some k → v.ownBlock = some k ∨ w.heap.size ≤ k) → wpList P ops Q rest (a.put o.dst v') w') : wpList P ops Q (o :: rest) a w :=
  wpList_plain hgd fun _ hK => wp_append_blk w s x t ho e i z size bytes ht hi hz hsize hby hzs hsz v n xs hs hown ad m c news hx hl hnews h1 h63 hbytes fun v' w' h2 h3 h4 => hK _ _ (h v' w' h2 h3 h4)
theorem step_append_blk {ops : Array Oper} {K : Act → World → Prop} {E : Prop} (hgd : o.guard = none) (h : ∀ v' w', w'.ownsRow 0 e size v' (n + m) (xs ++ news) → w.grownBy w' v.ownBlock → (∀ k, v'.ownBlock = some k → v.ownBlock = some k ∨ w.heap.size ≤ k) → K (a.put o.dst v') w') :
    if Region.wanted o (yielded ops a.tmps) = true then Oper.wp P o a w K Q else E := by
  have hw : Region.wanted o (yielded ops a.tmps) = true := by simp [Region.wanted, hgd]
  rw [if_pos hw]
  exact wp_append_blk w s x t ho e i z size bytes ht hi hz hsize hby hzs hsz v n xs hs hown ad m c news hx hl hnews h1 h63 hbytes h
end
/-- the block of a list -/
def Ug (u : Value) (k : Nat) : Prop := u.ownBlock = some k
theorem grown_ug {w w' : World} {u : Value} (hg : w.grownBy w' u.ownBlock) : Only (Ug u) w w' := ⟨hg.os, hg.tape, hg.output, hg.size, fun k hk hs => hg.block k hk fun e => hs e.symm⟩
theorem own_only {w w' : World} {e : TypeId} {size : Nat} {u : Value} {n : Nat} {xs : List Value} (h : w.ownsRow 0 e size u n xs) {T : Nat → Prop} (ho : Only T w w') (hd : ∀ k, Ug u k → ¬ T k) : w'.ownsRow 0 e size u n xs := by
  refine ⟨h.1, ?_⟩
  rcases h.2 with z | ⟨g, cap, cur, h1, h2, h3, h4⟩
  · exact .inl z
  · exact .inr ⟨g, cap, cur, h1, h2, ho.old h3 (hd g (by rw [h1]; rfl)), h4⟩
theorem own_below {w w' : World} {e : TypeId} {size : Nat} {u : Value} {n : Nat} {xs : List Value} (h : w.ownsRow 0 e size u n xs) (hb : Below w.heap.size w w') : w'.ownsRow 0 e size u n xs := own_only h (T := fun _ => False) (.ofBelow hb) fun _ _ z => z
theorem own_typ {w : World} {e : TypeId} {size : Nat} {u : Value} {n : Nat} {xs : List Value} (h : w.ownsRow 0 e size u n xs) {k : Nat} (hk : Ug u k) : ∃ cur, w.heap[k]? = some (.cells cur e (0, 0)) := by
  rcases h.2 with ⟨z, -⟩ | ⟨g, cap, cur, h1, h2, h3, h4⟩
  · rw [z] at hk; cases hk
  · rw [h1] at hk
    have : g = k := by simpa [Ug, Value.ownBlock] using hk
    exact ⟨cur, this ▸ h3⟩
theorem own_form {w : World} {e : TypeId} {u : Value} {n : Nat} {xs : List Value} (h : w.ownsRow 0 e 1 u n xs) : ∃ ad c, u = .slice ad n c := by
  rcases h.2 with ⟨h1, h2⟩ | ⟨g, cap, cur, h1, h2⟩
  · exact ⟨none, 0, by rw [h1, h2]⟩
  · exact ⟨_, cap, h1⟩
theorem setRowB (w : World) (g k : Nat) (cs cs' : Array Value) (t : TypeId) (v : Value) (hg : w.heap[g]? = some (.cells cs t (0, 0))) (he : cs.setIfInBounds k v = cs') : (w.setCell ⟨g, k, none⟩ v).heap[g]? = some (.cells cs' t (0, 0)) := by
  rw [setCell_eq_setRow w g k cs t (0, 0) v hg, he]
  exact setRow_heap w g cs _ t _ hg
theorem only_c (w : World) (g k : Nat) (x : Value) : Only (· = g) w (w.setCell ⟨g, k, none⟩ x) := (Only.refl (S := (· = g)) w).setCell (.inl rfl) x
theorem one_cell (w : World) (V : Value) (t : TypeId) (i : Nat) (u : Value) (h : [V][i]? = some u) : (w.alloc (.cells #[V] t)).cell? ((⟨w.heap.size, 0, none⟩ : Addr).add i) = some u := by
  obtain rfl : i = 0 := by
    rcases Nat.eq_zero_or_pos i with z | z
    · exact z
    · rw [List.getElem?_eq_none (by simp; omega)] at h; cases h
  rw [C.addr_add]
  have : (w.alloc (.cells #[V] t)).cell? ⟨w.heap.size, 0, none⟩ = some V := cell_of_row _ _ 0 _ _ _ (heap_alloc_new w _)
  simp at h
  subst h
  exact this

/-- bytes as cells -/
def bys (l : List Int) : List Value := l.map (Value.int .u8)
theorem bys_len (l : List Int) : (bys l).length = l.length := by simp [bys]
theorem bys_app (l : List Int) (x : Int) : bys l ++ [Value.int .u8 x] = bys (l ++ [x]) := by simp [bys]
theorem bys_get (l : List Int) (j : Nat) (u : Value) (h : (bys l)[j]? = some u) : ∃ x, l[j]? = some x ∧ u = .int .u8 x := by
  unfold bys at h
  rw [List.getElem?_map] at h
  cases e : l[j]? with
  | none => rw [e] at h; cases h
  | some x => rw [e] at h; exact ⟨x, rfl, by simpa using h.symm⟩
theorem bys_one (l : List Int) : ∀ u ∈ bys l, u.oneCell' = true := by
  intro u hu
  simp only [bys, List.mem_map] at hu
  obtain ⟨x, _, rfl⟩ := hu
  rfl
def Byt (x : Int) : Prop := 0 ≤ x ∧ x < 256
structure UV where
  q : List Int
  s : List Int
  h : Nat → Int
  d : Nat → Int
  ov : Bool
  em : Bool
def UV.cells (v : UV) (a b : Value) : Array Value := #[a, b, .int .u8 (v.h 0), .int .u8 (v.h 1), .int .u8 (v.h 2), .int .u8 (v.h 3), .int .u8 (v.h 4), .int .u8 (v.h 5), .int .u8 (v.h 6), .int .u8 (v.h 7), .int .u8 (v.d 0), .int .u8 (v.d 1), .bool v.ov, .bool v.em]
structure UOk (v : UV) : Prop where
  h : ∀ i, Byt (v.h i)
  d : ∀ i, Byt (v.d i)
  l : v.q.length ≤ 16
  q : ∀ x ∈ v.q, Byt x
  s : ∀ x ∈ v.s, Byt x
structure Uo (w : World) (p : Nat) (a b : Value) (v : UV) : Prop where
  top : w.heap[p]? = some (.cells (v.cells a b) 173 (0, 0))
  q : w.ownsRow 0 5 1 a v.q.length (bys v.q)
  s : w.ownsRow 0 5 1 b v.s.length (bys v.s)
  ab : ∀ k, Ug a k → ¬ Ug b k
/-- a UART, its blocks F -/
def Ux (w : World) (F : Nat → Prop) (p : Nat) (v : UV) : Prop := ∃ a b, Uo w p a b v ∧ UOk v ∧ ∀ x, F x ↔ x = p ∨ Ug a x ∨ Ug b x
/-- what a call may turn: blocks of F; those behind it are F's or new -/
def Tn (w w' : World) (F F' : Nat → Prop) : Prop := Only F w w' ∧ ∀ x, F' x → F x ∨ w.heap.size ≤ x
theorem Tn.refl (w : World) (F : Nat → Prop) : Tn w w F F := ⟨.refl w, fun x h => .inl h⟩
theorem own_ne {w : World} {e : TypeId} {size : Nat} {u : Value} {n : Nat} {xs : List Value} (h : w.ownsRow 0 e size u n xs) {p : Nat} {c : Array Value} {t : TypeId} (hp : w.heap[p]? = some (.cells c t (0, 0))) (ht : e ≠ t) : ∀ k, Ug u k → k ≠ p := fun k hk z => by
  subst z
  obtain ⟨cur, y⟩ := own_typ h hk
  rw [hp] at y
  simp at y
  exact ht y.2.symm
theorem own_lt {w : World} {e : TypeId} {size : Nat} {u : Value} {n : Nat} {xs : List Value} (h : w.ownsRow 0 e size u n xs) : ∀ k, Ug u k → k < w.heap.size := fun k hk => by
  obtain ⟨cur, y⟩ := own_typ h hk
  exact lt_of_block y
section
variable {w w1 w' : World} {p : Nat} {a b : Value} {v : UV} {F : Nat → Prop}
theorem Uo.only (h : Uo w p a b v) {T : Nat → Prop} (ho : Only T w w') (hp : ¬ T p) (ha : ∀ k, Ug a k → ¬ T k) (hb : ∀ k, Ug b k → ¬ T k) : Uo w' p a b v :=
  ⟨ho.old h.top hp, own_only h.q ho ha, own_only h.s ho hb, h.ab⟩
theorem Uo.put (h : Uo w p a b v) (k : Nat) (u : Value) (v' : UV) (hq : v'.q = v.q) (hs : v'.s = v.s) (hc : (v.cells a b).setIfInBounds k u = v'.cells a b) : Uo (w.setCell ⟨p, k, none⟩ u) p a b v' :=
  ⟨setRowB w p k _ _ _ _ h.top hc, by rw [hq]; exact own_only h.q (only_c w p k u) (own_ne h.q h.top (by decide)), by rw [hs]; exact own_only h.s (only_c w p k u) (own_ne h.s h.top (by decide)), h.ab⟩
theorem Uo.newq (h : Uo w p a b v) (a' : Value) (l : List Int) (ho : w1.ownsRow 0 5 1 a' l.length (bys l)) (hg : Only (Ug a) w w1) (hb : ∀ k, Ug a' k → Ug a k ∨ w.heap.size ≤ k) : Uo (w1.setCell ⟨p, 0, none⟩ a') p a' b { v with q := l } := by
  have t1 := hg.old h.top fun z => own_ne h.q h.top (by decide) p z rfl
  have s1 := own_only h.s hg fun k hk z => h.ab k z hk
  refine ⟨setRowB w1 p 0 _ _ _ _ t1 rfl, own_only ho (only_c w1 p 0 a') (own_ne ho t1 (by decide)), own_only s1 (only_c w1 p 0 a') (own_ne s1 t1 (by decide)), fun k hk z => ?_⟩
  rcases hb k hk with y | y
  · exact h.ab k y z
  · have := own_lt h.s k z; omega
theorem Uo.news (h : Uo w p a b v) (b' : Value) (l : List Int) (ho : w1.ownsRow 0 5 1 b' l.length (bys l)) (hg : Only (Ug b) w w1) (hb : ∀ k, Ug b' k → Ug b k ∨ w.heap.size ≤ k) : Uo (w1.setCell ⟨p, 1, none⟩ b') p a b' { v with s := l } := by
  have t1 := hg.old h.top fun z => own_ne h.s h.top (by decide) p z rfl
  have s1 := own_only h.q hg fun k hk z => h.ab k hk z
  refine ⟨setRowB w1 p 1 _ _ _ _ t1 rfl, own_only s1 (only_c w1 p 1 b') (own_ne s1 t1 (by decide)), own_only ho (only_c w1 p 1 b') (own_ne ho t1 (by decide)), fun k hk z => ?_⟩
  rcases hb k z with y | y
  · exact h.ab k hk y
  · have := own_lt h.q k hk; omega
theorem Ux.mk (hF : ∀ x, F x ↔ x = p ∨ Ug a x ∨ Ug b x) {a' b' : Value} {v' : UV} (h' : Uo w' p a' b' v') (ok : UOk v') (ho : Only (fun x => x = p ∨ Ug a x ∨ Ug b x) w w') (ha : ∀ k, Ug a' k → Ug a k ∨ w.heap.size ≤ k) (hb : ∀ k, Ug b' k → Ug b k ∨ w.heap.size ≤ k) : ∃ F', Ux w' F' p v' ∧ Tn w w' F F' := by
  refine ⟨fun x => x = p ∨ Ug a' x ∨ Ug b' x, ⟨a', b', h', ok, fun x => Iff.rfl⟩, ho.mono fun k _ z => (hF k).2 z, ?_⟩
  rintro x (z | z | z)
  · exact .inl ((hF x).2 (.inl z))
  · exact (ha x z).imp (fun y => (hF x).2 (.inr (.inl y))) id
  · exact (hb x z).imp (fun y => (hF x).2 (.inr (.inr y))) id
theorem Ux.only (h : Ux w F p v) {T : Nat → Prop} (ho : Only T w w') (hd : ∀ x, F x → ¬ T x) : Ux w' F p v := by
  obtain ⟨a, b, h1, ok, hF⟩ := h
  exact ⟨a, b, h1.only ho (hd p ((hF p).2 (.inl rfl))) (fun k hk => hd k ((hF k).2 (.inr (.inl hk)))) (fun k hk => hd k ((hF k).2 (.inr (.inr hk)))), ok, hF⟩
theorem Ux.lt (h : Ux w F p v) {x : Nat} (hx : F x) : x < w.heap.size := by
  obtain ⟨a, b, h1, ok, hF⟩ := h
  rcases (hF x).1 hx with z | z | z
  · subst z; exact lt_of_block h1.top
  · exact own_lt h1.q x z
  · exact own_lt h1.s x z
end
theorem info_u8 : (Tryz.prog.info? 5).map (fun i => (i.zero, i.size, i.bytes)) = some (some (.int .u8 0), 1, 1) := by kernel_rfl
theorem u_su8 : Tryz.prog.underlying 23 = some (.slice 5) := by kernel_rfl
/-- a list grows: only its own block has turned -/
theorem grew {w w3 : World} {u : Value} {o : Obj} (hg : (w.alloc o).grownBy w3 u.ownBlock) : Only (Ug u) w w3 := (Only.ofBelow ((Below.refl _ _).alloc (Nat.le_refl _) o)).trans (grown_ug hg)
def uv0 : UV := ⟨[], [], fun _ => 0, fun _ => 0, false, false⟩
theorem byt0 : Byt 0 := by constructor <;> decide
theorem uok0 : UOk uv0 := ⟨fun i => byt0, fun i => byt0, Nat.zero_le _, fun x hx => (by cases hx), fun x hx => (by cases hx)⟩
theorem u_New (w : World) : Calls Tryz.prog 33 #[] w fun e w' => e = .returned (.pointer (some ⟨w.heap.size, 0, none⟩)) ∧ (∃ F, Ux w' F w.heap.size uv0 ∧ ∀ x, F x → x = w.heap.size) ∧ Below w.heap.size w w' := by
  go_enter Tryz.func33, Tryz.ntmps33
  go_wp2
  go_ret
  refine ⟨rfl, ⟨fun x => x = w.heap.size, ⟨.slice none 0 0, .slice none 0 0, ⟨heap_alloc_new w _, ⟨rfl, .inl ⟨rfl, rfl⟩⟩, ⟨rfl, .inl ⟨rfl, rfl⟩⟩, fun k z => (by cases z)⟩, uok0, fun x => ⟨.inl, fun z => z.elim id fun y => y.elim (fun z => (by cases z)) fun z => (by cases z)⟩⟩, fun x z => z⟩, (Below.refl _ _).alloc (Nat.le_refl _) _⟩
end Go.Proofs.YtjkihlpckgaggaaGreat.L
namespace Go.Proofs.YtjkihlpckgaggaaGreat.L
open Go.RowKit
open C (Only hid Still ret_bool ret_int)
set_option linter.unusedVariables false
set_option maxRecDepth 100000

/-- a source's bit -/
def bitN (x : Int) : Nat := if 1 ≤ x ∧ x < 32 then 2 ^ x.toNat else 0
theorem bitN_lt (x : Int) : bitN x < 4294967296 := by
  unfold bitN
  split
  · have : 2 ^ x.toNat ≤ 2 ^ 31 := Nat.pow_le_pow_right (by decide) (by omega)
    omega
  · decide
theorem bitN_at (x : Int) (i : Nat) : (bitN x).testBit i = decide (1 ≤ x ∧ x < 32 ∧ x = i) := by
  unfold bitN
  split
  · rename_i h
    rw [Nat.testBit_two_pow]
    by_cases e : x = i
    · subst e; simp; omega
    · simp [e, h]; omega
  · rename_i h
    rw [Nat.zero_testBit]
    symm
    simp only [decide_eq_false_iff_not]
    omega
/-- what is in a and not in b -/
def anN (a b : Nat) : Nat := a &&& (4294967295 - b)
theorem anN_at (a b i : Nat) (hb : b < 4294967296) : (anN a b).testBit i = (a.testBit i && (decide (i < 32) && !b.testBit i)) := by
  unfold anN
  rw [Nat.testBit_and]
  have := Nat.testBit_two_pow_sub_succ (n := 32) (x := b) hb i
  rw [← this, show (2 : Nat) ^ 32 - (b + 1) = 4294967295 - b by omega]
theorem anN_lt (a b : Nat) (h : a < 4294967296) : anN a b < 4294967296 := by
  have : anN a b ≤ a := Nat.and_le_left
  omega
theorem or_lt {a b : Nat} (h : a < 4294967296) (k : b < 4294967296) : a ||| b < 4294967296 := Nat.or_lt_two_pow (n := 32) h k
theorem and_lt {a b : Nat} (h : a < 4294967296) : a &&& b < 4294967296 := by
  have : a &&& b ≤ a := Nat.and_le_left
  omega
theorem high {a i : Nat} (h : a < 4294967296) (hi : 32 ≤ i) : a.testBit i = false := Nat.testBit_lt_two_pow (Nat.lt_of_lt_of_le h (show 2 ^ 32 ≤ 2 ^ i from Nat.pow_le_pow_right (by decide) hi))
theorem set_ext {a b : Nat} (ha : a < 4294967296) (hb : b < 4294967296) (h : ∀ i, i < 32 → a.testBit i = b.testBit i) : a = b := by
  apply Nat.eq_of_testBit_eq
  intro i
  rcases Nat.lt_or_ge i 32 with z | z
  · exact h i z
  · rw [high ha z, high hb z]
/-- is source i in s -/
def isIn (s i : Nat) : Bool := decide (1 ≤ i) && s.testBit i
/-- the first source from k on, below k + f -/
def low (s : Nat) : Nat → Nat → Nat
  | _, 0 => 0
  | k, f + 1 => if isIn s k then k else low s (k + 1) f
def lowest (s : Nat) : Nat := low s 0 32
theorem low_hit {s : Nat} : ∀ (f k j : Nat), k ≤ j → j < k + f → isIn s j = true → (∀ i, k ≤ i → i < j → isIn s i = false) → low s k f = j
  | 0, k, j, h1, h2, _, _ => by omega
  | f + 1, k, j, h1, h2, h3, h4 => by
    unfold low
    by_cases e : k = j
    · subst e; rw [if_pos h3]
    · rw [if_neg (by rw [h4 k (Nat.le_refl _) (by omega)]; decide)]
      exact low_hit f (k + 1) j (by omega) (by omega) h3 fun i q r => h4 i (by omega) r
theorem low_none {s : Nat} : ∀ (f k : Nat), (∀ i, k ≤ i → i < k + f → isIn s i = false) → low s k f = 0
  | 0, k, _ => rfl
  | f + 1, k, h => by
    unfold low
    rw [if_neg (by rw [h k (Nat.le_refl _) (by omega)]; decide)]
    exact low_none f (k + 1) fun i q r => h i (by omega) (by omega)
/-- the lowest one, told by what it is -/
theorem lowest_spec (s : Nat) : (lowest s = 0 ∧ ∀ i, i < 32 → isIn s i = false) ∨ (1 ≤ lowest s ∧ lowest s < 32 ∧ isIn s (lowest s) = true ∧ ∀ i, i < lowest s → isIn s i = false) := by
  by_cases h : ∃ i, i < 32 ∧ isIn s i = true
  · obtain ⟨i, hi, h1⟩ := h
    have : ∀ n, n < 32 → isIn s n = true → ∃ j, j ≤ n ∧ isIn s j = true ∧ ∀ i, i < j → isIn s i = false := by
      intro n
      induction n using Nat.strongRecOn with
      | _ n ih =>
        intro hn hs
        by_cases q : ∃ m, m < n ∧ isIn s m = true
        · obtain ⟨m, q1, q2⟩ := q
          obtain ⟨j, r1, r2, r3⟩ := ih m q1 (by omega) q2
          exact ⟨j, by omega, r2, r3⟩
        · refine ⟨n, Nat.le_refl _, hs, fun i hi => ?_⟩
          cases e : isIn s i
          · rfl
          · exact absurd ⟨i, hi, e⟩ q
    obtain ⟨j, r1, r2, r3⟩ := this i hi h1
    have e : lowest s = j := low_hit 32 0 j (Nat.zero_le _) (by omega) r2 fun i _ q => r3 i q
    right
    rw [e]
    refine ⟨?_, by omega, r2, r3⟩
    unfold isIn at r2
    simp at r2
    exact r2.1
  · left
    have h' : ∀ i, i < 32 → isIn s i = false := fun i hi => by
      cases e : isIn s i
      · rfl
      · exact absurd ⟨i, hi, e⟩ h
    exact ⟨low_none 32 0 fun i _ q => h' i (by omega), h'⟩
theorem and_bit (s k : Nat) (hs : s < 4294967296) (hk : k < 32) : (bits BinOp.and IntKind.u32 (s : Int) (bitN (k : Int) : Int) != 0) = isIn s k := by
  rw [u32_and_nat _ _ hs (bitN_lt _)]
  unfold isIn bitN
  rcases Nat.eq_zero_or_pos k with z | z
  · subst z
    simp
  · rw [if_pos (by omega), Int.toNat_natCast]
    have hk1 : decide (1 ≤ k) = true := by simp; omega
    rw [hk1, Bool.true_and]
    cases e : s.testBit k
    · have : s &&& 2 ^ k = 0 := by
        apply Nat.eq_of_testBit_eq
        intro i
        rw [Nat.testBit_and, Nat.testBit_two_pow, Nat.zero_testBit]
        by_cases q : k = i
        · subst q; rw [e]; rfl
        · simp [q]
      rw [this]
      rfl
    · have : s &&& 2 ^ k ≠ 0 := fun z => by
        have h2 : (s &&& 2 ^ k).testBit k = true := by rw [Nat.testBit_and, Nat.testBit_two_pow, e]; simp
        rw [z, Nat.zero_testBit] at h2
        cases h2
      simp
      exact_mod_cast this
theorem c_bit (x : Int) (x0 : -9223372036854775808 ≤ x) (x1 : x ≤ 9223372036854775807) (w : World) : Calls Tryz.prog 52 #[.int .i64 x] w fun e w' => e = .returned (.int .u32 (bitN x)) ∧ w' = w := by
  have HB : Hid ((bitN x : Int) = if 1 ≤ x ∧ x < 32 then ((2 ^ x.toNat : Nat) : Int) else 0) := by unfold bitN; show _ = _; split <;> rfl
  generalize bitN x = b at *
  by_cases q : 1 ≤ x ∧ x < 32
  · obtain ⟨q1, q2⟩ := q
    rw [if_pos ⟨q1, q2⟩] at HB
    go_enter Tryz.func52, Tryz.ntmps52
    go_wp2
    go_ret
    refine ⟨ret_int ?_, rfl⟩
    rw [HB.out]
    have : 2 ^ x.toNat ≤ 2 ^ 31 := Nat.pow_le_pow_right (by decide) (by omega)
    have e : (2 : Int) ^ x.toNat = ((2 ^ x.toNat : Nat) : Int) := by simp
    rw [e]
    clear HB e
    generalize 2 ^ x.toNat = n at *
    omega
  · rw [if_neg q] at HB
    by_cases q1 : x < 1
    · go_enter Tryz.func52, Tryz.ntmps52
      go_wp2
      go_ret
      exact ⟨ret_int HB.out.symm, rfl⟩
    · have q2 : 32 ≤ x := by omega
      go_enter Tryz.func52, Tryz.ntmps52
      go_wp2
      go_ret
      exact ⟨ret_int HB.out.symm, rfl⟩
theorem c_lowest (s : Nat) (hs : s < 4294967296) (w : World) : Calls Tryz.prog 229 #[.int .u32 s] w fun e w' => e = .returned (.int .i64 (lowest s)) ∧ w' = w := by
  have hb : ∀ (k : Nat), k < 32 → ∀ u, Calls Tryz.prog 52 #[.int .i64 k] u fun e w' => e = .returned (.int .u32 (bitN k)) ∧ w' = u := fun k hk u => c_bit k (by omega) (by omega) u
  have HB := hid hb
  have HA : Hid (∀ k : Nat, k < 32 → (bits BinOp.and IntKind.u32 (s : Int) (bitN (k : Int) : Int) != 0) = isIn s k) := fun k hk => and_bit s k hs hk
  have hs' : (s : Int) < 4294967296 := by omega
  have hs0 : (0 : Int) ≤ (s : Int) := by omega
  obtain ⟨L, hL⟩ : ∃ L : Nat, L = lowest s := ⟨_, rfl⟩
  rw [← hL]
  have HL := hid hL
  clear hL hs
  generalize (s : Int) = S at *
  clear hb
  go_enter Tryz.func229, Tryz.ntmps229
  go_wp2_with fail
  go_loopw [4] (fun i wr => ∃ k : Nat, k ≤ 32 ∧ i = .int .i64 k ∧ wr = w ∧ Hid (∀ j, j < k → isIn s j = false)) (fun i _ => 32 - (intOf i).toNat)
  case atStart => exact ⟨0, by omega, rfl, rfl, fun j hj => by omega⟩
  case round =>
    obtain ⟨k, hk, rfl, hw, hn⟩ := hrel
    obtain rfl := hw.symm
    by_cases hlt : k < 32
    · have hb := HB.out k hlt
      have ea := HA.out k hlt
      have bl : (bitN (k : Int) : Int) < 4294967296 := by have := bitN_lt (k : Int); omega
      have b0 : (0 : Int) ≤ (bitN (k : Int) : Int) := by omega
      generalize (bitN (k : Int) : Int) = B at *
      cases e : isIn s k <;> rw [e] at ea
      · go_wp2_with (go_at_call 52; refine (hb _).mono ?_; rintro e w' ⟨rfl, hw⟩; obtain rfl := hw.symm)
        go_roundw
        case rel => exact ⟨k + 1, by omega, by go_num, trivial, fun j hj => by
          rcases Nat.lt_or_ge j k with q | q
          · exact hn.out j q
          · obtain rfl : j = k := by omega
            exact e⟩
        case measure => simp [intOf]; omega
      · go_wp2_with (go_at_call 52; refine (hb _).mono ?_; rintro e w' ⟨rfl, hw⟩; obtain rfl := hw.symm)
        go_ret
        refine ⟨ret_int ?_, rfl⟩
        have : lowest s = k := low_hit 32 0 k (Nat.zero_le _) (by omega) e fun i _ q => hn.out i q
        rw [HL.out, this]
    · obtain rfl : k = 32 := by omega
      go_wp2
      go_ret
      refine ⟨ret_int ?_, rfl⟩
      have : lowest s = 0 := low_none 32 0 fun i _ q => hn.out i (by omega)
      rw [HL.out, this]
      rfl
end Go.Proofs.YtjkihlpckgaggaaGreat.L
namespace Go.Proofs.YtjkihlpckgaggaaGreat.L
open Go.RowKit
open C (Only hid Still ret_bool ret_int)
set_option linter.unusedVariables false
set_option maxRecDepth 100000

/-- a world in which all that was there is as it was -/
structure WB (w0 : World) where
  w : World
  h : Below w0.heap.size w0 w
theorem WB.cell {w0 : World} (x : WB w0) {b o : Nat} {v : Value} (hb : b < w0.heap.size) (h : w0.cell? ⟨b, o, none⟩ = some v) : x.w.cell? ⟨b, o, none⟩ = some v := by
  rw [← h]; exact Below.cell x.h (p := ⟨b, o, none⟩) hb
/-- a callee's contract, met in a world of the class -/
theorem Calls.wb {P : Program} {f : FuncId} {args : Array Value} {w0 : World} {v : Value} (x : WB w0) (h : Calls P f args x.w fun e w' => e = .returned v ∧ Below x.w.heap.size x.w w') : Calls P f args x.w fun e w'' => e = .returned v ∧ ∃ y : WB w0, w'' = y.w :=
  h.mono fun _ w' hh => ⟨hh.1, ⟨w', x.h.trans (hh.2.mono x.h.size)⟩, rfl⟩
theorem wp_region_wb {P : Program} {id : Nat} {Q : Exit → Act → World → Prop} {a : Act} {w : World} {l : List Oper} (hm : P.follows .mixedOrders = true) (hB : Region.lexB .any l.toArray = true)
    (h : wpQuiet P l.toArray (fun w' => ∃ x : WB w, w' = x.w) (fun a' => ∀ w', (∃ x : WB w, w' = x.w) → Q .normal a' w') l a) : (Code.region id l.toArray true).wp P Q a w :=
  wp_region_quiet (C := fun w' => ∃ x : WB w, w' = x.w) hm hB ⟨⟨w.drew, (Below.refl _ _).drew⟩, rfl⟩ (by simpa using h)
theorem wpList_made {P : Program} (w : World) {ops : Array Oper} {rest : List Oper} {o : Oper} {a : Act} {Q : Exit → Act → World → Prop} (hgd : o.guard = none) (x y : Operand) (T : TypeId) (ho : o.op = .makeSlice T x y) (e : TypeId) (z : Value) (size bytes : Nat)
    (ht : P.underlying T = some (.slice e)) (hi : (P.info? e).map (fun i => (i.zero, i.size, i.bytes)) = some (some z, size, bytes)) (n : Nat) (hx : a.eval x = .int .i64 n) (hy : a.eval y = .int .i64 n) (hn : n ≤ 9223372036854775807) (hby : bytes * n ≤ 281474976710656)
    (cs : Array Value) (hc : madeCells z.cells (n * size) = cs)
    (h : wpList P ops Q rest (a.put o.dst (.slice (some ⟨w.heap.size, 0, none⟩) n n)) (w.alloc (.cells cs e))) : wpList P ops Q (o :: rest) a w := by
  refine wpList_plain hgd fun K hK' => ?_
  obtain ⟨i, hi1, hz, hs, hb⟩ := info_parts hi
  have hb' : (i.bytes : Int) * (n : Int) ≤ 281474976710656 := by
    have h : ((i.bytes * n : Nat) : Int) ≤ 281474976710656 := by rw [hb]; omega
    rwa [Int.natCast_mul] at h
  have hr := run_make (P := P) w T e i z ht hi1 hz .i64 .i64 n n (by omega) (Int.le_refl _) hb' (by omega)
  have hcs : madeCells z.cells ((n : Int).toNat * i.size) = cs := by
    rw [← hc, hs]; rfl
  rw [hcs] at hr
  simp only [Int.toNat_natCast] at hr
  unfold Oper.wp
  simp [execOp, ho, hx, hy, hr, Result.andThen]
  exact hK' _ _ h

structure IV where
  lv : Nat
  pu : Nat
  n : Nat
  le : Nat → Nat
  cl : Nat → Nat
structure IOk (v : IV) : Prop where
  lv : v.lv < 4294967296
  pu : v.pu < 4294967296
  le : ∀ i, v.le i < 4294967296
  cl : ∀ i, v.cl i < 4294967296
  l0 : v.lv.testBit 0 = false
  p0 : v.pu.testBit 0 = false
  n1 : 1 ≤ v.n
  n2 : v.n ≤ 64
def IV.cells (v : IV) (g : Nat) : Array Value := #[.int .u32 v.lv, .int .u32 v.pu, .slice (some ⟨g, 0, none⟩) v.n v.n]
/-- the lines, cell by cell -/
def li1 (le cl : Nat → Nat) (j : Nat) : Value := if j % 2 = 0 then .int .u32 (le (j / 2)) else .int .u32 (cl (j / 2))
def lic (le cl : Nat → Nat) (n : Nat) : List Value := (List.range (n * 2)).map (li1 le cl)
theorem lic_len (le cl : Nat → Nat) (n : Nat) : (lic le cl n).length = n * 2 := by simp [lic]
theorem lic_at (le cl : Nat → Nat) (n j : Nat) (h : j < n * 2) : (lic le cl n)[j]? = some (li1 le cl j) := by
  unfold lic
  rw [List.getElem?_map, List.getElem?_range h]
  rfl
theorem li1_0 (le cl : Nat → Nat) (i : Nat) : li1 le cl (i * 2) = .int .u32 (le i) := by
  unfold li1
  rw [if_pos (by omega), show i * 2 / 2 = i by omega]
theorem li1_1 (le cl : Nat → Nat) (i : Nat) : li1 le cl (i * 2 + 1) = .int .u32 (cl i) := by
  unfold li1
  rw [if_neg (by omega), show (i * 2 + 1) / 2 = i by omega]
def upN (f : Nat → Nat) (i x : Nat) : Nat → Nat := fun j => if j = i then x else f j
theorem upN_same (f : Nat → Nat) (i x : Nat) : upN f i x i = x := by simp [upN]
theorem upN_other (f : Nat → Nat) (i x j : Nat) (h : j ≠ i) : upN f i x j = f j := by simp [upN, h]
theorem lic_set (le le' cl cl' : Nat → Nat) (n k : Nat) (x : Value) (hx : li1 le' cl' k = x) (h : ∀ j, j ≠ k → li1 le' cl' j = li1 le cl j) : (lic le cl n).toArray.setIfInBounds k x = (lic le' cl' n).toArray := by
  apply Array.ext'
  simp only [Array.toList_setIfInBounds]
  apply List.ext_getElem?
  intro j
  rw [List.getElem?_set]
  rcases Nat.lt_or_ge j (n * 2) with q | q
  · rw [lic_at _ _ _ _ q, lic_len, lic_at _ _ _ _ q]
    by_cases e : k = j
    · subst e; rw [if_pos rfl, if_pos q, hx]
    · rw [if_neg e, h j (fun z => e z.symm)]
  · rw [List.getElem?_eq_none (by rw [lic_len]; exact q), List.getElem?_eq_none (by rw [lic_len]; exact q), lic_len]
    split
    · rw [if_neg (by omega)]
    · rfl
theorem lic_le (le cl : Nat → Nat) (n i x : Nat) : (lic le cl n).toArray.setIfInBounds (i * 2) (.int .u32 x) = (lic (upN le i x) cl n).toArray := by
  refine lic_set _ _ _ _ _ _ _ (by rw [li1_0, upN_same]) fun j hj => ?_
  unfold li1
  split
  · rw [upN_other _ _ _ _ (by omega)]
  · rfl
theorem lic_cl (le cl : Nat → Nat) (n i x : Nat) : (lic le cl n).toArray.setIfInBounds (i * 2 + 1) (.int .u32 x) = (lic le (upN cl i x) n).toArray := by
  refine lic_set _ _ _ _ _ _ _ (by rw [li1_1, upN_same]) fun j hj => ?_
  unfold li1
  split
  · rfl
  · rw [upN_other _ _ _ _ (by omega)]
structure Io (w : World) (p g : Nat) (v : IV) : Prop where
  top : w.heap[p]? = some (.cells (v.cells g) 155 (0, 0))
  tab : w.heap[g]? = some (.cells (lic v.le v.cl v.n).toArray 208 (0, 0))
/-- a controller, its blocks F -/
def Ix (w : World) (F : Nat → Prop) (p : Nat) (v : IV) : Prop := ∃ g, Io w p g v ∧ IOk v ∧ ∀ x, F x ↔ x = p ∨ x = g
section
variable {w w' : World} {p g : Nat} {v : IV} {F : Nat → Prop}
theorem Io.pg (h : Io w p g v) : p ≠ g := fun e => by
  subst e
  have := h.top
  rw [h.tab] at this
  simp at this
theorem Io.only (h : Io w p g v) {T : Nat → Prop} (ho : Only T w w') (hp : ¬ T p) (hg : ¬ T g) : Io w' p g v := ⟨ho.old h.top hp, ho.old h.tab hg⟩
theorem Io.below (h : Io w p g v) (hb : Below w.heap.size w w') : Io w' p g v := h.only (T := fun _ => False) (.ofBelow hb) id id
theorem Ix.only (h : Ix w F p v) {T : Nat → Prop} (ho : Only T w w') (hd : ∀ x, F x → ¬ T x) : Ix w' F p v := by
  obtain ⟨g, h1, ok, hF⟩ := h
  exact ⟨g, h1.only ho (hd p ((hF p).2 (.inl rfl))) (hd g ((hF g).2 (.inr rfl))), ok, hF⟩
theorem Ix.below (h : Ix w F p v) (hb : Below w.heap.size w w') : Ix w' F p v := h.only (T := fun _ => False) (.ofBelow hb) fun _ _ z => z
theorem Ix.lt (h : Ix w F p v) {x : Nat} (hx : F x) : x < w.heap.size := by
  obtain ⟨g, h1, ok, hF⟩ := h
  rcases (hF x).1 hx with z | z
  · subst z; exact lt_of_block h1.top
  · subst z; exact lt_of_block h1.tab
theorem Io.c0 (h : Io w p g v) : w.cell? ⟨p, 0, none⟩ = some (.int .u32 v.lv) := cell_of_row w p 0 _ _ _ h.top
theorem Io.c1 (h : Io w p g v) : w.cell? ⟨p, 1, none⟩ = some (.int .u32 v.pu) := cell_of_row w p 1 _ _ _ h.top
theorem Io.c2 (h : Io w p g v) : w.cell? ⟨p, 2, none⟩ = some (.slice (some ⟨g, 0, none⟩) v.n v.n) := cell_of_row w p 2 _ _ _ h.top
theorem Io.fp (h : Io w p g v) (k : Nat) : w.frozen? ⟨p, k, none⟩ = false := frozen_of_row w p k _ _ h.top
theorem Io.fg (h : Io w p g v) (k : Nat) : w.frozen? ⟨g, k, none⟩ = false := frozen_of_row w g k _ _ h.tab
theorem Io.ce (h : Io w p g v) (i : Nat) (hi : i < v.n) : w.cell? ⟨g, i * 2, none⟩ = some (.int .u32 (v.le i)) := by
  rw [cell_of_row w g _ _ _ _ h.tab]
  have := lic_at v.le v.cl v.n (i * 2) (by omega)
  rw [li1_0] at this
  simpa using this
theorem Io.cc (h : Io w p g v) (i : Nat) (hi : i < v.n) : w.cell? ⟨g, i * 2 + 1, none⟩ = some (.int .u32 (v.cl i)) := by
  rw [cell_of_row w g _ _ _ _ h.tab]
  have := lic_at v.le v.cl v.n (i * 2 + 1) (by omega)
  rw [li1_1] at this
  simpa using this
theorem Io.putp (h : Io w p g v) (k : Nat) (u : Value) (v' : IV) (hc : (v.cells g).setIfInBounds k u = v'.cells g) (e : v'.le = v.le ∧ v'.cl = v.cl ∧ v'.n = v.n) : Io (w.setCell ⟨p, k, none⟩ u) p g v' :=
  ⟨setRowB w p k _ _ _ _ h.top hc, by rw [e.1, e.2.1, e.2.2]; exact (only_c w p k u).old h.tab fun z => h.pg z.symm⟩
theorem Io.pute (h : Io w p g v) (i x : Nat) : Io (w.setCell ⟨g, i * 2, none⟩ (.int .u32 x)) p g { v with le := upN v.le i x } :=
  ⟨(only_c w g _ _).old h.top h.pg, setRowB w g _ _ _ _ _ h.tab (lic_le v.le v.cl v.n i x)⟩
theorem Io.putc (h : Io w p g v) (i x : Nat) : Io (w.setCell ⟨g, i * 2 + 1, none⟩ (.int .u32 x)) p g { v with cl := upN v.cl i x } :=
  ⟨(only_c w g _ _).old h.top h.pg, setRowB w g _ _ _ _ _ h.tab (lic_cl v.le v.cl v.n i x)⟩
end
/-- what some hart has claimed -/
def orN (c : Nat → Nat) : Nat → Nat
  | 0 => 0
  | k + 1 => orN c k ||| c k
theorem orN_lt {c : Nat → Nat} (h : ∀ i, c i < 4294967296) : ∀ k, orN c k < 4294967296
  | 0 => by show 0 < 4294967296; decide
  | k + 1 => or_lt (orN_lt h k) (h k)
theorem dnB (w : World) (n : Nat) : Below w.heap.size w (w.drewN n) := ⟨rfl, rfl, rfl, Nat.le_refl _, fun _ _ => rfl⟩
def IV.up (v : IV) : Nat := v.lv ||| v.pu
def IV.opn (v : IV) (h : Nat) : Nat := anN v.up (orN v.cl v.n) &&& v.le h
section
variable {w : World} {p g : Nat} {v : IV}
theorem i_up (h : Io w p g v) (ok : IOk v) : Calls Tryz.prog 54 #[.pointer (some ⟨p, 0, none⟩)] w fun e w' => e = .returned (.int .u32 v.up) ∧ Below w.heap.size w w' := by
  have c0 := h.c0
  have c1 := h.c1
  have e : bits BinOp.or IntKind.u32 (v.lv : Int) (v.pu : Int) = (v.up : Int) := u32_or_nat _ _ ok.lv ok.pu
  have l1 : (v.lv : Int) < 4294967296 := by have := ok.lv; omega
  have l2 : (v.pu : Int) < 4294967296 := by have := ok.pu; omega
  have l3 : (0 : Int) ≤ v.lv := by omega
  have l4 : (0 : Int) ≤ v.pu := by omega
  clear h ok
  generalize (v.lv : Int) = a at *
  generalize (v.pu : Int) = b at *
  generalize (v.up : Int) = c at *
  go_enter Tryz.func54, Tryz.ntmps54
  go_wp2_with fail
  go_quiet (fail)
  go_wp2
  go_ret
  exact ⟨rfl, dnB w _⟩
theorem i_claimed (h : Io w p g v) (ok : IOk v) : Calls Tryz.prog 55 #[.pointer (some ⟨p, 0, none⟩)] w fun e w' => e = .returned (.int .u32 (orN v.cl v.n)) ∧ Below w.heap.size w w' := by
  have c2 := h.c2
  have HP := hid h
  have OK := hid ok
  have n2 := ok.n2
  have n1 := ok.n1
  clear h ok
  go_enter Tryz.func55, Tryz.ntmps55
  go_wp2_with fail
  go_loopw [3, 5, 11] (fun s u i wr => ∃ k : Nat, k ≤ v.n ∧ i = .int .i64 k ∧ s = .int .u32 (orN v.cl k) ∧ Hid (Below w.heap.size w wr)) (fun s u i _ => v.n - (intOf i).toNat)
  case atStart => exact ⟨0, by omega, rfl, rfl, .refl _ _⟩
  case round =>
    obtain ⟨k, hk, rfl, rfl, hb⟩ := hrel
    by_cases hlt : k < v.n
    · have h' := HP.out.below hb.out
      have d0 := h'.ce k hlt
      have d1 := h'.cc k hlt
      have e : bits BinOp.or IntKind.u32 (orN v.cl k : Int) (v.cl k : Int) = (orN v.cl (k + 1) : Int) := u32_or_nat _ _ (orN_lt OK.out.cl k) (OK.out.cl k)
      have l1 : (orN v.cl k : Int) < 4294967296 := by have := orN_lt OK.out.cl k; omega
      have l2 : (v.cl k : Int) < 4294967296 := by have := OK.out.cl k; omega
      have l3 : (0 : Int) ≤ orN v.cl k := by omega
      have l4 : (0 : Int) ≤ v.cl k := by omega
      clear h'
      generalize hA : (orN v.cl k : Int) = A at *
      generalize hB : (v.cl k : Int) = B at *
      generalize hC : (orN v.cl (k + 1) : Int) = C at *
      generalize hD : (v.le k : Int) = D at *
      go_wp2
      exact ⟨⟨k + 1, by omega, by go_num, by rw [hC], hb.out.alloc hb.out.size _⟩, by simp [intOf]; omega⟩
    · obtain rfl : k = v.n := by omega
      go_wp2
      go_ret
      exact ⟨rfl, hb.out⟩
end
end Go.Proofs.YtjkihlpckgaggaaGreat.L
namespace Go.Proofs.YtjkihlpckgaggaaGreat.L
open Go.RowKit
open C (Only hid Still ret_bool ret_int)
set_option linter.unusedVariables false
set_option maxRecDepth 100000

theorem Calls.both {P : Program} {f : FuncId} {args : Array Value} {w : World} {v : Value} {w0 : World} (x : WB w0) (h : Calls P f args x.w fun e w' => e = .returned v ∧ Below x.w.heap.size x.w w') : Calls P f args x.w fun e w'' => e = .returned v ∧ ∃ y : WB w0, w'' = y.w := Calls.wb x h
theorem IV.opn_lt {v : IV} (ok : IOk v) (h : Nat) : v.opn h < 4294967296 := and_lt (anN_lt _ _ (or_lt ok.lv ok.pu))
set_option maxHeartbeats 2000000 in
theorem i_open (w : World) (p g : Nat) (v : IV) (h : Io w p g v) (ok : IOk v) (k : Nat) (hk : k < v.n) : Calls Tryz.prog 44 #[.pointer (some ⟨p, 0, none⟩), .int .i64 k] w fun e w' => e = .returned (.int .u32 (v.opn k)) ∧ Below w.heap.size w w' := by
  have lp := lt_of_block h.top
  have lg := lt_of_block h.tab
  have c2 : ∀ x : WB w, x.w.cell? ⟨p, 2, none⟩ = some (.slice (some ⟨g, 0, none⟩) v.n v.n) := fun x => (h.below x.h).c2
  have ce : ∀ x : WB w, x.w.cell? ⟨g, k * 2, none⟩ = some (.int .u32 (v.le k)) := fun x => (h.below x.h).ce k hk
  have HU : Hid (∀ x : WB w, Calls Tryz.prog 54 #[.pointer (some ⟨p, 0, none⟩)] x.w fun e w' => e = .returned (.int .u32 v.up) ∧ Below x.w.heap.size x.w w') := fun x => i_up (h.below x.h) ok
  have HC : Hid (∀ x : WB w, Calls Tryz.prog 55 #[.pointer (some ⟨p, 0, none⟩)] x.w fun e w' => e = .returned (.int .u32 (orN v.cl v.n)) ∧ Below x.w.heap.size x.w w') := fun x => i_claimed (h.below x.h) ok
  have e1 : bits BinOp.andNot IntKind.u32 (v.up : Int) (orN v.cl v.n : Int) = (anN v.up (orN v.cl v.n) : Int) := u32_andNot_nat _ _ (or_lt ok.lv ok.pu) (orN_lt ok.cl _)
  have e2 : bits BinOp.and IntKind.u32 (anN v.up (orN v.cl v.n) : Int) (v.le k : Int) = (v.opn k : Int) := u32_and_nat _ _ (anN_lt _ _ (or_lt ok.lv ok.pu)) (ok.le k)
  have hk' : (k : Int) < v.n := by omega
  clear h ok
  generalize (v.up : Int) = U at *
  generalize (orN v.cl v.n : Int) = O at *
  generalize (anN v.up (orN v.cl v.n) : Int) = A at *
  generalize (v.le k : Int) = L at *
  generalize (v.opn k : Int) = R at *
  go_enter Tryz.func44, Tryz.ntmps44
  go_wp2_with fail
  refine wp_region_wb (by kernel_rfl) (by kernel_rfl) ?_
  repeat
    first
      | (refine wpQuiet_step (fun K hK => ?_)
         go_simp
         first
           | (refine hK _ ?_; clear hK K)
           | (refine ⟨_, fun _ => rfl, hK _ ?_⟩; clear hK K)
           | (refine ⟨.int .u32 U, fun x => ?_, hK _ ?_⟩
              · (go_at_call 54; exact Calls.wb x (HU.out x))
              clear hK K)
           | (refine ⟨.int .u32 O, fun x => ?_, hK _ ?_⟩
              · (go_at_call 55; exact Calls.wb x (HC.out x))
              clear hK K))
  refine wpQuiet_nil ?_
  intro _ hx
  obtain ⟨x, rfl⟩ := hx
  go_wp2
  go_ret
  exact ⟨rfl, x.h⟩
theorem Calls.bel {P : Program} {f : FuncId} {args : Array Value} {w : World} {v : Value} (h : Calls P f args w fun e w' => e = .returned v ∧ Below w.heap.size w w') : Calls P f args w fun e w' => e = .returned v ∧ Below w.heap.size w w' := h
/-- is a hart to be interrupted -/
def IV.pen (v : IV) (h : Int) : Bool := decide (0 ≤ h) && decide (h < v.n) && (v.opn h.toNat != 0)
theorem i_Pending (w : World) (p g : Nat) (v : IV) (h : Io w p g v) (ok : IOk v) (x : Int) (x0 : -9223372036854775808 ≤ x) (x1 : x ≤ 9223372036854775807) : Calls Tryz.prog 26 #[.pointer (some ⟨p, 0, none⟩), .int .i64 x] w fun e w' => e = .returned (.bool (v.pen x)) ∧ Below w.heap.size w w' := by
  have c2 := h.c2
  have n2 := ok.n2
  have HP : Hid (v.pen x = (decide (0 ≤ x) && decide (x < v.n) && (v.opn x.toNat != 0))) := rfl
  generalize v.pen x = P at *
  by_cases q0 : 0 ≤ x
  · by_cases q1 : x < v.n
    · obtain ⟨k, rfl⟩ : ∃ k : Nat, x = k := ⟨x.toNat, by omega⟩
      have hO := i_open w p g v h ok k (by omega)
      have l1 : (v.opn k : Int) < 4294967296 := by have := IV.opn_lt ok k; omega
      have l2 : (0 : Int) ≤ (v.opn k : Int) := by omega
      have HP2 : Hid (P = ((v.opn k : Int) != 0)) := by
        show _ = _
        rw [HP.out, Int.toNat_natCast]
        have a1 : decide (0 ≤ (k : Int)) = true := by simp
        have a2 : decide ((k : Int) < v.n) = true := by simpa using q1
        rw [a1, a2, Bool.true_and, Bool.true_and]
        rcases Nat.eq_zero_or_pos (v.opn k) with z | z
        · rw [z]; rfl
        · rw [show (v.opn k != 0) = true by simp; omega, show ((v.opn k : Int) != 0) = true by simp; omega]
      clear h ok HP
      generalize (v.opn k : Int) = R at *
      go_enter Tryz.func26, Tryz.ntmps26
      go_wp2_with (go_at_call 44; refine hO.mono ?_; rintro e w' ⟨rfl, hw⟩; have HW := hid hw; clear hw)
      go_ret
      exact ⟨ret_bool (by rw [HP2.out]), HW.out⟩
    · have e : P = false := by rw [HP.out]; simp [q1]
      subst e
      clear h ok
      go_enter Tryz.func26, Tryz.ntmps26
      go_wp2
      go_ret
      exact ⟨rfl, .refl _ _⟩
  · have e : P = false := by rw [HP.out]; simp [q0]
    subst e
    clear h ok
    go_enter Tryz.func26, Tryz.ntmps26
    go_wp2
    go_ret
    exact ⟨rfl, .refl _ _⟩
/-- which register stands at an offset -/
def fdN (n : Nat) (o s : Int) : Int × Int × Bool :=
  if s ≠ 4 ∨ o % 4096 % 4 ≠ 0 then (0, 0, false) else if o - o % 4096 = 0 then (0, o % 4096 / 4, decide (o % 4096 / 4 = 0)) else if o - o % 4096 = 4096 ∨ o - o % 4096 = 8192 then (o - o % 4096, o % 4096 / 4, decide (o % 4096 / 4 < n)) else (0, 0, false)
theorem i_find (w : World) (p g : Nat) (v : IV) (h : Io w p g v) (ok : IOk v) (o s : Int) (o0 : 0 ≤ o) (o1 : o < 18446744073709551616) (s0 : -9223372036854775808 ≤ s) (s1 : s ≤ 9223372036854775807) :
    Calls Tryz.prog 227 #[.pointer (some ⟨p, 0, none⟩), .int .u64 o, .int .i64 s] w fun e w' => e = .returned (.tuple #[.int .u64 (fdN v.n o s).1, .int .i64 (fdN v.n o s).2.1, .bool (fdN v.n o s).2.2]) ∧ Below w.heap.size w w' := by
  have c2 := h.c2
  have n2 := ok.n2
  clear h ok
  by_cases q : s ≠ 4 ∨ o % 4096 % 4 ≠ 0
  · have e : fdN v.n o s = (0, 0, false) := by unfold fdN; rw [if_pos q]
    rw [e]
    rcases q with q | q
    · go_enter Tryz.func227, Tryz.ntmps227
      go_wp2
      go_returns
      exact ⟨rfl, .refl _ _⟩
    · have q2 : (o % 4 != 0) = true := by simp; omega
      by_cases q' : s = 4
      · subst q'
        go_enter Tryz.func227, Tryz.ntmps227
        go_wp2
        go_returns
        exact ⟨rfl, .refl _ _⟩
      · go_enter Tryz.func227, Tryz.ntmps227
        go_wp2
        go_returns
        exact ⟨rfl, .refl _ _⟩
  · obtain ⟨rfl, q4⟩ : s = 4 ∧ o % 4096 % 4 = 0 := by
      refine ⟨Classical.byContradiction fun z => q (.inl z), Classical.byContradiction fun z => q (.inr z)⟩
    clear q
    obtain ⟨m, hm⟩ : ∃ m, m = o % 4096 := ⟨_, rfl⟩
    have m0 : 0 ≤ m := by omega
    have m1 : m < 4096 := by omega
    have m4 : m % 4096 = m := by omega
    have m5 : m % 4 = 0 := by omega
    obtain ⟨K, hk⟩ : ∃ K : Int, m / 4 = K := ⟨_, rfl⟩
    have k0 : 0 ≤ K := by omega
    have k1 : K < 1024 := by omega
    by_cases h0 : o = m
    · subst h0
      have e : fdN v.n o 4 = (0, o / 4, decide (o / 4 = 0)) := by unfold fdN; rw [m4, if_neg (by omega), if_pos (by omega)]
      rw [e]
      clear e hm hk k1 k0 K q4
      go_enter Tryz.func227, Tryz.ntmps227
      go_wp2
      go_returns
      exact ⟨rfl, .refl _ _⟩
    by_cases h1 : o = m + 4096
    · subst h1
      have e : fdN v.n (m + 4096) 4 = (4096, m / 4, decide (m / 4 < v.n)) := by unfold fdN; rw [← hm, if_neg (by omega), if_neg (by omega), if_pos (by omega), show m + 4096 - m = 4096 by omega]
      rw [e, hk]
      have r1 : m + 4096 - m = 4096 := by omega
      clear e hm h0 q4
      go_enter Tryz.func227, Tryz.ntmps227
      go_wp2_with fail
      go_quiet (fail)
      go_wp2
      go_returns
      exact ⟨rfl, dnB w _⟩
    by_cases h2 : o = m + 8192
    · subst h2
      have e : fdN v.n (m + 8192) 4 = (8192, m / 4, decide (m / 4 < v.n)) := by unfold fdN; rw [← hm, if_neg (by omega), if_neg (by omega), if_pos (by omega), show m + 8192 - m = 8192 by omega]
      rw [e, hk]
      have f1 : (m + 8192) % 4096 = m := hm.symm
      have r1 : m + 8192 - m = 8192 := by omega
      clear e hm h0 h1 q4
      go_enter Tryz.func227, Tryz.ntmps227
      go_wp2_with fail
      go_quiet (fail)
      go_wp2
      go_returns
      exact ⟨rfl, dnB w _⟩
    have e : fdN v.n o 4 = (0, 0, false) := by unfold fdN; rw [← hm, if_neg (by omega), if_neg (by omega), if_neg (by omega)]
    rw [e]
    have g0 : (o - m == 0) = false := by simp; omega
    have g1 : (o - m == 4096) = false := by simp; omega
    have g2 : (o - m == 8192) = false := by simp; omega
    have g3 : 0 ≤ o - m := by omega
    have f1 := hm.symm
    have g5 : o % 4 = 0 := by omega
    clear e hm q4 h0 h1 h2
    go_enter Tryz.func227, Tryz.ntmps227
    go_wp2
    go_returns
    exact ⟨rfl, .refl _ _⟩
end Go.Proofs.YtjkihlpckgaggaaGreat.L
namespace Go.Proofs.YtjkihlpckgaggaaGreat.L
open Go.RowKit
open C (Only hid Still ret_bool ret_int)
set_option linter.unusedVariables false
set_option maxRecDepth 100000

def IV.lev (v : IV) (x : Int) (u : Bool) : IV := { v with lv := if u then anN v.lv (bitN x) ||| bitN x else anN v.lv (bitN x) }
def IV.pls (v : IV) (x : Int) : IV := { v with pu := v.pu ||| bitN x }
def IV.src (v : IV) (k : Nat) : Nat := lowest (v.opn k)
def IV.clm (v : IV) (k : Nat) : IV := { v with pu := anN v.pu (bitN (v.src k)), cl := upN v.cl k (v.cl k ||| bitN (v.src k)) }
theorem bit0 (x : Int) : (bitN x).testBit 0 = false := by
  rw [bitN_at]
  simp only [decide_eq_false_iff_not]
  omega
theorem an0 (a b : Nat) (h : a.testBit 0 = false) (hb : b < 4294967296) : (anN a b).testBit 0 = false := by rw [anN_at _ _ _ hb, h]; rfl
theorem or0 {a b : Nat} (h : a.testBit 0 = false) (k : b.testBit 0 = false) : (a ||| b).testBit 0 = false := by rw [Nat.testBit_or, h, k]; rfl
theorem upN_lt {f : Nat → Nat} {B : Nat} (h : ∀ i, f i < B) (i : Nat) {x : Nat} (hx : x < B) : ∀ j, upN f i x j < B := fun j => by
  unfold upN
  split
  · exact hx
  · exact h j
theorem IOk.lev {v : IV} (ok : IOk v) (x : Int) (u : Bool) : IOk (v.lev x u) := by
  refine ⟨?_, ok.pu, ok.le, ok.cl, ?_, ok.p0, ok.n1, ok.n2⟩
  · show (if u then anN v.lv (bitN x) ||| bitN x else anN v.lv (bitN x)) < 4294967296
    split
    · exact or_lt (anN_lt _ _ ok.lv) (bitN_lt x)
    · exact anN_lt _ _ ok.lv
  · show (if u then anN v.lv (bitN x) ||| bitN x else anN v.lv (bitN x)).testBit 0 = false
    split
    · exact or0 (an0 _ _ ok.l0 (bitN_lt x)) (bit0 x)
    · exact an0 _ _ ok.l0 (bitN_lt x)
theorem IOk.pls {v : IV} (ok : IOk v) (x : Int) : IOk (v.pls x) := ⟨ok.lv, or_lt ok.pu (bitN_lt x), ok.le, ok.cl, ok.l0, or0 ok.p0 (bit0 x), ok.n1, ok.n2⟩
theorem IOk.clm {v : IV} (ok : IOk v) (k : Nat) : IOk (v.clm k) := ⟨ok.lv, anN_lt _ _ ok.pu, ok.le, upN_lt ok.cl k (or_lt (ok.cl k) (bitN_lt _)), ok.l0, an0 _ _ ok.p0 (bitN_lt _), ok.n1, ok.n2⟩
theorem lv_set (v : IV) (g x : Nat) : (v.cells g).setIfInBounds 0 (.int .u32 x) = ({ v with lv := x } : IV).cells g := rfl
theorem pu_set (v : IV) (g x : Nat) : (v.cells g).setIfInBounds 1 (.int .u32 x) = ({ v with pu := x } : IV).cells g := rfl
theorem Io.dn {w : World} {p g : Nat} {v : IV} (h : Io w p g v) (n : Nat) : Io (w.drewN n) p g v := h.below (dnB w n)
theorem i_Level (w : World) (F : Nat → Prop) (p : Nat) (v : IV) (h : Ix w F p v) (x : Int) (u : Bool) (x0 : -9223372036854775808 ≤ x) (x1 : x ≤ 9223372036854775807) : Calls Tryz.prog 41 #[.pointer (some ⟨p, 0, none⟩), .int .i64 x, .bool u] w fun e w' => e = .returned (.tuple #[]) ∧ Ix w' F p (v.lev x u) ∧ Only F w w' := by
  obtain ⟨g, h1, ok, hF⟩ := h
  have hb := c_bit x x0 x1
  have c0 := h1.c0
  have z0 := h1.fp 0
  have e1 : bits BinOp.andNot IntKind.u32 (v.lv : Int) (bitN x : Int) = (anN v.lv (bitN x) : Int) := u32_andNot_nat _ _ ok.lv (bitN_lt x)
  have e2 : bits BinOp.or IntKind.u32 (anN v.lv (bitN x) : Int) (bitN x : Int) = ((anN v.lv (bitN x) ||| bitN x : Nat) : Int) := u32_or_nat _ _ (anN_lt _ _ ok.lv) (bitN_lt x)
  have b0 : (0 : Int) ≤ (bitN x : Int) := by omega
  have b1 : (bitN x : Int) < 4294967296 := by have := bitN_lt x; omega
  have H := hid h1
  have OK := hid ok
  have HF := hid hF
  have ho : Hid (∀ n (y : Value), Only F w ((w.drewN n).setCell ⟨p, 0, none⟩ y)) := fun n y => (Only.ofBelow (dnB w n)).setCell (.inl ((hF p).2 (.inl rfl))) y
  have hi : Hid (∀ n (y : Nat), Io ((w.drewN n).setCell ⟨p, 0, none⟩ (.int .u32 y)) p g { v with lv := y }) := fun n y => (h1.dn n).putp 0 _ _ (lv_set v g y) ⟨rfl, rfl, rfl⟩
  clear h1 ok hF
  generalize hB : (bitN x : Int) = B at *
  generalize hA : (anN v.lv (bitN x) : Int) = A at *
  generalize hC : ((anN v.lv (bitN x) ||| bitN x : Nat) : Int) = C at *
  go_enter Tryz.func41, Tryz.ntmps41
  go_wp2_with fail
  refine wp_region_last_lit (by simp) (by kernel_rfl) (by kernel_rfl) (by kernel_rfl) ?_
  simp only [List.dropLast, List.getLast]
  repeat (go_big_quiet_step (first | (go_at_call 52; exact Calls.quiet_of_same (hb _))))
  refine wpQuiet_nil ?_
  intro _ hwq
  obtain ⟨nq, hwq⟩ := hwq
  subst hwq
  cases u
  · go_wp2
    go_returns
    refine ⟨rfl, ⟨g, ?_, OK.out.lev x false, HF.out⟩, ho.out nq _⟩
    rw [← hA]
    exact hi.out nq _
  · obtain ⟨w1, hw1⟩ : ∃ w1, w1 = (w.drewN nq).setCell ⟨p, 0, none⟩ (.int .u32 A) := ⟨_, rfl⟩
    have hi1 := hi.out nq (anN v.lv (bitN x))
    have ho1 := ho.out nq (.int .u32 A)
    rw [hA, ← hw1] at hi1
    rw [← hw1] at ho1
    have d0 := hi1.c0
    have y0 := hi1.fp 0
    rw [show (({ v with lv := anN v.lv (bitN x) } : IV).lv : Int) = A from hA] at d0
    have HI := hid hi1
    have HO := hid ho1
    have HW := hid hw1
    clear hi1 ho1 hw1 ho hi
    go_wp2_with fail
    rw [← HW.out]
    clear HW
    refine wp_region_last_lit (by simp) (by kernel_rfl) (by kernel_rfl) (by kernel_rfl) ?_
    simp only [List.dropLast, List.getLast]
    repeat (go_big_quiet_step (first | (go_at_call 52; exact Calls.quiet_of_same (hb _))))
    refine wpQuiet_nil ?_
    intro _ hwq
    obtain ⟨nq, hwq⟩ := hwq
    subst hwq
    go_wp2
    go_returns
    rename_i nr
    refine ⟨rfl, ⟨g, ?_, OK.out.lev x true, HF.out⟩, (HO.out.trans (Only.ofBelow (dnB w1 _))).setCell (.inl ((HF.out p).2 (.inl rfl))) _⟩
    rw [← hC]
    exact (HI.out.dn _).putp 0 _ (v.lev x true) (lv_set _ g _) ⟨rfl, rfl, rfl⟩
set_option maxHeartbeats 2000000 in
theorem i_claim (w : World) (F : Nat → Prop) (p : Nat) (v : IV) (h : Ix w F p v) (k : Nat) (hk : k < v.n) : Calls Tryz.prog 228 #[.pointer (some ⟨p, 0, none⟩), .int .i64 k] w fun e w' => e = .returned (.int .i64 (v.src k)) ∧ Ix w' F p (v.clm k) ∧ Only F w w' := by
  obtain ⟨g, h1, ok, hF⟩ := h
  have hO := i_open w p g v h1 ok k hk
  have hL := c_lowest (v.opn k) (IV.opn_lt ok k)
  have s32 : v.src k < 32 := by
    rcases lowest_spec (v.opn k) with z | z
    · unfold IV.src; omega
    · unfold IV.src; omega
  have hb := c_bit (v.src k) (by omega) (by omega)
  have e1 : bits BinOp.andNot IntKind.u32 (v.pu : Int) (bitN (v.src k) : Int) = (anN v.pu (bitN (v.src k)) : Int) := u32_andNot_nat _ _ ok.pu (bitN_lt _)
  have e2 : bits BinOp.or IntKind.u32 (v.cl k : Int) (bitN (v.src k) : Int) = ((v.cl k ||| bitN (v.src k) : Nat) : Int) := u32_or_nat _ _ (ok.cl k) (bitN_lt _)
  have b0 : (0 : Int) ≤ (bitN (v.src k) : Int) := by omega
  have b1 : (bitN (v.src k) : Int) < 4294967296 := by have := bitN_lt (v.src k); omega
  have s0 : (0 : Int) ≤ (v.src k : Int) := by omega
  have s1 : (v.src k : Int) < 32 := by omega
  have n2 := ok.n2
  have OK := hid ok
  have HF := hid hF
  have H := hid h1
  have HD : Hid (v.clm k = { v with pu := anN v.pu (bitN (v.src k)), cl := upN v.cl k (v.cl k ||| bitN (v.src k)) }) := rfl
  have OC := hid (ok.clm k)
  have hk' : (k : Int) < v.n := by omega
  clear h1 ok hF s32
  have es : (lowest (v.opn k) : Int) = (v.src k : Int) := rfl
  rw [es] at hL
  clear es
  generalize v.clm k = vc at *
  generalize hS : (v.src k : Int) = S at *
  generalize hB : (bitN S : Int) = B at *
  generalize hA : (anN v.pu (bitN S) : Int) = A at *
  generalize hC : ((v.cl k ||| bitN S : Nat) : Int) = C at *
  generalize (v.opn k : Int) = R at *
  go_enter Tryz.func228, Tryz.ntmps228
  go_upto_region 2 with (first | (go_at_call 44; refine hO.mono ?_; rintro e w1 ⟨rfl, hw⟩; have HW := hid hw; clear hw) | (go_at_call 229; refine (hL _).mono ?_; rintro e w' ⟨rfl, hw⟩; obtain rfl := hw.symm))
  have h1 := H.out.below HW.out
  have d1 := h1.c1
  have y1 := h1.fp 1
  have H1 := hid h1
  have HI : Hid (∀ n (y : Nat), Io ((w1.drewN n).setCell ⟨p, 1, none⟩ (.int .u32 y)) p g { v with pu := y }) := fun n y => (h1.dn n).putp 1 _ _ (pu_set v g y) ⟨rfl, rfl, rfl⟩
  clear h1
  refine wp_region_last_lit (by simp) (by kernel_rfl) (by kernel_rfl) (by kernel_rfl) ?_
  simp only [List.dropLast, List.getLast]
  repeat (go_big_quiet_step (first | (go_at_call 52; exact Calls.quiet_of_same (hb _))))
  refine wpQuiet_nil ?_
  intro _ hwq
  obtain ⟨nq, hwq⟩ := hwq
  subst hwq
  obtain ⟨w2, hw2⟩ : ∃ w2, w2 = (w1.drewN nq).setCell ⟨p, 1, none⟩ (.int .u32 A) := ⟨_, rfl⟩
  have hi1 := HI.out nq (anN v.pu (bitN S))
  rw [hA, ← hw2] at hi1
  have HO2 : Hid (Only F w w2) := by rw [hw2]; exact ((Only.ofBelow HW.out).trans (Only.ofBelow (dnB w1 nq))).setCell (.inl ((HF.out p).2 (.inl rfl))) _
  have d2 := hi1.c2
  have d3 := hi1.cc k hk
  have y3 := hi1.fg (k * 2 + 1)
  have HI2 := hid hi1
  have HW2 := hid hw2
  clear hi1 hw2 HI
  go_wp2_with fail
  rw [← HW2.out]
  clear HW2
  refine wp_region_last_lit (by simp) (by kernel_rfl) (by kernel_rfl) (by kernel_rfl) ?_
  simp only [List.dropLast, List.getLast]
  repeat (go_big_quiet_step (first | (go_at_call 52; exact Calls.quiet_of_same (hb _))))
  refine wpQuiet_nil ?_
  intro _ hwq
  obtain ⟨nq, hwq⟩ := hwq
  subst hwq
  go_wp2
  go_ret
  refine ⟨rfl, ⟨g, ?_, OC.out, HF.out⟩, (HO2.out.trans (Only.ofBelow (dnB w2 _))).setCell (.inl ((HF.out g).2 (.inr rfl))) _⟩
  rw [← hC, HD.out]
  have := (HI2.out.dn nq).putc k (v.cl k ||| bitN S)
  subst hS
  exact this
end Go.Proofs.YtjkihlpckgaggaaGreat.L
namespace Go.Proofs.YtjkihlpckgaggaaGreat.L
open Go.RowKit
open C (Only hid Still ret_bool ret_int)
set_option linter.unusedVariables false
set_option maxRecDepth 100000

/-- is a bit there -/
def bt (x k : Int) : Bool := bits BinOp.and IntKind.u8 x k != 0
def UV.lat (v : UV) : Bool := bt (v.h 3) 128
def UV.cau (v : UV) : Int := if v.ov && bt (v.h 1) 4 then 6 else if decide (0 < v.q.length) && bt (v.h 1) 1 then 4 else if v.em && bt (v.h 1) 2 then 2 else 1
section
variable {w : World} {p : Nat} {a b : Value} {v : UV}
theorem Uo.c0 (h : Uo w p a b v) : w.cell? ⟨p, 0, none⟩ = some (a) := cell_of_row w p 0 _ _ _ h.top
theorem Uo.c1 (h : Uo w p a b v) : w.cell? ⟨p, 1, none⟩ = some (b) := cell_of_row w p 1 _ _ _ h.top
theorem Uo.c2 (h : Uo w p a b v) : w.cell? ⟨p, 2, none⟩ = some (.int .u8 (v.h 0)) := cell_of_row w p 2 _ _ _ h.top
theorem Uo.c3 (h : Uo w p a b v) : w.cell? ⟨p, 3, none⟩ = some (.int .u8 (v.h 1)) := cell_of_row w p 3 _ _ _ h.top
theorem Uo.c4 (h : Uo w p a b v) : w.cell? ⟨p, 4, none⟩ = some (.int .u8 (v.h 2)) := cell_of_row w p 4 _ _ _ h.top
theorem Uo.c5 (h : Uo w p a b v) : w.cell? ⟨p, 5, none⟩ = some (.int .u8 (v.h 3)) := cell_of_row w p 5 _ _ _ h.top
theorem Uo.c6 (h : Uo w p a b v) : w.cell? ⟨p, 6, none⟩ = some (.int .u8 (v.h 4)) := cell_of_row w p 6 _ _ _ h.top
theorem Uo.c7 (h : Uo w p a b v) : w.cell? ⟨p, 7, none⟩ = some (.int .u8 (v.h 5)) := cell_of_row w p 7 _ _ _ h.top
theorem Uo.c8 (h : Uo w p a b v) : w.cell? ⟨p, 8, none⟩ = some (.int .u8 (v.h 6)) := cell_of_row w p 8 _ _ _ h.top
theorem Uo.c9 (h : Uo w p a b v) : w.cell? ⟨p, 9, none⟩ = some (.int .u8 (v.h 7)) := cell_of_row w p 9 _ _ _ h.top
theorem Uo.c10 (h : Uo w p a b v) : w.cell? ⟨p, 10, none⟩ = some (.int .u8 (v.d 0)) := cell_of_row w p 10 _ _ _ h.top
theorem Uo.c11 (h : Uo w p a b v) : w.cell? ⟨p, 11, none⟩ = some (.int .u8 (v.d 1)) := cell_of_row w p 11 _ _ _ h.top
theorem Uo.c12 (h : Uo w p a b v) : w.cell? ⟨p, 12, none⟩ = some (.bool v.ov) := cell_of_row w p 12 _ _ _ h.top
theorem Uo.c13 (h : Uo w p a b v) : w.cell? ⟨p, 13, none⟩ = some (.bool v.em) := cell_of_row w p 13 _ _ _ h.top
theorem Uo.fz (h : Uo w p a b v) (k : Nat) : w.frozen? ⟨p, k, none⟩ = false := frozen_of_row w p k _ _ h.top
end
theorem u_latched (w : World) (p : Nat) (a b : Value) (v : UV) (h : Uo w p a b v) (ok : UOk v) : Calls Tryz.prog 216 #[.pointer (some ⟨p, 0, none⟩)] w fun e w' => e = .returned (.bool v.lat) ∧ w' = w := by
  have c5 := h.c5
  obtain ⟨b0, b1⟩ := ok.h 3
  clear h ok
  go_enter Tryz.func216, Tryz.ntmps216
  go_wp2
  go_ret
  exact ⟨rfl, rfl⟩
theorem u_cause (w : World) (p : Nat) (a b : Value) (v : UV) (h : Uo w p a b v) (ok : UOk v) : Calls Tryz.prog 70 #[.pointer (some ⟨p, 0, none⟩)] w fun e w' => e = .returned (.int .u8 v.cau) ∧ w' = w := by
  have c3 := h.c3
  have c12 := h.c12
  have c13 := h.c13
  have c0 := h.c0
  obtain ⟨ad, cp, rfl⟩ := own_form h.q
  obtain ⟨b0, b1⟩ := ok.h 1
  have hl := ok.l
  clear h ok
  have HC : Hid (v.cau = if v.ov && bt (v.h 1) 4 then 6 else if decide (0 < v.q.length) && bt (v.h 1) 1 then 4 else if v.em && bt (v.h 1) 2 then 2 else 1) := rfl
  generalize v.cau = c at *
  generalize v.ov = ov at *
  generalize v.em = em at *
  generalize v.h 1 = x at *
  generalize v.q.length = n at *
  clear v
  unfold bt at HC
  by_cases hn : 0 < n
  all_goals
    cases ov <;> cases em <;>
    (go_enter Tryz.func70, Tryz.ntmps70
     go_wp2
     all_goals (go_ret; refine ⟨ret_int ?_, rfl⟩; rw [HC.out]; simp [*]))
end Go.Proofs.YtjkihlpckgaggaaGreat.L
