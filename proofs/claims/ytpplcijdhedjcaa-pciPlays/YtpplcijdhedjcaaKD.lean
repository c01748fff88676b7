/- New: a bus. -/
import Derived.Test.YtpplcijdhedjcaaMH1
import Derived.Test.YtpplcijdhedjcaaKQ
namespace Go.Proofs.Ytpplcijdhedjcaa
open Go.RowKit
open C (Only hid Still ret_bool ret_int row)
set_option linter.unusedVariables false
set_option maxRecDepth 100000

theorem info_space : (Try.prog.info? 59).map (fun i => (i.zero, i.size, i.bytes)) = some (some (.agg (List.replicate 256 (Value.int .u8 0)).toArray), 256, 256) := by kernel_rfl
theorem u_sspace : Try.prog.underlying 55 = some (.slice 59) := by kernel_rfl
/-- a bus: its block, its list of slots; f its bytes, slot behind slot -/
structure Bx (w : World) (p : Nat) (u : Value) (n : Nat) (f : Nat → Int) : Prop where
  top : w.heap[p]? = some (.cells #[u] 57 (0, 0))
  own : w.ownsRow 0 59 256 u n (row f 0 (n * 256))
/-- the bytes of slots at their beginning -/
def spn (K : Nat → Int) (i : Nat) : Int := sp0 (K (i / 256)) (i % 256)
theorem sp0_b (k : Int) (j : Nat) : Byt (sp0 k j) := by
  unfold sp0
  have hb : ∀ v j, 0 ≤ C.byt v j ∧ C.byt v j < 256 := C.byt_b
  have hp : ∀ (g : Nat → Int) o n v, (∀ i, Byt (g i)) → ∀ i, Byt (C.put g o n (C.byt v) i) := fun g o n v hg i => by
    unfold C.put
    split
    · exact hb _ _
    · exact hg i
  exact hp _ _ _ _ (hp _ _ _ _ (hp _ _ _ _ (hp _ _ _ _ (hp _ _ _ _ (hp _ _ _ _ (hp _ _ _ _ (hp _ _ _ _ (hp _ _ _ _ (hp _ _ _ _ fun i => ⟨by decide, by decide⟩))))))))) j
theorem spn_b (K : Nat → Int) (i : Nat) : Byt (spn K i) := sp0_b _ _
theorem row_join (f g : Nat → Int) (n m : Nat) (h : ∀ j, j < m → f (n + j) = g j) : row f 0 n ++ row g 0 m = row f 0 (n + m) := by
  apply List.ext_getElem?
  intro i
  rcases Nat.lt_or_ge i n with q | q
  · rw [List.getElem?_append_left (by simpa [C.row_length] using q), C.row_get _ _ _ _ q, C.row_get _ _ _ _ (by omega)]
  · rw [List.getElem?_append_right (by simpa [C.row_length] using q), C.row_length]
    rcases Nat.lt_or_ge i (n + m) with r | r
    · rw [C.row_get _ _ _ _ (by omega), C.row_get _ _ _ _ r, Nat.zero_add, Nat.zero_add, ← h (i - n) (by omega), show n + (i - n) = i by omega]
    · rw [List.getElem?_eq_none (by simp [C.row_length]; omega), List.getElem?_eq_none (by simp [C.row_length]; omega)]
theorem bx_grow {w0 w3 : World} {p j : Nat} {u v : Value} {f K : Nat → Int} {kk : Int} (ht : w0.heap[p]? = some (.cells #[u] 57 (0, 0))) (ho : w0.ownsRow 0 59 256 u j (row f 0 (j * 256))) (m1 : w3.ownsRow 0 59 256 v (j + 1) (row f 0 (j * 256) ++ row (sp0 kk) 0 256)) (m2 : Only (Ug u) w0 w3) (hf : ∀ i, i < j * 256 → f i = spn K i) (hk : K j = kk) : Bx (w3.setCell ⟨p, 0, none⟩ v) p v (j + 1) (spn K) := by
  have t3 := m2.old ht (fun z => own_ne ho ht (by decide) p z rfl)
  have e : row f 0 (j * 256) ++ row (sp0 kk) 0 256 = row (spn K) 0 ((j + 1) * 256) := by
    rw [C.row_congr (f := f) (g := spn K) (s := 0) (t := 0) (n := j * 256) (fun i hi => by rw [Nat.zero_add]; exact hf i hi), row_join _ _ _ _ (fun i hi => by unfold spn; rw [show (j * 256 + i) / 256 = j by omega, show (j * 256 + i) % 256 = i by omega, hk]), Nat.succ_mul]
  rw [e] at m1
  exact ⟨setRowB w3 p 0 _ _ _ _ t3 rfl, own_only m1 (only_c w3 p 0 v) (own_ne m1 t3 (by decide))⟩
/-- how far a slot is made: its space, the list of one, the list that grew, the store -/
def MD (w0 : World) (u : Value) (j : Nat) (f : Nat → Int) (kk : Int) (p : Nat) : Nat → Value × Value → World → Prop
  | 0, _, w => w = w0
  | 1, _, w => Below w0.heap.size w0 w
  | 2, x, w => ∃ w1, Below w0.heap.size w0 w1 ∧ x.1 = .slice (some ⟨w1.heap.size, 0, none⟩) 1 1 ∧ w = w1.alloc (.cells (row (sp0 kk) 0 256).toArray 59)
  | 3, x, w => w.ownsRow 0 59 256 x.2 (j + 1) (row f 0 (j * 256) ++ row (sp0 kk) 0 256) ∧ Only (Ug u) w0 w ∧ ∀ k, Ug x.2 k → Ug u k ∨ w0.heap.size ≤ k
  | 4, x, w => ∃ w3 : World, w3.ownsRow 0 59 256 x.2 (j + 1) (row f 0 (j * 256) ++ row (sp0 kk) 0 256) ∧ Only (Ug u) w0 w3 ∧ (∀ k, Ug x.2 k → Ug u k ∨ w0.heap.size ≤ k) ∧ w = w3.setCell ⟨p, 0, none⟩ x.2
  | _ + 5, _, _ => False
/-- a list of ints that can be read -/
structure Ls (w : World) (ad : Option Addr) (n cap b o : Nat) (K : Nat → Int) : Prop where
  len : n ≤ cap
  cap : cap ≤ 9223372036854775807
  at0 : 0 < n → ad = some ⟨b, o, none⟩ ∧ b < w.heap.size
  cell : ∀ j, j < n → w.cell? ⟨b, o + j, none⟩ = some (.int .i64 (K j))
  num : ∀ j, j < n → -9223372036854775808 ≤ K j ∧ K j ≤ 9223372036854775807
theorem Ls.below {w w' : World} {ad : Option Addr} {n cap b o : Nat} {K : Nat → Int} (h : Ls w ad n cap b o K) (hb : Below w.heap.size w w') : Ls w' ad n cap b o K :=
  ⟨h.len, h.cap, fun q => ⟨(h.at0 q).1, Nat.lt_of_lt_of_le (h.at0 q).2 hb.size⟩, fun j hj => by
    rw [World.cell?_of_block (w := w) (hb.block _ (h.at0 (by omega)).2)]
    exact h.cell j hj, h.num⟩
set_option maxHeartbeats 4000000 in
theorem c_New (W : World) (ad : Option Addr) (n cap b o : Nat) (K : Nat → Int) (hL : Ls W ad n cap b o K) (n8 : n ≤ 8) (hK : ∀ j, j < n → 0 ≤ K j ∧ K j ≤ 255) : Calls Try.prog 8 #[.slice ad n cap] W fun e w' => e = .returned (.tuple #[.pointer (some ⟨W.heap.size, 0, none⟩), .int .i64 0]) ∧ ∃ u, Bx w' W.heap.size u n (spn K) ∧ Below W.heap.size W w' ∧ ∀ k, Ug u k → W.heap.size ≤ k := by
  have HL := hid hL
  have HK := hid hK
  clear hL hK
  go_enter Try.func8, Try.ntmps8
  go_wp2_with fail
  obtain ⟨p, hp⟩ : ∃ p, p = W.heap.size := ⟨_, rfl⟩
  rw [← hp]
  have HPp := hid hp
  have HB0 : Hid (Bx (W.alloc (.cells #[.slice none 0 0] 57)) p (.slice none 0 0) 0 (spn K)) := by
    rw [HPp.out]
    exact ⟨heap_alloc_new W _, rfl, .inl ⟨rfl, rfl⟩⟩
  have HW0 : Hid (Below W.heap.size W (W.alloc (.cells #[.slice none 0 0] 57))) := (Below.refl _ _).alloc (Nat.le_refl _) _
  clear hp
  generalize W.alloc (.cells #[.slice none 0 0] 57) = w00 at *
  go_loopw [14] (fun i wr => ∃ (j : Nat) (u : Value), j ≤ n ∧ i = .int .i64 j ∧ Hid (Bx wr p u j (spn K)) ∧ Hid (Below W.heap.size W wr) ∧ Hid (∀ k, Ug u k → W.heap.size ≤ k)) (fun i _ => n - (intOf i).toNat)
  case atStart => exact ⟨0, .slice none 0 0, by omega, rfl, HB0, HW0, fun k hk => by cases hk⟩
  case round =>
    obtain ⟨j, u, hj, rfl, HB, HBW, HFR⟩ := hrel
    by_cases hlt : j < n
    · obtain ⟨rfl, -⟩ := HL.out.at0 (by omega)
      have hcl := HL.out.len
      have hcc := HL.out.cap
      have hc : wr.cell? ⟨b, o + j, none⟩ = some (.int .i64 (K j)) := (HL.out.below HBW.out).cell j hlt
      obtain ⟨k0, k1⟩ := HK.out j hlt
      obtain ⟨kk, hkk⟩ : ∃ kk, K j = kk := ⟨_, rfl⟩
      rw [hkk] at hc k0 k1
      have HKK := hid hkk
      clear hkk
      have HNS : Hid (∀ w, Calls Try.prog 23 #[.int .i64 kk] w fun e w' => e = .returned (.agg (row (sp0 kk) 0 256).toArray) ∧ Below w.heap.size w w') := fun w => c_newSpace w kk k0 (by omega)
      obtain ⟨f, hf⟩ : ∃ f, f = spn K := ⟨_, rfl⟩
      have HBF : Hid (∀ i, i < j * 256 → f i = spn K i) := fun i _ => by rw [hf]
      rw [← hf] at HB
      clear hf
      go_wp2
      refine wp_region_any (by kernel_rfl) ?_
      obtain ⟨w0, hw0⟩ : ∃ w0, w0 = wr.drew := ⟨_, rfl⟩
      rw [show ({ wr with drawn := wr.drawn + 1 } : World) = w0 from hw0.symm]
      have HTP : Hid (w0.heap[p]? = some (.cells #[u] 57 (0, 0))) := by rw [hw0]; exact HB.out.top
      have HOW : Hid (w0.ownsRow 0 59 256 u j (row f 0 (j * 256))) := by rw [hw0]; exact own_below HB.out.own (Below.refl _ _).drew
      have HDR : Hid (Only (fun _ => False) wr w0) := by rw [hw0]; exact (Only.refl wr).drew
      clear hw0
      have HLD : Hid (∀ s x w, s ≤ 3 → MD w0 u j f kk p s x w → w.cell? ⟨p, 0, none⟩ = some u) := fun s x w hs hm => by
        have hd := own_ne HOW.out HTP.out (by decide)
        match s, hm with
        | 0, hm => rw [show w = w0 from hm]; exact cell_of_row w0 p 0 _ _ _ HTP.out
        | 1, hm => exact cell_of_row w p 0 _ _ _ ((Only.ofBelow (S := fun _ => False) hm).old HTP.out fun z => z)
        | 2, ⟨w1, m1, m2, m3⟩ => exact cell_of_row w p 0 _ _ _ ((Only.ofBelow (S := fun _ => False) (by rw [m3]; exact m1.alloc m1.size _)).old HTP.out fun z => z)
        | 3, ⟨m1, m2, m3⟩ => exact cell_of_row w p 0 _ _ _ (m2.old HTP.out fun z => hd p z rfl)
      refine wpAny_fx (α := Value × Value) (fun x => fun dd => if dd = 24 then .pointer (some ⟨p, 0, none⟩) else if dd = 25 then .pointer (some ⟨p, 0, none⟩) else if dd = 26 then .pointer (some ⟨p, 0, none⟩) else if dd = 27 then .pointer (some ⟨p, 0, none⟩) else if dd = 28 then u else if dd = 29 then .int .i64 kk else if dd = 30 then .agg (row (sp0 kk) 0 256).toArray else if dd = 31 then x.1 else if dd = 32 then x.2 else if dd = 33 then .pointer (some ⟨p, 0, none⟩) else if dd = 34 then .pointer (some ⟨p, 0, none⟩) else undef) (VL [6, 7, 8, 11] 11 9 (MD w0 u j f kk p)) ?step ?fin (.bool true, .bool true) ?start
      case start => exact .start rfl
      case step =>
        rintro listed fr wr x hF hW i hj
        obtain ⟨hl, o, ho, he⟩ := mem_ready.1 hj
        have hjl : i < listed.size := by rw [hF.ls]; exact (Array.getElem?_eq_some_iff.1 ho).1
        have hl0 := getD_tf hjl hl
        clear hj
        have HF := hid hF
        have HW := hid hW
        have HE := hid he
        clear hF hW he hl
        match i, ho with
        | 0, ho =>
          obtain rfl := Option.some.inj ho
          have e4 : fr.tmps[4]?.getD undef = .pointer (some ⟨p, 0, none⟩) := HF.out.base 4 (by kernel_rfl) rfl
          exact wp_q rfl rfl (by simp [execOp, go_sem, e4]; try rfl) ⟨x, HF.out.put (by kernel_rfl) rfl rfl rfl (of_decide_eq_true rfl), HW.out.q hjl (by decide) (by decide)⟩
        | 1, ho =>
          obtain rfl := Option.some.inj ho
          have e4 : fr.tmps[4]?.getD undef = .pointer (some ⟨p, 0, none⟩) := HF.out.base 4 (by kernel_rfl) rfl
          exact wp_q rfl rfl (by simp [execOp, go_sem, e4]; try rfl) ⟨x, HF.out.put (by kernel_rfl) rfl rfl rfl (of_decide_eq_true rfl), HW.out.q hjl (by decide) (by decide)⟩
        | 2, ho =>
          obtain rfl := Option.some.inj ho
          have e25 : fr.tmps[25]?.getD undef = .pointer (some ⟨p, 0, none⟩) := HF.out.ev (i := 1) rfl rfl (HE.out ⟨1, .data⟩ (by simp) rfl)
          exact wp_q rfl rfl (by simp [execOp, go_sem, e25]; try rfl) ⟨x, HF.out.put (by kernel_rfl) rfl rfl rfl (of_decide_eq_true rfl), HW.out.q hjl (by decide) (by decide)⟩
        | 3, ho =>
          obtain rfl := Option.some.inj ho
          have e26 : fr.tmps[26]?.getD undef = .pointer (some ⟨p, 0, none⟩) := HF.out.ev (i := 2) rfl rfl (HE.out ⟨2, .data⟩ (by simp) rfl)
          exact wp_q rfl rfl (by simp [execOp, go_sem, e26]; try rfl) ⟨x, HF.out.put (by kernel_rfl) rfl rfl rfl (of_decide_eq_true rfl), HW.out.q hjl (by decide) (by decide)⟩
        | 4, ho =>
          obtain rfl := Option.some.inj ho
          have e27 : fr.tmps[27]?.getD undef = .pointer (some ⟨p, 0, none⟩) := HF.out.ev (i := 3) rfl rfl (HE.out ⟨3, .data⟩ (by simp) rfl)
          have hc : wr.cell? ⟨p, 0, none⟩ = some u := HW.out.upto 3 rfl hl0 (by decide) (fun s hs hm => HLD.out s x wr hs hm)
          exact wp_q rfl rfl (by simp [execOp, go_sem, e27, hc]; try rfl) ⟨x, HF.out.put (by kernel_rfl) rfl rfl rfl (of_decide_eq_true rfl), HW.out.q hjl (by decide) (by decide)⟩
        | 5, ho =>
          obtain rfl := Option.some.inj ho
          have e6 : fr.tmps[6]?.getD undef = .int .i64 kk := HF.out.base 6 (by kernel_rfl) rfl
          exact wp_q rfl rfl (by simp [execOp, go_sem, e6]; try rfl) ⟨x, HF.out.put (by kernel_rfl) rfl rfl rfl (of_decide_eq_true rfl), HW.out.q hjl (by decide) (by decide)⟩
        | 6, ho =>
          obtain rfl := Option.some.inj ho
          have e29 : fr.tmps[29]?.getD undef = .int .i64 kk := HF.out.ev (i := 5) rfl rfl (HE.out ⟨5, .data⟩ (by simp) rfl)
          have m0 := HW.out.1.at 0 rfl hl0 (fun j hj => by omega)
          subst m0
          refine wp_c1 rfl rfl _ _ _ rfl (.int .i64 kk) (by simp [Act.eval, e29]) (Try.call23 _ _) (HNS.out _) ?_
          rintro r w7 ⟨rfl, kb⟩
          exact ⟨_, rfl, x, HF.out.put (by kernel_rfl) rfl rfl rfl (of_decide_eq_true rfl), HW.out.go 0 hjl rfl hl0 (fun j hj => by omega) (by intro a ha; match a, ha with | 0, _ => rfl | 1, ha => simp at ha | 2, ha => simp at ha | 3, ha => simp at ha) kb (by decide)⟩
        | 7, ho =>
          obtain rfl := Option.some.inj ho
          have e30 : fr.tmps[30]?.getD undef = .agg (row (sp0 kk) 0 256).toArray := HF.out.ev (i := 6) rfl rfl (HE.out ⟨6, .data⟩ (by simp) rfl)
          have h6 : listed.getD 6 false = true := HE.out ⟨6, .data⟩ (by simp) rfl
          have m1 := HW.out.1.at 1 rfl hl0 (fun j hj => by obtain rfl : j = 0 := (by omega); exact ⟨6, rfl, h6⟩)
          obtain ⟨i0, hi0, hz0, hs0, hb0⟩ := info_parts info_space
          refine wp_bs rfl rfl 55 59 1 _ rfl (row (sp0 kk) 0 256).toArray i0 _ u_sspace hi0 hz0 (by rw [hs0]; decide) (by rw [hs0]; decide) ?_ ?_
          · have := Great.fill_whole (s := 256) (by decide) [.agg (row (sp0 kk) 0 256).toArray] ((Array.range (1 * 256)).map (((Value.agg (List.replicate 256 (Value.int .u8 0)).toArray).cells)[· % (Value.agg (List.replicate 256 (Value.int .u8 0)).toArray).cells.size]!)) (fun v hv => by rw [List.mem_singleton.1 hv]; simp [Value.cells, C.row_length]) (by simp)
            rw [hs0]
            have e1 : Act.eval fr (.tmp 30) = .agg (row (sp0 kk) 0 256).toArray := by simp [Act.eval, e30]
            simp only [List.map_toArray, List.map_cons, List.map_nil, e1]
            refine this.trans ?_
            simp [Value.cells]
          have HFy : Hid (FrQ _ ((fun x : Value × Value => fun dd => if dd = 24 then .pointer (some ⟨p, 0, none⟩) else if dd = 25 then .pointer (some ⟨p, 0, none⟩) else if dd = 26 then .pointer (some ⟨p, 0, none⟩) else if dd = 27 then .pointer (some ⟨p, 0, none⟩) else if dd = 28 then u else if dd = 29 then .int .i64 kk else if dd = 30 then .agg (row (sp0 kk) 0 256).toArray else if dd = 31 then x.1 else if dd = 32 then x.2 else if dd = 33 then .pointer (some ⟨p, 0, none⟩) else if dd = 34 then .pointer (some ⟨p, 0, none⟩) else undef) (.slice (some ⟨wr.heap.size, 0, none⟩) 1 1, x.2)) _ listed fr) := HF.out.swap (fun j o d g1 g2 g3 => by
            by_cases e : d = 31
            · subst e
              have := ndB_spec (j := j) (k := 7) (d := 31) (by kernel_rfl) g1 rfl g2 rfl
              subst this
              rw [hl0] at g3; cases g3
            · simp [e])
          exact ⟨(.slice (some ⟨wr.heap.size, 0, none⟩) 1 1, x.2), HFy.out.put (by kernel_rfl) rfl rfl rfl (of_decide_eq_true rfl), HW.out.go 1 hjl rfl hl0 (fun j hj => by obtain rfl : j = 0 := (by omega); exact ⟨6, rfl, h6⟩) (by intro a ha; match a, ha with | 0, ha => simp at ha | 1, _ => rfl | 2, ha => simp at ha | 3, ha => simp at ha) ⟨wr, m1, rfl, rfl⟩ (by decide)⟩
        | 8, ho =>
          obtain rfl := Option.some.inj ho
          have e28 : fr.tmps[28]?.getD undef = u := HF.out.ev (i := 4) rfl rfl (HE.out ⟨4, .data⟩ (by simp) rfl)
          have e31 : fr.tmps[31]?.getD undef = x.1 := HF.out.ev (i := 7) rfl rfl (HE.out ⟨7, .data⟩ (by simp) rfl)
          have h7 : listed.getD 7 false = true := HE.out ⟨7, .data⟩ (by simp) rfl
          obtain ⟨w1, m1, m2, rfl⟩ := HW.out.1.at 2 rfl hl0 (fun j hj => by obtain rfl : j = 1 := (by omega); exact ⟨7, rfl, h7⟩)
          obtain ⟨i0, hi0, hz0, hs0, hb0⟩ := info_parts info_space
          have hb1 : Below w0.heap.size w0 (w1.alloc (.cells (row (sp0 kk) 0 256).toArray 59)) := m1.alloc m1.size _
          have e28' : Act.eval fr (.tmp 28) = u := by simp [Act.eval, e28]
          have e31' : Act.eval fr (.tmp 31) = .slice (some ⟨w1.heap.size, 0, none⟩) 1 1 := by simp [Act.eval, e31, m2]
          refine wpOp_step rfl fun K' hK => ?_
          refine step_append_blk _ (.tmp 28) (.tmp 31) 55 rfl 59 i0 _ 256 256 u_sspace hi0 hz0 hs0 hb0 (by simp [Value.cells]) (by decide) u j (row f 0 (j * 256)) e28' (own_only HOW.out (T := fun _ => False) (.ofBelow hb1) fun _ _ z => z) ⟨w1.heap.size, 0, none⟩ 1 1 (row (sp0 kk) 0 256) e31' (by simp [C.row_length]) ?_ (C.row_one _ _ _) (show j + 1 ≤ 9223372036854775807 by omega) (by omega) rfl ?_
          · intro i v hv
            have hi : i < 256 := by
              rcases Nat.lt_or_ge i 256 with q | q
              · exact q
              · rw [List.getElem?_eq_none (by simpa [C.row_length] using q)] at hv; cases hv
            rw [C.addr_add, Nat.zero_add, cell_of_row _ _ i _ _ _ (heap_alloc_new w1 _)]
            simpa using hv
          intro v' w3 hown hgrow hblk
          have ho : Only (Ug u) w0 w3 := (Only.ofBelow hb1).trans (grown_ug hgrow)
          have HFy : Hid (FrQ _ ((fun x : Value × Value => fun dd => if dd = 24 then .pointer (some ⟨p, 0, none⟩) else if dd = 25 then .pointer (some ⟨p, 0, none⟩) else if dd = 26 then .pointer (some ⟨p, 0, none⟩) else if dd = 27 then .pointer (some ⟨p, 0, none⟩) else if dd = 28 then u else if dd = 29 then .int .i64 kk else if dd = 30 then .agg (row (sp0 kk) 0 256).toArray else if dd = 31 then x.1 else if dd = 32 then x.2 else if dd = 33 then .pointer (some ⟨p, 0, none⟩) else if dd = 34 then .pointer (some ⟨p, 0, none⟩) else undef) (x.1, v')) _ listed fr) := HF.out.swap (fun j o d g1 g2 g3 => by
            by_cases e : d = 32
            · subst e
              have := ndB_spec (j := j) (k := 8) (d := 32) (by kernel_rfl) g1 rfl g2 rfl
              subst this
              rw [hl0] at g3; cases g3
            · simp [e])
          exact hK _ _ ⟨(x.1, v'), HFy.out.put (by kernel_rfl) rfl rfl rfl (of_decide_eq_true rfl), HW.out.go 2 hjl rfl hl0 (fun j hj => by obtain rfl : j = 1 := (by omega); exact ⟨7, rfl, h7⟩) (by intro a ha; match a, ha with | 0, ha => simp at ha | 1, ha => simp at ha | 2, _ => rfl | 3, ha => simp at ha) ⟨hown, ho, fun k hk => (hblk k hk).imp id fun z => Nat.le_trans hb1.size z⟩ (by decide)⟩
        | 9, ho =>
          obtain rfl := Option.some.inj ho
          have e24 : fr.tmps[24]?.getD undef = .pointer (some ⟨p, 0, none⟩) := HF.out.ev (i := 0) rfl rfl (HE.out ⟨0, .data⟩ (by simp) rfl)
          exact wp_q rfl rfl (by simp [execOp, go_sem, e24]; try rfl) ⟨x, HF.out.put (by kernel_rfl) rfl rfl rfl (of_decide_eq_true rfl), HW.out.q hjl (by decide) (by decide)⟩
        | 10, ho =>
          obtain rfl := Option.some.inj ho
          have e33 : fr.tmps[33]?.getD undef = .pointer (some ⟨p, 0, none⟩) := HF.out.ev (i := 9) rfl rfl (HE.out ⟨9, .data⟩ (by simp) rfl)
          exact wp_q rfl rfl (by simp [execOp, go_sem, e33]; try rfl) ⟨x, HF.out.put (by kernel_rfl) rfl rfl rfl (of_decide_eq_true rfl), HW.out.q hjl (by decide) (by decide)⟩
        | 11, ho =>
          obtain rfl := Option.some.inj ho
          have e34 : fr.tmps[34]?.getD undef = .pointer (some ⟨p, 0, none⟩) := HF.out.ev (i := 10) rfl rfl (HE.out ⟨10, .data⟩ (by simp) rfl)
          have e32 : fr.tmps[32]?.getD undef = x.2 := HF.out.ev (i := 8) rfl rfl (HE.out ⟨8, .data⟩ (by simp) rfl)
          have ha : ∀ j, j < 9 → listed.getD j false = true := he_all HE.out 9 (by kernel_rfl)
          obtain ⟨m1, m2, m3⟩ := HW.out.1.at 3 rfl hl0 (fun j hj => by obtain rfl : j = 2 := (by omega); exact ⟨8, rfl, ha 8 (by decide)⟩)
          have c1 : wr.cell? ⟨p, 0, none⟩ = some u := by
            have := m2.old HTP.out (fun z => own_ne HOW.out HTP.out (by decide) p z rfl)
            exact cell_of_row wr p 0 _ _ _ this
          have z1 : wr.frozen? ⟨p, 0, none⟩ = false := by
            have := m2.old HTP.out (fun z => own_ne HOW.out HTP.out (by decide) p z rfl)
            exact frozen_of_row wr p 0 _ _ this
          have o1 : x.2.oneCell' = true := by
            rcases m1.2 with ⟨q, -⟩ | ⟨g, cap, cur, q, -⟩ <;> rw [q] <;> rfl
          obtain ⟨ad3, l3, cp3, hx2⟩ : ∃ ad l c, x.2 = .slice ad l c := by
            rcases m1.2 with ⟨q, -⟩ | ⟨g, cap, cur, q, -⟩ <;> exact ⟨_, _, _, q⟩
          exact wp_s rfl rfl (w' := wr.setCell ⟨p, 0, none⟩ x.2) (by rw [hx2] at e32; simp [execOp, go_sem, e34, e32, c1, z1, hx2]; try rfl) ⟨x, HF.out.skip rfl rfl _, HW.out.last 3 hjl rfl hl0 (fun j hj => by obtain rfl : j = 2 := (by omega); exact ⟨8, rfl, ha 8 (by decide)⟩) (by intro a h; match a, h with | 0, h => simp at h | 1, h => simp at h | 2, h => simp at h | 3, _ => rfl) ⟨wr, m1, m2, m3, rfl⟩ ha⟩
      case fin =>
        rintro listed fr w2 x hF hW hr
        have all := allDone hr hF.ls (by kernel_rfl)
        have k1 := hW.1.end 3 rfl (all 11 (by decide)) (fun s hs hm => by
          match s, hs, hm with
          | 4, _, hm => exact hm
          | n + 5, _, hm => exact hm.elim)
        obtain ⟨w3, m1, m2, m3, rfl⟩ := k1
        rw [hF.full all]
        clear hF hW hr all
        obtain ⟨u2, hu2⟩ : ∃ u2, u2 = x.2 := ⟨_, rfl⟩
        have HB2 : Hid (Bx (w3.setCell ⟨p, 0, none⟩ x.2) p u2 (j + 1) (spn K)) := by rw [hu2]; exact bx_grow HTP.out HOW.out m1 m2 (fun i hi => HBF.out i hi) (by rw [HKK.out])
        have HO2 : Hid (Below W.heap.size W (w3.setCell ⟨p, 0, none⟩ x.2)) := (HBW.out.trans (((HDR.out.mono (T := fun x => W.heap.size ≤ x) (fun _ _ z => z.elim)).trans (m2.mono fun k _ hk => HFR.out k hk)).below _ HBW.out.size fun k hk => hk)).setCell (by rw [HPp.out]; exact Nat.le_refl _) _
        have HF2 : Hid (∀ k, Ug u2 k → W.heap.size ≤ k) := by rw [hu2]; exact fun k hk => (m3 k hk).elim (HFR.out k) fun z => Nat.le_trans HBW.out.size (Nat.le_trans HDR.out.size z)
        clear m1 m2 m3 hu2 HLD
        generalize w3.setCell ⟨p, 0, none⟩ x.2 = w4 at *
        simp only [List.foldl_cons, List.foldl_nil, fillF]
        go_simp
        go_wp2
        go_roundw
        case rel => exact ⟨j + 1, u2, by omega, by go_num, HB2, HO2, HF2⟩
        case measure => simp [intOf]; omega
    · obtain rfl : j = n := by omega
      go_wp2
      go_returns
      rw [← HPp.out]
      exact ⟨rfl, u, HB.out, HPp.out ▸ HBW.out, HPp.out ▸ HFR.out⟩
end Go.Proofs.Ytpplcijdhedjcaa
