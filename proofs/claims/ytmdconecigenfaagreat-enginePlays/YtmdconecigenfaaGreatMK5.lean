/- Any call of a script at both IOMMUs. -/
import Derived.Test.YtmdconecigenfaaGreatMK3
import Derived.Test.YtmdconecigenfaaGreatMK4
import Derived.Test.YtmdconecigenfaaGreatKN2
import Derived.Test.YtmdconecigenfaaGreatKN3
import Derived.Test.YtmdconecigenfaaGreatKN4
import Derived.Test.YtmdconecigenfaaGreatKN9
import Derived.Test.YtmdconecigenfaaGreatKN10
import Derived.Test.YtmdconecigenfaaGreatMH3
namespace Go.Proofs.YtmdconecigenfaaGreat
open Go.RowKit
open C (Only hid Mem Still ret_int ret_bool put byt nu RMem hasB WB WB.cell Calls.wb wp_region_wb gst rdm)
set_option linter.unusedVariables false
set_option maxRecDepth 100000

theorem m_Root_no (w : World) (u : Nat) (d : Int) (hd : isDev d = false) : Calls Tryz.prog 66 #[.pointer (some ⟨u, 0, none⟩), .int .i64 d] w fun e w' => e = .returned (.int .u64 0) ∧ w' = w := by
  go_enter Tryz.func66, Tryz.ntmps66
  go_wp2_with ((go_at_call 43; refine (m_isDevice _ d false hd).mono ?_; rintro e w2 ⟨rfl, hw2⟩; obtain rfl := hw2.symm))
  go_ret
  exact ⟨rfl, rfl⟩
theorem m_RootAny (w : World) (u : Nat) (v : UV) (hu : Iu w u v) (d : Int) : Calls Tryz.prog 66 #[.pointer (some ⟨u, 0, none⟩), .int .i64 d] w fun e w' => e = .returned (.int .u64 (rootOf v d)) ∧ w' = w := by
  cases hd : isDev d
  · refine (m_Root_no w u d hd).mono ?_
    rintro e w' ⟨rfl, rfl⟩
    exact ⟨by simp [rootOf, hd], rfl⟩
  · refine (m_Root w u v hu d hd).mono ?_
    rintro e w' ⟨rfl, rfl⟩
    exact ⟨by simp [rootOf, hd], rfl⟩
theorem m_Drop_bad (w : World) (u : Nat) (d : Int) (hd : isDev d = false) : Calls Tryz.prog 68 #[.pointer (some ⟨u, 0, none⟩), .int .i64 d] w fun e w' => e = .returned (.int .i64 1) ∧ w' = w := by
  go_enter Tryz.func68, Tryz.ntmps68
  go_wp2_with ((go_at_call 43; refine (m_isDevice _ d false hd).mono ?_; rintro e w2 ⟨rfl, hw2⟩; obtain rfl := hw2.symm))
  go_ret
  exact ⟨rfl, rfl⟩
theorem m_Remap_bad (w : World) (u : Nat) (d i g z : Int) (h : isDev d = false ∨ 32 ≤ i) : Calls Tryz.prog 70 #[.pointer (some ⟨u, 0, none⟩), .int .i64 d, .int .u64 i, .agg #[.int .i64 g, .int .i64 z]] w fun e w' => e = .returned (.int .i64 1) ∧ Below w.heap.size w w' := by
  cases hd : isDev d
  · clear h
    go_enter Tryz.func70, Tryz.ntmps70
    go_wp2_with ((go_at_call 43; refine (m_isDevice _ d false hd).mono ?_; rintro e w2 ⟨rfl, hw2⟩; obtain rfl := hw2.symm))
    go_ret
    exact ⟨rfl, (Below.refl _ _).alloc (Nat.le_refl _) _⟩
  · have hi : (32 ≤ i) = True := by have := h.resolve_left (by rw [hd]; decide); simp; omega
    clear h
    go_enter Tryz.func70, Tryz.ntmps70
    go_wp2_with ((go_at_call 43; refine (m_isDevice _ d true hd).mono ?_; rintro e w2 ⟨rfl, hw2⟩; obtain rfl := hw2.symm))
    go_ret
    exact ⟨rfl, (Below.refl _ _).alloc (Nat.le_refl _) _⟩
theorem m_Ring_bad (w : World) (u : Nat) (v : UV) (hu : Iu w u v) (S : Nat → Prop) (n : Nat) (f : Nat → Int) (hm : Mem w S v.m 0 n f) (a : Int) (a0 : 0 ≤ a) (a1 : a < 18446744073709551616) (h : a % 4096 = 0 → hasB 0 n a 4096 = false) : Calls Tryz.prog 17 #[.pointer (some ⟨u, 0, none⟩), .int .u64 a] w fun e w' => e = .returned (.int .i64 1) ∧ Below w.heap.size w w' := by
  have c1 := hu.c1
  have HM := hid hm
  clear hu hm
  by_cases hz : a % 4096 = 0
  · have HB := hid (h hz)
    clear h
    have hzz : (a % 4096 != 0) = false := by simp; omega
    go_enter Tryz.func17, Tryz.ntmps17
    go_wp2_with ((go_at_call 42; refine (C.c_HasM _ S v.m 0 n f HM.out a 4096 a0 a1 (by decide) (by decide) false HB.out).mono ?_; rintro e w1 ⟨rfl, hs1⟩; have HS1 := hid hs1; clear hs1))
    go_ret
    exact ⟨rfl, HS1.out.below _⟩
  · have hzz : (a % 4096 != 0) = true := by simpa using hz
    clear h
    go_enter Tryz.func17, Tryz.ntmps17
    go_wp2_with fail
    go_ret
    exact ⟨rfl, Below.refl _ _⟩
theorem k_Ring_bad (w : World) (b q r : Nat) (v : UV) (mv : Value) (hu : Ru w b q r v mv) (S : Nat → Prop) (n : Nat) (f : Nat → Int) (hm : RMem w S q 0 n f) (a : Int) (a0 : 0 ≤ a) (a1 : a < 18446744073709551616) (h : a % 4096 = 0 → hasB 0 n a 4096 = false) : Calls Tryz.prog 80 #[.pointer (some ⟨b, 0, none⟩), .int .u64 a] w fun e w' => e = .returned (.int .i64 1) ∧ Below w.heap.size w w' := by
  have c1 := hu.c0
  have HM := hid hm
  clear hu hm
  by_cases hz : a % 4096 = 0
  · have HB := hid (h hz)
    clear h
    have hzz : (a % 4096 != 0) = false := by simp; omega
    go_enter Tryz.func80, Tryz.ntmps80
    go_wp2_with ((go_at_call 91; refine (C.q_HasM _ S q 0 n f HM.out a 4096 a0 a1 (by decide) (by decide)).mono ?_; rw [HB.out]; rintro e w1 ⟨rfl, hs1⟩; have HS1 := hid hs1; clear hs1))
    go_ret
    exact ⟨rfl, HS1.out.below _⟩
  · have hzz : (a % 4096 != 0) = true := by simpa using hz
    clear h
    go_enter Tryz.func80, Tryz.ntmps80
    go_wp2_with fail
    go_ret
    exact ⟨rfl, Below.refl _ _⟩
theorem s_Evict (w : World) (F : Nat → Prop) (u : Nat) (v : UV) (n : Nat) (f : Nat → Int) (room : Nat) (L : List E.TV) (h : US w F u v n f room L) (k : Nat) (x : E.TV) (hx : L[k]? = some x) (i : Int) (hi : i = k) : Calls Tryz.prog 78 #[.pointer (some ⟨v.t, 0, none⟩), .int .i64 i] w fun e w' => e = .returned (.bool true) ∧ US w' F u v n f room (E.fp L x.v x.p) ∧ Tn w F w' F := by
  obtain ⟨S, g, i1, i2, i3, i4, i5⟩ := h
  refine (E.c_Evict w v.t g room L i3 k x hx i hi).mono ?_
  rintro e w' ⟨rfl, ht, ho⟩
  exact ⟨rfl, ⟨S, g, i1.only ho (iu_ft i1 i3), i2.only ho (fun k hk => mem_ft i2 i3 k hk), ht, i4, i5⟩, ho.mono fun k _ q => (i4 k).2 (.inr (.inl q)), fun _ q => .inl q⟩
theorem DS.msi {w : World} {G : Nat → Prop} {base b q r : Nat} {v : UV} {n : Nat} {f : Nat → Int} {room : Nat} {L : List E.TV} {M : List MV} (h : DS w G base b q r v n f room L M) (k : Nat) (g z : Int) : DS w G base b q r (v.setMsi k g z) n f room L M := by
  obtain ⟨S, mv, vv, h1, h2, h3, h4, h5, ok⟩ := h
  exact ⟨S, mv, vv, h1, h2, h3, h4, h5, ⟨ok.root, ok.first, ok.count, ok.ring, ok.none⟩⟩
theorem do_any (w : World) (base : Nat) (F G : Nat → Prop) (u b q r : Nat) (v : UV) (n : Nat) (f : Nat → Int) (room : Nat) (L : List E.TV) (M : List MV) (h : PW w base F G u b q r v n f room L M) (X : OpV) (hX : OpB X) (hlen : M.length ≤ 2199023255552) (hn : n ≤ 1024) :
    Calls Tryz.prog 35 #[.agg #[.pointer (some ⟨u, 0, none⟩), .pointer (some ⟨b, 0, none⟩), .pointer (some ⟨v.m, 0, none⟩), .pointer (some ⟨q, 0, none⟩)], .agg #[.int .i64 X.kind, .int .i64 X.dev, .int .i64 X.size, .int .u64 X.addr, .int .u64 X.data, .bool X.write, .int .i64 X.guest, .int .i64 X.irq]] w fun e w' => e = .returned (.bool true) ∧ PQ w w' base F G u b q r n room v.t v.m M.length := by
  have hk : X.kind % 11 = 0 ∨ X.kind % 11 = 1 ∨ X.kind % 11 = 2 ∨ X.kind % 11 = 3 ∨ X.kind % 11 = 4 ∨ X.kind % 11 = 5 ∨ X.kind % 11 = 6 ∨ X.kind % 11 = 7 ∨ X.kind % 11 = 8 ∨ X.kind % 11 = 9 ∨ X.kind % 11 = 10 := by omega
  have a0 := hX.addr.1
  have a1 := hX.addr.2
  have i0 := hX.data.1
  rcases hk with hk | hk | hk | hk | hk | hk | hk | hk | hk | hk | hk
  · exact do_0 w base F G u b q r v n f room L M h X hX hk
  · cases hd : isDev X.dev
    · refine do_1g w base F G u b q r v n f room L M h X hX hk 0 0 false v f h.ms rfl rfl (fun wa hu => (m_Message_no wa u X.dev X.addr X.data hd).mono ?_) (fun w1 hd1 => (k_Message_no w1 b X.dev X.addr X.data hd).mono ?_)
      · rintro e w1 ⟨rfl, hb⟩
        exact ⟨rfl, F, hu.below hb, Tn.ofBelow hb⟩
      · rintro e w2 ⟨rfl, hb⟩
        exact ⟨rfl, G, hd1.below hb, Td.ofBelow hb⟩
    · have hm := h.ms X.dev X.data hd i0
      cases hg : goes v X.dev X.addr X.data
      · have hgo : ∀ g z, mto M X.dev X.data = (g, z) → (decide (X.addr = 4276092928) && !(g == 0)) = false := fun g z e => by
          rw [hm] at e
          simp only [goes] at hg
          by_cases e1 : X.addr = 4276092928
          · by_cases e2 : X.data < 32
            · rw [if_pos e2] at e
              cases e
              simpa [e1, e2] using hg
            · rw [if_neg e2] at e
              cases e
              simp
          · simp [e1]
        refine do_1g w base F G u b q r v n f room L M h X hX hk 0 0 false (rcV v) (rcF v f X.dev 5 X.addr) (h.ms.same (rcV_mg v).1 (rcV_mg v).2) (rcV_t v) (rcV_m v) (fun wa hu => s_Message_bad wa F u v n f room L hu X.dev X.addr X.data hd a0 a1 i0 hg) (fun w1 hd1 => ?_)
        exact d_Message w1 G base b q r v n f room L M hd1 X.dev X.addr X.data hd a0 a1 hlen _ _ rfl false (hgo _ _ rfl)
      · simp only [goes, Bool.and_eq_true, decide_eq_true_eq] at hg
        obtain ⟨⟨g1, g2⟩, g3⟩ := hg
        rw [if_pos g2] at hm
        have hgo : (decide (X.addr = 4276092928) && !((v.mg (X.dev.toNat * 32 + X.data.toNat)) == 0)) = true := by
          simp only [bne_iff_ne, ne_eq] at g3
          simp [g1, g3]
        refine do_1g w base F G u b q r v n f room L M h X hX hk (v.mg (X.dev.toNat * 32 + X.data.toNat)) (v.mi (X.dev.toNat * 32 + X.data.toNat)) true v f h.ms rfl rfl (fun wa hu => ?_) (fun w1 hd1 => d_Message w1 G base b q r v n f room L M hd1 X.dev X.addr X.data hd a0 a1 hlen _ _ hm true hgo)
        rw [g1]
        refine (m_Message_go wa u v hu.iu X.dev X.data hd i0 g2 g3).mono ?_
        rintro e w1 ⟨rfl, hb⟩
        exact ⟨rfl, F, hu.below hb, Tn.ofBelow hb⟩
  · cases hd : isDev X.dev
    · refine do_2g w base F G u b q r v n f room L M h X hX hk 1 (rootOf v X.dev) v h.ms rfl rfl (fun wa hu => (m_Set_bad wa u X.dev X.addr (.inl hd)).mono ?_) (fun w1 hd1 _ => (k_Set_bad w1 b X.dev X.addr (.inl hd)).mono ?_) (fun w2 F2 hu => m_RootAny w2 u v hu.iu X.dev) (fun w2 G2 hd2 => d_Root w2 G2 base b q r v n f room L M hd2 X.dev)
      · rintro e w1 ⟨rfl, rfl⟩
        exact ⟨rfl, F, hu, Tn.refl _ _⟩
      · rintro e w2 ⟨rfl, rfl⟩
        exact ⟨rfl, G, hd1, Td.refl _⟩
    · cases hr : (X.addr == 0)
      · refine do_2g w base F G u b q r v n f room L M h X hX hk 0 (rootOf (v.setRoot X.dev.toNat X.addr) X.dev) (v.setRoot X.dev.toNat X.addr) (h.ms.same rfl rfl) rfl rfl (fun wa hu => (s_Set wa F u v n f room L hu X.dev X.addr hd hr a0 a1).mono ?_) (fun w1 hd1 _ => (d_Set w1 G base b q r v n f room L M hd1 X.dev X.addr hd hr a0 a1).mono ?_) (fun w2 F2 hu => m_RootAny w2 u _ hu.iu X.dev) (fun w2 G2 hd2 => d_Root w2 G2 base b q r _ n f room L M hd2 X.dev)
        · rintro e w1 ⟨rfl, z1, z2⟩
          exact ⟨rfl, F, z1, z2⟩
        · rintro e w2 ⟨rfl, z1, z2⟩
          exact ⟨rfl, G, z1, z2⟩
      · have hr' : X.addr = 0 := by simpa using hr
        refine do_2g w base F G u b q r v n f room L M h X hX hk 1 (rootOf v X.dev) v h.ms rfl rfl (fun wa hu => (m_Set_bad wa u X.dev X.addr (.inr hr')).mono ?_) (fun w1 hd1 _ => (k_Set_bad w1 b X.dev X.addr (.inr hr')).mono ?_) (fun w2 F2 hu => m_RootAny w2 u v hu.iu X.dev) (fun w2 G2 hd2 => d_Root w2 G2 base b q r v n f room L M hd2 X.dev)
        · rintro e w1 ⟨rfl, rfl⟩
          exact ⟨rfl, F, hu, Tn.refl _ _⟩
        · rintro e w2 ⟨rfl, rfl⟩
          exact ⟨rfl, G, hd1, Td.refl _⟩
  · cases hd : isDev X.dev
    · refine do_3g w base F G u b q r v n f room L M h X hX hk 1 (rootOf v X.dev) v h.ms rfl rfl (fun wa hu => (m_Drop_bad wa u X.dev hd).mono ?_) (fun w1 hd1 _ => (k_Drop_bad w1 b X.dev hd).mono ?_) (fun w2 F2 hu => m_RootAny w2 u v hu.iu X.dev) (fun w2 G2 hd2 => d_Root w2 G2 base b q r v n f room L M hd2 X.dev)
      · rintro e w1 ⟨rfl, rfl⟩
        exact ⟨rfl, F, hu, Tn.refl _ _⟩
      · rintro e w2 ⟨rfl, rfl⟩
        exact ⟨rfl, G, hd1, Td.refl _⟩
    · refine do_3g w base F G u b q r v n f room L M h X hX hk 0 (rootOf (v.setRoot X.dev.toNat 0) X.dev) (v.setRoot X.dev.toNat 0) (h.ms.same rfl rfl) rfl rfl (fun wa hu => (s_Drop wa F u v n f room L hu X.dev hd).mono ?_) (fun w1 hd1 _ => (d_Drop w1 G base b q r v n f room L M hd1 X.dev hd).mono ?_) (fun w2 F2 hu => m_RootAny w2 u _ hu.iu X.dev) (fun w2 G2 hd2 => d_Root w2 G2 base b q r _ n f room L M hd2 X.dev)
      · rintro e w1 ⟨rfl, z1, z2⟩
        exact ⟨rfl, F, z1, z2⟩
      · rintro e w2 ⟨rfl, z1, z2⟩
        exact ⟨rfl, G, z1, z2⟩
  · by_cases hb : isDev X.dev = false ∨ 32 ≤ X.data
    · refine do_4g w base F G u b q r v n f room L M h X hX hk 1 v f L M h.nd h.ms rfl rfl (by omega) (fun wa hu => (m_Remap_bad wa u X.dev X.data X.guest X.irq hb).mono ?_) (fun w1 hd1 _ => (k_Remap_bad w1 b X.dev X.data X.guest X.irq hb).mono ?_)
      · rintro e w1 ⟨rfl, z⟩
        exact ⟨rfl, F, hu.below z, Tn.ofBelow z⟩
      · rintro e w2 ⟨rfl, z⟩
        exact ⟨rfl, G, hd1.below z, Td.ofBelow z⟩
    · have hd : isDev X.dev = true := by cases e : isDev X.dev; exact absurd (.inl e) hb; rfl
      have i1 : X.data < 32 := by have : ¬ 32 ≤ X.data := fun z => hb (.inr z); omega
      refine do_4g w base F G u b q r v n f room L M h X hX hk 0 (v.setMsi (X.dev.toNat * 32 + X.data.toNat) X.guest X.irq) f L (M ++ [⟨X.dev, X.data, X.guest, X.irq⟩]) h.nd (h.ms.remap X.dev X.data X.guest X.irq hd i0 i1) rfl rfl (by simp) (fun wa hu => (s_Remap wa F u v n f room L hu X.dev X.data X.guest X.irq hd i0 i1).mono ?_) (fun w1 hd1 hs => (d_Remap w1 G base b q r v n f room L M hd1 X.dev X.data X.guest X.irq hd i1 hlen hs).mono ?_)
      · rintro e w1 ⟨rfl, z1, z2⟩
        exact ⟨rfl, F, z1, z2⟩
      · rintro e w2 ⟨rfl, G', z1, z2⟩
        exact ⟨rfl, G', z1.msi _ _ _, z2⟩
  · by_cases hc : v.count = 0
    · refine do_5g w base F G u b q r v n f room L M h X hX hk 0 0 0 false v f h.ms rfl rfl (fun wa hu => (s_Next_no wa F u v n f room L hu hc).mono ?_) (fun w1 hd1 => (d_Next_no w1 G base b q r v n f room L M hd1 hc).mono ?_)
      · rintro e w1 ⟨rfl, z⟩
        exact ⟨rfl, F, hu.below z, Tn.ofBelow z⟩
      · rintro e w2 ⟨rfl, z⟩
        exact ⟨rfl, G, hd1.below z, Td.ofBelow z⟩
    · refine do_5g w base F G u b q r v n f room L M h X hX hk (rdn f (v.at 0) 4) (rdn f (v.at 0 + 4) 4) (rdn f (v.at 0 + 8) 8) true (nxV v) f (h.ms.same rfl rfl) rfl rfl (fun wa hu => (s_Next wa F u v n f room L hu (by omega)).mono ?_) (fun w1 hd1 => (d_Next w1 G base b q r v n f room L M hd1 (by omega)).mono ?_)
      · rintro e w1 ⟨rfl, z1, z2⟩
        exact ⟨rfl, F, z1, z2⟩
      · rintro e w2 ⟨rfl, z1, z2⟩
        exact ⟨rfl, G, z1, z2⟩
  · exact do_6 w base F G u b q r v n f room L M h X hX hk
  · exact do_7 w base F G u b q r v n f room L M h X hX hk
  · exact do_8 w base F G u b q r v n f room L M h X hX hk
  · by_cases hs : X.size < 0 ∨ (L.length : Int) ≤ X.size
    · refine do_9g w base F G u b q r v n f room L M h X hX hk false v f L M h.nd h.ms rfl rfl (by omega) (fun wa hu => ?_) (fun w1 hd1 _ => (d_Evict_no w1 G base b q r v n f room L M hd1 X.size hs).mono ?_)
      · have hu' := hu
        obtain ⟨S, g, j1, j2, j3, j4, j5⟩ := hu'
        refine (E.c_Evict_no wa v.t g room L j3 X.size hs).mono ?_
        rintro e w1 ⟨rfl, rfl⟩
        exact ⟨rfl, F, hu, Tn.refl _ _⟩
      · rintro e w2 ⟨rfl, rfl⟩
        exact ⟨rfl, G, hd1, Td.refl _⟩
    · obtain ⟨k, hkk⟩ : ∃ k : Nat, X.size = k := ⟨X.size.toNat, by omega⟩
      have hkl : k < L.length := by omega
      obtain ⟨x, hx⟩ : ∃ x, L[k]? = some x := ⟨_, List.getElem?_eq_getElem hkl⟩
      refine do_9g w base F G u b q r v n f room L M h X hX hk true v f (E.fp L x.v x.p) M (E.Nd.fp h.nd _ _) h.ms rfl rfl (by omega) (fun wa hu => (s_Evict wa F u v n f room L hu k x hx X.size hkk).mono ?_) (fun w1 hd1 _ => ?_)
      · rintro e w1 ⟨rfl, z1, z2⟩
        exact ⟨rfl, F, z1, z2⟩
      · rw [fp_at7 h.nd hx]
        exact d_Evict w1 G base b q r v n f room L M hd1 k hkl X.size hkk
  · by_cases hb : X.addr % 4096 = 0 → hasB 0 n X.addr 4096 = false
    · refine do_10g w base F G u b q r v n f room L M h X hX hk 1 v f L M h.nd h.ms rfl rfl (by omega) (fun wa hu => ?_) (fun w1 hd1 _ => ?_)
      · have hu' := hu
        obtain ⟨S, g, j1, j2, j3, j4, j5⟩ := hu'
        refine (m_Ring_bad wa u v j1 S n f j2 X.addr a0 a1 hb).mono ?_
        rintro e w1 ⟨rfl, z⟩
        exact ⟨rfl, F, hu.below z, Tn.ofBelow z⟩
      · have hd' := hd1
        obtain ⟨S, mv, vv, j1, j2, j3, j4, j5, j6⟩ := hd'
        refine (k_Ring_bad w1 b q r v mv j1 S n f j2 X.addr a0 a1 hb).mono ?_
        rintro e w2 ⟨rfl, z⟩
        exact ⟨rfl, G, hd1.below z, Td.ofBelow z⟩
    · obtain ⟨k, hkk⟩ : ∃ k : Nat, X.addr = k := ⟨X.addr.toNat, by omega⟩
      have hb1 : X.addr % 4096 = 0 := by by_cases z : X.addr % 4096 = 0; exact z; exact absurd (fun y => absurd y z) hb
      have hb2 : hasB 0 n X.addr 4096 = true := by cases z : hasB 0 n X.addr 4096; exact absurd (fun _ => z) hb; rfl
      have hl : k + 4096 ≤ 4096 * n := by simp [hasB] at hb2; omega
      have hz : k % 4096 = 0 := by omega
      refine do_10g w base F G u b q r v n f room L M h X hX hk 0 (v.setRing k) f L M h.nd (h.ms.same rfl rfl) rfl rfl (by omega) (fun wa hu => (s_Ring wa F u v n f room L hu k hz hl X.addr hkk).mono ?_) (fun w1 hd1 _ => (d_Ring w1 G base b q r v n f room L M hd1 k hz hl hn X.addr hkk).mono ?_)
      · rintro e w1 ⟨rfl, z1, z2⟩
        exact ⟨rfl, F, z1, z2⟩
      · rintro e w2 ⟨rfl, z1, z2⟩
        exact ⟨rfl, G, z1, z2⟩
end Go.Proofs.YtmdconecigenfaaGreat
namespace Go.Proofs.YtmdconecigenfaaGreat
open Go.RowKit
open C (Only hid Mem Still ret_int ret_bool put byt nu hasB RMem)
set_option linter.unusedVariables false
set_option maxRecDepth 100000

theorem zx_Do (K : Kz) (w : World) (e y : Nat) (v : EV) (r : Nat → Int) (c : Int) (S T : Nat → Prop) (cm : Nat) (s : Us) (H : PX K w e y v r c S T cm s s) (hc : cm + 1 ≤ 2199023255552) (X : OpV) (hX : OpB X) :
    Calls Tryz.prog 35 #[.agg #[.pointer (some ⟨K.u, 0, none⟩), .pointer (some ⟨K.d, 0, none⟩), .pointer (some ⟨K.m, 0, none⟩), .pointer (some ⟨K.q, 0, none⟩)], .agg #[.int .i64 X.kind, .int .i64 X.dev, .int .i64 X.size, .int .u64 X.addr, .int .u64 X.data, .bool X.write, .int .i64 X.guest, .int .i64 X.irq]] w fun x w' => x = .returned (.bool true) ∧ ∃ S' T' s', PX K w' e y v r c S' T' (cm + 1) s' s' := by
  obtain ⟨M, hp, hl⟩ := H.pw
  have h := do_any w K.W.heap.size S T K.u K.d K.q K.l s.v K.n s.f K.room s.L M hp X hX (by omega) hp.us.nums.2
  rw [H.us.2.1] at h
  refine h.mono ?_
  rintro x w' ⟨rfl, F', G', v', f', L', M', p1, p2, p3, p4, p5⟩
  exact ⟨rfl, F', G', ⟨v', f', L'⟩, H.back p1 p2 (p4.trans H.us.2.2) p5 (by omega) hc⟩
end Go.Proofs.YtmdconecigenfaaGreat
namespace Go.Proofs.YtmdconecigenfaaGreat
open Go.RowKit
open C (RMem Only hid Mem Still ret_int ret_bool put byt nu WB WB.cell Calls.wb wp_region_wb hasB gst rdm Cl fcl RMem Tw)
set_option linter.unusedVariables false
set_option maxRecDepth 100000

theorem r7_NewD (w : World) (q room : Nat) (h0 : 0 < room) (h1 : room ≤ 64) (t m : Nat) : Calls Tryz.prog 28 #[.pointer (some ⟨q, 0, none⟩), .int .i64 room] w fun e w' => ∃ p r, e = .returned (.tuple #[.pointer (some ⟨p, 0, none⟩), .int .i64 0]) ∧ Ru w' p q r (v0 t m) (.slice none 0 0) ∧ E.RM w' r room (.slice none 0 0) [] ∧ Below w.heap.size w w' ∧ w.heap.size ≤ p ∧ w.heap.size ≤ r := by
  go_enter Tryz.func28, Tryz.ntmps28
  go_wp2_with ((go_at_call 53; refine (E.r_New _ room h0 h1 _ rfl).mono ?_; rintro e w1 ⟨rfl, hrm, hb⟩))
  go_ret2
  exact ⟨_, _, rfl, heap_alloc_new w1 _, hrm.below ((Below.refl _ _).alloc (Nat.le_refl _) _), hb.alloc hb.size _, hb.size, Nat.le_refl _⟩
theorem r7_New_bad (w : World) (q : Nat) (room : Int) (h : room < 1 ∨ 64 < room) : Calls Tryz.prog 28 #[.pointer (some ⟨q, 0, none⟩), .int .i64 room] w fun e w' => e = .returned (.tuple #[.pointer none, .int .i64 1]) ∧ Below w.heap.size w w' := by
  go_enter Tryz.func28, Tryz.ntmps28
  go_wp2_with ((go_at_call 53; refine (E.r_New_bad _ room h).mono ?_; rintro e w1 ⟨rfl, hw1⟩; obtain rfl := hw1.symm))
  go_ret2
  exact ⟨rfl, Below.refl _ _⟩
set_option maxHeartbeats 1000000 in
theorem l_New7 (w : World) (room : Nat) (h0 : 0 < room) (h1 : room ≤ 64) (ad : Option Addr) (la cap ab ao : Nat) (X : Nat → Int × Int) (hX : Cl w ad la cap ab ao X) :
    Calls Tryz.prog 6 #[.int .i64 room, .slice ad la cap] w fun e w' => ∃ u t m x q rr F G, e = .returned (.tuple #[.agg #[.pointer (some ⟨u, 0, none⟩), .pointer (some ⟨x, 0, none⟩), .pointer (some ⟨m, 0, none⟩), .pointer (some ⟨q, 0, none⟩)], .bool true]) ∧ PW w' w.heap.size F G u x q rr (v0 t m) 8 (fcl 8 X la) room [] [] ∧ Below w.heap.size w w' := by
  have HX := hid hX
  clear hX
  go_enter Tryz.func6, Tryz.ntmps6
  go_wp2_with (first
    | (go_at_call 14; refine (C.c_Memory _ 8 (by decide) (by decide) ad la cap ab ao X (HX.out.below ((Below.refl _ _).alloc (Nat.le_refl _) _))).mono ?_; rintro e w1 ⟨m, q, U, rfl, ht, hb, hu⟩; have HT := hid ht; have P0 := hid ((hb.block w.heap.size (by simp)).trans (heap_alloc_new w _)); have HB := hid (((Below.refl w.heap.size w).alloc (Nat.le_refl _) _).trans (hb.mono (by simp))); have HU : Hid (∀ k, U k → w.heap.size < k) := (fun k hk => by have := hu k hk; simp at this; omega); clear ht hb hu)
    | (go_at_call 27; refine (m_New _ m room h0 h1 _ rfl).mono ?_; rintro e w2 ⟨u, t, g, rfl, i1, i2, i3, i4, i5⟩; have I1 := hid i1; have I2 := hid i2; have I3 : Hid (Below w1.heap.size w1 w2) := ((Below.refl _ _).alloc (Nat.le_refl _) _).trans (i3.mono (by simp)); have P1 := hid ((i3.block w1.heap.size (by simp)).trans (heap_alloc_new w1 _)); have I4 : Hid (w1.heap.size < u ∧ ∀ k, E.Ft t g k → w1.heap.size < k) := ⟨by simp at i4; omega, fun k hk => by have := i5 k hk; simp at this; omega⟩; have y0 : w2.cell? ⟨w1.heap.size, 0, none⟩ = some (.pointer (some ⟨m, 0, none⟩)) := (by rw [cell_of_row w2 _ 0 _ _ _ P1.out]; rfl); have y1 : w2.cell? ⟨w1.heap.size, 1, none⟩ = some (.pointer (some ⟨q, 0, none⟩)) := (by rw [cell_of_row w2 _ 1 _ _ _ P1.out]; rfl); clear i1 i2 i3 i4 i5)
    | (go_at_call 28; refine (r7_NewD _ q room h0 h1 t m).mono ?_; rintro e w3 ⟨x, rr, rfl, hru, hrm, hb3, hx0, hr0⟩; have HRU := hid hru; have HRM := hid hrm; have HX0 := hid (And.intro hx0 hr0); clear hru hrm hx0 hr0; have HB3 := hid hb3; have z0 : w3.cell? ⟨w1.heap.size, 0, none⟩ = some (.pointer (some ⟨m, 0, none⟩)) := (by rw [cell_of_row w3 _ 0 _ _ _ ((hb3.block _ (lt_of_block P1.out)).trans P1.out)]; rfl); have z1 : w3.cell? ⟨w1.heap.size, 1, none⟩ = some (.pointer (some ⟨q, 0, none⟩)) := (by rw [cell_of_row w3 _ 1 _ _ _ ((hb3.block _ (lt_of_block P1.out)).trans P1.out)]; rfl); have p3 := ((I3.out.trans (hb3.mono I3.out.size)).block _ (lt_of_block P0.out)).trans P0.out; have P3 := hid p3; have c0 : w3.cell? ⟨w.heap.size, 0, none⟩ = some (.pointer none) := (by rw [cell_of_row w3 _ 0 _ _ _ p3]; rfl); have c1 : w3.cell? ⟨w.heap.size, 1, none⟩ = some (.pointer none) := (by rw [cell_of_row w3 _ 1 _ _ _ p3]; rfl); have c2 : w3.cell? ⟨w.heap.size, 2, none⟩ = some (.pointer none) := (by rw [cell_of_row w3 _ 2 _ _ _ p3]; rfl); have c3 : w3.cell? ⟨w.heap.size, 3, none⟩ = some (.pointer none) := (by rw [cell_of_row w3 _ 3 _ _ _ p3]; rfl); have cf : ∀ j, w3.frozen? ⟨w.heap.size, j, none⟩ = false := (fun j => frozen_of_row w3 _ j _ _ p3); clear hb3 p3))
  have ho6 := (((only1 w3 w.heap.size 0 (.pointer (some ⟨u, 0, none⟩))).trans (only1 _ w.heap.size 1 (.pointer (some ⟨x, 0, none⟩)))).trans (only1 _ w.heap.size 2 (.pointer (some ⟨m, 0, none⟩)))).trans (only1 _ w.heap.size 3 (.pointer (some ⟨q, 0, none⟩)))
  have h6 := setFour P3.out (.pointer (some ⟨u, 0, none⟩)) (.pointer (some ⟨x, 0, none⟩)) (.pointer (some ⟨m, 0, none⟩)) (.pointer (some ⟨q, 0, none⟩))
  generalize (((w3.setCell ⟨w.heap.size, 0, none⟩ (.pointer (some ⟨u, 0, none⟩))).setCell ⟨w.heap.size, 1, none⟩ (.pointer (some ⟨x, 0, none⟩))).setCell ⟨w.heap.size, 2, none⟩ (.pointer (some ⟨m, 0, none⟩))).setCell ⟨w.heap.size, 3, none⟩ (.pointer (some ⟨q, 0, none⟩)) = w6 at *
  clear y0 y1 c0 c1 c2 c3 cf z0 z1
  have y0 : w6.cell? ⟨w.heap.size, 0, none⟩ = some (.pointer (some ⟨u, 0, none⟩)) := by rw [cell_of_row w6 _ 0 _ _ _ h6]; rfl
  have y1 : w6.cell? ⟨w.heap.size, 1, none⟩ = some (.pointer (some ⟨x, 0, none⟩)) := by rw [cell_of_row w6 _ 1 _ _ _ h6]; rfl
  have y2 : w6.cell? ⟨w.heap.size, 2, none⟩ = some (.pointer (some ⟨m, 0, none⟩)) := by rw [cell_of_row w6 _ 2 _ _ _ h6]; rfl
  have y3 : w6.cell? ⟨w.heap.size, 3, none⟩ = some (.pointer (some ⟨q, 0, none⟩)) := by rw [cell_of_row w6 _ 3 _ _ _ h6]; rfl
  refine bodyPost_ret (by simp [results, Tryz.results6, go_sem, y0, y1, y2, y3]; rfl) rfl ?_
  obtain ⟨SS, TT, m1, m2, m3, m4⟩ := HT.out
  have B13 : Below w1.heap.size w1 w3 := I3.out.trans (HB3.out.mono I3.out.size)
  have sz : w.heap.size < w1.heap.size := lt_of_block P0.out
  have N1 : Mem w6 SS m 0 8 (fcl 8 X la) := (m1.below B13).only ho6 (fun k hk e => by have := HU.out k ((m3 k).2 (.inl hk)); omega)
  have N2 : RMem w6 TT q 0 8 (fcl 8 X la) := C.RMem.only (m2.below B13) ho6 (fun k hk e => by have := HU.out k ((m3 k).2 (.inr hk)); omega)
  have N3 : Iu w6 u (v0 t m) := (I1.out.below HB3.out).only ho6 (by have := I4.out.1; omega)
  have N4 : E.TM w6 t g room [] := (I2.out.below HB3.out).only ho6 (fun k hk e => by have := I4.out.2 k hk; omega)
  have N5 : Ru w6 x q rr (v0 t m) (.slice none 0 0) := HRU.out.only ho6 (by have := HX0.out.1; have := I3.out.size; omega)
  have N6 : E.RM w6 rr room (.slice none 0 0) [] := HRM.out.only ho6 (by have := HX0.out.2; have := I3.out.size; omega) (fun k hk => by cases hk)
  have ok : VOk (v0 t m) 8 := ⟨fun j => ⟨by show (0 : Int) ≤ 0; decide, by show (0 : Int) < _; decide⟩, by show 0 < 256; decide, by show 0 ≤ 255; decide, (fun q => by cases q), fun _ => rfl⟩
  have sz3 : w1.heap.size ≤ w2.heap.size := I3.out.size
  have hbw : Below w.heap.size w w6 := (HB.out.trans (B13.mono HB.out.size)).trans ((ho6.below w.heap.size (Nat.le_trans HB.out.size B13.size) fun k e => by omega))
  refine ⟨u, t, m, x, q, rr, fun k => k = u ∨ E.Ft t g k ∨ SS k, fun k => k = x ∨ TT k ∨ k = rr ∨ (Value.slice none 0 0).ownBlock = some k ∨ (Value.slice none 0 0).ownBlock = some k, rfl, ⟨⟨SS, g, N3, N1, N4, fun k => Iff.rfl, ok⟩, ⟨TT, .slice none 0 0, .slice none 0 0, N5, N2, N6, Ms.nil _ _, fun k => Iff.rfl, ok⟩, ?_, ?_, ?_, E.Nd.nil, ?_, hbw.size⟩, hbw⟩
  · have hu2 := lt_of_block (I1.out)
    intro k hk ht
    have hk2 : k < w2.heap.size := by
      rcases hk with e | e | e
      · rw [e]; exact I1.out.lt
      · exact I2.out.lt e
      · have := m1.lt e; omega
    rcases ht with e | e | e | e | e
    · have := HX0.out.1; omega
    · have := m2.lt e
      rcases hk with e' | e' | e'
      · have := I4.out.1; omega
      · have := I4.out.2 k e'; omega
      · exact m4 k e' e
    · have := HX0.out.2; omega
    · cases e
    · cases e
  · intro k hk
    rcases hk with e | e | e
    · have := I4.out.1; omega
    · have := I4.out.2 k e; omega
    · have := HU.out k ((m3 k).2 (.inl e)); omega
  · intro k hk
    rcases hk with e | e | e | e | e
    · have := HX0.out.1; omega
    · have := HU.out k ((m3 k).2 (.inr e)); omega
    · have := HX0.out.2; omega
    · cases e
    · cases e
  · intro d i hd i0
    show ((0 : Int), (0 : Int)) = _
    split <;> rfl
end Go.Proofs.YtmdconecigenfaaGreat
