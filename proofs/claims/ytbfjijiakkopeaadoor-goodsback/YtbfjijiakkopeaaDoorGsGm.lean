/- GoodsBack: the walk. -/
import Derived.Test.YtbfjijiakkopeaaDoorGsGk
namespace Go.Proofs.YtbfjijiakkopeaaDoor.Gs
open Go.RowKit Go.Shelf Go.Maps
open Go.Proofs.YtbfjijiakkopeaaDoor.Sc (Rsc RscRow)
theorem wrap_small {n : Int} (h0 : 0 ≤ n) (h1 : n ≤ 1000000) : wrap64 n = n ∧ IntKind.i64.wrap n = n := by
  unfold wrap64 IntKind.wrap
  simp [IntKind.signed, IntKind.bits]
  omega
set_option maxHeartbeats 8000000 in
set_option maxRecDepth 100000 in
theorem back_law (W : World) (Ad : Nat → Addr) (hE : Env8 W Ad) (v : Value) (xs : List ActI) (hA : ActRow W v xs) :
    Calls Tryd.prog 5 #[v] W fun e W' => e = .returned (.bool true) ∧ Below W.heap.size W W' := by
  have AW := hid (awake_any Ad W hE)
  have HA := hid hA
  have HE := hid hE
  obtain ⟨a, c, rfl, -, -⟩ := hA
  clear hE
  go_enter Tryd.func5, Tryd.ntmps5
  go_wp2_with fail
  refine AW.out.mono ?_
  rintro e w1 ⟨rfl, hb1⟩
  have B1 := hid hb1
  have NM := hid (names_any w1)
  clear AW hb1
  go_wp2_with fail
  refine NM.out.mono ?_
  rintro e w2 ⟨va, rfl, hr2, hb2⟩
  have B2 := hid (B1.out.trans (hb2.mono B1.out.size))
  have NW := hid (new_ok Ad w2 (.slice none 0 0) va [] (eightL 8) (HE.out.later B2.out) ⟨none, 0, rfl, Nat.le_refl _, .inl rfl⟩ hr2 ⟨by simp, trivial⟩ ⟨by decide, trivial⟩ eight_ok)
  obtain ⟨a2, c2, rfl, -⟩ := hr2
  clear NM hb2
  go_wp2_with fail
  refine NW.out.mono ?_
  rintro e w3 ⟨gb, rfl, ⟨mb, v3, h3⟩, hb3⟩
  have G3 : Hid (Gw w2 gb mb v3 ((eightL 8).map Rsc.s) ((eightL 8).map Rsc.n) 0 [] w3) := ⟨h3, hb3, fun x hx => by simp at hx⟩
  clear NW h3 hb3
  obtain ⟨NS, hNS⟩ : ∃ NS, NS = (eightL 8).map Rsc.s := ⟨_, rfl⟩
  obtain ⟨L0, hL0⟩ : ∃ L0, L0 = (eightL 8).map Rsc.n := ⟨_, rfl⟩
  have L8 : Hid (L0.length = 8) := by rw [hL0]; rfl
  rw [← hNS, ← hL0] at G3
  obtain ⟨E8, hE8⟩ : ∃ E8, E8 = (eightL 8).length := ⟨_, rfl⟩
  rw [← hE8]
  clear hNS hL0 hE8
  have A3 := hid (all_any G3.out.gd)
  go_wp2_with fail
  refine A3.out.mono ?_
  rintro e w4 ⟨v4, rfl, ho4, hb4⟩
  obtain ⟨kw, wc, cur, rfl, hkw, hbw, hold⟩ := own_blk ho4 (by rw [L8.out]; omega)
  have HH : Hid (Hold cur L0) := hold
  have G4 := hid (G3.out.more hb4 hbw hkw)
  have KW : Hid (w2.heap.size ≤ kw) := Nat.le_trans G3.out.bel.size hkw
  clear A3 ho4 hb4 hbw hkw hold G3
  go_wp2_with fail
  go_loopw [6] (fun i wr => ∃ (k : Nat) (l : List Int), k ≤ xs.length ∧ k ≤ 100 ∧ i = .int .i64 (k : Int) ∧ Hid (l.length = 8 ∧ Gw w2 gb mb v3 NS l k [(kw, .cells cur 3 (0, 0))] wr)) (fun i _ => 100 - (intOf i).toNat)
  case atStart => exact ⟨0, L0, Nat.zero_le _, by omega, rfl, L8.out, G4.out⟩
  case round =>
    clear G4
    obtain ⟨k, l, hk, hk1, rfl, HK⟩ := hrel
    by_cases hlt : k < xs.length ∧ k < 100
    · obtain ⟨hlt1, hlt2⟩ := hlt
      have hki : (k : Int) < (xs.length : Int) := by omega
      have hki2 : (k : Int) < 100 := by omega
      obtain ⟨x, hx⟩ := at_lt xs k hlt1
      obtain ⟨b, o, rfl, hcs⟩ : ∃ b o, a = some ⟨b, o, none⟩ ∧ ∀ w', Below w2.heap.size w2 w' → w'.cell? ⟨b, o + k * 4 + 1, none⟩ = some (.int .i64 x.i) ∧ w'.cell? ⟨b, o + k * 4 + 2, none⟩ = some (.int .i64 x.n) := by
        obtain ⟨a', c', hv, -, hl2⟩ := HA.out.later B2.out
        obtain ⟨rfl, rfl⟩ : a = a' ∧ c = c' := by simpa using hv
        rcases hl2 with q | ⟨b, o, q1, q2⟩
        · rw [q] at hx; simp at hx
        · obtain ⟨-, p1, p2, -⟩ := q2 k x hx
          exact ⟨b, o, q1, fun w' hb => ⟨seen hb (Nat.le_refl _) p1, seen hb (Nat.le_refl _) p2⟩⟩
      obtain ⟨u, hu⟩ : ∃ u, IntKind.u64.wrap x.i = u := ⟨_, rfl⟩
      obtain ⟨q, hq8, hqe⟩ : ∃ q : Nat, q < 8 ∧ u.tmod 8 = (q : Int) := by
        refine ⟨uq x.i, uq_lt _, ?_⟩
        rw [uq_eq, ← hu]
        exact Int.tmod_eq_emod_of_nonneg (by unfold IntKind.wrap; simp [IntKind.signed, IntKind.bits]; omega)
      have hw1 := (wrap_small (n := (q : Int)) (by omega) (by omega)).1
      have hw2 := (wrap_small (n := (q : Int)) (by omega) (by omega)).2
      obtain ⟨y, hy⟩ := at_lt l q (by rw [HK.out.1]; exact hq8)
      have AD : Hid (∀ W', Below wr.heap.size wr W' → Calls Tryd.prog 15 #[.pointer (some ⟨gb, 0, none⟩), .int .i64 (q : Int), .int .i64 x.n] W' fun e w' => (∃ y, e = .returned (.tuple #[.int .i64 y, .nilIface])) ∧ Hid (∃ l, l.length = 8 ∧ Gw w2 gb mb v3 NS l (k + 1) [(kw, .cells cur 3 (0, 0))] w')) := by
        intro W' hb
        have G' := HK.out.2.later hb
        refine (add_in G'.gd (by omega) q x.n y hy).mono ?_
        rintro e w' ⟨rfl, hg, hs⟩
        exact ⟨⟨_, rfl⟩, ⟨_, by simpa using HK.out.1, G'.step hg hs⟩⟩
      have KK : Hid (∀ W', Below wr.heap.size wr W' → W'.cell? ⟨b, o + k * 4 + 1, none⟩ = some (.int .i64 x.i) ∧ W'.cell? ⟨b, o + k * 4 + 2, none⟩ = some (.int .i64 x.n)) := fun W' hb => hcs W' (HK.out.2.later hb).bel
      have K2 : Hid (∀ W', Hid (∃ l, l.length = 8 ∧ Gw w2 gb mb v3 NS l (k + 1) [(kw, .cells cur 3 (0, 0))] W') → W'.cell? ⟨b, o + k * 4 + 1, none⟩ = some (.int .i64 x.i) ∧ W'.cell? ⟨b, o + k * 4 + 2, none⟩ = some (.int .i64 x.n)) := fun W' h => hcs W' h.out.choose_spec.2.bel
      clear hx hy HK hcs
      go_upto_region 10 with fail
      go_region_held3 (fun W' => W'.cell? ⟨b, o + k * 4 + 1, none⟩ = some (.int .i64 x.i) ∧ W'.cell? ⟨b, o + k * 4 + 2, none⟩ = some (.int .i64 x.n))
        (first | exact KK.out _ (Below.refl _ _).drew | exact KK.out _ (Below.refl _ _) | exact K2.out _ (by assumption))
        (first | (go_at_call 15; refine (AD.out _ (by first | exact (Below.refl _ _).drew | exact Below.refl _ _)).mono ?_; rintro e w5 ⟨⟨y5, rfl⟩, h5⟩))
      clear KK K2 AD
      go_wp2_with fail
      go_roundw
      case rel => exact ⟨k + 1, h5.out.choose, by omega, by omega, by go_num, h5.out.choose_spec⟩
      case measure => simp [intOf]; omega
    · by_cases hA : k < xs.length
      · have hki : (k : Int) < (xs.length : Int) := by omega
        have hkj : ¬ (k : Int) < 100 := by omega
        rename World => wo
        have hk9 : k ≤ 100 := hk1
        clear hk hlt hk1 hA
        have GA := hid (all_any HK.out.2.gd)
        have HL := hid HK.out.1
        have GK := hid HK.out.2
        go_upto_region 11 with fail
        clear hki hkj HK
        go_wp2_with fail
        refine GA.out.mono ?_
        rintro e w6 ⟨v6, rfl, ho6, hb6⟩
        obtain ⟨kn, nc, cun, rfl, hkn, hbn, holn⟩ := own_blk ho6 (by rw [HL.out]; omega)
        have HN : Hid (Hold cun l) := holn
        have G6 := hid (GK.out.more hb6 hbn hkn)
        have C6 := hid (changes_any G6.out.gd)
        clear GA ho6 hb6 hbn hkn holn GK
        go_wp2_with fail
        refine C6.out.mono ?_
        rintro e w' ⟨rfl, hq⟩
        obtain rfl := hq.symm
        clear hq C6
        go_wp2_with fail
        go_loopw [9, 10] (fun d i wr => ∃ j : Nat, j ≤ 8 ∧ i = .int .i64 (j : Int) ∧ d = .int .i64 ((dif l L0 j : Nat) : Int) ∧ Hid (Below w6.heap.size w6 wr)) (fun _ i _ => 8 - (intOf i).toNat)
        case atStart => exact ⟨0, Nat.zero_le _, rfl, rfl, Below.refl _ _⟩
        case round =>
          obtain ⟨j, hj, rfl, rfl, HB⟩ := hrel
          by_cases hj8 : j < 8
          · have hji : (j : Int) < 8 := by omega
            obtain ⟨y, hy⟩ := at_lt l j (by rw [HL.out]; exact hj8)
            obtain ⟨z, hz⟩ := at_lt L0 j (by rw [L8.out]; exact hj8)
            have hjl : (j : Int) < (l.length : Int) := by rw [HL.out]; omega
            have hjz : (j : Int) < (L0.length : Int) := by rw [L8.out]; omega
            have GB := G6.out.later HB.out
            have d0 : wr.cell? ⟨kn, j, none⟩ = some (.int .i64 y) := cell_blk (GB.at (List.mem_cons_self ..)) (HN.out j y hy)
            have d1 : wr.cell? ⟨kw, j, none⟩ = some (.int .i64 z) := cell_blk (GB.at (List.mem_cons_of_mem _ (List.mem_cons_self ..))) (HH.out j z hz)
            have dl := dif_le l L0 j
            by_cases hyz : y = z
            · subst hyz
              have DN : Hid (dif l L0 (j + 1) = dif l L0 j) := by show _ = _; rw [dif, if_pos (hy.trans hz.symm)]; rfl
              generalize dif l L0 j = D at *
              clear hy hz GB
              go_wp2_with fail
              go_quiet (fail)
              go_wp2_with fail
              go_roundw
              case rel => exact ⟨j + 1, by omega, by go_num, by rw [DN.out], by first | exact HB.out | exact HB.out.drew | exact HB.out.trans ((drewN_below _ _).mono HB.out.size)⟩
              case measure => simp [intOf]; omega
            · have DN : Hid (dif l L0 (j + 1) = dif l L0 j + 1) := by
                show _ = _
                rw [dif, if_neg]
                intro e
                rw [hy, hz] at e
                exact hyz (by simpa using e)
              generalize dif l L0 j = D at *
              have hDi : (D : Int) ≤ 8 := by omega
              clear hy hz GB
              go_wp2_with fail
              go_quiet (fail)
              go_wp2_with fail
              go_roundw
              case rel => exact ⟨j + 1, by omega, by go_num, by rw [DN.out]; go_num, by first | exact HB.out | exact HB.out.drew | exact HB.out.trans ((drewN_below _ _).mono HB.out.size)⟩
              case measure => simp [intOf]; omega
          · have hji : ¬ (j : Int) < 8 := by omega
            obtain rfl : j = 8 := by omega
            have GB := G6.out.later HB.out
            have hEB := GB.env (HE.out.later B2.out)
            have hkw := (GB.fr' _ (List.mem_cons_of_mem _ (List.mem_cons_self ..)))
            have PK := hid (put_ok GB.gd hEB (by omega) (.slice (some ⟨kw, 0, none⟩) L0.length wc) L0 (HH.out.vrow hkw.1 (fun q => hkw.2 q.all)) (by rw [L8.out, HL.out]))
            rw [HL.out] at PK
            have dl := dif_le l L0 8
            obtain ⟨D, hD⟩ : ∃ D, D = dif l L0 8 := ⟨_, rfl⟩
            rw [← hD] at PK dl ⊢
            have HGB := hid (GB.few (fr' := [(kw, .cells cur 3 (0, 0))]) (fun x hx => by simp at hx; subst hx; simp))
            have hki9 : (k : Int) ≤ 100 := by omega
            have hDi : (D : Int) ≤ 8 := by omega
            clear hD hkw GB hEB hj hj8
            go_wp2_with fail
            refine PK.out.mono ?_
            rintro e w8 ⟨rfl, hg8, hs8⟩
            have G8 := hid (HGB.out.step hg8 hs8)
            have A8 := hid (all_any G8.out.gd)
            clear PK hg8 hs8 HGB G6 HB
            go_wp2_with fail
            refine A8.out.mono ?_
            rintro e w9 ⟨v9, rfl, ho9, hb9⟩
            have G9 := hid (G8.out.later hb9)
            have SM := hid (same_any w9 v9 (.slice (some ⟨kw, 0, none⟩) L0.length wc) L0 (own_lrow ho9) (HH.out.row (G9.out.at (List.mem_cons_self ..))) (by rw [L8.out]; omega))
            obtain ⟨a9, c9, rfl⟩ := own_slice ho9
            clear A8 ho9 hb9 G8
            go_wp2_with fail
            refine SM.out.mono ?_
            rintro e w10 ⟨rfl, hb10⟩
            have G10 := hid (G9.out.later hb10)
            have CH : Hid (Calls Tryd.prog 19 #[.pointer (some ⟨gb, 0, none⟩)] w10 fun e W' => e = .returned (.int .i64 ((k : Int) + (D : Int))) ∧ W' = w10) := by
              have := changes_any G10.out.gd
              rw [Int.natCast_add] at this
              exact this
            clear SM hb10 G9
            go_wp2_with fail
            refine CH.out.mono ?_
            rintro e w' ⟨rfl, hq⟩
            obtain rfl := hq.symm
            have A10 := hid (all_any G10.out.gd)
            clear hq CH
            go_wp2_with fail
            refine A10.out.mono ?_
            rintro e w11 ⟨v11, rfl, ho11, hb11⟩
            obtain ⟨kl, lc, cul, rfl, hkl, hbl, holl⟩ := own_blk ho11 (by rw [L8.out]; omega)
            obtain ⟨y0, hy0⟩ := at_lt L0 0 (by rw [L8.out]; omega)
            have e0 : w11.cell? ⟨kl, 0, none⟩ = some (.int .i64 y0) := cell_blk hbl (holl 0 y0 hy0)
            have f0 := blk_free hbl 0
            obtain ⟨z, hz⟩ : ∃ z, wrap64 (y0 + 1) = z := ⟨_, rfl⟩
            have h0l : (0 : Int) < (L0.length : Int) := by rw [L8.out]; omega
            obtain ⟨w12, hw12⟩ : ∃ w12, w12 = w11.setCell ⟨kl, 0, none⟩ (.int .i64 z) := ⟨_, rfl⟩
            have G12 : Hid (Gw w2 gb mb v3 NS L0 (k + D) [(kw, .cells cur 3 (0, 0))] w12) := by
              have g := G10.out.more hb11 hbl hkl
              have hlt := (Array.getElem?_eq_some_iff.1 (G10.out.at (List.mem_cons_self ..))).1
              have := g.put (j := 0) (Nat.le_trans G10.out.bel.size hkl) (fun x hx => by simp at hx; subst hx; simp; omega) (.int .i64 z)
              rw [hw12]
              exact this.few fun x hx => by simp at hx; subst hx; simp
            have HW12 := hid hw12
            have E12 := hid (G12.out.env (HE.out.later B2.out))
            have SN := hid (set_nil E12.out 0 0)
            clear A10 ho11 hb11 hkl hbl holl hy0 hw12 G10
            go_upto_region 23 with fail
            rw [hz, ← HW12.out]
            clear hz e0 f0 HW12
            go_wp2_with fail
            refine SN.out.mono ?_
            rintro e w13 ⟨t13, q13, rfl, hv13, hb13⟩
            have V13 := hid hv13
            have G13 := hid (G12.out.later hb13)
            have E13 := hid (E12.out.later hb13)
            have AN := hid (add_nil E13.out 0 0)
            clear SN hv13 hb13 G12 E12
            go_wp2_with fail
            refine AN.out.mono ?_
            rintro e w14 ⟨t14, q14, rfl, hv14, hb14⟩
            have V14 := hid hv14
            have V13' := hid (V13.out.later hb14)
            have G14 := hid (G13.out.later hb14)
            have E14 := hid (E13.out.later hb14)
            have GN := hid (get_nil E14.out 0)
            have NN := hid (named_nil (W := w14) ⟨#[115]⟩)
            clear AN hv14 hb14 G13 E13 V13
            go_wp2_with fail
            refine GN.out.mono ?_
            rintro e w' ⟨rfl, hq⟩
            obtain rfl := hq.symm
            clear hq GN
            go_wp2_with fail
            refine NN.out.mono ?_
            rintro e w' ⟨rfl, hq⟩
            obtain rfl := hq.symm
            clear hq NN
            have KK : Hid (∀ W', Below w14.heap.size w14 W' → W'.cell? ⟨0, 0, none⟩ = some (.iface 154 (.pointer (some (Ad 2))))) := fun W' hb => (E14.out.later hb).k2
            have C1 : Hid (∀ W', Below w14.heap.size w14 W' → Calls Tryd.prog 24 #[.pointer (some ⟨gb, 0, none⟩)] W' fun e w' => ∃ v, e = .returned v ∧ LRow w' v L0 ∧ Below w14.heap.size w14 w') := fun W' hb => (all_any (G14.out.later hb).gd).mono fun _ _ ⟨v, q1, q2, q3⟩ => ⟨v, q1, own_lrow q2, hb.trans (q3.mono hb.size)⟩
            have C2 : Hid (∀ W' v, LRow W' v L0 → Below w14.heap.size w14 W' → Calls Tryd.prog 23 #[v, .slice (some ⟨kw, 0, none⟩) L0.length wc] W' fun e w' => e = .returned (.bool true) ∧ Below w14.heap.size w14 w') := fun W' v hv hb => (same_any _ v _ L0 hv (HH.out.row ((G14.out.later hb).at (List.mem_cons_self ..))) (by rw [L8.out]; omega)).mono fun _ _ ⟨q1, q2⟩ => ⟨q1, hb.trans (q2.mono hb.size)⟩
            have C3 : Hid (∀ W', Below w14.heap.size w14 W' → Calls Tryd.prog 26 #[.iface t13 q13, .iface 154 (.pointer (some (Ad 2)))] W' fun e w' => e = .returned (.bool true) ∧ Below w14.heap.size w14 w') := fun W' hb => (is_err Ad (E14.out.later hb) (V13'.out.later hb) (p := 2) (k := 2) (by decide) (by decide)).mono fun _ _ ⟨q1, q2⟩ => ⟨q1, hb.trans (q2.mono hb.size)⟩
            have C4 : Hid (∀ W', Below w14.heap.size w14 W' → Calls Tryd.prog 26 #[.iface t14 q14, .iface 154 (.pointer (some (Ad 2)))] W' fun e w' => e = .returned (.bool true) ∧ Below w14.heap.size w14 w') := fun W' hb => (is_err Ad (E14.out.later hb) (V14.out.later hb) (p := 2) (k := 2) (by decide) (by decide)).mono fun _ _ ⟨q1, q2⟩ => ⟨q1, hb.trans (q2.mono hb.size)⟩
            have C5 : Hid (∀ W', Below w14.heap.size w14 W' → Calls Tryd.prog 16 #[.pointer none, .slice none 0 0] W' fun e w' => ∃ t q, e = .returned (.iface t q) ∧ Err Ad w' (.iface t q) 2 1 ∧ Below w14.heap.size w14 w') := fun W' hb => (put_nil (E14.out.later hb) none 0 0).mono fun _ _ ⟨t, q, q1, q2, q3⟩ => ⟨t, q, q1, q2, hb.trans (q3.mono hb.size)⟩
            have C6 : Hid (∀ W' t q, Err Ad W' (.iface t q) 2 1 → Below w14.heap.size w14 W' → Calls Tryd.prog 26 #[.iface t q, .iface 154 (.pointer (some (Ad 2)))] W' fun e w' => e = .returned (.bool true) ∧ Below w14.heap.size w14 w') := fun W' t q hv hb => (is_err Ad (E14.out.later hb) hv (p := 2) (k := 2) (by decide) (by decide)).mono fun _ _ ⟨q1, q2⟩ => ⟨q1, hb.trans (q2.mono hb.size)⟩
            have C7 : Hid (∀ W', Below w14.heap.size w14 W' → Calls Tryd.prog 22 #[.pointer none] W' fun e w' => e = .returned (.int .i64 0) ∧ Below w14.heap.size w14 w') := fun W' hb => (len_nil W').mono fun _ _ ⟨q1, q2⟩ => ⟨q1, by rw [q2]; exact hb⟩
            have C8 : Hid (∀ W', Below w14.heap.size w14 W' → Calls Tryd.prog 19 #[.pointer none] W' fun e w' => e = .returned (.int .i64 0) ∧ Below w14.heap.size w14 w') := fun W' hb => (changes_nil W').mono fun _ _ ⟨q1, q2⟩ => ⟨q1, by rw [q2]; exact hb⟩
            have C9 : Hid (∀ W', Below w14.heap.size w14 W' → Calls Tryd.prog 24 #[.pointer none] W' fun e w' => e = .returned (.slice none 0 0) ∧ Below w14.heap.size w14 w') := fun W' hb => (all_nil W').mono fun _ _ ⟨q1, q2⟩ => ⟨q1, by rw [q2]; exact hb⟩
            have BW : Hid (∀ W', Below w14.heap.size w14 W' → Below W.heap.size W W') := fun W' hb => B2.out.trans ((G14.out.later hb).bel.mono B2.out.size)
            clear V14 V13' G14 E14
            go_upto_region 28 with fail
            go_region_held3 (fun W' => W'.cell? ⟨0, 0, none⟩ = some (.iface 154 (.pointer (some (Ad 2)))))
              (first | exact KK.out _ (by assumption) | exact KK.out _ (Below.refl _ _).drew | exact KK.out _ (Below.refl _ _))
              (first
                | (go_at_call_of 26 (Value.iface t13 q13); refine (C3.out _ (by first | assumption | exact (Below.refl _ _).drew | exact Below.refl _ _)).mono ?_; rintro e w20 ⟨rfl, hb20⟩)
                | (go_at_call_of 26 (Value.iface t14 q14); refine (C4.out _ (by first | assumption | exact (Below.refl _ _).drew | exact Below.refl _ _)).mono ?_; rintro e w21 ⟨rfl, hb21⟩)
                | (go_at_call_of 24 (Value.pointer none); refine (C9.out _ (by assumption)).mono ?_; rintro e w22 ⟨rfl, hb22⟩)
                | (go_at_call 24; refine (C1.out _ (by first | assumption | exact (Below.refl _ _).drew | exact Below.refl _ _)).mono ?_; rintro e w23 ⟨v23, rfl, hv23, hb23⟩)
                | (go_at_call 23; refine (C2.out _ _ (by assumption) (by assumption)).mono ?_; rintro e w24 ⟨rfl, hb24⟩)
                | (go_at_call 16; refine (C5.out _ (by assumption)).mono ?_; rintro e w25 ⟨t25, q25, rfl, hv25, hb25⟩)
                | (go_at_call 26; refine (C6.out _ _ _ (by assumption) (by assumption)).mono ?_; rintro e w26 ⟨rfl, hb26⟩)
                | (go_at_call 22; refine (C7.out _ (by assumption)).mono ?_; rintro e w27 ⟨rfl, hb27⟩)
                | (go_at_call 19; refine (C8.out _ (by assumption)).mono ?_; rintro e w28 ⟨rfl, hb28⟩))
            all_goals
              have BF : Hid (Below W.heap.size W _) := BW.out _ (by assumption)
              clear KK C1 C2 C3 C4 C5 C6 C7 C8 C9 BW
              go_wp2_with fail
              go_ret
              exact ⟨rfl, BF.out⟩
      · have hki : ¬ (k : Int) < (xs.length : Int) := by omega
        have hkj : (k : Int) < 101 := by omega
        rename World => wo
        have hk9 : k ≤ 100 := hk1
        clear hk hlt hk1 hA
        have GA := hid (all_any HK.out.2.gd)
        have HL := hid HK.out.1
        have GK := hid HK.out.2
        go_upto_region 11 with fail
        clear hki hkj HK
        go_wp2_with fail
        refine GA.out.mono ?_
        rintro e w6 ⟨v6, rfl, ho6, hb6⟩
        obtain ⟨kn, nc, cun, rfl, hkn, hbn, holn⟩ := own_blk ho6 (by rw [HL.out]; omega)
        have HN : Hid (Hold cun l) := holn
        have G6 := hid (GK.out.more hb6 hbn hkn)
        have C6 := hid (changes_any G6.out.gd)
        clear GA ho6 hb6 hbn hkn holn GK
        go_wp2_with fail
        refine C6.out.mono ?_
        rintro e w' ⟨rfl, hq⟩
        obtain rfl := hq.symm
        clear hq C6
        go_wp2_with fail
        go_loopw [9, 10] (fun d i wr => ∃ j : Nat, j ≤ 8 ∧ i = .int .i64 (j : Int) ∧ d = .int .i64 ((dif l L0 j : Nat) : Int) ∧ Hid (Below w6.heap.size w6 wr)) (fun _ i _ => 8 - (intOf i).toNat)
        case atStart => exact ⟨0, Nat.zero_le _, rfl, rfl, Below.refl _ _⟩
        case round =>
          obtain ⟨j, hj, rfl, rfl, HB⟩ := hrel
          by_cases hj8 : j < 8
          · have hji : (j : Int) < 8 := by omega
            obtain ⟨y, hy⟩ := at_lt l j (by rw [HL.out]; exact hj8)
            obtain ⟨z, hz⟩ := at_lt L0 j (by rw [L8.out]; exact hj8)
            have hjl : (j : Int) < (l.length : Int) := by rw [HL.out]; omega
            have hjz : (j : Int) < (L0.length : Int) := by rw [L8.out]; omega
            have GB := G6.out.later HB.out
            have d0 : wr.cell? ⟨kn, j, none⟩ = some (.int .i64 y) := cell_blk (GB.at (List.mem_cons_self ..)) (HN.out j y hy)
            have d1 : wr.cell? ⟨kw, j, none⟩ = some (.int .i64 z) := cell_blk (GB.at (List.mem_cons_of_mem _ (List.mem_cons_self ..))) (HH.out j z hz)
            have dl := dif_le l L0 j
            by_cases hyz : y = z
            · subst hyz
              have DN : Hid (dif l L0 (j + 1) = dif l L0 j) := by show _ = _; rw [dif, if_pos (hy.trans hz.symm)]; rfl
              generalize dif l L0 j = D at *
              clear hy hz GB
              go_wp2_with fail
              go_quiet (fail)
              go_wp2_with fail
              go_roundw
              case rel => exact ⟨j + 1, by omega, by go_num, by rw [DN.out], by first | exact HB.out | exact HB.out.drew | exact HB.out.trans ((drewN_below _ _).mono HB.out.size)⟩
              case measure => simp [intOf]; omega
            · have DN : Hid (dif l L0 (j + 1) = dif l L0 j + 1) := by
                show _ = _
                rw [dif, if_neg]
                intro e
                rw [hy, hz] at e
                exact hyz (by simpa using e)
              generalize dif l L0 j = D at *
              have hDi : (D : Int) ≤ 8 := by omega
              clear hy hz GB
              go_wp2_with fail
              go_quiet (fail)
              go_wp2_with fail
              go_roundw
              case rel => exact ⟨j + 1, by omega, by go_num, by rw [DN.out]; go_num, by first | exact HB.out | exact HB.out.drew | exact HB.out.trans ((drewN_below _ _).mono HB.out.size)⟩
              case measure => simp [intOf]; omega
          · have hji : ¬ (j : Int) < 8 := by omega
            obtain rfl : j = 8 := by omega
            have GB := G6.out.later HB.out
            have hEB := GB.env (HE.out.later B2.out)
            have hkw := (GB.fr' _ (List.mem_cons_of_mem _ (List.mem_cons_self ..)))
            have PK := hid (put_ok GB.gd hEB (by omega) (.slice (some ⟨kw, 0, none⟩) L0.length wc) L0 (HH.out.vrow hkw.1 (fun q => hkw.2 q.all)) (by rw [L8.out, HL.out]))
            rw [HL.out] at PK
            have dl := dif_le l L0 8
            obtain ⟨D, hD⟩ : ∃ D, D = dif l L0 8 := ⟨_, rfl⟩
            rw [← hD] at PK dl ⊢
            have HGB := hid (GB.few (fr' := [(kw, .cells cur 3 (0, 0))]) (fun x hx => by simp at hx; subst hx; simp))
            have hki9 : (k : Int) ≤ 100 := by omega
            have hDi : (D : Int) ≤ 8 := by omega
            clear hD hkw GB hEB hj hj8
            go_wp2_with fail
            refine PK.out.mono ?_
            rintro e w8 ⟨rfl, hg8, hs8⟩
            have G8 := hid (HGB.out.step hg8 hs8)
            have A8 := hid (all_any G8.out.gd)
            clear PK hg8 hs8 HGB G6 HB
            go_wp2_with fail
            refine A8.out.mono ?_
            rintro e w9 ⟨v9, rfl, ho9, hb9⟩
            have G9 := hid (G8.out.later hb9)
            have SM := hid (same_any w9 v9 (.slice (some ⟨kw, 0, none⟩) L0.length wc) L0 (own_lrow ho9) (HH.out.row (G9.out.at (List.mem_cons_self ..))) (by rw [L8.out]; omega))
            obtain ⟨a9, c9, rfl⟩ := own_slice ho9
            clear A8 ho9 hb9 G8
            go_wp2_with fail
            refine SM.out.mono ?_
            rintro e w10 ⟨rfl, hb10⟩
            have G10 := hid (G9.out.later hb10)
            have CH : Hid (Calls Tryd.prog 19 #[.pointer (some ⟨gb, 0, none⟩)] w10 fun e W' => e = .returned (.int .i64 ((k : Int) + (D : Int))) ∧ W' = w10) := by
              have := changes_any G10.out.gd
              rw [Int.natCast_add] at this
              exact this
            clear SM hb10 G9
            go_wp2_with fail
            refine CH.out.mono ?_
            rintro e w' ⟨rfl, hq⟩
            obtain rfl := hq.symm
            have A10 := hid (all_any G10.out.gd)
            clear hq CH
            go_wp2_with fail
            refine A10.out.mono ?_
            rintro e w11 ⟨v11, rfl, ho11, hb11⟩
            obtain ⟨kl, lc, cul, rfl, hkl, hbl, holl⟩ := own_blk ho11 (by rw [L8.out]; omega)
            obtain ⟨y0, hy0⟩ := at_lt L0 0 (by rw [L8.out]; omega)
            have e0 : w11.cell? ⟨kl, 0, none⟩ = some (.int .i64 y0) := cell_blk hbl (holl 0 y0 hy0)
            have f0 := blk_free hbl 0
            obtain ⟨z, hz⟩ : ∃ z, wrap64 (y0 + 1) = z := ⟨_, rfl⟩
            have h0l : (0 : Int) < (L0.length : Int) := by rw [L8.out]; omega
            obtain ⟨w12, hw12⟩ : ∃ w12, w12 = w11.setCell ⟨kl, 0, none⟩ (.int .i64 z) := ⟨_, rfl⟩
            have G12 : Hid (Gw w2 gb mb v3 NS L0 (k + D) [(kw, .cells cur 3 (0, 0))] w12) := by
              have g := G10.out.more hb11 hbl hkl
              have hlt := (Array.getElem?_eq_some_iff.1 (G10.out.at (List.mem_cons_self ..))).1
              have := g.put (j := 0) (Nat.le_trans G10.out.bel.size hkl) (fun x hx => by simp at hx; subst hx; simp; omega) (.int .i64 z)
              rw [hw12]
              exact this.few fun x hx => by simp at hx; subst hx; simp
            have HW12 := hid hw12
            have E12 := hid (G12.out.env (HE.out.later B2.out))
            have SN := hid (set_nil E12.out 0 0)
            clear A10 ho11 hb11 hkl hbl holl hy0 hw12 G10
            go_upto_region 23 with fail
            rw [hz, ← HW12.out]
            clear hz e0 f0 HW12
            go_wp2_with fail
            refine SN.out.mono ?_
            rintro e w13 ⟨t13, q13, rfl, hv13, hb13⟩
            have V13 := hid hv13
            have G13 := hid (G12.out.later hb13)
            have E13 := hid (E12.out.later hb13)
            have AN := hid (add_nil E13.out 0 0)
            clear SN hv13 hb13 G12 E12
            go_wp2_with fail
            refine AN.out.mono ?_
            rintro e w14 ⟨t14, q14, rfl, hv14, hb14⟩
            have V14 := hid hv14
            have V13' := hid (V13.out.later hb14)
            have G14 := hid (G13.out.later hb14)
            have E14 := hid (E13.out.later hb14)
            have GN := hid (get_nil E14.out 0)
            have NN := hid (named_nil (W := w14) ⟨#[115]⟩)
            clear AN hv14 hb14 G13 E13 V13
            go_wp2_with fail
            refine GN.out.mono ?_
            rintro e w' ⟨rfl, hq⟩
            obtain rfl := hq.symm
            clear hq GN
            go_wp2_with fail
            refine NN.out.mono ?_
            rintro e w' ⟨rfl, hq⟩
            obtain rfl := hq.symm
            clear hq NN
            have KK : Hid (∀ W', Below w14.heap.size w14 W' → W'.cell? ⟨0, 0, none⟩ = some (.iface 154 (.pointer (some (Ad 2))))) := fun W' hb => (E14.out.later hb).k2
            have C1 : Hid (∀ W', Below w14.heap.size w14 W' → Calls Tryd.prog 24 #[.pointer (some ⟨gb, 0, none⟩)] W' fun e w' => ∃ v, e = .returned v ∧ LRow w' v L0 ∧ Below w14.heap.size w14 w') := fun W' hb => (all_any (G14.out.later hb).gd).mono fun _ _ ⟨v, q1, q2, q3⟩ => ⟨v, q1, own_lrow q2, hb.trans (q3.mono hb.size)⟩
            have C2 : Hid (∀ W' v, LRow W' v L0 → Below w14.heap.size w14 W' → Calls Tryd.prog 23 #[v, .slice (some ⟨kw, 0, none⟩) L0.length wc] W' fun e w' => e = .returned (.bool true) ∧ Below w14.heap.size w14 w') := fun W' v hv hb => (same_any _ v _ L0 hv (HH.out.row ((G14.out.later hb).at (List.mem_cons_self ..))) (by rw [L8.out]; omega)).mono fun _ _ ⟨q1, q2⟩ => ⟨q1, hb.trans (q2.mono hb.size)⟩
            have C3 : Hid (∀ W', Below w14.heap.size w14 W' → Calls Tryd.prog 26 #[.iface t13 q13, .iface 154 (.pointer (some (Ad 2)))] W' fun e w' => e = .returned (.bool true) ∧ Below w14.heap.size w14 w') := fun W' hb => (is_err Ad (E14.out.later hb) (V13'.out.later hb) (p := 2) (k := 2) (by decide) (by decide)).mono fun _ _ ⟨q1, q2⟩ => ⟨q1, hb.trans (q2.mono hb.size)⟩
            have C4 : Hid (∀ W', Below w14.heap.size w14 W' → Calls Tryd.prog 26 #[.iface t14 q14, .iface 154 (.pointer (some (Ad 2)))] W' fun e w' => e = .returned (.bool true) ∧ Below w14.heap.size w14 w') := fun W' hb => (is_err Ad (E14.out.later hb) (V14.out.later hb) (p := 2) (k := 2) (by decide) (by decide)).mono fun _ _ ⟨q1, q2⟩ => ⟨q1, hb.trans (q2.mono hb.size)⟩
            have C5 : Hid (∀ W', Below w14.heap.size w14 W' → Calls Tryd.prog 16 #[.pointer none, .slice none 0 0] W' fun e w' => ∃ t q, e = .returned (.iface t q) ∧ Err Ad w' (.iface t q) 2 1 ∧ Below w14.heap.size w14 w') := fun W' hb => (put_nil (E14.out.later hb) none 0 0).mono fun _ _ ⟨t, q, q1, q2, q3⟩ => ⟨t, q, q1, q2, hb.trans (q3.mono hb.size)⟩
            have C6 : Hid (∀ W' t q, Err Ad W' (.iface t q) 2 1 → Below w14.heap.size w14 W' → Calls Tryd.prog 26 #[.iface t q, .iface 154 (.pointer (some (Ad 2)))] W' fun e w' => e = .returned (.bool true) ∧ Below w14.heap.size w14 w') := fun W' t q hv hb => (is_err Ad (E14.out.later hb) hv (p := 2) (k := 2) (by decide) (by decide)).mono fun _ _ ⟨q1, q2⟩ => ⟨q1, hb.trans (q2.mono hb.size)⟩
            have C7 : Hid (∀ W', Below w14.heap.size w14 W' → Calls Tryd.prog 22 #[.pointer none] W' fun e w' => e = .returned (.int .i64 0) ∧ Below w14.heap.size w14 w') := fun W' hb => (len_nil W').mono fun _ _ ⟨q1, q2⟩ => ⟨q1, by rw [q2]; exact hb⟩
            have C8 : Hid (∀ W', Below w14.heap.size w14 W' → Calls Tryd.prog 19 #[.pointer none] W' fun e w' => e = .returned (.int .i64 0) ∧ Below w14.heap.size w14 w') := fun W' hb => (changes_nil W').mono fun _ _ ⟨q1, q2⟩ => ⟨q1, by rw [q2]; exact hb⟩
            have C9 : Hid (∀ W', Below w14.heap.size w14 W' → Calls Tryd.prog 24 #[.pointer none] W' fun e w' => e = .returned (.slice none 0 0) ∧ Below w14.heap.size w14 w') := fun W' hb => (all_nil W').mono fun _ _ ⟨q1, q2⟩ => ⟨q1, by rw [q2]; exact hb⟩
            have BW : Hid (∀ W', Below w14.heap.size w14 W' → Below W.heap.size W W') := fun W' hb => B2.out.trans ((G14.out.later hb).bel.mono B2.out.size)
            clear V14 V13' G14 E14
            go_upto_region 28 with fail
            go_region_held3 (fun W' => W'.cell? ⟨0, 0, none⟩ = some (.iface 154 (.pointer (some (Ad 2)))))
              (first | exact KK.out _ (by assumption) | exact KK.out _ (Below.refl _ _).drew | exact KK.out _ (Below.refl _ _))
              (first
                | (go_at_call_of 26 (Value.iface t13 q13); refine (C3.out _ (by first | assumption | exact (Below.refl _ _).drew | exact Below.refl _ _)).mono ?_; rintro e w20 ⟨rfl, hb20⟩)
                | (go_at_call_of 26 (Value.iface t14 q14); refine (C4.out _ (by first | assumption | exact (Below.refl _ _).drew | exact Below.refl _ _)).mono ?_; rintro e w21 ⟨rfl, hb21⟩)
                | (go_at_call_of 24 (Value.pointer none); refine (C9.out _ (by assumption)).mono ?_; rintro e w22 ⟨rfl, hb22⟩)
                | (go_at_call 24; refine (C1.out _ (by first | assumption | exact (Below.refl _ _).drew | exact Below.refl _ _)).mono ?_; rintro e w23 ⟨v23, rfl, hv23, hb23⟩)
                | (go_at_call 23; refine (C2.out _ _ (by assumption) (by assumption)).mono ?_; rintro e w24 ⟨rfl, hb24⟩)
                | (go_at_call 16; refine (C5.out _ (by assumption)).mono ?_; rintro e w25 ⟨t25, q25, rfl, hv25, hb25⟩)
                | (go_at_call 26; refine (C6.out _ _ _ (by assumption) (by assumption)).mono ?_; rintro e w26 ⟨rfl, hb26⟩)
                | (go_at_call 22; refine (C7.out _ (by assumption)).mono ?_; rintro e w27 ⟨rfl, hb27⟩)
                | (go_at_call 19; refine (C8.out _ (by assumption)).mono ?_; rintro e w28 ⟨rfl, hb28⟩))
            all_goals
              have BF : Hid (Below W.heap.size W _) := BW.out _ (by assumption)
              clear KK C1 C2 C3 C4 C5 C6 C7 C8 C9 BW
              go_wp2_with fail
              go_ret
              exact ⟨rfl, BF.out⟩
end Go.Proofs.YtbfjijiakkopeaaDoor.Gs
