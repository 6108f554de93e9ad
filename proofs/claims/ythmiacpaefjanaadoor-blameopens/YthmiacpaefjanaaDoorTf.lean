/- bunch: the walk. -/
import Derived.Test.YthmiacpaefjanaaDoorTe
namespace Go.Proofs.YthmiacpaefjanaaDoor
open Go.RowKit Go.Shelf
theorem bn_ones {Ad : Nat → Addr} {w w4 : World} {rs : List (Value × List Twg)} {k : Nat} {ev : Value} {g gc : Nat} {us : List (Value × List (List ByteArray × Nat))} (h : Bn Ad w rs k ev g gc us w4) : ∀ u ∈ us.map Prod.fst, u.oneCell' = true := by
  intro u hu
  obtain ⟨x, hx, rfl⟩ := List.mem_map.1 hu
  exact (h.one x hx).cell.1
set_option maxHeartbeats 4000000 in
set_option maxRecDepth 100000 in
theorem bunch_any (Ad : Nat → Addr) (w : World) (v : Value) (rs : List (Value × List Twg)) (o : Int) (hE : Env w Ad) (h : Rows2 w v rs) (hs : SmallR rs) :
    Calls Tryd.prog 10 #[v, .int .i64 o] w fun e w' => ∃ v', e = .returned v' ∧ Top Ad w'.heap.size w' 12 v' (leaves2 rs) ∧ Below w.heap.size w w' := by
  obtain ⟨⟨a, c, rfl, h1⟩, h2⟩ := h
  obtain ⟨u, r, hr, eu, er⟩ := rem4 o
  obtain ⟨p, hp1, hp2, ep⟩ : ∃ p : Nat, 1 ≤ p ∧ p ≤ 4 ∧ 1 + (r : Int) = (p : Int) := ⟨r + 1, by omega, by omega, by push_cast; omega⟩
  have hri : (r : Int) < 4 := by omega
  have H1 := hid h1
  have H2 := hid h2
  have HE := hid hE
  have HS := hid hs
  have hl20 : rs.length ≤ 20 := hs.1
  have hl20i : (rs.length : Int) ≤ 20 := by omega
  have N0 := hid (Bn.empty (Ad := Ad) (w := w) (wr := w) (rs := rs) (k := 0) (ev := .nilIface) (by simp [leaves2]; exact .empty) (Below.refl _ _))
  clear h1 h2 hE hs
  go_enter Tryd.func10, Tryd.ntmps10
  go_wp2_with fail
  clear eu er ep hri hr
  go_loopw [5, 6, 7] (fun e l i wr => ∃ (k g gc : Nat) (us : List (Value × List (List ByteArray × Nat))), k ≤ rs.length ∧ us.length < p ∧ i = .int .i64 (k : Int) ∧ l = .slice (some ⟨g, 0, none⟩) us.length gc ∧ Bn Ad w rs k e g gc us wr) (fun _ _ i _ => rs.length - (intOf i).toNat)
  case atStart => exact ⟨0, _, _, [], Nat.zero_le _, by show 0 < p; omega, rfl, rfl, N0.out⟩
  case round =>
    obtain ⟨k, g, gc, us, hk, hup, rfl, rfl, hbn⟩ := hrel
    have HN := hid hbn
    obtain ⟨⟨B, LE, hB1, hB2, hT, ho, hL⟩, hnt, hone, hkp⟩ := hbn
    obtain ⟨hce, -⟩ := cells_one hT
    unfold Value.cells at hce
    have HT := hid hT
    have HO := hid ho
    have HL := hid hL
    have HNT := hid hnt
    have HON := hid hone
    have HK := hid hkp
    clear hT ho hL hnt hone hkp
    by_cases hlt : k < rs.length
    · have hki : (k : Int) < (rs.length : Int) := by omega
      obtain ⟨x, hx⟩ := at_lt rs k hlt
      have hmem := List.mem_of_getElem? hx
      have TN := hid (leaves2_next (take_next hx))
      obtain ⟨b, o', rfl, hc⟩ : ∃ b o, a = some ⟨b, o, none⟩ ∧ ∀ (j : Nat) r, rs[j]? = some r → w.cell? ⟨b, o + j, none⟩ = some r.1 := by
        rcases H1.out with h | h
        · rw [h] at hlt; simp at hlt
        · exact h
      have c1 := Below.seen HK.out (Nat.le_refl _) (hc k x hx)
      have tw := (H2.out x hmem).later HK.out
      have G := hid (grown_any Ad wr x.1 x.2 (HE.out.later HK.out) tw (HS.out.2 x hmem).1)
      obtain ⟨ta, tc, te, -⟩ := tw
      rw [te] at c1 G
      clear hc hx hmem te
      go_wp2_with fail
      refine G.out.mono ?_
      rintro e w2 ⟨v2, rfl, t2, hb2⟩
      obtain ⟨hc2, ho2⟩ := cells_one t2
      unfold Value.cells at hc2
      have O2 := hid (t2.single (leafOf_len _))
      have B2 := hid hb2
      have BA : Hid (Below wr.heap.size wr (w2.alloc (.cells #[v2] 26))) := hb2.trans (((Below.refl w2.heap.size w2).alloc (Nat.le_refl _) (.cells #[v2] 26)).mono hb2.size)
      have OW := hid (own_below HO.out BA.out)
      have hBs : B ≤ (w2.alloc (.cells #[v2] 26)).heap.size := Nat.le_trans hB2 BA.out.size
      clear t2 hb2 G
      have hul : (us.map Prod.fst).length = us.length := List.length_map _
      have OW' : Hid ((w2.alloc (.cells #[v2] 26)).ownsRow B 26 1 (.slice (some ⟨g, 0, none⟩) us.length gc) (us.map Prod.fst).length (us.map Prod.fst)) := by rw [hul]; exact OW.out
      have A1 := hid (app_cell w2 v2)
      have A2 : Hid (∀ z ∈ [v2], z.oneCell' = true) := by intro z hz; simp at hz; rw [hz]; exact ho2
      have A3 : Hid ((us.map Prod.fst).length + [v2].length ≤ 5000) := by show _ ≤ _; rw [hul]; simp; omega
      clear hul OW ho2
      go_upto_region 8 with (at_builtin; refine wpList_errsG _ rfl (.tmp 20) (.tmp 26) rfl B _ (us.map Prod.fst) rfl OW'.out w2.heap.size 1 [v2] rfl A1.out A2.out A3.out hBs ?_; intro ga gc2 y w4 hy ow hg bw)
      obtain ⟨us2, hus2⟩ : ∃ us2, us2 = us ++ [(v2, leafOf x.2)] := ⟨_, rfl⟩
      obtain ⟨g', rfl, hbn2⟩ := bn_next hB1 hB2 HT.out HO.out HL.out HNT.out HON.out HK.out B2.out O2.out TN.out hy.out ow.out hg.out bw.out
      rw [← hus2] at hbn2
      have N2 := hid hbn2
      have Y2 : Hid (y = us2.map Prod.fst) := by show _ = _; rw [hy.out, hus2]; simp
      have hyl : y.length = us2.length := by rw [Y2.out]; simp
      have hul2 : us2.length = us.length + 1 := by rw [hus2]; simp
      have L1 := hid (bn_lit hbn2)
      have R1 : Hid (∀ (j : Nat) z, y[j]? = some z → (w4.alloc (.cells #[u5] 26)).cell? ⟨g', j, none⟩ = some z) := by rw [Y2.out]; exact bn_row hbn2
      have O1 : Hid (∀ z ∈ y, z.oneCell' = true) := by rw [Y2.out]; exact bn_ones hbn2
      have A4 : Hid ([u5].length + y.length ≤ 5000) := by show _ ≤ _; rw [hyl]; simp; omega
      have A5 : w4.heap.size ≤ (w4.alloc (.cells #[u5] 26)).heap.size := by simp
      have hyi : (y.length : Int) ≤ 4 := by omega
      clear hbn2 hus2 OW' A1 A2 A3 hy ow hg bw O2 B2 BA HN HT HO HL HNT HON TN hBs hc2
      by_cases hq : us2.length = p
      · have q1 : ((y.length : Int) == (p : Int)) = true := by simp; omega
        go_wp2_with (at_builtin; refine wpList_errsG _ rfl (.tmp 33) (.tmp 34) rfl w4.heap.size _ [u5] rfl L1.out g' gc2 y rfl R1.out O1.out A4.out A5 ?_; intro ga3 gc3 y3 w6 hy3 ow3 hg3 bw3)
        refine (bn_all N2.out (by rw [hy3.out, Y2.out]) ow3.out bw3.out (by omega) hl20).mono ?_
        rintro e w7 ⟨v7, rfl, t7, hb7⟩
        have E7 := hid (Bn.empty t7 hb7)
        clear t7 hb7 hy3 ow3 hg3 bw3 L1 R1 O1 N2
        go_wp2_with fail
        go_roundw
        case rel => exact ⟨k + 1, _, _, [], by omega, by show 0 < p; omega, by go_num, rfl, E7.out⟩
        case measure => simp [intOf]; omega
      · have q1 : ((y.length : Int) == (p : Int)) = false := by simp; omega
        go_wp2_with fail
        go_roundw
        case rel => exact ⟨k + 1, g', gc2, us2, by omega, by omega, by go_num, by rw [hyl], N2.out⟩
        case measure => simp [intOf]; omega
    · have hki : ¬ ((k : Int) < (rs.length : Int)) := by omega
      obtain ⟨y, hy⟩ : ∃ y, y = us.map Prod.fst := ⟨_, rfl⟩
      have Y2 := hid hy
      have hyl : us.length = y.length := by rw [hy]; simp
      have L1 := hid (bn_lit HN.out)
      have R1 : Hid (∀ (j : Nat) z, y[j]? = some z → (wr.alloc (.cells #[u5] 26)).cell? ⟨g, j, none⟩ = some z) := by rw [hy]; exact bn_row HN.out
      have O1 : Hid (∀ z ∈ y, z.oneCell' = true) := by rw [hy]; exact bn_ones HN.out
      have A4 : Hid ([u5].length + y.length ≤ 5000) := by show _ ≤ _; rw [← hyl]; simp; omega
      have A5 : wr.heap.size ≤ (wr.alloc (.cells #[u5] 26)).heap.size := by simp
      have hus4 : us.length ≤ 4 := by omega
      have RT : Hid (leaves2 (rs.take k) = leaves2 rs) := by show _ = _; rw [List.take_of_length_le (by omega)]
      rw [hyl]
      clear hy HT HO HL HNT HON hyl
      go_wp2_with (at_builtin; refine wpList_errsG _ rfl (.tmp 39) (.tmp 40) rfl wr.heap.size _ [u5] rfl L1.out g gc y rfl R1.out O1.out A4.out A5 ?_; intro ga3 gc3 y3 w6 hy3 ow3 hg3 bw3)
      refine (bn_all HN.out (by rw [hy3.out, Y2.out]) ow3.out bw3.out hus4 hl20).mono ?_
      rintro e w7 ⟨v7, rfl, t7, hb7⟩
      rw [RT.out] at t7
      have T7 := hid t7
      have B7 := hid hb7
      clear t7 hb7 hy3 ow3 hg3 bw3 L1 R1 O1
      go_wp2_with fail
      go_ret
      exact ⟨_, rfl, T7.out, B7.out⟩
end Go.Proofs.YthmiacpaefjanaaDoor
