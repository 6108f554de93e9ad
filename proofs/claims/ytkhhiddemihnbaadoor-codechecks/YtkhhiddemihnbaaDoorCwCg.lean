/- Check. -/
import Derived.Test.YtkhhiddemihnbaaDoorCwCf
namespace Go.Proofs.YtkhhiddemihnbaaDoor.Cw
open Go.RowKit Go.Shelf
theorem one_grown {Ad : Nat → Addr} {W W' : World} {v : Value} {L : Leaves} {r : Option Nat} (h : Sc.One Ad W.heap.size W v L) (hg : W.grownBy W' r) (hnt : ∀ g, r = some g → Sc.NoText W g) : Sc.One Ad W'.heap.size W' v L := by
  cases r with
  | none =>
    have hb : Below W.heap.size W W' := (Below.refl _ _).grown hg (Nat.le_refl _) (fun k hk => by cases hk)
    exact h.move hb hb.size
  | some g => exact h.grown hg (Nat.le_refl _) (hnt g rfl)
theorem noText_later {W W' : World} {g : Nat} (h : Sc.NoText W g) (hb : W'.heap[g]? = W.heap[g]?) : Sc.NoText W' g := fun s hs => h s ((World.cell?_of_block (a := ⟨g, 0, none⟩) hb).symm.trans hs)
/-- How Check stands: the errors so far. -/
structure Ckd (Ad : Nat → Addr) (w : World) (ev : Value) (us : List (Value × Leaves)) (wr : World) : Prop where
  row : wr.ownsRow w.heap.size 42 1 ev us.length (us.map Prod.fst)
  nt : ∀ g, ev.ownBlock = some g → Sc.NoText wr g
  one : ∀ u ∈ us, Sc.One Ad wr.heap.size wr u.1 u.2
  bel : Below w.heap.size w wr
theorem ckd_nil (Ad : Nat → Addr) (w : World) : Ckd Ad w (.slice none 0 0) [] w := ⟨World.ownsRow_nil _ _ _ _, (fun g hg => by simp [Value.ownBlock] at hg), (by simp), Below.refl _ _⟩
theorem Ckd.later {Ad : Nat → Addr} {w wr w1 : World} {ev : Value} {us : List (Value × Leaves)} (h : Ckd Ad w ev us wr) (hb : Below wr.heap.size wr w1) : Ckd Ad w ev us w1 :=
  ⟨Sc.own_more h.row hb, fun g hg => noText_later (h.nt g hg) (hb.block g (h.row.lt g hg).2), fun u hu => (h.one u hu).move hb hb.size, h.bel.trans (hb.mono h.bel.size)⟩
theorem Ckd.app {Ad : Nat → Addr} {w wr w2 : World} {ev : Value} {us vs : List (Value × Leaves)} {ga : Option Addr} {gc : Nat} {y : List Value} (h : Ckd Ad w ev us wr) (h0 : 0 < vs.length) (hv : ∀ u ∈ vs, Sc.One Ad wr.heap.size wr u.1 u.2) {o : Obj}
    (hy : y = us.map Prod.fst ++ vs.map Prod.fst) (ow : w2.ownsRow w.heap.size 42 1 (.slice ga y.length gc) y.length y) (hg : (wr.alloc o).grownBy w2 ev.ownBlock) (hb : Below w.heap.size (wr.alloc o) w2) : Ckd Ad w (.slice ga y.length gc) (us ++ vs) w2 := by
  have b : Below wr.heap.size wr (wr.alloc o) := bAl _ _
  have h1 := h.later b
  have hyl : y.length = (us ++ vs).length := by rw [hy]; simp
  have hym : y = (us ++ vs).map Prod.fst := by rw [hy]; simp
  have hone : ∀ u ∈ us ++ vs, Sc.One Ad w2.heap.size w2 u.1 u.2 := by
    intro u hu
    rcases List.mem_append.1 hu with hu | hu
    · exact one_grown (h1.one u hu) hg h1.nt
    · exact one_grown ((hv u hu).move b b.size) hg h1.nt
  refine ⟨by rw [← hyl, ← hym]; exact ow, ?_, hone, h1.bel.trans hb⟩
  intro x hx s hs
  obtain ⟨g', rfl, hg'⟩ := own_some ow (by rw [hyl]; simp; omega)
  obtain rfl : g' = x := by simpa [Value.ownBlock] using hx
  have hl : 0 < (us ++ vs).length := by simp; omega
  rw [ow.cellAt 0 (by rw [hyl]; omega), hym] at hs
  obtain ⟨u, r, hur⟩ : ∃ u r, us ++ vs = u :: r := List.exists_cons_of_length_pos hl
  rw [hur] at hs
  simp at hs
  exact (hone u (by rw [hur]; simp)).cell.2 s hs
def flat (us : List (Value × Leaves)) : Leaves := (us.map Prod.snd).flatten
theorem flat_app (us vs : List (Value × Leaves)) : flat (us ++ vs) = flat us ++ flat vs := by simp [flat]
theorem app_cell (w : World) (v : Value) : ∀ (j : Nat) u, [v][j]? = some u → (w.alloc (.cells #[v] 42)).cell? ⟨w.heap.size, j, none⟩ = some u := by
  intro j u hu
  match j, hu with
  | 0, hu =>
    simp at hu
    subst hu
    exact new_cellW w v _
  | j + 1, hu => simp at hu
theorem app_cell2 (w : World) (v v2 : Value) : ∀ (j : Nat) u, [v, v2][j]? = some u → (w.alloc (.cells #[v, v2] 42)).cell? ⟨w.heap.size, j, none⟩ = some u := by
  intro j u hu
  rw [cell_of_row _ _ j _ 42 (0, 0) (heap_alloc_new w _)]
  simpa using hu
theorem top_iface {Ad : Nat → Addr} {n₀ : Nat} {W : World} {v : Value} {L : Leaves} (h : Top Ad n₀ W 3 v L) (hL : L ≠ []) : ∃ t q, v = .iface t q := by
  cases h using Top.ways with
  | empty => exact absurd rfl hL
  | one v p h =>
    obtain ⟨t, q, rfl, -⟩ := h.1.shape
    exact ⟨t, q, rfl⟩
  | many b vs h => exact ⟨_, _, rfl⟩
theorem top_nil {Ad : Nat → Addr} {n₀ : Nat} {W : World} {v : Value} (h : Top Ad n₀ W 3 v []) : v = .nilIface := by
  generalize hL : ([] : Leaves) = L at h
  cases h using Top.ways with
  | empty => rfl
  | one v p h => cases hL
  | many b vs h =>
    have := h.two
    have e := congrArg List.length hL
    simp at e
    omega
theorem shape_one {Ad : Nat → Addr} {n₀ : Nat} {W : World} {v : Value} {L : Leaves} (h : Sc.One Ad n₀ W v L) : v.cells = #[v] ∧ v.oneCell' = true := by
  rcases h with ⟨rfl, -⟩ | ⟨p, -, h⟩
  · exact ⟨rfl, rfl⟩
  · obtain ⟨t, q, rfl, -⟩ := h.1.shape
    exact ⟨rfl, rfl⟩
/-- How a loop over the instructions begins. -/
def Start (Ad : Nat → Addr) (w0 : World) (l : List Ins) (ev : Value) (wr : World) : Prop := ∃ us, Ckd Ad w0 ev us wr ∧ us.length ≤ 1 ∧ flat us = longL l
set_option maxHeartbeats 6400000 in
set_option maxRecDepth 100000 in
theorem check_any (Ad : Nat → Addr) (w : World) (va vb v : Value) (cs : List Cmp) (rs : List Rsc) (l : List Ins) (hO : OpsAt w) (hE : Env8 w Ad) (hC : CmpRow w va cs) (hQ : RscRow w vb rs) (hI : InsRow w v l) (hl : cs.length ≤ 1000) (hr : rs.length ≤ 1000) (hll : l.length ≤ 90) :
    Calls Tryd.prog 16 #[.agg #[va, vb], v] w fun e w' => ∃ v' L, e = .returned v' ∧ ChkR cs rs l L ∧ Top Ad w'.heap.size w' 3 v' L ∧ Below w.heap.size w w' := by
  have HI := hid hI
  have HO := hid hO
  have HE := hid hE
  have HC := hid hC
  have HQ := hid hQ
  have HCL := hid hl
  have HRL := hid hr
  obtain ⟨sa, sc, hv, -, -⟩ := hI
  subst hv
  have hli : (l.length : Int) ≤ 90 := by omega
  have B0 : Hid (Below w.heap.size w (w.alloc (.cells #[va, vb] 39))) := bAl _ _
  obtain ⟨x0, x1⟩ : (w.alloc (.cells #[va, vb] 39)).cell? ⟨w.heap.size, 0, none⟩ = some va ∧ (w.alloc (.cells #[va, vb] 39)).cell? ⟨w.heap.size, 1, none⟩ = some vb := ⟨cell_blk (heap_alloc_new w _) rfl, cell_blk (heap_alloc_new w _) rfl⟩
  have X0 := hid x0
  have X1 := hid x1
  clear x0 x1 hO hE hC hQ hl hr
  by_cases h64 : 64 < l.length
  · have h64i : (64 : Int) < (l.length : Int) := by omega
    have LG : Hid (longL l = [([wC], 4)]) := by unfold longL; rw [if_pos h64]; exact rfl
    clear h64
    go_enter Tryd.func16, Tryd.ntmps16
    go_upto_region 1 with fail
    generalize w.alloc (.cells #[va, vb] 39) = w0 at *
    have AT := hid (at_chain Ad wC 0 _ _ w0 (sent_chn Ad w0.heap.size 4 w0 (by decide)))
    unfold wC at AT
    have e4 : w0.cell? ⟨2, 0, none⟩ = some (.iface 163 (.pointer (some (Ad 4)))) := (HE.out.later B0.out).cell 4 (by decide) (by decide)
    go_upto_region 3 with fail
    obtain ⟨na, nl, nc, hnv⟩ : ∃ na nl nc, Value.slice na nl nc = Value.slice none 0 0 := ⟨none, 0, 0, rfl⟩
    rw [← hnv]
    have NV := hid hnv
    clear hnv
    go_wp2_with fail
    refine AT.out.mono ?_
    rintro e w1 ⟨v1, rfl, h1, b1⟩
    have o1 : Sc.One Ad w1.heap.size w1 v1 [([wC], 4)] := .inr ⟨_, rfl, ⟨h1.1, h1.2.1, h1.2.2.1, by simp⟩⟩
    obtain ⟨s1, s1'⟩ := shape_one o1
    unfold Value.cells at s1
    have O1 := hid o1
    have K1 : Hid (Ckd Ad w0 (.slice na nl nc) [] w1) := by rw [NV.out]; exact (ckd_nil Ad w0).later b1
    have OW : Hid ((w1.alloc (.cells #[v1] 42)).ownsRow w0.heap.size 42 1 (.slice na nl nc) ([] : List Value).length []) := by rw [NV.out]; exact World.ownsRow_nil _ _ _ _
    have A1 := hid (app_cell w1 v1)
    have A2 : Hid (∀ z ∈ [v1], z.oneCell' = true) := by intro z hz; simp at hz; rw [hz]; exact s1'
    have hBs : w0.heap.size ≤ (w1.alloc (.cells #[v1] 42)).heap.size := Nat.le_trans b1.size (by simp)
    clear h1 b1 o1 AT s1' e4
    go_wp2_with (at_builtin; refine Sc.wpList_errsG _ rfl (.tmp 16) (.tmp 19) rfl w0.heap.size _ [] rfl OW.out w1.heap.size 1 [v1] rfl A1.out A2.out (by simp) hBs ?_; intro ga gc y w2 hy ow hg bw)
    have ST : Hid (Start Ad w0 l (.slice ga y.length gc) w2) := by
      refine ⟨[] ++ [(v1, [([wC], 4)])], K1.out.app (vs := [(v1, [([wC], 4)])]) (by simp) (by intro u hu; simp at hu; subst hu; exact O1.out) (by rw [hy.out]; rfl) ow.out hg.out bw.out, by simp, ?_⟩
      rw [LG.out]
      rfl
    clear hy ow hg bw OW A1 A2 K1 O1 LG hBs s1 NV
    go_wp2_with fail
    go_loopw [5, 6, 7, 8, 9, 23] (fun ev _ _ _ _ i wr => ∃ k : Nat, k ≤ l.length ∧ i = .int .i64 (k : Int) ∧ ∃ us, Hid (Ckd Ad w0 ev us wr ∧ us.length ≤ 1 + 2 * k ∧ flat us = longL l ++ insT cs rs l k)) (fun _ _ _ _ _ i _ => l.length - (intOf i).toNat)
    case atStart =>
      obtain ⟨us, h1, h2, h3⟩ := ST.out
      exact ⟨0, Nat.zero_le _, rfl, us, h1, by omega, by rw [h3]; simp [insT]⟩
    case round =>
      clear ST
      obtain ⟨k, hk, rfl, us, HK⟩ := hrel
      obtain ⟨ck, hul, hfl⟩ := HK.out
      have CK := hid ck
      have HF := hid hfl
      have HUL : Hid (us.length ≤ 1 + 2 * k) := hul
      obtain ⟨ga, gc, rfl⟩ := own_slice ck.row
      have BW := hid (B0.out.trans (ck.bel.mono B0.out.size))
      clear ck hul hfl HK
      by_cases hlt : k < l.length
      · have hki : (k : Int) < (l.length : Int) := by omega
        obtain ⟨x, hx⟩ := at_lt l k hlt
        obtain ⟨a', c', e', -, hlay⟩ := HI.out
        simp only [Value.slice.injEq, true_and] at e'
        obtain ⟨rfl, rfl⟩ := e'
        rcases hlay with h0 | ⟨bb, oo, rfl, hc⟩
        · rw [h0] at hx
          simp at hx
        obtain ⟨c0, c1, c2⟩ := (hc k x hx).later BW.out
        have NX := hid (insT_next (cs := cs) (rs := rs) hx)
        have BA : Hid (Below wr.heap.size wr (wr.alloc (.cells #[.int .i64 x.1, .int .i64 x.2.1, .int .i64 x.2.2] 59))) := bAl _ _
        have CA := hid (CK.out.later BA.out)
        have BWA := hid (BW.out.trans (BA.out.mono BW.out.size))
        have KN := hid (known_any x.1 (wr.alloc (.cells #[.int .i64 x.1, .int .i64 x.2.1, .int .i64 x.2.2] 59)))
        have CKA := hid (fun W' (h : Below w.heap.size w W') => ckargs_any Ad W' cs rs l.length x va vb (HO.out.later h) (HE.out.later h) (HC.out.later h) (HQ.out.later h) HCL.out HRL.out)
        have y0 := seen BA.out (Nat.le_refl _) (seen CK.out.bel (Nat.le_refl _) X0.out)
        have y1 := seen BA.out (Nat.le_refl _) (seen CK.out.bel (Nat.le_refl _) X1.out)
        have e14 : (wr.alloc (.cells #[.int .i64 x.1, .int .i64 x.2.1, .int .i64 x.2.2] 59)).cell? ⟨3, 0, none⟩ = some (.iface 163 (.pointer (some (Ad 14)))) := (HE.out.later BWA.out).cell 14 (by decide) (by decide)
        have WO := hid (wayat_any Ad (wr.alloc (.cells #[.int .i64 x.1, .int .i64 x.2.1, .int .i64 x.2.2] 59)) wO k (by omega) [14] (by simp))
        have e1L : insL cs rs l.length k x = if known x.1 then at4 k wA (aNs cs rs l.length x) ++ at4 k wB (bNs cs rs l.length x) else at4 k wO [14] := rfl
        rw [e1L] at NX
        have AN := hid (aNs_len cs rs l.length x)
        have BN := hid (bNs_len cs rs l.length x)
        clear hc hx e1L
        generalize aNs cs rs l.length x = na at *
        generalize bNs cs rs l.length x = nb at *
        obtain ⟨op, xa, xb⟩ := x
        unfold iV at CKA
        unfold wO errV at WO
        simp only [] at c0 c1 c2 BA CA BWA KN CKA y0 y1 e14 WO NX
        cases hkn : known op with
        | false =>
          rw [hkn] at KN NX
          clear hkn CKA AN BN
          go_upto_region 7 with fail
          have z0 : (wr.alloc (.cells #[.int .i64 op, .int .i64 xa, .int .i64 xb] 59)).cell? ⟨wr.heap.size, 0, none⟩ = some (.int .i64 op) := cell_blk (heap_alloc_new wr _) rfl
          generalize wr.alloc (.cells #[.int .i64 op, .int .i64 xa, .int .i64 xb] 59) = wq at *
          go_wp2_with fail
          refine KN.out.mono ?_
          rintro e w3 ⟨rfl, rfl⟩
          clear KN
          go_wp2_with fail
          refine WO.out.mono ?_
          rintro e w4 ⟨v4, rfl, o4, b4⟩
          obtain ⟨s4, s4'⟩ := shape_one o4
          unfold Value.cells at s4
          have O4 := hid o4
          have K4 := hid (CA.out.later b4)
          have hum : (us.map Prod.fst).length = us.length := List.length_map _
          have OW : Hid ((w4.alloc (.cells #[v4] 42)).ownsRow w0.heap.size 42 1 (.slice ga us.length gc) (us.map Prod.fst).length (us.map Prod.fst)) := by rw [hum]; exact K4.out.row.alloc _
          have A1 := hid (app_cell w4 v4)
          have A2 : Hid (∀ z ∈ [v4], z.oneCell' = true) := by intro z hz; simp at hz; rw [hz]; exact s4'
          have A3 : Hid ((us.map Prod.fst).length + [v4].length ≤ 5000) := by show _ ≤ _; rw [hum]; have := HUL.out; simp; omega
          have hBs : w0.heap.size ≤ (w4.alloc (.cells #[v4] 42)).heap.size := Nat.le_trans K4.out.bel.size (by simp)
          clear o4 b4 WO s4' e14 hum y0 y1 c0 c1 c2
          go_wp2_with (at_builtin; refine Sc.wpList_errsG _ rfl (.tmp 32) (.tmp 36) rfl w0.heap.size _ (us.map Prod.fst) rfl OW.out w4.heap.size 1 [v4] rfl A1.out A2.out A3.out hBs ?_; intro ga2 gc2 y2 w5 hy2 ow2 hg2 bw2)
          have RN : Hid (∃ us', Ckd Ad w0 (.slice ga2 y2.length gc2) us' w5 ∧ us'.length ≤ 1 + 2 * (k + 1) ∧ flat us' = longL l ++ insT cs rs l (k + 1)) := by
            refine ⟨us ++ [(v4, at4 k wO [14])], K4.out.app (vs := [(v4, at4 k wO [14])]) (by simp) (by intro u hu; simp at hu; subst hu; exact O4.out) (by rw [hy2.out]; rfl) ow2.out hg2.out bw2.out, by have := HUL.out; simp; omega, ?_⟩
            rw [flat_app, HF.out, NX.out, List.append_assoc]
            simp [flat]
          clear hy2 ow2 hg2 bw2 OW A1 A2 A3 K4 O4 hBs s4
          go_wp2_with fail
          go_roundw
          case rel =>
            obtain ⟨us', hus'⟩ := RN.out
            exact ⟨k + 1, by omega, by go_num, us', hus'⟩
          case measure => simp [intOf]; omega
        | true =>
          rw [hkn] at KN NX
          clear hkn WO e14
          go_upto_region 7 with fail
          have z0 : (wr.alloc (.cells #[.int .i64 op, .int .i64 xa, .int .i64 xb] 59)).cell? ⟨wr.heap.size, 0, none⟩ = some (.int .i64 op) := cell_blk (heap_alloc_new wr _) rfl
          have z1 : (wr.alloc (.cells #[.int .i64 op, .int .i64 xa, .int .i64 xb] 59)).cell? ⟨wr.heap.size, 1, none⟩ = some (.int .i64 xa) := cell_blk (heap_alloc_new wr _) rfl
          have z2 : (wr.alloc (.cells #[.int .i64 op, .int .i64 xa, .int .i64 xb] 59)).cell? ⟨wr.heap.size, 2, none⟩ = some (.int .i64 xb) := cell_blk (heap_alloc_new wr _) rfl
          generalize wr.alloc (.cells #[.int .i64 op, .int .i64 xa, .int .i64 xb] 59) = wq at *
          go_wp2_with fail
          refine KN.out.mono ?_
          rintro e w3 ⟨rfl, rfl⟩
          clear KN
          go_wp2_with fail
          refine (CKA.out _ BWA.out).mono ?_
          rintro e w4 ⟨rfl, b4⟩
          have K4 := hid (CA.out.later b4)
          have WA := hid (wayat_any Ad w4 wA k (by omega) na AN.out)
          unfold wA at WA
          clear b4 CKA z0 z1 z2 y0 y1
          go_wp2_with fail
          refine WA.out.mono ?_
          rintro e w5 ⟨v5, rfl, o5, b5⟩
          have K5 := hid (K4.out.later b5)
          have WB := hid (wayat_any Ad w5 wB k (by omega) nb BN.out)
          unfold wB at WB
          have O5 := hid o5
          clear o5 b5 WA
          go_wp2_with fail
          refine WB.out.mono ?_
          rintro e w6 ⟨v6, rfl, o6, b6⟩
          have O5b := hid (O5.out.move b6 b6.size)
          obtain ⟨s5, s5'⟩ := shape_one O5.out
          obtain ⟨s6, s6'⟩ := shape_one o6
          unfold Value.cells at s5 s6
          have O6 := hid o6
          have K6 := hid (K5.out.later b6)
          have hum : (us.map Prod.fst).length = us.length := List.length_map _
          have OW : Hid ((w6.alloc (.cells #[v5, v6] 42)).ownsRow w0.heap.size 42 1 (.slice ga us.length gc) (us.map Prod.fst).length (us.map Prod.fst)) := by rw [hum]; exact K6.out.row.alloc _
          have A1 := hid (app_cell2 w6 v5 v6)
          have A2 : Hid (∀ z ∈ [v5, v6], z.oneCell' = true) := by intro z hz; simp at hz; rcases hz with rfl | rfl <;> assumption
          have A3 : Hid ((us.map Prod.fst).length + [v5, v6].length ≤ 5000) := by show _ ≤ _; rw [hum]; have := HUL.out; simp; omega
          have hBs : w0.heap.size ≤ (w6.alloc (.cells #[v5, v6] 42)).heap.size := Nat.le_trans K6.out.bel.size (by simp)
          clear o6 b6 WB s5' s6' hum
          go_wp2_with (at_builtin; refine Sc.wpList_errsG _ rfl (.tmp 46) (.tmp 53) rfl w0.heap.size _ (us.map Prod.fst) rfl OW.out w6.heap.size 2 [v5, v6] rfl A1.out A2.out A3.out hBs ?_; intro ga2 gc2 y2 w7 hy2 ow2 hg2 bw2)
          have RN : Hid (∃ us', Ckd Ad w0 (.slice ga2 y2.length gc2) us' w7 ∧ us'.length ≤ 1 + 2 * (k + 1) ∧ flat us' = longL l ++ insT cs rs l (k + 1)) := by
            refine ⟨us ++ [(v5, at4 k wA na), (v6, at4 k wB nb)], K6.out.app (vs := [(v5, at4 k wA na), (v6, at4 k wB nb)]) (by simp) (by intro u hu; simp at hu; rcases hu with rfl | rfl; exact O5b.out; exact O6.out) (by rw [hy2.out]; rfl) ow2.out hg2.out bw2.out, by have := HUL.out; simp; omega, ?_⟩
            rw [flat_app, HF.out, NX.out, List.append_assoc]
            simp [flat]
          clear hy2 ow2 hg2 bw2 OW A1 A2 A3 K6 O6 hBs s5 s6
          go_wp2_with fail
          go_roundw
          case rel =>
            obtain ⟨us', hus'⟩ := RN.out
            exact ⟨k + 1, by omega, by go_num, us', hus'⟩
          case measure => simp [intOf]; omega
      · have hki : ¬ ((k : Int) < (l.length : Int)) := by omega
        obtain rfl : k = l.length := by omega
        have AL := hid (all_top Ad 3 (.slice ga us.length gc) us wr (own_errs (B := w0.heap.size) (by rw [List.length_map]; exact CK.out.row)) (fun u hu => (CK.out.one u hu).top) (by have := HUL.out; omega) (by
          show (flat us).length ≤ 1000
          rw [HF.out]
          have h1 := longL_len l
          have h2 := insT_len cs rs l l.length
          simp only [List.length_append]
          omega))
        have R : Hid ((us.map Prod.snd).flatten = errsL cs rs l) := by show flat us = _; rw [HF.out]; exact rfl
        rw [R.out] at AL
        clear R
        go_wp2_with fail
        refine AL.out.mono ?_
        rintro e w9 ⟨v9, rfl, t9, b9⟩
        have B9 := hid (BW.out.trans (b9.mono BW.out.size))
        clear AL b9
        by_cases hnil : errsL cs rs l = []
        · have HN := hid hnil
          rw [hnil] at t9
          obtain rfl := top_nil t9
          have DP := hid (depths_any w9 (HO.out.later B9.out) (.slice sa l.length sc) l (HI.out.later B9.out) (by omega))
          have e12 : w9.cell? ⟨0, 0, none⟩ = some (.iface 163 (.pointer (some (Ad 12)))) := (HE.out.later B9.out).cell 12 (by decide) (by decide)
          clear t9 hnil
          go_wp2_with fail
          refine DP.out.mono ?_
          rintro e w10 ⟨r, q, rfl, hp, b10⟩
          have B10 := hid (B9.out.trans (b10.mono B9.out.size))
          have f12 := seen b10 (Nat.le_refl _) e12
          clear b10 DP e12
          rcases hp with ⟨nw, db, d, rfl, rfl, lb, -, -⟩ | ⟨rfl, rfl, nf⟩
          · have FN : Hid (ChkR cs rs l []) := .inr ⟨HN.out, .inl ⟨lb.fine nw, rfl⟩⟩
            clear lb nw
            go_wp2_with fail
            go_ret
            exact ⟨_, _, rfl, FN.out, .empty, B10.out⟩
          · have FN : Hid (ChkR cs rs l [([wC], 12)]) := .inr ⟨HN.out, .inr ⟨nf, rfl⟩⟩
            have AT := hid (at_chain Ad wC 0 _ _ w10 (sent_chn Ad w10.heap.size 12 w10 (by decide)))
            unfold wC at AT
            clear nf
            go_wp2_with fail
            refine AT.out.mono ?_
            rintro e w11 ⟨v11, rfl, h11, b11⟩
            have T11 : Hid (Top Ad w11.heap.size w11 3 v11 [([wC], 12)]) := .one _ _ ⟨h11.1, h11.2.1, h11.2.2.1, by simp⟩
            have B11 := hid (B10.out.trans (b11.mono B10.out.size))
            clear h11 b11 AT
            go_wp2_with fail
            go_ret
            exact ⟨_, _, rfl, FN.out, T11.out, B11.out⟩
        · have FN : Hid (ChkR cs rs l (errsL cs rs l)) := .inl ⟨hnil, rfl⟩
          obtain ⟨t, q, rfl⟩ := top_iface t9 hnil
          have T9 := hid t9
          clear t9 hnil
          go_wp2_with fail
          go_ret
          exact ⟨_, _, rfl, FN.out, T9.out, B9.out⟩
  · have LG : Hid (longL l = []) := by unfold longL; rw [if_neg h64]; exact rfl
    have h64i : ¬ ((64 : Int) < (l.length : Int)) := by omega
    clear h64
    go_enter Tryd.func16, Tryd.ntmps16
    go_upto_region 1 with fail
    generalize w.alloc (.cells #[va, vb] 39) = w0 at *
    have ST : Hid (Start Ad w0 l (.slice none 0 0) w0) := ⟨[], ckd_nil Ad w0, by simp, by rw [LG.out]; rfl⟩
    clear LG
    go_wp2_with fail
    go_loopw [5, 6, 7, 8, 9, 23] (fun ev _ _ _ _ i wr => ∃ k : Nat, k ≤ l.length ∧ i = .int .i64 (k : Int) ∧ ∃ us, Hid (Ckd Ad w0 ev us wr ∧ us.length ≤ 1 + 2 * k ∧ flat us = longL l ++ insT cs rs l k)) (fun _ _ _ _ _ i _ => l.length - (intOf i).toNat)
    case atStart =>
      obtain ⟨us, h1, h2, h3⟩ := ST.out
      exact ⟨0, Nat.zero_le _, rfl, us, h1, by omega, by rw [h3]; simp [insT]⟩
    case round =>
      clear ST
      obtain ⟨k, hk, rfl, us, HK⟩ := hrel
      obtain ⟨ck, hul, hfl⟩ := HK.out
      have CK := hid ck
      have HF := hid hfl
      have HUL : Hid (us.length ≤ 1 + 2 * k) := hul
      obtain ⟨ga, gc, rfl⟩ := own_slice ck.row
      have BW := hid (B0.out.trans (ck.bel.mono B0.out.size))
      clear ck hul hfl HK
      by_cases hlt : k < l.length
      · have hki : (k : Int) < (l.length : Int) := by omega
        obtain ⟨x, hx⟩ := at_lt l k hlt
        obtain ⟨a', c', e', -, hlay⟩ := HI.out
        simp only [Value.slice.injEq, true_and] at e'
        obtain ⟨rfl, rfl⟩ := e'
        rcases hlay with h0 | ⟨bb, oo, rfl, hc⟩
        · rw [h0] at hx
          simp at hx
        obtain ⟨c0, c1, c2⟩ := (hc k x hx).later BW.out
        have NX := hid (insT_next (cs := cs) (rs := rs) hx)
        have BA : Hid (Below wr.heap.size wr (wr.alloc (.cells #[.int .i64 x.1, .int .i64 x.2.1, .int .i64 x.2.2] 59))) := bAl _ _
        have CA := hid (CK.out.later BA.out)
        have BWA := hid (BW.out.trans (BA.out.mono BW.out.size))
        have KN := hid (known_any x.1 (wr.alloc (.cells #[.int .i64 x.1, .int .i64 x.2.1, .int .i64 x.2.2] 59)))
        have CKA := hid (fun W' (h : Below w.heap.size w W') => ckargs_any Ad W' cs rs l.length x va vb (HO.out.later h) (HE.out.later h) (HC.out.later h) (HQ.out.later h) HCL.out HRL.out)
        have y0 := seen BA.out (Nat.le_refl _) (seen CK.out.bel (Nat.le_refl _) X0.out)
        have y1 := seen BA.out (Nat.le_refl _) (seen CK.out.bel (Nat.le_refl _) X1.out)
        have e14 : (wr.alloc (.cells #[.int .i64 x.1, .int .i64 x.2.1, .int .i64 x.2.2] 59)).cell? ⟨3, 0, none⟩ = some (.iface 163 (.pointer (some (Ad 14)))) := (HE.out.later BWA.out).cell 14 (by decide) (by decide)
        have WO := hid (wayat_any Ad (wr.alloc (.cells #[.int .i64 x.1, .int .i64 x.2.1, .int .i64 x.2.2] 59)) wO k (by omega) [14] (by simp))
        have e1L : insL cs rs l.length k x = if known x.1 then at4 k wA (aNs cs rs l.length x) ++ at4 k wB (bNs cs rs l.length x) else at4 k wO [14] := rfl
        rw [e1L] at NX
        have AN := hid (aNs_len cs rs l.length x)
        have BN := hid (bNs_len cs rs l.length x)
        clear hc hx e1L
        generalize aNs cs rs l.length x = na at *
        generalize bNs cs rs l.length x = nb at *
        obtain ⟨op, xa, xb⟩ := x
        unfold iV at CKA
        unfold wO errV at WO
        simp only [] at c0 c1 c2 BA CA BWA KN CKA y0 y1 e14 WO NX
        cases hkn : known op with
        | false =>
          rw [hkn] at KN NX
          clear hkn CKA AN BN
          go_upto_region 7 with fail
          have z0 : (wr.alloc (.cells #[.int .i64 op, .int .i64 xa, .int .i64 xb] 59)).cell? ⟨wr.heap.size, 0, none⟩ = some (.int .i64 op) := cell_blk (heap_alloc_new wr _) rfl
          generalize wr.alloc (.cells #[.int .i64 op, .int .i64 xa, .int .i64 xb] 59) = wq at *
          go_wp2_with fail
          refine KN.out.mono ?_
          rintro e w3 ⟨rfl, rfl⟩
          clear KN
          go_wp2_with fail
          refine WO.out.mono ?_
          rintro e w4 ⟨v4, rfl, o4, b4⟩
          obtain ⟨s4, s4'⟩ := shape_one o4
          unfold Value.cells at s4
          have O4 := hid o4
          have K4 := hid (CA.out.later b4)
          have hum : (us.map Prod.fst).length = us.length := List.length_map _
          have OW : Hid ((w4.alloc (.cells #[v4] 42)).ownsRow w0.heap.size 42 1 (.slice ga us.length gc) (us.map Prod.fst).length (us.map Prod.fst)) := by rw [hum]; exact K4.out.row.alloc _
          have A1 := hid (app_cell w4 v4)
          have A2 : Hid (∀ z ∈ [v4], z.oneCell' = true) := by intro z hz; simp at hz; rw [hz]; exact s4'
          have A3 : Hid ((us.map Prod.fst).length + [v4].length ≤ 5000) := by show _ ≤ _; rw [hum]; have := HUL.out; simp; omega
          have hBs : w0.heap.size ≤ (w4.alloc (.cells #[v4] 42)).heap.size := Nat.le_trans K4.out.bel.size (by simp)
          clear o4 b4 WO s4' e14 hum y0 y1 c0 c1 c2
          go_wp2_with (at_builtin; refine Sc.wpList_errsG _ rfl (.tmp 32) (.tmp 36) rfl w0.heap.size _ (us.map Prod.fst) rfl OW.out w4.heap.size 1 [v4] rfl A1.out A2.out A3.out hBs ?_; intro ga2 gc2 y2 w5 hy2 ow2 hg2 bw2)
          have RN : Hid (∃ us', Ckd Ad w0 (.slice ga2 y2.length gc2) us' w5 ∧ us'.length ≤ 1 + 2 * (k + 1) ∧ flat us' = longL l ++ insT cs rs l (k + 1)) := by
            refine ⟨us ++ [(v4, at4 k wO [14])], K4.out.app (vs := [(v4, at4 k wO [14])]) (by simp) (by intro u hu; simp at hu; subst hu; exact O4.out) (by rw [hy2.out]; rfl) ow2.out hg2.out bw2.out, by have := HUL.out; simp; omega, ?_⟩
            rw [flat_app, HF.out, NX.out, List.append_assoc]
            simp [flat]
          clear hy2 ow2 hg2 bw2 OW A1 A2 A3 K4 O4 hBs s4
          go_wp2_with fail
          go_roundw
          case rel =>
            obtain ⟨us', hus'⟩ := RN.out
            exact ⟨k + 1, by omega, by go_num, us', hus'⟩
          case measure => simp [intOf]; omega
        | true =>
          rw [hkn] at KN NX
          clear hkn WO e14
          go_upto_region 7 with fail
          have z0 : (wr.alloc (.cells #[.int .i64 op, .int .i64 xa, .int .i64 xb] 59)).cell? ⟨wr.heap.size, 0, none⟩ = some (.int .i64 op) := cell_blk (heap_alloc_new wr _) rfl
          have z1 : (wr.alloc (.cells #[.int .i64 op, .int .i64 xa, .int .i64 xb] 59)).cell? ⟨wr.heap.size, 1, none⟩ = some (.int .i64 xa) := cell_blk (heap_alloc_new wr _) rfl
          have z2 : (wr.alloc (.cells #[.int .i64 op, .int .i64 xa, .int .i64 xb] 59)).cell? ⟨wr.heap.size, 2, none⟩ = some (.int .i64 xb) := cell_blk (heap_alloc_new wr _) rfl
          generalize wr.alloc (.cells #[.int .i64 op, .int .i64 xa, .int .i64 xb] 59) = wq at *
          go_wp2_with fail
          refine KN.out.mono ?_
          rintro e w3 ⟨rfl, rfl⟩
          clear KN
          go_wp2_with fail
          refine (CKA.out _ BWA.out).mono ?_
          rintro e w4 ⟨rfl, b4⟩
          have K4 := hid (CA.out.later b4)
          have WA := hid (wayat_any Ad w4 wA k (by omega) na AN.out)
          unfold wA at WA
          clear b4 CKA z0 z1 z2 y0 y1
          go_wp2_with fail
          refine WA.out.mono ?_
          rintro e w5 ⟨v5, rfl, o5, b5⟩
          have K5 := hid (K4.out.later b5)
          have WB := hid (wayat_any Ad w5 wB k (by omega) nb BN.out)
          unfold wB at WB
          have O5 := hid o5
          clear o5 b5 WA
          go_wp2_with fail
          refine WB.out.mono ?_
          rintro e w6 ⟨v6, rfl, o6, b6⟩
          have O5b := hid (O5.out.move b6 b6.size)
          obtain ⟨s5, s5'⟩ := shape_one O5.out
          obtain ⟨s6, s6'⟩ := shape_one o6
          unfold Value.cells at s5 s6
          have O6 := hid o6
          have K6 := hid (K5.out.later b6)
          have hum : (us.map Prod.fst).length = us.length := List.length_map _
          have OW : Hid ((w6.alloc (.cells #[v5, v6] 42)).ownsRow w0.heap.size 42 1 (.slice ga us.length gc) (us.map Prod.fst).length (us.map Prod.fst)) := by rw [hum]; exact K6.out.row.alloc _
          have A1 := hid (app_cell2 w6 v5 v6)
          have A2 : Hid (∀ z ∈ [v5, v6], z.oneCell' = true) := by intro z hz; simp at hz; rcases hz with rfl | rfl <;> assumption
          have A3 : Hid ((us.map Prod.fst).length + [v5, v6].length ≤ 5000) := by show _ ≤ _; rw [hum]; have := HUL.out; simp; omega
          have hBs : w0.heap.size ≤ (w6.alloc (.cells #[v5, v6] 42)).heap.size := Nat.le_trans K6.out.bel.size (by simp)
          clear o6 b6 WB s5' s6' hum
          go_wp2_with (at_builtin; refine Sc.wpList_errsG _ rfl (.tmp 46) (.tmp 53) rfl w0.heap.size _ (us.map Prod.fst) rfl OW.out w6.heap.size 2 [v5, v6] rfl A1.out A2.out A3.out hBs ?_; intro ga2 gc2 y2 w7 hy2 ow2 hg2 bw2)
          have RN : Hid (∃ us', Ckd Ad w0 (.slice ga2 y2.length gc2) us' w7 ∧ us'.length ≤ 1 + 2 * (k + 1) ∧ flat us' = longL l ++ insT cs rs l (k + 1)) := by
            refine ⟨us ++ [(v5, at4 k wA na), (v6, at4 k wB nb)], K6.out.app (vs := [(v5, at4 k wA na), (v6, at4 k wB nb)]) (by simp) (by intro u hu; simp at hu; rcases hu with rfl | rfl; exact O5b.out; exact O6.out) (by rw [hy2.out]; rfl) ow2.out hg2.out bw2.out, by have := HUL.out; simp; omega, ?_⟩
            rw [flat_app, HF.out, NX.out, List.append_assoc]
            simp [flat]
          clear hy2 ow2 hg2 bw2 OW A1 A2 A3 K6 O6 hBs s5 s6
          go_wp2_with fail
          go_roundw
          case rel =>
            obtain ⟨us', hus'⟩ := RN.out
            exact ⟨k + 1, by omega, by go_num, us', hus'⟩
          case measure => simp [intOf]; omega
      · have hki : ¬ ((k : Int) < (l.length : Int)) := by omega
        obtain rfl : k = l.length := by omega
        have AL := hid (all_top Ad 3 (.slice ga us.length gc) us wr (own_errs (B := w0.heap.size) (by rw [List.length_map]; exact CK.out.row)) (fun u hu => (CK.out.one u hu).top) (by have := HUL.out; omega) (by
          show (flat us).length ≤ 1000
          rw [HF.out]
          have h1 := longL_len l
          have h2 := insT_len cs rs l l.length
          simp only [List.length_append]
          omega))
        have R : Hid ((us.map Prod.snd).flatten = errsL cs rs l) := by show flat us = _; rw [HF.out]; exact rfl
        rw [R.out] at AL
        clear R
        go_wp2_with fail
        refine AL.out.mono ?_
        rintro e w9 ⟨v9, rfl, t9, b9⟩
        have B9 := hid (BW.out.trans (b9.mono BW.out.size))
        clear AL b9
        by_cases hnil : errsL cs rs l = []
        · have HN := hid hnil
          rw [hnil] at t9
          obtain rfl := top_nil t9
          have DP := hid (depths_any w9 (HO.out.later B9.out) (.slice sa l.length sc) l (HI.out.later B9.out) (by omega))
          have e12 : w9.cell? ⟨0, 0, none⟩ = some (.iface 163 (.pointer (some (Ad 12)))) := (HE.out.later B9.out).cell 12 (by decide) (by decide)
          clear t9 hnil
          go_wp2_with fail
          refine DP.out.mono ?_
          rintro e w10 ⟨r, q, rfl, hp, b10⟩
          have B10 := hid (B9.out.trans (b10.mono B9.out.size))
          have f12 := seen b10 (Nat.le_refl _) e12
          clear b10 DP e12
          rcases hp with ⟨nw, db, d, rfl, rfl, lb, -, -⟩ | ⟨rfl, rfl, nf⟩
          · have FN : Hid (ChkR cs rs l []) := .inr ⟨HN.out, .inl ⟨lb.fine nw, rfl⟩⟩
            clear lb nw
            go_wp2_with fail
            go_ret
            exact ⟨_, _, rfl, FN.out, .empty, B10.out⟩
          · have FN : Hid (ChkR cs rs l [([wC], 12)]) := .inr ⟨HN.out, .inr ⟨nf, rfl⟩⟩
            have AT := hid (at_chain Ad wC 0 _ _ w10 (sent_chn Ad w10.heap.size 12 w10 (by decide)))
            unfold wC at AT
            clear nf
            go_wp2_with fail
            refine AT.out.mono ?_
            rintro e w11 ⟨v11, rfl, h11, b11⟩
            have T11 : Hid (Top Ad w11.heap.size w11 3 v11 [([wC], 12)]) := .one _ _ ⟨h11.1, h11.2.1, h11.2.2.1, by simp⟩
            have B11 := hid (B10.out.trans (b11.mono B10.out.size))
            clear h11 b11 AT
            go_wp2_with fail
            go_ret
            exact ⟨_, _, rfl, FN.out, T11.out, B11.out⟩
        · have FN : Hid (ChkR cs rs l (errsL cs rs l)) := .inl ⟨hnil, rfl⟩
          obtain ⟨t, q, rfl⟩ := top_iface t9 hnil
          have T9 := hid t9
          clear t9 hnil
          go_wp2_with fail
          go_ret
          exact ⟨_, _, rfl, FN.out, T9.out, B9.out⟩
end Go.Proofs.YtkhhiddemihnbaaDoor.Cw
