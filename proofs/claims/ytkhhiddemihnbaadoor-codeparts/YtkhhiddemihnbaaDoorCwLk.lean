/- CodeParts. -/
import Derived.Test.YtkhhiddemihnbaaDoorCwLj
import Derived.Test.YtkhhiddemihnbaaDoorCwLa
namespace Go.Proofs.YtkhhiddemihnbaaDoor.Cw
open Go.RowKit Go.Shelf
/-- What grows. -/
structure Gro (w1 : World) (l : List Ins) (v : Value) (wr : World) : Prop where
  own : Own w1.heap.size wr v l
  bel : Below w1.heap.size w1 wr
theorem Gro.later {w1 wr w2 : World} {l : List Ins} {v : Value} (h : Gro w1 l v wr) (hb : Below wr.heap.size wr w2) : Gro w1 l v w2 := ⟨h.own.later hb, h.bel.trans (hb.mono h.bel.size)⟩
/-- A box of its own is written. -/
theorem Gro.box {w1 wr : World} {l : List Ins} {v : Value} {g j : Nat} {u : Value} (h : Gro w1 l v wr) (hg : ∀ k, v.ownBlock = some k → k ≠ g) (hB : w1.heap.size ≤ g) : Gro w1 l v (wr.setCell ⟨g, j, none⟩ u) := by
  have s : St (fun k => k = g) wr (wr.setCell ⟨g, j, none⟩ u) := St.setCell _ rfl
  exact ⟨own_kept h.own s fun k hk => hg k hk, h.bel.trans (s.below (fun k hk => by omega) h.bel.size)⟩
/-- What is begun, and how far. -/
def Grown (w1 : World) (l : List Ins) (v : Value) (wr : World) : Prop := Gro w1 l v wr ∧ l.length ≤ 60
theorem jok_all {l : List Ins} (h : ∀ j x, j < l.length → l[j]? = some x → jmp x.1 = true → isPl x.2.1 l.length = true) : Jok l := by
  intro x hx hj
  obtain ⟨j, hj2⟩ := List.getElem?_of_mem hx
  exact h j x (List.getElem?_eq_some_iff.1 hj2).1 hj2 hj
/-- The jumps up to a place lead somewhere. -/
def JokTo (l : List Ins) (k : Nat) : Prop := ∀ j x, j < k → l[j]? = some x → jmp x.1 = true → isPl x.2.1 l.length = true
theorem JokTo.next {l : List Ins} {k : Nat} {x : Ins} (h : JokTo l k) (hx : l[k]? = some x) (hn : jmp x.1 = true → isPl x.2.1 l.length = true) : JokTo l (k + 1) := by
  intro j y hj hy hjy
  by_cases e : j = k
  · subst e
    rw [hx] at hy
    obtain rfl := Option.some.inj hy
    exact hn hjy
  · exact h j y (by omega) hy hjy
/-- The laws' schema lies there. -/
structure PQ (V : World) (pa pb : Value) : Prop where
  c : CmpRow V pa (plainC true)
  q : RscRow V pb plainQ
theorem PQ.later {V V' : World} {pa pb : Value} (h : PQ V pa pb) (b : Below V.heap.size V V') : PQ V' pa pb := ⟨h.c.later b, h.q.later b⟩
theorem plain_pq (V : World) : Calls Tryd.prog 22 #[] V fun e V' => ∃ pa pb, e = .returned (.agg #[pa, pb]) ∧ PQ V' pa pb ∧ Below V.heap.size V V' := by
  refine (plain_any V).mono ?_
  rintro e V' ⟨pa, pb, rfl, h1, h2, h3⟩
  exact ⟨pa, pb, rfl, ⟨h1.row, h2⟩, h3⟩
theorem check_yes (Ad : Nat → Addr) (V : World) (pa pb lv v1 v2 : Value) (l1 l2 : List Ins) (hv : lv = v1 ∨ lv = v2) (hO : OpsAt V) (hE : Env8 V Ad) (hp : PQ V pa pb) (h1 : InsRow V v1 l1) (h2 : InsRow V v2 l2) (hl1 : l1.length ≤ 90) (hl2 : l2.length ≤ 90) (hA1 : Acc (plainC true) plainQ l1) (hA2 : Acc (plainC true) plainQ l2) :
    Calls Tryd.prog 16 #[.agg #[pa, pb], lv] V fun e V' => e = .returned .nilIface ∧ Below V.heap.size V V' := by
  rcases hv with rfl | rfl
  · exact accept_yes Ad V pa pb lv _ _ l1 hA1 hO hE hp.c hp.q h1 (by decide) (by decide) hl1
  · exact accept_yes Ad V pa pb lv _ _ l2 hA2 hO hE hp.c hp.q h2 (by decide) (by decide) hl2
theorem check_no (Ad : Nat → Addr) (V : World) (pa pb lv v1 v2 : Value) (l1 l2 : List Ins) (hv : lv = v1 ∨ lv = v2) (hO : OpsAt V) (hE : Env8 V Ad) (hp : PQ V pa pb) (h1 : InsRow V v1 l1) (h2 : InsRow V v2 l2) (hl1 : l1.length ≤ 90) (hl2 : l2.length ≤ 90) (hA1 : ¬ Acc (plainC true) plainQ l1) (hA2 : ¬ Acc (plainC true) plainQ l2) :
    Calls Tryd.prog 16 #[.agg #[pa, pb], lv] V fun e V' => ∃ t q, e = .returned (.iface t q) ∧ Below V.heap.size V V' := by
  rcases hv with rfl | rfl
  · exact accept_no Ad V pa pb lv _ _ l1 hA1 hO hE hp.c hp.q h1 (by decide) (by decide) hl1
  · exact accept_no Ad V pa pb lv _ _ l2 hA2 hO hE hp.c hp.q h2 (by decide) (by decide) hl2
set_option maxHeartbeats 12800000 in
set_option maxRecDepth 100000 in
theorem parts_law (W : World) (Ad : Nat → Addr) (hO : OpsAt W) (hE : Env8 W Ad) (v : Value) (l : List Ins) (hI : InsRow W v l) (a1 : Int) : Calls Tryd.prog 8 #[v, .int .i64 a1] W fun e W' => e = .returned (.bool true) ∧ Below W.heap.size W W' := by
  have HO := hid hO
  have HE := hid hE
  have HI := hid hI
  have AW := hid (awake_any W Ad hO hE)
  obtain ⟨sa, sc, rfl, hJ, -⟩ := hI
  have HJ := hid hJ
  clear hO hE hJ
  by_cases h30 : (30 : Int) < (l.length : Int)
  · go_enter Tryd.func8, Tryd.ntmps8
    go_wp2_with fail
    refine AW.out.mono ?_
    rintro e w1 ⟨rfl, b1⟩
    have B1 := hid b1
    clear b1 AW
    go_wp2_with fail
    go_ret
    exact ⟨rfl, B1.out⟩
  · have hl30 : l.length ≤ 30 := by omega
    obtain ⟨n, hn, en⟩ := mod21 a1
    have hni : (n : Int) < 21 := by omega
    go_enter Tryd.func8, Tryd.ntmps8
    go_wp2_with fail
    refine AW.out.mono ?_
    rintro e w1 ⟨rfl, b1⟩
    have B1 := hid b1
    have G1 : Hid (Gro w1 [] (.slice (some ⟨w1.heap.size, 0, none⟩) 0 0) (w1.alloc (.cells #[] 59))) := ⟨own_empty w1 (Nat.le_refl _), bAl w1 _⟩
    clear b1 AW
    go_upto_region 7 with fail
    rw [en]
    clear en
    generalize w1.alloc (.cells #[] 59) = w2 at *
    obtain ⟨nv, hnv⟩ : ∃ nv, nv = Value.slice (some ⟨w1.heap.size, 0, none⟩) 0 0 := ⟨_, rfl⟩
    rw [← hnv] at G1
    rw [← hnv]
    clear hnv
    go_wp2_with fail
    go_loopw [6, 7] (fun mv i wr => ∃ k : Nat, k ≤ n ∧ i = .int .i64 (k : Int) ∧ Hid (Gro w1 (List.replicate k (0, 0, 0)) mv wr)) (fun _ i _ => n - (intOf i).toNat)
    case atStart => exact ⟨0, Nat.zero_le _, rfl, G1⟩
    case round =>
      obtain ⟨k, hk, rfl, HG⟩ := hrel
      obtain ⟨row, HR⟩ : ∃ row, Hid (row = List.replicate k ((0 : Int), (0 : Int), (0 : Int))) := ⟨_, rfl⟩
      rw [← HR.out] at HG
      obtain ⟨ga, gc, rfl⟩ := own_slice HG.out.own
      by_cases hlt : k < n
      · have hki : (k : Int) < (n : Int) := by omega
        have hB : w1.heap.size ≤ wr.heap.size := HG.out.bel.size
        have hlr : row.length ≤ 1000 := by rw [HR.out]; simp; omega
        go_wp2_with (at_builtin; refine wpList_ins (y := (0, 0, 0)) rfl (.tmp 25) (.tmp 27) rfl HG.out.own hlr hB rfl rfl ?_; intro g cap w3 hw3)
        have NG : Hid (Gro w1 (List.replicate (k + 1) (0, 0, 0)) (.slice (some ⟨g, 0, none⟩) (row.length + 1) cap) w3) := by
          refine ⟨?_, HG.out.bel.trans hw3.out.2⟩
          have e : List.replicate (k + 1) ((0 : Int), (0 : Int), (0 : Int)) = row ++ [(0, 0, 0)] := by rw [HR.out]; exact List.replicate_succ'
          rw [e]
          exact hw3.out.1
        clear hw3
        go_wp2_with fail
        go_roundw
        case rel => exact ⟨k + 1, by omega, by go_num, NG⟩
        case measure => simp [intOf]; omega
      · have hki : ¬ ((k : Int) < (n : Int)) := by omega
        obtain rfl : k = n := by omega
        have G2 : Hid (Gro w1 (List.replicate k (0, 0, 0) ++ (l.take 0).map (shift k)) (.slice ga row.length gc) wr) := by
          have h := HG.out
          rw [HR.out] at h
          show Gro _ _ _ _
          rw [HR.out]
          simpa using h
        clear HG
        generalize Value.slice ga row.length gc = mv at *
        go_wp2_with fail
        go_loopw [6, 8, 9] (fun mv i _ wr => ∃ j : Nat, j ≤ l.length ∧ i = .int .i64 (j : Int) ∧ Hid (Gro w1 (List.replicate k (0, 0, 0) ++ (l.take j).map (shift k)) mv wr ∧ JokTo l j)) (fun _ i _ _ => l.length - (intOf i).toNat)
        case atStart => exact ⟨0, Nat.zero_le _, rfl, hid ⟨G2.out, fun j x hj => absurd hj (by omega)⟩⟩
        case round =>
          clear G2
          obtain ⟨j, hj, rfl, HG⟩ := hrel
          obtain ⟨row, HR⟩ : ∃ row, Hid (row = List.replicate k ((0 : Int), (0 : Int), (0 : Int)) ++ (l.take j).map (shift k)) := ⟨_, hid (Eq.refl _)⟩
          rw [← HR.out] at HG
          obtain ⟨ga2, gc2, rfl⟩ := own_slice HG.out.1.own
          have hlr : row.length ≤ 60 := by rw [HR.out]; simp; omega
          have hB : w1.heap.size ≤ wr.heap.size := HG.out.1.bel.size
          have BW := hid (B1.out.trans (HG.out.1.bel.mono B1.out.size))
          by_cases hlt : j < l.length
          · have hji : (j : Int) < (l.length : Int) := by omega
            have hli30 : (l.length : Int) ≤ 30 := by omega
            obtain ⟨x, hx⟩ := at_lt l j hlt
            obtain ⟨a', c', e', -, hlay⟩ := HI.out
            simp only [Value.slice.injEq, true_and] at e'
            obtain ⟨rfl, rfl⟩ := e'
            rcases hlay with h0 | ⟨bb, oo, rfl, hc⟩
            · rw [h0] at hx
              simp at hx
            obtain ⟨x0, x1, x2⟩ := (hc j x hx).later BW.out
            have HX := hid hx
            have NX := hid (shift_next (n := k) hx)
            rw [← HR.out] at NX
            have JN := hid (fun hn => HG.out.2.next hx hn)
            have ES : Hid (shift k x = if jmp x.1 then (x.1, x.2.1 + (k : Int), x.2.2) else x) := rfl
            have EJ : Hid (jmp x.1 = (x.1 == 20 || x.1 == 21)) := rfl
            have EP : Hid (isPl x.2.1 l.length = (decide (0 ≤ x.2.1) && decide (x.2.1 ≤ (l.length : Int)))) := rfl
            clear hc hx
            obtain ⟨op, xa, xb⟩ := x
            simp only [] at x0 x1 x2 JN ES EJ EP
            have BA : Hid (Below wr.heap.size wr (wr.alloc (.cells #[.int .i64 op, .int .i64 xa, .int .i64 xb] 59))) := bAl _ _
            have GQ := hid (HG.out.1.later BA.out)
            have z0 : (wr.alloc (.cells #[.int .i64 op, .int .i64 xa, .int .i64 xb] 59)).cell? ⟨wr.heap.size, 0, none⟩ = some (.int .i64 op) := cell_blk (heap_alloc_new wr _) rfl
            have z1 : (wr.alloc (.cells #[.int .i64 op, .int .i64 xa, .int .i64 xb] 59)).cell? ⟨wr.heap.size, 1, none⟩ = some (.int .i64 xa) := cell_blk (heap_alloc_new wr _) rfl
            have z2 : (wr.alloc (.cells #[.int .i64 op, .int .i64 xa, .int .i64 xb] 59)).cell? ⟨wr.heap.size, 2, none⟩ = some (.int .i64 xb) := cell_blk (heap_alloc_new wr _) rfl
            have f1 : (wr.alloc (.cells #[.int .i64 op, .int .i64 xa, .int .i64 xb] 59)).frozen? ⟨wr.heap.size, 1, none⟩ = false := blk_free (heap_alloc_new wr _) 1
            have RB : Hid ((wr.alloc (.cells #[.int .i64 op, .int .i64 xa, .int .i64 xb] 59)).heap[wr.heap.size]? = some (.cells #[.int .i64 op, .int .i64 xa, .int .i64 xb] 59 (0, 0))) := heap_alloc_new wr _
            have NB : Hid (∀ q, (Value.slice ga2 row.length gc2).ownBlock = some q → q ≠ wr.heap.size) := fun q hq => by
              have := (World.ownsRow.lt HG.out.1.own q hq).2
              omega
            have BB : Hid (Below W.heap.size W (wr.alloc (.cells #[.int .i64 op, .int .i64 xa, .int .i64 xb] 59))) := BW.out.trans (BA.out.mono BW.out.size)
            go_upto_region 15 with fail
            generalize wr.alloc (.cells #[.int .i64 op, .int .i64 xa, .int .i64 xb] 59) = wq at *
            generalize wr.heap.size = bx at *
            clear x0 x1 x2
            cases hjm : jmp op with
            | false =>
              rw [hjm] at ES EJ
              have h20 : (op == 20) = false := by
                have := EJ.out
                cases h : op == 20 with
                | false => rfl
                | true => rw [h] at this; simp at this
              have h21 : (op == 21) = false := by
                have := EJ.out
                rw [h20] at this
                simpa using this.symm
              have JJ := hid (JN.out (fun h => by rw [hjm] at h; cases h))
              have es : shift k (op, xa, xb) = (op, xa, xb) := ES.out
              rw [es] at NX
              have hB2 : w1.heap.size ≤ wq.heap.size := GQ.out.bel.size
              have hl2 : row.length ≤ 1000 := by omega
              clear ES EJ JN EP hjm es
              go_wp2_with (at_builtin; refine wpList_ins (y := (op, xa, xb)) rfl (.tmp 62) (.tmp 64) rfl GQ.out.own hl2 hB2 rfl rfl ?_; intro g cap w3 hw3)
              have NG : Hid (Gro w1 (List.replicate k (0, 0, 0) ++ (l.take (j + 1)).map (shift k)) (.slice (some ⟨g, 0, none⟩) (row.length + 1) cap) w3 ∧ JokTo l (j + 1)) := by
                refine ⟨⟨?_, GQ.out.bel.trans hw3.out.2⟩, JJ.out⟩
                rw [← NX.out]
                exact hw3.out.1
              clear hw3
              go_wp2_with fail
              go_roundw
              case rel => exact ⟨j + 1, by omega, by go_num, NG⟩
              case measure => simp [intOf]; omega
            | true =>
              rw [hjm] at ES
              have es : shift k (op, xa, xb) = (op, xa + (k : Int), xb) := ES.out
              rw [es] at NX
              have hor : (op = 20 ∨ op = 21) := by
                have := EJ.out.symm.trans hjm
                simpa using this
              clear ES EJ es
              by_cases ha0 : xa < 0
              · rcases hor with rfl | rfl
                all_goals
                  go_wp2_with fail
                  go_ret
                  exact ⟨rfl, BB.out⟩
              · by_cases hal : (l.length : Int) < xa
                · rcases hor with rfl | rfl
                  all_goals
                    go_wp2_with fail
                    go_ret
                    exact ⟨rfl, BB.out⟩
                · have JJ := hid (JN.out (fun _ => by rw [EP.out]; simp; omega))
                  have hxa : 0 ≤ xa := by omega
                  have hxl : xa ≤ (l.length : Int) := by omega
                  have hxs : xa + (k : Int) ≤ 60 := by omega
                  have GS : Hid (Gro w1 row (.slice ga2 row.length gc2) (wq.setCell ⟨bx, 1, none⟩ (.int .i64 (xa + (k : Int))))) := GQ.out.box NB.out hB
                  clear JN EP
                  rcases hor with rfl | rfl
                  all_goals
                    go_upto_region 19 with fail
                    have rr := heap_setCell_same wq bx 1 _ _ (.int .i64 (xa + (k : Int))) RB.out
                    generalize wq.setCell ⟨bx, 1, none⟩ (.int .i64 (xa + (k : Int))) = wq2 at *
                    have y0 : wq2.cell? ⟨bx, 0, none⟩ = _ := cell_blk rr rfl
                    have y1 : wq2.cell? ⟨bx, 1, none⟩ = some (.int .i64 (xa + (k : Int))) := cell_blk rr rfl
                    have y2 : wq2.cell? ⟨bx, 2, none⟩ = some (.int .i64 xb) := cell_blk rr rfl
                    clear rr z0 z1 z2 f1
                    have hB2 : w1.heap.size ≤ wq2.heap.size := GS.out.bel.size
                    have hl2 : row.length ≤ 1000 := by omega
                    generalize xa + (k : Int) = xs at *
                    go_wp2_with (at_builtin; refine wpList_ins (y := (_, xs, xb)) rfl (.tmp 62) (.tmp 64) rfl GS.out.own hl2 hB2 rfl rfl ?_; intro g cap w3 hw3)
                    have NG : Hid (Gro w1 (List.replicate k (0, 0, 0) ++ (l.take (j + 1)).map (shift k)) (.slice (some ⟨g, 0, none⟩) (row.length + 1) cap) w3 ∧ JokTo l (j + 1)) := by
                      refine ⟨⟨?_, GS.out.bel.trans hw3.out.2⟩, JJ.out⟩
                      rw [← NX.out]
                      exact hw3.out.1
                    clear hw3
                    go_wp2_with fail
                    go_roundw
                    case rel => exact ⟨j + 1, by omega, by go_num, NG⟩
                    case measure => simp [intOf]; omega
          · have hji : ¬ ((j : Int) < (l.length : Int)) := by omega
            obtain rfl : j = l.length := by omega
            have JK : Hid (Jok l) := jok_all HG.out.2
            have ER : Hid (row ++ [(35, 0, 0)] = more k l) := by
              show _ = _
              rw [HR.out, List.take_of_length_le (Nat.le_refl _), more_take]
            have hl2 : row.length ≤ 1000 := by omega
            go_wp2_with (at_builtin; refine wpList_ins (y := (35, 0, 0)) rfl (.tmp 66) (.tmp 68) rfl HG.out.1.own hl2 hB rfl rfl ?_; intro g cap w3 hw3)
            have MR : Hid (InsRow w3 (.slice (some ⟨g, 0, none⟩) (row.length + 1) cap) (more k l)) := by
              have h := hw3.out.1
              rw [ER.out] at h
              exact h.row (more_j64 JK.out hl30 (by omega) HJ.out)
            have B3 : Hid (Below W.heap.size W w3) := BW.out.trans (hw3.out.2.mono B1.out.size)
            have ML : Hid ((more k l).length ≤ 90) := by show _ ≤ _; rw [more_len]; omega
            have AM := hid (acc_more (cs := plainC true) (rs := plainQ) JK.out hl30 (n := k) (by omega))
            clear hw3 HG HR ER JK
            generalize Value.slice (some ⟨g, 0, none⟩) (row.length + 1) cap = mv2 at *
            have cum0 : Below w3.heap.size w3 w3.drew := ⟨rfl, rfl, rfl, Nat.le_refl _, fun _ _ => rfl⟩
            by_cases hA : Acc (plainC true) plainQ l
            · have hM := AM.out.1 hA
              have CK := hid (fun V pa pb lv (hv : lv = .slice sa l.length sc ∨ lv = mv2) (hb : Below w3.heap.size w3 V) (hp : PQ V pa pb) => check_yes Ad V pa pb lv (.slice sa l.length sc) mv2 l (more k l) hv (HO.out.later (B3.out.trans (hb.mono B3.out.size))) (HE.out.later (B3.out.trans (hb.mono B3.out.size))) hp (HI.out.later (B3.out.trans (hb.mono B3.out.size))) (MR.out.later hb) (by omega) ML.out hA hM)
              clear hA hM AM HO HE HI HJ MR ML B1 BW
              go_wp2_with fail
              go_region_with (first
                | (go_at_call 22; refine (plain_pq _).mono ?_; rintro e wp ⟨pa, pb, rfl, pq, pbel⟩; have cum := cum_next (W := w3) (by assumption) pbel)
                | (go_at_call 16; refine (CK.out _ _ _ _ (by first | exact .inl rfl | exact .inr rfl) (by assumption) (by first | assumption | exact PQ.later (by assumption) (by assumption) | exact PQ.later (PQ.later (by assumption) (by assumption)) (by assumption))).mono ?_; rintro e wc ⟨rfl, cbel⟩; have cum := cum_next (W := w3) (by assumption) cbel))
              all_goals
                go_wp2_with fail
                go_ret
                exact ⟨rfl, B3.out.trans ((by assumption : Below w3.heap.size w3 _).mono B3.out.size)⟩
            · have hM : ¬ Acc (plainC true) plainQ (more k l) := fun h => hA (AM.out.2 h)
              have CK := hid (fun V pa pb lv (hv : lv = .slice sa l.length sc ∨ lv = mv2) (hb : Below w3.heap.size w3 V) (hp : PQ V pa pb) => check_no Ad V pa pb lv (.slice sa l.length sc) mv2 l (more k l) hv (HO.out.later (B3.out.trans (hb.mono B3.out.size))) (HE.out.later (B3.out.trans (hb.mono B3.out.size))) hp (HI.out.later (B3.out.trans (hb.mono B3.out.size))) (MR.out.later hb) (by omega) ML.out hA hM)
              clear hA hM AM HO HE HI HJ MR ML B1 BW
              go_wp2_with fail
              go_region_with (first
                | (go_at_call 22; refine (plain_pq _).mono ?_; rintro e wp ⟨pa, pb, rfl, pq, pbel⟩; have cum := cum_next (W := w3) (by assumption) pbel)
                | (go_at_call 16; refine (CK.out _ _ _ _ (by first | exact .inl rfl | exact .inr rfl) (by assumption) (by first | assumption | exact PQ.later (by assumption) (by assumption) | exact PQ.later (PQ.later (by assumption) (by assumption)) (by assumption))).mono ?_; rintro e wc ⟨t, q, rfl, cbel⟩; have cum := cum_next (W := w3) (by assumption) cbel))
              all_goals
                go_wp2_with fail
                go_ret
                exact ⟨rfl, B3.out.trans ((by assumption : Below w3.heap.size w3 _).mono B3.out.size)⟩
end Go.Proofs.YtkhhiddemihnbaaDoor.Cw
