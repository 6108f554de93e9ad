/- ColumnUndoes: the walk. -/
import Derived.Test.YtpglanlpnapddaaDoorDf
import Derived.Deep.DeepCutAuto
import Derived.Deep.CutRange
import Derived.Deep.LoopGhost
import Derived.Deep.CutBlock
import Derived.BigQuiet
namespace Go.Proofs.YtpglanlpnapddaaDoor
open Go.RowKit Go.Shelf Go.Maps
theorem put_form (p : Pt) (j : Nat) (hj : j < 3) (x f : Int) : ∃ qa qb qc qd, p.put j x f = ⟨qa, qb, qc, qd, f⟩ ∧ ∀ (W : World) (b : Nat) (cm : Int), W.heap[b]? = some (.cells ((⟨qa, qb, qc, qd, f⟩ : Pt).arr cm) 34 (0, 0)) → W.cell? ⟨b, 1 + j, none⟩ = some (.int .i64 x) := by
  match j, hj with
  | 0, _ => exact ⟨x, p.b, p.c, p.d, rfl, fun W b cm h => cell_blk h rfl⟩
  | 1, _ => exact ⟨p.a, x, p.c, p.d, rfl, fun W b cm h => cell_blk h rfl⟩
  | 2, _ => exact ⟨p.a, p.b, x, p.d, rfl, fun W b cm h => cell_blk h rfl⟩
theorem set_back {l : List Pt} {m : Nat} {p q : Pt} (h : l[m]? = some p) : (l.set m q).set m p = l := by
  obtain ⟨h1, rfl⟩ := List.getElem?_eq_some_iff.1 h
  rw [List.set_set, List.set_getElem_self]
set_option maxHeartbeats 6400000 in
set_option maxRecDepth 100000 in
theorem undoes_law (w : World) (Ad : Nat → Addr) (hE : Env3 w Ad) (v : Value) (ps : List PI) (hR : PRow w v ps) (at' cell value : Int) :
    Calls Tryd.prog 5 #[v, .int .i64 at', .int .i64 cell, .int .i64 value] w fun e w' => e = .returned (.bool true) ∧ Below w.heap.size w w' := by
  have HE := hid hE
  have HT := hid hR
  obtain ⟨a, c, rfl, -, -⟩ := hR
  have AW := hid (awake_any w Ad hE)
  clear hE
  by_cases h60 : 60 < ps.length
  · have h60i : (60 : Int) < (ps.length : Int) := by omega
    go_enter Tryd.func5, Tryd.ntmps5
    go_wp2_with fail
    refine AW.out.mono ?_
    rintro e w1 ⟨rfl, b1⟩
    have B1 := hid b1
    have NC := hid (col_new w1 7 3 (by decide) (by decide) (by decide) (by decide))
    clear AW b1
    go_wp2_with fail
    refine NC.out.mono ?_
    rintro e w2 ⟨rb, S, rfl, -, b2⟩
    have B2 := hid (B1.out.trans (b2.mono B1.out.size))
    clear NC b2
    go_wp2_with fail
    go_ret
    exact ⟨rfl, B2.out⟩
  · have h60i : ¬ ((60 : Int) < (ps.length : Int)) := by omega
    have hpi : (ps.length : Int) ≤ 60 := by omega
    go_enter Tryd.func5, Tryd.ntmps5
    go_wp2_with fail
    refine AW.out.mono ?_
    rintro e w1 ⟨rfl, b1⟩
    have B1 := hid b1
    have NC := hid (col_new w1 7 3 (by decide) (by decide) (by decide) (by decide))
    clear AW b1
    go_wp2_with fail
    refine NC.out.mono ?_
    rintro e w2 ⟨rb, S, rfl, h2, b2⟩
    have b12 := B1.out.trans (b2.mono B1.out.size)
    have U2 : Hid (Und w1.heap.size w rb (.slice (some ⟨w2.heap.size, 0, none⟩) 0 0) [] [] S (w2.alloc (.cells #[] 34))) :=
      ⟨h2.later (bAl _ _), World.ownsRow_lit w2 #[] 0 b12.size (Nat.zero_le _) rfl, b12.trans ((bAl _ _).mono b12.size), B1.out.size⟩
    clear NC b2 h2 b12 h60i
    go_wp2_with fail
    go_loopg [11, 12, 13, 14, 15] ps.length (fun gh kv i _ _ _ wr => ∃ k : Nat, k ≤ ps.length ∧ gh = ps.length - k ∧ i = .int .i64 (k : Int) ∧ ∃ (S : Nat → Prop) (l : List Pt), Hid (l.length = k) ∧ Hid (Und w1.heap.size w rb kv l l S wr))
    case atStart => exact ⟨0, Nat.zero_le _, rfl, rfl, S, [], rfl, U2.out⟩
    case round =>
      obtain ⟨k, hk, rfl, rfl, S, l, HLL, HU⟩ := hrel
      clear U2
      by_cases hlt : k < ps.length
      · have hki : (k : Int) < (ps.length : Int) := by omega
        obtain ⟨x, hx⟩ := at_lt ps k hlt
        obtain ⟨b, o, rfl, hcl, hwf⟩ : ∃ b o, a = some ⟨b, o, none⟩ ∧ Six wr b (o + k * 6) x.cm x.p ∧ x.wf := by
          obtain ⟨a', c', hv, hw, hl⟩ := HT.out
          obtain ⟨rfl, rfl⟩ : a = a' ∧ c = c' := by simpa using hv
          rcases hl with h | ⟨b, o, h4, h5⟩
          · rw [h] at hlt; simp at hlt
          · exact ⟨b, o, h4, (h5 k x hx).later HU.out.bel, hw x (List.mem_of_getElem? hx)⟩
        obtain ⟨q0, q1, q2, q3, q4, q5⟩ := hcl
        have HX := hid hwf
        obtain ⟨cm, pa, pb, pc, pd, pt⟩ := x
        simp only at q0 q1 q2 q3 q4 q5
        have UA := hid (HU.out.later (bAl wr (.cells #[.int .i64 7, .int .i64 pa, .int .i64 pb, .int .i64 pc, .int .i64 0, .int .i64 pt] 34)))
        have HA := hid (heap_alloc_new wr (.cells #[.int .i64 7, .int .i64 pa, .int .i64 pb, .int .i64 pc, .int .i64 0, .int .i64 pt] 34))
        have PU : Hid (Calls Tryd.prog 11 #[.pointer (some ⟨rb, 0, none⟩), .agg #[.int .i64 7, .int .i64 pa, .int .i64 pb, .int .i64 pc, .int .i64 0, .int .i64 pt]] (wr.alloc (.cells #[.int .i64 7, .int .i64 pa, .int .i64 pb, .int .i64 pc, .int .i64 0, .int .i64 pt] 34)) fun e W' => e = .returned (.tuple #[.int .i64 (l.length : Int), .nilIface]) ∧ ∃ S', Col w1.heap.size W' rb ⟨7, 3, l ++ [⟨pa, pb, pc, 0, pt⟩]⟩ S' ∧ St S (wr.alloc (.cells #[.int .i64 7, .int .i64 pa, .int .i64 pb, .int .i64 pc, .int .i64 0, .int .i64 pt] 34)) W' ∧ ∀ x, S' x → S x ∨ (wr.alloc (.cells #[.int .i64 7, .int .i64 pa, .int .i64 pb, .int .i64 pc, .int .i64 0, .int .i64 pt] 34)).heap.size ≤ x) := col_push UA.out.col ⟨pa, pb, pc, 0, pt⟩ rfl HX.out (by have := HLL.out; show l.length < 1000; omega)
        clear hx hwf
        go_wp2_with fail
        refine PU.out.mono ?_
        rintro e w3 ⟨rfl, S3, h3, s3, -⟩
        have U3 := hid (UA.out.turn s3 h3)
        have A3 := hid (s3.at HA.out (UA.out.col.noPart HA.out))
        obtain ⟨d0, d1, d2, d3, d4, d5, -, -, -, -, -, -⟩ := lies (p := ⟨pa, pb, pc, 0, pt⟩) A3.out
        simp only at d1 d2 d3 d4 d5
        have hll : l.length ≤ 1000 := by have := HLL.out; omega
        have hw3 : w.heap.size ≤ w3.heap.size := U3.out.bel.size
        obtain ⟨ka, kc, rfl⟩ := HU.out.kept.slice
        clear PU h3 s3 q0 q1 q2 q3 q4 q5
        go_wp2_with (at_builtin; refine wpList_part (p := ⟨pa, pb, pc, 0, pt⟩) rfl _ _ rfl U3.out.kept hll hw3 rfl rfl ?_; intro v' w4 ho hst)
        go_roundg (ps.length - (k + 1))
        case measure => omega
        case rel => exact ⟨k + 1, by omega, rfl, by go_num, S3, l ++ [(⟨pa, pb, pc, 0, pt⟩ : Pt)], by show (l ++ [(⟨pa, pb, pc, 0, pt⟩ : Pt)]).length = k + 1; rw [List.length_append, HLL.out]; rfl, U3.out.keep hst.out ho.out⟩
      · obtain rfl : k = ps.length := by omega
        have hki : ¬ ((ps.length : Int) < (ps.length : Int)) := by omega
        rename World => wo
        obtain ⟨ka, kc, rfl⟩ := HU.out.kept.slice
        have E0 := hid (HE.out.later HU.out.bel)
        have hli : (l.length : Int) ≤ 60 := by have := HLL.out; omega
        by_cases hnil : l = []
        · subst hnil
          have SN : Hid (Calls Tryd.prog 13 #[.pointer (some ⟨rb, 0, none⟩), .int .i64 0, .int .i64 0, .int .i64 0, .int .i64 0] wo fun e W' => ∃ t q, e = .returned (.tuple #[.agg #[.int .i64 0, .int .i64 0, .int .i64 0, .int .i64 0, .int .i64 0, .int .i64 0], .iface t q]) ∧ Err Ad W' (.iface t q) 7 2 ∧ Below wo.heap.size wo W') := col_setnone Ad HU.out.col E0.out 0 0 0 0 (I64_mid (by decide) (by decide)) rfl
          go_wp2_with fail
          refine SN.out.mono ?_
          rintro e w3 ⟨t, q, rfl, hv, b3⟩
          have c3 := b3.trans ((bAl w3 (.cells #[.int .i64 0, .int .i64 0, .int .i64 0, .int .i64 0, .int .i64 0, .int .i64 0] 34)).mono b3.size)
          have B3 := hid (HU.out.bel.trans (c3.mono HU.out.bel.size))
          have E3 := E0.out.later c3
          have e7 := (E0.out.later b3).c7
          have hel := World.block_lt_of_cell? w3 _ e7
          have hen := World.new_ne w3 _ e7
          have IS := hid (is_err Ad (k := 7) E3 (hv.later (bAl w3 (.cells #[.int .i64 0, .int .i64 0, .int .i64 0, .int .i64 0, .int .i64 0, .int .i64 0] 34))) (by decide) (by decide))
          clear SN hv b3 c3 E3
          go_wp2_with fail
          refine IS.out.mono ?_
          rintro e w4 ⟨rfl, b4⟩
          have B4 := hid (B3.out.trans (b4.mono B3.out.size))
          clear IS b4 e7 hel hen
          go_wp2_with fail
          go_ret
          exact ⟨rfl, B4.out⟩
        · have h0 : 0 < l.length := List.length_pos_iff.2 hnil
          obtain ⟨u1, m, hm, hu1, hr1⟩ := rem_at at' l.length h0
          obtain ⟨u2, j, hj, hu2, hr2⟩ := rem_at cell 3 (by decide)
          have hr2 : u2.tmod 3 = (j : Int) := hr2
          have hul : IntKind.u64.wrap (l.length : Int) = (l.length : Int) := uwrap_mid (by omega) (by omega)
          have hz0 : ((l.length : Int) == 0) = false := by rw [beq_eq_false_iff_ne]; omega
          have hz1 : ¬ ((l.length : Int) = 0) := by omega
          have hmi : (m : Int) < (l.length : Int) := by omega
          have hji : (j : Int) < 3 := by omega
          obtain ⟨p, hp⟩ := at_lt l m hm
          obtain ⟨qa, qb, qc, qd, hq, hqj⟩ := put_form p j hj value 99
          have ST := col_set HU.out.col m p hp j hj value 99 (I64_mid (by decide) (by decide))
          rw [hq] at ST
          have ST := hid ST
          have HP := hid hp
          have HQJ := hid hqj
          have FP := hid (HU.out.col.ok.fit p (List.mem_of_getElem? hp))
          have SQ : Hid ((l.set m ⟨qa, qb, qc, qd, 99⟩)[m]? = some ⟨qa, qb, qc, qd, 99⟩) := List.getElem?_set_self hm
          clear hp hnil hq hqj
          unfold Pt.val at ST
          go_wp2_with fail
          refine ST.out.mono ?_
          rintro e w3 ⟨rfl, h3, s3⟩
          have u3 : Und w1.heap.size w rb (.slice ka l.length kc) (l.set m ⟨qa, qb, qc, qd, 99⟩) l S w3 := HU.out.turn s3 h3
          obtain ⟨w4, hw4⟩ : ∃ w4, w4 = w3.alloc (.cells #[.int .i64 7, .int .i64 p.a, .int .i64 p.b, .int .i64 p.c, .int .i64 p.d, .int .i64 p.t] 34) := ⟨_, rfl⟩
          have U4 : Hid (Und w1.heap.size w rb (.slice ka l.length kc) (l.set m ⟨qa, qb, qc, qd, 99⟩) l S w4) := by rw [hw4]; exact u3.later (bAl _ _)
          have A4 : Hid (w4.heap[w3.heap.size]? = some (.cells (p.arr 7) 34 (0, 0))) := by rw [hw4]; exact heap_alloc_new w3 _
          have RR : Hid (Calls Tryd.prog 24 #[.pointer (some ⟨rb, 0, none⟩), .int .i64 (m : Int)] w4 fun e W' => e = .returned (.tuple #[.agg #[.int .i64 7, .int .i64 qa, .int .i64 qb, .int .i64 qc, .int .i64 qd, .int .i64 99], .nilIface]) ∧ Below w4.heap.size w4 W') := col_row U4.out.col m ⟨qa, qb, qc, qd, 99⟩ SQ.out
          have HW4 := hid hw4
          clear ST h3 s3 u3 hw4
          go_wp2_with fail
          rw [← HW4.out]
          refine RR.out.mono ?_
          rintro e w5 ⟨rfl, b5⟩
          have a5 := blk_seen b5 (Nat.le_refl _) A4.out
          obtain ⟨k0, k1, k2, k3, k4, k5, -, -, -, -, -, -⟩ := lies a5
          have hal : w3.heap.size < w5.heap.size := (Array.getElem?_eq_some_iff.1 a5).1
          have han : ¬ (w3.heap.size = w5.heap.size) := by omega
          obtain ⟨w6, hw6⟩ : ∃ w6, w6 = w5.alloc (.cells #[.int .i64 7, .int .i64 qa, .int .i64 qb, .int .i64 qc, .int .i64 qd, .int .i64 99] 34) := ⟨_, rfl⟩
          have b56 : Below w5.heap.size w5 w6 := by rw [hw6]; exact bAl _ _
          have U6 := hid ((U4.out.later b5).later b56)
          have A6 := hid (blk_seen b56 (Nat.le_refl _) a5)
          have D6 : Hid (w6.heap[w5.heap.size]? = some (.cells ((⟨qa, qb, qc, qd, 99⟩ : Pt).arr 7) 34 (0, 0))) := by rw [hw6]; exact heap_alloc_new w5 _
          have PT : Hid (Calls Tryd.prog 15 #[.pointer (some ⟨rb, 0, none⟩), .int .i64 (m : Int), .agg #[.int .i64 7, .int .i64 p.a, .int .i64 p.b, .int .i64 p.c, .int .i64 p.d, .int .i64 p.t]] w6 fun e W' => e = .returned (.tuple #[.agg #[.int .i64 7, .int .i64 qa, .int .i64 qb, .int .i64 qc, .int .i64 qd, .int .i64 99], .nilIface]) ∧ Col w1.heap.size W' rb ⟨7, 3, l⟩ S ∧ St S w6 W') := by
            have := col_put U6.out.col m ⟨qa, qb, qc, qd, 99⟩ SQ.out p FP.out.1 FP.out.2
            unfold CS.turned at this
            simp only [set_back HP.out] at this
            exact this
          have HW6 := hid hw6
          clear RR b5 b56 hw6 a5
          go_wp2_with fail
          rw [← HW6.out]
          refine PT.out.mono ?_
          rintro e w7 ⟨rfl, h7, s7⟩
          have u7 := U6.out.turn s7 h7
          have a7 := s7.at A6.out (U6.out.col.noPart A6.out)
          have d7 := s7.at D6.out (U6.out.col.noPart D6.out)
          obtain ⟨w8, hw8⟩ : ∃ w8, w8 = w7.alloc (.cells #[.int .i64 7, .int .i64 qa, .int .i64 qb, .int .i64 qc, .int .i64 qd, .int .i64 99] 34) := ⟨_, rfl⟩
          have b78 : Below w7.heap.size w7 w8 := by rw [hw8]; exact bAl _ _
          have U8 := hid (u7.later b78)
          have A8 := hid (blk_seen b78 (Nat.le_refl _) a7)
          have D8 := hid (blk_seen b78 (Nat.le_refl _) d7)
          have X8 : Hid (w8.heap[w7.heap.size]? = some (.cells ((⟨qa, qb, qc, qd, 99⟩ : Pt).arr 7) 34 (0, 0))) := by rw [hw8]; exact heap_alloc_new w7 _
          have HW8 := hid hw8
          obtain ⟨kb, rfl⟩ := U8.out.kept.some h0
          obtain ⟨a0, a1, a2, a3, a4, a5, -, -, -, -, -, -⟩ := lies A8.out
          obtain ⟨d0, d1, d2, d3, d4, d5, -, -, -, -, -, -⟩ := lies D8.out
          obtain ⟨x0, x1, x2, x3, x4, x5, -, -, -, -, -, -⟩ := lies X8.out
          simp only at d1 d2 d3 d4 d5 x1 x2 x3 x4 x5
          obtain ⟨g0, g1, g2, g3, g4, g5⟩ := U8.out.kept.cell HP.out
          have dj := HQJ.out _ _ _ D8.out
          have nq := neqP
          clear PT h7 s7 u7 a7 d7 b78 hw8 k0 k1 k2 k3 k4 k5 hal han
          go_wp2_with fail
          rw [← HW8.out]
          go_quiet (fail)
          go_wp2_with fail
          clear a0 a1 a2 a3 a4 a5 d0 d1 d2 d3 d4 d5 x0 x1 x2 x3 x4 x5 g0 g1 g2 g3 g4 g5 dj
          go_loopg [25, 26, 27] l.length (fun gh i _ _ wz => ∃ q : Nat, q ≤ l.length ∧ gh = l.length - q ∧ i = .int .i64 (q : Int) ∧ Hid (Below w8.heap.size w8 wz))
          case atStart => exact ⟨0, Nat.zero_le _, rfl, rfl, drewN_below _ _⟩
          case round =>
            rename World => wz
            obtain ⟨i, hi, rfl, rfl, HZ⟩ := hrel
            have UZ := hid (U8.out.later HZ.out)
            by_cases hil : i < l.length
            · have hii : (i : Int) < (l.length : Int) := by omega
              obtain ⟨y, hy⟩ := at_lt l i hil
              have RY := hid (col_row UZ.out.col i y hy)
              unfold Pt.val at RY
              have HY := hid hy
              clear hy
              go_wp2_with fail
              refine RY.out.mono ?_
              rintro e w9 ⟨rfl, b9⟩
              obtain ⟨w10, hw10⟩ : ∃ w10, w10 = w9.alloc (.cells #[.int .i64 7, .int .i64 y.a, .int .i64 y.b, .int .i64 y.c, .int .i64 y.d, .int .i64 y.t] 34) := ⟨_, rfl⟩
              have b910 : Below w9.heap.size w9 w10 := by rw [hw10]; exact bAl _ _
              have U10 := hid ((UZ.out.later b9).later b910)
              have Y10 : w10.heap[w9.heap.size]? = some (.cells (y.arr 7) 34 (0, 0)) := by rw [hw10]; exact heap_alloc_new w9 _
              have Z10 := hid (HZ.out.trans ((b9.trans (b910.mono b9.size)).mono HZ.out.size))
              obtain ⟨a0, a1, a2, a3, a4, a5, -, -, -, -, -, -⟩ := lies Y10
              obtain ⟨g0, g1, g2, g3, g4, g5⟩ := U10.out.kept.cell HY.out
              have HW10 := hid hw10
              clear RY b9 b910 hw10 Y10
              go_wp2_with fail
              rw [← HW10.out]
              go_quiet (fail)
              go_wp2_with fail
              go_roundg (l.length - (i + 1))
              case measure => omega
              case rel => exact ⟨i + 1, by omega, rfl, by go_num, Z10.out.trans ((drewN_below _ _).mono Z10.out.size)⟩
            · have hii : ¬ ((i : Int) < (l.length : Int)) := by omega
              have EZ := hid (HE.out.later UZ.out.bel)
              have AZ := hid (blk_seen HZ.out (Nat.le_refl _) A8.out)
              obtain ⟨a0, a1, a2, a3, a4, a5, -, -, -, -, -, -⟩ := lies AZ.out
              have PN := hid (push_nil Ad wz EZ.out 7 p)
              unfold Pt.val at PN
              go_wp2_with fail
              refine PN.out.mono ?_
              rintro e w9 ⟨t9, q9, rfl, v9, b9⟩
              have E9 := hid (EZ.out.later b9)
              have V9 := hid v9
              have B9 := hid (UZ.out.bel.trans (b9.mono UZ.out.bel.size))
              have RN := hid (row_nil Ad w9 E9.out 0)
              clear PN v9 b9 a0 a1 a2 a3 a4 a5
              go_wp2_with fail
              refine RN.out.mono ?_
              rintro e w10 ⟨t10, q10, rfl, v10, b10⟩
              have c10 := b10.trans ((bAl w10 (.cells #[.int .i64 0, .int .i64 0, .int .i64 0, .int .i64 0, .int .i64 0, .int .i64 0] 34)).mono b10.size)
              have E10 := hid (E9.out.later c10)
              have V9' := hid (V9.out.later c10)
              have V10 := hid (v10.later (bAl w10 (.cells #[.int .i64 0, .int .i64 0, .int .i64 0, .int .i64 0, .int .i64 0, .int .i64 0] 34)))
              have B10 := hid (B9.out.trans (c10.mono B9.out.size))
              have TN := hid (take_nil Ad _ E10.out 0)
              clear RN v10 b10 c10 V9
              go_wp2_with fail
              refine TN.out.mono ?_
              rintro e w11 ⟨t11, q11, rfl, v11, b11⟩
              obtain ⟨w12, hw12⟩ : ∃ w12, w12 = w11.alloc (.cells #[.int .i64 0, .int .i64 0, .int .i64 0, .int .i64 0, .int .i64 0, .int .i64 0] 34) := ⟨_, rfl⟩
              have b1112 : Below w11.heap.size w11 w12 := by rw [hw12]; exact bAl _ _
              have c11 := b11.trans (b1112.mono b11.size)
              have E12 := hid (E10.out.later c11)
              have V9'' := hid (V9'.out.later c11)
              have V10' := hid (V10.out.later c11)
              have V11 := hid (v11.later b1112)
              have B12 := hid (B10.out.trans (c11.mono B10.out.size))
              have e2 := (E10.out.later b11).c2
              have hel := World.block_lt_of_cell? w11 _ e2
              have hen := World.new_ne w11 _ e2
              have HW12 := hid hw12
              have IS : Hid (∀ W t q d, Err Ad W (.iface t q) 2 d → Below w12.heap.size w12 W → Calls Tryd.prog 10 #[.iface t q, .iface 105 (.pointer (some (Ad 2)))] W fun e w' => e = .returned (.bool true) ∧ Below W.heap.size W w') := fun W t q d hv hb => is_err Ad (E12.out.later hb) hv (by decide) (by decide)
              clear TN v11 b11 b1112 c11 hw12 V9' V10
              go_wp2_with fail
              rw [← HW12.out]
              refine (IS.out _ _ _ _ V9''.out (Below.refl _ _)).mono ?_
              rintro e w13 ⟨rfl, b13⟩
              have e2 := (E12.out.later b13).c2
              have B13 := hid b13
              clear b13 hel hen
              go_wp2_with fail
              refine (IS.out _ _ _ _ (V10'.out.later B13.out) B13.out).mono ?_
              rintro e w14 ⟨rfl, b14⟩
              have B14 := hid (B13.out.trans (b14.mono B13.out.size))
              have e2 := (E12.out.later B14.out).c2
              clear b14
              go_wp2_with fail
              refine (IS.out _ _ _ _ (V11.out.later B14.out) B14.out).mono ?_
              rintro e w15 ⟨rfl, b15⟩
              have B15 := hid (B14.out.trans (b15.mono B14.out.size))
              clear b15 IS e2
              go_wp2_with fail
              refine (len_nil _).mono ?_
              rintro e w16 ⟨rfl, rfl⟩
              go_wp2_with fail
              refine (since_nil 0 _).mono ?_
              rintro e w17 ⟨rfl, rfl⟩
              go_wp2_with fail
              go_ret
              exact ⟨rfl, B12.out.trans (B15.out.mono B12.out.size)⟩
end Go.Proofs.YtpglanlpnapddaaDoor
