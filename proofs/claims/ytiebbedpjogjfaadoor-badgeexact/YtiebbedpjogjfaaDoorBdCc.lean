/- The document's badges: add. -/
import Derived.Test.YtiebbedpjogjfaaDoorBdCb
namespace Go.Proofs.YtiebbedpjogjfaaDoor.Bd
open Go.RowKit Go.Shelf Go.Maps
theorem bel_app {A wr w2 : World} {v : Value} {q : Prs} (hb : Below A.heap.size A wr) (hp : Pairs A.heap.size wr v q) (hs : St (fun x => v.ownBlock = some x) wr w2) : Below A.heap.size A w2 :=
  hb.trans (hs.below (fun x hx => (hp.lt x hx).1) hb.size)
/-- A row with a pair more: whether it is in, and what there is so far. -/
def ad (p : Int × Int × Int) (l : Prs) : Bool × Prs := l.foldl (fun s x => if !s.1 && decide (p.1 < x.1) then (true, s.2 ++ [p] ++ [x]) else (s.1, s.2 ++ [x])) (false, [])
theorem ad_next (p : Int × Int × Int) {l : Prs} {k : Nat} {x : Int × Int × Int} (h : l[k]? = some x) : ad p (l.take (k + 1)) = if !(ad p (l.take k)).1 && decide (p.1 < x.1) then (true, (ad p (l.take k)).2 ++ [p] ++ [x]) else ((ad p (l.take k)).1, (ad p (l.take k)).2 ++ [x]) := by
  rw [take_next h]
  unfold ad
  rw [List.foldl_append]
  rfl
theorem ad_len (p : Int × Int × Int) (l : Prs) : (ad p l).2.length ≤ l.length + 1 := by
  suffices ∀ (l : Prs) (s : Bool × Prs), (l.foldl (fun s x => if !s.1 && decide (p.1 < x.1) then (true, s.2 ++ [p] ++ [x]) else (s.1, s.2 ++ [x])) s).2.length ≤ s.2.length + l.length + (if s.1 then 0 else 1) by
    have := this l (false, [])
    unfold ad
    simpa using this
  intro l
  induction l with
  | nil => intro s; simp
  | cons x l ih =>
    intro s
    obtain ⟨d, q⟩ := s
    rw [List.foldl_cons]
    have := ih (if !d && decide (p.1 < x.1) then (true, q ++ [p] ++ [x]) else (d, q ++ [x]))
    cases d
    · by_cases hx : p.1 < x.1
      · simp [hx] at this ⊢
        omega
      · simp [hx] at this ⊢
        omega
    · simp at this ⊢
      omega
theorem ad_ins (p : Int × Int × Int) (l : Prs) : (if (ad p l).1 then (ad p l).2 else (ad p l).2 ++ [p]) = ins p l := by
  suffices ∀ (l q : Prs), (∀ (s : Prs), (l.foldl (fun s x => if !s.1 && decide (p.1 < x.1) then (true, s.2 ++ [p] ++ [x]) else (s.1, s.2 ++ [x])) (true, s)) = (true, s ++ l)) ∧ (if (l.foldl (fun s x => if !s.1 && decide (p.1 < x.1) then (true, s.2 ++ [p] ++ [x]) else (s.1, s.2 ++ [x])) (false, q)).1 then (l.foldl (fun s x => if !s.1 && decide (p.1 < x.1) then (true, s.2 ++ [p] ++ [x]) else (s.1, s.2 ++ [x])) (false, q)).2 else (l.foldl (fun s x => if !s.1 && decide (p.1 < x.1) then (true, s.2 ++ [p] ++ [x]) else (s.1, s.2 ++ [x])) (false, q)).2 ++ [p]) = q ++ ins p l from by
    have := (this l []).2
    unfold ad
    simpa using this
  intro l
  induction l with
  | nil => intro q; simp [ins]
  | cons x l ih =>
    intro q
    refine ⟨fun s => ?_, ?_⟩
    · rw [List.foldl_cons]
      have := (ih q).1 (s ++ [x])
      simp at this ⊢
      exact this
    · rw [List.foldl_cons]
      by_cases hx : p.1 < x.1
      · have := (ih q).1 (q ++ [p] ++ [x])
        simp [hx, ins] at this ⊢
        rw [this]
        simp
      · have := (ih (q ++ [x])).2
        simp [hx, ins] at this ⊢
        rw [this]
section
variable {B : Nat} {W W' : World} {v : Value} {l : Prs} {ub : Nat} {n : Int}
/-- The box with another row, that is new. -/
theorem Rb.renew {A wr : World} {v' : Value} {q : Prs} (h : Rb B W ub v n l) (b0 : Below W.heap.size W A) (hb : Below A.heap.size A wr) (hp : Pairs A.heap.size wr v' q) : Rb B (wr.setCell ⟨ub, 0, none⟩ v') ub v' n q ∧ St (fun k => k = ub) W (wr.setCell ⟨ub, 0, none⟩ v') := by
  have hu := (h.lt ub (.inl rfl)).2
  have bw := b0.trans (hb.mono b0.size)
  have g := h.later bw
  have hne : v'.ownBlock ≠ some ub := fun e => by
    have := (hp.lt ub e).1
    have := b0.size
    omega
  have s3 := St.setCell (S := fun k => k = ub) (a := wr) (p := ⟨ub, 0, none⟩) v' rfl
  have x3 : (wr.setCell ⟨ub, 0, none⟩ v').heap[ub]? = some (.cells #[v', .int .i64 n] 54 (0, 0)) := by
    have := heap_setCell_same wr ub 0 _ _ v' g.box
    simpa using this
  have hBA : B ≤ A.heap.size := by have := h.low; have := b0.size; omega
  exact ⟨⟨x3, (hp.lower hBA).kept s3 fun x hx e => hne (by rw [hx, e]), h.low, hne⟩, (St.of_below bw).trans s3 fun x _ e => e⟩
set_option maxHeartbeats 3200000 in
set_option maxRecDepth 100000 in
theorem add_any (h : Rb B W ub v n l) (id i g : Int) (hl : l.length ≤ 900) :
    Calls Tryd.prog 29 #[.pointer (some ⟨ub, 0, none⟩), .int .i64 id, .agg #[.int .i64 i, .int .i64 g]] W fun e W' => e = .returned (.tuple #[]) ∧ (∃ v', Rb B W' ub v' n (ins (id, i, g) l)) ∧ St (fun k => k = ub) W W' := by
  obtain ⟨w1, hw1⟩ : ∃ w1, w1 = W.alloc (.cells #[.int .i64 i, .int .i64 g] 29) := ⟨_, rfl⟩
  have b1 : Below W.heap.size W w1 := by rw [hw1]; exact bAl _ _
  have r1 : w1.heap[W.heap.size]? = some (.cells #[.int .i64 i, .int .i64 g] 29 (0, 0)) := by rw [hw1]; exact heap_alloc_new W _
  obtain ⟨w2, hw2⟩ : ∃ w2, w2 = w1.alloc (.cells #[] 70) := ⟨_, rfl⟩
  have b2 : Below w1.heap.size w1 w2 := by rw [hw2]; exact bAl _ _
  have I2 : Hid (Pairs w1.heap.size w2 (.slice (some ⟨w1.heap.size, 0, none⟩) 0 0) []) := by rw [hw2]; exact pairs_none w1
  have H := hid (h.later b1)
  have H0 := hid h
  obtain ⟨a, c, rfl⟩ := h.row.slice
  have hli : (l.length : Int) ≤ 900 := by omega
  have HW1 := hid hw1
  have HW2 := hid hw2
  have B1 := hid b1
  have B2 := hid b2
  have R1 := hid r1
  clear h hw1 b1 r1 hw2 b2
  go_enter Tryd.func29, Tryd.ntmps29
  go_upto_region 1 with fail
  rw [← HW1.out]
  go_upto_region 2 with fail
  rw [← HW2.out]
  go_wp2_with fail
  go_loopg [6, 7, 8] l.length (fun gh o d ix wr => ∃ (k : Nat) (db : Bool) (q : Prs), k ≤ l.length ∧ gh = l.length - k ∧ ix = .int .i64 (k : Int) ∧ d = .bool db ∧ Hid (ad (id, i, g) (l.take k) = (db, q)) ∧ Hid (Pairs w1.heap.size wr o q) ∧ Hid (Below w1.heap.size w1 wr))
  case atStart => exact ⟨0, false, [], Nat.zero_le _, rfl, rfl, rfl, by show _ = _; simp [ad], I2.out, B2.out⟩
  case round =>
    clear I2
    rename World => wr
    obtain ⟨k, db, q, hk, rfl, rfl, rfl, HS, HP, HB⟩ := hrel
    have hql : q.length ≤ 950 := by
      have h1 := ad_len (id, i, g) (l.take k)
      rw [HS.out] at h1
      have h2 : (l.take k).length ≤ l.length := by simp; omega
      simp only at h1
      omega
    have hul : q.length ≤ 1000 := by omega
    have hw1 : w1.heap.size ≤ wr.heap.size := HB.out.size
    have HR := hid (H.out.later HB.out)
    have c0 := HR.out.c0
    have rb := blk_seen HB.out (Nat.le_refl _) R1.out
    have e0 : wr.cell? ⟨W.heap.size, 0, none⟩ = some (.int .i64 i) := cell_blk rb rfl
    have e1 : wr.cell? ⟨W.heap.size, 1, none⟩ = some (.int .i64 g) := cell_blk rb rfl
    clear rb
    obtain ⟨oa, oc, rfl⟩ := HP.out.slice
    by_cases hlt : k < l.length
    · have hki : (k : Int) < (l.length : Int) := by omega
      obtain ⟨x, hx⟩ := at_lt l k hlt
      obtain ⟨b, rfl, thr⟩ := HR.out.row.at hx
      have WN := hid (ad_next (id, i, g) hx)
      rw [HS.out] at WN
      obtain ⟨d0, d1, d2⟩ := thr
      have HX := hid hx
      clear hx
      cases db with
      | true =>
        have E : Hid (ad (id, i, g) (l.take (k + 1)) = (true, q ++ [x])) := WN.out
        clear WN
        go_wp2_with (at_builtin; refine wpList_pair (p := x) rfl _ _ rfl HP.out hul (by exact hw1) rfl rfl ?_; intro v' w2 ho hst)
        have B3 := hid (bel_app HB.out HP.out hst.out)
        go_roundg (l.length - (k + 1))
        case measure => omega
        case rel => exact ⟨k + 1, true, q ++ [x], by omega, rfl, by go_num, rfl, E.out, ho.out, B3.out⟩
      | false =>
        by_cases hc : id < x.1
        · have hd : decide (id < x.1) = true := decide_eq_true hc
          have E : Hid (ad (id, i, g) (l.take (k + 1)) = (true, q ++ [(id, i, g)] ++ [x])) := by
            show _ = _
            rw [WN.out]
            simp [hc]
          clear WN hc
          go_upto_region 9 with (at_builtin; refine wpList_pair (p := (id, i, g)) rfl _ _ rfl HP.out hul (by exact hw1) rfl rfl ?_; intro v2 w3 ho hst)
          have B3 := hid (bel_app HB.out HP.out hst.out)
          have HR3 := hid (H.out.later B3.out)
          have c3 := HR3.out.c0
          obtain ⟨b', hbo, thr2⟩ := HR3.out.row.at HX.out
          obtain rfl : b = b' := by simpa using hbo
          obtain ⟨d0', d1', d2'⟩ := thr2
          have hw3 : w1.heap.size ≤ w3.heap.size := B3.out.size
          have hul2 : (q ++ [(id, i, g)]).length ≤ 1000 := by simp; omega
          obtain ⟨a2, c2, rfl⟩ := Pairs.slice ho.out
          clear HP hst e0 e1 hbo d0 d1 d2 c0
          go_wp2_with (at_builtin; refine wpList_pair (p := x) rfl _ _ rfl ho.out hul2 (by exact hw3) rfl rfl ?_; intro v3 w4 ho3 hst3)
          have B4 := hid (bel_app B3.out ho.out hst3.out)
          go_roundg (l.length - (k + 1))
          case measure => omega
          case rel => exact ⟨k + 1, true, q ++ [(id, i, g)] ++ [x], by omega, rfl, by go_num, rfl, E.out, ho3.out, B4.out⟩
        · have hd : decide (id < x.1) = false := decide_eq_false hc
          have E : Hid (ad (id, i, g) (l.take (k + 1)) = (false, q ++ [x])) := by
            show _ = _
            rw [WN.out]
            simp [hc]
          clear WN hc
          go_wp2_with (at_builtin; refine wpList_pair (p := x) rfl _ _ rfl HP.out hul (by exact hw1) rfl rfl ?_; intro v' w2 ho hst)
          have B3 := hid (bel_app HB.out HP.out hst.out)
          go_roundg (l.length - (k + 1))
          case measure => omega
          case rel => exact ⟨k + 1, false, q ++ [x], by omega, rfl, by go_num, rfl, E.out, ho.out, B3.out⟩
    · have hki : ¬ ((k : Int) < (l.length : Int)) := by omega
      have E : Hid (ad (id, i, g) l = (db, q)) := by
        have := HS.out
        rw [List.take_of_length_le (by omega)] at this
        exact this
      have AI := hid (ad_ins (id, i, g) l)
      rw [E.out] at AI
      have fz := blk_free HR.out.box 0
      cases db with
      | true =>
        have R : Hid (q = ins (id, i, g) l) := AI.out
        have RN := hid (H0.out.renew B1.out HB.out HP.out)
        go_wp2_with fail
        go_end0
        exact ⟨rfl, ⟨_, by rw [← R.out]; exact RN.out.1⟩, RN.out.2⟩
      | false =>
        have R : Hid (q ++ [(id, i, g)] = ins (id, i, g) l) := AI.out
        go_upto_region 12 with (at_builtin; refine wpList_pair (p := (id, i, g)) rfl _ _ rfl HP.out hul (by exact hw1) rfl rfl ?_; intro v2 w3 ho hst)
        have B3 := hid (bel_app HB.out HP.out hst.out)
        have HR3 := hid (H.out.later B3.out)
        have c3 := HR3.out.c0
        have fz3 := blk_free HR3.out.box 0
        obtain ⟨a2, c2, rfl⟩ := Pairs.slice ho.out
        have RN := hid (H0.out.renew B1.out B3.out ho.out)
        rw [show (q ++ [(id, i, g)]).length = q.length + 1 by simp] at RN
        clear HP hst e0 e1 c0 fz
        go_wp2_with fail
        go_end0
        exact ⟨rfl, ⟨_, by rw [← R.out]; exact RN.out.1⟩, RN.out.2⟩
end
end Go.Proofs.YtiebbedpjogjfaaDoor.Bd
