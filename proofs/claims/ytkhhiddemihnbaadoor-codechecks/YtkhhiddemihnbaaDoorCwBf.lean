/- Depths. -/
import Derived.Test.YtkhhiddemihnbaaDoorCwBe
namespace Go.Proofs.YtkhhiddemihnbaaDoor.Cw
open Go.RowKit Go.Shelf
/-- What Depths answers. -/
def DepP (l : List Ins) (B : Nat) (W' : World) (r b : Value) : Prop := (NoWhere l ∧ ∃ db d, r = .slice (some ⟨db, 0, none⟩) d.length d.length ∧ b = .bool true ∧ Lbl l d ∧ W'.heap[db]? = some (.cells (d.map gZ).toArray 3 (0, 0)) ∧ B ≤ db) ∨ (r = .slice none 0 0 ∧ b = .bool false ∧ ¬ Fine l)
theorem Wk.split {l : List Ins} {d : List Int} {o : List Nat} {q : Nat} (h : Wk l d (o ++ [q]) (o ++ [q])) : Wk l d o (q :: o) ∧ ∃ n, d[q]? = some n ∧ 0 ≤ n :=
  ⟨⟨h.len, h.zero, h.rc, h.hi, fun r hr => h.op r (by simp [hr]), fun p n x hp => h.on p n x (by simp at hp ⊢; exact ⟨hp.2, hp.1⟩)⟩, h.op q (by simp)⟩
theorem Wk.drop {l : List Ins} {d : List Int} {o : List Nat} {q : Nat} (h : Wk l d o (q :: o)) (hq : l[q]? = none) : Wk l d o o :=
  ⟨h.len, h.zero, h.rc, h.hi, h.op, fun p n x hp h1 h2 h3 => h.on p n x (fun hm => (List.mem_cons.1 hm).elim (fun e => by rw [e, hq] at h3; cases h3) hp) h1 h2 h3⟩
theorem Wk.lt {l : List Ins} {d : List Int} {o : List Nat} {q : Nat} {n : Int} (h : Wk l d o (q :: o)) (hq : d[q]? = some n) : q ≤ l.length := by
  have := (List.getElem?_eq_some_iff.1 hq).1
  have := h.len
  omega
theorem snoc_or {α : Type} (l : List α) : l = [] ∨ ∃ a x, l = a ++ [x] := by
  by_cases h : l = []
  · exact .inl h
  · exact .inr ⟨l.dropLast, l.getLast h, (List.dropLast_concat_getLast h).symm⟩
set_option maxHeartbeats 3200000 in
set_option maxRecDepth 100000 in
theorem depths_any (W : World) (hO : OpsAt W) (v : Value) (l : List Ins) (hI : InsRow W v l) (hl : l.length ≤ 200) :
    Calls Tryd.prog 19 #[v] W fun e W' => ∃ r b, e = .returned (.tuple #[r, b]) ∧ DepP l W.heap.size W' r b ∧ Below W.heap.size W W' := by
  have HL := hid hl
  have HO := hid hO
  have HI := hid hI
  obtain ⟨sa, sc, hv, -, -⟩ := hI
  subst hv
  have BA : Hid (Below W.heap.size W (W.alloc (.cells #[.int .i64 (l.length : Int)] 3))) := bAl _ _
  have IA := hid (HI.out.later BA.out)
  have eA : (W.alloc (.cells #[.int .i64 (l.length : Int)] 3)).cell? ⟨W.heap.size, 0, none⟩ = some (.int .i64 (l.length : Int)) := new_cellW _ _ _
  have CF := hid (contains_any _ _ l IA.out (by omega) W.heap.size (l.length : Int) eA)
  have EA := hid eA
  have NW := hid (nowhere_any l)
  clear hl hO eA
  go_enter Tryd.func19, Tryd.ntmps19
  go_wp2_with fail
  refine CF.out.mono ?_
  rintro e w1 ⟨rfl, hb1⟩
  have B1 := hid (BA.out.trans (hb1.mono BA.out.size))
  have e1 := seen hb1 (Nat.le_refl _) EA.out
  have SZ1 : Hid (W.heap.size + 1 ≤ w1.heap.size) := by
    show _ ≤ _
    have := hb1.size
    simpa using this
  clear hb1 CF
  cases hq : l.any fun x => noB x (l.length : Int) with
  | true =>
    have NF : Hid (¬ Fine l) := fun hf => by
      have := NW.out.2 hf.1
      rw [hq] at this
      cases this
    clear hq
    go_wp2_with fail
    go_ret2
    exact ⟨_, _, rfl, .inr ⟨rfl, rfl, NF.out⟩, B1.out⟩
  | false =>
    have NWH : Hid (NoWhere l) := NW.out.1 hq
    clear hq NW
    obtain ⟨w2, hw2⟩ : ∃ w2, w2 = w1.alloc (.cells #[.int .i64 (-1)] 3) := ⟨_, rfl⟩
    have b2 : Below w1.heap.size w1 w2 := by rw [hw2]; exact bAl _ _
    have x2 : w2.cell? ⟨w1.heap.size, 0, none⟩ = some (.int .i64 (-1)) := by rw [hw2]; exact new_cellW _ _ _
    have z2 : w2.heap.size = w1.heap.size + 1 := by rw [hw2]; simp
    have e2 := seen b2 (Nat.le_refl _) e1
    have RE := repeat_any w2 w1.heap.size (-1) x2 l.length (by have := HL.out; omega)
    rw [show ((l.length + 1 : Nat) : Int) = (l.length : Int) + 1 by simp] at RE
    have HRE := hid RE
    have hli : (l.length : Int) ≤ 200 := by have := HL.out; omega
    have B2 := hid (B1.out.trans (b2.mono B1.out.size))
    have Z2 : Hid (W.heap.size + 1 ≤ w2.heap.size) := by show _ ≤ _; have := SZ1.out; omega
    have HW2 := hid hw2
    have HE2 := hid e2
    have hlt1 : W.heap.size < w1.heap.size := by have := SZ1.out; omega
    have hne1 : ¬ (W.heap.size = w1.heap.size) := by omega
    clear RE b2 x2 z2 hw2 e2
    go_wp2_with fail
    rw [← HW2.out]
    refine HRE.out.mono ?_
    rintro e w3 ⟨rfl, hg3, hb3⟩
    have G3 := hid hg3
    have B3 := hid (B2.out.trans (hb3.mono B2.out.size))
    have E3 := hid (seen hb3 (Nat.le_refl _) HE2.out)
    have L3 : Hid (w2.heap.size < w3.heap.size) := blk_lt hg3
    clear hg3 hb3 HRE HE2 HW2 e1 hlt1 hne1
    obtain ⟨w4, hw4⟩ : ∃ w4, w4 = w3.alloc (.cells #[.slice (some ⟨w2.heap.size, 0, none⟩) (l.length + 1) (l.length + 1), .slice none 0 0] 93) := ⟨_, rfl⟩
    have b4 : Below w3.heap.size w3 w4 := by rw [hw4]; exact bAl _ _
    have M4 : Hid (Wm (W.heap.size + 1) w4 w3.heap.size w2.heap.size (.slice none 0 0) (List.replicate (l.length + 1) (-1)) []) := by
      refine ⟨?_, blk_seen b4 (Nat.le_refl _) G3.out, World.ownsRow_nil _ _ _ _, ⟨Z2.out, L3.out⟩⟩
      rw [List.length_replicate, hw4]
      exact heap_alloc_new w3 _
    have B4 := hid (B3.out.trans (b4.mono B3.out.size))
    have E4 := hid (seen b4 (Nat.le_refl _) E3.out)
    have HW4 := hid hw4
    have CM : Hid (Calls Tryd.prog 39 #[.pointer (some ⟨w3.heap.size, 0, none⟩), .int .i64 0, .int .i64 0] w4 fun e W' => e = .returned (.bool (cb (List.replicate (l.length + 1) (-1)) 0 0)) ∧ (∃ ov', Wm (W.heap.size + 1) W' w3.heap.size w2.heap.size ov' (cd (List.replicate (l.length + 1) (-1)) 0 0) (co (List.replicate (l.length + 1) (-1)) [] 0)) ∧ Below (W.heap.size + 1) w4 W') := come_any M4.out 0 (by simp) 0 (by simp)
    clear b4 hw4
    go_wp2_with fail
    rw [← HW4.out]
    refine CM.out.mono ?_
    rintro e w5 ⟨rfl, ⟨ov5, hm5⟩, hb5⟩
    have BIG : Hid (∃ d o ov, Wm (W.heap.size + 1) w5 w3.heap.size w2.heap.size ov d o ∧ Wk l d o o ∧ me d o ≤ 2 * l.length + 2) := by
      refine ⟨_, _, _, hm5, wk_begin l, Nat.le_trans (me_co (Int.le_refl _)) ?_⟩
      unfold me
      have : open' (List.replicate (l.length + 1) (-1 : Int)) ≤ l.length + 1 := by
        unfold open'
        have := List.countP_le_length (p := fun n : Int => n == -1) (l := List.replicate (l.length + 1) (-1))
        simpa using this
      simp only [List.length_nil]
      omega
    have B5 : Hid (Below W.heap.size W w5) := B4.out.trans (hb5.mono (Nat.le_succ _))
    have E5 := hid ((hb5.cell (p := ⟨W.heap.size, 0, none⟩) (Nat.lt_succ_self _)).trans E4.out)
    generalize cb (List.replicate (l.length + 1) (-1)) 0 0 = cb0 at *
    clear hm5 hb5 CM HW4 M4 E4 B4 E3 B3 G3 L3 Z2 B2 SZ1 EA IA BA B1
    go_wp2_with fail
    generalize w3.heap.size = wb at *
    generalize w2.heap.size = db at *

    go_loopg [6] (2 * l.length + 2) (fun gh _ wr => ∃ d o ov, me d o ≤ gh ∧ gh ≤ 2 * l.length + 2 ∧ Hid (Wm (W.heap.size + 1) wr wb db ov d o) ∧ Hid (Wk l d o o) ∧ Hid (Below W.heap.size W wr) ∧ Hid (wr.cell? ⟨W.heap.size, 0, none⟩ = some (.int .i64 (l.length : Int))))
    case atStart =>
      obtain ⟨d, o, ov, h1, h2, h3⟩ := BIG.out
      exact ⟨d, o, ov, h3, Nat.le_refl _, h1, h2, B5, E5⟩
    case round =>
      clear BIG E5 B5
      obtain ⟨d, o, ov, hme, hgk, HM, HK, HB, HE⟩ := hrel
      rcases snoc_or o with rfl | ⟨o', q, rfl⟩
      · have c1 := HM.out.c1
        have c0 := HM.out.c0
        obtain ⟨ga, gc, rfl⟩ := own_slice HM.out.row
        have FIN : Hid (DepP l W.heap.size wr (.slice (some ⟨db, 0, none⟩) d.length d.length) (.bool true)) := .inl ⟨NWH.out, db, d, rfl, rfl, HK.out.lbl, HM.out.dep, by have := HM.out.low; omega⟩
        go_wp2_with fail
        go_ret2
        exact ⟨_, _, rfl, FIN.out, HB.out⟩
      · have c1 := HM.out.c1
        obtain ⟨ga, gc, rfl⟩ := own_slice HM.out.row
        simp only [List.length_append, List.length_cons, List.length_nil, Nat.zero_add] at c1
        obtain ⟨hk2, n, hn, hn0⟩ := HK.out.split
        have hol : o'.length + 1 ≤ 402 := by
          have h1 := me_len d (o' ++ [q])
          rw [List.length_append] at h1
          have := HL.out
          have e : [q].length = 1 := rfl
          omega
        have HME : Hid (me d o' + 1 ≤ gk) := by
          show _ ≤ _
          have e : me d (o' ++ [q]) = me d o' + 1 := by unfold me; simp; omega
          omega
        have LV := hid (leave_any HM.out (by omega))
        have hoi : (o'.length : Int) + 1 ≤ 402 := by omega
        have hoi0 : (0 : Int) < (o'.length : Int) + 1 := by omega
        have K2 := hid hk2
        have HN := hid hn
        have HN0 := hid hn0
        have HGK := hid hgk
        have hql := hk2.lt hn
        clear hk2 hn hn0 hme hgk
        go_wp2_with fail
        refine LV.out.mono ?_
        rintro e w6 ⟨rfl, ⟨ov6, hm6⟩, hb6⟩
        have M6 := hid hm6
        have B6 := hid (HB.out.trans (hb6.mono (Nat.le_succ _)))
        have E6 := hid ((hb6.cell (p := ⟨W.heap.size, 0, none⟩) (Nat.lt_succ_self _)).trans HE.out)
        have e6 := E6.out
        clear hm6 hb6 LV c1 HM HK
        by_cases hlt : q < l.length
        · have hqi : (q : Int) < (l.length : Int) := by omega
          obtain ⟨x, hx⟩ := at_lt l q hlt
          obtain ⟨a, c, hs, -, hlay⟩ := HI.out
          simp at hs
          obtain ⟨rfl, rfl⟩ := hs
          obtain ⟨b, o, rfl, hc⟩ : ∃ b o, sa = some ⟨b, o, none⟩ ∧ ∀ (j : Nat) x, l[j]? = some x → Thr W b (o + j * 3) x := by
            rcases hlay with h | h
            · rw [h] at hx; simp at hx
            · exact h
          obtain ⟨c0, c1, c2⟩ := (hc q x hx).later B6.out
          have PA := hid (pass_any (HO.out.later B6.out) M6.out K2.out NWH.out HN.out HN0.out hx (by omega) (by have := HME.out; have := HGK.out; have := HL.out; omega))
          clear hc hx hlay
          obtain ⟨op, ia, ib⟩ := x
          unfold iV at PA
          simp only [] at c0 c1 c2 PA
          go_wp2_with fail
          refine PA.out.mono ?_
          rintro e w7 ⟨v7, rfl, hp7, hb7⟩
          have B7 := hid (B6.out.trans (hb7.mono (Nat.le_succ _)))
          have E7 := hid ((hb7.cell (p := ⟨W.heap.size, 0, none⟩) (Nat.lt_succ_self _)).trans E6.out)
          clear hb7 PA c0 c1 c2 e6
          rcases hp7 with ⟨rfl, d7, o7, ov7, hm7, hk7, hme7⟩ | ⟨rfl, hnf⟩
          · have M7 := hid hm7
            have K7 := hid hk7
            have ME7 := hid hme7
            clear hm7 hk7 hme7
            go_wp2_with fail
            go_roundg (gk - 1)
            case rel => exact ⟨d7, o7, ov7, by have := HME.out; have := ME7.out; omega, by have := HGK.out; omega, M7, K7, B7, E7⟩
            case measure => have := HME.out; omega
          · have NF := hid hnf
            clear hnf
            go_wp2_with fail
            go_ret2
            exact ⟨_, _, rfl, .inr ⟨rfl, rfl, NF.out⟩, B7.out⟩
        · have hqi : ¬ ((q : Int) < (l.length : Int)) := by omega
          have hqn : l[q]? = none := List.getElem?_eq_none (by omega)
          have K7 := hid (K2.out.drop hqn)
          clear hqn
          go_wp2_with fail
          go_roundg (gk - 1)
          case rel => exact ⟨d, o', ov6, by have := HME.out; omega, by have := HGK.out; omega, M6, K7, B6, E6⟩
          case measure => have := HME.out; omega
end Go.Proofs.YtkhhiddemihnbaaDoor.Cw
