/- bunch: the errors of rows, as one. -/
import Derived.Test.YthmiacpaefjanaaDoorTd
import Derived.Deep.Cut
namespace Go.Proofs.YthmiacpaefjanaaDoor
open Go.RowKit Go.Shelf
theorem bn_next {Ad : Nat → Addr} {w wr w2 w4 : World} {rs : List (Value × List Twg)} {k : Nat} {ev : Value} {g gc gc' B : Nat} {ga : Option Addr} {us : List (Value × List (List ByteArray × Nat))} {v2 : Value} {L LE : List (List ByteArray × Nat)} {y : List Value}
    (hB1 : w.heap.size ≤ B) (hB2 : B ≤ wr.heap.size) (hT : Top Ad B wr 12 ev LE) (ho : wr.ownsRow B 26 1 (.slice (some ⟨g, 0, none⟩) us.length gc) us.length (us.map Prod.fst)) (hL : LE ++ (us.map Prod.snd).flatten = leaves2 (rs.take k)) (hnt : NoText wr g) (hone : ∀ u ∈ us, One Ad wr.heap.size wr u.1 u.2) (hk : Below w.heap.size w wr)
    (hb2 : Below wr.heap.size wr w2) (h2 : One Ad w2.heap.size w2 v2 L) (hr : leaves2 (rs.take (k + 1)) = leaves2 (rs.take k) ++ L) (hy : y = us.map Prod.fst ++ [v2]) (ow : w4.ownsRow B 26 1 (.slice ga y.length gc') y.length y) (hg : (w2.alloc (.cells #[v2] 26)).grownBy w4 (some g)) (hbw : Below B (w2.alloc (.cells #[v2] 26)) w4) :
    ∃ g', ga = some ⟨g', 0, none⟩ ∧ Bn Ad w rs (k + 1) ev g' gc' (us ++ [(v2, L)]) w4 := by
  have b23 : Below w2.heap.size w2 (w2.alloc (.cells #[v2] 26)) := (Below.refl _ _).alloc (Nat.le_refl _) _
  have b03 := hb2.trans (b23.mono hb2.size)
  have hgl : g < wr.heap.size := (ho.lt g rfl).2
  have hnt3 : NoText (w2.alloc (.cells #[v2] 26)) g := fun s h => hnt s ((b03.cell (p := ⟨g, 0, none⟩) hgl).symm.trans h)
  have hyl : y.length = (us ++ [(v2, L)]).length := by rw [hy]; simp
  have hym : y = (us ++ [(v2, L)]).map Prod.fst := by rw [hy]; simp
  obtain ⟨g', rfl, hg'⟩ := own_some ow (by rw [hyl]; simp)
  have hone4 : ∀ u ∈ us ++ [(v2, L)], One Ad w4.heap.size w4 u.1 u.2 := by
    intro u hu
    rcases List.mem_append.1 hu with hu | hu
    · exact ((hone u hu).move b03 b03.size).grown hg (Nat.le_refl _) hnt3
    · simp at hu; subst hu; exact (h2.move b23 b23.size).grown hg (Nat.le_refl _) hnt3
  refine ⟨g', rfl, ⟨B, LE, hB1, ?_, hT.move ((b03.mono hB2).trans hbw) (Nat.le_refl _), ?_, ?_⟩, ?_, hone4, hk.trans ((b03.mono hk.size).trans (hbw.mono hB1))⟩
  · exact Nat.le_trans hB2 (Nat.le_trans b03.size hbw.size)
  · rw [← hyl, ← hym]; exact ow
  · rw [hr, ← hL]; simp
  · intro s h
    rw [ow.cellAt 0 (by rw [hyl]; simp), hym] at h
    cases us with
    | nil => simp at h; exact (hone4 (v2, L) (by simp)).cell.2 s h
    | cons u us => simp at h; exact (hone4 u (by simp)).cell.2 s h
theorem bn_row {Ad : Nat → Addr} {w w4 : World} {rs : List (Value × List Twg)} {k : Nat} {ev : Value} {g gc : Nat} {us : List (Value × List (List ByteArray × Nat))} (h : Bn Ad w rs k ev g gc us w4) :
    ∀ (j : Nat) u, (us.map Prod.fst)[j]? = some u → (w4.alloc (.cells #[ev] 26)).cell? ⟨g, j, none⟩ = some u := by
  obtain ⟨⟨B, LE, hB1, hB2, hT, ho, hL⟩, -⟩ := h
  intro j u hu
  have b : Below w4.heap.size w4 (w4.alloc (.cells #[ev] 26)) := (Below.refl _ _).alloc (Nat.le_refl _) _
  have hj : j < us.length := by have := (List.getElem?_eq_some_iff.1 hu).1; simpa using this
  rw [b.cell (p := ⟨g, j, none⟩) (ho.lt g rfl).2, ho.cellAt j (by omega)]
  exact hu
theorem bn_lit {Ad : Nat → Addr} {w w4 : World} {rs : List (Value × List Twg)} {k : Nat} {ev : Value} {g gc : Nat} {us : List (Value × List (List ByteArray × Nat))} (_ : Bn Ad w rs k ev g gc us w4) :
    (w4.alloc (.cells #[ev] 26)).ownsRow w4.heap.size 26 1 (.slice (some ⟨w4.heap.size, 0, none⟩) 1 1) [ev].length [ev] :=
  World.ownsRow_lit (base := w4.heap.size) (e := 26) (size := 1) w4 #[ev] 1 (Nat.le_refl _) (by unfold maxLen; omega) (by simp)
theorem bn_all {Ad : Nat → Addr} {w w4 w6 : World} {rs : List (Value × List Twg)} {k : Nat} {ev : Value} {g gc gc' : Nat} {ga : Option Addr} {us : List (Value × List (List ByteArray × Nat))} {y : List Value} (h : Bn Ad w rs k ev g gc us w4) (hy : y = [ev] ++ us.map Prod.fst) (ow : w6.ownsRow w4.heap.size 26 1 (.slice ga y.length gc') y.length y) (hb : Below w4.heap.size (w4.alloc (.cells #[ev] 26)) w6) (hus : us.length ≤ 4) (hrs : rs.length ≤ 20) :
    Calls Tryd.prog 19 #[.slice ga y.length gc'] w6 fun e w7 => ∃ v7, e = .returned v7 ∧ Top Ad w7.heap.size w7 12 v7 (leaves2 (rs.take k)) ∧ Below w.heap.size w w7 := by
  obtain ⟨⟨B, LE, hB1, hB2, hT, ho, hL⟩, hnt, hone, hk⟩ := h
  have b : Below w4.heap.size w4 w6 := ((Below.refl _ _).alloc (Nat.le_refl _) _).trans hb
  have hym : y = ((ev, LE) :: us).map Prod.fst := by rw [hy]; simp
  have hfl : (((ev, LE) :: us).map Prod.snd).flatten = leaves2 (rs.take k) := by rw [← hL]; simp
  have he := own_errs ow
  rw [hym] at he
  refine (all_top Ad 12 _ ((ev, LE) :: us) w6 (by rw [hym]; exact he) ?_ (by simp; omega) ?_).mono ?_
  · intro u hu
    rcases List.mem_cons.1 hu with rfl | hu
    · exact hT.move (b.mono hB2) (Nat.le_trans hB2 b.size)
    · exact (hone u hu).top.move b b.size
  · rw [hfl]
    have := leaves2_len (rs.take k)
    rw [List.length_take] at this
    omega
  · rintro e w7 ⟨v7, rfl, t7, hb7⟩
    rw [hfl] at t7
    exact ⟨v7, rfl, t7, hk.trans ((b.mono hk.size).trans (hb7.mono (Nat.le_trans hk.size b.size)))⟩
end Go.Proofs.YthmiacpaefjanaaDoor
