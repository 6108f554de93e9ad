/- Check: the walk. -/
import Derived.Test.YtbfjijiakkopeaaDoorScSe
import Derived.Deep.RegionHeld3
namespace Go.Proofs.YtbfjijiakkopeaaDoor.Sc
open Go.RowKit Go.Shelf
theorem row_cell (W : World) (vs : List Value) (e : TypeId) (j : Nat) (u : Value) (h : vs[j]? = some u) : (W.alloc (.cells vs.toArray e)).cell? ⟨W.heap.size, j, none⟩ = some u := by
  rw [cell_of_row _ _ j _ e (0, 0) (heap_alloc_new W _)]
  simpa using h
theorem Ckd.app {Ad : Nat → Addr} {w wr w2 : World} {mb B n : Nat} {acc : List ByteArray} {ev : Value} {us vs : List (Value × Leaves)} {ga : Option Addr} {gc : Nat} {y : List Value} (h : Ckd Ad w mb B n acc ev us wr) (h0 : 0 < us.length) (hv : ∀ u ∈ vs, One Ad wr.heap.size wr u.1 u.2) {o : Obj}
    (hy : y = us.map Prod.fst ++ vs.map Prod.fst) (ow : w2.ownsRow B 30 1 (.slice ga y.length gc) y.length y) (hg : (wr.alloc o).grownBy w2 ev.ownBlock) : Ckd Ad w mb B n acc (.slice ga y.length gc) (us ++ vs) w2 := by
  have b : Below wr.heap.size wr (wr.alloc o) := (Below.refl _ _).alloc (Nat.le_refl _) _
  have h1 := h.later b
  obtain ⟨a, c, rfl⟩ := own_slice h.row
  obtain ⟨g, rfl, hgB, hgl⟩ := own_some h.row h0
  have hyl : y.length = (us ++ vs).length := by rw [hy]; simp
  have hym : y = (us ++ vs).map Prod.fst := by rw [hy]; simp
  have hnt : NoText (wr.alloc o) g := h1.nt g rfl
  have hone : ∀ u ∈ us ++ vs, One Ad w2.heap.size w2 u.1 u.2 := by
    intro u hu
    rcases List.mem_append.1 hu with hu | hu
    · exact (h1.one u hu).grown hg (Nat.le_refl _) hnt
    · exact ((hv u hu).move b b.size).grown hg (Nat.le_refl _) hnt
  obtain ⟨g', rfl, hg'⟩ := own_some ow (by rw [hyl]; simp; omega)
  have hne : some mb ≠ (Value.slice (some ⟨g, 0, none⟩) us.length c).ownBlock := fun e => by
    have e' : mb = g := by simpa [Value.ownBlock] using e
    have := h.low.2
    omega
  refine ⟨World.ownsMap.kept h1.map hg hne, by rw [← hyl, ← hym]; exact ow, ?_, hone, ?_, h.low, Nat.le_trans h1.high hg.size⟩
  · intro x hx s hs
    obtain rfl : g' = x := by simpa [Value.ownBlock] using hx
    rw [ow.cellAt 0 (by rw [hyl]; simp; omega), hym] at hs
    cases us with
    | nil => simp at h0
    | cons u us => simp at hs; exact (hone u (by simp)).cell.2 s hs
  · exact h1.bel.grown hg h1.bel.size (fun k hk => by simp [Value.ownBlock] at hk; rw [← hk]; have := h.low; omega)
def flat (us : List (Value × Leaves)) : Leaves := (us.map Prod.snd).flatten
theorem flat_app (us vs : List (Value × Leaves)) : flat (us ++ vs) = flat us ++ flat vs := by simp [flat]
theorem compL_next {cs : List Cmp} {k : Nat} {c : Cmp} (h : cs[k]? = some c) : compL cs (k + 1) = compL cs k ++ leafC (seenTo ((cs.take k).map Cmp.s)) k c := by simp [compL, h]
theorem seen_next {cs : List Cmp} {k : Nat} {c : Cmp} (h : cs[k]? = some c) : seenTo ((cs.take (k + 1)).map Cmp.s) = seenB (seenTo ((cs.take k).map Cmp.s)) c.s := by
  rw [take_next h, List.map_append, List.map_cons, List.map_nil, seenTo_snoc]
/-- What great lets by. -/
def SmallC (cs : List Cmp) : Prop := cs.length ≤ 40 ∧ True
def SmallQ (rs : List Rsc) : Prop := rs.length ≤ 40 ∧ True
/-- How Check stands within a component's row of errors. -/
structure C6 (Ad : Nat → Addr) (w : World) (mb B n : Nat) (acc : List ByteArray) (ev : Value) (us : List (Value × Leaves)) (g : Nat) (x : Cmp) (vs : List (Value × Leaves)) (wc : World) : Prop where
  ck : Ckd Ad w mb B n acc ev us wc
  c0 : wc.cell? ⟨g, 0, none⟩ = some (.string x.s)
  c1 : wc.cell? ⟨g, 1, none⟩ = some (.int .i64 x.wd)
  c2 : wc.cell? ⟨g, 2, none⟩ = some (.bool x.rb)
  c3 : wc.cell? ⟨g, 3, none⟩ = some (.int .i64 x.d0)
  c4 : wc.cell? ⟨g, 4, none⟩ = some (.int .i64 x.d1)
  c5 : wc.cell? ⟨g, 5, none⟩ = some (.int .i64 x.d2)
  c6 : wc.cell? ⟨g, 6, none⟩ = some (.int .i64 x.d3)
  one : ∀ u ∈ vs, One Ad wc.heap.size wc u.1 u.2
theorem C6.later {Ad : Nat → Addr} {w wc w1 : World} {mb B n g : Nat} {acc : List ByteArray} {ev : Value} {us vs : List (Value × Leaves)} {x : Cmp} (h : C6 Ad w mb B n acc ev us g x vs wc) (hb : Below wc.heap.size wc w1) : C6 Ad w mb B n acc ev us g x vs w1 :=
  have S := fun {p : Addr} {u : Value} (h : wc.cell? p = some u) => Below.seen hb (Nat.le_refl _) h
  ⟨h.ck.later hb, S h.c0, S h.c1, S h.c2, S h.c3, S h.c4, S h.c5, S h.c6, fun u hu => (h.one u hu).move hb hb.size⟩
theorem C6.push {Ad : Nat → Addr} {w wc w1 : World} {mb B n g : Nat} {acc : List ByteArray} {ev v : Value} {us vs : List (Value × Leaves)} {x : Cmp} {L : Leaves} (h : C6 Ad w mb B n acc ev us g x vs wc) (hb : Below wc.heap.size wc w1) (ho : One Ad w1.heap.size w1 v L) : C6 Ad w mb B n acc ev us g x (vs ++ [(v, L)]) w1 :=
  have k := h.later hb
  ⟨k.ck, k.c0, k.c1, k.c2, k.c3, k.c4, k.c5, k.c6, fun u hu => by
    rcases List.mem_append.1 hu with hu | hu
    · exact k.one u hu
    · simp at hu; subst hu; exact ho⟩
theorem C6.took {Ad : Nat → Addr} {w wc w1 : World} {mb B n g : Nat} {acc acc' : List ByteArray} {ev : Value} {us vs : List (Value × Leaves)} {x : Cmp} (h : C6 Ad w mb B n acc ev us g x vs wc) (hm : MapN w1 mb (n + 1) acc') (hg : wc.grownBy w1 (some mb)) : C6 Ad w mb B (n + 1) acc' ev us g x vs w1 := by
  have hne : some g ≠ some mb := fun e => noText_map h.ck.map x.s (by simp at e; rw [← e]; exact h.c0)
  have S := fun {j : Nat} {u : Value} (h : wc.cell? ⟨g, j, none⟩ = some u) => hg.cell (a := ⟨g, j, none⟩) h hne
  exact ⟨h.ck.took hm hg, S h.c0, S h.c1, S h.c2, S h.c3, S h.c4, S h.c5, S h.c6, fun u hu => (h.one u hu).grown hg (Nat.le_refl _) (noText_map h.ck.map)⟩
def Cells7 (g : Nat) (x : Cmp) (W : World) : Prop := W.cell? ⟨g, 0, none⟩ = some (.string x.s) ∧ W.cell? ⟨g, 1, none⟩ = some (.int .i64 x.wd) ∧ W.cell? ⟨g, 2, none⟩ = some (.bool x.rb) ∧ W.cell? ⟨g, 3, none⟩ = some (.int .i64 x.d0) ∧ W.cell? ⟨g, 4, none⟩ = some (.int .i64 x.d1) ∧ W.cell? ⟨g, 5, none⟩ = some (.int .i64 x.d2) ∧ W.cell? ⟨g, 6, none⟩ = some (.int .i64 x.d3)
theorem C6.cells {Ad : Nat → Addr} {w wc : World} {mb B n g : Nat} {acc : List ByteArray} {ev : Value} {us vs : List (Value × Leaves)} {x : Cmp} (h : C6 Ad w mb B n acc ev us g x vs wc) : wc.cell? ⟨g, 0, none⟩ = some (.string x.s) ∧ wc.cell? ⟨g, 1, none⟩ = some (.int .i64 x.wd) ∧ wc.cell? ⟨g, 2, none⟩ = some (.bool x.rb) ∧ wc.cell? ⟨g, 3, none⟩ = some (.int .i64 x.d0) ∧ wc.cell? ⟨g, 4, none⟩ = some (.int .i64 x.d1) ∧ wc.cell? ⟨g, 5, none⟩ = some (.int .i64 x.d2) ∧ wc.cell? ⟨g, 6, none⟩ = some (.int .i64 x.d3) :=
  ⟨h.c0, h.c1, h.c2, h.c3, h.c4, h.c5, h.c6⟩
theorem C6.env {Ad : Nat → Addr} {w wc : World} {mb B n g : Nat} {acc : List ByteArray} {ev : Value} {us vs : List (Value × Leaves)} {x : Cmp} (h : C6 Ad w mb B n acc ev us g x vs wc) (hE : Env8 w Ad) : Env8 wc Ad := hE.later h.ck.bel
theorem C6.drew {Ad : Nat → Addr} {w wc : World} {mb B n g : Nat} {acc : List ByteArray} {ev : Value} {us vs : List (Value × Leaves)} {x : Cmp} (h : C6 Ad w mb B n acc ev us g x vs wc) : C6 Ad w mb B n acc ev us g x vs wc.drew := h.later ⟨rfl, rfl, rfl, Nat.le_refl _, fun _ _ => rfl⟩
theorem One.shape {Ad : Nat → Addr} {n₀ : Nat} {W : World} {v : Value} {L : Leaves} (h : One Ad n₀ W v L) : v.cells = #[v] := by
  rcases h with ⟨rfl, -⟩ | ⟨p, -, h⟩
  · rfl
  · obtain ⟨t, q, rfl, -⟩ := h.1.shape
    rfl
def NsOk (ns : List Nat) : Prop := ns.length ≤ 1 ∧ ∀ k ∈ ns, 1 ≤ k ∧ k ≤ 18
theorem way3 (Ad : Nat → Addr) (W : World) (l p : ByteArray) (i : Nat) (hi : i < 100) (ns : List Nat) (h : NsOk ns) :
    Calls Tryd.prog 42 #[.string l, .int .i64 (i : Int), .string p, errV Ad ns] W fun e W' => ∃ v', e = .returned v' ∧ One Ad W'.heap.size W' v' (at3 l i p ns) ∧ Below W.heap.size W W' := wayat_any Ad W l p i hi ns h.1 h.2
theorem width7 (Ad : Nat → Addr) (W : World) (hE : Env8 W Ad) (x : Cmp) : Calls Tryd.prog 44 #[.agg #[.string x.s, .int .i64 x.wd, .bool x.rb, .int .i64 x.d0, .int .i64 x.d1, .int .i64 x.d2, .int .i64 x.d3]] W fun e W' => e = .returned (errV Ad (wErr x)) ∧ Below W.heap.size W W' := width_any Ad W hE x
theorem default7 (Ad : Nat → Addr) (W : World) (hE : Env8 W Ad) (x : Cmp) : Calls Tryd.prog 45 #[.agg #[.string x.s, .int .i64 x.wd, .bool x.rb, .int .i64 x.d0, .int .i64 x.d1, .int .i64 x.d2, .int .i64 x.d3]] W fun e W' => e = .returned (errV Ad (dErr x)) ∧ Below W.heap.size W W' := default_any Ad W hE x
end Go.Proofs.YtbfjijiakkopeaaDoor.Sc
