/- Check: what it comes to, and how it stands. -/
import Derived.Test.YtbfjijiakkopeaaDoorScSd
namespace Go.Proofs.YtbfjijiakkopeaaDoor.Sc
open Go.RowKit Go.Shelf
structure Rsc where
  s : ByteArray
  n : Int
def CmpRow (W : World) (v : Value) (cs : List Cmp) : Prop := ∃ a c, v = .slice a cs.length c ∧ cs.length ≤ c ∧ (cs = [] ∨ ∃ b o, a = some ⟨b, o, none⟩ ∧ ∀ (j : Nat) (x : Cmp), cs[j]? = some x →
  W.cell? ⟨b, o + j * 7, none⟩ = some (.string x.s) ∧ W.cell? ⟨b, o + j * 7 + 1, none⟩ = some (.int .i64 x.wd) ∧ W.cell? ⟨b, o + j * 7 + 2, none⟩ = some (.bool x.rb) ∧ W.cell? ⟨b, o + j * 7 + 3, none⟩ = some (.int .i64 x.d0) ∧ W.cell? ⟨b, o + j * 7 + 4, none⟩ = some (.int .i64 x.d1) ∧ W.cell? ⟨b, o + j * 7 + 5, none⟩ = some (.int .i64 x.d2) ∧ W.cell? ⟨b, o + j * 7 + 6, none⟩ = some (.int .i64 x.d3))
def RscRow (W : World) (v : Value) (rs : List Rsc) : Prop := ∃ a c, v = .slice a rs.length c ∧ rs.length ≤ c ∧ (rs = [] ∨ ∃ b o, a = some ⟨b, o, none⟩ ∧ ∀ (j : Nat) (x : Rsc), rs[j]? = some x →
  W.cell? ⟨b, o + j * 2, none⟩ = some (.string x.s) ∧ W.cell? ⟨b, o + j * 2 + 1, none⟩ = some (.int .i64 x.n))
theorem CmpRow.later {W W' : World} {v : Value} {cs : List Cmp} (h : CmpRow W v cs) (hb : Below W.heap.size W W') : CmpRow W' v cs := by
  obtain ⟨a, c, h1, h2, h3⟩ := h
  refine ⟨a, c, h1, h2, h3.imp id ?_⟩
  rintro ⟨b, o, ha, hc⟩
  refine ⟨b, o, ha, fun j x hx => ?_⟩
  obtain ⟨c0, c1, c2, c3, c4, c5, c6⟩ := hc j x hx
  have S := fun {p : Addr} {u : Value} (h : W.cell? p = some u) => Below.seen hb (Nat.le_refl _) h
  exact ⟨S c0, S c1, S c2, S c3, S c4, S c5, S c6⟩
theorem RscRow.later {W W' : World} {v : Value} {rs : List Rsc} (h : RscRow W v rs) (hb : Below W.heap.size W W') : RscRow W' v rs := by
  obtain ⟨a, c, h1, h2, h3⟩ := h
  refine ⟨a, c, h1, h2, h3.imp id ?_⟩
  rintro ⟨b, o, ha, hc⟩
  refine ⟨b, o, ha, fun j x hx => ?_⟩
  obtain ⟨c0, c1⟩ := hc j x hx
  exact ⟨Below.seen hb (Nat.le_refl _) c0, Below.seen hb (Nat.le_refl _) c1⟩
abbrev Leaves := List (List ByteArray × Nat)
def bComps : ByteArray := ⟨#[99, 111, 109, 112, 111, 110, 101, 110, 116, 115]⟩
def bRes : ByteArray := ⟨#[114, 101, 115, 111, 117, 114, 99, 101, 115]⟩
def bName : ByteArray := ⟨#[110, 97, 109, 101]⟩
def bWidth : ByteArray := ⟨#[119, 105, 100, 116, 104]⟩
def bDefault : ByteArray := ⟨#[100, 101, 102, 97, 117, 108, 116]⟩
def at3 (l : ByteArray) (i : Nat) (p : ByteArray) (ns : List Nat) : Leaves := ns.map fun k => ([l, dig i, p], k)
def seenTo (ns : List ByteArray) : List ByteArray := ns.foldl seenB []
theorem seenTo_snoc (ns : List ByteArray) (s : ByteArray) : seenTo (ns ++ [s]) = seenB (seenTo ns) s := by simp [seenTo, List.foldl_append]
def leafC (acc : List ByteArray) (i : Nat) (c : Cmp) : Leaves := at3 bComps i bName (nErr acc c.s) ++ (at3 bComps i bWidth (wErr c) ++ at3 bComps i bDefault (dErr c))
def compL (cs : List Cmp) : Nat → Leaves
  | 0 => []
  | k + 1 => compL cs k ++ (match cs[k]? with | some c => leafC (seenTo ((cs.take k).map Cmp.s)) k c | none => [])
def resL (cs : List Cmp) (rs : List Rsc) : Nat → Leaves
  | 0 => []
  | k + 1 => resL cs rs k ++ (match rs[k]? with | some r => at3 bRes k bName (nErr (seenTo (cs.map Cmp.s ++ (rs.take k).map Rsc.s)) r.s) | none => [])
def manyL (l : ByteArray) (m n : Nat) : Leaves := if (m : Int) < (n : Int) then [([l], 4)] else []
def checkL (cs : List Cmp) (rs : List Rsc) : Leaves := manyL bComps 16 cs.length ++ compL cs cs.length ++ (manyL bRes 8 rs.length ++ resL cs rs rs.length)
theorem nErr_len (acc : List ByteArray) (s : ByteArray) : (nErr acc s).length ≤ 1 ∧ ∀ k ∈ nErr acc s, 1 ≤ k ∧ k ≤ 18 := by
  unfold nErr
  split
  · split <;> simp
  · simp
theorem wErr_len (c : Cmp) : (wErr c).length ≤ 1 ∧ ∀ k ∈ wErr c, 1 ≤ k ∧ k ≤ 18 := by
  unfold wErr
  split <;> simp
theorem dErr_len (c : Cmp) : (dErr c).length ≤ 1 ∧ ∀ k ∈ dErr c, 1 ≤ k ∧ k ≤ 18 := by
  unfold dErr
  split <;> simp
theorem at3_len (l : ByteArray) (i : Nat) (p : ByteArray) (ns : List Nat) : (at3 l i p ns).length = ns.length := by simp [at3]
theorem leafC_len (acc : List ByteArray) (i : Nat) (c : Cmp) : (leafC acc i c).length ≤ 3 := by
  have h1 := (nErr_len acc c.s).1
  have h2 := (wErr_len c).1
  have h3 := (dErr_len c).1
  simp only [leafC, List.length_append, at3_len]
  omega
theorem compL_len (cs : List Cmp) : ∀ k, (compL cs k).length ≤ 3 * k
  | 0 => by simp [compL]
  | k + 1 => by
    have ih := compL_len cs k
    simp only [compL, List.length_append]
    cases cs[k]? with
    | none => simp; omega
    | some c => have := leafC_len (seenTo ((cs.take k).map Cmp.s)) k c; simp only []; omega
theorem resL_len (cs : List Cmp) (rs : List Rsc) : ∀ k, (resL cs rs k).length ≤ k
  | 0 => by simp [resL]
  | k + 1 => by
    have ih := resL_len cs rs k
    simp only [resL, List.length_append]
    cases rs[k]? with
    | none => simp; omega
    | some r => have := (nErr_len (seenTo (cs.map Cmp.s ++ (rs.take k).map Rsc.s)) r.s).1; simp only [at3_len]; omega
/-- How Check stands: the names that are taken, the errors so far. -/
structure Ckd (Ad : Nat → Addr) (w : World) (mb B n : Nat) (acc : List ByteArray) (ev : Value) (us : List (Value × Leaves)) (wr : World) : Prop where
  map : MapN wr mb n acc
  row : wr.ownsRow B 30 1 ev us.length (us.map Prod.fst)
  nt : ∀ g, ev.ownBlock = some g → NoText wr g
  one : ∀ u ∈ us, One Ad wr.heap.size wr u.1 u.2
  bel : Below w.heap.size w wr
  low : w.heap.size ≤ mb ∧ mb < B
  high : B ≤ wr.heap.size
theorem noText_map {W : World} {mb n : Nat} {acc : List ByteArray} (h : MapN W mb n acc) : NoText W mb := by
  intro s hs
  obtain ⟨es, clock, hb, -⟩ := h
  simp [World.cell?, hb] at hs
theorem NoText.later {W W' : World} {g : Nat} (h : NoText W g) (hb : W'.heap[g]? = W.heap[g]?) : NoText W' g := fun s hs => h s ((World.cell?_of_block (a := ⟨g, 0, none⟩) hb).symm.trans hs)
variable {Ad : Nat → Addr} {w wr w1 : World} {mb B n : Nat} {acc : List ByteArray} {ev : Value} {us : List (Value × Leaves)}
theorem Ckd.later (h : Ckd Ad w mb B n acc ev us wr) (hb : Below wr.heap.size wr w1) : Ckd Ad w mb B n acc ev us w1 :=
  ⟨h.map.later hb, own_more h.row hb, fun g hg => (h.nt g hg).later (hb.block g (h.row.lt g hg).2), fun u hu => (h.one u hu).move hb hb.size, h.bel.trans (hb.mono h.bel.size), h.low, Nat.le_trans h.high hb.size⟩
theorem Ckd.took {acc' : List ByteArray} (h : Ckd Ad w mb B n acc ev us wr) (hm : MapN w1 mb (n + 1) acc') (hg : wr.grownBy w1 (some mb)) : Ckd Ad w mb B (n + 1) acc' ev us w1 := by
  have hne : ∀ g, ev.ownBlock = some g → some g ≠ some mb := fun g hgb e => by
    have := (h.row.lt g hgb).1
    have := h.low.2
    simp at e; omega
  refine ⟨hm, h.row.kept hg ?_, fun g hgb => (h.nt g hgb).later (hg.block g (h.row.lt g hgb).2 (hne g hgb)), fun u hu => (h.one u hu).grown hg (Nat.le_refl _) (noText_map h.map), ?_, h.low, Nat.le_trans h.high hg.size⟩
  · cases hb : ev.ownBlock with
    | none => exact .inl rfl
    | some g => exact .inr (hne g hb)
  · exact h.bel.grown hg h.bel.size (fun k hk => by simp at hk; rw [← hk]; exact h.low.1)
end Go.Proofs.YtbfjijiakkopeaaDoor.Sc
