/- A trail: a row of texts that is grown and used again. -/
import Derived.Test.YtkhhiddemihnbaaDoorKa
import Derived.Test.YtkhhiddemihnbaaDoorRows
import Derived.WalkKit
import Derived.Laws.OwnMore
import Derived.Deep.AppendSrc
namespace Go.Proofs.YtkhhiddemihnbaaDoor
open Go.RowKit
theorem hid {p : Prop} (h : p) : Hid p := h
def sv (s : ByteArray) : Value := .string s
theorem sv_one (l : List ByteArray) : ∀ u ∈ l.map sv, u.oneCell' = true := by
  intro u hu
  obtain ⟨c, _, rfl⟩ := List.mem_map.1 hu
  rfl
/-- A row of texts. -/
def isRow (o : Obj) : Prop := ∃ cur, o = .cells cur 9 (0, 0)
theorem isRow_cells (o : Obj) (h : isRow o) : o.isCells = true := by obtain ⟨_, rfl⟩ := h; rfl
/-- A row of texts or of errors. -/
def isKept (o : Obj) : Prop := ∃ cur, o = .cells cur 9 (0, 0) ∨ o = .cells cur 42 (0, 0)
/-- The trail that v is. -/
def Trail (B : Nat) (w : World) (v : Value) (ts : List ByteArray) : Prop := w.ownsRow B 9 1 v ts.length (ts.map sv)
/-- What was a trail, no longer than n, is one. -/
def Olds (B n : Nat) (w w' : World) : Prop := ∀ u ys, Trail B w u ys → ys.length ≤ n → Trail B w' u ys
theorem own_later {w w' : World} {B n : Nat} {e : TypeId} {v : Value} {xs : List Value} (h : w.ownsRow B e 1 v n xs) (hb : ∀ g cur, v.ownBlock = some g → w.heap[g]? = some (.cells cur e (0, 0)) → w'.heap[g]? = some (.cells cur e (0, 0))) : w'.ownsRow B e 1 v n xs := by
  refine ⟨h.1, ?_⟩
  rcases h.2 with h1 | ⟨g, cap, cur, h1, h2, h3, h4⟩
  · exact .inl h1
  · exact .inr ⟨g, cap, cur, h1, h2, hb g cur (by rw [h1]; rfl) h3, h4⟩
theorem Trail.kept {B N : Nat} {w w' : World} {v : Value} {ts : List ByteArray} (h : Trail B w v ts) (ht : Turn (fun o => ¬ isKept o) N w w') : Trail B w' v ts :=
  own_later h fun g cur _ hg => ht.block g _ hg (.inr fun q => q ⟨cur, .inl rfl⟩)
theorem Trail.grown {B : Nat} {w w' : World} {v : Value} {ts : List ByteArray} (h : Trail B w v ts) (hb : Below w.heap.size w w') : Trail B w' v ts :=
  own_later h fun g _ _ hg => (hb.block g (Array.getElem?_eq_some_iff.1 hg).1).trans hg
theorem Tryd.info9 : (Tryd.prog.info? 9).map (fun i => (i.zero, i.size, i.bytes)) = some (some (.string ⟨#[]⟩), 1, 16) := by kernel_rfl
theorem info_parts {x : Option TypeInfo} {z : Option Value} {s b : Nat} (h : x.map (fun i => (i.zero, i.size, i.bytes)) = some (z, s, b)) : ∃ i, x = some i ∧ i.zero = z ∧ i.size = s ∧ i.bytes = b := by
  cases x with
  | none => simp at h
  | some i => simp at h; exact ⟨i, rfl, h.1, h.2.1, h.2.2⟩
theorem add_at (g j : Nat) : (⟨g, 0, none⟩ : Addr).add j = ⟨g, j, none⟩ := by unfold Addr.add; split <;> simp_all
/-- append of one text onto a trail. -/
theorem run_trail (w : World) (ty : TypeId) (B : Nat) (v : Value) (ts : List ByteArray) (h : Trail B w v ts) (g : Nat) (t : ByteArray) (hg : w.cell? ⟨g, 0, none⟩ = some (.string t)) (hl : ts.length ≤ 1000) (hB : B ≤ w.heap.size) :
    ∃ v' w', (Builtin.append_ #[84, 84] ty #[v, .slice (some ⟨g, 0, none⟩) 1 1]).run Tryd.prog w = .ok v' w' ∧ Trail B w' v' (ts ++ [t]) ∧ Olds B ts.length w w' ∧ Turn isRow B w w' := by
  obtain ⟨i, hi, hz, hs, hby⟩ := info_parts Tryd.info9
  have hnews : ∀ j u, [Value.string t][j]? = some u → w.cell? ((⟨g, 0, none⟩ : Addr).add j) = some u := by
    intro j u hu
    cases j with
    | zero => simp at hu; subst hu; rw [add_at]; exact hg
    | succ j => simp at hu
  have h1 : ∀ u ∈ [Value.string t], u.oneCell' = true := by intro u hu; simp at hu; subst hu; rfl
  have hlen : (ts ++ [t]).length = ts.length + 1 := by simp
  have hmap : (ts ++ [t]).map sv = ts.map sv ++ [.string t] := by simp [sv]
  have fresh : ∀ (cap : Nat) (cur : Array Value), ts.length + 1 ≤ cap → cap ≤ maxLen → cur.size = cap → cur.toList.take (ts.length + 1) = ts.map sv ++ [.string t] →
      Trail B (w.drew.alloc (.cells cur 9)) (.slice (some ⟨w.heap.size, 0, none⟩) (ts.length + 1) cap) (ts ++ [t]) ∧ Olds B ts.length w (w.drew.alloc (.cells cur 9)) ∧ Turn isRow B w (w.drew.alloc (.cells cur 9)) := by
    intro cap cur hc hm hsz htk
    have hbl : Below w.heap.size w (w.drew.alloc (.cells cur 9)) := (Below.refl _ _).drew.alloc (Nat.le_refl _) _
    refine ⟨?_, fun u ys hu _ => hu.grown hbl, Turn.of_below hbl⟩
    unfold Trail
    rw [hlen, hmap]
    exact ⟨by simp, .inr ⟨w.heap.size, cap, cur, rfl, hB, heap_alloc_new w.drew _, hc, hm, by simpa using hsz, by simpa using htk⟩⟩
  rcases h.2 with ⟨hv, h0⟩ | ⟨b, cap, cur, hv, hb, hblk, hnc, hcm, hcs, htk⟩
  · have hts : ts = [] := List.eq_nil_of_length_eq_zero h0
    subst hts
    subst hv
    have hr := run_append_nil (P := Tryd.prog) w 84 ty 9 i (.string ⟨#[]⟩) Tryd.underlying84 hi hz ⟨g, 0, none⟩ 1 1 [.string t] (by simp [hs]) hnews (by decide) (by decide) (by rw [hby]; decide)
    have hge := grownCap_ge w 1 0 9
    refine ⟨_, _, hr, fresh _ _ hge (grownCap_le_maxLen w 1 0 9 (by simp [maxLen])) ?_ ?_⟩
    · simp [size_zeroCells]; simp [Value.cells]; omega
    · simp
  · subst hv
    by_cases hroom : ts.length + 1 ≤ cap
    · have hcell : ∀ j, j < [Value.string t].length → (w.cell? ⟨b, 0 + ts.length * i.size + j, none⟩).isSome = true := by
        intro j hj
        simp at hj
        subst hj
        rw [hs]
        simp [World.cell?, hblk]
        omega
      have hfro : ∀ j, j < [Value.string t].length → w.frozen? ⟨b, 0 + ts.length * i.size + j, none⟩ = false := by
        intro j hj
        simp at hj
        subst hj
        exact h.frozenAt _
      have hr := run_append_room_src (P := Tryd.prog) w 84 84 ty 9 i Tryd.underlying84 hi b 0 ts.length cap (.slice (some ⟨g, 0, none⟩) 1 1) 1 [.string t] (Src.ofSlice w Tryd.underlying84 ⟨g, 0, none⟩ 1 1 [.string t] (by simp [hs]) hnews h1) hroom hcell hfro
      have hset : w.setCells b (0 + ts.length * i.size) [.string t] = w.setCell ⟨b, ts.length, none⟩ (.string t) := by simp [World.setCells, hs]
      rw [hset] at hr
      refine ⟨_, _, hr, ?_, ?_, ?_⟩
      · unfold Trail
        rw [hlen, hmap]
        refine ⟨by simp, .inr ⟨b, cap, cur.setIfInBounds ts.length (.string t), rfl, hb, heap_setCell_same w b ts.length cur 9 (.string t) hblk, hroom, hcm, by simpa using hcs, ?_⟩⟩
        have hsz : ts.length < cur.toList.length := by simp; omega
        simp only [Nat.mul_one] at htk ⊢
        rw [Array.toList_setIfInBounds, List.take_succ_eq_append_getElem (by simpa using hsz), List.take_set_of_le (Nat.le_refl _), htk]
        simp
      · intro u ys hu hle
        rcases hu.2 with h2 | ⟨g', cap', cur', h2, h3⟩
        · exact ⟨hu.1, .inl h2⟩
        · by_cases e : g' = b
          · subst e
            subst h2
            have h4 := (World.ownsRow.stored hu ts.length (.string t)).1
            have h5 : (ys.map sv).set ts.length (.string t) = ys.map sv := List.set_eq_of_length_le (by simpa using hle)
            rw [h5] at h4
            exact h4
          · exact own_later hu fun g2 cur2 hg2 hh => by
              rw [Below.heap_setCell _ _ _ _ (fun e2 => e (by rw [h2] at hg2; simp [Value.ownBlock] at hg2; exact hg2.trans e2))]; exact hh
      · refine ⟨rfl, rfl, rfl, by simp, fun k o ho hp => ?_⟩
        by_cases e : k = b
        · subst e
          rw [hblk] at ho
          cases ho
          rcases hp with hp | hp
          · omega
          · exact absurd ⟨cur, rfl⟩ hp
        · rw [Below.heap_setCell _ _ _ _ (by exact e)]; exact ho
    · have hfit : Builtin.nextslicecap (ts.length + 1) cap * i.bytes ≤ 281474976710656 := growslice_fits (by omega) (by rw [hby]; omega)
      have holds : ∀ j u, (ts.map sv)[j]? = some u → w.cell? ((⟨b, 0, none⟩ : Addr).add j) = some u := World.ownsRow.cells h (g := b) rfl
      have hr := run_append_grow (P := Tryd.prog) w 84 ty 9 i (.string ⟨#[]⟩) Tryd.underlying84 hi hz ⟨b, 0, none⟩ ts.length cap (ts.map sv) (by simp [hs]) holds ⟨g, 0, none⟩ 1 1 [.string t] (by simp [hs]) hnews (by omega) (by omega) hfit
      have hge := grownCap_ge w (ts.length + 1) cap 9
      refine ⟨_, _, hr, fresh _ _ hge (grownCap_le_maxLen w _ cap 9 (by simp [maxLen]; omega)) ?_ ?_⟩
      · simp [size_zeroCells]; simp [Value.cells]; omega
      · simp only [Array.toList_append, List.append_assoc]
        rw [← List.append_assoc]
        exact List.take_left' (by simp)
end Go.Proofs.YtkhhiddemihnbaaDoor
