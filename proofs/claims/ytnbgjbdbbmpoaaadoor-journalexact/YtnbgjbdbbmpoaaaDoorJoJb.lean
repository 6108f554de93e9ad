/- For a journal: rows that may begin anywhere in their block. -/
import Derived.Test.YtnbgjbdbbmpoaaaDoorJoJa
namespace Go.Proofs.YtnbgjbdbbmpoaaaDoor.Jo
open Go.RowKit Go.Shelf Go.Maps
/-- A row of n elements of sz cells each, somewhere in a block of that type. -/
def Lie (W : World) (e : TypeId) (sz : Nat) (v : Value) (n : Nat) (xs : List Value) : Prop :=
  xs.length = n * sz ∧ ((v = .slice none 0 0 ∧ n = 0) ∨ ∃ g off cap cur, v = .slice (some ⟨g, off, none⟩) n cap ∧ W.heap[g]? = some (.cells cur e (0, 0)) ∧ n ≤ cap ∧ cap ≤ maxLen ∧ off + cap * sz ≤ cur.size ∧ ∀ j, j < n * sz → cur[off + j]? = xs[j]?)
section
variable {W W' : World} {e : TypeId} {sz : Nat} {v : Value} {n : Nat} {xs : List Value}
theorem lie_nil (W : World) (e : TypeId) (sz : Nat) : Lie W e sz (.slice none 0 0) 0 [] := ⟨by simp, .inl ⟨rfl, rfl⟩⟩
theorem Lie.of_own {base : Nat} (h : W.ownsRow base e sz v n xs) : Lie W e sz v n xs := by
  refine ⟨h.1, h.2.elim .inl fun ⟨g, cap, cur, h1, h2, h3, h4, h5, h6, h7⟩ => .inr ⟨g, 0, cap, cur, h1, h3, h4, h5, by omega, fun j hj => ?_⟩⟩
  rw [← h7, List.getElem?_take, if_pos hj]
  simp
theorem Lie.kept {T : Nat → Prop} (h : Lie W e sz v n xs) (hs : St T W W') (hn : ∀ x, v.ownBlock = some x → ¬ T x) : Lie W' e sz v n xs := by
  refine ⟨h.1, h.2.elim .inl fun ⟨g, off, cap, cur, h1, h2, h3⟩ => .inr ⟨g, off, cap, cur, h1, ?_, h3⟩⟩
  exact hs.at h2 (hn g (by rw [h1]; rfl))
theorem Lie.later (h : Lie W e sz v n xs) (hb : Below W.heap.size W W') : Lie W' e sz v n xs := h.kept (T := fun _ => False) (St.of_below hb) fun _ _ q => q
theorem Lie.lt (h : Lie W e sz v n xs) (k : Nat) (hk : v.ownBlock = some k) : k < W.heap.size := by
  rcases h.2 with ⟨rfl, -⟩ | ⟨g, off, cap, cur, rfl, h2, -⟩
  · simp [Value.ownBlock] at hk
  · obtain rfl : g = k := by simpa [Value.ownBlock] using hk
    exact (Array.getElem?_eq_some_iff.1 h2).1
theorem Lie.typ (h : Lie W e sz v n xs) {k : Nat} (hk : v.ownBlock = some k) : ∃ cur, W.heap[k]? = some (.cells cur e (0, 0)) := by
  rcases h.2 with ⟨rfl, -⟩ | ⟨g, off, cap, cur, rfl, h2, -⟩
  · simp [Value.ownBlock] at hk
  · obtain rfl : g = k := by simpa [Value.ownBlock] using hk
    exact ⟨cur, h2⟩
theorem Lie.form (h : Lie W e sz v n xs) : ∃ a c, v = .slice a n c := by
  rcases h.2 with ⟨rfl, rfl⟩ | ⟨g, off, cap, cur, rfl, -⟩
  · exact ⟨_, _, rfl⟩
  · exact ⟨_, _, rfl⟩
/-- Where a row that is not empty lies. -/
theorem Lie.pos (h : Lie W e sz v n xs) (hn : 0 < n) : ∃ g off cap, v = .slice (some ⟨g, off, none⟩) n cap ∧ n ≤ cap ∧ cap ≤ maxLen ∧ ∀ j, j < n * sz → W.cell? ⟨g, off + j, none⟩ = xs[j]? := by
  rcases h.2 with ⟨rfl, rfl⟩ | ⟨g, off, cap, cur, rfl, h2, h3, h4, h5, h6⟩
  · omega
  · exact ⟨g, off, cap, rfl, h3, h4, fun j hj => (cell_of_row W g (off + j) cur e (0, 0) h2).trans (h6 j hj)⟩
theorem setCells_blk {b : Nat} {e : TypeId} : ∀ (vs : List Value) (o : Nat) (w : World) (cs : Array Value), w.heap[b]? = some (.cells cs e (0, 0)) → ∃ cs', (w.setCells b o vs).heap[b]? = some (.cells cs' e (0, 0)) ∧ cs'.size = cs.size
  | [], _, _, cs, h => ⟨cs, h, rfl⟩
  | v :: r, o, w, cs, h => by
    have h1 := heap_setCell_same w b o _ e v h
    obtain ⟨cs', a1, a2⟩ := setCells_blk r (o + 1) _ _ h1
    exact ⟨cs', a1, by rw [a2]; simp⟩
theorem setCells_st {b : Nat} : ∀ (vs : List Value) (o : Nat) (w : World), St (fun k => k = b) w (w.setCells b o vs)
  | [], _, _ => St.of_below (Below.refl _ _)
  | v :: r, o, _ => (St.setCell (S := fun k => k = b) (p := ⟨b, o, none⟩) v rfl).trans (setCells_st r (o + 1) _) fun _ _ q => q
/-- Cells set behind one another: which cells there are now. -/
theorem setCells_at {b : Nat} {e : TypeId} {vs : List Value} {o : Nat} {w : World} {cs : Array Value} (h : w.heap[b]? = some (.cells cs e (0, 0))) (hf : o + vs.length ≤ cs.size) : ∃ cs', (w.setCells b o vs).heap[b]? = some (.cells cs' e (0, 0)) ∧ cs'.size = cs.size ∧ (∀ j, j < o → cs'[j]? = cs[j]?) ∧ (∀ j, j < vs.length → cs'[o + j]? = vs[j]?) := by
  obtain ⟨cs', h1, h2⟩ := setCells_blk vs o w cs h
  have hsome : ∀ j, j < vs.length → (w.cell? ⟨b, o + j, none⟩).isSome = true := fun j hj => by
    rw [cell_of_row w b (o + j) cs e (0, 0) h, Array.getElem?_eq_getElem (by omega)]
    rfl
  refine ⟨cs', h1, h2, fun j hj => ?_, fun j hj => ?_⟩
  · have q := World.cell?_setCells_out b vs o w ⟨b, j, none⟩ (fun _ _ => .inl hj)
    rw [cell_of_row _ b j cs' e (0, 0) h1, cell_of_row _ b j cs e (0, 0) h] at q
    exact q
  · have q := World.cell?_setCells_in b vs o w hsome j hj
    rw [cell_of_row _ b (o + j) cs' e (0, 0) h1] at q
    rw [q, List.getElem?_eq_getElem hj]
/-- One element more. -/
theorem Lie.more {t : TypeId} {i : TypeInfo} {z : Value} {bytes : Nat} (h : Lie W e sz v n xs) (ty : TypeId) (ht : Tryd.prog.underlying t = some (.slice e)) (hi : Tryd.prog.info? e = some i) (hz : i.zero = some z)
    (hsize : i.size = sz) (hby : i.bytes = bytes) (hzs : z.cells.size = sz) (hsz : 0 < sz) (a : Addr) (c : Nat) (news : List Value) (hl : news.length = sz) (hnews : ∀ j u, news[j]? = some u → W.cell? (a.add j) = some u) (h1 : ∀ u ∈ news, u.oneCell' = true)
    (h63 : n + 1 ≤ maxLen) (hbytes : (n + 1) * bytes ≤ 140737488355328) :
    ∃ v' w', (Builtin.append_ #[t, t] ty #[v, .slice (some a) 1 c]).run Tryd.prog W = .ok v' w' ∧ Lie w' e sz v' (n + 1) (xs ++ news) ∧ St (fun k => v.ownBlock = some k) W w' ∧ ∀ k, v'.ownBlock = some k → v.ownBlock = some k ∨ W.heap.size ≤ k := by
  have hlen : (xs ++ news).length = (n + 1) * sz := by rw [List.length_append, h.1, hl, Nat.add_mul, Nat.one_mul]
  rcases h.2 with ⟨rfl, rfl⟩ | ⟨g, off, cap, cur, rfl, h2, h3, h4, h5, h6⟩
  · obtain rfl : xs = [] := List.eq_nil_of_length_eq_zero (by simpa using h.1)
    obtain ⟨v', w', hr, r1, r2, -⟩ := run_append_own (P := Tryd.prog) W W.heap.size t ty e i z sz bytes ht hi hz hsize hby hzs hsz (.slice none 0 0) 0 [] (World.ownsRow_nil W _ e sz) a 1 c news (by rw [hl, Nat.one_mul]) hnews h1 (by simpa using h63) (by simpa using hbytes) (Nat.le_refl _)
    exact ⟨v', w', hr, Lie.of_own (by simpa using r1), St.of_grown r2 fun k q => (by simp [Value.ownBlock] at q), fun k hk => .inr (r1.lt k hk).1⟩
  · by_cases hroom : n + 1 ≤ cap
    · have hm : (n + 1) * sz ≤ cap * sz := Nat.mul_le_mul_right _ hroom
      rw [Nat.add_mul, Nat.one_mul] at hm
      have hfit : off + n * sz + news.length ≤ cur.size := by omega
      have hcl : ∀ j, j < news.length → (W.cell? ⟨g, off + n * i.size + j, none⟩).isSome = true := fun j hj => by
        rw [hsize, cell_of_row W g _ cur e (0, 0) h2, Array.getElem?_eq_getElem (by omega)]
        rfl
      have hr := run_append_room_cells (P := Tryd.prog) W t ty e i ht hi g off n cap a 1 c news (by rw [hl, hsize, Nat.one_mul]) hnews h1 hroom hcl (fun j hj => blk_free h2 _)
      rw [hsize] at hr
      obtain ⟨cs', a1, a2, a3, a4⟩ := setCells_at (vs := news) (o := off + n * sz) h2 hfit
      refine ⟨_, _, hr, ⟨hlen, .inr ⟨g, off, cap, cs', rfl, a1, hroom, h4, by omega, fun j hj => ?_⟩⟩, (setCells_st news _ W).trans (St.refl (fun k => (Value.slice (some ⟨g, off, none⟩) n cap).ownBlock = some k) _) (fun _ _ q => by simpa [Value.ownBlock] using q.symm) |> fun s => ⟨s.os, s.tape, s.output, s.size, fun k hk hn => s.block k hk fun q => hn (by rw [q]; rfl)⟩, fun k hk => .inl (by simpa [Value.ownBlock] using hk)⟩
      rw [Nat.add_mul, Nat.one_mul] at hj
      have hx := h.1
      by_cases hj2 : j < n * sz
      · rw [a3 (off + j) (by omega), h6 j hj2, List.getElem?_append_left (by omega)]
      · have := a4 (j - n * sz) (by omega)
        rw [show off + n * sz + (j - n * sz) = off + j by omega] at this
        rw [this, List.getElem?_append_right (by omega), hx]
    · obtain ⟨v', w', hr, r1, r2⟩ := run_append_arg_grows (P := Tryd.prog) W t ty e i z sz bytes ht hi hz hsize hby hzs hsz ⟨g, off, none⟩ n cap xs h.1 (fun j u hu => by
        rw [Addr.add_lit]
        have hj := (List.getElem?_eq_some_iff.1 hu).1
        rw [cell_of_row W g (off + j) cur e (0, 0) h2, h6 j (by rw [← h.1]; exact hj)]
        exact hu) a 1 c news (by rw [hl, Nat.one_mul]) hnews (by omega) h63 hbytes
      exact ⟨v', w', hr, Lie.of_own r1, St.of_grown r2 fun k q => (by cases q), fun k hk => .inr (r1.lt k hk).1⟩
/-- The first elements alone. -/
theorem Lie.low {g off cap : Nat} (h : Lie W e sz (.slice (some ⟨g, off, none⟩) n cap) n xs) (m : Nat) (hm : m ≤ n) : Lie W e sz (.slice (some ⟨g, off, none⟩) m cap) m (xs.take (m * sz)) := by
  have hmn : m * sz ≤ n * sz := Nat.mul_le_mul_right _ hm
  refine ⟨by rw [List.length_take, h.1]; omega, ?_⟩
  rcases h.2 with ⟨q, -⟩ | ⟨g', off', cap', cur, q, h2, h3, h4, h5, h6⟩
  · cases q
  · obtain ⟨rfl, rfl, rfl⟩ : g = g' ∧ off = off' ∧ cap = cap' := by simpa [and_assoc] using q
    exact .inr ⟨g, off, cap, cur, rfl, h2, by omega, h4, h5, fun j hj => by rw [h6 j (by omega), List.getElem?_take, if_pos hj]⟩
/-- The last elements alone. -/
theorem Lie.high {g off cap : Nat} (h : Lie W e sz (.slice (some ⟨g, off, none⟩) n cap) n xs) (m : Nat) (hm : m ≤ n) : Lie W e sz (.slice (some ⟨g, off + m * sz, none⟩) (n - m) (cap - m)) (n - m) (xs.drop (m * sz)) := by
  have hmn : m * sz ≤ n * sz := Nat.mul_le_mul_right _ hm
  refine ⟨by rw [List.length_drop, h.1, Nat.sub_mul], ?_⟩
  rcases h.2 with ⟨q, -⟩ | ⟨g', off', cap', cur, q, h2, h3, h4, h5, h6⟩
  · cases q
  · obtain ⟨rfl, rfl, rfl⟩ : g = g' ∧ off = off' ∧ cap = cap' := by simpa [and_assoc] using q
    have hmc : m * sz ≤ cap * sz := Nat.mul_le_mul_right _ (by omega)
    refine .inr ⟨g, off + m * sz, cap - m, cur, rfl, h2, by omega, by omega, by rw [Nat.sub_mul]; omega, fun j hj => ?_⟩
    rw [Nat.sub_mul] at hj
    rw [List.getElem?_drop, ← h6 (m * sz + j) (by omega), Nat.add_assoc]
/-- A cell set: the row behind it. -/
theorem Lie.put {g off cap : Nat} (h : Lie W e sz (.slice (some ⟨g, off, none⟩) n cap) n xs) (j : Nat) (u : Value) (hj : j < n * sz) : Lie (W.setCell ⟨g, off + j, none⟩ u) e sz (.slice (some ⟨g, off, none⟩) n cap) n (xs.set j u) := by
  refine ⟨by rw [List.length_set]; exact h.1, ?_⟩
  rcases h.2 with ⟨q, -⟩ | ⟨g', off', cap', cur, q, h2, h3, h4, h5, h6⟩
  · cases q
  · obtain ⟨rfl, rfl, rfl⟩ : g = g' ∧ off = off' ∧ cap = cap' := by simpa [and_assoc] using q
    have h7 := heap_setCell_same W g (off + j) _ e u h2
    refine .inr ⟨g, off, cap, _, rfl, h7, h3, h4, by simpa using h5, fun k hk => ?_⟩
    have hm : n * sz ≤ cap * sz := Nat.mul_le_mul_right _ h3
    have hx := h.1
    rw [Array.getElem?_setIfInBounds, List.getElem?_set]
    by_cases q : j = k
    · subst q
      rw [if_pos rfl, if_pos rfl, if_pos (by omega), if_pos (by omega)]
    · rw [if_neg (by omega), if_neg q]
      exact h6 k hk
end
end Go.Proofs.YtnbgjbdbbmpoaaaDoor.Jo
