/- RollOnce: what holds of those that were given. -/
import Derived.Test.YtdpoojopipcffaaDoorRj
namespace Go.Proofs.YtdpoojopipcffaaDoor
open Go.RowKit Go.Shelf Go.Maps
theorem filter_lt (l : List Nat) (k : Nat) : (l.filter fun x => decide (x < k + 1)).length = (l.filter fun x => decide (x < k)).length + l.count k := by
  induction l with
  | nil => rfl
  | cons a l ih =>
    by_cases h1 : a < k
    · have h2 : a < k + 1 := by omega
      have h3 : a ≠ k := by omega
      simp only [List.filter_cons, h1, h2, decide_true, if_true, List.length_cons, List.count_cons, ih]
      simp [h3]
      omega
    · by_cases h2 : a = k
      · subst h2
        simp only [List.filter_cons, List.count_cons]
        simp [ih]
        omega
      · have h3 : ¬ a < k + 1 := by omega
        simp only [List.filter_cons, h1, h3, decide_false, List.count_cons]
        simp [ih, h2]
theorem RS.upto_count {r : RS} (h : r.free.Nodup) (k : Nat) : (r.upto k).length + (r.free.filter fun x => decide (x < k)).length = k := by
  induction k with
  | zero => simp [RS.upto]
  | succ k ih =>
    rw [filter_lt, h.count]
    unfold RS.upto
    split
    · omega
    · simp only [List.length_append, List.length_singleton]; omega
theorem RS.all_count {r : RS} (h : r.ok) : r.all.length = r.count := by
  have h1 := RS.upto_count h.1 r.gens.length
  have h2 : (r.free.filter fun x => decide (x < r.gens.length)) = r.free := List.filter_eq_self.2 fun x hx => by simpa using h.2 x hx
  rw [h2] at h1
  unfold RS.all RS.count
  omega
def trues (al : List Bool) : Nat := al.count true
/-- Those that were given, and which of them are alive. -/
structure Once (r : RS) (gl : List (Nat × Nat)) (al : List Bool) : Prop where
  len : gl.length = al.length
  at' : ∀ (j : Nat) p, gl[j]? = some p → al[j]? = some (r.aliveB (p.1 : Int) (p.2 : Int))
  apart : gl.Nodup
  past : ∀ p ∈ gl, p.1 < r.gens.length ∧ p.2 ≤ r.gens.getD p.1 0
  many : trues al = r.count
theorem Once.start (n : Nat) : Once (RS.fresh n) [] [] := ⟨rfl, fun j p h => by simp at h, List.nodup_nil, fun p h => by simp at h, by simp [trues, RS.count, RS.fresh]⟩
theorem getD_set {l : List Nat} {i j x : Nat} : (l.set i x).getD j 0 = if i = j ∧ j < l.length then x else l.getD j 0 := by
  simp only [List.getD_eq_getElem?_getD, List.getElem?_set]
  by_cases h : i = j
  · subst h
    by_cases h2 : i < l.length
    · simp [h2]
    · simp [h2]
  · simp [h]
theorem Once.took {r : RS} {gl : List (Nat × Nat)} {al : List Bool} {f : List Nat} {i : Nat} (h : Once r gl al) (hok : r.ok) (hf : r.free = f ++ [i]) : Once (r.took i) (gl ++ [(i, r.gens.getD i 0 + 1)]) (al ++ [true]) := by
  have hi : i < r.gens.length := hok.2 i (by rw [hf]; simp)
  have hnew : (i, r.gens.getD i 0 + 1) ∉ gl := fun hm => by have := (h.past _ hm).2; simp at this; omega
  refine ⟨by simp [h.len], fun j p hj => ?_, ?_, fun p hp => ?_, ?_⟩
  · by_cases hjl : j < gl.length
    · rw [List.getElem?_append_left hjl] at hj
      rw [List.getElem?_append_left (by rw [← h.len]; exact hjl), h.at' j p hj, RS.took_alive hok hf, if_neg]
      rintro ⟨e1, e2⟩
      refine hnew ?_
      have : p = (i, r.gens.getD i 0 + 1) := Prod.ext (Int.ofNat.inj e1) (Int.ofNat.inj e2)
      exact this ▸ List.mem_of_getElem? hj
    · rw [List.getElem?_append_right (by omega)] at hj
      rw [List.getElem?_append_right (by rw [← h.len]; omega)]
      have hj0 : j - gl.length = 0 := by
        have := (List.getElem?_eq_some_iff.1 hj).1
        simp at this
        omega
      rw [hj0] at hj
      rw [← h.len, hj0]
      simp at hj
      subst hj
      rw [RS.took_alive hok hf, if_pos ⟨rfl, rfl⟩]
      rfl
  · rw [List.nodup_append]
    exact ⟨h.apart, by simp, fun x hx y hy e => by simp at hy; subst hy; exact hnew (e ▸ hx)⟩
  · rw [RS.took_len]
    simp only [RS.took, getD_set]
    rcases List.mem_append.1 hp with hp | hp
    · obtain ⟨a, b⟩ := h.past p hp
      refine ⟨a, ?_⟩
      split
      · rename_i e; rw [← e.1] at b; omega
      · exact b
    · simp at hp
      subst hp
      exact ⟨hi, by simp [hi]⟩
  · have h1 := h.many
    have h2 : r.free.length = f.length + 1 := by rw [hf]; simp
    have h3 : r.free.length ≤ r.gens.length := by
      have := RS.upto_count hok.1 r.gens.length
      have e2 : (r.free.filter fun x => decide (x < r.gens.length)) = r.free := List.filter_eq_self.2 fun x hx => by simpa using hok.2 x hx
      rw [e2] at this
      omega
    unfold trues at h1 ⊢
    unfold RS.count at h1 ⊢
    rw [RS.took_len, RS.took_count hf, List.count_append, h1]
    simp
    omega
theorem count_set (al : List Bool) (k : Nat) (h : al[k]? = some true) : trues (al.set k false) + 1 = trues al := by
  unfold trues
  induction al generalizing k with
  | nil => simp at h
  | cons a al ih =>
    cases k with
    | zero => simp at h; subst h; simp
    | succ k =>
      have := ih k (by simpa using h)
      simp only [List.set_cons_succ, List.count_cons]
      omega
theorem set_self (al : List Bool) (k : Nat) (h : al[k]? = some false) : al.set k false = al := by
  apply List.ext_getElem?
  intro j
  rw [List.getElem?_set]
  split
  · rename_i e; subst e
    obtain ⟨h1, h2⟩ := List.getElem?_eq_some_iff.1 h
    rw [if_pos h1, h]
  · rfl
theorem Once.freed {r : RS} {gl : List (Nat × Nat)} {al : List Bool} {k : Nat} {p : Nat × Nat} (h : Once r gl al) (hok : r.ok) (hk : gl[k]? = some p) (ha : r.aliveB (p.1 : Int) (p.2 : Int) = true) : Once (r.freed p.1) gl (al.set k false) := by
  have hal := h.at' k p hk
  rw [ha] at hal
  refine ⟨by simp [h.len], fun j q hj => ?_, h.apart, h.past, ?_⟩
  · have hf := RS.freed_alive ha (q.1 : Int) (q.2 : Int)
    rw [Int.toNat_natCast] at hf
    rw [hf, List.getElem?_set]
    by_cases e : k = j
    · subst e
      obtain rfl : p = q := by rw [hk] at hj; simpa using hj
      have := (List.getElem?_eq_some_iff.1 hal).1
      simp [this]
    · have hne : p ≠ q := fun e' => by
        subst e'
        obtain ⟨h1, e1⟩ := List.getElem?_eq_some_iff.1 hk
        obtain ⟨h2, e2⟩ := List.getElem?_eq_some_iff.1 hj
        exact e ((List.getElem_inj h.apart).1 (e1.trans e2.symm))
      rw [if_neg e, h.at' j q hj, if_neg]
      rintro ⟨e1, e2⟩
      exact hne (Prod.ext (Int.ofNat.inj e1.symm) (Int.ofNat.inj e2.symm))
  · have h1 := count_set al k hal
    have h2 := h.many
    obtain ⟨a, b, c, d⟩ := (RS.aliveB_iff _ _ _).1 ha
    have h3 : (r.freed p.1).ok := by have := RS.freed_ok hok ha; simpa using this
    have h4 := RS.upto_count h3.1 (r.freed p.1).gens.length
    have e2 : ((r.freed p.1).free.filter fun x => decide (x < (r.freed p.1).gens.length)) = (r.freed p.1).free := List.filter_eq_self.2 fun x hx => by simpa using h3.2 x hx
    rw [e2] at h4
    unfold RS.count at h2 ⊢
    simp only [RS.freed, List.length_append, List.length_singleton] at h4 ⊢
    omega
theorem Once.dead {r : RS} {gl : List (Nat × Nat)} {al : List Bool} {k : Nat} {p : Nat × Nat} (h : Once r gl al) (hk : gl[k]? = some p) (ha : r.aliveB (p.1 : Int) (p.2 : Int) = false) : Once r gl (al.set k false) := by
  rw [set_self al k (by rw [h.at' k p hk, ha])]
  exact h
/-- A row of bools. -/
def Bools (B : Nat) (W : World) (v : Value) (l : List Bool) : Prop := W.ownsRow B 4 1 v l.length (l.map Value.bool)
theorem infoBool : (Tryd.prog.info? 4).map (fun i => (i.zero, i.size, i.bytes)) = some (some (.bool false), 1, 1) := by kernel_rfl
/-- append of true. -/
theorem wpList_bool {ops : Array Oper} {rest : List Oper} {o : Oper} {a : Act} {Q : Exit → Act → World → Prop} (hgd : o.guard = none) (s x : Operand)
    (ho : o.op = .call { callee := .builtin .append, args := #[s, x], argTypes := #[50, 50] }) {B : Nat} {wc : World} {v : Value} {l : List Bool} {b : Bool} (hown : Bools B wc v l) (hl : l.length ≤ 1000) (hB : B ≤ wc.heap.size)
    (hs : a.eval s = v) (hx : a.eval x = .slice (some ⟨wc.heap.size, 0, none⟩) 1 1)
    (h : ∀ v' w2, Hid (Bools B w2 v' (l ++ [b])) → Hid (St (fun x => v.ownBlock = some x) wc w2) → Hid (v'.ownBlock = v.ownBlock ∨ ∃ x, v'.ownBlock = some x ∧ wc.heap.size ≤ x) → wpList Tryd.prog ops Q rest (a.put o.dst v') w2) :
    wpList Tryd.prog ops Q (o :: rest) a (wc.alloc (.cells #[.bool b] 4)) := by
  obtain ⟨i0, hi, hz0, hz1, hz2⟩ := info_parts infoBool
  have hb : Below wc.heap.size wc (wc.alloc (.cells #[.bool b] 4)) := bAl _ _
  have ho2 : (wc.alloc (.cells #[.bool b] 4)).ownsRow B 4 1 v l.length (l.map Value.bool) := hown.alloc _
  have hz : (wc.alloc (.cells #[.bool b] 4)).heap.size = wc.heap.size + 1 := by simp
  refine wpList_append_lies _ hgd s x 50 ho B 4 i0 (.bool false) 1 1 Tryd.underlying50 hi hz0 hz1 hz2 rfl (by decide) v l.length (l.map Value.bool) hs ho2 ⟨wc.heap.size, 0, none⟩ 1 1 [.bool b] hx rfl (fun j u hu => by
    rw [add_at]
    match j, hu with
    | 0, hu => simp at hu; subst hu; exact new_cell wc _ 4
    | j + 1, hu => simp at hu) (by intro u hu; simp at hu; subst hu; rfl) (by decide) (by unfold maxLen; omega) (by omega) (by omega) (wc.heap.size + 1) hz ?_
  intro g' cap w2 ow hg hat hlt
  refine h _ w2 ?_ ((St.of_below hb).trans (St.of_grown (S := fun x => v.ownBlock = some x) hg fun k e => e) fun _ _ q => q) ?_
  · show World.ownsRow _ _ _ _ _ _ _
    rw [List.map_append, List.length_append]
    exact ow
  · rcases hat with h1 | h1
    · exact .inl (by rw [h1]; rfl)
    · exact .inr ⟨g', rfl, by omega⟩
theorem Ents.kept {B : Nat} {W W' : World} {v : Value} {l : List (Nat × Nat)} {T : Nat → Prop} (h : Ents B W v l) (hs : St T W W') (hn : ∀ x : Nat, v.ownBlock = Option.some x → ¬ T x) : Ents B W' v l := by
  refine ⟨h.1, ?_⟩
  rcases h.2 with h1 | ⟨g, cap, cur, h1, h2, h3, h4⟩
  · exact .inl h1
  · exact .inr ⟨g, cap, cur, h1, h2, hs.at h3 (hn g (by rw [h1]; rfl)), h4⟩
theorem Bools.kept {B : Nat} {W W' : World} {v : Value} {l : List Bool} {T : Nat → Prop} (h : Bools B W v l) (hs : St T W W') (hn : ∀ x, v.ownBlock = some x → ¬ T x) : Bools B W' v l := by
  refine ⟨h.1, ?_⟩
  rcases h.2 with h1 | ⟨g, cap, cur, h1, h2, h3, h4⟩
  · exact .inl h1
  · exact .inr ⟨g, cap, cur, h1, h2, hs.at h3 (hn g (by rw [h1]; rfl)), h4⟩
theorem rows_apart {B B' : Nat} {W : World} {v u : Value} {l : List (Nat × Nat)} {m : List Bool} (h : Ents B W v l) (h' : Bools B' W u m) (x : Nat) (hx : v.ownBlock = some x) : u.ownBlock ≠ some x := fun hu => by
  rcases h.2 with ⟨h1, _⟩ | ⟨g, cap, cur, h1, h2, h3, h4⟩
  · rw [h1] at hx; simp [Value.ownBlock] at hx
  · rcases h'.2 with ⟨k1, _⟩ | ⟨g', cap', cur', k1, k2, k3, k4⟩
    · rw [k1] at hu; simp [Value.ownBlock] at hu
    · rw [h1] at hx
      rw [k1] at hu
      obtain rfl : g = x := by simpa [Value.ownBlock] using hx
      obtain rfl : g' = g := by simpa [Value.ownBlock] using hu
      rw [h3] at k3
      simp at k3
end Go.Proofs.YtdpoojopipcffaaDoor
