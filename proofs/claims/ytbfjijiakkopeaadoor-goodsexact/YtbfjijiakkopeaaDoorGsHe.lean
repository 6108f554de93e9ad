/- GoodsExact: both goods side by side. -/
import Derived.Test.YtbfjijiakkopeaaDoorGsHd
namespace Go.Proofs.YtbfjijiakkopeaaDoor.Gs
open Go.RowKit Go.Shelf Go.Maps
open Go.Proofs.YtbfjijiakkopeaaDoor.Sc (Cmp Rsc CmpRow RscRow SmallC SmallQ checkL)
/-- Both goods, and blocks beside them. -/
structure Ex (W1 : World) (gb mb : Nat) (v : Value) (ns : List ByteArray) (ub : Nat) (va vb uv : Value) (l : List Int) (n : Nat) (l' : List Int) (n' : Nat) (fr : List (Nat × Obj)) (w : World) : Prop where
  gd : Gd W1.heap.size w gb mb v ns l n
  ru : Ru W1.heap.size w ub va vb uv l' n'
  bel : Below W1.heap.size W1 w
  ap : ∀ k, v.ownBlock = some k → uv.ownBlock ≠ some k
  fr' : ∀ x ∈ fr, w.heap[x.1]? = some x.2 ∧ ¬ Fz gb mb v x.1 ∧ x.1 ≠ ub ∧ uv.ownBlock ≠ some x.1
section
variable {W1 w w' : World} {gb mb ub : Nat} {v va vb uv : Value} {ns : List ByteArray} {l l' : List Int} {n n' : Nat} {fr : List (Nat × Obj)} {Ad : Nat → Addr}
theorem Ex.later (h : Ex W1 gb mb v ns ub va vb uv l n l' n' fr w) (hb : Below w.heap.size w w') : Ex W1 gb mb v ns ub va vb uv l n l' n' fr w' :=
  ⟨h.gd.later hb, h.ru.later hb, h.bel.trans (hb.mono h.bel.size), h.ap, fun x hx => ⟨blk_seen hb (Nat.le_refl _) (h.fr' x hx).1, (h.fr' x hx).2⟩⟩
theorem Ex.ub_ne (h : Ex W1 gb mb v ns ub va vb uv l n l' n' fr w) : ¬ Fz gb mb v ub := by
  rintro (e | e | e)
  · have h1 := h.gd.box; rw [← e, h.ru.box] at h1; simp at h1
  · obtain ⟨es, cl, q⟩ := h.gd.map.obj; rw [← e, h.ru.box] at q; cases q
  · obtain ⟨cur, q⟩ := h.gd.row_at e; rw [h.ru.box] at q; simp at q
theorem Ex.uv_ne (h : Ex W1 gb mb v ns ub va vb uv l n l' n' fr w) {k : Nat} (hk : uv.ownBlock = some k) : ¬ Fz gb mb v k := by
  obtain ⟨cur, hc⟩ := h.ru.row_at hk
  rintro (e | e | e)
  · have h1 := h.gd.box; rw [← e, hc] at h1; simp at h1
  · obtain ⟨es, cl, q⟩ := h.gd.map.obj; rw [← e, hc] at q; cases q
  · exact h.ap k e hk
theorem Ex.stepG {l2 : List Int} {n2 : Nat} (h : Ex W1 gb mb v ns ub va vb uv l n l' n' fr w) (hg : Gd W1.heap.size w' gb mb v ns l2 n2) (hs : St (Ft gb v) w w') : Ex W1 gb mb v ns ub va vb uv l2 n2 l' n' fr w' :=
  ⟨hg, h.ru.kept hs (fun k hk q => by
    rcases hk with rfl | hk
    · exact h.ub_ne q.all
    · exact h.uv_ne hk q.all), h.bel.trans (hs.below (B := W1.heap.size) (fun k hk => (h.gd.lt k hk.all).1) h.bel.size), h.ap, fun x hx => ⟨hs.at (h.fr' x hx).1 (fun q => (h.fr' x hx).2.1 q.all), (h.fr' x hx).2⟩⟩
theorem Ex.stepR {l2 : List Int} {n2 : Nat} {uv' : Value} (h : Ex W1 gb mb v ns ub va vb uv l n l' n' fr w) (hr : Ru W1.heap.size w' ub va vb uv' l2 n2) (hn : ∀ q, uv'.ownBlock = some q → w.heap.size ≤ q) (hs : St (fun q => q = ub) w w') : Ex W1 gb mb v ns ub va vb uv' l n l2 n2 fr w' := by
  refine ⟨h.gd.kept hs (fun k hk q => h.ub_ne (q ▸ hk)), hr, h.bel.trans (hs.below (B := W1.heap.size) (fun k hk => by rw [hk]; exact h.ru.low) h.bel.size), fun k hk q => ?_, fun x hx => ?_⟩
  · have := hn k q
    have := (h.gd.lt k (.inr (.inr hk))).2
    omega
  · obtain ⟨q1, q2, q3, q4⟩ := h.fr' x hx
    refine ⟨hs.at q1 q3, q2, q3, fun q => ?_⟩
    have := hn x.1 q
    have := (Array.getElem?_eq_some_iff.1 q1).1
    omega
theorem Ex.alloc (h : Ex W1 gb mb v ns ub va vb uv l n l' n' fr w) (cs : Array Value) (ty : TypeId) : Ex W1 gb mb v ns ub va vb uv l n l' n' ((w.heap.size, .cells cs ty (0, 0)) :: fr) (w.alloc (.cells cs ty)) := by
  have h' := h.later (bAl w (.cells cs ty))
  refine ⟨h'.gd, h'.ru, h'.bel, h'.ap, fun x hx => ?_⟩
  rcases List.mem_cons.1 hx with rfl | hx
  · exact ⟨heap_alloc_new w _, fun q => by have := (h.gd.lt _ q).2; omega, fun q => by have := (h.ru.lt ub (.inl rfl)).2; simp at q; omega, fun q => by have := (h.ru.lt _ (.inr q)).2; simp at this⟩
  · exact h'.fr' x hx
theorem Ex.at (h : Ex W1 gb mb v ns ub va vb uv l n l' n' fr w) {k : Nat} {o : Obj} (hk : (k, o) ∈ fr) : w.heap[k]? = some o := (h.fr' _ hk).1
theorem Ex.few (h : Ex W1 gb mb v ns ub va vb uv l n l' n' fr w) {fr2 : List (Nat × Obj)} (hf : ∀ x ∈ fr2, x ∈ fr) : Ex W1 gb mb v ns ub va vb uv l n l' n' fr2 w := ⟨h.gd, h.ru, h.bel, h.ap, fun x hx => h.fr' x (hf x hx)⟩
end
/-- An error of a call, by its number. -/
def FE (Ad : Nat → Addr) (w : World) (ev : Value) (k : Nat) : Prop := (ev = .nilIface ∧ k = 0) ∨ ∃ t q, ev = .iface t q ∧ Err Ad w ev k 1
theorem ch_kept {Ad : Nat → Addr} {N n₀ k : Nat} {W W' : World} {S : Nat → Prop} (hs : ∀ b, b < n₀ → ¬ S b → W'.heap[b]? = W.heap[b]?) (hn : ∀ b, S b → ∀ str, W.cell? ⟨b, 0, none⟩ ≠ some (.string str)) (hN : n₀ ≤ N) : ∀ {ws : List ByteArray} {v : Value}, Ch Ad n₀ W k ws v → Ch Ad N W' k ws v
  | [], _, hc => hc
  | _ :: _, _, ⟨b, inner, hv, hb, c0, c1, hi⟩ => by
    have e : W'.heap[b]? = W.heap[b]? := hs b hb fun q => hn b q _ c0
    refine ⟨b, inner, hv, by omega, ?_, ?_, ch_kept hs hn hN hi⟩
    · rw [← c0]; simp only [World.cell?, e]
    · rw [← c1]; simp only [World.cell?, e]
theorem FE.later {Ad : Nat → Addr} {w w' : World} {ev : Value} {k : Nat} (h : FE Ad w ev k) (hb : Below w.heap.size w w') : FE Ad w' ev k := by
  rcases h with h | ⟨t, q, h1, h2⟩
  · exact .inl h
  · exact .inr ⟨t, q, h1, h2.later hb⟩
theorem FE.keep {Ad : Nat → Addr} {w w' : World} {ev : Value} {k ub : Nat} {a b : Option Addr} {x c : Nat} (h : FE Ad w ev k) (hs : St (fun q => q = ub) w w') (hc : w.cell? ⟨ub, 0, none⟩ = some (.slice a x c)) (_hb : b = a) : FE Ad w' ev k := by
  rcases h with h | ⟨t, q, h1, ws, h2, h3⟩
  · exact .inl h
  · refine .inr ⟨t, q, h1, ws, ch_kept (S := fun q => q = ub) (fun b hb hn => hs.block b hb hn) (fun b hb str e => ?_) hs.size h2, h3⟩
    rw [hb, hc] at e
    cases e
theorem num_fe {Ad : Nat → Addr} {w : World} {ev : Value} {k : Nat} (hE : Env w Ad) (h : FE Ad w ev k) : Calls Tryd.prog 13 #[ev] w fun e w' => e = .returned (.int .i64 (k : Int)) ∧ Below w.heap.size w w' := by
  rcases h with ⟨rfl, rfl⟩ | ⟨t, q, rfl, ws, h⟩
  · exact (number_nil w).mono fun _ _ ⟨q1, q2⟩ => ⟨q1, by rw [q2]; exact Below.refl _ _⟩
  · have := number_some Ad _ [(ws, k)] 1 w hE h.tr (by omega) ⟨t, q, rfl⟩
    have hk := h.2
    simp only at hk
    obtain ⟨j, rfl⟩ : ∃ j, k = j + 1 := ⟨k - 1, by omega⟩
    rw [show ([(ws, j + 1)].map Prod.snd) = [j + 1] from rfl, numOf_one j (by omega)] at this
    exact this
/-- The answers of Set. -/
def sK (l : List Int) (i : Int) : Nat := if (numAt l i).isSome then 0 else 7
def sL (l : List Int) (i x : Int) : List Int := if (numAt l i).isSome then l.set i.toNat x else l
def sN (l : List Int) (i : Int) (n : Nat) : Nat := if (numAt l i).isSome then n + 1 else n
theorem sN_le (l : List Int) (i : Int) (n : Nat) : sN l i n ≤ n + 1 := by unfold sN; split <;> omega
theorem sL_len (l : List Int) (i x : Int) : (sL l i x).length = l.length := by unfold sL; split <;> simp
/-- The answers of Put. -/
def pK (l xs : List Int) : Nat := if xs.length = l.length then 0 else 1
def pL (l xs : List Int) : List Int := if xs.length = l.length then xs else l
def pN (l xs : List Int) (n : Nat) : Nat := if xs.length = l.length then n + dif l xs l.length else n
section
variable {W1 w : World} {gb mb ub : Nat} {v va vb : Value} {ns : List ByteArray} {l l' : List Int} {n n' : Nat} {fr : List (Nat × Obj)} {Ad : Nat → Addr}
/-- Both goods, wherever the document's row lies. -/
def Es (W1 : World) (gb mb : Nat) (v : Value) (ns : List ByteArray) (ub : Nat) (va vb : Value) (l : List Int) (n : Nat) (l' : List Int) (n' : Nat) (fr : List (Nat × Obj)) (w : World) : Prop := ∃ uv, Ex W1 gb mb v ns ub va vb uv l n l' n' fr w
theorem Es.later {w' : World} (h : Es W1 gb mb v ns ub va vb l n l' n' fr w) (hb : Below w.heap.size w w') : Es W1 gb mb v ns ub va vb l n l' n' fr w' := by
  obtain ⟨uv, h⟩ := h; exact ⟨uv, h.later hb⟩
theorem Es.bel (h : Es W1 gb mb v ns ub va vb l n l' n' fr w) : Below W1.heap.size W1 w := by obtain ⟨uv, h⟩ := h; exact h.bel
theorem Es.gd (h : Es W1 gb mb v ns ub va vb l n l' n' fr w) : Gd W1.heap.size w gb mb v ns l n := by obtain ⟨uv, h⟩ := h; exact h.gd
theorem Es.at (h : Es W1 gb mb v ns ub va vb l n l' n' fr w) {k : Nat} {o : Obj} (hk : (k, o) ∈ fr) : w.heap[k]? = some o := by obtain ⟨uv, h⟩ := h; exact h.at hk
theorem Es.env (h : Es W1 gb mb v ns ub va vb l n l' n' fr w) (hE : Env W1 Ad) : Env w Ad := hE.later h.bel
theorem p_set (h : Es W1 gb mb v ns ub va vb l n l' n' fr w) (hE : Env W1 Ad) (hn : n ≤ 10000) (i x : Int) :
    Calls Tryd.prog 11 #[.pointer (some ⟨gb, 0, none⟩), .int .i64 i, .int .i64 x] w fun e w' => ∃ ev, e = .returned (.tuple #[.int .i64 ((numAt l i).getD 0), ev]) ∧ FE Ad w' ev (sK l i) ∧ Es W1 gb mb v ns ub va vb (sL l i x) (sN l i n) l' n' fr w' := by
  obtain ⟨uv, h⟩ := h
  unfold sK sL sN
  cases hq : numAt l i with
  | none =>
    refine (set_out h.gd (hE.later h.bel).eight i x hq).mono ?_
    rintro e w' ⟨t, q, rfl, h1, h2⟩
    exact ⟨_, rfl, .inr ⟨t, q, rfl, h1⟩, uv, h.later h2⟩
  | some y =>
    obtain ⟨k, rfl, hk, hy⟩ := numAt_in hq
    refine (set_in h.gd (by omega) k x y hy).mono ?_
    rintro e w' ⟨rfl, h1, h2⟩
    exact ⟨_, rfl, .inl ⟨rfl, rfl⟩, uv, h.stepG h1 h2⟩
theorem d_set (h : Es W1 gb mb v ns ub va vb l n l' n' fr w) (hva : ∃ a m c, va = .slice a m c) (hn : n' ≤ 10000) (i x : Int) :
    Calls Tryd.prog 12 #[.pointer (some ⟨ub, 0, none⟩), .int .i64 i, .int .i64 x] w fun e w' => e = .returned (.tuple #[.int .i64 ((numAt l' i).getD 0), .int .i64 (sK l' i : Int)]) ∧ Es W1 gb mb v ns ub va vb l n (sL l' i x) (sN l' i n') fr w' ∧ (∀ ev k, FE Ad w ev k → FE Ad w' ev k) := by
  obtain ⟨uv, h⟩ := h
  unfold sK sL sN
  cases hq : numAt l' i with
  | none =>
    refine (rset_out h.ru i x hq).mono ?_
    rintro e w' ⟨rfl, rfl⟩
    exact ⟨rfl, ⟨uv, h⟩, fun _ _ q => q⟩
  | some y =>
    obtain ⟨k, rfl, hk, hy⟩ := numAt_in hq
    refine (rset_in h.ru h.bel.size (by omega) k x y hy).mono ?_
    rintro e w' ⟨rfl, ⟨uv', h1, h3⟩, h2⟩
    obtain ⟨a, m, c, rfl⟩ := hva
    exact ⟨rfl, ⟨uv', h.stepR h1 h3 h2⟩, fun ev k q => q.keep (b := a) h2 (cell_blk h.ru.box rfl) rfl⟩
theorem p_add (h : Es W1 gb mb v ns ub va vb l n l' n' fr w) (hE : Env W1 Ad) (hn : n ≤ 10000) (i x : Int) :
    Calls Tryd.prog 15 #[.pointer (some ⟨gb, 0, none⟩), .int .i64 i, .int .i64 x] w fun e w' => ∃ ev, e = .returned (.tuple #[.int .i64 (if (numAt l i).isSome then wrap64 ((numAt l i).getD 0 + x) else 0), ev]) ∧ FE Ad w' ev (sK l i) ∧ Es W1 gb mb v ns ub va vb (sL l i (wrap64 ((numAt l i).getD 0 + x))) (sN l i n) l' n' fr w' := by
  obtain ⟨uv, h⟩ := h
  unfold sK sL sN
  cases hq : numAt l i with
  | none =>
    refine (add_out h.gd (hE.later h.bel).eight i x hq).mono ?_
    rintro e w' ⟨t, q, rfl, h1, h2⟩
    exact ⟨_, rfl, .inr ⟨t, q, rfl, h1⟩, uv, h.later h2⟩
  | some y =>
    obtain ⟨k, rfl, hk, hy⟩ := numAt_in hq
    refine (add_in h.gd (by omega) k x y hy).mono ?_
    rintro e w' ⟨rfl, h1, h2⟩
    exact ⟨_, rfl, .inl ⟨rfl, rfl⟩, uv, h.stepG h1 h2⟩
/-- The error of Put, by its number. -/
def PE (Ad : Nat → Addr) (w : World) (ev : Value) (k : Nat) : Prop := (ev = .nilIface ∧ k = 0) ∨ ∃ t q ls d, ev = .iface t q ∧ Tr Ad w.heap.size w d ev ls ∧ d ≤ 1000 ∧ numOf (ls.map Prod.snd) = (k : Int)
theorem num_pe {Ad : Nat → Addr} {w : World} {ev : Value} {k : Nat} (hE : Env w Ad) (h : PE Ad w ev k) : Calls Tryd.prog 13 #[ev] w fun e w' => e = .returned (.int .i64 (k : Int)) ∧ Below w.heap.size w w' := by
  rcases h with ⟨rfl, rfl⟩ | ⟨t, q, ls, d, rfl, h1, h2, h3⟩
  · exact (number_nil w).mono fun _ _ ⟨q1, q2⟩ => ⟨q1, by rw [q2]; exact Below.refl _ _⟩
  · have := number_some Ad _ ls d w hE h1 h2 ⟨t, q, rfl⟩
    rw [h3] at this
    exact this
theorem numOf_ones {ls : List Nat} (h : ∀ x ∈ ls, x = 1) (h0 : ls ≠ []) : numOf ls = 1 := by
  have hm : 1 ∈ ls := by
    cases ls with
    | nil => exact absurd rfl h0
    | cons x t => rw [h x (by simp)]; simp
  unfold numOf
  have e : firstK ls 18 0 = 0 := by
    have := firstK_step (ns := ls) (k := 0) (by omega)
    rw [if_pos hm] at this
    exact this
  rw [e]
  rfl
theorem lrow_v {S : Nat → Prop} {W w : World} {u : Value} {xs : List Int} (h : LRow W u xs) (hb : Below W.heap.size W w) (hS : ∀ k, S k → W.heap.size ≤ k) : VRow S w u xs := by
  obtain ⟨a, c, h1, h2⟩ := h
  refine ⟨a, c, h1, ?_⟩
  by_cases h0 : xs = []
  · exact .inl h0
  · rcases h2 with h2 | ⟨b, o, h3, h4⟩
    · exact .inl h2
    · refine .inr ⟨b, o, h3, fun q => ?_, fun j x hx => seen hb (Nat.le_refl _) (h4 j x hx)⟩
      obtain ⟨x, hx⟩ := at_lt xs 0 (List.length_pos_iff.2 h0)
      have := World.block_lt_of_cell? W _ (h4 0 x hx)
      have := hS b q
      simp at *
      omega
theorem p_put (h : Es W1 gb mb v ns ub va vb l n l' n' fr w) (hE : Env W1 Ad) (hn : n ≤ 10000) (u : Value) (xs : List Int) (hx : LRow W1 u xs) (hl : xs.length ≤ 40) :
    Calls Tryd.prog 16 #[.pointer (some ⟨gb, 0, none⟩), u] w fun e w' => ∃ ev, e = .returned ev ∧ PE Ad w' ev (pK l xs) ∧ Es W1 gb mb v ns ub va vb (pL l xs) (pN l xs n) l' n' fr w' := by
  obtain ⟨uv, h⟩ := h
  unfold pK pL pN
  by_cases hq : xs.length = l.length
  · simp only [if_pos hq]
    refine (put_ok h.gd (hE.later h.bel).eight (by omega) u xs (lrow_v hx h.bel fun k hk => (h.gd.lt k hk.all).1) hq).mono ?_
    rintro e w' ⟨rfl, h1, h2⟩
    exact ⟨_, rfl, .inl ⟨rfl, rfl⟩, uv, h.stepG h1 h2⟩
  · simp only [if_neg hq]
    obtain ⟨a, c, rfl, -⟩ := hx
    refine (put_bad h.gd (hE.later h.bel).eight a xs.length c (by omega) hq).mono ?_
    rintro e w' ⟨b, s, t, q, rfl, h1, h2, h3⟩
    refine ⟨_, rfl, .inr ⟨_, _, _, 4, rfl, Tr.blame 3 b s _ _ (Array.getElem?_eq_some_iff.1 h1).1 (cell_blk h1 rfl) (cell_blk h1 rfl) h2.tr, by omega, ?_⟩, uv, h.later h3⟩
    rw [List.map_map]
    refine numOf_ones (fun x hx => ?_) fun e => ?_
    · obtain ⟨p, hp, rfl⟩ := List.mem_map.1 hx
      exact amL_one p hp
    · exact amL_ne hq (List.map_eq_nil_iff.1 e)
theorem d_put (h : Es W1 gb mb v ns ub va vb l n l' n' fr w) (hn : n' ≤ 10000) (u : Value) (xs : List Int) (hx : LRow W1 u xs) :
    Calls Tryd.prog 17 #[.pointer (some ⟨ub, 0, none⟩), u] w fun e w' => e = .returned (.int .i64 (pK l' xs : Int)) ∧ Es W1 gb mb v ns ub va vb l n (pL l' xs) (pN l' xs n') fr w' := by
  obtain ⟨uv, h⟩ := h
  unfold pK pL pN
  by_cases hq : xs.length = l'.length
  · simp only [if_pos hq]
    refine (rput_ok h.ru h.bel.size (by omega) u xs (lrow_v hx h.bel fun k hk => by rw [hk]; exact h.ru.low) hq).mono ?_
    rintro e w' ⟨rfl, ⟨uv', h1, h3⟩, h2⟩
    exact ⟨rfl, uv', h.stepR h1 h3 h2⟩
  · simp only [if_neg hq]
    obtain ⟨a, c, rfl, -⟩ := hx
    refine (rput_bad h.ru a xs.length c hq).mono ?_
    rintro e w' ⟨rfl, rfl⟩
    exact ⟨rfl, uv, h⟩
theorem p_get (h : Es W1 gb mb v ns ub va vb l n l' n' fr w) (hE : Env W1 Ad) (i : Int) :
    Calls Tryd.prog 18 #[.pointer (some ⟨gb, 0, none⟩), .int .i64 i] w fun e w' => e = .returned (.tuple #[.int .i64 ((numAt l i).getD 0), .bool (numAt l i).isSome]) ∧ w' = w := by
  obtain ⟨uv, h⟩ := h
  exact get_any h.gd (hE.later h.bel).eight i
theorem d_get (h : Es W1 gb mb v ns ub va vb l n l' n' fr w) (i : Int) :
    Calls Tryd.prog 14 #[.pointer (some ⟨ub, 0, none⟩), .int .i64 i] w fun e w' => e = .returned (.tuple #[.int .i64 ((numAt l' i).getD 0), .bool (numAt l' i).isSome]) ∧ w' = w := by
  obtain ⟨uv, h⟩ := h
  exact rget_any h.ru i
theorem Es.n3 (h : Es W1 gb mb v ns ub va vb l n l' n' fr w) : w.cell? ⟨ub, 3, none⟩ = some (.int .i64 (n' : Int)) := by obtain ⟨uv, h⟩ := h; exact h.ru.c3
theorem Es.n2 (h : Es W1 gb mb v ns ub va vb l n l' n' fr w) : ∃ a c, w.cell? ⟨ub, 2, none⟩ = some (.slice a l'.length c) ∧ LRow w (.slice a l'.length c) l' ∧ ∀ w', Below w.heap.size w w' → w'.cell? ⟨ub, 2, none⟩ = some (.slice a l'.length c) := by
  obtain ⟨uv, h⟩ := h
  obtain ⟨a, c, rfl⟩ := h.ru.slice
  exact ⟨a, c, h.ru.c2, own_lrow h.ru.row, fun w' hb => (h.ru.later hb).c2⟩
end
/-- Both goods, made. -/
theorem ex_made {W1 w2 w3 : World} {gb mb ub : Nat} {v va vb uv : Value} {ns : List ByteArray} {l : List Int} (h1 : Gd W1.heap.size w2 gb mb v ns l 0) (b1 : Below W1.heap.size W1 w2) (h2 : Ru w2.heap.size w3 ub va vb uv l 0) (b2 : Below w2.heap.size w2 w3) : Es W1 gb mb v ns ub va vb l 0 l 0 [] w3 := by
  refine ⟨uv, h1.later b2, ⟨h2.box, ?_, Nat.le_trans b1.size h2.low, h2.few⟩, b1.trans (b2.mono b1.size), fun k hk q => ?_, fun x hx => by simp at hx⟩
  · refine ⟨h2.row.1, ?_⟩
    rcases h2.row.2 with q | ⟨g, cap, cur, q1, q2, q3⟩
    · exact .inl q
    · exact .inr ⟨g, cap, cur, q1, Nat.le_trans b1.size q2, q3⟩
  · have := (h1.lt k (.inr (.inr hk))).2
    have := (h2.row.lt k q).1
    omega
end Go.Proofs.YtbfjijiakkopeaaDoor.Gs
