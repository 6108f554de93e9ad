/- Badges, and blocks beside them; errors that were told before; rows of numbers. -/
import Derived.Test.YtiebbedpjogjfaaDoorBdBl
namespace Go.Proofs.YtiebbedpjogjfaaDoor.Bd
open Go.RowKit Go.Shelf Go.Maps
theorem ch_kept {Ad : Nat → Addr} {N n₀ k : Nat} {W W' : World} {S : Nat → Prop} (hs : ∀ b, b < n₀ → ¬ S b → W'.heap[b]? = W.heap[b]?) (hn : ∀ b, S b → ∀ str, W.cell? ⟨b, 0, none⟩ ≠ some (.string str)) (hN : n₀ ≤ N) : ∀ {ws : List ByteArray} {v : Value}, Ch Ad n₀ W k ws v → Ch Ad N W' k ws v
  | [], _, hc => hc
  | _ :: _, _, ⟨b, inner, hv, hb, c0, c1, hi⟩ => by
    have e : W'.heap[b]? = W.heap[b]? := hs b hb fun q => hn b q _ c0
    refine ⟨b, inner, hv, by omega, ?_, ?_, ch_kept hs hn hN hi⟩
    · rw [← c0]; simp only [World.cell?, e]
    · rw [← c1]; simp only [World.cell?, e]
/-- Badges, and blocks beside them. -/
structure Bw (W1 : World) (bb ob nb : Nat) (n : Int) (l : Prs) (fr : List (Nat × Obj)) (w : World) : Prop where
  bg : Bg W1.heap.size w bb ob nb n l
  bel : Below W1.heap.size W1 w
  fr' : ∀ x ∈ fr, w.heap[x.1]? = some x.2 ∧ ¬ Ft bb ob nb x.1
section
variable {W1 w w' : World} {bb ob nb : Nat} {n : Int} {l : Prs} {fr : List (Nat × Obj)} {Ad : Nat → Addr}
theorem Bw.later (h : Bw W1 bb ob nb n l fr w) (hb : Below w.heap.size w w') : Bw W1 bb ob nb n l fr w' :=
  ⟨h.bg.later hb, h.bel.trans (hb.mono h.bel.size), fun x hx => ⟨blk_seen hb (Nat.le_refl _) (h.fr' x hx).1, (h.fr' x hx).2⟩⟩
theorem Bw.alloc (h : Bw W1 bb ob nb n l fr w) (cs : Array Value) (ty : TypeId) : Bw W1 bb ob nb n l ((w.heap.size, .cells cs ty (0, 0)) :: fr) (w.alloc (.cells cs ty)) := by
  have h' := h.later (bAl w (.cells cs ty))
  refine ⟨h'.bg, h'.bel, fun x hx => ?_⟩
  rcases List.mem_cons.1 hx with rfl | hx
  · exact ⟨heap_alloc_new w _, fun q => by have := (h.bg.lt _ q).2; omega⟩
  · exact h'.fr' x hx
theorem Bw.at (h : Bw W1 bb ob nb n l fr w) {k : Nat} {o : Obj} (hk : (k, o) ∈ fr) : w.heap[k]? = some o := (h.fr' _ hk).1
theorem Bw.few (h : Bw W1 bb ob nb n l fr w) {fr' : List (Nat × Obj)} (hf : ∀ x ∈ fr', x ∈ fr) : Bw W1 bb ob nb n l fr' w := ⟨h.bg, h.bel, fun x hx => h.fr' x (hf x hx)⟩
theorem Bw.env (h : Bw W1 bb ob nb n l fr w) (hE : Env5 W1 Ad) : Env5 w Ad := hE.later h.bel
theorem Bw.step {n' : Int} {l' : Prs} (h : Bw W1 bb ob nb n l fr w) (hg : Bg W1.heap.size w' bb ob nb n' l') (hs : St (fun k => Ft bb ob nb k) w w') : Bw W1 bb ob nb n' l' fr w' :=
  ⟨hg, h.bel.trans (hs.below (B := W1.heap.size) (fun k hk => (h.bg.lt k hk).1) h.bel.size), fun x hx => ⟨hs.at (h.fr' x hx).1 (h.fr' x hx).2, (h.fr' x hx).2⟩⟩
/-- Errors that were told before are told still. -/
theorem Bw.err (h : Bw W1 bb ob nb n l fr w) (hs : St (fun k => Ft bb ob nb k) w w') {v : Value} {k d : Nat} (hv : Err Ad w v k d) : Err Ad w' v k d := by
  obtain ⟨ws, h1, h2⟩ := hv
  refine ⟨ws, ch_kept (S := fun k => Ft bb ob nb k) (fun b hb hn => hs.block b hb hn) (fun b hb str e => ?_) hs.size h1, h2⟩
  rcases hb with rfl | rfl | rfl
  · rw [h.bg.c0] at e; cases e
  · obtain ⟨es, cl, q⟩ := h.bg.m1.obj
    simp [World.cell?, q] at e
  · obtain ⟨es, cl, q⟩ := h.bg.m2.obj
    simp [World.cell?, q] at e
theorem bw_give (h : Bw W1 bb ob nb n l fr w) (i g : Int) (hi : I64 i) (hg : I64 g) (hn : num l (i, g) = none) (hf : n ≤ 1073741824) :
    Calls Tryd.prog 7 #[.pointer (some ⟨bb, 0, none⟩), .agg #[.int .i64 i, .int .i64 g]] w fun e w' => e = .returned (.tuple #[.int .i64 n, .nilIface]) ∧ Bw W1 bb ob nb (n + 1) (ins (n, i, g) l) fr w' ∧ St (fun k => Ft bb ob nb k) w w' :=
  (give_ok h.bg i g hi hg hn hf).mono fun _ _ ⟨q1, q2, q3⟩ => ⟨q1, h.step q2 q3, q3⟩
theorem bw_drop (h : Bw W1 bb ob nb n l fr w) (id i g : Int) (hi : I64 id) (hn : who l id = some (i, g)) :
    Calls Tryd.prog 11 #[.pointer (some ⟨bb, 0, none⟩), .int .i64 id] w fun e w' => e = .returned (.tuple #[.agg #[.int .i64 i, .int .i64 g], .nilIface]) ∧ Bw W1 bb ob nb n (del id l) fr w' ∧ St (fun k => Ft bb ob nb k) w w' :=
  (drop_ok h.bg id i g hi hn).mono fun _ _ ⟨q1, q2, q3⟩ => ⟨q1, h.step q2 q3, q3⟩
theorem bw_pin (h : Bw W1 bb ob nb n l fr w) (id i g : Int) (hi : I64 i) (hg : I64 g) (h1 : 1 ≤ id) (h2 : id < n) (hw : who l id = none) (hn : num l (i, g) = none) :
    Calls Tryd.prog 9 #[.pointer (some ⟨bb, 0, none⟩), .int .i64 id, .agg #[.int .i64 i, .int .i64 g]] w fun e w' => e = .returned .nilIface ∧ Bw W1 bb ob nb n (ins (id, i, g) l) fr w' ∧ St (fun k => Ft bb ob nb k) w w' :=
  (pin_ok h.bg id i g hi hg h1 h2 hw hn).mono fun _ _ ⟨q1, q2, q3⟩ => ⟨q1, h.step q2 q3, q3⟩
theorem bw_turn (h : Bw W1 bb ob nb n l fr w) (next : Int) (ht : turnB l next = true) :
    Calls Tryd.prog 13 #[.pointer (some ⟨bb, 0, none⟩), .int .i64 next] w fun e w' => e = .returned (.tuple #[.int .i64 n, .nilIface]) ∧ Bw W1 bb ob nb next l fr w' ∧ St (fun k => Ft bb ob nb k) w w' :=
  (turn_ok h.bg next ht).mono fun _ _ ⟨q1, q2, q3⟩ => ⟨q1, h.step q2 q3, q3⟩
end
theorem drewN_below (W : World) (m : Nat) : Below W.heap.size W (W.drewN m) := by
  induction m generalizing W with
  | zero => exact Below.refl _ _
  | succ m ih => exact (ih W).drew
/-- A row of numbers. -/
def IRow (W : World) (v : Value) (xs : List Int) : Prop := ∃ a c, v = .slice a xs.length c ∧ (xs = [] ∨ ∃ b o, a = some ⟨b, o, none⟩ ∧ ∀ (j : Nat) x, xs[j]? = some x → W.cell? ⟨b, o + j, none⟩ = some (.int .i64 x))
theorem IRow.later {W W' : World} {v : Value} {xs : List Int} (h : IRow W v xs) (hb : Below W.heap.size W W') : IRow W' v xs := by
  obtain ⟨a, c, h1, h2⟩ := h
  refine ⟨a, c, h1, h2.imp id ?_⟩
  rintro ⟨b, o, h3, h4⟩
  exact ⟨b, o, h3, fun j x hx => seen hb (Nat.le_refl _) (h4 j x hx)⟩
theorem irow_of {B : Nat} {W : World} {v : Value} {xs : List Int} (h : W.ownsRow B 3 1 v xs.length (xs.map Go.encZ)) : IRow W v xs := by
  rcases h with ⟨h0, ⟨h1, h2⟩ | ⟨g, cap, cur, h1, h2, h3, h4, h5, h6, h7⟩⟩
  · exact ⟨none, 0, by rw [h1, h2], .inl (List.length_eq_zero_iff.1 h2)⟩
  · refine ⟨some ⟨g, 0, none⟩, cap, h1, .inr ⟨g, 0, rfl, fun j x hj => ?_⟩⟩
    have hlt := (List.getElem?_eq_some_iff.1 hj).1
    rw [Nat.zero_add]
    refine cell_blk h3 ?_
    have e : (cur.toList.take (xs.length * 1))[j]? = some (Go.encZ x) := by rw [h7, List.getElem?_map, hj]; rfl
    rw [List.getElem?_take_of_lt (by omega)] at e
    rw [← Array.getElem?_toList]
    exact e
set_option maxHeartbeats 1600000 in
set_option maxRecDepth 100000 in
theorem same_any (W : World) (v u : Value) (xs : List Int) (h : IRow W v xs) (h' : IRow W u xs) (hl : xs.length ≤ 1000) :
    Calls Tryd.prog 22 #[v, u] W fun e W' => e = .returned (.bool true) ∧ Below W.heap.size W W' := by
  have H := hid h
  have H' := hid h'
  obtain ⟨a, c, rfl, -⟩ := h
  obtain ⟨a', c', rfl, -⟩ := h'
  have hli : (xs.length : Int) ≤ 1000 := by omega
  go_enter Tryd.func22, Tryd.ntmps22
  go_wp2_with fail
  go_loopg [5] xs.length (fun gh i wr => ∃ k : Nat, k ≤ xs.length ∧ gh = xs.length - k ∧ i = .int .i64 (k : Int) ∧ Hid (Below W.heap.size W wr))
  case atStart => exact ⟨0, Nat.zero_le _, rfl, rfl, Below.refl _ _⟩
  case round =>
    rename World => wr
    obtain ⟨k, hk, rfl, rfl, HB⟩ := hrel
    by_cases hlt : k < xs.length
    · have hki : (k : Int) < (xs.length : Int) := by omega
      obtain ⟨x, hx⟩ := at_lt xs k hlt
      obtain ⟨b, o, rfl, d0⟩ : ∃ b o, a = some ⟨b, o, none⟩ ∧ wr.cell? ⟨b, o + k, none⟩ = some (.int .i64 x) := by
        obtain ⟨a2, c2, hv, hl2⟩ := H.out.later HB.out
        obtain ⟨rfl, rfl⟩ : a = a2 ∧ c = c2 := by simpa using hv
        rcases hl2 with q | ⟨b, o, q1, q2⟩
        · rw [q] at hlt; simp at hlt
        · exact ⟨b, o, q1, q2 k x hx⟩
      obtain ⟨b', o', rfl, d1⟩ : ∃ b o, a' = some ⟨b, o, none⟩ ∧ wr.cell? ⟨b, o + k, none⟩ = some (.int .i64 x) := by
        obtain ⟨a2, c2, hv, hl2⟩ := H'.out.later HB.out
        obtain ⟨rfl, rfl⟩ : a' = a2 ∧ c' = c2 := by simpa using hv
        rcases hl2 with q | ⟨b, o, q1, q2⟩
        · rw [q] at hlt; simp at hlt
        · exact ⟨b, o, q1, q2 k x hx⟩
      clear hx
      go_wp2_with fail
      go_quiet (fail)
      go_wp2_with fail
      go_roundg (xs.length - (k + 1))
      case measure => omega
      case rel => exact ⟨k + 1, by omega, rfl, by go_num, by first | exact HB.out | exact HB.out.drew | exact HB.out.trans ((drewN_below _ _).mono HB.out.size)⟩
    · have hki : ¬ (k : Int) < (xs.length : Int) := by omega
      clear hk hlt
      go_wp2_with fail
      go_ret
      exact ⟨rfl, HB.out⟩
end Go.Proofs.YtiebbedpjogjfaaDoor.Bd
