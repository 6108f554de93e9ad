/- A roll by its blocks; errors.Is of what it tells. -/
import Derived.Test.YtdpoojopipcffaaDoorRf
namespace Go.Proofs.YtdpoojopipcffaaDoor
open Go.RowKit Go.Shelf Go.Maps
/-- A roll whose blocks are S. -/
def Rol (B : Nat) (W : World) (rb t : Nat) (r : RS) (S : Nat → Prop) : Prop := ∃ gb mb fv, Rl B W rb gb mb fv t r ∧ ∀ k, S k ↔ Ft rb gb mb fv k
section
variable {B : Nat} {W W' : World} {rb t : Nat} {r : RS} {S : Nat → Prop}
theorem Rol.kept {T : Nat → Prop} (h : Rol B W rb t r S) (hs : St T W W') (hd : ∀ k, S k → ¬ T k) : Rol B W' rb t r S := by
  obtain ⟨gb, mb, fv, h1, h2⟩ := h
  exact ⟨gb, mb, fv, h1.kept hs fun k hk => hd k ((h2 k).2 hk), h2⟩
theorem Rol.later (h : Rol B W rb t r S) (hb : Below W.heap.size W W') : Rol B W' rb t r S := h.kept (T := fun _ => False) (St.of_below hb) fun _ _ q => q
theorem Rol.lt (h : Rol B W rb t r S) (k : Nat) (hk : S k) : B ≤ k ∧ k < W.heap.size := by
  obtain ⟨gb, mb, fv, h1, h2⟩ := h
  exact h1.lt k ((h2 k).1 hk)
theorem Rol.ok (h : Rol B W rb t r S) : r.ok := by obtain ⟨gb, mb, fv, h1, h2⟩ := h; exact h1.ok
theorem Rol.small (h : Rol B W rb t r S) : r.gens.length ≤ 64 := by obtain ⟨gb, mb, fv, h1, h2⟩ := h; exact h1.small
theorem Rol.few (h : Rol B W rb t r S) : r.free.length ≤ r.gens.length := by obtain ⟨gb, mb, fv, h1, h2⟩ := h; exact h1.few
theorem Rol.old (h : Rol B W rb t r S) : ∀ g ∈ r.gens, g ≤ t := by obtain ⟨gb, mb, fv, h1, h2⟩ := h; exact h1.old
theorem Rol.base (h : Rol B W rb t r S) : B ≤ W.heap.size := by obtain ⟨gb, mb, fv, h1, h2⟩ := h; have := h1.lt rb (.inl rfl); omega
theorem Rol.below (h : Rol B W rb t r S) (hs : St S W W') : Below B W W' := hs.below (fun k hk => (h.lt k hk).1) h.base
theorem rol_new (W : World) (n : Nat) (hn : n ≤ 64) :
    Calls Tryd.prog 7 #[.int .i64 (n : Int)] W fun e W' => ∃ rb S, e = .returned (.tuple #[.pointer (some ⟨rb, 0, none⟩), .nilIface]) ∧ Rol W.heap.size W' rb 0 (RS.fresh n) S ∧ Below W.heap.size W W' := by
  refine (new_some W n hn).mono ?_
  rintro e w ⟨rb, gb, mb, fv, rfl, h, hb⟩
  exact ⟨rb, _, rfl, ⟨gb, mb, fv, h, fun _ => Iff.rfl⟩, hb⟩
theorem rol_take {f : List Nat} {i : Nat} (h : Rol B W rb t r S) (hf : r.free = f ++ [i]) (ht : t ≤ 1000) :
    Calls Tryd.prog 10 #[.pointer (some ⟨rb, 0, none⟩)] W fun e W' => e = .returned (.tuple #[.agg #[.int .i64 i, .int .i64 ((r.gens.getD i 0 : Nat) + 1 : Int)], .nilIface]) ∧ Rol B W' rb (t + 1) (r.took i) S ∧ St S W W' := by
  obtain ⟨gb, mb, fv, h1, h2⟩ := h
  refine (take_some h1 hf ht).mono ?_
  rintro e w ⟨rfl, fv', h3, h4, h5⟩
  refine ⟨rfl, ⟨gb, mb, fv', h3, fun k => ?_⟩, ⟨h5.os, h5.tape, h5.output, h5.size, fun k hk hn => h5.block k hk fun q => hn ((h2 k).2 q)⟩⟩
  rw [h2 k]
  unfold Ft
  rw [h4]
theorem rol_full (Ad : Nat → Addr) (h : Rol B W rb t r S) (hE : Env4 W Ad) (hf : r.free = []) :
    Calls Tryd.prog 10 #[.pointer (some ⟨rb, 0, none⟩)] W fun e W' => ∃ b, e = .returned (.tuple #[.agg #[.int .i64 0, .int .i64 0], .iface 66 (.pointer (some ⟨b, 0, none⟩))]) ∧ W.heap.size ≤ b ∧ ErrAt Ad W' (.iface 66 (.pointer (some ⟨b, 0, none⟩))) bTake 6 ∧ Below W.heap.size W W' := by
  obtain ⟨gb, mb, fv, h1, h2⟩ := h
  exact take_full Ad h1 hE hf
theorem rol_alive (h : Rol B W rb t r S) (i g : Int) (hi : I64 i) (hg : I64 g) :
    Calls Tryd.prog 15 #[.pointer (some ⟨rb, 0, none⟩), .agg #[.int .i64 i, .int .i64 g]] W fun e W' => e = .returned (.bool (r.aliveB i g)) ∧ Below W.heap.size W W' := by
  obtain ⟨gb, mb, fv, h1, h2⟩ := h
  exact alive_any h1 i g hi hg
theorem rol_dead (Ad : Nat → Addr) (h : Rol B W rb t r S) (hE : Env4 W Ad) (i g : Int) (hi : I64 i) (hg : I64 g) (ha : r.aliveB i g = false) :
    Calls Tryd.prog 13 #[.pointer (some ⟨rb, 0, none⟩), .agg #[.int .i64 i, .int .i64 g]] W fun e W' => ∃ v, e = .returned v ∧ ErrAt Ad W' v bFree 17 ∧ Below W.heap.size W W' := by
  obtain ⟨gb, mb, fv, h1, h2⟩ := h
  exact free_dead Ad h1 hE i g hi hg ha
theorem rol_free (h : Rol B W rb t r S) (k : Nat) (g : Int) (hi : I64 (k : Int)) (hg : I64 g) (ha : r.aliveB (k : Int) g = true) :
    Calls Tryd.prog 13 #[.pointer (some ⟨rb, 0, none⟩), .agg #[.int .i64 (k : Int), .int .i64 g]] W fun e W' => e = .returned .nilIface ∧ ∃ S', Rol B W' rb t (r.freed k) S' ∧ St S W W' ∧ ∀ x, S' x → S x ∨ W.heap.size ≤ x := by
  obtain ⟨gb, mb, fv, h1, h2⟩ := h
  refine (free_alive h1 k g hi hg ha).mono ?_
  rintro e w ⟨rfl, fv', h3, h4, h5⟩
  refine ⟨rfl, _, ⟨gb, mb, fv', h3, fun _ => Iff.rfl⟩, ⟨h5.os, h5.tape, h5.output, h5.size, fun k hk hn => h5.block k hk fun q => hn ((h2 k).2 q)⟩, fun x hx => ?_⟩
  rcases hx with hx | hx | hx | hx
  · exact .inl ((h2 x).2 (.inl hx))
  · exact .inl ((h2 x).2 (.inr (.inl hx)))
  · exact .inl ((h2 x).2 (.inr (.inr (.inl hx))))
  · rcases h4 with h4 | ⟨y, h4, h6⟩
    · exact .inl ((h2 x).2 (.inr (.inr (.inr (h4 ▸ hx)))))
    · rw [h4] at hx; simp at hx; exact .inr (by omega)
theorem rol_count (h : Rol B W rb t r S) : Calls Tryd.prog 20 #[.pointer (some ⟨rb, 0, none⟩)] W fun e W' => e = .returned (.int .i64 (r.count : Int)) ∧ W' = W := by
  obtain ⟨gb, mb, fv, h1, h2⟩ := h
  exact count_any h1
theorem rol_most (h : Rol B W rb t r S) : Calls Tryd.prog 21 #[.pointer (some ⟨rb, 0, none⟩)] W fun e W' => e = .returned (.int .i64 (r.gens.length : Int)) ∧ W' = W := by
  obtain ⟨gb, mb, fv, h1, h2⟩ := h
  exact most_any h1
theorem rol_list (h : Rol B W rb t r S) (ht : t ≤ 1000) : Calls Tryd.prog 19 #[.pointer (some ⟨rb, 0, none⟩)] W fun e W' => ∃ v, e = .returned v ∧ Ents W.heap.size W' v r.all ∧ Below W.heap.size W W' := by
  obtain ⟨gb, mb, fv, h1, h2⟩ := h
  exact list_any h1 ht
end
theorem Env4.same {w : World} {Ad : Nat → Addr} (h : Env4 w Ad) {p k : Nat} (hp : p ∈ four) (hk : k ∈ four) : decide (Ad p = Ad k) = decide (p = k) := by
  by_cases e : p = k
  · subst e; simp
  · have : Ad p ≠ Ad k := fun h' => e (h.inj p hp k hk h')
    simp [e, this]
theorem is_err (Ad : Nat → Addr) {W : World} {v : Value} {s : ByteArray} {p k : Nat} (hE : Env4 W Ad) (h : ErrAt Ad W v s p) (hp : p ∈ four) (hk : k ∈ four) :
    Calls Tryd.prog 9 #[v, .iface 91 (.pointer (some (Ad k)))] W fun e W' => e = .returned (.bool (decide (p = k))) ∧ Below W.heap.size W W' := by
  obtain ⟨t, q, rfl, -⟩ := h.1.shape
  refine is_by Ad k t q _ W ((eis_gen Ad W.heap.size k W [s] _ p (hE.sen p hp) (hE.sen k hk) (hE.same hp hk) h.1).mono ?_)
  rintro e w' ⟨rfl, rfl⟩
  exact ⟨rfl, Below.refl _ _⟩
theorem ErrAt.kept {Ad : Nat → Addr} {W W' : World} {b : Nat} {s : ByteArray} {k : Nat} {S : Nat → Prop} (h : ErrAt Ad W (.iface 66 (.pointer (some ⟨b, 0, none⟩))) s k) (hs : St S W W') (hb : ¬ S b) : ErrAt Ad W' (.iface 66 (.pointer (some ⟨b, 0, none⟩))) s k := by
  obtain ⟨⟨b', inner, hv, hlt, c0, c1, hi⟩, h2⟩ := h
  obtain rfl : b = b' := by simpa using hv
  have e := hs.block b hlt hb
  exact ⟨⟨b, inner, rfl, Nat.lt_of_lt_of_le hlt hs.size, (World.cell?_of_block (a := ⟨b, 0, none⟩) e).trans c0, (World.cell?_of_block (a := ⟨b, 1, none⟩) e).trans c1, hi⟩, h2⟩
end Go.Proofs.YtdpoojopipcffaaDoor
