/- Contracts of blame: walk at every error. -/
import Derived.Test.YtagjmggiaffihabDoorKc
import Derived.Maps.AppendAt
import Derived.LoopTactic
namespace Go.Proofs.YtagjmggiaffihabDoor
open Go.RowKit Go.Shelf
/-- What an error is made of: the ways to its sentinels, and their numbers. The least relation that holds of nil, of a sentinel, of a Blame around such an error, of a Several of such errors. -/
def Tr (Ad : Nat → Addr) (n₀ : Nat) (W : World) (d : Nat) (v : Value) (ls : List (List ByteArray × Nat)) : Prop :=
  ∀ R : Nat → Value → List (List ByteArray × Nat) → Prop,
    (∀ d, R d .nilIface []) →
    (∀ d k, (1 ≤ k ∧ k ≤ 18) → R d (.iface 111 (.pointer (some (Ad k)))) [([], k)]) →
    (∀ d b s inner ls, b < n₀ → W.cell? ⟨b, 0, none⟩ = some (.string s) → W.cell? ⟨b, 1, none⟩ = some inner → R d inner ls → R (d + 1) (.iface 69 (.pointer (some ⟨b, 0, none⟩))) (ls.map fun p => (s :: p.1, p.2))) →
    (∀ d b g c (vs : List (Value × List (List ByteArray × Nat))), b < n₀ → g < n₀ → 0 < vs.length → vs.length ≤ 1000 → W.cell? ⟨b, 0, none⟩ = some (.slice (some ⟨g, 0, none⟩) vs.length c) →
      (∀ (j : Nat) x, vs[j]? = some x → W.cell? ⟨g, j, none⟩ = some x.1) → (∀ x ∈ vs, x.1.oneCell' = true) → (∀ x ∈ vs, R d x.1 x.2) → R d (.iface 74 (.pointer (some ⟨b, 0, none⟩))) (vs.map Prod.snd).flatten) →
    R d v ls
section
variable {Ad : Nat → Addr} {n₀ : Nat} {W : World}
theorem Tr.empty (d : Nat) : Tr Ad n₀ W d .nilIface [] := fun _ h1 _ _ _ => h1 d
theorem Tr.leaf (d k : Nat) (hk : 1 ≤ k ∧ k ≤ 18) : Tr Ad n₀ W d (.iface 111 (.pointer (some (Ad k)))) [([], k)] := fun _ _ h2 _ _ => h2 d k hk
theorem Tr.blame (d b : Nat) (s : ByteArray) (inner : Value) (ls : List (List ByteArray × Nat)) (hb : b < n₀) (c0 : W.cell? ⟨b, 0, none⟩ = some (.string s)) (c1 : W.cell? ⟨b, 1, none⟩ = some inner) (hi : Tr Ad n₀ W d inner ls) :
    Tr Ad n₀ W (d + 1) (.iface 69 (.pointer (some ⟨b, 0, none⟩))) (ls.map fun p => (s :: p.1, p.2)) := fun R h1 h2 h3 h4 => h3 d b s inner ls hb c0 c1 (hi R h1 h2 h3 h4)
theorem Tr.many (d b g c : Nat) (vs : List (Value × List (List ByteArray × Nat))) (hb : b < n₀) (hg : g < n₀) (h0 : 0 < vs.length) (hn : vs.length ≤ 1000) (cb : W.cell? ⟨b, 0, none⟩ = some (.slice (some ⟨g, 0, none⟩) vs.length c))
    (cg : ∀ (j : Nat) x, vs[j]? = some x → W.cell? ⟨g, j, none⟩ = some x.1) (one : ∀ x ∈ vs, x.1.oneCell' = true) (hi : ∀ x ∈ vs, Tr Ad n₀ W d x.1 x.2) :
    Tr Ad n₀ W d (.iface 74 (.pointer (some ⟨b, 0, none⟩))) (vs.map Prod.snd).flatten := fun R h1 h2 h3 h4 => h4 d b g c vs hb hg h0 hn cb cg one fun x hx => hi x hx R h1 h2 h3 h4
/-- What holds of each such error, by what it is made of. -/
theorem Tr.ind {motive : ∀ (d : Nat) (v : Value) (ls : List (List ByteArray × Nat)), Tr Ad n₀ W d v ls → Prop}
    (empty : ∀ d, motive d .nilIface [] (Tr.empty d))
    (leaf : ∀ d k (hk : 1 ≤ k ∧ k ≤ 18), motive d (.iface 111 (.pointer (some (Ad k)))) [([], k)] (Tr.leaf d k hk))
    (blame : ∀ d b s inner ls (hb : b < n₀) (c0 : W.cell? ⟨b, 0, none⟩ = some (.string s)) (c1 : W.cell? ⟨b, 1, none⟩ = some inner) (hi : Tr Ad n₀ W d inner ls) (_ih : motive d inner ls hi), motive (d + 1) (.iface 69 (.pointer (some ⟨b, 0, none⟩))) (ls.map fun p => (s :: p.1, p.2)) (Tr.blame d b s inner ls hb c0 c1 hi))
    (many : ∀ d b g c (vs : List (Value × List (List ByteArray × Nat))) (hb : b < n₀) (hg : g < n₀) (h0 : 0 < vs.length) (hn : vs.length ≤ 1000) (cb : W.cell? ⟨b, 0, none⟩ = some (.slice (some ⟨g, 0, none⟩) vs.length c))
      (cg : ∀ (j : Nat) x, vs[j]? = some x → W.cell? ⟨g, j, none⟩ = some x.1) (one : ∀ x ∈ vs, x.1.oneCell' = true) (hi : ∀ x ∈ vs, Tr Ad n₀ W d x.1 x.2) (_ih : ∀ x (hx : x ∈ vs), motive d x.1 x.2 (hi x hx)), motive d (.iface 74 (.pointer (some ⟨b, 0, none⟩))) (vs.map Prod.snd).flatten (Tr.many d b g c vs hb hg h0 hn cb cg one hi))
    {d : Nat} {v : Value} {ls : List (List ByteArray × Nat)} (h : Tr Ad n₀ W d v ls) : motive d v ls h := by
  obtain ⟨_, r⟩ := h (fun d v ls => ∃ h : Tr Ad n₀ W d v ls, motive d v ls h) (fun d => ⟨_, empty d⟩) (fun d k hk => ⟨_, leaf d k hk⟩)
    (fun d b s inner ls hb c0 c1 ⟨hi, ih⟩ => ⟨_, blame d b s inner ls hb c0 c1 hi ih⟩)
    (fun d b g c vs hb hg h0 hn cb cg one hi => ⟨_, many d b g c vs hb hg h0 hn cb cg one (fun x hx => (hi x hx).1) fun x hx => (hi x hx).2⟩)
  exact r
end
theorem noBlameS (v : Value) (xT : TypeId) (w : World) : (Instr.typeAssert (.iface 74 v) xT 69 true).run Tryd.prog w = .ok (.tuple #[.pointer none, .bool false]) w := by kernel_rfl
theorem isSeveralT (v : Value) (xT : TypeId) (w : World) : (Instr.typeAssert (.iface 74 v) xT 74 true).run Tryd.prog w = .ok (.tuple #[v, .bool true]) w := by kernel_rfl
theorem Tryd.infoErr : (Tryd.prog.info? 31).map (fun i => (i.zero, i.size, i.bytes)) = some (some .nilIface, 1, 16) := by kernel_rfl
theorem own_slice {w : World} {B : Nat} {e : TypeId} {z : Nat} {v : Value} {n : Nat} {xs : List Value} (h : w.ownsRow B e z v n xs) : ∃ ga gc, v = .slice ga n gc := by
  rcases h.2 with ⟨h1, h2⟩ | ⟨g, cap, cur, h1, _⟩
  · exact ⟨none, 0, by rw [h2]; exact h1⟩
  · exact ⟨_, _, h1⟩
theorem own_some {w : World} {B n c : Nat} {e : TypeId} {ga : Option Addr} {xs : List Value} (h : w.ownsRow B e 1 (.slice ga n c) n xs) (h0 : 0 < n) : ∃ g, ga = some ⟨g, 0, none⟩ ∧ B ≤ g ∧ g < w.heap.size := by
  rcases h.2 with ⟨h1, h2⟩ | ⟨g, cap, cur, h1, h2, h3, h4⟩
  · omega
  · simp only [Value.slice.injEq, true_and] at h1
    exact ⟨g, h1.1, h2, (Array.getElem?_eq_some_iff.1 h3).1⟩
theorem own_block {w : World} {B : Nat} {e : TypeId} {z : Nat} {v : Value} {n : Nat} {xs : List Value} (h : w.ownsRow B e z v n xs) {k : Nat} (hk : v.ownBlock = some k) : B ≤ k := (h.lt k hk).1
/-- append of a row onto nil. -/
theorem wpList_errs (w : World) {ops : Array Oper} {rest : List Oper} {o : Oper} {a : Act} {Q : Exit → Act → World → Prop} (hgd : o.guard = none) (s x : Operand)
    (ho : o.op = .call { callee := .builtin .append, args := #[s, x], argTypes := #[72, 72] })
    (base : Nat) (v : Value) (xs : List Value) (hs : a.eval s = v) (hown : w.ownsRow base 31 1 v xs.length xs)
    (g c : Nat) (l : List Value) (hx : a.eval x = .slice (some ⟨g, 0, none⟩) l.length c) (hrow : ∀ (j : Nat) u, l[j]? = some u → w.cell? ⟨g, j, none⟩ = some u) (h1 : ∀ u ∈ l, u.oneCell' = true) (hlen : xs.length + l.length ≤ 5000) (hbase : base ≤ w.heap.size)
    (h : ∀ ga gc (y : List Value) w', Hid (y = xs ++ l) → Hid (w'.ownsRow base 31 1 (.slice ga y.length gc) y.length y) → Hid (Below base w w') → wpList Tryd.prog ops Q rest (a.put o.dst (.slice ga y.length gc)) w') :
    wpList Tryd.prog ops Q (o :: rest) a w := by
  obtain ⟨i0, hi, hz0, hz1, hz2⟩ := info_parts Tryd.infoErr
  refine wpList_append_own_at w hgd s x 72 ho base 31 i0 .nilIface 1 16 Tryd.underlying72 hi hz0 hz1 hz2 rfl (by decide) v xs.length xs hs hown ⟨g, 0, none⟩ l.length c l hx (by simp) (fun j u hu => by rw [add_at]; exact hrow j u hu) h1 (by simp [maxLen]; omega) (by omega) hbase ?_
  intro v' w' hown' hgrow _ _
  have e : xs.length + l.length = (xs ++ l).length := by simp
  rw [e] at hown'
  obtain ⟨ga, gc, rfl⟩ := own_slice hown'
  exact h ga gc (xs ++ l) w' rfl hown' ((Below.refl _ _).grown hgrow hbase (fun k hk => own_block hown hk))
set_option maxHeartbeats 800000 in
set_option maxRecDepth 100000 in
theorem unwraps_any (b g c : Nat) (l : List Value) (w : World) (hl : l.length ≤ 1000) (cb : w.cell? ⟨b, 0, none⟩ = some (.slice (some ⟨g, 0, none⟩) l.length c)) (cg : ∀ (j : Nat) u, l[j]? = some u → w.cell? ⟨g, j, none⟩ = some u) (h1 : ∀ u ∈ l, u.oneCell' = true) :
    Calls Tryd.prog 72 #[.pointer (some ⟨b, 0, none⟩)] w fun e w' => ∃ ga gc, e = .returned (.slice ga l.length gc) ∧ w'.ownsRow w.heap.size 31 1 (.slice ga l.length gc) l.length l ∧ Below w.heap.size w w' := by
  have CG := hid cg
  have H1 := hid h1
  clear cg h1
  go_enter Tryd.func72, Tryd.ntmps72
  go_wp2_with (at_builtin; refine wpList_errs _ rfl (.const (.slice none 0 0)) (.tmp 8) rfl w.heap.size _ [] rfl ?_ g c l rfl ?_ ?_ ?_ ?_ ?_; exact World.ownsRow_nil _ _ _ _; exact CG.out; exact H1.out; simp; omega; exact Nat.le_refl _; intro g1 c1 y1 w2 h2 o2 b2)
  have e : Hid (y1 = l) := by have := h2.out; show y1 = l; simpa using this
  go_ret
  rw [e.out] at o2
  exact ⟨g1, c1, by rw [e.out]; rfl, o2.out, b2.out⟩
theorem Turn.own {N B n : Nat} {w w' : World} {v : Value} {xs : List Value} (h : w.ownsRow B 31 1 v n xs) (ht : Turn (fun o => ¬ isErr o) N w w') : w'.ownsRow B 31 1 v n xs :=
  own_later h fun g cur _ hg => ht.block g _ hg (.inr fun q => q ⟨cur, rfl⟩)
theorem take_next {α : Type} {l : List α} {k : Nat} {s : α} (h : l[k]? = some s) : l.take (k + 1) = l.take k ++ [s] := by
  obtain ⟨hk, rfl⟩ := List.getElem?_eq_some_iff.1 h
  rw [List.take_succ_eq_append_getElem hk]
theorem at_lt {α : Type} (l : List α) (k : Nat) (h : k < l.length) : ∃ s, l[k]? = some s := ⟨l[k], List.getElem?_eq_getElem h⟩
theorem cut_prefix {α β : Type} {vs : List (α × List β)} {k : Nat} {x : α × List β} (h : vs.take (k + 1) = vs.take k ++ [x]) {γ : Type} (F : β → γ) (zs : List γ) (hz : zs <+: x.2.map F) :
    ((vs.take k).map Prod.snd).flatten.map F ++ zs <+: (vs.map Prod.snd).flatten.map F := by
  have e : vs.take k ++ [x] ++ vs.drop (k + 1) = vs := by rw [← h, List.take_append_drop]
  have e2 : (vs.map Prod.snd).flatten.map F = ((vs.take k).map Prod.snd).flatten.map F ++ (x.2.map F ++ ((vs.drop (k + 1)).map Prod.snd).flatten.map F) := by
    conv => lhs; rw [← e]
    simp
  rw [e2]
  exact (List.prefix_append_right_inj _).2 (hz.trans (List.prefix_append _ _))
/-- How it stands among the errors of a Several. -/
structure Amid (B n₀ : Nat) (J : List Lf → World → Prop) (pre : List Lf) (ts : List ByteArray) (tv : Value) (W : World) (ls : List (List ByteArray × Nat)) (A : World) : Prop where
  got : ∃ xs, xs.map Lf.pair = ls ∧ J (pre ++ xs) A
  trail : Trail B A tv ts
  olds : Olds B ts.length W A
  turn : Turn (fun o => ¬ isErr o) n₀ W A
  size : B ≤ A.heap.size
theorem Tr.move {Ad : Nat → Addr} {n₀ n₁ : Nat} {W W' : World} {d : Nat} {v : Value} {ls : List (List ByteArray × Nat)} (h : Tr Ad n₀ W d v ls) (hb : Below n₀ W W') (hn : n₀ ≤ n₁) : Tr Ad n₁ W' d v ls := by
  induction h using Tr.ind with
  | empty d => exact .empty d
  | leaf d k hk => exact .leaf d k hk
  | blame d b s inner ls hbn c0 c1 hi ih => exact .blame d b s inner ls (by omega) ((hb.cell (p := ⟨b, 0, none⟩) hbn).trans c0) ((hb.cell (p := ⟨b, 1, none⟩) hbn).trans c1) ih
  | many d b g c vs hbn hgn h0 hn' cb cg one hi ih => exact .many d b g c vs (by omega) (by omega) h0 hn' ((hb.cell (p := ⟨b, 0, none⟩) hbn).trans cb) (fun j x hx => (hb.cell (p := ⟨g, j, none⟩) hgn).trans (cg j x hx)) one ih
theorem Tr.later {Ad : Nat → Addr} {W W' : World} {d : Nat} {v : Value} {ls : List (List ByteArray × Nat)} (h : Tr Ad W.heap.size W d v ls) (hb : Below W.heap.size W W') : Tr Ad W'.heap.size W' d v ls := h.move hb hb.size
end Go.Proofs.YtagjmggiaffihabDoor
