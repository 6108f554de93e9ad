/- Contracts of blame: walk at every error. -/
import Derived.Test.YtkhhiddemihnbaaDoorKc
import Derived.Maps.AppendAt
import Derived.LoopTactic
namespace Go.Proofs.YtkhhiddemihnbaaDoor
open Go.RowKit Go.Shelf
/-- What an error is made of: the ways to its sentinels, and their numbers. The least relation that holds of nil, of a sentinel, of a Blame around such an error, of a Several of such errors. -/
def Tr (Ad : Nat → Addr) (n₀ : Nat) (W : World) (d : Nat) (v : Value) (ls : List (List ByteArray × Nat)) : Prop :=
  ∀ R : Nat → Value → List (List ByteArray × Nat) → Prop,
    (∀ d, R d .nilIface []) →
    (∀ d k, (1 ≤ k ∧ k ≤ 18) → R d (.iface 163 (.pointer (some (Ad k)))) [([], k)]) →
    (∀ d b s inner ls, b < n₀ → W.cell? ⟨b, 0, none⟩ = some (.string s) → W.cell? ⟨b, 1, none⟩ = some inner → R d inner ls → R (d + 1) (.iface 103 (.pointer (some ⟨b, 0, none⟩))) (ls.map fun p => (s :: p.1, p.2))) →
    (∀ d b g c (vs : List (Value × List (List ByteArray × Nat))), b < n₀ → g < n₀ → 0 < vs.length → vs.length ≤ 1000 → W.cell? ⟨b, 0, none⟩ = some (.slice (some ⟨g, 0, none⟩) vs.length c) →
      (∀ (j : Nat) x, vs[j]? = some x → W.cell? ⟨g, j, none⟩ = some x.1) → (∀ x ∈ vs, x.1.oneCell' = true) → (∀ x ∈ vs, R d x.1 x.2) → R d (.iface 109 (.pointer (some ⟨b, 0, none⟩))) (vs.map Prod.snd).flatten) →
    R d v ls
section
variable {Ad : Nat → Addr} {n₀ : Nat} {W : World}
theorem Tr.empty (d : Nat) : Tr Ad n₀ W d .nilIface [] := fun _ h1 _ _ _ => h1 d
theorem Tr.leaf (d k : Nat) (hk : 1 ≤ k ∧ k ≤ 18) : Tr Ad n₀ W d (.iface 163 (.pointer (some (Ad k)))) [([], k)] := fun _ _ h2 _ _ => h2 d k hk
theorem Tr.blame (d b : Nat) (s : ByteArray) (inner : Value) (ls : List (List ByteArray × Nat)) (hb : b < n₀) (c0 : W.cell? ⟨b, 0, none⟩ = some (.string s)) (c1 : W.cell? ⟨b, 1, none⟩ = some inner) (hi : Tr Ad n₀ W d inner ls) :
    Tr Ad n₀ W (d + 1) (.iface 103 (.pointer (some ⟨b, 0, none⟩))) (ls.map fun p => (s :: p.1, p.2)) := fun R h1 h2 h3 h4 => h3 d b s inner ls hb c0 c1 (hi R h1 h2 h3 h4)
theorem Tr.many (d b g c : Nat) (vs : List (Value × List (List ByteArray × Nat))) (hb : b < n₀) (hg : g < n₀) (h0 : 0 < vs.length) (hn : vs.length ≤ 1000) (cb : W.cell? ⟨b, 0, none⟩ = some (.slice (some ⟨g, 0, none⟩) vs.length c))
    (cg : ∀ (j : Nat) x, vs[j]? = some x → W.cell? ⟨g, j, none⟩ = some x.1) (one : ∀ x ∈ vs, x.1.oneCell' = true) (hi : ∀ x ∈ vs, Tr Ad n₀ W d x.1 x.2) :
    Tr Ad n₀ W d (.iface 109 (.pointer (some ⟨b, 0, none⟩))) (vs.map Prod.snd).flatten := fun R h1 h2 h3 h4 => h4 d b g c vs hb hg h0 hn cb cg one fun x hx => hi x hx R h1 h2 h3 h4
/-- What holds of each such error, by what it is made of. -/
theorem Tr.ind {motive : ∀ (d : Nat) (v : Value) (ls : List (List ByteArray × Nat)), Tr Ad n₀ W d v ls → Prop}
    (empty : ∀ d, motive d .nilIface [] (Tr.empty d))
    (leaf : ∀ d k (hk : 1 ≤ k ∧ k ≤ 18), motive d (.iface 163 (.pointer (some (Ad k)))) [([], k)] (Tr.leaf d k hk))
    (blame : ∀ d b s inner ls (hb : b < n₀) (c0 : W.cell? ⟨b, 0, none⟩ = some (.string s)) (c1 : W.cell? ⟨b, 1, none⟩ = some inner) (hi : Tr Ad n₀ W d inner ls) (_ih : motive d inner ls hi), motive (d + 1) (.iface 103 (.pointer (some ⟨b, 0, none⟩))) (ls.map fun p => (s :: p.1, p.2)) (Tr.blame d b s inner ls hb c0 c1 hi))
    (many : ∀ d b g c (vs : List (Value × List (List ByteArray × Nat))) (hb : b < n₀) (hg : g < n₀) (h0 : 0 < vs.length) (hn : vs.length ≤ 1000) (cb : W.cell? ⟨b, 0, none⟩ = some (.slice (some ⟨g, 0, none⟩) vs.length c))
      (cg : ∀ (j : Nat) x, vs[j]? = some x → W.cell? ⟨g, j, none⟩ = some x.1) (one : ∀ x ∈ vs, x.1.oneCell' = true) (hi : ∀ x ∈ vs, Tr Ad n₀ W d x.1 x.2) (_ih : ∀ x (hx : x ∈ vs), motive d x.1 x.2 (hi x hx)), motive d (.iface 109 (.pointer (some ⟨b, 0, none⟩))) (vs.map Prod.snd).flatten (Tr.many d b g c vs hb hg h0 hn cb cg one hi))
    {d : Nat} {v : Value} {ls : List (List ByteArray × Nat)} (h : Tr Ad n₀ W d v ls) : motive d v ls h := by
  obtain ⟨_, r⟩ := h (fun d v ls => ∃ h : Tr Ad n₀ W d v ls, motive d v ls h) (fun d => ⟨_, empty d⟩) (fun d k hk => ⟨_, leaf d k hk⟩)
    (fun d b s inner ls hb c0 c1 ⟨hi, ih⟩ => ⟨_, blame d b s inner ls hb c0 c1 hi ih⟩)
    (fun d b g c vs hb hg h0 hn cb cg one hi => ⟨_, many d b g c vs hb hg h0 hn cb cg one (fun x hx => (hi x hx).1) fun x hx => (hi x hx).2⟩)
  exact r
end
theorem noBlameS (v : Value) (xT : TypeId) (w : World) : (Instr.typeAssert (.iface 109 v) xT 103 true).run Tryd.prog w = .ok (.tuple #[.pointer none, .bool false]) w := by kernel_rfl
theorem isSeveralT (v : Value) (xT : TypeId) (w : World) : (Instr.typeAssert (.iface 109 v) xT 109 true).run Tryd.prog w = .ok (.tuple #[v, .bool true]) w := by kernel_rfl
theorem Tryd.infoErr : (Tryd.prog.info? 42).map (fun i => (i.zero, i.size, i.bytes)) = some (some .nilIface, 1, 16) := by kernel_rfl
theorem own_slice {w : World} {B : Nat} {e : TypeId} {z : Nat} {v : Value} {n : Nat} {xs : List Value} (h : w.ownsRow B e z v n xs) : ∃ ga gc, v = .slice ga n gc := by
  rcases h.2 with ⟨h1, h2⟩ | ⟨g, cap, cur, h1, _⟩
  · exact ⟨none, 0, by rw [h2]; exact h1⟩
  · exact ⟨_, _, h1⟩
theorem own_some {w : World} {B n c : Nat} {e : TypeId} {ga : Option Addr} {xs : List Value} (h : w.ownsRow B e 1 (.slice ga n c) n xs) (h0 : 0 < n) : ∃ g, ga = some ⟨g, 0, none⟩ ∧ B ≤ g ∧ g < w.heap.size := by
  rcases h.2 with ⟨h1, h2⟩ | ⟨g, cap, cur, h1, h2, h3, h4⟩
  · omega
  · simp only [Value.slice.injEq, true_and] at h1
    exact ⟨g, h1.1, h2, (Array.getElem?_eq_some_iff.1 h3).1⟩
theorem own_block {w : World} {B : Nat} {e : TypeId} {z : Nat} {v : Value} {n : Nat} {xs : List Value} (h : w.ownsRow B e z v n xs) {k : Nat} (hk : v.ownBlock = some k) : B ≤ k := (h.lt k hk).1
/-- append of a row onto nil. -/
theorem wpList_errs (w : World) {ops : Array Oper} {rest : List Oper} {o : Oper} {a : Act} {Q : Exit → Act → World → Prop} (hgd : o.guard = none) (s x : Operand)
    (ho : o.op = .call { callee := .builtin .append, args := #[s, x], argTypes := #[75, 75] })
    (base : Nat) (v : Value) (xs : List Value) (hs : a.eval s = v) (hown : w.ownsRow base 42 1 v xs.length xs)
    (g c : Nat) (l : List Value) (hx : a.eval x = .slice (some ⟨g, 0, none⟩) l.length c) (hrow : ∀ (j : Nat) u, l[j]? = some u → w.cell? ⟨g, j, none⟩ = some u) (h1 : ∀ u ∈ l, u.oneCell' = true) (hlen : xs.length + l.length ≤ 5000) (hbase : base ≤ w.heap.size)
    (h : ∀ ga gc (y : List Value) w', Hid (y = xs ++ l) → Hid (w'.ownsRow base 42 1 (.slice ga y.length gc) y.length y) → Hid (Below base w w') → wpList Tryd.prog ops Q rest (a.put o.dst (.slice ga y.length gc)) w') :
    wpList Tryd.prog ops Q (o :: rest) a w := by
  obtain ⟨i0, hi, hz0, hz1, hz2⟩ := info_parts Tryd.infoErr
  refine wpList_append_own_at w hgd s x 75 ho base 42 i0 .nilIface 1 16 Tryd.underlying75 hi hz0 hz1 hz2 rfl (by decide) v xs.length xs hs hown ⟨g, 0, none⟩ l.length c l hx (by simp) (fun j u hu => by rw [add_at]; exact hrow j u hu) h1 (by simp [maxLen]; omega) (by omega) hbase ?_
  intro v' w' hown' hgrow _ _
  have e : xs.length + l.length = (xs ++ l).length := by simp
  rw [e] at hown'
  obtain ⟨ga, gc, rfl⟩ := own_slice hown'
  exact h ga gc (xs ++ l) w' rfl hown' ((Below.refl _ _).grown hgrow hbase (fun k hk => own_block hown hk))
set_option maxHeartbeats 800000 in
set_option maxRecDepth 100000 in
theorem unwraps_any (b g c : Nat) (l : List Value) (w : World) (hl : l.length ≤ 1000) (cb : w.cell? ⟨b, 0, none⟩ = some (.slice (some ⟨g, 0, none⟩) l.length c)) (cg : ∀ (j : Nat) u, l[j]? = some u → w.cell? ⟨g, j, none⟩ = some u) (h1 : ∀ u ∈ l, u.oneCell' = true) :
    Calls Tryd.prog 62 #[.pointer (some ⟨b, 0, none⟩)] w fun e w' => ∃ ga gc, e = .returned (.slice ga l.length gc) ∧ w'.ownsRow w.heap.size 42 1 (.slice ga l.length gc) l.length l ∧ Below w.heap.size w w' := by
  have CG := hid cg
  have H1 := hid h1
  clear cg h1
  go_enter Tryd.func62, Tryd.ntmps62
  go_wp2_with (at_builtin; refine wpList_errs _ rfl (.const (.slice none 0 0)) (.tmp 8) rfl w.heap.size _ [] rfl ?_ g c l rfl ?_ ?_ ?_ ?_ ?_; exact World.ownsRow_nil _ _ _ _; exact CG.out; exact H1.out; simp; omega; exact Nat.le_refl _; intro g1 c1 y1 w2 h2 o2 b2)
  have e : Hid (y1 = l) := by have := h2.out; show y1 = l; simpa using this
  go_ret
  rw [e.out] at o2
  exact ⟨g1, c1, by rw [e.out]; rfl, o2.out, b2.out⟩
theorem Turn.own {N B n : Nat} {w w' : World} {v : Value} {xs : List Value} (h : w.ownsRow B 42 1 v n xs) (ht : Turn (fun o => ¬ isErr o) N w w') : w'.ownsRow B 42 1 v n xs :=
  own_later h fun g cur _ hg => ht.block g _ hg (.inr fun q => q ⟨cur, rfl⟩)
theorem take_next {α : Type} {l : List α} {k : Nat} {s : α} (h : l[k]? = some s) : l.take (k + 1) = l.take k ++ [s] := by
  obtain ⟨hk, rfl⟩ := List.getElem?_eq_some_iff.1 h
  rw [List.take_succ_eq_append_getElem hk]
theorem at_lt {α : Type} (l : List α) (k : Nat) (h : k < l.length) : ∃ s, l[k]? = some s := ⟨l[k], List.getElem?_eq_getElem h⟩
theorem cut_prefix {α β : Type} {vs : List (α × List β)} {k : Nat} {x : α × List β} (h : vs.take (k + 1) = vs.take k ++ [x]) {γ : Type} (F : β → γ) (zs : List γ) (hz : zs <+: x.2.map F) :
    ((vs.take k).map Prod.snd).flatten.map F ++ zs <+: (vs.map Prod.snd).flatten.map F := by
  have e : vs.take k ++ [x] ++ vs.drop (k + 1) = vs := by rw [← h, List.take_append_drop]
  have e2 : (vs.map Prod.snd).flatten.map F = ((vs.take k).map Prod.snd).flatten.map F ++ (x.2.map F ++ ((vs.drop (k + 1)).map Prod.snd).flatten.map F) := by
    conv => lhs; rw [← e]
    simp
  rw [e2]
  exact (List.prefix_append_right_inj _).2 (hz.trans (List.prefix_append _ _))
/-- How it stands among the errors of a Several. -/
structure Amid (B n₀ : Nat) (J : List Lf → World → Prop) (pre : List Lf) (ts : List ByteArray) (tv : Value) (W : World) (ls : List (List ByteArray × Nat)) (A : World) : Prop where
  got : ∃ xs, xs.map Lf.pair = ls ∧ J (pre ++ xs) A
  trail : Trail B A tv ts
  olds : Olds B ts.length W A
  turn : Turn (fun o => ¬ isErr o) n₀ W A
  size : B ≤ A.heap.size
set_option maxHeartbeats 2000000 in
set_option maxRecDepth 100000 in
theorem walk_many (l b g c B n₀ : Nat) (full : List (List ByteArray × Nat)) (J Jx : List Lf → World → Prop) (hJ : ∀ s A A', J s A → Turn isRow B A A' → J s A') (vs : List (Value × List (List ByteArray × Nat))) (W : World) (tv : Value) (ts : List ByteArray) (pre : List Lf)
    (hnB : n₀ ≤ B) (hB : B ≤ W.heap.size) (h0 : 0 < vs.length) (hn : vs.length ≤ 1000) (cb : W.cell? ⟨b, 0, none⟩ = some (.slice (some ⟨g, 0, none⟩) vs.length c))
    (cg : ∀ (j : Nat) x, vs[j]? = some x → W.cell? ⟨g, j, none⟩ = some x.1) (one : ∀ x ∈ vs, x.1.oneCell' = true) (ht : Trail B W tv ts) (hj : J pre W) (hG : (pre.map Lf.pair ++ (vs.map Prod.snd).flatten.map fun p => (ts ++ p.1, p.2)) <+: full)
    (hin : ∀ x ∈ vs, ∀ pre' W', Below n₀ W W' → Trail B W' tv ts → J pre' W' → B ≤ W'.heap.size → (pre'.map Lf.pair ++ x.2.map fun p => (ts ++ p.1, p.2)) <+: full → Calls Tryd.prog 51 #[tv, x.1, .func (.yield l) #[] #[]] W' fun e w3 => ∃ r, e = .returned (.bool r) ∧ Below n₀ W' w3 ∧ Went B n₀ J Jx ts.length pre' (x.2.map fun p => (ts ++ p.1, p.2)) W' r w3) :
    Calls Tryd.prog 51 #[tv, .iface 109 (.pointer (some ⟨b, 0, none⟩)), .func (.yield l) #[] #[]] W fun e w3 => ∃ r, e = .returned (.bool r) ∧ Below n₀ W w3 ∧ Went B n₀ J Jx ts.length pre ((vs.map Prod.snd).flatten.map fun p => (ts ++ p.1, p.2)) W r w3 := by
  have n1 := noBlameS (.pointer (some ⟨b, 0, none⟩)) 42 W
  have n2 := isSeveralT (.pointer (some ⟨b, 0, none⟩)) 42 W
  have HI := hid hin
  have HJ := hid hJ
  have HG := hid hG
  have U := hid (unwraps_any b g c (vs.map Prod.fst) W (by simpa using hn) (by simpa using cb) (fun j u hu => by
    simp only [List.getElem?_map, Option.map_eq_some_iff] at hu
    obtain ⟨x, hx, rfl⟩ := hu
    exact cg j x hx) (fun u hu => by
    obtain ⟨x, hx, rfl⟩ := List.mem_map.1 hu
    exact one x hx))
  rw [List.length_map] at U
  have A0 := hid (show Amid B n₀ J pre ts tv W [] W from ⟨⟨[], rfl, by simpa using hj⟩, ht, fun _ _ h _ => h, Turn.refl _ _ _, hB⟩)
  have hni : (vs.length : Int) ≤ 1000 := by omega
  clear hin hJ cg one cb ht hj hG
  go_enter Tryd.func51, Tryd.ntmps51
  go_wp2_with fail
  refine U.out.mono ?_
  rintro e w1 ⟨ga, gc, rfl, ho, hbl⟩
  have O1 := hid ho
  have A1 : Hid (Amid B n₀ J pre ts tv W [] w1) := by
    obtain ⟨⟨xs, hx, hj⟩, h2, h3, h4, h5⟩ := A0.out
    exact ⟨⟨xs, hx, HJ.out _ _ _ hj (Turn.of_below hbl)⟩, h2.grown hbl, fun u ys hu _ => hu.grown hbl, Turn.of_below hbl, Nat.le_trans h5 hbl.size⟩
  clear ho hbl A0 U
  go_wp2_with fail
  go_loopw [11, 40] (fun _ i wr => ∃ k : Nat, k ≤ vs.length ∧ i = .int .i64 k ∧ wr.ownsRow W.heap.size 42 1 (.slice ga vs.length gc) vs.length (vs.map Prod.fst) ∧ Amid B n₀ J pre ts tv W (((vs.take k).map Prod.snd).flatten.map fun p => (ts ++ p.1, p.2)) wr) (fun _ i _ => vs.length - (intOf i).toNat)
  case atStart => exact ⟨0, Nat.zero_le _, rfl, O1.out, by simpa using A1.out⟩
  case round =>
    obtain ⟨k, hk, rfl, ho, ha⟩ := hrel
    clear O1 A1
    have HO := hid ho
    have HA := hid ha
    clear ho ha
    by_cases hlt : k < vs.length
    · obtain ⟨x, hx⟩ := at_lt vs k hlt
      obtain ⟨h, rfl, hh⟩ := own_some HO.out h0
      have c1 : wr.cell? ⟨h, k, none⟩ = some x.1 := by rw [HO.out.cellAt k (by omega)]; simp [hx]
      have HT := hid (take_next hx)
      have HX := hid (List.mem_of_getElem? hx)
      clear hx
      go_wp2_with fail
      obtain ⟨xs, hxs, hj⟩ := HA.out.got
      refine (HI.out x HX.out (pre ++ xs) wr (HA.out.turn.below (by omega)) HA.out.trail hj HA.out.size (by rw [List.map_append, hxs, List.append_assoc]; exact List.IsPrefix.trans ((List.prefix_append_right_inj _).2 (cut_prefix HT.out _ _ (List.prefix_refl _))) HG.out)).mono ?_
      rintro e w3 ⟨r, rfl, hb3, hg, hx3⟩
      have G3 := hid (And.intro hb3 (And.intro hg hx3))
      have HXS := hid hxs
      clear hb3 hg hx3 hxs hj c1
      cases r with
      | true =>
        go_wp2_with fail
        go_roundw
        case rel =>
          obtain ⟨hb3, hg, -⟩ := G3.out
          obtain ⟨⟨ys, hys, hj3⟩, o3, t3⟩ := hg (by simp)
          refine ⟨k + 1, by omega, by go_num, Turn.own HO.out t3, ⟨xs ++ ys, ?_, by rw [← List.append_assoc]; exact hj3⟩, o3 _ _ HA.out.trail (Nat.le_refl _), fun u ys hu hle => o3 u ys (HA.out.olds u ys hu hle) hle, HA.out.turn.trans t3, Nat.le_trans HA.out.size t3.size⟩
          rw [HT.out]
          simp [HXS.out, hys]
        case measure => simp [intOf]; omega
      | false =>
        go_wp2_with fail
        go_ret
        obtain ⟨hb3, -, hx⟩ := G3.out
        obtain ⟨ys, hys, hx3⟩ := hx (by simp)
        refine ⟨false, rfl, (HA.out.turn.below (by omega)).trans hb3, ⟨fun h => (by cases h), fun _ => ⟨xs ++ ys, ?_, by rw [← List.append_assoc]; exact hx3⟩⟩⟩
        rw [List.map_append, HXS.out]
        exact cut_prefix HT.out _ _ hys
    · have e : Hid (vs.take k = vs) := List.take_of_length_le (by omega)
      go_wp2_with fail
      go_ret
      have h := HA.out
      rw [e.out] at h
      exact ⟨true, rfl, h.turn.below (by omega), ⟨fun _ => ⟨h.got, h.olds, h.turn⟩, fun h => (by cases h)⟩⟩
set_option maxHeartbeats 400000 in
theorem walk_nil (l : Nat) (tv : Value) (W : World) :
    Calls Tryd.prog 51 #[tv, .nilIface, .func (.yield l) #[] #[]] W fun e w3 => e = .returned (.bool true) ∧ w3 = W := by
  go_enter Tryd.func51, Tryd.ntmps51
  go_wp2
  go_ret
  exact ⟨rfl, rfl⟩
/-- walk, at every error: each of its sentinels comes, with the way to it, in order. -/
theorem walk_any (Ad : Nat → Addr) (l B n₀ : Nat) (full : List (List ByteArray × Nat)) (J Jx : List Lf → World → Prop) (hJ : ∀ s A A', J s A → Turn isRow B A A' → J s A') (hY : Yields Ad l B n₀ full J Jx) (hnB : n₀ ≤ B) (W : World) {d : Nat} {v : Value} {ls : List (List ByteArray × Nat)} (h : Tr Ad n₀ W d v ls) :
    ∀ (tv : Value) (ts : List ByteArray) (pre : List Lf) (W' : World), Below n₀ W W' → Trail B W' tv ts → J pre W' → ts.length + d ≤ 1000 → B ≤ W'.heap.size → (pre.map Lf.pair ++ ls.map fun p => (ts ++ p.1, p.2)) <+: full →
      Calls Tryd.prog 51 #[tv, v, .func (.yield l) #[] #[]] W' fun e w3 => ∃ r, e = .returned (.bool r) ∧ Below n₀ W' w3 ∧ Went B n₀ J Jx ts.length pre (ls.map fun p => (ts ++ p.1, p.2)) W' r w3 := by
  induction h using Tr.ind with
  | empty d =>
    intro tv ts pre W' hb ht hj hl hB hG
    refine (walk_nil l tv W').mono ?_
    rintro e w3 ⟨rfl, rfl⟩
    exact ⟨true, rfl, Below.refl _ _, ⟨fun _ => ⟨⟨[], rfl, by simpa using hj⟩, fun _ _ h _ => h, Turn.refl _ _ _⟩, fun h => (by cases h)⟩⟩
  | leaf d k hk =>
    intro tv ts pre W' hb ht hj hl hB hG
    exact walk_chain Ad l B n₀ full J Jx hJ hY hnB k hk [] _ tv ts pre W' rfl ht hj (by simp; omega) hB hG
  | blame d b s inner ls hbn c0 c1 hi ih =>
    intro tv ts pre W' hb ht hj hl hB hG
    rw [show (ls.map fun p => (s :: p.1, p.2)).map (fun p => (ts ++ p.1, p.2)) = ls.map fun p => (ts ++ [s] ++ p.1, p.2) by simp] at hG ⊢
    refine walk_blame l b B n₀ s inner W' tv ts _ hbn hnB hB (by omega) ((hb.cell (p := ⟨b, 0, none⟩) hbn).trans c0) ((hb.cell (p := ⟨b, 1, none⟩) hbn).trans c1) ht ?_
    intro v2 w2 t2 o2 u2
    have hb2 : Below n₀ W' w2 := (u2.mono (fun _ h => h) hnB).below (by omega)
    refine (ih v2 (ts ++ [s]) pre w2 (hb.trans hb2) t2 (hJ _ _ _ hj u2) (by simp; omega) (Nat.le_trans hB u2.size) hG).mono ?_
    rintro e w3 ⟨r, rfl, hb3, hg, hx⟩
    refine ⟨r, rfl, hb2.trans hb3, fun h => ?_, fun h => ?_⟩
    · obtain ⟨hj3, ho3, ht3⟩ := hg h
      refine ⟨hj3, fun u ys hu hle => ho3 u ys (o2 u ys hu hle) (by simp; omega), (u2.mono row_err hnB).trans ht3⟩
    · exact hx h
  | many d b g c vs hbn hgn h0 hn cb cg one hi ih =>
    intro tv ts pre W' hb ht hj hl hB hG
    refine walk_many l b g c B n₀ full J Jx hJ vs W' tv ts pre hnB hB h0 hn ((hb.cell (p := ⟨b, 0, none⟩) hbn).trans cb) (fun j x hx => (hb.cell (p := ⟨g, j, none⟩) hgn).trans (cg j x hx)) one ht hj hG ?_
    intro x hx pre' W2 hb2 ht2 hj2 hB2 hg2
    exact ih x hx tv ts pre' W2 (hb.trans hb2) ht2 hj2 hl hB2 hg2
theorem Tr.move {Ad : Nat → Addr} {n₀ n₁ : Nat} {W W' : World} {d : Nat} {v : Value} {ls : List (List ByteArray × Nat)} (h : Tr Ad n₀ W d v ls) (hb : Below n₀ W W') (hn : n₀ ≤ n₁) : Tr Ad n₁ W' d v ls := by
  induction h using Tr.ind with
  | empty d => exact .empty d
  | leaf d k hk => exact .leaf d k hk
  | blame d b s inner ls hbn c0 c1 hi ih => exact .blame d b s inner ls (by omega) ((hb.cell (p := ⟨b, 0, none⟩) hbn).trans c0) ((hb.cell (p := ⟨b, 1, none⟩) hbn).trans c1) ih
  | many d b g c vs hbn hgn h0 hn' cb cg one hi ih => exact .many d b g c vs (by omega) (by omega) h0 hn' ((hb.cell (p := ⟨b, 0, none⟩) hbn).trans cb) (fun j x hx => (hb.cell (p := ⟨g, j, none⟩) hgn).trans (cg j x hx)) one ih
theorem Tr.later {Ad : Nat → Addr} {W W' : World} {d : Nat} {v : Value} {ls : List (List ByteArray × Nat)} (h : Tr Ad W.heap.size W d v ls) (hb : Below W.heap.size W W') : Tr Ad W'.heap.size W' d v ls := h.move hb hb.size
end Go.Proofs.YtkhhiddemihnbaaDoor
