/- Texts in one. -/
import Derived.Laws.OwnMore
import Derived.Maps.RangeWalk
import Derived.Maps.OwnSet
import Derived.DeepKeys4
import Derived.Deep.RegionHeld3
import Derived.Deep.RegionLaw
import Derived.Deep.AppendLies
import Derived.Laws.MakeOwn
import Derived.Test.YtagjmggiaffihaaGreatDoorMac
namespace Go.Proofs.YtagjmggiaffihaaGreatDoor.At
open Go.RowKit Go.Shelf Go.Maps
section
variable {B : Nat} {W W' : World} {rb : Nat} {s : AS} {S : Nat → Prop}
theorem Atl.u32 (h : Atl B W rb s S) {i m : Nat} (hi : s.l[i]? = some m) : m < 2 ^ s.n ∧ m < 4294967296 := by
  have := h.ok.lt m (List.mem_of_getElem? hi)
  have := h.ok.u16 (List.mem_of_getElem? hi)
  exact ⟨by assumption, by omega⟩
end
end Go.Proofs.YtagjmggiaffihaaGreatDoor.At
namespace Go.Proofs.YtagjmggiaffihaaGreatDoor.At
open Go.RowKit Go.Shelf Go.Maps
theorem drewN_below (W : World) (m : Nat) : Below W.heap.size W (W.drewN m) := by
  induction m generalizing W with
  | zero => exact Below.refl _ _
  | succ m ih => exact (ih W).drew
/-- A node's set has all of one set and none of another one. -/
def mtB (a b m : Nat) : Bool := decide (an a m = 0) && decide (m &&& b = 0)
/-- The nodes that match, among the first k. -/
def mtc (l : List Nat) (a b : Nat) : Nat → List Nat
  | 0 => []
  | k + 1 => match l[k]? with
    | some m => if mtB a b m = true then mtc l a b k ++ [k] else mtc l a b k
    | none => mtc l a b k
theorem mtc_next {l : List Nat} (a b : Nat) {k m : Nat} (h : l[k]? = some m) : mtc l a b (k + 1) = if mtB a b m = true then mtc l a b k ++ [k] else mtc l a b k := by
  simp only [mtc, h]
theorem mtc_len (l : List Nat) (a b k : Nat) : (mtc l a b k).length ≤ k := by
  induction k with
  | zero => simp [mtc]
  | succ k ih =>
    unfold mtc
    split
    · split
      · simp; omega
      · omega
    · omega
end Go.Proofs.YtagjmggiaffihaaGreatDoor.At
namespace Go.Proofs.YtagjmggiaffihaaGreatDoor.At
open Go.RowKit Go.Shelf Go.Maps
/-- A way goes on: the set, the nodes' sets, the nodes that were come through. -/
structure Wy where
  m : Nat
  l : List Nat
  w : List Nat
def Wy.stp (f : Nat → Nat → Nat) (t : Wy) (c : Nat) : Wy := ⟨f t.m c, add t.l (f t.m c), t.w ++ [t.l.idxOf (f t.m c)]⟩
def Wy.run (f : Nat → Nat → Nat) (t : Wy) (ds : List Nat) : Wy := ds.foldl (Wy.stp f) t
theorem Wy.run_next (f : Nat → Nat → Nat) (t : Wy) {ds : List Nat} {k c : Nat} (h : ds[k]? = some c) : t.run f (ds.take (k + 1)) = (t.run f (ds.take k)).stp f c := by
  obtain ⟨hl, rfl⟩ := List.getElem?_eq_some_iff.1 h
  unfold Wy.run
  rw [List.take_succ_eq_append_getElem hl, List.foldl_append]
  rfl
theorem Wy.run_len (f : Nat → Nat → Nat) (t : Wy) (ds : List Nat) : (t.run f ds).w.length = t.w.length + ds.length := by
  induction ds generalizing t with
  | nil => rfl
  | cons c ds ih =>
    rw [show t.run f (c :: ds) = (t.stp f c).run f ds from rfl, ih]
    simp [Wy.stp]
    omega
theorem Wy.run_lt {n : Nat} (f : Nat → Nat → Nat) (t : Wy) (ds : List Nat) (h : t.m < 2 ^ n) (hf : ∀ m c, m < 2 ^ n → c ∈ ds → f m c < 2 ^ n) : (t.run f ds).m < 2 ^ n := by
  induction ds generalizing t with
  | nil => exact h
  | cons c ds ih =>
    rw [show t.run f (c :: ds) = (t.stp f c).run f ds from rfl]
    exact ih _ (hf _ _ h List.mem_cons_self) fun m d hm hd => hf m d hm (List.mem_cons_of_mem _ hd)
/-- The whole way: first less, then more. -/
def way (l : List Nat) (i x y : Nat) : Wy := ((⟨x, l, [i]⟩ : Wy).run wo (lst 32 (an x y))).run wi (lst 32 (an y x))
/-- A way that is gone, in memory. -/
structure WR (B : Nat) (W : World) (rb n : Nat) (S0 : Nat → Prop) (lv mv : Value) (ds es : List Nat) (S : Nat → Prop) (l : List Nat) (wv : Value) (wl : List Nat) (wr : World) : Prop where
  atl : Atl B wr rb ⟨n, l⟩ S
  st : St S0 W wr
  new : ∀ x, S x → S0 x ∨ W.heap.size ≤ x
  way : Ints W.heap.size wr wv wl
  less : Ints W.heap.size wr lv ds
  more : Ints W.heap.size wr mv es
  nw : ∀ k, wv.ownBlock = some k → ¬ S k
  nl : ∀ k, lv.ownBlock = some k → ¬ S k
  nm : ∀ k, mv.ownBlock = some k → ¬ S k
  lw : ∀ k, lv.ownBlock = some k → ¬ (wv.ownBlock = some k)
  mw : ∀ k, mv.ownBlock = some k → ¬ (wv.ownBlock = some k)
section
variable {B : Nat} {W : World} {rb n : Nat} {S0 : Nat → Prop} {lv mv : Value} {ds es : List Nat} {S : Nat → Prop} {l : List Nat} {wv : Value} {wl : List Nat} {wr w2 : World}
theorem WR.node {l' : List Nat} (h : WR B W rb n S0 lv mv ds es S l wv wl wr) (hg : Goes B rb ⟨n, l'⟩ S wr w2) : ∃ S', WR B W rb n S0 lv mv ds es S' l' wv wl w2 := by
  obtain ⟨S', a, st, f⟩ := hg
  have q : ∀ {v : Value} {t : List Nat}, Ints W.heap.size wr v t → (∀ k, v.ownBlock = some k → ¬ S k) → ∀ k, v.ownBlock = some k → ¬ S' k := fun hi hn k hk e => by
    rcases f k e with e | e
    · exact hn k hk e
    · have := (hi.lt k hk).2; omega
  refine ⟨S', a, h.st.trans st fun x hx e => (h.new x e).elim id fun e => by omega, fun x e => ?_, h.way.kept st h.nw, h.less.kept st h.nl, h.more.kept st h.nm, q h.way h.nw, q h.less h.nl, q h.more h.nm, h.lw, h.mw⟩
  rcases f x e with e | e
  · exact h.new x e
  · exact .inr (Nat.le_trans h.st.size e)
theorem WR.append {wv' : Value} {k : Nat} (h : WR B W rb n S0 lv mv ds es S l wv wl wr) (hi : Ints W.heap.size w2 wv' (wl ++ [k])) (st : St (fun x => wv.ownBlock = some x) wr w2) (hat : wv'.ownBlock = wv.ownBlock ∨ ∃ x, wv'.ownBlock = some x ∧ wr.heap.size ≤ x) :
    WR B W rb n S0 lv mv ds es S l wv' (wl ++ [k]) w2 := by
  have q : ∀ {v : Value} {t : List Nat}, Ints W.heap.size wr v t → (∀ k, v.ownBlock = some k → ¬ (wv.ownBlock = some k)) → ∀ k, v.ownBlock = some k → ¬ (wv'.ownBlock = some k) := fun hv hn k hk e => by
    rcases hat with a | ⟨x, a, b⟩
    · exact hn k hk (a ▸ e)
    · rw [a] at e
      have := (hv.lt k hk).2
      simp at e
      omega
  refine ⟨h.atl.kept st fun k hk e => h.nw k e hk, h.st.trans st fun x hx e => by have := (h.way.lt x e).1; omega, h.new, hi, h.less.kept st h.lw, h.more.kept st h.mw, fun k hk e => ?_, h.nl, h.nm, q h.less h.lw, q h.more h.mw⟩
  rcases hat with a | ⟨x, a, b⟩
  · exact h.nw k (a ▸ hk) e
  · rw [a] at hk
    have := (h.atl.lt k e).2
    simp at hk
    omega
end
section
variable {B : Nat} {W W' : World} {rb : Nat} {s : AS} {S : Nat → Prop}
end
end Go.Proofs.YtagjmggiaffihaaGreatDoor.At
namespace Go.Proofs.YtagjmggiaffihaaGreatDoor.At
open Go.RowKit Go.Shelf Go.Maps
/-- A row of sets that is owned. -/
def Msk (B : Nat) (W : World) (v : Value) (l : List Nat) : Prop := W.ownsRow B 49 1 v l.length (l.map gM)
theorem Msk.kept {B : Nat} {W W' : World} {v : Value} {l : List Nat} {T : Nat → Prop} (h : Msk B W v l) (hs : St T W W') (hd : ∀ k, v.ownBlock = some k → ¬ T k) : Msk B W' v l :=
  own_later h fun k _ hk hb => (hs.block k (Array.getElem?_eq_some_iff.1 hb).1 (hd k hk)).trans hb
theorem Msk.later {B : Nat} {W W' : World} {v : Value} {l : List Nat} (h : Msk B W v l) (hb : Below W.heap.size W W') : Msk B W' v l := own_later h fun _ _ _ hb' => blk_seen hb (Nat.le_refl _) hb'
theorem Msk.slice {B : Nat} {W : World} {v : Value} {l : List Nat} (h : Msk B W v l) : ∃ a c, v = .slice a l.length c := own_slice h
theorem Msk.lower {B B' : Nat} {W : World} {v : Value} {l : List Nat} (h : Msk B W v l) (hB : B' ≤ B) : Msk B' W v l :=
  ⟨h.1, h.2.elim .inl fun ⟨g, cap, cur, h1, h2, h3⟩ => .inr ⟨g, cap, cur, h1, by omega, h3⟩⟩
theorem Msk.cell {B : Nat} {W : World} {a : Option Addr} {c : Nat} {l : List Nat} (h : Msk B W (.slice a l.length c) l) {i m : Nat} (hi : l[i]? = some m) : ∃ g, a = some ⟨g, 0, none⟩ ∧ W.cell? ⟨g, i, none⟩ = some (.int .u32 (m : Int)) := by
  have hlt := (List.getElem?_eq_some_iff.1 hi).1
  obtain ⟨g, rfl, -, -⟩ := own_some h (by omega)
  refine ⟨g, rfl, ?_⟩
  rw [World.ownsRow.cellAt h i (by omega), List.getElem?_map, hi]
  rfl
theorem msk_one (W : World) (m : Nat) : Msk 0 (W.alloc (.cells #[.int .u32 (m : Int)] 49)) (.slice (some ⟨W.heap.size, 0, none⟩) 1 1) [m] :=
  ⟨rfl, .inr ⟨W.heap.size, 1, #[.int .u32 (m : Int)], rfl, Nat.zero_le _, heap_alloc_new W _, Nat.le_refl _, by unfold maxLen; omega, rfl, rfl⟩⟩
theorem msk_none (W : World) : Msk W.heap.size (W.alloc (.cells #[] 49)) (.slice (some ⟨W.heap.size, 0, none⟩) 0 0) [] :=
  World.ownsRow_lit (base := W.heap.size) (e := 49) (size := 1) W #[] 0 (Nat.le_refl _) (Nat.zero_le _) rfl
theorem run_msk {B N : Nat} {wc : World} {v sv : Value} {xs ns : List Nat} (hown : Msk N wc v xs) (hsrc : Msk B wc sv ns) (hl : xs.length + ns.length ≤ 200000) (hN : N ≤ wc.heap.size) (ty : TypeId) :
    ∃ v' w', (Builtin.append_ #[79, 79] ty #[v, sv]).run Tryz.prog wc = .ok v' w' ∧ Msk N w' v' (xs ++ ns) ∧ wc.grownBy w' v.ownBlock := by
  obtain ⟨i0, hi, hz0, hz1, hz2⟩ := info_parts infoInt33
  rcases hsrc.2 with ⟨h1, h2⟩ | ⟨g, cap, cur, h1, h2, h3, h4, h5, h6, h7⟩
  · have hn : ns = [] := List.eq_nil_of_length_eq_zero h2
    subst hn
    rw [h1]
    refine ⟨v, wc, run_append_owned_none wc N 79 ty 49 i0 1 Tryz.underlying79 hi v xs.length (xs.map gM) hown, by rw [List.append_nil]; exact hown, ⟨rfl, rfl, rfl, Nat.le_refl _, fun _ _ _ => rfl⟩⟩
  · rw [h1]
    have hc := hsrc
    rw [h1] at hc
    obtain ⟨v', w', hr, h8, h9, -, -⟩ := run_append_own_at (P := Tryz.prog) wc N 79 ty 49 i0 (.int .u32 0) 1 4 Tryz.underlying79 hi hz0 hz1 hz2 rfl (by decide) v xs.length (xs.map gM) hown ⟨g, 0, none⟩ ns.length cap (ns.map gM) (by simp) (fun j u hu => by
      rw [add_at]
      have hj : j < ns.length * 1 := by have := (List.getElem?_eq_some_iff.1 hu).1; simpa using this
      rw [World.ownsRow.cellAt hc j hj]; exact hu) (by intro u hu; obtain ⟨x, _, rfl⟩ := List.mem_map.1 hu; rfl) (by unfold maxLen; omega) (by omega) hN
    refine ⟨v', w', hr, ?_, h9⟩
    show World.ownsRow _ _ _ _ _ _ _
    rw [List.map_append, List.length_append]
    exact h8
theorem wpList_msk {ops : Array Oper} {rest : List Oper} {o : Oper} {a : Act} {Q : Exit → Act → World → Prop} (hgd : o.guard = none) (s x : Operand)
    (ho : o.op = .call { callee := .builtin .append, args := #[s, x], argTypes := #[79, 79] }) {B : Nat} {w2 wc : World} {v sv : Value} {xs ns : List Nat} (hb : Below w2.heap.size w2 wc) (hown : Msk w2.heap.size wc v xs) (hsrc : Msk B wc sv ns)
    (hl : xs.length + ns.length ≤ 200000) (hs : a.eval s = v) (hx : a.eval x = sv)
    (h : ∀ v' w4, Hid (Msk w2.heap.size w4 v' (xs ++ ns)) → Hid (Below w2.heap.size w2 w4) → wpList Tryz.prog ops Q rest (a.put o.dst v') w4) :
    wpList Tryz.prog ops Q (o :: rest) a wc := by
  refine wpList_plain hgd fun K hK => ?_
  obtain ⟨v', w', hr, h2, h3⟩ := run_msk hown hsrc hl hb.size o.type
  unfold Oper.wp
  simp [execOp, ho, resolve, invoke, builtin, hs, hx, hr, Result.andThen]
  exact hK _ _ (h v' w' h2 (hb.grown h3 hb.size fun k hk => (World.ownsRow.lt hown k hk).1))
end Go.Proofs.YtagjmggiaffihaaGreatDoor.At
namespace Go.Proofs.YtagjmggiaffihaaGreatDoor.So
open Go.RowKit Go.Shelf Go.Maps
open Go.WideElems (Fit rg)
open Go.Proofs.YtagjmggiaffihaaGreatDoor.Co (I64 keyed3 key_int I64_mid isKeyI key_ne)
open Go.Proofs.YtagjmggiaffihaaGreatDoor.At (St bAl cell_blk blk_seen blk_free few_of)
def ptrV : Option Nat → Value
  | none => .pointer none
  | some b => .pointer (some ⟨b, 0, none⟩)
def ptrD : Option Nat → DataW Unit
  | none => .nil
  | some b => .lit (.int .i64 (b : Int))
/-- How a pointer reads: by its block's number. -/
def ptrElem : Value → Option (DataW Unit × List MemPlace)
  | .pointer none => some (.nil, [])
  | .pointer (some a) => if a.off = 0 ∧ a.spot = none then some (.lit (.int .i64 (a.block : Int)), []) else none
  | _ => none
theorem ptrElem_mk (x : Option Nat) : ptrElem (ptrV x) = some (ptrD x, []) := by
  cases x <;> simp [ptrElem, ptrV, ptrD]
theorem ptrElem_inv {v : Value} {y : DataW Unit × List MemPlace} (h : ptrElem v = some y) : ∃ x, v = ptrV x ∧ y = (ptrD x, []) := by
  unfold ptrElem at h
  split at h
  · cases h; exact ⟨none, rfl, rfl⟩
  · rename_i a
    split at h
    · rename_i hc
      obtain ⟨b, o, q⟩ := a
      obtain ⟨rfl, rfl⟩ := hc
      cases h
      exact ⟨some b, rfl, rfl⟩
    · cases h
  · cases h
theorem ptrD_inj {x y : Option Nat} (h : ptrD x = ptrD y) : x = y := by
  cases x <;> cases y <;> simp [ptrD] at h ⊢
  omega
/-- What lies at a number. -/
def lk (g : Nat → Option Nat) (i : Int) : Option Nat := if 0 ≤ i then g i.toNat else none
theorem lk_nat (g : Nat → Option Nat) (n : Nat) : lk g (n : Int) = g n := by simp [lk]
def PHolds (D : DataW Unit) (g : Nat → Option Nat) : Prop := ∀ i, I64 i → Maps.has D (.int .i64 i) = (lk g i).isSome ∧ D.atKey (.int .i64 i) .nil = ptrD (lk g i)
def gput (g : Nat → Option Nat) (n : Nat) (x : Option Nat) : Nat → Option Nat := fun m => if m = n then x else g m
theorem lk_gput (g : Nat → Option Nat) (n : Nat) (x : Option Nat) (i : Int) : lk (gput g n x) i = if i = (n : Int) then x else lk g i := by
  unfold lk gput
  by_cases h0 : 0 ≤ i
  · rw [if_pos h0, if_pos h0]
    by_cases e : i = (n : Int)
    · subst e; simp
    · rw [if_neg e, if_neg (by omega)]
  · rw [if_neg h0, if_neg h0, if_neg (by omega)]
theorem PHolds.put {D : DataW Unit} {g : Nat → Option Nat} (hD : Tidy D) (h : PHolds D g) (n b : Nat) : PHolds (D.put (.int .i64 (n : Int)) (ptrD (some b))) (gput g n (some b)) := by
  intro i hi
  rw [lk_gput]
  by_cases e : i = (n : Int)
  · subst e
    rw [if_pos rfl]
    exact ⟨Maps.has_put_same hD.isMap (isKeyI _) _, Maps.atKey_put_same hD.isMap (isKeyI _) _ _⟩
  · rw [if_neg e, Maps.has_put_other (key_ne e), Maps.atKey_put_other (key_ne e)]
    exact h i hi
theorem PHolds.del {D : DataW Unit} {g : Nat → Option Nat} (h : PHolds D g) (n : Nat) : PHolds (D.del (.int .i64 (n : Int))) (gput g n none) := by
  intro i hi
  rw [lk_gput]
  by_cases e : i = (n : Int)
  · subst e
    rw [if_pos rfl]
    exact ⟨Maps.has_del_same, Maps.atKey_del_same _⟩
  · rw [if_neg e, Maps.has_del_other (key_ne e), Maps.atKey_del_other (key_ne e)]
    exact h i hi
/-- A map from numbers to pointers, in memory. -/
def PMap (W : World) (mb : Nat) (g : Nat → Option Nat) : Prop := ∃ D, W.ownsMap Tryz.prog 3 ptrElem mb (Maps.size D) D ∧ PHolds D g
theorem own_size {W : World} {mb n : Nat} {D : DataW Unit} (h : W.ownsMap Tryz.prog 3 ptrElem mb n D) : W.ownsMap Tryz.prog 3 ptrElem mb (Maps.size D) D := by
  obtain ⟨es, clock, hb, F, _, rfl⟩ := h
  exact ⟨es, clock, hb, F, by simp [Maps.size, length_sorted], rfl⟩
def natOf : Lit → Nat
  | .int _ x => x.toNat
  | _ => 0
theorem psize {W : World} {mb n N : Nat} {D : DataW Unit} {g : Nat → Option Nat} (h : W.ownsMap Tryz.prog 3 ptrElem mb n D) (hH : PHolds D g) (hN : ∀ m b, g m = some b → m < N) : Maps.size D ≤ N := by
  obtain ⟨es, clock, hb, F, _, rfl⟩ := h
  have hk := Maps.fit_keys F
  have hap := Maps.fit_apart keyed3 F
  have e1 : Maps.size (DataW.map ((es.toList.map (rg Tryz.prog 3 ptrElem)).foldr DataW.insert [])) = (es.toList.map (rg Tryz.prog 3 ptrElem)).length := by simp [Maps.size, length_sorted]
  have hm : ∀ p ∈ es.toList.map (rg Tryz.prog 3 ptrElem), ∃ m b, p.1 = .int .i64 ((m : Nat) : Int) ∧ g m = some b := by
    intro p hp
    obtain ⟨v, hv⟩ := hk p hp
    obtain ⟨x, _, e, hw⟩ := Maps.keyOf_int_inv Tryz.underlying3 hv
    have h1 := (hH x hw).1
    have h2 : Maps.has (DataW.map ((es.toList.map (rg Tryz.prog 3 ptrElem)).foldr DataW.insert [])) (.int .i64 x) = true := by
      rw [Maps.has_eq, List.any_eq_true]
      exact ⟨p, Go.mem_sorted.2 hp, by rw [e]; simp [Lit.sameKey]⟩
    rw [h2] at h1
    obtain ⟨b, hb⟩ := Option.isSome_iff_exists.1 h1.symm
    unfold lk at hb
    split at hb
    · rename_i h0
      exact ⟨x.toNat, b, by rw [e, Int.toNat_of_nonneg h0], hb⟩
    · cases hb
  rw [e1]
  generalize es.toList.map (rg Tryz.prog 3 ptrElem) = L at hap hm
  have hnd : (L.map fun p => natOf p.1).Nodup := by
    rw [List.Nodup, List.pairwise_map]
    refine List.Pairwise.imp_of_mem ?_ hap
    intro p q hp hq hne e
    obtain ⟨m, b, e1, _⟩ := hm p hp
    obtain ⟨m', b', e2, _⟩ := hm q hq
    rw [e1, e2] at hne e
    simp [natOf] at e
    exact hne (by rw [e])
  have := few_of (N := N) hnd fun x hx => by
    obtain ⟨p, hp, rfl⟩ := List.mem_map.1 hx
    obtain ⟨m, b, e1, e2⟩ := hm p hp
    rw [e1]
    simpa [natOf] using hN m b e2
  simpa using this
section
variable {W W' : World} {mb : Nat} {g : Nat → Option Nat} {t e : TypeId}
theorem PMap.lt (h : PMap W mb g) : mb < W.heap.size := by obtain ⟨D, h1, -⟩ := h; exact h1.lt
theorem PMap.kept {T : Nat → Prop} (h : PMap W mb g) (hs : St T W W') (hn : ¬ T mb) : PMap W' mb g := by
  obtain ⟨D, ⟨es, cl, hb, q⟩, h2⟩ := h
  exact ⟨D, ⟨es, cl, hs.at hb hn, q⟩, h2⟩
theorem PMap.obj (h : PMap W mb g) : ∃ es cl, W.heap[mb]? = some (.map es cl) := by
  obtain ⟨D, ⟨es, cl, hb, q⟩, h2⟩ := h
  exact ⟨es, cl, hb⟩
theorem PMap.cells_ne (h : PMap W mb g) {k : Nat} {c : Array Value} {ty : TypeId} {fr : Nat × Nat} (hk : W.heap[k]? = some (.cells c ty fr)) : k ≠ mb := fun q => by
  obtain ⟨es, cl, hb⟩ := h.obj
  rw [q, hb] at hk
  cases hk
theorem pmap_made (W : World) : PMap (W.alloc (.map #[] 0)) W.heap.size (fun _ => none) := by
  refine ⟨.map [], World.ownsMap_made W Tryz.prog 3 ptrElem, fun i _ => ?_⟩
  have e : lk (fun _ => none) i = none := by unfold lk; split <;> rfl
  rw [e]
  exact ⟨rfl, rfl⟩
theorem PMap.look_ok (h : PMap W mb g) (ht : Tryz.prog.underlying t = some (.map 3 e)) (hz : (zeroValue e).run Tryz.prog W = .ok (.pointer none) W) (i : Int) (hi : I64 i) :
    (Instr.lookup t (.map (some mb)) (.int .i64 i) true).run Tryz.prog W = .ok (.tuple #[ptrV (lk g i), .bool (lk g i).isSome]) W := by
  obtain ⟨D, h1, hH⟩ := h
  obtain ⟨v, ps, hr, hv⟩ := h1.look_ok keyed3 ht hz (ptrElem_mk none) (key_int i hi)
  obtain ⟨x, rfl, e2⟩ := ptrElem_inv hv
  rw [show ptrD none = (.nil : DataW Unit) from rfl, (hH i hi).2] at e2
  simp only [Prod.mk.injEq] at e2
  rw [hr, (hH i hi).1, ← ptrD_inj e2.1]
theorem PMap.look (h : PMap W mb g) (ht : Tryz.prog.underlying t = some (.map 3 e)) (hz : (zeroValue e).run Tryz.prog W = .ok (.pointer none) W) (i : Int) (hi : I64 i) :
    (Instr.lookup t (.map (some mb)) (.int .i64 i) false).run Tryz.prog W = .ok (ptrV (lk g i)) W := by
  obtain ⟨D, h1, hH⟩ := h
  obtain ⟨v, ps, hr, hv⟩ := h1.lookup keyed3 ht hz (ptrElem_mk none) (key_int i hi)
  obtain ⟨x, rfl, e2⟩ := ptrElem_inv hv
  rw [show ptrD none = (.nil : DataW Unit) from rfl, (hH i hi).2] at e2
  simp only [Prod.mk.injEq] at e2
  rw [hr, ← ptrD_inj e2.1]
theorem turned_st (h : W.mapTurned W' mb) : St (fun k => k = mb) W W' := St.of_grown h.grown fun k e => by simpa using e.symm
theorem PMap.store (h : PMap W mb g) (ht : Tryz.prog.underlying t = some (.map 3 e)) (hN : ∀ m b, g m = some b → m < 70000) (n b : Nat) (hn : n ≤ 100000) :
    ∃ w', (Instr.mapUpdate t (.map (some mb)) (.int .i64 (n : Int)) (.pointer (some ⟨b, 0, none⟩))).run Tryz.prog W = .ok () w' ∧ PMap w' mb (gput g n (some b)) ∧ St (fun k => k = mb) W w' := by
  obtain ⟨D, h1, hH⟩ := h
  have hs := psize h1 hH hN
  obtain ⟨w', hr, h2, h3⟩ := h1.store keyed3 ht (by unfold maxLen; omega) (key_int (n : Int) (I64_mid (by omega) (by omega))) (ptrElem_mk (some b))
  exact ⟨w', hr, ⟨_, own_size h2, hH.put (h1.tidy keyed3) n b⟩, turned_st h3⟩
theorem PMap.drop (h : PMap W mb g) (ht : Tryz.prog.underlying t = some (.map 3 e)) (n : Nat) (hn : n ≤ 100000) (ty : TypeId) :
    ∃ w', (Builtin.delete_ #[t, 3] ty #[.map (some mb), .int .i64 (n : Int)]).run Tryz.prog W = .ok (.tuple #[]) w' ∧ PMap w' mb (gput g n none) ∧ St (fun k => k = mb) W w' := by
  obtain ⟨D, h1, hH⟩ := h
  obtain ⟨w', hr, h2, h3⟩ := h1.drop keyed3 ht (key_int (n : Int) (I64_mid (by omega) (by omega))) ty
  exact ⟨w', hr, ⟨_, own_size h2, hH.del n⟩, turned_st h3⟩
end
end Go.Proofs.YtagjmggiaffihaaGreatDoor.So
namespace Go.Proofs.YtagjmggiaffihaaGreatDoor.Ro
open Go.RowKit Go.Shelf Go.Maps
theorem Tryz.laidOut : laidOutB Tryz.prog = true := by kernel_rfl
theorem Tryz.size24 : 43 < Tryz.prog.types.size := of_decide_eq_true (by kernel_rfl)
theorem Tryz.wide24 : (match Tryz.prog.underlying 43 with | some (.array _ _) | some (.struct _) => true | _ => false) = true := by rw [Tryz.underlying43]
set_option maxRecDepth 100000 in
theorem keyed24 : Keyed Tryz.prog 43 := Keyed.of_law (deep_law_laid Tryz.laidOut (m := 2) (by omega) Tryz.size24 (by kernel_rfl) Tryz.wide24)
theorem zero63 (w : World) : (zeroValue 212).run Tryz.prog w = .ok (.agg #[]) w := by kernel_rfl
/-- An entity, as a value. -/
def entV (i g : Int) : Value := .agg #[.int .i64 i, .int .i64 g]
/-- An entity's key. -/
def kl (i g : Int) : Lit := .string (keyBytes [.int .i64 i, .int .i64 g])
def I64 (i : Int) : Prop := (Lit.int .i64 i).wf = true
theorem kl_key (i g : Int) : WideAt.IsKeyLit (kl i g) := trivial
theorem keyT24 : Tryz.prog.keyType 43 = true := by kernel_rfl
theorem size128 : Tryz.prog.types.size = 310 := by kernel_rfl
theorem keyS24 : ∃ d, Tryz.prog.types.size + 1 = d + 2 := ⟨309, congrArg (· + 1) size128⟩
theorem cells24 : Tryz.prog.cellsOf 43 = 2 := by kernel_rfl
theorem cells3 : Tryz.prog.cellsOf 3 = 1 := by kernel_rfl
theorem lits3 (d : Nat) (i : Int) (hi : I64 i) : Tryz.prog.keyLits (d + 1) 3 [.int .i64 i] = some [.int .i64 i] := by
  unfold Program.keyLits
  rw [Tryz.underlying3]
  exact if_pos ⟨rfl, hi⟩
theorem flat_lits (i g : Int) : [[Lit.int .i64 i], [Lit.int .i64 g]].flatten = [.int .i64 i, .int .i64 g] := rfl
theorem lits24 (d : Nat) (i g : Int) (hi : I64 i) (hg : I64 g) : Tryz.prog.keyLits (d + 2) 43 [.int .i64 i, .int .i64 g] = some [.int .i64 i, .int .i64 g] := by
  unfold Program.keyLits
  rw [Tryz.underlying43]
  refine (if_pos ⟨by rw [cells24]; rfl, by kernel_rfl⟩).trans ?_
  simp only [List.mapM_cons, List.mapM_nil, cells3, List.drop_zero, List.drop_succ_cons, List.take_succ_cons, List.take_zero, lits3 d i hi, lits3 d g hg]
  rfl
theorem key_ent (i g : Int) (hi : I64 i) (hg : I64 g) : keyOf Tryz.prog 43 (entV i g) = some (kl i g) := by
  obtain ⟨d, hd⟩ := keyS24
  unfold keyOf
  rw [Tryz.underlying43, hd]
  have hf : (entV i g).formed Tryz.prog 43 = true := by
    unfold entV Value.formed
    rw [Tryz.underlying43, cells24]
    rfl
  have hc : (entV i g).cells.toList = [.int .i64 i, .int .i64 g] := rfl
  refine (if_pos (by rw [keyT24, hf]; rfl)).trans ?_
  rw [hc, lits24 d i g hi hg]
  rfl
theorem ent_inj {i g i' g' : Int} (h : entV i g = entV i' g') : i = i' ∧ g = g' := by
  unfold entV at h
  simpa using h
theorem kl_inj {i g i' g' : Int} (hi : I64 i) (hg : I64 g) (hi' : I64 i') (hg' : I64 g') (h : kl i g = kl i' g') : i = i' ∧ g = g' :=
  ent_inj (keyed24.inj (key_ent i g hi hg) (h ▸ key_ent i' g' hi' hg'))
theorem I64_small {n : Int} (h0 : 0 ≤ n) (h1 : n ≤ 1000000) : I64 n := by
  unfold I64 Lit.wf
  simp [IntKind.min, IntKind.max, IntKind.signed, IntKind.bits]
  omega
/-- Places: their generations, and the row of the free ones. -/
structure RS where
  gens : List Nat
  free : List Nat
def RS.ok (r : RS) : Prop := r.free.Nodup ∧ ∀ i ∈ r.free, i < r.gens.length
/-- Whether an entity is alive. -/
def RS.aliveB (r : RS) (i g : Int) : Bool := decide (0 ≤ i ∧ 0 ≤ g ∧ i.toNat ∉ r.free ∧ r.gens[i.toNat]? = some g.toNat)
theorem RS.aliveB_iff (r : RS) (i g : Int) : r.aliveB i g = true ↔ 0 ≤ i ∧ 0 ≤ g ∧ i.toNat ∉ r.free ∧ r.gens[i.toNat]? = some g.toNat := by unfold RS.aliveB; exact decide_eq_true_iff
/-- The place i is given, in its next generation. -/
def RS.took (r : RS) (i : Nat) : RS := ⟨r.gens.set i (r.gens.getD i 0 + 1), r.free.dropLast⟩
def RS.freed (r : RS) (i : Nat) : RS := ⟨r.gens, r.free ++ [i]⟩
/-- What the map of those that are given says. -/
def Holds (D : DataW Unit) (r : RS) : Prop := (∀ i g, I64 i → I64 g → Maps.has D (kl i g) = r.aliveB i g) ∧ Maps.size D + r.free.length = r.gens.length
theorem free_split {r : RS} (h : r.free ≠ []) : ∃ f i, r.free = f ++ [i] := ⟨r.free.dropLast, r.free.getLast h, (List.dropLast_concat_getLast h).symm⟩
theorem RS.ok.took {r : RS} {f : List Nat} {i : Nat} (h : r.ok) (hf : r.free = f ++ [i]) : (r.took i).ok := by
  obtain ⟨h1, h2⟩ := h
  rw [hf] at h1 h2
  unfold RS.took RS.ok
  rw [hf, List.dropLast_concat]
  refine ⟨(List.nodup_append.1 h1).1, fun j hj => ?_⟩
  simpa using h2 j (List.mem_append_left _ hj)
theorem RS.took_alive {r : RS} {f : List Nat} {i : Nat} (h : r.ok) (hf : r.free = f ++ [i]) (j g : Int) : (r.took i).aliveB j g = if j = (i : Int) ∧ g = ((r.gens.getD i 0 + 1 : Nat) : Int) then true else r.aliveB j g := by
  obtain ⟨h1, h2⟩ := h
  rw [hf] at h1 h2
  have hi := h2 i (by simp)
  have hn : i ∉ f := fun hm => by
    have := (List.nodup_append.1 h1).2.2 i hm i (by simp)
    exact this rfl
  split
  · rename_i hc
    obtain ⟨rfl, rfl⟩ := hc
    rw [RS.aliveB_iff]
    refine ⟨by omega, by omega, ?_, ?_⟩
    · simp only [RS.took, hf, List.dropLast_concat, Int.toNat_natCast]; exact hn
    · simp only [RS.took, Int.toNat_natCast]
      rw [List.getElem?_set_self hi]
  · rename_i hc
    rw [Bool.eq_iff_iff, RS.aliveB_iff, RS.aliveB_iff]
    simp only [RS.took, hf, List.dropLast_concat]
    by_cases hj : j.toNat = i
    · rw [hj]
      constructor
      · rintro ⟨a, b, c, d⟩
        rw [List.getElem?_set_self hi] at d
        simp only [Option.some.injEq] at d
        exact absurd ⟨by omega, by omega⟩ hc
      · rintro ⟨a, b, c, d⟩
        exact absurd (by simp) c
    · rw [List.getElem?_set_ne (fun e => hj e.symm)]
      simp only [List.mem_append, List.mem_singleton, not_or]
      constructor
      · rintro ⟨a, b, c, d⟩; exact ⟨a, b, ⟨c, hj⟩, d⟩
      · rintro ⟨a, b, ⟨c, _⟩, d⟩; exact ⟨a, b, c, d⟩
theorem RS.freed_ok {r : RS} {i g : Int} (h : r.ok) (ha : r.aliveB i g = true) : (r.freed i.toNat).ok := by
  obtain ⟨a, b, c, d⟩ := (RS.aliveB_iff r i g).1 ha
  refine ⟨?_, ?_⟩
  · unfold RS.freed
    rw [List.nodup_append]
    exact ⟨h.1, by simp, fun x hx y hy e => by simp at hy; subst hy; exact c (e ▸ hx)⟩
  · intro j hj
    rcases List.mem_append.1 hj with hj | hj
    · exact h.2 j hj
    · simp at hj; subst hj; exact (List.getElem?_eq_some_iff.1 d).1
theorem RS.freed_alive {r : RS} {i g : Int} (ha : r.aliveB i g = true) (j k : Int) : (r.freed i.toNat).aliveB j k = if j = i ∧ k = g then false else r.aliveB j k := by
  obtain ⟨a, b, c, d⟩ := (RS.aliveB_iff r i g).1 ha
  split
  · rename_i hc
    obtain ⟨rfl, rfl⟩ := hc
    rw [Bool.eq_false_iff]
    intro h
    obtain ⟨_, _, h3, _⟩ := (RS.aliveB_iff _ _ _).1 h
    exact h3 (by simp [RS.freed])
  · rename_i hc
    rw [Bool.eq_iff_iff, RS.aliveB_iff, RS.aliveB_iff]
    simp only [RS.freed, List.mem_append, List.mem_singleton, not_or]
    constructor
    · rintro ⟨a', b', ⟨c', _⟩, d'⟩; exact ⟨a', b', c', d'⟩
    · rintro ⟨a', b', c', d'⟩
      refine ⟨a', b', ⟨c', fun e => ?_⟩, d'⟩
      rw [e, d] at d'
      simp only [Option.some.injEq] at d'
      exact hc ⟨by omega, by omega⟩
theorem Holds.took {D : DataW Unit} {r : RS} {f : List Nat} {i : Nat} (hD : Tidy D) (h : Holds D r) (hok : r.ok) (hf : r.free = f ++ [i]) (h1 : I64 (i : Int)) (h2 : I64 ((r.gens.getD i 0 + 1 : Nat) : Int)) (u : DataW Unit) : Holds (D.put (kl i ((r.gens.getD i 0 + 1 : Nat) : Int)) u) (r.took i) := by
  refine ⟨fun j g hj hg => ?_, ?_⟩
  · rw [RS.took_alive hok hf]
    split
    · rename_i hc
      obtain ⟨rfl, rfl⟩ := hc
      exact Maps.has_put_same hD.isMap (kl_key _ _) u
    · rename_i hc
      rw [Maps.has_put_other (fun e => hc (kl_inj hj hg h1 h2 e)) u]
      exact h.1 j g hj hg
  · have hn : r.aliveB (i : Int) ((r.gens.getD i 0 + 1 : Nat) : Int) = false := by
      rw [Bool.eq_false_iff]
      intro ha
      obtain ⟨_, _, c, _⟩ := (RS.aliveB_iff _ _ _).1 ha
      exact c (by simp [hf])
    rw [Maps.size_put hD, h.1 _ _ h1 h2, hn]
    have := h.2
    simp only [RS.took, hf, List.dropLast_concat, List.length_set, List.length_append, List.length_singleton] at this ⊢
    simp
    omega
theorem Holds.freed {D : DataW Unit} {r : RS} {i g : Int} (hD : Tidy D) (h : Holds D r) (ha : r.aliveB i g = true) (h1 : I64 i) (h2 : I64 g) : Holds (D.del (kl i g)) (r.freed i.toNat) := by
  refine ⟨fun j k hj hk => ?_, ?_⟩
  · rw [RS.freed_alive ha]
    split
    · rename_i hc
      obtain ⟨rfl, rfl⟩ := hc
      exact Maps.has_del_same
    · rename_i hc
      rw [Maps.has_del_other (fun e => hc (kl_inj hj hk h1 h2 e))]
      exact h.1 j k hj hk
  · have := Maps.size_del (k := kl i g) hD
    rw [h.1 _ _ h1 h2, ha] at this
    have h3 := h.2
    simp only [RS.freed, List.length_append, List.length_singleton] at this ⊢
    simp at this
    omega
end Go.Proofs.YtagjmggiaffihaaGreatDoor.Ro
namespace Go.Proofs.YtagjmggiaffihaaGreatDoor.Ro
open Go.RowKit Go.Shelf Go.Maps
/-- Outside S all lies as it lay. -/
structure St (S : Nat → Prop) (W W' : World) : Prop where
  os : W'.os = W.os
  tape : W'.tape = W.tape
  output : W'.output = W.output
  size : W.heap.size ≤ W'.heap.size
  block : ∀ k, k < W.heap.size → ¬ S k → W'.heap[k]? = W.heap[k]?
theorem St.refl (S : Nat → Prop) (W : World) : St S W W := ⟨rfl, rfl, rfl, Nat.le_refl _, fun _ _ _ => rfl⟩
theorem St.trans {S T : Nat → Prop} {a b c : World} (h : St S a b) (k : St T b c) (hs : ∀ x, x < a.heap.size → T x → S x) : St S a c :=
  ⟨k.os.trans h.os, k.tape.trans h.tape, k.output.trans h.output, Nat.le_trans h.size k.size, fun x hx hn => (k.block x (Nat.lt_of_lt_of_le hx h.size) (fun q => hn (hs x hx q))).trans (h.block x hx hn)⟩
theorem St.of_below {S : Nat → Prop} {a b : World} (h : Below a.heap.size a b) : St S a b := ⟨h.os, h.tape, h.output, h.size, fun k hk _ => h.block k hk⟩
theorem St.of_grown {S : Nat → Prop} {a b : World} {row : Option Nat} (h : a.grownBy b row) (hS : ∀ k, row = some k → S k) : St S a b :=
  ⟨h.os, h.tape, h.output, h.size, fun k hk hn => h.block k hk (fun e => hn (hS k e.symm))⟩
theorem St.below {S : Nat → Prop} {a b : World} {B : Nat} (h : St S a b) (hS : ∀ k, S k → B ≤ k) (hB : B ≤ a.heap.size) : Below B a b :=
  ⟨h.os, h.tape, h.output, h.size, fun k hk => h.block k (by omega) (fun q => by have := hS k q; omega)⟩
theorem St.setCell {S : Nat → Prop} {a : World} {p : Addr} (v : Value) (hp : S p.block) : St S a (a.setCell p v) :=
  ⟨rfl, rfl, rfl, by simp, fun k _ hn => Below.heap_setCell _ _ _ _ (fun e => hn (e ▸ hp))⟩
def gI (n : Nat) : Value := .int .i64 (n : Int)
/-- The blocks of a roll. -/
def Ft (rb gb mb : Nat) (fv : Value) (k : Nat) : Prop := k = rb ∨ k = gb ∨ k = mb ∨ fv.ownBlock = some k
/-- A roll in memory. -/
structure Rl (B : Nat) (W : World) (rb gb mb : Nat) (fv : Value) (t : Nat) (r : RS) : Prop where
  box : W.heap[rb]? = some (.cells #[.slice (some ⟨gb, 0, none⟩) r.gens.length r.gens.length, fv, .map (some mb)] 184 (0, 0))
  gens : W.heap[gb]? = some (.cells (r.gens.map gI).toArray 3 (0, 0))
  free : W.ownsRow B 3 1 fv r.free.length (r.free.map gI)
  map : ∃ D, W.ownsMap Tryz.prog 43 (unitElem (H := Unit)) mb t D ∧ Holds D r
  ok : r.ok
  small : r.gens.length ≤ 64
  old : ∀ g ∈ r.gens, g ≤ t
  low : B ≤ rb ∧ B ≤ gb ∧ B ≤ mb
  apart : fv.ownBlock ≠ some gb
theorem Rl.kept {B : Nat} {W W' : World} {rb gb mb t : Nat} {fv : Value} {r : RS} {T : Nat → Prop} (h : Rl B W rb gb mb fv t r) (hs : St T W W') (hd : ∀ k, Ft rb gb mb fv k → ¬ T k) : Rl B W' rb gb mb fv t r := by
  have lt := fun {k : Nat} {o : Obj} (h : W.heap[k]? = some o) => (Array.getElem?_eq_some_iff.1 h).1
  refine ⟨(hs.block rb (lt h.box) (hd _ (.inl rfl))).trans h.box, (hs.block gb (lt h.gens) (hd _ (.inr (.inl rfl)))).trans h.gens, ?_, ?_, h.ok, h.small, h.old, h.low, h.apart⟩
  · exact own_later h.free fun g cur hg hb => (hs.block g (lt hb) (hd _ (.inr (.inr (.inr hg))))).trans hb
  · obtain ⟨D, ⟨es, clock, hb, q⟩, hH⟩ := h.map
    exact ⟨D, ⟨es, clock, (hs.block mb (lt hb) (hd _ (.inr (.inr (.inl rfl))))).trans hb, q⟩, hH⟩
theorem Rl.later {B : Nat} {W W' : World} {rb gb mb t : Nat} {fv : Value} {r : RS} (h : Rl B W rb gb mb fv t r) (hb : Below W.heap.size W W') : Rl B W' rb gb mb fv t r := h.kept (T := fun _ => False) (St.of_below hb) (fun _ _ q => q)
theorem Rl.lt {B : Nat} {W : World} {rb gb mb t : Nat} {fv : Value} {r : RS} (h : Rl B W rb gb mb fv t r) (k : Nat) (hk : Ft rb gb mb fv k) : B ≤ k ∧ k < W.heap.size := by
  have lt := fun {k : Nat} {o : Obj} (h : W.heap[k]? = some o) => (Array.getElem?_eq_some_iff.1 h).1
  rcases hk with rfl | rfl | rfl | hk
  · exact ⟨h.low.1, lt h.box⟩
  · exact ⟨h.low.2.1, lt h.gens⟩
  · obtain ⟨D, hD, _⟩ := h.map; exact ⟨h.low.2.2, hD.lt⟩
  · exact h.free.lt k hk
theorem cell_blk {W : World} {b j : Nat} {cs : Array Value} {e : TypeId} {u : Value} (h : W.heap[b]? = some (.cells cs e (0, 0))) (hj : cs[j]? = some u) : W.cell? ⟨b, j, none⟩ = some u := by
  rw [cell_of_row _ _ j _ e (0, 0) h]; exact hj
theorem Rl.c0 {B : Nat} {W : World} {rb gb mb t : Nat} {fv : Value} {r : RS} (h : Rl B W rb gb mb fv t r) : W.cell? ⟨rb, 0, none⟩ = some (.slice (some ⟨gb, 0, none⟩) r.gens.length r.gens.length) := cell_blk h.box rfl
theorem Rl.c1 {B : Nat} {W : World} {rb gb mb t : Nat} {fv : Value} {r : RS} (h : Rl B W rb gb mb fv t r) : W.cell? ⟨rb, 1, none⟩ = some fv := cell_blk h.box rfl
theorem Rl.c2 {B : Nat} {W : World} {rb gb mb t : Nat} {fv : Value} {r : RS} (h : Rl B W rb gb mb fv t r) : W.cell? ⟨rb, 2, none⟩ = some (.map (some mb)) := cell_blk h.box rfl
theorem seen {B : Nat} {W W' : World} (hb : Below B W W') (hB : W.heap.size ≤ B) {p : Addr} {u : Value} (h : W.cell? p = some u) : W'.cell? p = some u := (hb.cell (p := p) (Nat.lt_of_lt_of_le (World.block_lt_of_cell? W p h) hB)).trans h
theorem look_ent {W : World} {mb t : Nat} {D : DataW Unit} (hD : W.ownsMap Tryz.prog 43 (unitElem (H := Unit)) mb t D) {i g : Int} (hi : I64 i) (hg : I64 g) {b : Bool} (hb : Maps.has D (kl i g) = b) :
    (Instr.lookup 182 (.map (some mb)) (.agg #[.int .i64 i, .int .i64 g]) true).run Tryz.prog W = .ok (.tuple #[.agg #[], .bool b]) W := by
  obtain ⟨v, ps, hr, hv⟩ := hD.look_ok keyed24 Tryz.underlying182 (zero63 W) (unitElem_mk (H := Unit)) (key_ent i g hi hg)
  obtain ⟨rfl, -⟩ := unitElem_inv hv
  rw [hb] at hr
  exact hr
set_option maxHeartbeats 1600000 in
set_option maxRecDepth 100000 in
theorem alive_any {B : Nat} {W : World} {rb gb mb t : Nat} {fv : Value} {r : RS} (h : Rl B W rb gb mb fv t r) (i g : Int) (hi : I64 i) (hg : I64 g) :
    Calls Tryz.prog 95 #[.pointer (some ⟨rb, 0, none⟩), .agg #[.int .i64 i, .int .i64 g]] W fun e W' => e = .returned (.bool (r.aliveB i g)) ∧ Below W.heap.size W W' := by
  have BA : Hid (Below W.heap.size W (W.alloc (.cells #[.int .i64 i, .int .i64 g] 43))) := (Below.refl _ _).alloc (Nat.le_refl _) _
  obtain ⟨d0, d1⟩ := cell_new2 W (.int .i64 i) (.int .i64 g) 43
  have KK : Hid (∀ W', Below (W.alloc (.cells #[.int .i64 i, .int .i64 g] 43)).heap.size (W.alloc (.cells #[.int .i64 i, .int .i64 g] 43)) W' → W'.cell? ⟨rb, 2, none⟩ = some (.map (some mb)) ∧ W'.cell? ⟨W.heap.size, 0, none⟩ = some (.int .i64 i) ∧ W'.cell? ⟨W.heap.size, 1, none⟩ = some (.int .i64 g) ∧ (Instr.lookup 182 (.map (some mb)) (.agg #[.int .i64 i, .int .i64 g]) true).run Tryz.prog W' = .ok (.tuple #[.agg #[], .bool (r.aliveB i g)]) W') := by
    intro W' hb
    have h' := (h.later BA.out).later hb
    obtain ⟨D, hD, hH⟩ := h'.map
    exact ⟨h'.c2, seen hb (Nat.le_refl _) d0, seen hb (Nat.le_refl _) d1, look_ent hD hi hg (hH.1 i g hi hg)⟩
  generalize r.aliveB i g = res at *
  clear h hi hg d0 d1
  go_enter Tryz.func95, Tryz.ntmps95
  go_wp2_with fail
  go_region_held3 (fun W' => W'.cell? ⟨rb, 2, none⟩ = some (.map (some mb)) ∧ W'.cell? ⟨W.heap.size, 0, none⟩ = some (.int .i64 i) ∧ W'.cell? ⟨W.heap.size, 1, none⟩ = some (.int .i64 g) ∧ (Instr.lookup 182 (.map (some mb)) (.agg #[.int .i64 i, .int .i64 g]) true).run Tryz.prog W' = .ok (.tuple #[.agg #[], .bool res]) W')
    (first | exact KK.out _ (Below.refl _ _).drew | exact KK.out _ ((Below.refl _ _).drew.alloc (by simp) _)) (fail)
  all_goals go_wp2_with fail
  all_goals go_ret
  all_goals exact ⟨rfl, (BA.out.alloc (by simp) _).drew⟩
set_option maxHeartbeats 400000 in
theorem alive_nil (v : Value) (i g : Int) (hv : v = .agg #[.int .i64 i, .int .i64 g]) (W : World) : Calls Tryz.prog 95 #[.pointer none, v] W fun e W' => e = .returned (.bool false) ∧ Below W.heap.size W W' := by
  subst hv
  go_enter Tryz.func95, Tryz.ntmps95
  go_wp2
  go_ret
  exact ⟨rfl, (Below.refl _ _).alloc (Nat.le_refl _) _⟩
theorem len_map {W : World} {mb t : Nat} {D : DataW Unit} (hD : W.ownsMap Tryz.prog 43 (unitElem (H := Unit)) mb t D) (n : Nat) (hn : Maps.size D = n) (ty : TypeId) :
    (Builtin.len_ #[182] ty #[.map (some mb)]).run Tryz.prog W = .ok (.int .i64 (n : Int)) W := by
  rw [← hn]; exact hD.len Tryz.underlying182 ty
/-- How many are given. -/
def RS.count (r : RS) : Nat := r.gens.length - r.free.length
set_option maxHeartbeats 800000 in
theorem count_any {B : Nat} {W : World} {rb gb mb t : Nat} {fv : Value} {r : RS} (h : Rl B W rb gb mb fv t r) :
    Calls Tryz.prog 91 #[.pointer (some ⟨rb, 0, none⟩)] W fun e W' => e = .returned (.int .i64 (r.count : Int)) ∧ W' = W := by
  have c2 := h.c2
  obtain ⟨D, hD, hH⟩ := h.map
  have hl := len_map hD r.count (by have := hH.2; unfold RS.count; omega)
  clear hD hH h
  go_enter Tryz.func91, Tryz.ntmps91
  go_wp2
  go_ret
  exact ⟨rfl, rfl⟩
set_option maxHeartbeats 400000 in
theorem count_nil (W : World) : Calls Tryz.prog 91 #[.pointer none] W fun e W' => e = .returned (.int .i64 0) ∧ W' = W := by
  go_enter Tryz.func91, Tryz.ntmps91
  go_wp2
  go_ret
  exact ⟨rfl, rfl⟩
end Go.Proofs.YtagjmggiaffihaaGreatDoor.Ro
namespace Go.Proofs.YtagjmggiaffihaaGreatDoor.Ro
open Go.RowKit Go.Shelf Go.Maps
def four : List Nat := [1, 2, 6, 17]
/-- The sentinels that a roll tells. -/
structure Env4 (w : World) (Ad : Nat → Addr) : Prop where
  cell : ∀ k ∈ four, w.cell? ⟨gv k, 0, none⟩ = some (.iface 278 (.pointer (some (Ad k))))
  sen : ∀ k ∈ four, SenK w (Ad k)
  inj : ∀ i ∈ four, ∀ j ∈ four, Ad i = Ad j → i = j
theorem Env4.later {w w' : World} {Ad : Nat → Addr} (h : Env4 w Ad) (hb : Below w.heap.size w w') : Env4 w' Ad :=
  ⟨fun k hk => seen hb (Nat.le_refl _) (h.cell k hk), fun k hk => (h.sen k hk).below hb (h.sen k hk).lt, h.inj⟩
theorem Env4.c1 {w : World} {Ad : Nat → Addr} (h : Env4 w Ad) : w.cell? ⟨0, 0, none⟩ = some (.iface 278 (.pointer (some (Ad 1)))) := h.cell 1 (by decide)
theorem Env4.c2 {w : World} {Ad : Nat → Addr} (h : Env4 w Ad) : w.cell? ⟨5, 0, none⟩ = some (.iface 278 (.pointer (some (Ad 2)))) := h.cell 2 (by decide)
theorem Env4.c6 {w : World} {Ad : Nat → Addr} (h : Env4 w Ad) : w.cell? ⟨3, 0, none⟩ = some (.iface 278 (.pointer (some (Ad 6)))) := h.cell 6 (by decide)
theorem Env4.c17 {w : World} {Ad : Nat → Addr} (h : Env4 w Ad) : w.cell? ⟨4, 0, none⟩ = some (.iface 278 (.pointer (some (Ad 17)))) := h.cell 17 (by decide)
theorem Env.four {w : World} {Ad : Nat → Addr} (h : Env w Ad) : Env4 w Ad := by
  have R : ∀ k ∈ YtagjmggiaffihaaGreatDoor.Ro.four, 1 ≤ k ∧ k ≤ 18 := by decide
  exact ⟨fun k hk => h.cell k (R k hk).1 (R k hk).2, fun k hk => h.sen k (R k hk).1 (R k hk).2, fun i hi j hj => h.inj i j (R i hi).1 (R i hi).2 (R j hj).1 (R j hj).2⟩
/-- A sentinel at a word. -/
def ErrAt (Ad : Nat → Addr) (W : World) (v : Value) (s : ByteArray) (k : Nat) : Prop := Chn Ad W.heap.size W 1 v ([s], k)
theorem at_err (Ad : Nat → Addr) (s : ByteArray) (k : Nat) (hk : 1 ≤ k ∧ k ≤ 18) (w : World) :
    Calls Tryz.prog 63 #[.string s, .iface 278 (.pointer (some (Ad k)))] w fun e w' => ∃ v', e = .returned v' ∧ ErrAt Ad w' v' s k ∧ Below w.heap.size w w' := at_chain Ad s 0 _ ([], k) w ⟨rfl, hk.1, hk.2, Nat.le_refl _⟩
theorem at_err_at (Ad : Nat → Addr) (s : ByteArray) (k : Nat) (hk : 1 ≤ k ∧ k ≤ 18) (w : World) :
    Calls Tryz.prog 63 #[.string s, .iface 278 (.pointer (some (Ad k)))] w fun e w' => e = .returned (.iface 208 (.pointer (some ⟨w.heap.size, 0, none⟩))) ∧ ErrAt Ad w' (.iface 208 (.pointer (some ⟨w.heap.size, 0, none⟩))) s k ∧ Below w.heap.size w w' := by
  refine (at_some s 278 (.pointer (some (Ad k))) w).mono ?_
  rintro e w' ⟨rfl, rfl⟩
  obtain ⟨c0, c1⟩ := cell_new2 w (.string s) (.iface 278 (.pointer (some (Ad k)))) 210
  exact ⟨rfl, ⟨⟨w.heap.size, _, rfl, by simp, c0, c1, rfl⟩, hk.1, hk.2, by simp⟩, (Below.refl _ _).alloc (Nat.le_refl _) _⟩
theorem ErrAt.later {Ad : Nat → Addr} {W W' : World} {v : Value} {s : ByteArray} {k : Nat} (h : ErrAt Ad W v s k) (hb : Below W.heap.size W W') : ErrAt Ad W' v s k := h.move hb hb.size
theorem ErrAt.shape {Ad : Nat → Addr} {W : World} {v : Value} {s : ByteArray} {k : Nat} (h : ErrAt Ad W v s k) : ∃ t q, v = .iface t q := by
  obtain ⟨t, q, rfl, _⟩ := h.1.shape; exact ⟨t, q, rfl⟩
def bTake : ByteArray := ⟨#[116, 97, 107, 101]⟩
def bFree : ByteArray := ⟨#[102, 114, 101, 101]⟩
def bMost : ByteArray := ⟨#[109, 111, 115, 116]⟩
theorem set_same {W : World} {b j : Nat} {cs : Array Value} {e : TypeId} {u : Value} (h : W.heap[b]? = some (.cells cs e (0, 0))) (hj : cs[j]? = some u) : W.setCell ⟨b, j, none⟩ u = W := by
  have e : (W.setCell ⟨b, j, none⟩ u).heap = W.heap := by
    apply Array.ext_getElem?
    intro k
    by_cases hk : k = b
    · subst hk
      rw [heap_setCell_same W k j cs e u h, h]
      have : cs.setIfInBounds j u = cs := by
        apply Array.ext_getElem?
        intro m
        rw [Array.getElem?_setIfInBounds]
        split
        · rename_i hm
          subst hm
          have := (Array.getElem?_eq_some_iff.1 hj).1
          rw [if_pos this, hj]
        · rfl
      rw [this]
    · exact Below.heap_setCell _ _ _ _ hk
  unfold World.setCell at e ⊢
  cases W
  simp at e ⊢
  exact e
theorem blk_free {W : World} {b : Nat} {cs : Array Value} {e : TypeId} (h : W.heap[b]? = some (.cells cs e (0, 0))) (j : Nat) : W.frozen? ⟨b, j, none⟩ = false := by
  unfold World.frozen?
  rw [show (⟨b, j, none⟩ : Addr).block = b from rfl, h]
  simp
theorem blk_seen {W W' : World} {B b : Nat} {o : Obj} (hb : Below B W W') (hB : W.heap.size ≤ B) (h : W.heap[b]? = some o) : W'.heap[b]? = some o := (hb.block b (Nat.lt_of_lt_of_le (Array.getElem?_eq_some_iff.1 h).1 hB)).trans h
set_option maxHeartbeats 800000 in
set_option maxRecDepth 100000 in
theorem take_nil (Ad : Nat → Addr) (W : World) (hE : Env4 W Ad) :
    Calls Tryz.prog 65 #[.pointer none] W fun e W' => ∃ v, e = .returned (.tuple #[.agg #[.int .i64 0, .int .i64 0], v]) ∧ ErrAt Ad W' v bTake 2 ∧ Below W.heap.size W W' := by
  have BA : Hid (Below W.heap.size W (W.alloc (.cells #[.int .i64 0, .int .i64 0] 43))) := (Below.refl _ _).alloc (Nat.le_refl _) _
  have e2 := hE.c2
  have hl := World.block_lt_of_cell? W _ e2
  have hn := World.new_ne W _ e2
  have AC := hid (at_err Ad bTake 2 (by decide) (W.alloc (.cells #[.int .i64 0, .int .i64 0] 43)))
  clear hE
  go_enter Tryz.func65, Tryz.ntmps65
  go_wp2_with fail
  refine AC.out.mono ?_
  rintro e w1 ⟨v, rfl, hv, hb⟩
  have HV := hid hv
  have HB := hid (BA.out.trans (hb.mono BA.out.size))
  have HH := hid (blk_seen hb (Nat.le_refl _) (heap_alloc_new W (.cells #[.int .i64 0, .int .i64 0] 43)))
  have d0 := cell_blk HH.out (j := 0) rfl
  have d1 := cell_blk HH.out (j := 1) rfl
  have f0 := blk_free HH.out 0
  have f1 := blk_free HH.out 1
  clear hv hb e2 hl hn AC
  go_wp2_with fail
  rw [set_same HH.out rfl, set_same HH.out rfl]
  exact bodyPost_ret (v := .tuple #[.agg #[.int .i64 0, .int .i64 0], v]) (by simp [results, Tryz.results65, go_sem, d0, d1]) rfl ⟨v, rfl, HV.out, HB.out⟩
set_option maxHeartbeats 800000 in
set_option maxRecDepth 100000 in
theorem take_full (Ad : Nat → Addr) {B : Nat} {W : World} {rb gb mb t : Nat} {fv : Value} {r : RS} (h : Rl B W rb gb mb fv t r) (hE : Env4 W Ad) (hf : r.free = []) :
    Calls Tryz.prog 65 #[.pointer (some ⟨rb, 0, none⟩)] W fun e W' => ∃ b, e = .returned (.tuple #[.agg #[.int .i64 0, .int .i64 0], .iface 208 (.pointer (some ⟨b, 0, none⟩))]) ∧ W.heap.size ≤ b ∧ ErrAt Ad W' (.iface 208 (.pointer (some ⟨b, 0, none⟩))) bTake 6 ∧ Below W.heap.size W W' := by
  have BA : Hid (Below W.heap.size W (W.alloc (.cells #[.int .i64 0, .int .i64 0] 43))) := (Below.refl _ _).alloc (Nat.le_refl _) _
  have e2 := hE.c6
  have hl := World.block_lt_of_cell? W _ e2
  have hn := World.new_ne W _ e2
  have c1 := h.c1
  have hrl := World.block_lt_of_cell? W _ c1
  have hrn := World.new_ne W _ c1
  obtain ⟨fa, fc, rfl⟩ := own_slice h.free
  have hz : (r.free.length : Int) = 0 := by rw [hf]; rfl
  rw [hf] at c1
  have AC := hid (at_err_at Ad bTake 6 (by decide) (W.alloc (.cells #[.int .i64 0, .int .i64 0] 43)))
  clear hE h hf hz
  go_enter Tryz.func65, Tryz.ntmps65
  go_wp2_with fail
  refine AC.out.mono ?_
  rintro e w1 ⟨rfl, hv, hb⟩
  generalize hq : (W.alloc (.cells #[.int .i64 0, .int .i64 0] 43)).heap.size = q at hv ⊢
  have hqW : W.heap.size ≤ q := by rw [← hq]; simp
  clear hq
  have HV := hid hv
  have HB := hid (BA.out.trans (hb.mono BA.out.size))
  have HH := hid (blk_seen hb (Nat.le_refl _) (heap_alloc_new W (.cells #[.int .i64 0, .int .i64 0] 43)))
  have d0 := cell_blk HH.out (j := 0) rfl
  have d1 := cell_blk HH.out (j := 1) rfl
  have f0 := blk_free HH.out 0
  have f1 := blk_free HH.out 1
  clear hv hb e2 hl hn AC
  go_wp2_with fail
  rw [set_same HH.out rfl, set_same HH.out rfl]
  exact bodyPost_ret (v := .tuple #[.agg #[.int .i64 0, .int .i64 0], .iface 208 (.pointer (some ⟨q, 0, none⟩))]) (by simp [results, Tryz.results65, go_sem, d0, d1]) rfl ⟨q, rfl, hqW, HV.out, HB.out⟩
theorem Rl.ne_rg {B : Nat} {W : World} {rb gb mb t : Nat} {fv : Value} {r : RS} (h : Rl B W rb gb mb fv t r) : rb ≠ gb := fun e => by
  have h1 := h.box
  rw [e, h.gens] at h1
  simp at h1
theorem Rl.ne_rm {B : Nat} {W : World} {rb gb mb t : Nat} {fv : Value} {r : RS} (h : Rl B W rb gb mb fv t r) : rb ≠ mb := fun e => by
  have h1 := h.box
  obtain ⟨D, ⟨es, cl, hb, _⟩, _⟩ := h.map
  rw [e, hb] at h1
  simp at h1
theorem Rl.ne_gm {B : Nat} {W : World} {rb gb mb t : Nat} {fv : Value} {r : RS} (h : Rl B W rb gb mb fv t r) : gb ≠ mb := fun e => by
  have h1 := h.gens
  obtain ⟨D, ⟨es, cl, hb, _⟩, _⟩ := h.map
  rw [e, hb] at h1
  simp at h1
theorem Rl.ne_f {B : Nat} {W : World} {rb gb mb t : Nat} {fv : Value} {r : RS} (h : Rl B W rb gb mb fv t r) (k : Nat) (hk : fv.ownBlock = some k) : k ≠ rb ∧ k ≠ gb ∧ k ≠ mb := by
  rcases h.free.2 with ⟨h1, _⟩ | ⟨g, cap, cur, h1, h2, h3, h4⟩
  · rw [h1] at hk; simp [Value.ownBlock] at hk
  · rw [h1] at hk
    have e : g = k := by simpa [Value.ownBlock] using hk
    subst e
    refine ⟨fun e => ?_, fun e => h.apart (by rw [h1, ← e]; rfl), fun e => ?_⟩
    · rw [e, h.box] at h3; simp at h3
    · obtain ⟨D, ⟨es, cl, hb, _⟩, _⟩ := h.map
      rw [e, hb] at h3; simp at h3
theorem own_shrink {W : World} {B fb fc : Nat} {f : List Nat} {i : Nat} (h : W.ownsRow B 3 1 (.slice (some ⟨fb, 0, none⟩) (f.length + 1) fc) (f.length + 1) ((f ++ [i]).map gI)) : W.ownsRow B 3 1 (.slice (some ⟨fb, 0, none⟩) f.length fc) f.length (f.map gI) := by
  refine ⟨by simp, ?_⟩
  rcases h.2 with ⟨h1, _⟩ | ⟨g, cap, cur, h1, h2, h3, h4, h5, h6, h7⟩
  · cases h1
  · simp only [Value.slice.injEq, Option.some.injEq, Addr.mk.injEq, true_and, and_true] at h1
    obtain ⟨rfl, rfl⟩ := h1
    refine .inr ⟨fb, fc, cur, rfl, h2, h3, by omega, h5, h6, ?_⟩
    have := congrArg (List.take f.length) h7
    rw [List.take_take] at this
    simp only [Nat.mul_one] at this ⊢
    rw [show min f.length (f.length + 1) = f.length by omega] at this
    rw [this]
    simp
theorem gens_set (gs : List Nat) (i g : Nat) : (gs.map gI).toArray.setIfInBounds i (.int .i64 ((g : Int) + 1)) = ((gs.set i (g + 1)).map gI).toArray := by
  rw [List.map_set]
  simp [gI]
theorem Rl.few {B : Nat} {W : World} {rb gb mb t : Nat} {fv : Value} {r : RS} (h : Rl B W rb gb mb fv t r) : r.free.length ≤ r.gens.length := by
  obtain ⟨D, _, hH⟩ := h.map
  have := hH.2
  omega
/-- What Take leaves. -/
theorem Rl.took {B : Nat} {W W7 : World} {rb gb mb t fb fc : Nat} {f : List Nat} {i : Nat} {r : RS} (h : Rl B W rb gb mb (.slice (some ⟨fb, 0, none⟩) r.free.length fc) t r) (hf : r.free = f ++ [i]) (ht : t ≤ 1000)
    (hs : St (fun k => k = mb) ((W.setCell ⟨rb, 1, none⟩ (.slice (some ⟨fb, 0, none⟩) f.length fc)).setCell ⟨gb, i, none⟩ (.int .i64 ((r.gens.getD i 0 : Nat) + 1 : Int))) W7)
    (D : DataW Unit) (hD1 : W.ownsMap Tryz.prog 43 (unitElem (H := Unit)) mb t D) (hH : Holds D r) (hD : W7.ownsMap Tryz.prog 43 (unitElem (H := Unit)) mb (t + 1) (D.put (kl i ((r.gens.getD i 0 + 1 : Nat) : Int)) (.agg []))) :
    Rl B W7 rb gb mb (.slice (some ⟨fb, 0, none⟩) f.length fc) (t + 1) (r.took i) ∧ St (Ft rb gb mb (.slice (some ⟨fb, 0, none⟩) r.free.length fc)) W W7 := by
  have hfl : r.free.length = f.length + 1 := by rw [hf]; simp
  have n1 := h.ne_rg
  have n2 := h.ne_rm
  have n3 := h.ne_gm
  obtain ⟨n4, n5, n6⟩ := h.ne_f fb rfl
  have hi : i < r.gens.length := h.ok.2 i (by rw [hf]; simp)
  have l1 : rb < W.heap.size := (h.lt rb (.inl rfl)).2
  have l2 : gb < W.heap.size := (h.lt gb (.inr (.inl rfl))).2
  have l3 : fb < W.heap.size := (h.lt fb (.inr (.inr (.inr rfl)))).2
  have hgt : r.gens.getD i 0 ≤ t := by rw [List.getD_eq_getElem?_getD, List.getElem?_eq_getElem hi]; exact h.old _ (List.getElem_mem hi)
  have hg1 : (r.took i).gens = r.gens.set i (r.gens.getD i 0 + 1) := rfl
  have hf1 : (r.took i).free = f := by simp [RS.took, hf]
  have B1 : (W.setCell ⟨rb, 1, none⟩ (.slice (some ⟨fb, 0, none⟩) f.length fc)).heap[rb]? = some (.cells #[.slice (some ⟨gb, 0, none⟩) r.gens.length r.gens.length, .slice (some ⟨fb, 0, none⟩) f.length fc, .map (some mb)] 184 (0, 0)) := heap_setCell_same W rb 1 _ 184 _ h.box
  have G1 : (W.setCell ⟨rb, 1, none⟩ (.slice (some ⟨fb, 0, none⟩) f.length fc)).heap[gb]? = some (.cells (r.gens.map gI).toArray 3 (0, 0)) := (Below.heap_setCell _ _ _ _ (fun e => n1 e.symm)).trans h.gens
  refine ⟨⟨?_, ?_, ?_, ?_, h.ok.took hf, ?_, ?_, h.low, ?_⟩, ?_⟩
  · rw [hs.block rb (by simpa using l1) n2, Below.heap_setCell _ _ _ _ n1, B1, hg1]; simp
  · rw [hs.block gb (by simpa using l2) n3, heap_setCell_same _ gb i _ 3 _ G1, hg1, gens_set]
  · rw [hf1]
    have h0 := h.free
    rw [hfl, hf] at h0
    refine own_later (own_shrink h0) fun k cur hk hb => ?_
    obtain rfl : fb = k := by simpa [Value.ownBlock] using hk
    rw [hs.block fb (by simpa using l3) n6, Below.heap_setCell _ _ _ _ n5, Below.heap_setCell _ _ _ _ n4, hb]
  · exact ⟨_, hD, hH.took (hD1.tidy keyed24) h.ok hf (I64_small (by omega) (by have := h.small; omega)) (I64_small (by omega) (by omega)) _⟩
  · rw [hg1, List.length_set]; exact h.small
  · intro g hg
    rw [hg1] at hg
    rcases List.mem_or_eq_of_mem_set hg with hg | rfl
    · have := h.old g hg; omega
    · omega
  · exact fun e => h.apart (by simpa [Value.ownBlock] using e)
  · have S1 : St (Ft rb gb mb (.slice (some ⟨fb, 0, none⟩) r.free.length fc)) W (W.setCell ⟨rb, 1, none⟩ (.slice (some ⟨fb, 0, none⟩) f.length fc)) := St.setCell _ (.inl rfl)
    have S2 : St (Ft rb gb mb (.slice (some ⟨fb, 0, none⟩) r.free.length fc)) (W.setCell ⟨rb, 1, none⟩ (.slice (some ⟨fb, 0, none⟩) f.length fc)) ((W.setCell ⟨rb, 1, none⟩ (.slice (some ⟨fb, 0, none⟩) f.length fc)).setCell ⟨gb, i, none⟩ (.int .i64 ((r.gens.getD i 0 : Nat) + 1 : Int))) := St.setCell _ (.inr (.inl rfl))
    exact (S1.trans S2 fun _ _ q => q).trans hs fun x _ q => .inr (.inr (.inl q))
set_option maxHeartbeats 1600000 in
set_option maxRecDepth 100000 in
theorem take_some {B : Nat} {W : World} {rb gb mb t : Nat} {fv : Value} {f : List Nat} {i : Nat} {r : RS} (h : Rl B W rb gb mb fv t r) (hf : r.free = f ++ [i]) (ht : t ≤ 1000) :
    Calls Tryz.prog 65 #[.pointer (some ⟨rb, 0, none⟩)] W fun e W' => e = .returned (.tuple #[.agg #[.int .i64 i, .int .i64 ((r.gens.getD i 0 : Nat) + 1 : Int)], .nilIface]) ∧ ∃ fv', Rl B W' rb gb mb fv' (t + 1) (r.took i) ∧ fv'.ownBlock = fv.ownBlock ∧ St (Ft rb gb mb fv) W W' := by
  have H := hid h
  have hfl : r.free.length = f.length + 1 := by rw [hf]; simp
  obtain ⟨fa, fc, rfl⟩ := own_slice h.free
  have ho := h.free
  obtain ⟨fb, rfl, hfB, hfW⟩ := own_some ho (by omega)
  have hi : i < r.gens.length := h.ok.2 i (by rw [hf]; simp)
  obtain ⟨m, hm⟩ : ∃ m, m = f.length := ⟨_, rfl⟩
  obtain ⟨g, hg⟩ : ∃ g, g = r.gens.getD i 0 := ⟨_, rfl⟩
  obtain ⟨n, hn⟩ : ∃ n, n = r.gens.length := ⟨_, rfl⟩
  have hgt : g ≤ t := by rw [hg, List.getD_eq_getElem?_getD, List.getElem?_eq_getElem hi]; exact h.old _ (List.getElem_mem hi)
  have c0 := h.c0
  have c1 := h.c1
  have c2 := h.c2
  rw [hfl, ← hm] at c1
  rw [← hn] at c0 hi
  have cf : W.cell? ⟨fb, m, none⟩ = some (.int .i64 (i : Int)) := by
    rw [ho.cellAt m (by omega), hf, hm]; simp [gI]
  have cg : W.cell? ⟨gb, i, none⟩ = some (.int .i64 (g : Int)) := by
    refine cell_blk h.gens ?_
    have : i < r.gens.length := by omega
    simp [hg, gI, this, List.getD_eq_getElem?_getD]
  have fr1 := blk_free h.box 1
  have frg := blk_free h.gens i
  have n1 := h.ne_rg
  obtain ⟨n2, n3, _⟩ := h.ne_f fb rfl
  have l1 : rb < W.heap.size := (h.lt rb (.inl rfl)).2
  have l2 : gb < W.heap.size := (h.lt gb (.inr (.inl rfl))).2
  have l3 : fb < W.heap.size := hfW
  have m1 : ¬ (rb = W.heap.size) := by omega
  have m2 : ¬ (gb = W.heap.size) := by omega
  have m3 : ¬ (fb = W.heap.size) := by omega
  have m1' : ¬ (rb = W.heap.size + 1) := by omega
  have m2' : ¬ (gb = W.heap.size + 1) := by omega
  have n1' : ¬ (gb = rb) := fun e => n1 e.symm
  have n2' : ¬ (rb = fb) := fun e => n2 e.symm
  have n3' : ¬ (gb = fb) := fun e => n3 e.symm
  have hii : (i : Int) < (n : Int) := by omega
  have hn64 : (n : Int) ≤ 64 := by have := h.small; omega
  have hm64 : (m : Int) ≤ 64 := by have := h.small; have := h.few; omega
  have hmc : (m : Int) + 1 ≤ (fc : Int) := by
    rcases ho.2 with ⟨h1, _⟩ | ⟨_, _, _, h1, _, _, h4, _⟩
    · simp at h1
    · simp at h1; omega
  have hgi : (g : Int) ≤ 1000 := by omega
  have hmz : ((m : Int) + 1 == 0) = false := by rw [beq_eq_false_iff_ne]; omega
  obtain ⟨D, hD, hH⟩ := h.map
  have ni : I64 (i : Int) := I64_small (by omega) (by omega)
  have ng : I64 ((g : Int) + 1) := I64_small (by omega) (by omega)
  obtain ⟨W5, hW5⟩ : ∃ W5, W5 = ((((W.setCell ⟨rb, 1, none⟩ (.slice (some ⟨fb, 0, none⟩) m fc)).setCell ⟨gb, i, none⟩ (.int .i64 ((g : Int) + 1))).alloc (.cells #[.int .i64 0, .int .i64 0] 43)).alloc (.cells #[.int .i64 i, .int .i64 ((g : Int) + 1)] 43)) := ⟨_, rfl⟩
  obtain ⟨W1, hW1⟩ : ∃ W1, W1 = ((W.setCell ⟨rb, 1, none⟩ (.slice (some ⟨fb, 0, none⟩) m fc)).setCell ⟨gb, i, none⟩ (.int .i64 ((g : Int) + 1))) := ⟨_, rfl⟩
  have z1 : W1.heap.size = W.heap.size := by rw [hW1]; simp
  have D1 : W1.ownsMap Tryz.prog 43 (unitElem (H := Unit)) mb t D := by rw [hW1]; exact (hD.setCell (fun e => h.ne_rm e.symm) _).setCell (fun e => h.ne_gm e.symm) _
  have hW5' : W5 = (W1.alloc (.cells #[.int .i64 0, .int .i64 0] 43)).alloc (.cells #[.int .i64 i, .int .i64 ((g : Int) + 1)] 43) := by rw [hW5, hW1]
  have b15 : Below W1.heap.size W1 W5 := by rw [hW5']; exact ((Below.refl _ _).alloc (Nat.le_refl _) _).alloc (by simp) _
  have D5 : W5.ownsMap Tryz.prog 43 (unitElem (H := Unit)) mb t D := by rw [hW5']; exact (D1.alloc _).alloc _
  obtain ⟨w6, hmu, hD6, ht6⟩ := D5.drew.store keyed24 Tryz.underlying182 (by unfold maxLen; omega) (key_ent i ((g : Int) + 1) ni ng) (unitElem_mk (H := Unit))
  unfold entV at hmu
  have z5 : W5.heap.size = W.heap.size + 2 := by rw [hW5']; simp [z1]
  have e5 : W5.heap[W.heap.size + 1]? = some (.cells #[.int .i64 i, .int .i64 ((g : Int) + 1)] 43 (0, 0)) := by
    have := heap_alloc_new (W1.alloc (.cells #[.int .i64 0, .int .i64 0] 43)) (.cells #[.int .i64 i, .int .i64 ((g : Int) + 1)] 43)
    rw [hW5', ← z1]; simpa using this
  have r5 : W5.heap[W.heap.size]? = some (.cells #[.int .i64 0, .int .i64 0] 43 (0, 0)) := by
    rw [hW5', ← z1, Below.heap_alloc _ _ _ (by simp)]; exact heap_alloc_new W1 _
  have x5 : W5.heap[rb]? = some (.cells #[.slice (some ⟨gb, 0, none⟩) n n, .slice (some ⟨fb, 0, none⟩) m fc, .map (some mb)] 184 (0, 0)) := by
    rw [b15.block rb (by omega), hW1, Below.heap_setCell _ _ _ _ n1, hn]
    exact heap_setCell_same W rb 1 _ 184 _ h.box
  have lmb : mb < W.heap.size := hD.lt
  have g6 : ∀ k, k < W5.heap.size → k ≠ mb → w6.heap[k]? = W5.heap[k]? := fun k hk hne => ht6.grown.block k (by simpa using hk) (by simpa using hne)
  have K5 : Hid (W5.drew.cell? ⟨rb, 2, none⟩ = some (.map (some mb)) ∧ W5.drew.cell? ⟨W.heap.size + 1, 0, none⟩ = some (.int .i64 i) ∧ W5.drew.cell? ⟨W.heap.size + 1, 1, none⟩ = some (.int .i64 ((g : Int) + 1))) :=
    ⟨cell_blk (W := W5) x5 rfl, cell_blk (W := W5) e5 rfl, cell_blk (W := W5) e5 rfl⟩
  have e6 := (g6 (W.heap.size + 1) (by omega) (by omega)).trans e5
  have r6 := (g6 (W.heap.size) (by omega) (by omega)).trans r5
  have x6 := (g6 rb (by omega) h.ne_rm).trans x5
  have K6 : Hid (w6.cell? ⟨rb, 2, none⟩ = some (.map (some mb)) ∧ w6.cell? ⟨W.heap.size + 1, 0, none⟩ = some (.int .i64 i) ∧ w6.cell? ⟨W.heap.size + 1, 1, none⟩ = some (.int .i64 ((g : Int) + 1))) :=
    ⟨cell_blk x6 rfl, cell_blk e6 rfl, cell_blk e6 rfl⟩
  have E6 := hid e6
  have R6 := hid r6
  have HW5 := hid hW5
  have hfin : Hid (∀ W7, W7 = (w6.setCell ⟨W.heap.size, 0, none⟩ (.int .i64 i)).setCell ⟨W.heap.size, 1, none⟩ (.int .i64 ((g : Int) + 1)) → Rl B W7 rb gb mb (.slice (some ⟨fb, 0, none⟩) f.length fc) (t + 1) (r.took i) ∧ St (Ft rb gb mb (.slice (some ⟨fb, 0, none⟩) r.free.length fc)) W W7) := by
    rintro W7 rfl
    refine h.took hf ht ?_ D hD hH ?_
    · rw [← hg, ← hm, ← hW1]
      have s1 : St (fun k => k = mb) W1 W5 := St.of_below b15
      have s2' : St (fun k => k = mb) W5.drew w6 := St.of_grown ht6.grown fun k e => by simpa using e.symm
      have s2 : St (fun k => k = mb) W5 w6 := ⟨s2'.os, s2'.tape, s2'.output, s2'.size, s2'.block⟩
      have s3 : St (fun k => k = W.heap.size) w6 ((w6.setCell ⟨W.heap.size, 0, none⟩ (.int .i64 i)).setCell ⟨W.heap.size, 1, none⟩ (.int .i64 ((g : Int) + 1))) := (St.setCell (S := fun k => k = W.heap.size) (a := w6) (p := ⟨W.heap.size, 0, none⟩) (.int .i64 i) rfl).trans (St.setCell (S := fun k => k = W.heap.size) (p := ⟨W.heap.size, 1, none⟩) (.int .i64 ((g : Int) + 1)) rfl) fun _ _ q => q
      exact (s1.trans s2 fun _ _ q => q).trans s3 fun x hx q => by omega
    · rw [← hg]
      exact (hD6.setCell (by show mb ≠ W.heap.size; omega) _).setCell (by show mb ≠ W.heap.size; omega) _
  clear hD hH D1 D5 hD6 ht6 z1 z5 e5 r5 x5 g6 e6 r6 x6 b15 lmb hW5' ni ng hW1 hW5
  have HM := hid hm
  have HG := hid hg
  have HN := hid hn
  have HF := hid hf
  have HFL := hid hfl
  clear h hf hfl ho hm hg hn
  go_enter Tryz.func65, Tryz.ntmps65
  go_wp2_with fail
  rw [← HW5.out]
  go_region_held3 (fun W' => W'.cell? ⟨rb, 2, none⟩ = some (.map (some mb)) ∧ W'.cell? ⟨W.heap.size + 1, 0, none⟩ = some (.int .i64 i) ∧ W'.cell? ⟨W.heap.size + 1, 1, none⟩ = some (.int .i64 ((g : Int) + 1))) (first | exact K5.out | exact K6.out) (fail)
  have d0 := cell_blk R6.out (j := 0) rfl
  have d1 := cell_blk R6.out (j := 1) rfl
  have f0 := blk_free R6.out 0
  have f1 := blk_free R6.out 1
  clear hmu c0 c1 c2 cf cg
  go_wp2_with fail
  refine bodyPost_ret (v := .tuple #[.agg #[.int .i64 i, .int .i64 ((g : Int) + 1)], .nilIface]) (by simp [results, Tryz.results65, go_sem, d0, d1]) rfl ⟨by rw [HG.out], _, (hfin.out _ rfl).1, rfl, (hfin.out _ rfl).2⟩
end Go.Proofs.YtagjmggiaffihaaGreatDoor.Ro
namespace Go.Proofs.YtagjmggiaffihaaGreatDoor.Ro
open Go.RowKit Go.Shelf Go.Maps
set_option maxHeartbeats 800000 in
set_option maxRecDepth 100000 in
theorem free_nil (Ad : Nat → Addr) (W : World) (hE : Env4 W Ad) (i g : Int) :
    Calls Tryz.prog 74 #[.pointer none, .agg #[.int .i64 i, .int .i64 g]] W fun e W' => ∃ v, e = .returned v ∧ ErrAt Ad W' v bFree 2 ∧ Below W.heap.size W W' := by
  have BA : Hid (Below W.heap.size W (W.alloc (.cells #[.int .i64 i, .int .i64 g] 43))) := (Below.refl _ _).alloc (Nat.le_refl _) _
  have e2 := hE.c2
  have hl := World.block_lt_of_cell? W _ e2
  have hn := World.new_ne W _ e2
  have AC := hid (at_err Ad bFree 2 (by decide) (W.alloc (.cells #[.int .i64 i, .int .i64 g] 43)))
  clear hE
  go_enter Tryz.func74, Tryz.ntmps74
  go_wp2_with fail
  refine AC.out.mono ?_
  rintro e w1 ⟨v, rfl, hv, hb⟩
  have HV := hid hv
  have HB := hid (BA.out.trans (hb.mono BA.out.size))
  clear hv hb e2 hl hn AC
  go_wp2_with fail
  go_ret
  exact ⟨v, rfl, HV.out, HB.out⟩
set_option maxHeartbeats 800000 in
set_option maxRecDepth 100000 in
theorem free_dead (Ad : Nat → Addr) {B : Nat} {W : World} {rb gb mb t : Nat} {fv : Value} {r : RS} (h : Rl B W rb gb mb fv t r) (hE : Env4 W Ad) (i g : Int) (hi : I64 i) (hg : I64 g) (ha : r.aliveB i g = false) :
    Calls Tryz.prog 74 #[.pointer (some ⟨rb, 0, none⟩), .agg #[.int .i64 i, .int .i64 g]] W fun e W' => ∃ v, e = .returned v ∧ ErrAt Ad W' v bFree 17 ∧ Below W.heap.size W W' := by
  have BA : Hid (Below W.heap.size W (W.alloc (.cells #[.int .i64 i, .int .i64 g] 43))) := (Below.refl _ _).alloc (Nat.le_refl _) _
  have HE := hid hE
  have AL := hid (alive_any (h.later BA.out) i g hi hg)
  rw [ha] at AL
  have AC := hid (fun w => at_err Ad bFree 17 (by decide) w)
  clear hE h hi hg ha
  go_enter Tryz.func74, Tryz.ntmps74
  go_wp2_with fail
  refine AL.out.mono ?_
  rintro e w1 ⟨rfl, hb⟩
  have HB := hid (BA.out.trans (hb.mono BA.out.size))
  have e17 := (HE.out.later HB.out).c17
  clear hb AL
  go_wp2_with fail
  refine (AC.out _).mono ?_
  rintro e w2 ⟨v, rfl, hv, hb2⟩
  have HV := hid hv
  have HB2 := hid (HB.out.trans (hb2.mono HB.out.size))
  clear hv hb2 e17 AC
  go_wp2_with fail
  go_ret
  exact ⟨v, rfl, HV.out, HB2.out⟩
theorem infoInt : (Tryz.prog.info? 3).map (fun i => (i.zero, i.size, i.bytes)) = some (some (.int .i64 0), 1, 8) := by kernel_rfl
/-- What an append onto the row of the free ones leaves. -/
structure Grew (B : Nat) (fv : Value) (l : List Nat) (wc : World) (fv' : Value) (w2 : World) : Prop where
  own : w2.ownsRow B 3 1 fv' l.length (l.map gI)
  st : St (fun x => fv.ownBlock = some x) wc w2
  at' : fv'.ownBlock = fv.ownBlock ∨ ∃ x, fv'.ownBlock = some x ∧ wc.heap.size ≤ x
theorem step_free {ops : Array Oper} {o : Oper} {a : Act} {K : Act → World → Prop} {Q : Exit → Act → World → Prop} {E : Prop} (hgd : o.guard = none) (s x : Operand)
    (ho : o.op = .call { callee := .builtin .append, args := #[s, x], argTypes := #[113, 113] }) {B rb : Nat} {wc : World} {fv : Value} {f : List Nat} {k : Nat} (hown : wc.ownsRow B 3 1 fv f.length (f.map gI)) (hl : f.length ≤ 1000) (hB : B ≤ wc.heap.size)
    {cs : Array Value} (hbox : wc.heap[rb]? = some (.cells cs 184 (0, 0))) (hcs : cs[1]? = some fv) (hne : fv.ownBlock ≠ some rb)
    (hs : a.eval s = fv) (hx : a.eval x = .slice (some ⟨wc.heap.size, 0, none⟩) 1 1)
    (h : ∀ g' cap w2, Grew B fv (f ++ [k]) wc (.slice (some ⟨g', 0, none⟩) (f.length + 1) cap) w2 → w2.cell? ⟨rb, 1, none⟩ = some fv → w2.frozen? ⟨rb, 1, none⟩ = false → K (a.put o.dst (.slice (some ⟨g', 0, none⟩) (f.length + 1) cap)) w2) :
    if Region.wanted o (yielded ops a.tmps) = true then Oper.wp Tryz.prog o a (wc.alloc (.cells #[.int .i64 (k : Int)] 3)).drew K Q else E := by
  obtain ⟨i0, hi, hz0, hz1, hz2⟩ := info_parts infoInt
  have hb : Below wc.heap.size wc (wc.alloc (.cells #[.int .i64 (k : Int)] 3)).drew := ((Below.refl _ _).alloc (Nat.le_refl _) _).drew
  have ho2 : (wc.alloc (.cells #[.int .i64 (k : Int)] 3)).drew.ownsRow B 3 1 fv f.length (f.map gI) := hown.alloc _
  have hz : (wc.alloc (.cells #[.int .i64 (k : Int)] 3)).drew.heap.size = wc.heap.size + 1 := by simp
  refine step_append_lies _ hgd s x 113 ho B 3 i0 (.int .i64 0) 1 8 Tryz.underlying113 hi hz0 hz1 hz2 rfl (by decide) fv f.length (f.map gI) hs ho2 ⟨wc.heap.size, 0, none⟩ 1 1 [gI k] hx rfl (fun j u hu => by
    rw [add_at]
    match j, hu with
    | 0, hu =>
      simp at hu
      subst hu
      exact new_cell wc _ 3
    | j + 1, hu => simp at hu) (by intro u hu; simp at hu; subst hu; rfl) (by decide) (by unfold maxLen; omega) (by omega) (by omega) (wc.heap.size + 1) hz ?_
  intro g' cap w2 ow hg hat hlt
  have st : St (fun x => fv.ownBlock = some x) wc w2 := (St.of_below hb).trans (St.of_grown (S := fun x => fv.ownBlock = some x) hg fun k e => e) fun _ _ q => q
  have hbx : w2.heap[rb]? = some (.cells cs 184 (0, 0)) := (st.block rb (Array.getElem?_eq_some_iff.1 hbox).1 hne).trans hbox
  refine h g' cap w2 ⟨?_, st, ?_⟩ (cell_blk hbx hcs) (blk_free hbx 1)
  · have e : (f ++ [k]).length = f.length + 1 := by simp
    rw [e, List.map_append]
    exact ow
  · rcases hat with h1 | h1
    · exact .inl (by rw [h1]; rfl)
    · exact .inr ⟨g', rfl, by omega⟩
/-- What Free leaves. -/
theorem Rl.gone {B : Nat} {w1 w5 : World} {rb gb mb t : Nat} {fv fv' : Value} {r : RS} {k : Nat} {g : Int} (h : Rl B w1 rb gb mb fv t r) (ha : r.aliveB (k : Int) g = true) (hs : St (fun x => x = mb ∨ fv.ownBlock = some x) w1 w5)
    (D : DataW Unit) (hD1 : w1.ownsMap Tryz.prog 43 (unitElem (H := Unit)) mb t D) (hH : Holds D r) (hk : I64 (k : Int)) (hg : I64 g) (hD : w5.ownsMap Tryz.prog 43 (unitElem (H := Unit)) mb t (D.del (kl k g)))
    (ho : w5.ownsRow B 3 1 fv' (r.free ++ [k]).length ((r.free ++ [k]).map gI)) (hat : fv'.ownBlock = fv.ownBlock ∨ ∃ x, fv'.ownBlock = some x ∧ w1.heap.size ≤ x) :
    Rl B (w5.setCell ⟨rb, 1, none⟩ fv') rb gb mb fv' t (r.freed k) ∧ St (Ft rb gb mb fv) w1 (w5.setCell ⟨rb, 1, none⟩ fv') := by
  have l1 : rb < w1.heap.size := (h.lt rb (.inl rfl)).2
  have l2 : gb < w1.heap.size := (h.lt gb (.inr (.inl rfl))).2
  have hnb : ∀ x, fv'.ownBlock = some x → x ≠ rb ∧ x ≠ gb := fun x hx => by
    rcases hat with h1 | ⟨y, h1, h2⟩
    · have := h.ne_f x (h1 ▸ hx); exact ⟨this.1, this.2.1⟩
    · rw [h1] at hx; simp at hx; omega
  have hnr : ¬ (rb = mb ∨ fv.ownBlock = some rb) := fun e => e.elim h.ne_rm (fun e => (h.ne_f rb e).1 rfl)
  have hng : ¬ (gb = mb ∨ fv.ownBlock = some gb) := fun e => e.elim h.ne_gm h.apart
  have hok : (r.freed k).ok := by have := RS.freed_ok h.ok ha; simpa using this
  have B5 := (hs.block rb l1 hnr).trans h.box
  have G5 := (hs.block gb l2 hng).trans h.gens
  refine ⟨⟨?_, ?_, ?_, ?_, hok, h.small, h.old, h.low, fun e => (hnb gb e).2 rfl⟩, ?_⟩
  · exact heap_setCell_same _ rb 1 _ 184 _ B5
  · exact (Below.heap_setCell _ _ _ _ (fun e => h.ne_rg e.symm)).trans G5
  · refine own_later ho fun x cur hx hb => ?_
    exact (Below.heap_setCell _ _ _ _ (hnb x hx).1).trans hb
  · have hH' := hH.freed (hD1.tidy keyed24) ha hk hg
    simp only [Int.toNat_natCast] at hH'
    exact ⟨_, hD.setCell (fun e => h.ne_rm e.symm) _, hH'⟩
  · exact (St.trans (S := Ft rb gb mb fv) ⟨hs.os, hs.tape, hs.output, hs.size, fun x hx hn => hs.block x hx fun e => hn (e.elim (fun e => .inr (.inr (.inl e))) (fun e => .inr (.inr (.inr e))))⟩ (St.setCell (S := Ft rb gb mb fv) (p := ⟨rb, 1, none⟩) fv' (.inl rfl)) fun _ _ q => q)
set_option maxHeartbeats 1600000 in
set_option maxRecDepth 100000 in
theorem free_alive {B : Nat} {W : World} {rb gb mb t : Nat} {fv : Value} {r : RS} (h : Rl B W rb gb mb fv t r) (k : Nat) (g : Int) (hi : I64 (k : Int)) (hg : I64 g) (ha : r.aliveB (k : Int) g = true) :
    Calls Tryz.prog 74 #[.pointer (some ⟨rb, 0, none⟩), .agg #[.int .i64 (k : Int), .int .i64 g]] W fun e W' => e = .returned .nilIface ∧ ∃ fv', Rl B W' rb gb mb fv' t (r.freed k) ∧ (fv'.ownBlock = fv.ownBlock ∨ ∃ x, fv'.ownBlock = some x ∧ W.heap.size ≤ x) ∧ St (Ft rb gb mb fv) W W' := by
  obtain ⟨fa, fc, rfl⟩ := own_slice h.free
  have BA : Hid (Below W.heap.size W (W.alloc (.cells #[.int .i64 (k : Int), .int .i64 g] 43))) := (Below.refl _ _).alloc (Nat.le_refl _) _
  have AL := hid (alive_any (h.later BA.out) (k : Int) g hi hg)
  rw [ha] at AL
  have H := hid h
  have HI := hid hi
  have HG := hid hg
  have HA := hid ha
  have hlB : B ≤ W.heap.size := by have := h.lt rb (.inl rfl); omega
  clear h hi hg ha
  go_enter Tryz.func74, Tryz.ntmps74
  go_wp2_with fail
  refine AL.out.mono ?_
  rintro e w1 ⟨rfl, hb⟩
  have HB := hid (BA.out.trans (hb.mono BA.out.size))
  have hz1 : W.heap.size < w1.heap.size := by have := hb.size; simp at this; omega
  have EB := hid (blk_seen hb (Nat.le_refl _) (heap_alloc_new W (.cells #[.int .i64 (k : Int), .int .i64 g] 43)))
  clear hb AL
  go_wp2_with fail
  have h1 := H.out.later HB.out
  obtain ⟨D, hD, hH⟩ := h1.map
  obtain ⟨w2, hdel, hD2, ht2⟩ := hD.drew.drop keyed24 Tryz.underlying182 (key_ent _ g HI.out HG.out) 0
  unfold entV at hdel
  have s12' : St (fun x => x = mb) w1.drew w2 := St.of_grown ht2.grown fun k e => by simpa using e.symm
  have s12 : St (fun x => x = mb) w1 w2 := ⟨s12'.os, s12'.tape, s12'.output, s12'.size, s12'.block⟩
  have lmb : mb < W.heap.size := (H.out.lt mb (.inr (.inr (.inl rfl)))).2
  have E2 := (s12.block W.heap.size hz1 (by omega)).trans EB.out
  have X2 := (s12.block rb (h1.lt rb (.inl rfl)).2 h1.ne_rm).trans h1.box
  have F2 : w2.ownsRow B 3 1 (.slice fa r.free.length fc) r.free.length (r.free.map gI) := own_later (h1.free) fun x cur hx hb => (s12.block x (h1.lt x (.inr (.inr (.inr hx)))).2 (h1.ne_f x hx).2.2).trans hb
  have K1 : Hid (w1.drew.cell? ⟨rb, 2, none⟩ = some (.map (some mb)) ∧ w1.drew.cell? ⟨W.heap.size, 0, none⟩ = some (.int .i64 (k : Int)) ∧ w1.drew.cell? ⟨W.heap.size, 1, none⟩ = some (.int .i64 g)) :=
    ⟨cell_blk (W := w1) h1.box rfl, cell_blk (W := w1) EB.out rfl, cell_blk (W := w1) EB.out rfl⟩
  have K2 : Hid (w2.cell? ⟨rb, 2, none⟩ = some (.map (some mb)) ∧ w2.cell? ⟨W.heap.size, 0, none⟩ = some (.int .i64 (k : Int)) ∧ w2.cell? ⟨W.heap.size, 1, none⟩ = some (.int .i64 g)) :=
    ⟨cell_blk X2 rfl, cell_blk E2 rfl, cell_blk E2 rfl⟩
  have H1 := hid h1
  have HD1 := hid hD
  have HH := hid hH
  have HD2 := hid hD2
  have S12 := hid s12
  have HF2 := hid F2
  have HX2 := hid X2
  clear h1 hD hH hD2 ht2 s12 s12' F2 X2 E2
  go_region_held3 (fun W' => W'.cell? ⟨rb, 2, none⟩ = some (.map (some mb)) ∧ W'.cell? ⟨W.heap.size, 0, none⟩ = some (.int .i64 (k : Int)) ∧ W'.cell? ⟨W.heap.size, 1, none⟩ = some (.int .i64 g)) (first | exact K1.out | exact K2.out) (fail)
  clear hdel K1
  go_wp2_with fail
  have k0 := K2.out.2.1
  have x1 := cell_blk HX2.out (j := 1) rfl
  have hfl : r.free.length ≤ 1000 := by have := H1.out.few; have := H1.out.small; omega
  have hne : (Value.slice fa r.free.length fc).ownBlock ≠ some rb := fun e => (H1.out.ne_f rb e).1 rfl
  have hB2 : B ≤ w2.heap.size := by have := S12.out.size; omega
  have hrl : rb < w2.heap.size := World.block_lt_of_cell? w2 _ x1
  have hrn : ¬ (rb = w2.heap.size) := by omega
  clear K2
  go_region_law (refine step_free rfl _ _ rfl HF2.out hfl hB2 HX2.out rfl hne rfl rfl ?_; intro g' cap w5 hgr hx5 hf5)
  all_goals
    have hDD : w5.ownsMap Tryz.prog 43 (unitElem (H := Unit)) mb t (D.del (kl k g)) := by
      have hlt := HD2.out.lt
      obtain ⟨es, cl, hb, q⟩ := HD2.out
      exact ⟨es, cl, (hgr.st.block mb hlt (fun e => (H1.out.ne_f mb e).2.2 rfl)).trans hb, q⟩
    have HAT : Hid ((Value.slice (some ⟨g', 0, none⟩) (r.free.length + 1) cap).ownBlock = (Value.slice fa r.free.length fc).ownBlock ∨ ∃ x, (Value.slice (some ⟨g', 0, none⟩) (r.free.length + 1) cap).ownBlock = some x ∧ w1.heap.size ≤ x) := by
      rcases hgr.at' with h | ⟨x, h, h'⟩
      · exact .inl h
      · exact .inr ⟨x, h, Nat.le_trans S12.out.size h'⟩
    have hfin := H1.out.gone (fv' := .slice (some ⟨g', 0, none⟩) (r.free.length + 1) cap) HA.out ((show St (fun x => x = mb ∨ (Value.slice fa r.free.length fc).ownBlock = some x) _ _ from ⟨S12.out.os, S12.out.tape, S12.out.output, S12.out.size, fun x hx hn => S12.out.block x hx fun e => hn (.inl e)⟩).trans hgr.st fun _ _ q => .inr q) D HD1.out HH.out HI.out HG.out hDD hgr.own HAT.out
    have HF := hid hfin
    clear hgr hfin hx5 hf5 hDD
    go_wp2_with fail
    go_ret
    refine ⟨rfl, _, HF.out.1, ?_, ?_⟩
    · rcases HAT.out with h | ⟨x, h, h'⟩
      · exact .inl h
      · exact .inr ⟨x, h, by omega⟩
    · exact (St.of_below HB.out).trans HF.out.2 fun _ _ q => q
end Go.Proofs.YtagjmggiaffihaaGreatDoor.Ro
namespace Go.Proofs.YtagjmggiaffihaaGreatDoor.Ro
open Go.RowKit Go.Shelf Go.Maps
/-- A roll that is new. -/
def RS.fresh (n : Nat) : RS := ⟨List.replicate n 0, (List.range n).reverse⟩
set_option maxHeartbeats 800000 in
set_option maxRecDepth 100000 in
theorem new_low (Ad : Nat → Addr) (W : World) (hE : Env4 W Ad) (n : Int) (hn : n < 0) :
    Calls Tryz.prog 52 #[.int .i64 n] W fun e W' => ∃ v, e = .returned (.tuple #[.pointer none, v]) ∧ ErrAt Ad W' v bMost 1 ∧ Below W.heap.size W W' := by
  have e1 := hE.c1
  have AC := hid (at_err Ad bMost 1 (by decide) W)
  clear hE
  go_enter Tryz.func52, Tryz.ntmps52
  go_wp2_with fail
  refine AC.out.mono ?_
  rintro e w1 ⟨v, rfl, hv, hb⟩
  have HV := hid hv
  have HB := hid hb
  clear hv hb e1 AC
  go_wp2_with fail
  go_ret2
  exact ⟨v, rfl, HV.out, HB.out⟩
set_option maxHeartbeats 800000 in
set_option maxRecDepth 100000 in
theorem new_high (Ad : Nat → Addr) (W : World) (hE : Env4 W Ad) (n : Int) (hn : 64 < n) :
    Calls Tryz.prog 52 #[.int .i64 n] W fun e W' => ∃ v, e = .returned (.tuple #[.pointer none, v]) ∧ ErrAt Ad W' v bMost 1 ∧ Below W.heap.size W W' := by
  have e1 := hE.c1
  have h0 : ¬ (n < 0) := by omega
  have AC := hid (at_err Ad bMost 1 (by decide) W)
  clear hE
  go_enter Tryz.func52, Tryz.ntmps52
  go_wp2_with fail
  refine AC.out.mono ?_
  rintro e w1 ⟨v, rfl, hv, hb⟩
  have HV := hid hv
  have HB := hid hb
  clear hv hb e1 AC
  go_wp2_with fail
  go_ret2
  exact ⟨v, rfl, HV.out, HB.out⟩
theorem made_ints (n : Nat) : madeCells (Value.int .i64 0).cells (n * 1) = ((List.replicate n 0).map gI).toArray := by
  apply Array.ext_getElem?
  intro j
  by_cases hj : j < n
  · simp [madeCells, gI, Value.cells, hj, Nat.mod_one]
  · simp [madeCells, gI, Value.cells, hj]
theorem run_mk (W : World) (n : Nat) (hn : n ≤ 64) : (Instr.makeSlice 113 (.int .i64 (n : Int)) (.int .i64 (n : Int))).run Tryz.prog W = .ok (.slice (some ⟨W.heap.size, 0, none⟩) n n) (W.alloc (.cells ((List.replicate n 0).map gI).toArray 3)) := by
  obtain ⟨i0, hi, hz0, hz1, hz2⟩ := info_parts infoInt
  have h := run_makeSlice (P := Tryz.prog) W 113 3 i0 (.int .i64 0) Tryz.underlying113 hi hz0 .i64 .i64 (n : Int) (n : Int) (by omega) (by omega) (by rw [hz1]; simp; omega) (by rw [hz2]; omega) (by omega)
  rw [hz1, Int.toNat_natCast, made_ints] at h
  exact h
theorem wpList_free {ops : Array Oper} {rest : List Oper} {o : Oper} {a : Act} {Q : Exit → Act → World → Prop} (hgd : o.guard = none) (s x : Operand)
    (ho : o.op = .call { callee := .builtin .append, args := #[s, x], argTypes := #[113, 113] }) {B rb : Nat} {wc : World} {fv : Value} {f : List Nat} {k : Nat} (hown : wc.ownsRow B 3 1 fv f.length (f.map gI)) (hl : f.length ≤ 1000) (hB : B ≤ wc.heap.size)
    {cs : Array Value} (hbox : wc.heap[rb]? = some (.cells cs 184 (0, 0))) (hcs : cs[1]? = some fv) (hne : fv.ownBlock ≠ some rb)
    (hs : a.eval s = fv) (hx : a.eval x = .slice (some ⟨wc.heap.size, 0, none⟩) 1 1)
    (h : ∀ g' cap w2, Hid (Grew B fv (f ++ [k]) wc (.slice (some ⟨g', 0, none⟩) (f.length + 1) cap) w2) → w2.cell? ⟨rb, 1, none⟩ = some fv → w2.frozen? ⟨rb, 1, none⟩ = false → wpList Tryz.prog ops Q rest (a.put o.dst (.slice (some ⟨g', 0, none⟩) (f.length + 1) cap)) w2) :
    wpList Tryz.prog ops Q (o :: rest) a (wc.alloc (.cells #[.int .i64 (k : Int)] 3)) := by
  obtain ⟨i0, hi, hz0, hz1, hz2⟩ := info_parts infoInt
  have hb : Below wc.heap.size wc (wc.alloc (.cells #[.int .i64 (k : Int)] 3)) := (Below.refl _ _).alloc (Nat.le_refl _) _
  have ho2 : (wc.alloc (.cells #[.int .i64 (k : Int)] 3)).ownsRow B 3 1 fv f.length (f.map gI) := hown.alloc _
  have hz : (wc.alloc (.cells #[.int .i64 (k : Int)] 3)).heap.size = wc.heap.size + 1 := by simp
  refine wpList_append_lies _ hgd s x 113 ho B 3 i0 (.int .i64 0) 1 8 Tryz.underlying113 hi hz0 hz1 hz2 rfl (by decide) fv f.length (f.map gI) hs ho2 ⟨wc.heap.size, 0, none⟩ 1 1 [gI k] hx rfl (fun j u hu => by
    rw [add_at]
    match j, hu with
    | 0, hu =>
      simp at hu
      subst hu
      exact new_cell wc _ 3
    | j + 1, hu => simp at hu) (by intro u hu; simp at hu; subst hu; rfl) (by decide) (by unfold maxLen; omega) (by omega) (by omega) (wc.heap.size + 1) hz ?_
  intro g' cap w2 ow hg hat hlt
  have st : St (fun x => fv.ownBlock = some x) wc w2 := (St.of_below hb).trans (St.of_grown (S := fun x => fv.ownBlock = some x) hg fun k e => e) fun _ _ q => q
  have hbx : w2.heap[rb]? = some (.cells cs 184 (0, 0)) := (st.block rb (Array.getElem?_eq_some_iff.1 hbox).1 hne).trans hbox
  refine h g' cap w2 ⟨?_, st, ?_⟩ (cell_blk hbx hcs) (blk_free hbx 1)
  · have e : (f ++ [k]).length = f.length + 1 := by simp
    rw [e, List.map_append]
    exact ow
  · rcases hat with h1 | h1
    · exact .inl (by rw [h1]; rfl)
    · exact .inr ⟨g', rfl, by omega⟩
/-- A roll that is being made: of its places those of the row l are free. -/
structure Mk (B : Nat) (W : World) (rb gb mb n : Nat) (fv : Value) (l : List Nat) (wr : World) : Prop where
  box : wr.heap[rb]? = some (.cells #[.slice (some ⟨gb, 0, none⟩) n n, fv, .map (some mb)] 184 (0, 0))
  gens : wr.heap[gb]? = some (.cells ((List.replicate n 0).map gI).toArray 3 (0, 0))
  free : wr.ownsRow B 3 1 fv l.length (l.map gI)
  map : wr.ownsMap Tryz.prog 43 (unitElem (H := Unit)) mb 0 (.map [])
  low : B ≤ rb ∧ B ≤ gb ∧ B ≤ mb
  apart : ∀ x, fv.ownBlock = some x → x ≠ rb ∧ x ≠ gb ∧ x ≠ mb
  three : rb ≠ gb ∧ rb ≠ mb
  bel : Below B W wr
theorem Mk.next {B : Nat} {W wr w2 : World} {rb gb mb n k : Nat} {fv fv' : Value} {l : List Nat} (h : Mk B W rb gb mb n fv l wr) (hB : B ≤ wr.heap.size) (g : Grew B fv (l ++ [k]) wr fv' w2) : Mk B W rb gb mb n fv' (l ++ [k]) (w2.setCell ⟨rb, 1, none⟩ fv') := by
  have lt := fun {k : Nat} {o : Obj} (h : wr.heap[k]? = some o) => (Array.getElem?_eq_some_iff.1 h).1
  have l1 := lt h.box
  have l2 := lt h.gens
  have l3 := h.map.lt
  have hap : ∀ x, fv'.ownBlock = some x → x ≠ rb ∧ x ≠ gb ∧ x ≠ mb := fun x hx => by
    rcases g.at' with h1 | ⟨y, h1, h2⟩
    · exact h.apart x (h1 ▸ hx)
    · rw [h1] at hx; simp at hx; omega
  refine ⟨?_, ?_, ?_, ?_, h.low, hap, h.three, ?_⟩
  · exact heap_setCell_same _ rb 1 _ 184 _ ((g.st.block rb l1 fun e => (h.apart rb e).1 rfl).trans h.box)
  · exact (Below.heap_setCell _ _ _ _ (fun e => h.three.1 e.symm)).trans ((g.st.block gb l2 fun e => (h.apart gb e).2.1 rfl).trans h.gens)
  · exact own_later g.own fun x cur hx hb => (Below.heap_setCell _ _ _ _ (hap x hx).1).trans hb
  · obtain ⟨es, cl, hb, q⟩ := h.map
    refine World.ownsMap.setCell (a := ⟨rb, 1, none⟩) ⟨es, cl, (g.st.block mb l3 fun e => (h.apart mb e).2.2 rfl).trans hb, q⟩ (fun e => h.three.2 e.symm) _
  · have s1 : Below B wr w2 := g.st.below (fun x hx => (h.free.lt x hx).1) hB
    exact (h.bel.trans s1).setCell h.low.1 _
theorem range_drop (n q : Nat) (h : q < n) : ((List.range n).drop q).reverse = ((List.range n).drop (q + 1)).reverse ++ [q] := by
  rw [List.drop_eq_getElem_cons (by simpa using h), List.reverse_cons]
  simp
theorem Mk.roll {W wr : World} {rb gb mb n : Nat} {fv : Value} (h : Mk W.heap.size W rb gb mb n fv (List.range n).reverse wr) (hn : n ≤ 64) : Rl W.heap.size wr rb gb mb fv 0 (RS.fresh n) := by
  refine ⟨?_, h.gens, h.free, ⟨_, h.map, ?_, ?_⟩, ⟨?_, ?_⟩, ?_, ?_, h.low, fun e => (h.apart gb e).2.1 rfl⟩
  · simpa [RS.fresh] using h.box
  · intro i g _ _
    have : (RS.fresh n).aliveB i g = false := by
      rw [Bool.eq_false_iff]
      intro ha
      obtain ⟨_, _, c, d⟩ := (RS.aliveB_iff _ _ _).1 ha
      have := (List.getElem?_eq_some_iff.1 d).1
      exact c (by simpa [RS.fresh] using this)
    rw [this]
    rfl
  · simp [RS.fresh, Maps.size]
  · exact (List.reverse_perm (List.range n)).nodup_iff.2 List.nodup_range
  · intro i hi
    simpa [RS.fresh] using hi
  · simpa [RS.fresh] using hn
  · intro g hg
    simp [RS.fresh] at hg
    omega
set_option maxHeartbeats 1600000 in
set_option maxRecDepth 100000 in
theorem new_some (W : World) (n : Nat) (hn : n ≤ 64) :
    Calls Tryz.prog 52 #[.int .i64 (n : Int)] W fun e W' => ∃ rb gb mb fv, e = .returned (.tuple #[.pointer (some ⟨rb, 0, none⟩), .nilIface]) ∧ Rl W.heap.size W' rb gb mb fv 0 (RS.fresh n) ∧ Below W.heap.size W W' := by
  have h0 : ¬ ((n : Int) < 0) := by omega
  have h1 : ¬ (64 < (n : Int)) := by omega
  have h2 : (n : Int) ≤ 64 := by omega
  have hmk := run_mk W n hn
  have hmm := run_makeMap (P := Tryz.prog) 182
  have M0 : Hid (Mk W.heap.size W (W.heap.size + 2) W.heap.size (W.heap.size + 1) n (.slice none 0 0) [] (((W.alloc (.cells ((List.replicate n 0).map gI).toArray 3)).alloc (.map #[] 0)).alloc (.cells #[.slice (some ⟨W.heap.size, 0, none⟩) n n, .slice none 0 0, .map (some (W.heap.size + 1))] 184))) := by
    generalize hcs : ((List.replicate n 0).map gI).toArray = cs at *
    refine ⟨?_, ?_, World.ownsRow_nil _ _ _ _, ?_, by omega, fun x hx => by simp [Value.ownBlock] at hx, by omega, ?_⟩
    · have := heap_alloc_new ((W.alloc (.cells cs 3)).alloc (.map #[] 0)) (.cells #[.slice (some ⟨W.heap.size, 0, none⟩) n n, .slice none 0 0, .map (some (W.heap.size + 1))] 184)
      simpa using this
    · rw [Below.heap_alloc _ _ _ (by simp; omega), Below.heap_alloc _ _ _ (by simp), hcs]
      exact heap_alloc_new W _
    · have := World.ownsMap_made (W.alloc (.cells cs 3)) Tryz.prog 43 (unitElem (H := Unit))
      rw [World.size_alloc] at this
      exact this.alloc _
    · exact (((Below.refl _ _).alloc (Nat.le_refl _) _).alloc (by simp) _).alloc (by simp; omega) _
  generalize ((List.replicate n 0).map gI).toArray = cs at *
  go_enter Tryz.func52, Tryz.ntmps52
  go_wp2_with fail
  go_loopw [5] (fun i wr => ∃ (j : Nat) (z : Int), j ≤ n ∧ Hid (z = (j : Int) - 1) ∧ i = .int .i64 z ∧ ∃ fv, Hid (Mk W.heap.size W (W.heap.size + 2) W.heap.size (W.heap.size + 1) n fv ((List.range n).drop j).reverse wr)) (fun i _ => (intOf i + 1).toNat)
  case atStart => exact ⟨n, _, Nat.le_refl _, rfl, rfl, _, by rw [List.drop_of_length_le (by simp)]; exact M0.out⟩
  case round =>
    obtain ⟨j, z, hj, HZ, rfl, fv, HM⟩ := hrel
    clear hmk hmm M0
    by_cases hlt : 0 < j
    · obtain ⟨q, rfl⟩ : ∃ q, j = q + 1 := ⟨j - 1, by omega⟩
      obtain rfl : z = (q : Int) := by have := HZ.out; omega
      clear HZ
      have hqi : (0 : Int) ≤ (q : Int) := by omega
      have hq64 : (q : Int) ≤ 64 := by omega
      have hfl : ((List.range n).drop (q + 1)).reverse.length ≤ 1000 := by simp; omega
      have x1 := cell_blk HM.out.box (j := 1) rfl
      have hrl : W.heap.size + 2 < wr.heap.size := World.block_lt_of_cell? wr _ x1
      have hrn : ¬ (W.heap.size + 2 = wr.heap.size) := by omega
      have RD := hid (range_drop n q (by omega))
      obtain ⟨l, hl⟩ : ∃ l, l = ((List.range n).drop (q + 1)).reverse := ⟨_, rfl⟩
      rw [← hl] at HM hfl RD
      clear hl
      obtain ⟨fa, fc, rfl⟩ := own_slice HM.out.free
      go_wp2_with (at_builtin; refine wpList_free rfl _ _ rfl HM.out.free hfl (by omega) HM.out.box rfl (fun e => (HM.out.apart _ e).1 rfl) rfl rfl ?_; intro g' cap w2 hgr hx5 hf5)
      exact ⟨⟨q, _, by omega, rfl, rfl, _, by rw [RD.out]; exact HM.out.next (by omega) hgr.out⟩, by simp [intOf]⟩
    · obtain rfl : j = 0 := by omega
      obtain rfl : z = -1 := by have := HZ.out; omega
      clear HZ
      go_wp2_with fail
      go_ret2
      have hM := HM.out
      rw [List.drop_zero] at hM
      exact ⟨_, _, _, _, rfl, hM.roll hn, hM.bel⟩
end Go.Proofs.YtagjmggiaffihaaGreatDoor.Ro
namespace Go.Proofs.YtagjmggiaffihaaGreatDoor.Ro
open Go.RowKit Go.Shelf Go.Maps
/-- Those that are given among the first k places. -/
def RS.upto (r : RS) : Nat → List (Nat × Nat)
  | 0 => []
  | k + 1 => if k ∈ r.free then r.upto k else r.upto k ++ [(k, r.gens.getD k 0)]
def RS.all (r : RS) : List (Nat × Nat) := r.upto r.gens.length
def entCells (l : List (Nat × Nat)) : List Value := l.flatMap fun p => [gI p.1, gI p.2]
theorem entCells_len (l : List (Nat × Nat)) : (entCells l).length = l.length * 2 := by
  induction l with
  | nil => rfl
  | cons x l ih => simp only [entCells, List.flatMap_cons, List.length_append, List.length_cons, List.length_nil] at ih ⊢; omega
theorem entCells_snoc (l : List (Nat × Nat)) (p : Nat × Nat) : entCells (l ++ [p]) = entCells l ++ [gI p.1, gI p.2] := by simp [entCells]
theorem infoEnt : (Tryz.prog.info? 43).map (fun i => (i.zero, i.size, i.bytes)) = some (some (.agg #[.int .i64 0, .int .i64 0]), 2, 16) := by kernel_rfl
/-- A row of entities. -/
def Ents (B : Nat) (W : World) (v : Value) (l : List (Nat × Nat)) : Prop := W.ownsRow B 43 2 v l.length (entCells l)
theorem Ents.later {B : Nat} {W W' : World} {v : Value} {l : List (Nat × Nat)} (h : Ents B W v l) (hb : Below W.heap.size W W') : Ents B W' v l := World.ownsRow.kept h (row := none) ⟨hb.os, hb.tape, hb.output, hb.size, fun k hk _ => hb.block k hk⟩ (by cases hv : v.ownBlock <;> simp)
theorem Ents.slice {B : Nat} {W : World} {v : Value} {l : List (Nat × Nat)} (h : Ents B W v l) : ∃ a c, v = .slice a l.length c := by
  rcases h.2 with ⟨h1, h2⟩ | ⟨g, cap, cur, h1, _⟩
  · exact ⟨none, 0, by rw [h2]; exact h1⟩
  · exact ⟨_, _, h1⟩
/-- append of one entity. -/
theorem wpList_ent {ops : Array Oper} {rest : List Oper} {o : Oper} {a : Act} {Q : Exit → Act → World → Prop} (hgd : o.guard = none) (s x : Operand)
    (ho : o.op = .call { callee := .builtin .append, args := #[s, x], argTypes := #[41, 41] }) {B : Nat} {wc : World} {v : Value} {l : List (Nat × Nat)} {k g : Nat} (hown : Ents B wc v l) (hl : l.length ≤ 1000) (hB : B ≤ wc.heap.size)
    (hs : a.eval s = v) (hx : a.eval x = .slice (some ⟨wc.heap.size, 0, none⟩) 1 1)
    (h : ∀ v' w2, Hid (Ents B w2 v' (l ++ [(k, g)])) → Hid (St (fun x => v.ownBlock = some x) wc w2) → Hid (v'.ownBlock = v.ownBlock ∨ ∃ x, v'.ownBlock = some x ∧ wc.heap.size ≤ x) → wpList Tryz.prog ops Q rest (a.put o.dst v') w2) :
    wpList Tryz.prog ops Q (o :: rest) a (wc.alloc (.cells #[.int .i64 (k : Int), .int .i64 (g : Int)] 43)) := by
  obtain ⟨i0, hi, hz0, hz1, hz2⟩ := info_parts infoEnt
  have hb : Below wc.heap.size wc (wc.alloc (.cells #[.int .i64 (k : Int), .int .i64 (g : Int)] 43)) := (Below.refl _ _).alloc (Nat.le_refl _) _
  have ho2 : (wc.alloc (.cells #[.int .i64 (k : Int), .int .i64 (g : Int)] 43)).ownsRow B 43 2 v l.length (entCells l) := hown.alloc _
  have hz : (wc.alloc (.cells #[.int .i64 (k : Int), .int .i64 (g : Int)] 43)).heap.size = wc.heap.size + 1 := by simp
  obtain ⟨d0, d1⟩ := cell_new2 wc (.int .i64 (k : Int)) (.int .i64 (g : Int)) 43
  refine wpList_append_lies _ hgd s x 41 ho B 43 i0 (.agg #[.int .i64 0, .int .i64 0]) 2 16 Tryz.underlying41 hi hz0 hz1 hz2 rfl (by decide) v l.length (entCells l) hs ho2 ⟨wc.heap.size, 0, none⟩ 1 1 [gI k, gI g] hx rfl (fun j u hu => by
    rw [add_at]
    match j, hu with
    | 0, hu => simp at hu; subst hu; exact d0
    | 1, hu => simp at hu; subst hu; exact d1
    | j + 2, hu => simp at hu) (by intro u hu; simp at hu; rcases hu with rfl | rfl <;> rfl) (by decide) (by unfold maxLen; omega) (by omega) (by omega) (wc.heap.size + 1) hz ?_
  intro g' cap w2 ow hg hat hlt
  refine h _ w2 ?_ ((St.of_below hb).trans (St.of_grown (S := fun x => v.ownBlock = some x) hg fun k e => e) fun _ _ q => q) ?_
  · show World.ownsRow _ _ _ _ _ _ _
    rw [entCells_snoc, List.length_append]
    exact ow
  · rcases hat with h1 | h1
    · exact .inl (by rw [h1]; rfl)
    · exact .inr ⟨g', rfl, by omega⟩
theorem RS.upto_len (r : RS) (k : Nat) : (r.upto k).length ≤ k := by
  induction k with
  | zero => simp [RS.upto]
  | succ k ih =>
    unfold RS.upto
    split
    · omega
    · simp only [List.length_append, List.length_singleton]; omega
theorem RS.alive_at {r : RS} {k : Nat} (hk : k < r.gens.length) : r.aliveB (k : Int) ((r.gens.getD k 0 : Nat) : Int) = decide (k ∉ r.free) := by
  have h1 : r.gens[k]? = some (r.gens.getD k 0) := by rw [List.getD_eq_getElem?_getD, List.getElem?_eq_getElem hk]; rfl
  generalize r.gens.getD k 0 = g at *
  rw [Bool.eq_iff_iff, RS.aliveB_iff, decide_eq_true_iff, Int.toNat_natCast, Int.toNat_natCast]
  exact ⟨fun h => h.2.2.1, fun h => ⟨by omega, by omega, h, h1⟩⟩
end Go.Proofs.YtagjmggiaffihaaGreatDoor.Ro
namespace Go.Proofs.YtagjmggiaffihaaGreatDoor.Ro
open Go.RowKit Go.Shelf Go.Maps
/-- A roll whose blocks are S. -/
def Rol (B : Nat) (W : World) (rb t : Nat) (r : RS) (S : Nat → Prop) : Prop := ∃ gb mb fv, Rl B W rb gb mb fv t r ∧ ∀ k, S k ↔ Ft rb gb mb fv k
section
variable {B : Nat} {W W' : World} {rb t : Nat} {r : RS} {S : Nat → Prop}
theorem Rol.kept {T : Nat → Prop} (h : Rol B W rb t r S) (hs : St T W W') (hd : ∀ k, S k → ¬ T k) : Rol B W' rb t r S := by
  obtain ⟨gb, mb, fv, h1, h2⟩ := h
  exact ⟨gb, mb, fv, h1.kept hs fun k hk => hd k ((h2 k).2 hk), h2⟩
theorem Rol.later (h : Rol B W rb t r S) (hb : Below W.heap.size W W') : Rol B W' rb t r S := h.kept (T := fun _ => False) (St.of_below hb) fun _ _ q => q
theorem Rol.lt (h : Rol B W rb t r S) (k : Nat) (hk : S k) : B ≤ k ∧ k < W.heap.size := by
  obtain ⟨gb, mb, fv, h1, h2⟩ := h
  exact h1.lt k ((h2 k).1 hk)
theorem Rol.ok (h : Rol B W rb t r S) : r.ok := by obtain ⟨gb, mb, fv, h1, h2⟩ := h; exact h1.ok
theorem Rol.small (h : Rol B W rb t r S) : r.gens.length ≤ 64 := by obtain ⟨gb, mb, fv, h1, h2⟩ := h; exact h1.small
theorem Rol.few (h : Rol B W rb t r S) : r.free.length ≤ r.gens.length := by obtain ⟨gb, mb, fv, h1, h2⟩ := h; exact h1.few
theorem Rol.old (h : Rol B W rb t r S) : ∀ g ∈ r.gens, g ≤ t := by obtain ⟨gb, mb, fv, h1, h2⟩ := h; exact h1.old
theorem Rol.base (h : Rol B W rb t r S) : B ≤ W.heap.size := by obtain ⟨gb, mb, fv, h1, h2⟩ := h; have := h1.lt rb (.inl rfl); omega
theorem Rol.below (h : Rol B W rb t r S) (hs : St S W W') : Below B W W' := hs.below (fun k hk => (h.lt k hk).1) h.base
theorem rol_new (W : World) (n : Nat) (hn : n ≤ 64) :
    Calls Tryz.prog 52 #[.int .i64 (n : Int)] W fun e W' => ∃ rb S, e = .returned (.tuple #[.pointer (some ⟨rb, 0, none⟩), .nilIface]) ∧ Rol W.heap.size W' rb 0 (RS.fresh n) S ∧ Below W.heap.size W W' := by
  refine (new_some W n hn).mono ?_
  rintro e w ⟨rb, gb, mb, fv, rfl, h, hb⟩
  exact ⟨rb, _, rfl, ⟨gb, mb, fv, h, fun _ => Iff.rfl⟩, hb⟩
theorem rol_take {f : List Nat} {i : Nat} (h : Rol B W rb t r S) (hf : r.free = f ++ [i]) (ht : t ≤ 1000) :
    Calls Tryz.prog 65 #[.pointer (some ⟨rb, 0, none⟩)] W fun e W' => e = .returned (.tuple #[.agg #[.int .i64 i, .int .i64 ((r.gens.getD i 0 : Nat) + 1 : Int)], .nilIface]) ∧ Rol B W' rb (t + 1) (r.took i) S ∧ St S W W' := by
  obtain ⟨gb, mb, fv, h1, h2⟩ := h
  refine (take_some h1 hf ht).mono ?_
  rintro e w ⟨rfl, fv', h3, h4, h5⟩
  refine ⟨rfl, ⟨gb, mb, fv', h3, fun k => ?_⟩, ⟨h5.os, h5.tape, h5.output, h5.size, fun k hk hn => h5.block k hk fun q => hn ((h2 k).2 q)⟩⟩
  rw [h2 k]
  unfold Ft
  rw [h4]
theorem rol_full (Ad : Nat → Addr) (h : Rol B W rb t r S) (hE : Env4 W Ad) (hf : r.free = []) :
    Calls Tryz.prog 65 #[.pointer (some ⟨rb, 0, none⟩)] W fun e W' => ∃ b, e = .returned (.tuple #[.agg #[.int .i64 0, .int .i64 0], .iface 208 (.pointer (some ⟨b, 0, none⟩))]) ∧ W.heap.size ≤ b ∧ ErrAt Ad W' (.iface 208 (.pointer (some ⟨b, 0, none⟩))) bTake 6 ∧ Below W.heap.size W W' := by
  obtain ⟨gb, mb, fv, h1, h2⟩ := h
  exact take_full Ad h1 hE hf
theorem rol_alive (h : Rol B W rb t r S) (i g : Int) (hi : I64 i) (hg : I64 g) :
    Calls Tryz.prog 95 #[.pointer (some ⟨rb, 0, none⟩), .agg #[.int .i64 i, .int .i64 g]] W fun e W' => e = .returned (.bool (r.aliveB i g)) ∧ Below W.heap.size W W' := by
  obtain ⟨gb, mb, fv, h1, h2⟩ := h
  exact alive_any h1 i g hi hg
theorem rol_dead (Ad : Nat → Addr) (h : Rol B W rb t r S) (hE : Env4 W Ad) (i g : Int) (hi : I64 i) (hg : I64 g) (ha : r.aliveB i g = false) :
    Calls Tryz.prog 74 #[.pointer (some ⟨rb, 0, none⟩), .agg #[.int .i64 i, .int .i64 g]] W fun e W' => ∃ v, e = .returned v ∧ ErrAt Ad W' v bFree 17 ∧ Below W.heap.size W W' := by
  obtain ⟨gb, mb, fv, h1, h2⟩ := h
  exact free_dead Ad h1 hE i g hi hg ha
theorem rol_free (h : Rol B W rb t r S) (k : Nat) (g : Int) (hi : I64 (k : Int)) (hg : I64 g) (ha : r.aliveB (k : Int) g = true) :
    Calls Tryz.prog 74 #[.pointer (some ⟨rb, 0, none⟩), .agg #[.int .i64 (k : Int), .int .i64 g]] W fun e W' => e = .returned .nilIface ∧ ∃ S', Rol B W' rb t (r.freed k) S' ∧ St S W W' ∧ ∀ x, S' x → S x ∨ W.heap.size ≤ x := by
  obtain ⟨gb, mb, fv, h1, h2⟩ := h
  refine (free_alive h1 k g hi hg ha).mono ?_
  rintro e w ⟨rfl, fv', h3, h4, h5⟩
  refine ⟨rfl, _, ⟨gb, mb, fv', h3, fun _ => Iff.rfl⟩, ⟨h5.os, h5.tape, h5.output, h5.size, fun k hk hn => h5.block k hk fun q => hn ((h2 k).2 q)⟩, fun x hx => ?_⟩
  rcases hx with hx | hx | hx | hx
  · exact .inl ((h2 x).2 (.inl hx))
  · exact .inl ((h2 x).2 (.inr (.inl hx)))
  · exact .inl ((h2 x).2 (.inr (.inr (.inl hx))))
  · rcases h4 with h4 | ⟨y, h4, h6⟩
    · exact .inl ((h2 x).2 (.inr (.inr (.inr (h4 ▸ hx)))))
    · rw [h4] at hx; simp at hx; exact .inr (by omega)
theorem rol_count (h : Rol B W rb t r S) : Calls Tryz.prog 91 #[.pointer (some ⟨rb, 0, none⟩)] W fun e W' => e = .returned (.int .i64 (r.count : Int)) ∧ W' = W := by
  obtain ⟨gb, mb, fv, h1, h2⟩ := h
  exact count_any h1
end
theorem Env4.same {w : World} {Ad : Nat → Addr} (h : Env4 w Ad) {p k : Nat} (hp : p ∈ four) (hk : k ∈ four) : decide (Ad p = Ad k) = decide (p = k) := by
  by_cases e : p = k
  · subst e; simp
  · have : Ad p ≠ Ad k := fun h' => e (h.inj p hp k hk h')
    simp [e, this]
theorem is_err (Ad : Nat → Addr) {W : World} {v : Value} {s : ByteArray} {p k : Nat} (hE : Env4 W Ad) (h : ErrAt Ad W v s p) (hp : p ∈ four) (hk : k ∈ four) :
    Calls Tryz.prog 13 #[v, .iface 278 (.pointer (some (Ad k)))] W fun e W' => e = .returned (.bool (decide (p = k))) ∧ Below W.heap.size W W' := by
  obtain ⟨t, q, rfl, -⟩ := h.1.shape
  refine is_by Ad k t q _ W ((eis_gen Ad W.heap.size k W [s] _ p (hE.sen p hp) (hE.sen k hk) (hE.same hp hk) h.1).mono ?_)
  rintro e w' ⟨rfl, rfl⟩
  exact ⟨rfl, Below.refl _ _⟩
theorem ErrAt.kept {Ad : Nat → Addr} {W W' : World} {b : Nat} {s : ByteArray} {k : Nat} {S : Nat → Prop} (h : ErrAt Ad W (.iface 208 (.pointer (some ⟨b, 0, none⟩))) s k) (hs : St S W W') (hb : ¬ S b) : ErrAt Ad W' (.iface 208 (.pointer (some ⟨b, 0, none⟩))) s k := by
  obtain ⟨⟨b', inner, hv, hlt, c0, c1, hi⟩, h2⟩ := h
  obtain rfl : b = b' := by simpa using hv
  have e := hs.block b hlt hb
  exact ⟨⟨b, inner, rfl, Nat.lt_of_lt_of_le hlt hs.size, (World.cell?_of_block (a := ⟨b, 0, none⟩) e).trans c0, (World.cell?_of_block (a := ⟨b, 1, none⟩) e).trans c1, hi⟩, h2⟩
end Go.Proofs.YtagjmggiaffihaaGreatDoor.Ro
namespace Go.Proofs.YtagjmggiaffihaaGreatDoor.Ro
open Go.RowKit Go.Shelf Go.Maps
theorem bAl (W : World) (o : Obj) : Below W.heap.size W (W.alloc o) := (Below.refl _ _).alloc (Nat.le_refl _) _
theorem St.at {S : Nat → Prop} {W W' : World} {b : Nat} {o : Obj} (hs : St S W W') (h : W.heap[b]? = some o) (hn : ¬ S b) : W'.heap[b]? = some o := (hs.block b (Array.getElem?_eq_some_iff.1 h).1 hn).trans h
set_option maxRecDepth 100000 in
theorem eql_ent (i g i' g' : Int) (hi : I64 i) (hg : I64 g) (hi' : I64 i') (hg' : I64 g') (w : World) : (binOp .eql 43 (.agg #[.int .i64 i, .int .i64 g]) (.agg #[.int .i64 i', .int .i64 g'])).run Tryz.prog w = .ok (.bool (decide (i = i' ∧ g = g'))) w := by
  obtain ⟨r, hr, hiff⟩ := run_equal_deep (P := Tryz.prog) w (m := 2) (by omega) (k := 43) (by kernel_rfl) Tryz.wide24 (key_ent i g hi hg) (key_ent i' g' hi' hg')
  have e : r = decide (i = i' ∧ g = g') := by
    rw [Bool.eq_iff_iff, hiff, decide_eq_true_iff]
    exact ⟨fun h => kl_inj hi hg hi' hg' h, fun h => by rw [h.1, h.2]⟩
  unfold entV at hr
  rw [← e]
  simp [binOp, hr]
set_option maxRecDepth 100000 in
theorem neq_ent (i g i' g' : Int) (hi : I64 i) (hg : I64 g) (hi' : I64 i') (hg' : I64 g') (w : World) : (binOp .neq 43 (.agg #[.int .i64 i, .int .i64 g]) (.agg #[.int .i64 i', .int .i64 g'])).run Tryz.prog w = .ok (.bool (!decide (i = i' ∧ g = g'))) w := by
  obtain ⟨r, hr, hiff⟩ := run_equal_deep (P := Tryz.prog) w (m := 2) (by omega) (k := 43) (by kernel_rfl) Tryz.wide24 (key_ent i g hi hg) (key_ent i' g' hi' hg')
  have e : r = decide (i = i' ∧ g = g') := by
    rw [Bool.eq_iff_iff, hiff, decide_eq_true_iff]
    exact ⟨fun h => kl_inj hi hg hi' hg' h, fun h => by rw [h.1, h.2]⟩
  unfold entV at hr
  rw [← e]
  simp [binOp, hr]
end Go.Proofs.YtagjmggiaffihaaGreatDoor.Ro
