/- Rows of numbers; the numbers of a set, as a list. -/
import Derived.Test.YtfabmleiibnhdaaDoorAtAc
import Derived.Laws.OwnMore
namespace Go.Proofs.YtfabmleiibnhdaaDoor.At
open Go.RowKit Go.Shelf Go.Maps
theorem infoInt3 : (Tryd.prog.info? 3).map (fun i => (i.zero, i.size, i.bytes)) = some (some (.int .i64 0), 1, 8) := by kernel_rfl
theorem infoInt33 : (Tryd.prog.info? 27).map (fun i => (i.zero, i.size, i.bytes)) = some (some (.int .u32 0), 1, 4) := by kernel_rfl
/-- A row of numbers. -/
def Ints (B : Nat) (W : World) (v : Value) (l : List Nat) : Prop := W.ownsRow B 3 1 v l.length (l.map gI)
theorem Ints.kept {B : Nat} {W W' : World} {v : Value} {l : List Nat} {T : Nat → Prop} (h : Ints B W v l) (hs : St T W W') (hd : ∀ k, v.ownBlock = Option.some k → ¬ T k) : Ints B W' v l :=
  own_later h fun k _ hk hb => (hs.block k (Array.getElem?_eq_some_iff.1 hb).1 (hd k hk)).trans hb
theorem Ints.later {B : Nat} {W W' : World} {v : Value} {l : List Nat} (h : Ints B W v l) (hb : Below W.heap.size W W') : Ints B W' v l := own_later h fun _ _ _ hb' => blk_seen hb (Nat.le_refl _) hb'
theorem Ints.slice {B : Nat} {W : World} {v : Value} {l : List Nat} (h : Ints B W v l) : ∃ a c, v = .slice a l.length c := own_slice h
theorem Ints.lt {B : Nat} {W : World} {v : Value} {l : List Nat} (h : Ints B W v l) (k : Nat) (hk : v.ownBlock = Option.some k) : B ≤ k ∧ k < W.heap.size := World.ownsRow.lt h k hk
theorem Ints.some {B : Nat} {W : World} {a : Option Addr} {c : Nat} {l : List Nat} (h : Ints B W (.slice a l.length c) l) (h0 : 0 < l.length) : ∃ g, a = Option.some ⟨g, 0, none⟩ ∧ B ≤ g ∧ g < W.heap.size := own_some h h0
theorem Ints.cell {B : Nat} {W : World} {g c : Nat} {l : List Nat} (h : Ints B W (.slice (Option.some ⟨g, 0, none⟩) l.length c) l) {j k : Nat} (hj : l[j]? = Option.some k) : W.cell? ⟨g, j, none⟩ = Option.some (.int .i64 (k : Int)) := by
  have hlt := (List.getElem?_eq_some_iff.1 hj).1
  rw [World.ownsRow.cellAt h j (by omega), List.getElem?_map, hj]
  rfl
theorem Ints.lower {B B' : Nat} {W : World} {v : Value} {l : List Nat} (h : Ints B W v l) (hB : B' ≤ B) : Ints B' W v l := by
  refine ⟨h.1, ?_⟩
  rcases h.2 with q | ⟨g, cap, cur, q1, q2, q3⟩
  · exact .inl q
  · exact .inr ⟨g, cap, cur, q1, by omega, q3⟩
theorem ints_one (W : World) (k : Nat) : Ints W.heap.size (W.alloc (.cells #[.int .i64 (k : Int)] 3)) (.slice (some ⟨W.heap.size, 0, none⟩) 1 1) [k] :=
  ⟨rfl, .inr ⟨W.heap.size, 1, #[.int .i64 (k : Int)], rfl, Nat.le_refl _, heap_alloc_new W _, Nat.le_refl _, by unfold maxLen; omega, rfl, rfl⟩⟩
theorem balloc {w0 W : World} (h : Below w0.heap.size w0 W) (o : Obj) : Below w0.heap.size w0 (W.alloc o) := h.alloc h.size o
/-- append of one number. -/
theorem wpList_num {ops : Array Oper} {rest : List Oper} {o : Oper} {a : Act} {Q : Exit → Act → World → Prop} (hgd : o.guard = none) (s x : Operand)
    (ho : o.op = .call { callee := .builtin .append, args := #[s, x], argTypes := #[93, 93] }) {B : Nat} {wc : World} {v : Value} {l : List Nat} {k : Nat} (hown : Ints B wc v l) (hl : l.length ≤ 100000) (hB : B ≤ wc.heap.size)
    (hs : a.eval s = v) (hx : a.eval x = .slice (some ⟨wc.heap.size, 0, none⟩) 1 1)
    (h : ∀ v' w2, Hid (Ints B w2 v' (l ++ [k])) → Hid (St (fun x => v.ownBlock = some x) wc w2) → Hid (v'.ownBlock = v.ownBlock ∨ ∃ x, v'.ownBlock = some x ∧ wc.heap.size ≤ x) → wpList Tryd.prog ops Q rest (a.put o.dst v') w2) :
    wpList Tryd.prog ops Q (o :: rest) a (wc.alloc (.cells #[.int .i64 (k : Int)] 3)) := by
  obtain ⟨i0, hi, hz0, hz1, hz2⟩ := info_parts infoInt3
  have hb : Below wc.heap.size wc (wc.alloc (.cells #[.int .i64 (k : Int)] 3)) := bAl _ _
  have ho2 : (wc.alloc (.cells #[.int .i64 (k : Int)] 3)).ownsRow B 3 1 v l.length (l.map gI) := World.ownsRow.alloc hown _
  refine wpList_append_lies _ hgd s x 93 ho B 3 i0 (.int .i64 0) 1 8 Tryd.underlying93 hi hz0 hz1 hz2 rfl (by decide) v l.length (l.map gI) hs ho2 ⟨wc.heap.size, 0, none⟩ 1 1 [gI k] hx rfl (fun j u hu => by
    rw [add_at]
    match j, hu with
    | 0, hu => simp at hu; subst hu; exact new_cell wc _ 3
    | j + 1, hu => simp at hu) (by intro u hu; simp at hu; subst hu; rfl) (by decide) (by unfold maxLen; omega) (by omega) (by simp; omega) (wc.heap.size + 1) (by simp) ?_
  intro g' cap w2 ow hg hat hlt
  refine h _ w2 ?_ ((St.of_below hb).trans (St.of_grown (S := fun x => v.ownBlock = some x) hg fun k e => e) fun _ _ q => q) ?_
  · show World.ownsRow _ _ _ _ _ _ _
    have e : (l ++ [k]).length = l.length + 1 := by simp
    rw [e, List.map_append]
    exact ow
  · show _ ∨ _
    rcases hat with h1 | h1
    · exact .inl (by rw [h1]; rfl)
    · exact .inr ⟨g', rfl, by omega⟩
/-- The numbers below k that are in a set. -/
def lst : Nat → Nat → List Nat
  | 0, _ => []
  | k + 1, m => if m.testBit k = true then lst k m ++ [k] else lst k m
theorem lst_len (m : Nat) : ∀ k, (lst k m).length ≤ k
  | 0 => by simp [lst]
  | k + 1 => by
    have ih := lst_len m k
    rw [lst]
    split <;> simp <;> omega
theorem lst_mem (m c : Nat) : ∀ k, c ∈ lst k m ↔ c < k ∧ m.testBit c = true
  | 0 => by simp [lst]
  | k + 1 => by
    have ih := lst_mem m c k
    rw [lst]
    split
    · rename_i h
      rw [List.mem_append, ih, List.mem_singleton]
      constructor
      · rintro (⟨h1, h2⟩ | rfl)
        · exact ⟨by omega, h2⟩
        · exact ⟨by omega, h⟩
      · rintro ⟨h1, h2⟩
        by_cases e : c = k
        · exact .inr e
        · exact .inl ⟨by omega, h2⟩
    · rename_i h
      rw [ih]
      constructor
      · rintro ⟨h1, h2⟩; exact ⟨by omega, h2⟩
      · rintro ⟨h1, h2⟩
        refine ⟨?_, h2⟩
        by_cases e : c = k
        · subst e; exact absurd h2 h
        · omega
theorem lst_more (m : Nat) (n : Nat) (h : m < 2 ^ n) : ∀ k, n ≤ k → lst k m = lst n m
  | 0, hk => by rw [show n = 0 by omega]
  | k + 1, hk => by
    by_cases e : n = k + 1
    · rw [e]
    · rw [lst, if_neg (by rw [bit_out h (show n ≤ k by omega)]; decide), lst_more m n h k (by omega)]
set_option maxHeartbeats 800000 in
set_option maxRecDepth 100000 in
theorem list_any (m : Nat) (h : m < 4294967296) (w : World) :
    Calls Tryd.prog 35 #[.int .u32 (m : Int)] w fun e w' => ∃ v, e = .returned v ∧ Ints w.heap.size w' v (lst 32 m) ∧ Below w.heap.size w w' := by
  have RH := hid (fun k hk w => sethas_in m k h hk w)
  clear h
  go_enter Tryd.func35, Tryd.ntmps35
  go_wp2_with fail
  go_loopw [3, 5] (fun v i wr => ∃ k : Nat, k ≤ 32 ∧ i = .int .i64 (k : Int) ∧ Hid (Ints w.heap.size wr v (lst k m)) ∧ Hid (Below w.heap.size w wr)) (fun _ i _ => 32 - (intOf i).toNat)
  case atStart => exact ⟨0, Nat.zero_le _, rfl, World.ownsRow_nil _ _ _ _, Below.refl _ _⟩
  case round =>
    obtain ⟨k, hk, rfl, HL, HB⟩ := hrel
    have hyl := lst_len m k
    by_cases hlt : k < 32
    · have hki : (k : Int) < 32 := by omega
      have e2 := hid (show lst (k + 1) m = if m.testBit k = true then lst k m ++ [k] else lst k m from rfl)
      have HH := hid (fun w => RH.out k hlt w)
      obtain ⟨la, lc, rfl⟩ := Ints.slice HL.out
      have hw1 : w.heap.size ≤ wr.heap.size := HB.out.size
      have hul : (lst k m).length ≤ 100000 := by omega
      clear hyl
      go_wp2_with fail
      refine (HH.out _).mono ?_
      rintro e w1 ⟨rfl, rfl⟩
      generalize m.testBit k = tb at *
      cases tb with
      | true =>
        rw [if_pos rfl] at e2
        go_wp2_with (at_builtin; refine wpList_num rfl _ _ rfl HL.out hul hw1 rfl rfl ?_; intro v' w2 ho hst hat)
        have b2 : Hid (Below w.heap.size w w2) := HB.out.trans (hst.out.below (fun x hx => (World.ownsRow.lt HL.out x hx).1) hw1)
        go_roundw
        case rel => exact ⟨k + 1, by omega, by go_num, by rw [e2.out]; exact ho.out, b2.out⟩
        case measure => simp [intOf]; omega
      | false =>
        rw [if_neg (by decide)] at e2
        go_wp2_with fail
        go_roundw
        case rel => exact ⟨k + 1, by omega, by go_num, by rw [e2.out]; exact HL.out, HB.out⟩
        case measure => simp [intOf]; omega
    · have hki : ¬ ((k : Int) < 32) := by omega
      have e1 : Hid (k = 32) := by show k = _; omega
      go_wp2_with fail
      go_ret
      exact ⟨_, rfl, by rw [← e1.out]; exact HL.out, HB.out⟩
end Go.Proofs.YtfabmleiibnhdaaDoor.At
