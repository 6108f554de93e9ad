/- Rows of numbers in memory: append, and reading them. -/
import Derived.Test.YtbealadcnpheiaaDw
import Derived.Laws.OwnMore
import Derived.OneCell
import Derived.Maps.AppendAt
namespace Go.Proofs.Ytbealadcnpheiaa
open Go.ChangeShapes Go.WideShapes Go.ChangeAt Go.RowKit
def iv (n : Nat) : Value := .int .i64 (n : Int)
theorem iv_one (l : List Nat) : ∀ u ∈ l.map iv, u.oneCell' = true := by
  intro u hu
  obtain ⟨c, _, rfl⟩ := List.mem_map.1 hu
  rfl
theorem own_block {w : World} {B : Nat} {e : TypeId} {z : Nat} {v : Value} {n : Nat} {xs : List Value} (h : w.ownsRow B e z v n xs) {k : Nat} (hk : v.ownBlock = some k) : B ≤ k := (h.lt k hk).1
theorem own_slice {w : World} {B : Nat} {e : TypeId} {z : Nat} {v : Value} {n : Nat} {xs : List Value} (h : w.ownsRow B e z v n xs) : ∃ ga gc, v = .slice ga n gc := by
  rcases h.2 with ⟨h1, h2⟩ | ⟨g, cap, cur, h1, _⟩
  · exact ⟨none, 0, by rw [h2]; exact h1⟩
  · exact ⟨_, _, h1⟩
theorem own_later {w w' : World} {B n : Nat} {e : TypeId} {v : Value} {xs : List Value} (h : w.ownsRow B e 1 v n xs) (hb : Below w.heap.size w w') : w'.ownsRow B e 1 v n xs := by
  refine ⟨h.1, ?_⟩
  rcases h.2 with h1 | ⟨g, cap, cur, h1, h2, h3, h4⟩
  · exact .inl h1
  · exact .inr ⟨g, cap, cur, h1, h2, (hb.block g (Array.getElem?_eq_some_iff.1 h3).1).trans h3, h4⟩
theorem own_base {w : World} {B B' n : Nat} {e : TypeId} {v : Value} {xs : List Value} (h : w.ownsRow B e 1 v n xs) (hB : B' ≤ B) : w.ownsRow B' e 1 v n xs := by
  refine ⟨h.1, ?_⟩
  rcases h.2 with h1 | ⟨g, cap, cur, h1, h2, h3⟩
  · exact .inl h1
  · exact .inr ⟨g, cap, cur, h1, by omega, h3⟩
theorem lit_row (w : World) (arr : Array Value) (e : TypeId) (h : arr.size ≤ 100) : (w.alloc (.cells arr e)).ownsRow w.heap.size e 1 (.slice (some ⟨w.heap.size, 0, none⟩) arr.size arr.size) arr.size arr.toList :=
  World.ownsRow_lit (base := w.heap.size) (e := e) (size := 1) w arr arr.size (Nat.le_refl _) (by unfold maxLen; omega) (by simp)
theorem Below.rebase {w a b : World} (h1 : Below w.heap.size w a) (h2 : Below a.heap.size a b) : Below w.heap.size w b := h1.trans (h2.mono h1.size)
theorem Below.drewN {B : Nat} {w w' : World} (h : Below B w w') (n : Nat) : Below B w (w'.drewN n) := h.trans ⟨rfl, rfl, rfl, Nat.le_refl _, fun _ _ => rfl⟩
theorem Try.info3 : (Try.prog.info? 3).map (fun i => (i.zero, i.size, i.bytes)) = some (some (.int .i64 0), 1, 8) := by kernel_rfl
theorem info_parts {x : Option TypeInfo} {z : Option Value} {s b : Nat} (h : x.map (fun i => (i.zero, i.size, i.bytes)) = some (z, s, b)) : ∃ i, x = some i ∧ i.zero = z ∧ i.size = s ∧ i.bytes = b := by
  cases x with
  | none => simp at h
  | some i => simp at h; exact ⟨i, rfl, h.1, h.2.1, h.2.2⟩
/-- append of one number onto a row of the call's own. -/
theorem wpList_int (w : World) {ops : Array Oper} {rest : List Oper} {o : Oper} {a : Act} {Q : Exit → Act → World → Prop} (hgd : o.guard = none) (s x : Operand)
    (ho : o.op = .call { callee := .builtin .append, args := #[s, x], argTypes := #[28, 28] })
    (base : Nat) (v : Value) (xs : List Nat) (hs : a.eval s = v) (hown : w.ownsRow base 3 1 v xs.length (xs.map iv))
    (g : Nat) (m : Nat) (hx : a.eval x = .slice (some ⟨g, 0, none⟩) 1 1) (hrow : w.cell? ⟨g, 0, none⟩ = some (iv m)) (hlen : xs.length ≤ 5000) (hbase : base ≤ w.heap.size)
    (h : ∀ ga gc (y : List Nat) w', Hid (y = xs ++ [m]) → Hid (w'.ownsRow base 3 1 (.slice ga y.length gc) y.length (y.map iv)) → Hid (Below base w w') → wpList Try.prog ops Q rest (a.put o.dst (.slice ga y.length gc)) w') :
    wpList Try.prog ops Q (o :: rest) a w := by
  obtain ⟨i0, hi, hz0, hz1, hz2⟩ := info_parts Try.info3
  refine wpList_append_own_at w hgd s x 28 ho base 3 i0 (.int .i64 0) 1 8 Try.underlying28 hi hz0 hz1 hz2 rfl (by decide) v xs.length (xs.map iv) hs hown ⟨g, 0, none⟩ 1 1 ([m].map iv) hx (by simp) ?_ (iv_one [m]) (by simp [maxLen]; omega) (by omega) hbase ?_
  · intro j u hu
    cases j with
    | zero => simp at hu; subst hu; exact hrow
    | succ j => simp at hu
  · intro v' w' hown' hgrow _ _
    have e : xs.length + 1 = (xs ++ [m]).length := by simp
    rw [e, ← List.map_append] at hown'
    obtain ⟨ga, gc, rfl⟩ := own_slice hown'
    exact h ga gc (xs ++ [m]) w' rfl hown' ((Below.refl _ _).grown hgrow hbase (fun k hk => own_block hown hk))
theorem new_cell (w : World) (x : Value) (e : TypeId) : (w.alloc (.cells #[x] e)).cell? ⟨w.heap.size, 0, none⟩ = some x := by
  have h := heap_alloc_new w (.cells #[x] e)
  unfold World.cell?; rw [show (⟨w.heap.size, 0, none⟩ : Addr).block = w.heap.size from rfl, h]; rfl
theorem range_snoc (k : Nat) : List.range k ++ [k] = List.range (k + 1) := List.range_succ.symm
set_option maxHeartbeats 800000 in
set_option maxRecDepth 100000 in
theorem rising_any (b : Int) (hb : b ≤ 4096) (w : World) :
    Calls Try.prog 21 #[.int .i64 b] w fun e w' => ∃ ga gc, e = .returned (.slice ga b.toNat gc) ∧ w'.ownsRow w.heap.size 3 1 (.slice ga b.toNat gc) b.toNat ((List.range b.toNat).map iv) ∧ Below w.heap.size w w' := by
  obtain ⟨n, hn⟩ : ∃ n, n = b.toNat := ⟨_, rfl⟩
  rw [← hn]
  have hn1 : n ≤ 4096 := by omega
  have HN := hid hn
  clear hn
  go_enter Try.func21, Try.ntmps21
  go_wp2_with fail
  go_loopw [3, 4, 6] (fun v _ i wr => ∃ (k : Nat) (ga : Option Addr) (gc : Nat) (y : List Nat), k ≤ n ∧ i = .int .i64 k ∧ v = .slice ga y.length gc ∧ y = List.range k ∧ wr.ownsRow w.heap.size 3 1 (.slice ga y.length gc) y.length (y.map iv) ∧ Below w.heap.size w wr) (fun _ _ i _ => n - (intOf i).toNat)
  case atStart => exact ⟨0, none, 0, [], Nat.zero_le _, rfl, rfl, rfl, World.ownsRow_nil _ _ _ _, Below.refl _ _⟩
  case round =>
    obtain ⟨k, ga, gc, y, hk, rfl, rfl, hy, hown, hbl⟩ := hrel
    have HY := hid hy
    have HO := hid hown
    have HB := hid hbl
    have hyl : Hid (y.length = k) := by show y.length = k; rw [hy]; simp
    clear hy hown hbl
    by_cases hlt : k < n
    · have hkb : (k : Int) < b := by have := HN.out; omega
      go_wp2_with (at_builtin; refine wpList_int _ rfl (.tmp 9) (.tmp 11) rfl w.heap.size _ y rfl ?_ wr.heap.size k rfl ?_ ?_ ?_ ?_; exact HO.out.alloc _; exact new_cell _ _ _; rw [hyl.out]; omega; exact (HB.out.alloc HB.out.size _).size; intro g1 c1 y1 w2 h2 o2 b2)
      go_roundw
      case rel => exact ⟨k + 1, g1, c1, y1, by omega, by go_num, rfl, by rw [h2.out, HY.out, range_snoc], o2.out, (HB.out.alloc HB.out.size _).trans b2.out⟩
      case measure => simp [intOf]; omega
    · have hkb : ¬ (k : Int) < b := by have := HN.out; omega
      have e : Hid (k = n) := by show k = n; omega
      have F : Hid (wr.ownsRow w.heap.size 3 1 (.slice ga n gc) n ((List.range n).map iv)) := by
        have h1 := HO.out
        rw [hyl.out, HY.out, e.out] at h1
        exact h1
      have L : Hid (y.length = n) := by show y.length = n; rw [hyl.out, e.out]
      go_wp2_with fail
      go_ret
      exact ⟨ga, gc, by rw [L.out]; rfl, F.out, HB.out⟩
end Go.Proofs.Ytbealadcnpheiaa
