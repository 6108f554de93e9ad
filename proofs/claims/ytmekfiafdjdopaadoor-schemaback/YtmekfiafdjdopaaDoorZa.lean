/- The numbers of a set, as a list. -/
import Derived.Test.YtmekfiafdjdopaaDoorXb
import Derived.Test.YtmekfiafdjdopaaDoorSf
import Derived.Laws.OwnMore
namespace Go.Proofs.YtmekfiafdjdopaaDoor
open Go.RowKit Go.Shelf
def iv (n : Int) : Value := .int .i64 n
theorem Tryd.infoInt : (Tryd.prog.info? 3).map (fun i => (i.zero, i.size, i.bytes)) = some (some (.int .i64 0), 1, 8) := by kernel_rfl
theorem Tryd.underInts : Tryd.prog.underlying 60 = some (.slice 3) := by kernel_rfl
theorem wpList_ints (w : World) {ops : Array Oper} {rest : List Oper} {o : Oper} {a : Act} {Q : Exit → Act → World → Prop} (hgd : o.guard = none) (s x : Operand)
    (ho : o.op = .call { callee := .builtin .append, args := #[s, x], argTypes := #[60, 60] })
    (base : Nat) (v : Value) (xs : List Int) (hs : a.eval s = v) (hown : w.ownsRow base 3 1 v xs.length (xs.map iv))
    (g c : Nat) (l : List Int) (hx : a.eval x = .slice (some ⟨g, 0, none⟩) l.length c) (hrow : ∀ (j : Nat) u, (l.map iv)[j]? = some u → w.cell? ⟨g, j, none⟩ = some u) (hlen : xs.length + l.length ≤ 5000) (hbase : base ≤ w.heap.size)
    (h : ∀ ga gc (y : List Int) w', Hid (y = xs ++ l) → Hid (w'.ownsRow base 3 1 (.slice ga y.length gc) y.length (y.map iv)) → Hid (Below base w w') → wpList Tryd.prog ops Q rest (a.put o.dst (.slice ga y.length gc)) w') :
    wpList Tryd.prog ops Q (o :: rest) a w := by
  obtain ⟨i0, hi, hz0, hz1, hz2⟩ := info_parts Tryd.infoInt
  have h1 : ∀ u ∈ l.map iv, u.oneCell' = true := by
    intro u hu
    obtain ⟨n, _, rfl⟩ := List.mem_map.1 hu
    rfl
  refine wpList_append_own_at w hgd s x 60 ho base 3 i0 (.int .i64 0) 1 8 Tryd.underInts hi hz0 hz1 hz2 rfl (by decide) v xs.length (xs.map iv) hs hown ⟨g, 0, none⟩ l.length c (l.map iv) hx (by simp) (fun j u hu => by rw [add_at]; exact hrow j u hu) h1 (by simp [maxLen]; omega) (by omega) hbase ?_
  intro v' w' hown' hgrow _ _
  have e : xs.length + l.length = (xs ++ l).length := by simp
  rw [e, ← List.map_append] at hown'
  obtain ⟨ga, gc, rfl⟩ := own_slice hown'
  exact h ga gc (xs ++ l) w' rfl hown' ((Below.refl _ _).grown hgrow hbase (fun k hk => own_block hown hk))
theorem own_row {w : World} {B : Nat} {ga : Option Addr} {gc : Nat} {y : List Int} (h : w.ownsRow B 3 1 (.slice ga y.length gc) y.length (y.map iv)) : IntRow w (.slice ga y.length gc) y := by
  refine ⟨ga, gc, rfl, ?_⟩
  by_cases h0 : y = []
  · exact .inl h0
  · right
    obtain ⟨g, rfl, _, _⟩ := own_some h (List.length_pos_iff.2 h0)
    refine ⟨g, 0, rfl, fun j x hx => ?_⟩
    have := h.cellAt j (by have := (List.getElem?_eq_some_iff.1 hx).1; omega)
    rw [Nat.zero_add, this, List.getElem?_map, hx]; rfl
/-- The numbers below k that are in a set. -/
def lst : Nat → Nat → List Int
  | 0, _ => []
  | k + 1, m => if m / 2 ^ k % 2 = 1 then lst k m ++ [(k : Int)] else lst k m
theorem lst_len (m : Nat) : ∀ k, (lst k m).length = ones k m
  | 0 => by simp [lst, ones, Lib.popAux]
  | k + 1 => by
    have ih := lst_len m k
    rw [ones_step, lst]
    split <;> simp [ih] <;> omega
set_option maxHeartbeats 800000 in
set_option maxRecDepth 100000 in
theorem list_any (m : Nat) (h : m < 4294967296) (w : World) :
    Calls Tryd.prog 32 #[.int .u32 (m : Int)] w fun e w' => ∃ ga gc, e = .returned (.slice ga (lst 32 m).length gc) ∧ IntRow w' (.slice ga (lst 32 m).length gc) (lst 32 m) ∧ Below w.heap.size w w' := by
  have RH := hid (fun n w => has_any5 (m : Int) n w)
  have HI := hid (has_in m h)
  clear h
  go_enter Tryd.func32, Tryd.ntmps32
  go_wp2_with fail
  go_loopw [3, 5] (fun v i wr => ∃ (k : Nat) (ga : Option Addr) (gc : Nat) (y : List Int), k ≤ 32 ∧ i = .int .i64 k ∧ v = .slice ga y.length gc ∧ y = lst k m ∧ wr.ownsRow w.heap.size 3 1 (.slice ga y.length gc) y.length (y.map iv) ∧ Below w.heap.size w wr) (fun _ i _ => 32 - (intOf i).toNat)
  case atStart => exact ⟨0, none, 0, [], Nat.zero_le _, rfl, rfl, rfl, World.ownsRow_nil _ _ _ _, Below.refl _ _⟩
  case round =>
    obtain ⟨k, ga, gc, y, hk, rfl, rfl, hy, hown, hbl⟩ := hrel
    have HY := hid hy
    have HO := hid hown
    have HB := hid hbl
    have hyl : Hid (y.length ≤ 32) := by show y.length ≤ 32; rw [hy, lst_len]; exact Nat.le_trans (ones_le k m) hk
    clear hy hown hbl
    by_cases hlt : k < 32
    · have hki : (k : Int) < 32 := by omega
      have IB := hid (inB_in m k hlt)
      go_wp2_with fail
      refine (RH.out _ _).mono ?_
      rintro e w1 ⟨rfl, rfl⟩
      rw [HI.out, IB.out]
      by_cases hc : m / 2 ^ k % 2 = 1
      · have R : Hid (lst (k + 1) m = y ++ [(k : Int)]) := by show _ = _; rw [lst, if_pos hc, HY.out]
        have hd : decide (m / 2 ^ k % 2 = 1) = true := decide_eq_true hc
        rw [hd]
        clear hd hc IB
        go_wp2_with (at_builtin; refine wpList_ints _ rfl (.tmp 11) (.tmp 13) rfl w.heap.size _ y rfl ?_ w1.heap.size 1 [(k : Int)] rfl ?_ ?_ ?_ ?_; exact HO.out.alloc _; exact fun j u hu => row_cell _ _ _ j u hu; have := hyl.out; simp; omega; exact (HB.out.alloc HB.out.size _).size; intro g1 c1 y1 w2 h2 o2 b2)
        go_roundw
        case rel => exact ⟨k + 1, g1, c1, y1, by omega, by go_num, rfl, by rw [h2.out, R.out], o2.out, (HB.out.alloc HB.out.size _).trans b2.out⟩
        case measure => simp [intOf]; omega
      · have R : Hid (lst (k + 1) m = y) := by show _ = _; rw [lst, if_neg hc, HY.out]
        have hd : decide (m / 2 ^ k % 2 = 1) = false := decide_eq_false hc
        rw [hd]
        clear hd hc IB
        go_wp2_with fail
        go_roundw
        case rel => exact ⟨k + 1, ga, gc, y, by omega, by go_num, rfl, R.out.symm, HO.out, HB.out⟩
        case measure => simp [intOf]; omega
    · have hki : ¬ ((k : Int) < 32) := by omega
      have R : Hid (y = lst 32 m) := by show _ = _; rw [HY.out, show k = 32 by omega]
      go_wp2_with fail
      go_ret
      refine ⟨ga, gc, ?_, ?_, HB.out⟩
      · rw [← R.out]; rfl
      · rw [← R.out]; exact own_row HO.out
end Go.Proofs.YtmekfiafdjdopaaDoor
