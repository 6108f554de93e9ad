/- Goods: All; asMany, Put. -/
import Derived.Test.YtbfjijiakkopeaaDoorGsGb
import Derived.Test.YtbfjijiakkopeaaDoorScSg
import Derived.Lib.SliceRun
namespace Go.Proofs.YtbfjijiakkopeaaDoor.Gs
open Go.RowKit Go.Shelf Go.Maps
open Go.Proofs.YtbfjijiakkopeaaDoor.Sc (One NoText flat dig wpList_errsG own_more itoa_any)
theorem infoInt : (Tryd.prog.info? 3).map (fun i => (i.zero, i.size, i.bytes)) = some (some (.int .i64 0), 1, 8) := by kernel_rfl
/-- append of a row of numbers onto an owned one. -/
theorem wpList_ints (w : World) {ops : Array Oper} {rest : List Oper} {o : Oper} {a : Act} {Q : Exit → Act → World → Prop} (hgd : o.guard = none) (s x : Operand)
    (ho : o.op = .call { callee := .builtin .append, args := #[s, x], argTypes := #[39, 39] })
    (base : Nat) (v : Value) (xs : List Int) (hs : a.eval s = v) (hown : w.ownsRow base 3 1 v xs.length (xs.map gz))
    (g c : Nat) (l : List Int) (hx : a.eval x = .slice (some ⟨g, 0, none⟩) l.length c) (hrow : ∀ (j : Nat) u, l[j]? = some u → w.cell? ⟨g, j, none⟩ = some (.int .i64 u)) (hlen : xs.length + l.length ≤ 5000) (hbase : base ≤ w.heap.size)
    (h : ∀ v' w', Hid (w'.ownsRow base 3 1 v' (xs ++ l).length ((xs ++ l).map gz)) → Hid (w.grownBy w' v.ownBlock) → Hid (Below base w w') → wpList Tryd.prog ops Q rest (a.put o.dst v') w') :
    wpList Tryd.prog ops Q (o :: rest) a w := by
  obtain ⟨i0, hi, hz0, hz1, hz2⟩ := info_parts infoInt
  refine wpList_append_own_at w hgd s x 39 ho base 3 i0 (.int .i64 0) 1 8 Tryd.underlying39 hi hz0 hz1 hz2 rfl (by decide) v xs.length (xs.map gz) hs hown ⟨g, 0, none⟩ l.length c (l.map gz) hx (by simp) (fun j u hu => by
    rw [add_at]
    rw [List.getElem?_map, Option.map_eq_some_iff] at hu
    obtain ⟨z, hz, rfl⟩ := hu
    exact hrow j z hz) (by intro u hu; obtain ⟨z, -, rfl⟩ := List.mem_map.1 hu; rfl) (by simp [maxLen]; omega) (by omega) hbase ?_
  intro v' w' hown' hgrow _ _
  have e : xs.length + l.length = (xs ++ l).length := by simp
  rw [e, ← List.map_append] at hown'
  exact h v' w' hown' hgrow ((Below.refl _ _).grown hgrow hbase (fun k hk => own_block hown hk))
set_option maxHeartbeats 1600000 in
set_option maxRecDepth 100000 in
theorem clone_any {B : Nat} {W : World} {v : Value} {l : List Int} (h : W.ownsRow B 3 1 v l.length (l.map gz)) (hl : l.length ≤ 1000) :
    Calls Tryd.prog 38 #[v] W fun e W' => ∃ v', e = .returned v' ∧ W'.ownsRow W.heap.size 3 1 v' l.length (l.map gz) ∧ Below W.heap.size W W' := by
  have qn := fun (w : World) (a : Option Addr) (n c : Nat) => Go.Lib.run_eql_slice_nil (P := Tryd.prog) w 39 3 a n c 0 0 Tryd.underlying39
  rcases h.2 with ⟨rfl, h0⟩ | ⟨g, cap, cur, rfl, h2, h3, h4, h5, h6, h7⟩
  · obtain rfl := List.length_eq_zero_iff.1 h0
    clear h h0 hl
    go_enter Tryd.func38, Tryd.ntmps38
    go_wp2_with fail
    go_ret
    exact ⟨_, rfl, World.ownsRow_nil _ _ _ _, Below.refl _ _⟩
  · have R : Hid (∀ (j : Nat) u, l[j]? = some u → (W.alloc (.cells #[] 3)).cell? ⟨g, j, none⟩ = some (.int .i64 u)) := fun j u hu => by
      refine seen (bAl W _) (Nat.le_refl _) ?_
      rw [h.cellAt j (by have := (List.getElem?_eq_some_iff.1 hu).1; omega), List.getElem?_map, hu]
      rfl
    have O : Hid ((W.alloc (.cells #[] 3)).ownsRow W.heap.size 3 1 (.slice (some ⟨W.heap.size, 0, none⟩) 0 0) ([] : List Int).length (([] : List Int).map gz)) := World.ownsRow_lit W #[] 0 (Nat.le_refl _) (by unfold maxLen; omega) rfl
    have hz : W.heap.size ≤ (W.alloc (.cells #[] 3)).heap.size := by simp
    have BB := hid (bAl W (.cells #[] 3))
    have hll : ([] : List Int).length + l.length ≤ 5000 := by simp; omega
    have HL := hid hll
    clear h h2 h3 h4 h5 h6 h7 hl hll
    go_enter Tryd.func38, Tryd.ntmps38
    go_wp2_with (at_builtin; refine wpList_ints _ rfl (.tmp 5) (.tmp 6) rfl W.heap.size _ [] rfl O.out g cap l rfl R.out HL.out hz ?_; intro v1 w1 ow hg bw)
    obtain ⟨a1, c1, rfl⟩ := own_slice ow.out
    go_ret
    exact ⟨_, rfl, ow.out, BB.out.trans bw.out⟩
section
variable {Ad : Nat → Addr} {B : Nat} {W : World} {gb mb : Nat} {v : Value} {ns : List ByteArray} {l : List Int} {n : Nat}
set_option maxHeartbeats 1600000 in
set_option maxRecDepth 100000 in
theorem all_any (h : Gd B W gb mb v ns l n) :
    Calls Tryd.prog 24 #[.pointer (some ⟨gb, 0, none⟩)] W fun e W' => ∃ v', e = .returned v' ∧ W'.ownsRow W.heap.size 3 1 v' l.length (l.map gz) ∧ Below W.heap.size W W' := by
  have C := hid (clone_any h.row (by have := h.few; omega))
  have c1 := h.c1
  obtain ⟨a, c, rfl⟩ := h.slice
  clear h
  go_enter Tryd.func24, Tryd.ntmps24
  go_wp2_with fail
  refine C.out.mono ?_
  rintro e w1 ⟨v1, rfl, ho, hb⟩
  obtain ⟨a1, c1, rfl⟩ := own_slice ho
  have HO := hid ho
  have HB := hid hb
  clear ho hb C
  go_wp2_with fail
  go_ret
  exact ⟨_, rfl, HO.out, HB.out⟩
set_option maxHeartbeats 1600000 in
set_option maxRecDepth 100000 in
theorem all_nil (W : World) : Calls Tryd.prog 24 #[.pointer none] W fun e W' => e = .returned (.slice none 0 0) ∧ W' = W := by
  go_enter Tryd.func24, Tryd.ntmps24
  go_wp2_with fail
  go_ret
  exact ⟨rfl, rfl⟩
end
end Go.Proofs.YtbfjijiakkopeaaDoor.Gs
