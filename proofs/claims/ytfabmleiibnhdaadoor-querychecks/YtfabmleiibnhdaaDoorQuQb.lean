/- A map of the greatest frames in memory; has, lacks. -/
import Derived.Test.YtfabmleiibnhdaaDoorQuQa
import Derived.Maps.OwnSet
namespace Go.Proofs.YtfabmleiibnhdaaDoor.Qu
open Go.RowKit Go.Shelf Go.Maps
open Go.Proofs.YtfabmleiibnhdaaDoor.Rs (Prt PRow Six)
open Go.Proofs.YtfabmleiibnhdaaDoor.At (St bAl cell_blk blk_seen blk_free)
theorem keyedI : Keyed Tryd.prog 3 := int_keyed Tryd.underlying3
theorem zeroI (w : World) : (zeroValue 3).run Tryd.prog w = .ok (.int .i64 0) w := by kernel_rfl
def J64 (i : Int) : Prop := (Lit.int .i64 i).wf = true
theorem J64_mid {n : Int} (h0 : -1000000 ≤ n) (h1 : n ≤ 2147483648) : J64 n := by
  unfold J64 Lit.wf
  simp [IntKind.min, IntKind.max, IntKind.signed, IntKind.bits]
  omega
theorem keyI (i : Int) (h : J64 i) : keyOf Tryd.prog 3 (.int .i64 i) = some (.int .i64 i) := keyOf_int_mk Tryd.underlying3 h
theorem isKeyI (i : Int) : WideAt.IsKeyLit (.int .i64 i) := trivial
theorem key_ne {i j : Int} (h : i ≠ j) : (Lit.int .i64 i) ≠ .int .i64 j := fun e => h (by simpa using e)
/-- What a map of ints says. -/
def Hd (D : DataW Unit) (f : Int → Option Int) : Prop := ∀ i, J64 i → Maps.has D (.int .i64 i) = (f i).isSome ∧ D.atKey (.int .i64 i) (.lit (.int .i64 0)) = .lit (.int .i64 ((f i).getD 0))
/-- A map of ints in memory, with at most so many. -/
def Tm (W : World) (mb : Nat) (z : Nat) (f : Int → Option Int) : Prop := ∃ D, W.ownsMap Tryd.prog 3 (plainElem Tryd.prog 3) mb (Maps.size D) D ∧ Hd D f ∧ Maps.size D ≤ z
theorem undT : Tryd.prog.underlying 69 = some (.map 3 3) := Tryd.underlying69
theorem own_sizeI {W : World} {mb n : Nat} {D : DataW Unit} (h : W.ownsMap Tryd.prog 3 (plainElem Tryd.prog 3) mb n D) : W.ownsMap Tryd.prog 3 (plainElem Tryd.prog 3) mb (Maps.size D) D := by
  obtain ⟨es, clock, hb, F, _, rfl⟩ := h
  exact ⟨es, clock, hb, F, by simp [Maps.size, length_sorted], rfl⟩
section
variable {W W' : World} {mb z : Nat} {f : Int → Option Int}
theorem Tm.lt (h : Tm W mb z f) : mb < W.heap.size := by obtain ⟨D, h1, -⟩ := h; exact h1.lt
theorem Tm.kept {T : Nat → Prop} (h : Tm W mb z f) (hs : St T W W') (hn : ¬ T mb) : Tm W' mb z f := by
  obtain ⟨D, ⟨es, clock, hb, q⟩, hH⟩ := h
  exact ⟨D, ⟨es, clock, hs.at hb hn, q⟩, hH⟩
theorem Tm.later (h : Tm W mb z f) (hb : Below W.heap.size W W') : Tm W' mb z f := h.kept (T := fun _ => False) (St.of_below hb) fun q => q
theorem tm_made (W : World) : Tm (W.alloc (.map #[] 0)) W.heap.size 0 (fun _ => none) :=
  ⟨.map [], World.ownsMap_made W Tryd.prog 3 (plainElem Tryd.prog 3), fun _ _ => ⟨rfl, rfl⟩, Nat.le_refl _⟩
theorem Tm.look2 (h : Tm W mb z f) (i : Int) (hi : J64 i) : (Instr.lookup 69 (.map (some mb)) (.int .i64 i) true).run Tryd.prog W = .ok (.tuple #[.int .i64 ((f i).getD 0), .bool (f i).isSome]) W := by
  obtain ⟨D, h1, hH, -⟩ := h
  obtain ⟨v, ps, hr, hv⟩ := h1.look_ok keyedI undT (zeroI W) (plainElem_int Tryd.underlying3 (show (Lit.int .i64 0).wf = true by decide)) (keyI i hi)
  obtain ⟨a, rfl, e2, -⟩ := plainElem_int_inv Tryd.underlying3 hv
  rw [(hH i hi).2] at e2
  simp only [Prod.mk.injEq, DataW.lit.injEq, Lit.int.injEq, true_and] at e2
  rw [hr, (hH i hi).1, e2.1]
theorem Tm.look1 (h : Tm W mb z f) (i : Int) (hi : J64 i) : (Instr.lookup 69 (.map (some mb)) (.int .i64 i) false).run Tryd.prog W = .ok (.int .i64 ((f i).getD 0)) W := by
  obtain ⟨D, h1, hH, -⟩ := h
  obtain ⟨c, hr, e, -⟩ := h1.lookup_int keyedI undT Tryd.underlying3 (zeroI W) (keyI i hi)
  rw [(hH i hi).2] at e
  simp only [DataW.lit.injEq, Lit.int.injEq, true_and] at e
  rw [hr, e]
theorem Tm.store (h : Tm W mb z f) (hz : z ≤ 100000) (i x : Int) (hi : J64 i) (hx : J64 x) :
    ∃ w', (Instr.mapUpdate 69 (.map (some mb)) (.int .i64 i) (.int .i64 x)).run Tryd.prog W = .ok () w' ∧ Tm w' mb (z + 1) (fun j => if j = i then some x else f j) ∧ St (fun k => k = mb) W w' := by
  obtain ⟨D, h1, hH, hs⟩ := h
  obtain ⟨w', hr, h2, h3⟩ := h1.store keyedI undT (by unfold maxLen; omega) (keyI i hi) (plainElem_int Tryd.underlying3 hx)
  have hD := h1.tidy keyedI
  refine ⟨w', hr, ⟨_, own_sizeI h2, fun j hj => ?_, ?_⟩, St.of_grown h3.grown fun k e => by simpa using e.symm⟩
  · show Maps.has _ _ = (if j = i then some x else f j).isSome ∧ _ = DataW.lit (Lit.int .i64 ((if j = i then some x else f j).getD 0))
    by_cases q : j = i
    · subst q
      rw [if_pos rfl]
      exact ⟨Maps.has_put_same hD.isMap (isKeyI _) _, Maps.atKey_put_same hD.isMap (isKeyI _) _ _⟩
    · rw [if_neg q, Maps.has_put_other (key_ne q), Maps.atKey_put_other (key_ne q)]
      exact hH j hj
  · rw [Maps.size_put hD]
    split <;> omega
end
set_option maxHeartbeats 800000 in
theorem thas_any {W : World} {mb z : Nat} {f : Int → Option Int} (h : Tm W mb z f) (i : Int) (hi : J64 i) :
    Calls Tryd.prog 22 #[.map (some mb), .int .i64 i] W fun e W' => e = .returned (.bool (f i).isSome) ∧ W' = W := by
  have lk := h.look2 i hi
  clear h hi
  go_enter Tryd.func22, Tryd.ntmps22
  go_wp2_with fail
  go_ret
  exact ⟨rfl, rfl⟩
set_option maxHeartbeats 800000 in
theorem lacks_any {W : World} {mb z : Nat} {f : Int → Option Int} (h : Tm W mb z f) (i : Int) (hi : J64 i) :
    Calls Tryd.prog 24 #[.map (some mb), .int .i64 i] W fun e W' => e = .returned (.bool (f i).isNone) ∧ W' = W := by
  have C := hid (thas_any h i hi)
  clear h hi
  go_enter Tryd.func24, Tryd.ntmps24
  go_wp2_with fail
  refine C.out.mono ?_
  rintro e w1 ⟨rfl, hw⟩
  obtain rfl := hw.symm
  go_wp2_with fail
  go_ret
  exact ⟨rfl, rfl⟩
end Go.Proofs.YtfabmleiibnhdaaDoor.Qu
