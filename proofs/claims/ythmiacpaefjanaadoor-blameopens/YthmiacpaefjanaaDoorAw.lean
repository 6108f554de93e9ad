/- awake. -/
import Derived.Test.YthmiacpaefjanaaDoorKq
import Derived.Deep.RegionHeld3
namespace Go.Proofs.YthmiacpaefjanaaDoor
open Go.RowKit Go.Shelf
def bA : ByteArray := ⟨#[97]⟩
def bB : ByteArray := ⟨#[98]⟩
def bC : ByteArray := ⟨#[99]⟩
theorem joinA : joinB [bA] = ⟨#[97]⟩ := by kernel_rfl
theorem joinBC : joinB [bB, bC] = ⟨#[98, 47, 99]⟩ := by kernel_rfl
theorem eqA (w : World) : (binOp .eql 47 (.agg #[.string ⟨#[97]⟩, .int .i64 18]) (.agg #[.string ⟨#[97]⟩, .int .i64 18])).run Tryd.prog w = .ok (.bool true) w := by kernel_rfl
theorem eqBC (w : World) : (binOp .eql 47 (.agg #[.string ⟨#[98, 47, 99]⟩, .int .i64 10]) (.agg #[.string ⟨#[98, 47, 99]⟩, .int .i64 10])).run Tryd.prog w = .ok (.bool true) w := by kernel_rfl
theorem num10 : numOf ([([bA], 18), ([bB, bC], 10)].map Prod.snd) = 10 := by decide
/-- What awake puts together. -/
theorem awake_tops (w : World) (Ad : Nat → Addr) (W : World) (hW : W = ((((w.alloc (.cells #[.string ⟨#[97]⟩, .iface 80 (.pointer (some (Ad 18)))] 54)).alloc (.cells #[.string ⟨#[99]⟩, .iface 80 (.pointer (some (Ad 10)))] 54)).alloc (.cells #[.string ⟨#[98]⟩, .iface 50 (.pointer (some ⟨w.heap.size + 1, 0, none⟩))] 54)).alloc (.cells #[.iface 50 (.pointer (some ⟨w.heap.size, 0, none⟩)), .nilIface, .iface 50 (.pointer (some ⟨w.heap.size + 1 + 1, 0, none⟩))] 26))) :
    Errs W.heap.size W (.slice (some ⟨w.heap.size + 1 + 1 + 1, 0, none⟩) 3 3) ([(Value.iface 50 (.pointer (some ⟨w.heap.size, 0, none⟩)), [([bA], 18)]), (.nilIface, []), (.iface 50 (.pointer (some ⟨w.heap.size + 1 + 1, 0, none⟩)), [([bB, bC], 10)])].map Prod.fst) ∧
    (∀ u ∈ [(Value.iface 50 (.pointer (some ⟨w.heap.size, 0, none⟩)), [([bA], 18)]), (.nilIface, []), (.iface 50 (.pointer (some ⟨w.heap.size + 1 + 1, 0, none⟩)), [([bB, bC], 10)])], Top Ad W.heap.size W 12 u.1 u.2) ∧ Below w.heap.size w W := by
  have hsz : W.heap.size = w.heap.size + 1 + 1 + 1 + 1 := by rw [hW]; simp
  have h3 : W.heap[w.heap.size + 1 + 1 + 1]? = some (.cells #[.iface 50 (.pointer (some ⟨w.heap.size, 0, none⟩)), .nilIface, .iface 50 (.pointer (some ⟨w.heap.size + 1 + 1, 0, none⟩))] 26 (0, 0)) := by
    rw [hW]
    have := heap_alloc_new (((w.alloc (.cells #[.string ⟨#[97]⟩, .iface 80 (.pointer (some (Ad 18)))] 54)).alloc (.cells #[.string ⟨#[99]⟩, .iface 80 (.pointer (some (Ad 10)))] 54)).alloc (.cells #[.string ⟨#[98]⟩, .iface 50 (.pointer (some ⟨w.heap.size + 1, 0, none⟩))] 54)) (.cells #[.iface 50 (.pointer (some ⟨w.heap.size, 0, none⟩)), .nilIface, .iface 50 (.pointer (some ⟨w.heap.size + 1 + 1, 0, none⟩))] 26)
    simpa using this
  have h2 : W.heap[w.heap.size + 1 + 1]? = some (.cells #[.string ⟨#[98]⟩, .iface 50 (.pointer (some ⟨w.heap.size + 1, 0, none⟩))] 54 (0, 0)) := by
    rw [hW, Below.heap_alloc _ _ _ (by simp)]
    have := heap_alloc_new ((w.alloc (.cells #[.string ⟨#[97]⟩, .iface 80 (.pointer (some (Ad 18)))] 54)).alloc (.cells #[.string ⟨#[99]⟩, .iface 80 (.pointer (some (Ad 10)))] 54)) (.cells #[.string ⟨#[98]⟩, .iface 50 (.pointer (some ⟨w.heap.size + 1, 0, none⟩))] 54)
    simpa using this
  have h1 : W.heap[w.heap.size + 1]? = some (.cells #[.string ⟨#[99]⟩, .iface 80 (.pointer (some (Ad 10)))] 54 (0, 0)) := by
    rw [hW, Below.heap_alloc _ _ _ (by simp), Below.heap_alloc _ _ _ (by simp)]
    have := heap_alloc_new (w.alloc (.cells #[.string ⟨#[97]⟩, .iface 80 (.pointer (some (Ad 18)))] 54)) (.cells #[.string ⟨#[99]⟩, .iface 80 (.pointer (some (Ad 10)))] 54)
    simpa using this
  have h0 : W.heap[w.heap.size]? = some (.cells #[.string ⟨#[97]⟩, .iface 80 (.pointer (some (Ad 18)))] 54 (0, 0)) := by
    rw [hW, Below.heap_alloc _ _ _ (by simp; omega), Below.heap_alloc _ _ _ (by simp; omega), Below.heap_alloc _ _ _ (by simp)]
    exact heap_alloc_new w _
  refine ⟨⟨_, 3, rfl, .inr ⟨_, by omega, rfl, fun j x hx => ?_⟩⟩, ?_, ?_⟩
  · rw [cell_of_row _ _ j _ _ (0, 0) h3]
    have hj := (List.getElem?_eq_some_iff.1 hx).1
    simp at hj
    obtain rfl | rfl | rfl : j = 0 ∨ j = 1 ∨ j = 2 := by omega
    all_goals simpa using hx
  · intro u hu
    simp at hu
    rcases hu with rfl | rfl | rfl
    · exact .one _ _ ⟨⟨w.heap.size, _, rfl, by omega, cell_of_row _ _ 0 _ _ (0, 0) h0, cell_of_row _ _ 1 _ _ (0, 0) h0, rfl⟩, by decide, by decide, by simp⟩
    · exact .empty
    · exact .one _ _ ⟨⟨w.heap.size + 1 + 1, _, rfl, by omega, cell_of_row _ _ 0 _ _ (0, 0) h2, cell_of_row _ _ 1 _ _ (0, 0) h2, w.heap.size + 1, _, rfl, by omega, cell_of_row _ _ 0 _ _ (0, 0) h1, cell_of_row _ _ 1 _ _ (0, 0) h1, rfl⟩, by decide, by decide, by simp⟩
  · rw [hW]
    exact ((((Below.refl _ _).alloc (Nat.le_refl _) _).alloc (by simp) _).alloc (by simp; omega) _).alloc (by simp; omega) _
theorem Top.some {Ad : Nat → Addr} {n₀ d : Nat} {W : World} {v : Value} {ls : List (List ByteArray × Nat)} (h : Top Ad n₀ W d v ls) (hl : ls ≠ []) : ∃ t q, v = .iface t q := by
  cases h with
  | empty => exact absurd rfl hl
  | one v p h => obtain ⟨t, q, e, _⟩ := h.1.shape; exact ⟨t, q, e⟩
  | many b vs h => exact ⟨_, _, rfl⟩
theorem Top.nil {Ad : Nat → Addr} {n₀ d : Nat} {W : World} {v : Value} (h : Top Ad n₀ W d v []) : v = .nilIface := by
  generalize hl : ([] : List (List ByteArray × Nat)) = ls at h
  cases h with
  | empty => rfl
  | one v p h => cases hl
  | many b vs h =>
    have := h.two
    have h2 := congrArg List.length hl
    simp at h2
    omega
theorem nil_errs (w : World) : Errs (w.alloc (.cells #[.nilIface, .nilIface] 26)).heap.size (w.alloc (.cells #[.nilIface, .nilIface] 26)) (.slice (some ⟨w.heap.size, 0, none⟩) 2 2) ([(Value.nilIface, ([] : List (List ByteArray × Nat))), (.nilIface, [])].map Prod.fst) := by
  obtain ⟨c0, c1⟩ := cell_new2 w .nilIface .nilIface 26
  refine ⟨_, 2, rfl, .inr ⟨_, by simp, rfl, fun j x hx => ?_⟩⟩
  have hj := (List.getElem?_eq_some_iff.1 hx).1
  simp at hj
  obtain rfl | rfl : j = 0 ∨ j = 1 := by omega
  · simp at hx; subst hx; exact c0
  · simp at hx; subst hx; exact c1
theorem all_nil (w : World) : Calls Tryd.prog 19 #[.slice (some ⟨w.heap.size, 0, none⟩) 2 2] (w.alloc (.cells #[.nilIface, .nilIface] 26)) fun e w' => e = .returned .nilIface ∧ Below w.heap.size w w' := by
  refine (all_top (fun _ => ⟨0, 0, none⟩) 0 _ _ _ (nil_errs w) (fun u hu => ?_) (by simp) (by simp)).mono ?_
  · simp at hu
    subst hu
    exact .empty
  · rintro e w' ⟨v, rfl, ht, hb⟩
    obtain rfl := Top.nil ht
    exact ⟨rfl, ((Below.refl _ _).alloc (Nat.le_refl _) _).trans (hb.mono (by simp))⟩
set_option maxHeartbeats 3200000 in
set_option maxRecDepth 100000 in
theorem awake_any (w : World) (Ad : Nat → Addr) (hE : Env w Ad) :
    Calls Tryd.prog 8 #[] w fun e w' => e = .returned (.bool true) ∧ Below w.heap.size w w' := by
  have g18 : w.cell? ⟨17, 0, none⟩ = some (.iface 80 (.pointer (some (Ad 18)))) := hE.cell 18 (by decide) (by decide)
  have g10 : w.cell? ⟨9, 0, none⟩ = some (.iface 80 (.pointer (some (Ad 10)))) := hE.cell 10 (by decide) (by decide)
  have HE := hid hE
  obtain ⟨W, hW⟩ : ∃ W, W = ((((w.alloc (.cells #[.string ⟨#[97]⟩, .iface 80 (.pointer (some (Ad 18)))] 54)).alloc (.cells #[.string ⟨#[99]⟩, .iface 80 (.pointer (some (Ad 10)))] 54)).alloc (.cells #[.string ⟨#[98]⟩, .iface 50 (.pointer (some ⟨w.heap.size + 1, 0, none⟩))] 54)).alloc (.cells #[.iface 50 (.pointer (some ⟨w.heap.size, 0, none⟩)), .nilIface, .iface 50 (.pointer (some ⟨w.heap.size + 1 + 1, 0, none⟩))] 26)) := ⟨_, rfl⟩
  have KG := hid (fun W' (h : Below w.heap.size w W') => show W'.cell? ⟨17, 0, none⟩ = some (.iface 80 (.pointer (some (Ad 18)))) ∧ W'.cell? ⟨9, 0, none⟩ = some (.iface 80 (.pointer (some (Ad 10)))) from ⟨(h.cell (p := ⟨17, 0, none⟩) (World.block_lt_of_cell? w _ g18)).trans g18, (h.cell (p := ⟨9, 0, none⟩) (World.block_lt_of_cell? w _ g10)).trans g10⟩)
  have k1 := hid (fun o1 => KG.out (w.alloc o1).drew ((Below.refl _ _).alloc (Nat.le_refl _) _).drew)
  have k2 := hid (fun o1 o2 => KG.out ((w.alloc o1).alloc o2).drew (((Below.refl _ _).alloc (Nat.le_refl _) _).alloc (by simp) _).drew)
  have k3 := hid (fun o1 o2 o3 => KG.out (((w.alloc o1).alloc o2).alloc o3).drew ((((Below.refl _ _).alloc (Nat.le_refl _) _).alloc (by simp) _).alloc (by simp; omega) _).drew)
  have k4 := hid (fun o1 o2 o3 o4 => KG.out ((((w.alloc o1).alloc o2).alloc o3).alloc o4).drew (((((Below.refl _ _).alloc (Nat.le_refl _) _).alloc (by simp) _).alloc (by simp; omega) _).alloc (by simp; omega) _).drew)
  obtain ⟨a1, a2, a3⟩ := awake_tops w Ad W hW
  have AC := hid (all_top Ad 12 _ _ W.drew a1 (fun u hu => (a2 u hu).later (Below.refl _ _).drew) (by simp) (by simp))
  have BW := hid (show Below w.heap.size w W.drew from a3.drew)
  rw [hW] at AC BW
  clear hE hW a1 a2 a3
  go_enter Tryd.func8, Tryd.ntmps8
  go_wp2_with fail
  go_region_held3 (fun w' => w'.cell? ⟨17, 0, none⟩ = some (.iface 80 (.pointer (some (Ad 18)))) ∧ w'.cell? ⟨9, 0, none⟩ = some (.iface 80 (.pointer (some (Ad 10))))) (first | assumption | exact k3.out _ _ _ | exact (k3.out _ _ _).1 | exact (k3.out _ _ _).2 | exact k4.out _ _ _ _ | exact (k4.out _ _ _ _).1 | exact (k4.out _ _ _ _).2 | exact k2.out _ _ | exact (k2.out _ _).1 | exact (k2.out _ _).2 | exact k1.out _ | exact (k1.out _).1 | exact (k1.out _).2 | go_keep)
    (first
      | (go_at_call 17; refine (at_some _ _ _ _).mono ?_; rintro e w' ⟨rfl, rfl⟩)
      | (go_at_call 19; refine AC.out.mono ?_; rintro e w5 ⟨v5, rfl, ht5, hb5⟩; have T5 := hid ht5; have B5 := hid (BW.out.trans (hb5.mono BW.out.size)); have hS5 := KG.out w5 B5.out; clear ht5 hb5))
  clear k1 k2 k3 k4 AC BW hS5
  have T5' : Hid (Top Ad w5.heap.size w5 12 v5 [([bA], 18), ([bB, bC], 10)]) := T5.out
  clear T5
  obtain ⟨t, q, rfl⟩ := T5'.out.some (by simp)
  have E5 := hid (HE.out.later B5.out)
  have LC := hid (leaves_any Ad (.iface t q) _ 12 w5 E5.out T5'.out.tr (by omega) (by intro p hp; simp at hp; rcases hp with rfl | rfl; exact ⟨by rw [joinA]; decide, by simp⟩; exact ⟨by rw [joinBC]; decide, by simp⟩) (by simp))
  clear g18 g10
  go_wp2_with fail
  refine LC.out.mono ?_
  rintro e w6 ⟨lv, rfl, ho6, hb6⟩
  have B6 := hid (B5.out.trans (hb6.mono B5.out.size))
  have T6 := hid (T5'.out.later hb6)
  have O6 := hid ho6
  have E6 := hid (HE.out.later B6.out)
  obtain ⟨g, cap, rfl, hg1, hg2⟩ := World.ownsRow.form ho6 (by simp)
  clear ho6 hb6 LC T5' E5 B5
  have NC := hid (number_some Ad (.iface t q) _ 12 w6 E6.out T6.out.tr (by omega) ⟨_, _, rfl⟩)
  rw [num10] at NC
  go_wp2_with fail
  refine NC.out.mono ?_
  rintro e w7 ⟨rfl, hb7⟩
  have B7 := hid (B6.out.trans (hb7.mono B6.out.size))
  have T7 := hid (T6.out.later hb7)
  have E7 := hid (HE.out.later B7.out)
  have cc : Hid (∀ j, j < 4 → w7.cell? ⟨g, j, none⟩ = (leafCells [([bA], 18), ([bB, bC], 10)])[j]?) := fun j hj => (hb7.cell (p := ⟨g, j, none⟩) hg2).trans (O6.out.cellAt j (by simpa using hj))
  have d0 : w7.cell? ⟨g, 0, none⟩ = some (.string ⟨#[97]⟩) := by rw [cc.out 0 (by decide)]; simp [leafCells, joinA]
  have d1 : w7.cell? ⟨g, 1, none⟩ = some (.int .i64 18) := by rw [cc.out 1 (by decide)]; simp [leafCells]
  have d2 : w7.cell? ⟨g, 2, none⟩ = some (.string ⟨#[98, 47, 99]⟩) := by rw [cc.out 2 (by decide)]; simp [leafCells, joinBC]
  have d3 : w7.cell? ⟨g, 3, none⟩ = some (.int .i64 10) := by rw [cc.out 3 (by decide)]; simp [leafCells]
  have q1 := eqA
  have q2 := eqBC
  have g18 : w7.cell? ⟨17, 0, none⟩ = some (.iface 80 (.pointer (some (Ad 18)))) := E7.out.cell 18 (by decide) (by decide)
  have I18 := hid (is_top Ad 18 12 (.iface t q) _ w7 E7.out T7.out (by simp) (by decide))
  clear hb7 NC T6 E6 B6 cc O6
  go_wp2_with fail
  refine I18.out.mono ?_
  rintro e w8 ⟨he, hb8⟩
  obtain rfl : e = .returned (.bool true) := he
  have B8 := hid (B7.out.trans (hb8.mono B7.out.size))
  have T8 := hid (T7.out.later hb8)
  have E8 := hid (HE.out.later B8.out)
  have g1 : w8.cell? ⟨0, 0, none⟩ = some (.iface 80 (.pointer (some (Ad 1)))) := E8.out.cell 1 (by decide) (by decide)
  have I1 := hid (is_top Ad 1 12 (.iface t q) _ w8 E8.out T8.out (by simp) (by decide))
  clear hb8 I18 T7 E7 B7 g18 d0 d1 d2 d3
  go_wp2_with fail
  refine I1.out.mono ?_
  rintro e w9 ⟨he, hb9⟩
  obtain rfl : e = .returned (.bool false) := he
  have B9 := hid (B8.out.trans (hb9.mono B8.out.size))
  have AN := hid (all_nil w9)
  clear hb9 I1 T8 E8 B8 g1
  go_wp2_with fail
  refine AN.out.mono ?_
  rintro e w10 ⟨rfl, hb10⟩
  have B10 := hid (B9.out.trans (hb10.mono B9.out.size))
  clear hb10 AN B9
  go_wp2_with fail
  refine (at_nil _ _).mono ?_
  rintro e w' ⟨rfl, rfl⟩
  go_wp2_with fail
  go_ret
  exact ⟨rfl, B10.out⟩
end Go.Proofs.YthmiacpaefjanaaDoor
