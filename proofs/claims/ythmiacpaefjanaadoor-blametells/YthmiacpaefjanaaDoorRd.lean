/- The least number; rows of twigs have room for what they hold. -/
import Derived.Test.YthmiacpaefjanaaDoorRc
import Derived.Test.YthmiacpaefjanaaDoorTi
namespace Go.Proofs.YthmiacpaefjanaaDoor
open Go.ChangeShapes Go.WideShapes Go.ChangeAt Go.RowKit
theorem rows_caps {H : Type} {enc : TypeId × Value → H} {W : World} {v : Value} {d : DataW H} {ps : List MemPlace} {rs : List (Value × List Twg)} (h : DataW.Trod enc Tryd.prog W 0 (fun _ => true) true 22 v d ps) (hR : Rows2 W v rs) : ∀ r ∈ rs, capV r.1 := by
  intro r hr
  obtain ⟨j, hj⟩ := List.getElem?_of_mem hr
  obtain ⟨⟨a0, c0, rfl, hlay⟩, -⟩ := hR
  obtain ⟨fuel, hf⟩ := h
  rcases hlay with h0 | ⟨b, o, rfl, hc⟩
  · subst h0; simp at hr
  · rcases Deep.open_slice1 Tryd.underlying22 Tryd.cells61 hf with ⟨h1, _⟩ | ⟨a, len, cap, m, n, V, D, Pl, h1, _, hl, _, hm, _, hel⟩
    · simp [Value.cells] at h1
    · simp [Value.cells] at h1
      obtain ⟨rfl, rfl, rfl⟩ := h1
      simp only [if_true] at hm
      subst hm
      have hjl := (List.getElem?_eq_some_iff.1 hj).1
      obtain ⟨e1, e2⟩ := hel j (by omega)
      rw [add_plain3, hc j r hj] at e1
      have e3 : r.1 = V j := by simpa using e1
      intro a n c he
      rw [← e3, he] at e2
      rcases Deep.open_slice Tryd.underlying61 e2 with ⟨h2, _⟩ | ⟨a2, len2, cap2, m2, n2, D2, Pl2, h2, _, hl2, _⟩
      · simp at h2; omega
      · simp at h2; omega
theorem least_low : ∀ (l : List Nat) (a : Nat), 0 < a → (∀ x ∈ l, 1 ≤ x) → 0 < l.foldl (fun n x => if n = 0 ∨ x < n then x else n) a ∧ l.foldl (fun n x => if n = 0 ∨ x < n then x else n) a ≤ a ∧ (∀ x ∈ l, l.foldl (fun n x => if n = 0 ∨ x < n then x else n) a ≤ x) ∧ (l.foldl (fun n x => if n = 0 ∨ x < n then x else n) a = a ∨ l.foldl (fun n x => if n = 0 ∨ x < n then x else n) a ∈ l)
  | [], a, ha, _ => ⟨ha, Nat.le_refl _, by simp, .inl rfl⟩
  | y :: l, a, ha, h => by
    have hy := h y (by simp)
    rw [List.foldl_cons]
    by_cases hc : a = 0 ∨ y < a
    · rw [if_pos hc]
      obtain ⟨i1, i2, i3, i4⟩ := least_low l y (by omega) (fun x hx => h x (by simp [hx]))
      refine ⟨i1, by omega, fun x hx => ?_, .inr ?_⟩
      · rcases List.mem_cons.1 hx with rfl | hx
        · exact i2
        · exact i3 x hx
      · rcases i4 with i4 | i4
        · rw [i4]; simp
        · simp [i4]
    · rw [if_neg hc]
      obtain ⟨i1, i2, i3, i4⟩ := least_low l a ha (fun x hx => h x (by simp [hx]))
      refine ⟨i1, i2, fun x hx => ?_, ?_⟩
      · rcases List.mem_cons.1 hx with rfl | hx
        · omega
        · exact i3 x hx
      · rcases i4 with i4 | i4
        · exact .inl i4
        · exact .inr (by simp [i4])
theorem firstK_spec (ns : List Nat) (x : Nat) (hx : x ∈ ns) (hmin : ∀ y ∈ ns, x ≤ y) : ∀ (f k : Nat), k + 1 ≤ x → x ≤ k + f → firstK ns f k = x - 1
  | 0, k, h1, h2 => by omega
  | f + 1, k, h1, h2 => by
    unfold firstK
    by_cases hc : k + 1 ∈ ns
    · rw [if_pos hc]
      have := hmin _ hc
      omega
    · rw [if_neg hc]
      have : x ≠ k + 1 := fun e => hc (e ▸ hx)
      exact firstK_spec ns x hx hmin f (k + 1) (by omega) (by omega)
theorem numOf_least (ns : List Nat) (h : ns ≠ []) (hr : ∀ x ∈ ns, 1 ≤ x ∧ x ≤ 18) : numOf ns = (least ns : Int) := by
  cases ns with
  | nil => exact absurd rfl h
  | cons y l =>
    have e : least (y :: l) = l.foldl (fun n x => if n = 0 ∨ x < n then x else n) y := by
      unfold least
      rw [List.foldl_cons, if_pos (.inl rfl)]
    obtain ⟨i1, i2, i3, i4⟩ := least_low l y (hr y (by simp)).1 (fun x hx => (hr x (by simp [hx])).1)
    rw [← e] at i1 i2 i3 i4
    have hm : least (y :: l) ∈ y :: l := by
      rcases i4 with i4 | i4
      · rw [i4]; simp
      · simp [i4]
    have hb := hr _ hm
    have hmin : ∀ z ∈ y :: l, least (y :: l) ≤ z := by
      intro z hz
      rcases List.mem_cons.1 hz with rfl | hz
      · exact i2
      · exact i3 z hz
    have hf := firstK_spec (y :: l) (least (y :: l)) hm hmin 18 0 (by omega) (by omega)
    unfold numOf
    rw [hf, if_pos (by omega)]
    omega
set_option maxHeartbeats 800000 in
theorem has_out (v : Value) (n : Int) (w : World) (h : ¬ (1 ≤ n ∧ n ≤ 18)) : Calls Tryd.prog 16 #[v, .int .i64 n] w fun e w' => e = .returned (.bool false) ∧ Below w.heap.size w w' := by
  have OC : Hid (∀ w, Calls Tryd.prog 18 #[.int .i64 n] w fun e w' => e = .returned .nilIface ∧ w' = w) := of_out n h
  clear h
  go_enter Tryd.func16, Tryd.ntmps16
  go_wp2_with fail
  refine (OC.out _).mono ?_
  rintro e w2 ⟨rfl, rfl⟩
  go_wp2_with fail
  refine bodyPost_ret (v := .bool false) (by simp [results, Tryd.results16, go_sem]) rfl ⟨rfl, ?_⟩
  exact ((Below.refl _ _).alloc (Nat.le_refl _) _).alloc (by simp) _
end Go.Proofs.YthmiacpaefjanaaDoor
