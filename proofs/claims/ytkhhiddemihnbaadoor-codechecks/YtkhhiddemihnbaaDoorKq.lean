/- Contracts of blame: All. -/
import Derived.Test.YtkhhiddemihnbaaDoorKo
namespace Go.Proofs.YtkhhiddemihnbaaDoor
open Go.RowKit Go.Shelf
theorem top_flt {Ad : Nat → Addr} {B d : Nat} {W : World} {u : Value} {ls : List (List ByteArray × Nat)} (h : Top Ad B W d u ls) : ∃ vs : List (Value × (List ByteArray × Nat)), Flt B W u (vs.map Prod.fst) ∧ ls = vs.map Prod.snd ∧ ∀ x ∈ vs, Chn Ad B W d x.1 x.2 := by
  cases h using Top.ways with
  | empty => exact ⟨[], .inl ⟨rfl, rfl⟩, rfl, by simp⟩
  | one v p h =>
    obtain ⟨t, q, e, ht⟩ := h.1.shape
    exact ⟨[(u, p)], .inr (.inl ⟨t, q, e, ht, rfl⟩), rfl, by simpa using h⟩
  | many b vs h =>
    obtain ⟨⟨g, c, h1, h2, h3, h4⟩, h5, h6, h7⟩ := h
    refine ⟨vs, .inr (.inr ⟨b, _, rfl, h1, h3, ⟨_, c, by simp, .inr ⟨g, h2, rfl, fun j x hx => ?_⟩⟩, by simpa using h6, fun v hv => ?_⟩), rfl, h7⟩
    · simp only [List.getElem?_map, Option.map_eq_some_iff] at hx
      obtain ⟨y, hy, rfl⟩ := hx
      exact h4 j y hy
    · obtain ⟨y, hy, rfl⟩ := List.mem_map.1 hv
      exact (h7 y hy).1.shape
theorem tops_flt {Ad : Nat → Addr} {B d : Nat} {W : World} : ∀ us : List (Value × List (List ByteArray × Nat)), (∀ u ∈ us, Top Ad B W d u.1 u.2) →
    ∃ zs : List (Value × List (Value × (List ByteArray × Nat))), zs.map Prod.fst = us.map Prod.fst ∧ (us.map Prod.snd).flatten = ((zs.map Prod.snd).flatten).map Prod.snd ∧ (∀ z ∈ zs, Flt B W z.1 (z.2.map Prod.fst)) ∧ ∀ x ∈ (zs.map Prod.snd).flatten, Chn Ad B W d x.1 x.2
  | [], _ => ⟨[], rfl, rfl, by simp, by simp⟩
  | u :: us, h => by
    obtain ⟨vs, h1, h2, h3⟩ := top_flt (h u (by simp))
    obtain ⟨zs, e1, e2, e3, e4⟩ := tops_flt us (fun x hx => h x (by simp [hx]))
    refine ⟨(u.1, vs) :: zs, by simp [e1], by simp [e2, h2], ?_, ?_⟩
    · intro z hz
      rcases List.mem_cons.1 hz with rfl | hz
      · exact h1
      · exact e3 z hz
    · intro x hx
      simp only [List.map_cons, List.flatten_cons, List.mem_append] at hx
      rcases hx with hx | hx
      · exact h3 x hx
      · exact e4 x hx
theorem fst_flat : ∀ zs : List (Value × List (Value × (List ByteArray × Nat))), ((zs.map fun z => (z.1, z.2.map Prod.fst)).map Prod.snd).flatten = ((zs.map Prod.snd).flatten).map Prod.fst
  | [] => rfl
  | z :: zs => by simpa using fst_flat zs
theorem fst_fst : ∀ zs : List (Value × List (Value × (List ByteArray × Nat))), (zs.map fun z => (z.1, z.2.map Prod.fst)).map Prod.fst = zs.map Prod.fst
  | [] => rfl
  | z :: zs => by simp
set_option maxHeartbeats 2000000 in
set_option maxRecDepth 100000 in
/-- All. -/
theorem all_top (Ad : Nat → Addr) (d : Nat) (ev : Value) (us : List (Value × List (List ByteArray × Nat))) (w : World) (he : Errs w.heap.size w ev (us.map Prod.fst)) (hT : ∀ u ∈ us, Top Ad w.heap.size w d u.1 u.2) (hn : us.length ≤ 1000) (hl : (us.map Prod.snd).flatten.length ≤ 1000) :
    Calls Tryd.prog 29 #[ev] w fun e w' => ∃ v', e = .returned v' ∧ Top Ad w'.heap.size w' d v' (us.map Prod.snd).flatten ∧ Below w.heap.size w w' := by
  obtain ⟨zs, e1, e2, e3, e4⟩ := tops_flt us hT
  have hzl : zs.length = us.length := by have := congrArg List.length e1; simpa using this
  rw [e2] at hl ⊢
  have FC := flat_step (.slice none 0 0) ev [] (zs.map fun z => (z.1, z.2.map Prod.fst)) w.heap.size w (Nat.le_refl _) (World.ownsRow_nil _ _ _ _) (by rw [fst_fst, e1]; exact he)
    (fun u hu => by obtain ⟨z, hz, rfl⟩ := List.mem_map.1 hu; exact e3 z hz) (by rw [fst_flat, List.length_map]; rw [List.length_map] at hl; simp only [List.length_nil]; omega) (by simp; omega) (fun _ => flat_plain)
  rw [fst_flat, List.nil_append] at FC
  have HF := hid FC
  have H4 := hid e4
  obtain ⟨ts, hts⟩ : ∃ ts, ts = (zs.map Prod.snd).flatten := ⟨_, rfl⟩
  rw [← hts] at HF H4 hl ⊢
  rw [List.length_map] at hl
  clear FC e1 e2 e3 e4 hts hT he hzl hn
  rcases ts with _ | ⟨x, _ | ⟨y, r⟩⟩
  · go_enter Tryd.func29, Tryd.ntmps29
    go_wp2_with fail
    refine HF.out.mono ?_
    rintro e w1 ⟨v1, rfl, ho, hb⟩
    rw [List.length_map] at ho
    obtain ⟨ga, gc, rfl⟩ := own_slice ho
    have O1 := hid ho
    have B1 := hid hb
    have C1 := hid (fun x hx => (H4.out x hx).move hb hb.size)
    clear ho hb HF H4
    go_wp2_with fail
    go_ret
    exact ⟨_, rfl, .empty, B1.out⟩
  · go_enter Tryd.func29, Tryd.ntmps29
    go_wp2_with fail
    refine HF.out.mono ?_
    rintro e w1 ⟨v1, rfl, ho, hb⟩
    rw [List.length_map] at ho
    obtain ⟨ga, gc, rfl⟩ := own_slice ho
    have O1 := hid ho
    have B1 := hid hb
    have C1 := hid (fun x hx => (H4.out x hx).move hb hb.size)
    clear ho hb HF H4
    obtain ⟨g, rfl, hg⟩ := own_some O1.out (by simp)
    have c1 : w1.cell? ⟨g, 0, none⟩ = some x.1 := by rw [O1.out.cellAt 0 (by simp)]; rfl
    go_wp2_with fail
    go_ret
    exact ⟨_, rfl, .one _ x.2 (C1.out x (by simp)), B1.out⟩
  · obtain ⟨ts, hts⟩ : ∃ ts, ts = x :: y :: r := ⟨_, rfl⟩
    have h2 : 2 ≤ ts.length := by rw [hts]; simp
    rw [← hts] at HF H4 hl ⊢
    clear hts
    have hli : (ts.length : Int) ≤ 1000 := by omega
    have h2i : (2 : Int) ≤ ts.length := by omega
    have z0 : ((ts.length : Int) == 0) = false := beq_eq_false_iff_ne.2 (by omega)
    have z1 : ((ts.length : Int) == 1) = false := beq_eq_false_iff_ne.2 (by omega)
    go_enter Tryd.func29, Tryd.ntmps29
    go_wp2_with fail
    refine HF.out.mono ?_
    rintro e w1 ⟨v1, rfl, ho, hb⟩
    rw [List.length_map] at ho
    obtain ⟨ga, gc, rfl⟩ := own_slice ho
    have O1 := hid ho
    have B1 := hid hb
    have C1 := hid (fun x hx => (H4.out x hx).move hb hb.size)
    clear ho hb HF H4
    obtain ⟨g, rfl, hg⟩ := own_some O1.out (by omega)
    have BA := hid (show Below w1.heap.size w1 (w1.alloc (.cells #[.slice (some ⟨g, 0, none⟩) ts.length gc] 111)) from (Below.refl _ _).alloc (Nat.le_refl _) _)
    have R : Hid (Top Ad (w1.alloc (.cells #[.slice (some ⟨g, 0, none⟩) ts.length gc] 111)).heap.size (w1.alloc (.cells #[.slice (some ⟨g, 0, none⟩) ts.length gc] 111)) d (.iface 109 (.pointer (some ⟨w1.heap.size, 0, none⟩))) (ts.map Prod.snd)) := by
      refine .many w1.heap.size ts ⟨⟨g, gc, by simp, by simp; omega, new_cell w1 _ _, fun j x hx => ?_⟩, h2, by omega, fun x hx => (C1.out x hx).move BA.out BA.out.size⟩
      have hj := (List.getElem?_eq_some_iff.1 hx).1
      rw [BA.out.cell (p := ⟨g, j, none⟩) hg.2, O1.out.cellAt j (by omega)]
      simp [hx]
    go_wp2_with fail
    go_ret
    exact ⟨_, rfl, R.out, B1.out.trans (BA.out.mono B1.out.size)⟩
end Go.Proofs.YtkhhiddemihnbaaDoor
