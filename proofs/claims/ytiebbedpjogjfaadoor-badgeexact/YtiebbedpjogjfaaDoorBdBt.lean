/- BadgeStays: errors.Is of a Blame over several of one sentinel; Pin that finds what there is, whatever it is; Entity of none. -/
import Derived.Test.YtiebbedpjogjfaaDoorBdBq
namespace Go.Proofs.YtiebbedpjogjfaaDoor.Bd
open Go.RowKit Go.Shelf Go.Maps
set_option maxHeartbeats 3200000 in
set_option maxRecDepth 100000 in
theorem eis_bs (Ad : Nat → Addr) (k d b a : Nat) (s : ByteArray) (w : World) (vs : List (Value × (List ByteArray × Nat))) (hE : Env5 w Ad) (hS : Sev Ad w.heap.size w d b vs) (hk : k ∈ five) (hall : ∀ x ∈ vs, x.2.2 = k)
    (hB : w.heap[a]? = some (.cells #[.string s, .iface 86 (.pointer (some ⟨b, 0, none⟩))] 83 (0, 0))) :
    Calls Tryd.prog 37 #[.iface 81 (.pointer (some ⟨a, 0, none⟩)), .iface 131 (.pointer (some (Ad k))), .bool true] w fun e w' => e = .returned (.bool true) ∧ Below w.heap.size w w' := by
  obtain ⟨⟨g, c, h1, h2, h3, h4⟩, h5, h6, h7⟩ := hS
  have c1 : w.cell? ⟨a, 1, none⟩ = some (.iface 86 (.pointer (some ⟨b, 0, none⟩))) := cell_blk hB rfl
  have hty1 := run_eql_iface_types (P := Tryd.prog) 81 131 (.pointer (some ⟨a, 0, none⟩)) (.pointer (some (Ad k))) Tryd.underlying33 (by decide) w
  have nW1 := km_noIsB
  have uW1 := km_hasUnwrapB
  have mU1 := km_methodB
  have hty := run_eql_iface_types (P := Tryd.prog) 86 131 (.pointer (some ⟨b, 0, none⟩)) (.pointer (some (Ad k))) Tryd.underlying33 (by decide) w
  have nW := km_noIsS
  have uW := km_noUnwrapS
  have vW := km_hasUnwrapsS
  have mU := km_methodS
  have U := hid (unwraps_any b g c (vs.map Prod.fst) w (by simpa using h6) (by simpa using h3) (fun j u hu => by
    simp only [List.getElem?_map, Option.map_eq_some_iff] at hu
    obtain ⟨x, hx, rfl⟩ := hu
    exact h4 j x hx) (fun u hu => by
    obtain ⟨x, hx, rfl⟩ := List.mem_map.1 hu
    exact (h7 x hx).one))
  rw [List.length_map] at U
  have UW := hid (unwrap_any a 86 (.pointer (some ⟨b, 0, none⟩)) w c1)
  obtain ⟨x, hx⟩ := at_lt vs 0 (by omega)
  have H7 := hid (h7 x (List.mem_of_getElem? hx))
  have HA := hid (hall x (List.mem_of_getElem? hx))
  have HX := hid hx
  have HE := hid hE
  have HKK := hid hk
  have hni : (vs.length : Int) ≤ 1000 := by omega
  have hni0 : (0 : Int) < (vs.length : Int) := by omega
  have hn0 : 0 < vs.length := by omega
  clear h3 h4 h7 hE h1 h2 hk hall hB c1 hx
  go_enter Tryd.func37, Tryd.ntmps37
  go_wp2_with fail
  refine wp_loop_rounds 2 ?_
  rw [rounds_succ]
  go_wp2_with fail
  refine UW.out.mono ?_
  rintro e w' ⟨rfl, hq⟩
  obtain rfl := hq.symm
  clear UW hq nW1 uW1 mU1 hty1
  go_wp2_with fail
  rw [rounds_succ]
  go_wp2_with fail
  refine U.out.mono ?_
  rintro e w1 ⟨ga, gc, rfl, ho, hbl⟩
  have O1 := hid ho
  have B1 := hid hbl
  have E1 := hid (HE.out.later hbl)
  clear ho hbl U
  obtain ⟨h, rfl, hh⟩ := own_some O1.out (by omega)
  have c1 : w1.cell? ⟨h, 0, none⟩ = some x.1 := by have := O1.out.cellAt 0 (by omega); simp [HX.out] at this; exact this
  have hch := H7.out.move B1.out (Nat.le_refl _)
  have C := hid (eis_gen Ad w.heap.size k w1 x.2.1 x.1 x.2.2 (by rw [HA.out]; exact E1.out.sen k HKK.out) (E1.out.sen k HKK.out) (by rw [HA.out]; simp) hch.1)
  rw [HA.out, decide_eq_true rfl] at C
  clear hch h5 h6
  go_wp2_with fail
  refine wp_loop_rounds 1 ?_
  rw [rounds_succ]
  go_wp2_with fail
  refine C.out.mono ?_
  rintro e w' ⟨rfl, rfl⟩
  go_wp2_with fail
  go_ret
  exact ⟨rfl, B1.out⟩
/-- errors.Is, of a Blame over what All answers, where all are of one sentinel. -/
theorem is_bl (Ad : Nat → Addr) (k d a : Nat) (s : ByteArray) (t : TypeId) (q : Value) (w : World) (ls : List (List ByteArray × Nat)) (hE : Env5 w Ad) (hT : Top Ad w.heap.size w d (.iface t q) ls) (hk : k ∈ five) (hall : ∀ x ∈ ls, x.2 = k)
    (hB : w.heap[a]? = some (.cells #[.string s, .iface t q] 83 (0, 0))) :
    Calls Tryd.prog 25 #[.iface 81 (.pointer (some ⟨a, 0, none⟩)), .iface 131 (.pointer (some (Ad k)))] w fun e w' => e = .returned (.bool true) ∧ Below w.heap.size w w' := by
  rcases hT with ⟨h, -⟩ | ⟨p, rfl, h⟩ | ⟨b, vs, hv, rfl, h⟩
  · cases h
  · have hp : p.2 = k := hall p (List.mem_cons_self ..)
    refine is_by Ad k _ _ _ w ((eis_gen Ad w.heap.size k w (s :: p.1) _ p.2 (by rw [hp]; exact hE.sen k hk) (hE.sen k hk) (by rw [hp]; simp) ⟨a, .iface t q, rfl, (Array.getElem?_eq_some_iff.1 hB).1, cell_blk hB rfl, cell_blk hB rfl, h.1⟩).mono ?_)
    rintro e w' ⟨rfl, rfl⟩
    exact ⟨by rw [hp]; simp, Below.refl _ _⟩
  · cases hv
    exact is_by Ad k _ _ _ w (eis_bs Ad k d b a s w vs hE h hk (fun x hx => hall x.2 (List.mem_map.2 ⟨x, hx, rfl⟩)) hB)
section
variable {W1 w : World} {bb ob nb : Nat} {n : Int} {l : Prs} {fr : List (Nat × Obj)} {Ad : Nat → Addr}
/-- Pin of a number that has its entity: twice, whatever the entity. -/
theorem pin_twice (h : Bw W1 bb ob nb n l fr w) (hE : Env5 W1 Ad) (id i g : Int) (hd : I64 id) (hi : I64 i) (hg : I64 g) (h1 : 1 ≤ id) (h2 : id < n) {x : Int × Int} (hw : who l id = some x) :
    Calls Tryd.prog 9 #[.pointer (some ⟨bb, 0, none⟩), .int .i64 id, .agg #[.int .i64 i, .int .i64 g]] w fun e W' => ∃ t q, e = .returned (.iface t q) ∧ (∀ W'', Below W'.heap.size W' W'' → Calls Tryd.prog 25 #[.iface t q, .iface 131 (.pointer (some (Ad 9)))] W'' fun e w' => e = .returned (.bool true) ∧ Below W''.heap.size W'' w') ∧ Below w.heap.size w W' := by
  cases hn : num l (i, g) with
  | none =>
    refine (pin_so (Ad := Ad) h.bg id i g h1 h2 [([bNum], 9)] (by decide) (by simp) (fun W' hB hb => uno_top hB ((h.env hE).later hb) id hd hw) (fun W' hB _ => unn_none hB i g hi hg hn)).mono ?_
    rintro e W' ⟨a, s, t, q, rfl, r, T, b⟩
    exact ⟨_, _, rfl, fun W'' hb => is_bl Ad 9 1 a s t q W'' _ (((h.env hE).later b).later hb) (T.later hb) (by decide) (fun x hx => by simp at hx; rw [hx]) (blk_seen hb (Nat.le_refl _) r), b⟩
  | some y =>
    refine (pin_sb (Ad := Ad) h.bg id i g h1 h2 [([bNum], 9)] [([bEnt], 9)] (by decide) (by simp) (fun W' hB hb => uno_top hB ((h.env hE).later hb) id hd hw) (fun W' hB hb => unn_top hB ((h.env hE).later hb) i g hi hg hn)).mono ?_
    rintro e W' ⟨a, s, t, q, rfl, r, T, b⟩
    exact ⟨_, _, rfl, fun W'' hb => is_bl Ad 9 1 a s t q W'' _ (((h.env hE).later b).later hb) (T.later hb) (by decide) (fun x hx => by simp at hx; rcases hx with hx | hx <;> rw [hx]) (blk_seen hb (Nat.le_refl _) r), b⟩
end
set_option maxHeartbeats 800000 in
theorem ent_nil (W : World) (id : Int) : Calls Tryd.prog 15 #[.pointer none, .int .i64 id] W fun e W' => e = .returned (.tuple #[.agg #[.int .i64 0, .int .i64 0], .bool false]) ∧ Below W.heap.size W W' := by
  obtain ⟨w1, hw1⟩ : ∃ w1, w1 = W.alloc (.cells #[.int .i64 0, .int .i64 0] 29) := ⟨_, rfl⟩
  have b1 : Below W.heap.size W w1 := by rw [hw1]; exact bAl _ _
  have r1 : w1.heap[W.heap.size]? = some (.cells #[.int .i64 0, .int .i64 0] 29 (0, 0)) := by rw [hw1]; exact heap_alloc_new W _
  have y0 : w1.cell? ⟨W.heap.size, 0, none⟩ = some (.int .i64 0) := cell_blk r1 rfl
  have y1 : w1.cell? ⟨W.heap.size, 1, none⟩ = some (.int .i64 0) := cell_blk r1 rfl
  have f0 := blk_free r1 0
  have f1 := blk_free r1 1
  have HW1 := hid hw1
  have B1 := hid b1
  obtain ⟨w4, hw4⟩ : ∃ w4, w4 = (w1.setCell ⟨W.heap.size, 0, none⟩ (.int .i64 0)).setCell ⟨W.heap.size, 1, none⟩ (.int .i64 0) := ⟨_, rfl⟩
  have same : Hid (w4 = w1) := by
    rw [hw4]
    show put2 w1 W.heap.size 0 0 = w1
    exact put2_same r1
  clear hw1 b1 r1
  go_enter Tryd.func15, Tryd.ntmps15
  go_upto_region 1 with fail
  rw [← HW1.out]
  go_wp2_with fail
  rw [← hw4, same.out]
  exact bodyPost_ret (v := .tuple #[.agg #[.int .i64 0, .int .i64 0], .bool false]) (by simp [results, Tryd.results15, go_sem, y0, y1]) rfl ⟨rfl, B1.out⟩
end Go.Proofs.YtiebbedpjogjfaaDoor.Bd
