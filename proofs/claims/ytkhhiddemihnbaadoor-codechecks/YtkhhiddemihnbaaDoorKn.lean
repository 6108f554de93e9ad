/- Contracts: errors.Is of a Several; of every error that All answers. -/
import Derived.Test.YtkhhiddemihnbaaDoorKm
namespace Go.Proofs.YtkhhiddemihnbaaDoor
open Go.RowKit Go.Shelf Go.Extern.Stop Go.Stop Go.Extern
/-- A Several of sentinels inside Blames. -/
structure Sev (Ad : Nat → Addr) (n₀ : Nat) (W : World) (d b : Nat) (vs : List (Value × (List ByteArray × Nat))) : Prop where
  lay : ∃ g c, b < n₀ ∧ g < n₀ ∧ W.cell? ⟨b, 0, none⟩ = some (.slice (some ⟨g, 0, none⟩) vs.length c) ∧ ∀ (j : Nat) x, vs[j]? = some x → W.cell? ⟨g, j, none⟩ = some x.1
  two : 2 ≤ vs.length
  few : vs.length ≤ 1000
  each : ∀ x ∈ vs, Chn Ad n₀ W d x.1 x.2
/-- What All answers: nothing, one sentinel inside Blames, a Several of such. -/
def Top (Ad : Nat → Addr) (n₀ : Nat) (W : World) (d : Nat) (v : Value) (ls : List (List ByteArray × Nat)) : Prop :=
  (v = .nilIface ∧ ls = []) ∨ (∃ p, ls = [p] ∧ Chn Ad n₀ W d v p) ∨ ∃ b vs, v = .iface 109 (.pointer (some ⟨b, 0, none⟩)) ∧ ls = vs.map Prod.snd ∧ Sev Ad n₀ W d b vs
section
variable {Ad : Nat → Addr} {n₀ : Nat} {W : World} {d : Nat}
theorem Top.empty : Top Ad n₀ W d .nilIface [] := .inl ⟨rfl, rfl⟩
theorem Top.one (v : Value) (p : List ByteArray × Nat) (h : Chn Ad n₀ W d v p) : Top Ad n₀ W d v [p] := .inr (.inl ⟨p, rfl, h⟩)
theorem Top.many (b : Nat) (vs : List (Value × (List ByteArray × Nat))) (h : Sev Ad n₀ W d b vs) : Top Ad n₀ W d (.iface 109 (.pointer (some ⟨b, 0, none⟩))) (vs.map Prod.snd) := .inr (.inr ⟨b, vs, rfl, rfl, h⟩)
/-- By what it is. -/
theorem Top.ways {motive : ∀ (v : Value) (ls : List (List ByteArray × Nat)), Top Ad n₀ W d v ls → Prop} (empty : motive .nilIface [] Top.empty) (one : ∀ v p (h : Chn Ad n₀ W d v p), motive v [p] (Top.one v p h))
    (many : ∀ b vs (h : Sev Ad n₀ W d b vs), motive (.iface 109 (.pointer (some ⟨b, 0, none⟩))) (vs.map Prod.snd) (Top.many b vs h)) {v : Value} {ls : List (List ByteArray × Nat)} (h : Top Ad n₀ W d v ls) : motive v ls h := by
  rcases h with ⟨rfl, rfl⟩ | ⟨p, rfl, h⟩ | ⟨b, vs, rfl, rfl, h⟩
  · exact empty
  · exact one v p h
  · exact many b vs h
end
theorem Chn.one {Ad : Nat → Addr} {n₀ d : Nat} {W : World} {v : Value} {p : List ByteArray × Nat} (h : Chn Ad n₀ W d v p) : v.oneCell' = true := by
  obtain ⟨t, q, rfl, _⟩ := h.1.shape
  rfl
theorem Sev.move {Ad : Nat → Addr} {n₀ n₁ d b : Nat} {W W' : World} {vs : List (Value × (List ByteArray × Nat))} (h : Sev Ad n₀ W d b vs) (hb : Below n₀ W W') (hn : n₀ ≤ n₁) : Sev Ad n₁ W' d b vs := by
  obtain ⟨⟨g, c, h1, h2, h3, h4⟩, h5, h6, h7⟩ := h
  exact ⟨⟨g, c, by omega, by omega, (hb.cell (p := ⟨b, 0, none⟩) h1).trans h3, fun j x hx => (hb.cell (p := ⟨g, j, none⟩) h2).trans (h4 j x hx)⟩, h5, h6, fun x hx => (h7 x hx).move hb hn⟩
theorem Top.move {Ad : Nat → Addr} {n₀ n₁ d : Nat} {W W' : World} {v : Value} {ls : List (List ByteArray × Nat)} (h : Top Ad n₀ W d v ls) (hb : Below n₀ W W') (hn : n₀ ≤ n₁) : Top Ad n₁ W' d v ls := by
  cases h using Top.ways with
  | empty => exact .empty
  | one v p h => exact .one v p (h.move hb hn)
  | many b vs h => exact .many b vs (h.move hb hn)
theorem Top.later {Ad : Nat → Addr} {d : Nat} {W W' : World} {v : Value} {ls : List (List ByteArray × Nat)} (h : Top Ad W.heap.size W d v ls) (hb : Below W.heap.size W W') : Top Ad W'.heap.size W' d v ls := h.move hb hb.size
theorem Top.tr {Ad : Nat → Addr} {n₀ d : Nat} {W : World} {v : Value} {ls : List (List ByteArray × Nat)} (h : Top Ad n₀ W d v ls) : Tr Ad n₀ W d v ls := by
  cases h using Top.ways with
  | empty => exact .empty d
  | one v p h => exact h.tr
  | many b vs h =>
    obtain ⟨⟨g, c, h1, h2, h3, h4⟩, h5, h6, h7⟩ := h
    have := Tr.many (Ad := Ad) (n₀ := n₀) (W := W) d b g c (vs.map fun x => (x.1, [x.2])) h1 h2 (by simp; omega) (by simpa using h6) (by simpa using h3)
      (fun j x hx => by
        simp only [List.getElem?_map, Option.map_eq_some_iff] at hx
        obtain ⟨y, hy, rfl⟩ := hx
        exact h4 j y hy)
      (fun x hx => by
        obtain ⟨y, hy, rfl⟩ := List.mem_map.1 hx
        exact (h7 y hy).one)
      (fun x hx => by
        obtain ⟨y, hy, rfl⟩ := List.mem_map.1 hx
        exact (h7 y hy).tr)
    have e : ((vs.map fun x => (x.1, [x.2])).map Prod.snd).flatten = vs.map Prod.snd := by
      clear this h3 h4 h5 h6 h7
      induction vs with
      | nil => rfl
      | cons x t ih => simpa using ih
    rw [e] at this
    exact this
set_option maxHeartbeats 2000000 in
set_option maxRecDepth 100000 in
theorem eis_many (Ad : Nat → Addr) (k d b : Nat) (w : World) (vs : List (Value × (List ByteArray × Nat))) (hE : Env w Ad) (hS : Sev Ad w.heap.size w d b vs) (hk : 1 ≤ k ∧ k ≤ 18) :
    Calls Tryd.prog 44 #[.iface 109 (.pointer (some ⟨b, 0, none⟩)), .iface 163 (.pointer (some (Ad k))), .bool true] w fun e w' => e = .returned (.bool (vs.any fun x => decide (x.2.2 = k))) ∧ Below w.heap.size w w' := by
  obtain ⟨⟨g, c, h1, h2, h3, h4⟩, h5, h6, h7⟩ := hS
  have hty := run_eql_iface_types (P := Tryd.prog) 109 163 (.pointer (some ⟨b, 0, none⟩)) (.pointer (some (Ad k))) Tryd.underlying42 (by decide) w
  have nW := km_noIsS
  have uW := km_noUnwrapS
  have vW := km_hasUnwrapsS
  have mU := km_methodS
  have U := hid (unwraps_any b g c (vs.map Prod.fst) w (by simpa using h6) (by simpa using h3) (fun j u hu => by
    simp only [List.getElem?_map, Option.map_eq_some_iff] at hu
    obtain ⟨x, hx, rfl⟩ := hu
    exact h4 j x hx) (fun u hu => by
    obtain ⟨x, hx, rfl⟩ := List.mem_map.1 hu
    exact (h7 x hx).one))
  rw [List.length_map] at U
  have H7 := hid h7
  have HE := hid hE
  have HKK := hid hk
  have hni : (vs.length : Int) ≤ 1000 := by omega
  clear h3 h4 h7 hE h1 h2 hk
  go_enter Tryd.func44, Tryd.ntmps44
  go_wp2_with fail
  refine wp_loop_rounds 1 ?_
  rw [rounds_succ]
  go_wp2_with fail
  refine U.out.mono ?_
  rintro e w1 ⟨ga, gc, rfl, ho, hbl⟩
  have O1 := hid ho
  have B1 := hid hbl
  have E1 := hid (HE.out.later hbl)
  clear ho hbl U
  go_wp2_with fail
  go_loop [12, 45] (fun _ i => ∃ j : Nat, j ≤ vs.length ∧ i = .int .i64 j ∧ (vs.take j).any (fun x => decide (x.2.2 = k)) = false) (fun _ i => vs.length - (intOf i).toNat)
  case atStart => exact ⟨0, Nat.zero_le _, rfl, rfl⟩
  case round =>
    obtain ⟨j, hj, rfl, hn⟩ := hrel
    have HN := hid hn
    clear hn
    by_cases hlt : j < vs.length
    · obtain ⟨x, hx⟩ := at_lt vs j hlt
      obtain ⟨h, rfl, hh⟩ := own_some O1.out (by omega)
      have c1 : w1.cell? ⟨h, j, none⟩ = some x.1 := by rw [O1.out.cellAt j (by omega)]; simp [hx]
      have HT := hid (take_next hx)
      have hm := List.mem_of_getElem? hx
      have hch := (H7.out x hm).move B1.out (Nat.le_refl _)
      have C := hid (eis_chain Ad w.heap.size k w1 x.2.1 x.1 x.2.2 E1.out hch.1 ⟨hch.2.1, hch.2.2.1⟩ HKK.out)
      have HM := hid hm
      clear hx hm hch
      by_cases hq : x.2.2 = k
      · have HR : Hid (vs.any (fun x => decide (x.2.2 = k)) = true) := List.any_eq_true.2 ⟨x, HM.out, by simpa using hq⟩
        rw [decide_eq_true hq] at C
        clear hq
        go_wp2_with fail
        refine C.out.mono ?_
        rintro e w' ⟨rfl, rfl⟩
        go_wp2_with fail
        go_ret
        exact ⟨by rw [HR.out]; rfl, B1.out⟩
      · have HR : Hid ((vs.take (j + 1)).any (fun x => decide (x.2.2 = k)) = false) := by
          show _ = _
          rw [HT.out, List.any_append, HN.out]; simp [hq]
        rw [decide_eq_false hq] at C
        clear hq
        go_wp2_with fail
        refine C.out.mono ?_
        rintro e w' ⟨rfl, rfl⟩
        go_wp2_with fail
        go_round
        case rel => exact ⟨j + 1, by omega, by go_num, HR.out⟩
        case measure => simp [intOf]; omega
    · have HR : Hid (vs.any (fun x => decide (x.2.2 = k)) = false) := by
        show _ = _
        rw [← HN.out, List.take_of_length_le (by omega)]
      go_wp2_with fail
      go_ret
      exact ⟨by rw [HR.out]; rfl, B1.out⟩
/-- errors.Is, of what All answers. -/
theorem is_top (Ad : Nat → Addr) (k d : Nat) (v : Value) (ls : List (List ByteArray × Nat)) (w : World) (hE : Env w Ad) (hT : Top Ad w.heap.size w d v ls) (hv : v ≠ .nilIface) (hk : 1 ≤ k ∧ k ≤ 18) :
    Calls Tryd.prog 23 #[v, .iface 163 (.pointer (some (Ad k)))] w fun e w' => e = .returned (.bool (ls.any fun x => decide (x.2 = k))) ∧ Below w.heap.size w w' := by
  cases hT using Top.ways with
  | empty => exact absurd rfl hv
  | one v p h =>
    obtain ⟨t, q, rfl, _⟩ := h.1.shape
    refine is_by Ad k t q _ w ((eis_chain Ad w.heap.size k w p.1 _ p.2 hE h.1 ⟨h.2.1, h.2.2.1⟩ hk).mono ?_)
    rintro e w' ⟨rfl, rfl⟩
    exact ⟨by simp, Below.refl _ _⟩
  | many b vs h =>
    refine is_by Ad k _ _ _ w ((eis_many Ad k d b w vs hE h hk).mono ?_)
    rintro e w' ⟨rfl, hb⟩
    exact ⟨by rw [List.any_map]; rfl, hb⟩
end Go.Proofs.YtkhhiddemihnbaaDoor
