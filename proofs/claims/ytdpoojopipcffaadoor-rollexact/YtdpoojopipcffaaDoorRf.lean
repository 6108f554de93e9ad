/- List. -/
import Derived.Test.YtdpoojopipcffaaDoorRe
namespace Go.Proofs.YtdpoojopipcffaaDoor
open Go.RowKit Go.Shelf Go.Maps
/-- Those that are given among the first k places. -/
def RS.upto (r : RS) : Nat → List (Nat × Nat)
  | 0 => []
  | k + 1 => if k ∈ r.free then r.upto k else r.upto k ++ [(k, r.gens.getD k 0)]
def RS.all (r : RS) : List (Nat × Nat) := r.upto r.gens.length
def entCells (l : List (Nat × Nat)) : List Value := l.flatMap fun p => [gI p.1, gI p.2]
theorem entCells_len (l : List (Nat × Nat)) : (entCells l).length = l.length * 2 := by
  induction l with
  | nil => rfl
  | cons x l ih => simp only [entCells, List.flatMap_cons, List.length_append, List.length_cons, List.length_nil] at ih ⊢; omega
theorem entCells_snoc (l : List (Nat × Nat)) (p : Nat × Nat) : entCells (l ++ [p]) = entCells l ++ [gI p.1, gI p.2] := by simp [entCells]
theorem infoEnt : (Tryd.prog.info? 24).map (fun i => (i.zero, i.size, i.bytes)) = some (some (.agg #[.int .i64 0, .int .i64 0]), 2, 16) := by kernel_rfl
/-- A row of entities. -/
def Ents (B : Nat) (W : World) (v : Value) (l : List (Nat × Nat)) : Prop := W.ownsRow B 24 2 v l.length (entCells l)
theorem Ents.later {B : Nat} {W W' : World} {v : Value} {l : List (Nat × Nat)} (h : Ents B W v l) (hb : Below W.heap.size W W') : Ents B W' v l := World.ownsRow.kept h (row := none) ⟨hb.os, hb.tape, hb.output, hb.size, fun k hk _ => hb.block k hk⟩ (by cases hv : v.ownBlock <;> simp)
theorem Ents.slice {B : Nat} {W : World} {v : Value} {l : List (Nat × Nat)} (h : Ents B W v l) : ∃ a c, v = .slice a l.length c := by
  rcases h.2 with ⟨h1, h2⟩ | ⟨g, cap, cur, h1, _⟩
  · exact ⟨none, 0, by rw [h2]; exact h1⟩
  · exact ⟨_, _, h1⟩
/-- append of one entity. -/
theorem wpList_ent {ops : Array Oper} {rest : List Oper} {o : Oper} {a : Act} {Q : Exit → Act → World → Prop} (hgd : o.guard = none) (s x : Operand)
    (ho : o.op = .call { callee := .builtin .append, args := #[s, x], argTypes := #[34, 34] }) {B : Nat} {wc : World} {v : Value} {l : List (Nat × Nat)} {k g : Nat} (hown : Ents B wc v l) (hl : l.length ≤ 1000) (hB : B ≤ wc.heap.size)
    (hs : a.eval s = v) (hx : a.eval x = .slice (some ⟨wc.heap.size, 0, none⟩) 1 1)
    (h : ∀ v' w2, Hid (Ents B w2 v' (l ++ [(k, g)])) → Hid (St (fun x => v.ownBlock = some x) wc w2) → Hid (v'.ownBlock = v.ownBlock ∨ ∃ x, v'.ownBlock = some x ∧ wc.heap.size ≤ x) → wpList Tryd.prog ops Q rest (a.put o.dst v') w2) :
    wpList Tryd.prog ops Q (o :: rest) a (wc.alloc (.cells #[.int .i64 (k : Int), .int .i64 (g : Int)] 24)) := by
  obtain ⟨i0, hi, hz0, hz1, hz2⟩ := info_parts infoEnt
  have hb : Below wc.heap.size wc (wc.alloc (.cells #[.int .i64 (k : Int), .int .i64 (g : Int)] 24)) := (Below.refl _ _).alloc (Nat.le_refl _) _
  have ho2 : (wc.alloc (.cells #[.int .i64 (k : Int), .int .i64 (g : Int)] 24)).ownsRow B 24 2 v l.length (entCells l) := hown.alloc _
  have hz : (wc.alloc (.cells #[.int .i64 (k : Int), .int .i64 (g : Int)] 24)).heap.size = wc.heap.size + 1 := by simp
  obtain ⟨d0, d1⟩ := cell_new2 wc (.int .i64 (k : Int)) (.int .i64 (g : Int)) 24
  refine wpList_append_lies _ hgd s x 34 ho B 24 i0 (.agg #[.int .i64 0, .int .i64 0]) 2 16 Tryd.underlying34 hi hz0 hz1 hz2 rfl (by decide) v l.length (entCells l) hs ho2 ⟨wc.heap.size, 0, none⟩ 1 1 [gI k, gI g] hx rfl (fun j u hu => by
    rw [add_at]
    match j, hu with
    | 0, hu => simp at hu; subst hu; exact d0
    | 1, hu => simp at hu; subst hu; exact d1
    | j + 2, hu => simp at hu) (by intro u hu; simp at hu; rcases hu with rfl | rfl <;> rfl) (by decide) (by unfold maxLen; omega) (by omega) (by omega) (wc.heap.size + 1) hz ?_
  intro g' cap w2 ow hg hat hlt
  refine h _ w2 ?_ ((St.of_below hb).trans (St.of_grown (S := fun x => v.ownBlock = some x) hg fun k e => e) fun _ _ q => q) ?_
  · show World.ownsRow _ _ _ _ _ _ _
    rw [entCells_snoc, List.length_append]
    exact ow
  · rcases hat with h1 | h1
    · exact .inl (by rw [h1]; rfl)
    · exact .inr ⟨g', rfl, by omega⟩
theorem RS.upto_len (r : RS) (k : Nat) : (r.upto k).length ≤ k := by
  induction k with
  | zero => simp [RS.upto]
  | succ k ih =>
    unfold RS.upto
    split
    · omega
    · simp only [List.length_append, List.length_singleton]; omega
theorem RS.alive_at {r : RS} {k : Nat} (hk : k < r.gens.length) : r.aliveB (k : Int) ((r.gens.getD k 0 : Nat) : Int) = decide (k ∉ r.free) := by
  have h1 : r.gens[k]? = some (r.gens.getD k 0) := by rw [List.getD_eq_getElem?_getD, List.getElem?_eq_getElem hk]; rfl
  generalize r.gens.getD k 0 = g at *
  rw [Bool.eq_iff_iff, RS.aliveB_iff, decide_eq_true_iff, Int.toNat_natCast, Int.toNat_natCast]
  exact ⟨fun h => h.2.2.1, fun h => ⟨by omega, by omega, h, h1⟩⟩
set_option maxHeartbeats 1600000 in
set_option maxRecDepth 100000 in
theorem list_any {B : Nat} {W : World} {rb gb mb t : Nat} {fv : Value} {r : RS} (h : Rl B W rb gb mb fv t r) (ht : t ≤ 1000) :
    Calls Tryd.prog 19 #[.pointer (some ⟨rb, 0, none⟩)] W fun e W' => ∃ v, e = .returned v ∧ Ents W.heap.size W' v r.all ∧ Below W.heap.size W W' := by
  have H := hid h
  have c0 := h.c0
  have hn64 : (r.gens.length : Int) ≤ 64 := by have := h.small; omega
  obtain ⟨n, hn⟩ : ∃ n, n = r.gens.length := ⟨_, rfl⟩
  have HN := hid hn
  rw [← hn] at c0 hn64
  clear h hn
  go_enter Tryd.func19, Tryd.ntmps19
  go_wp2_with fail
  go_loopw [3, 4, 5, 6, 14] (fun lv _ _ _ i wr => ∃ k : Nat, k ≤ n ∧ i = .int .i64 (k : Int) ∧ Hid (Ents W.heap.size wr lv (r.upto k)) ∧ Hid (Below W.heap.size W wr)) (fun _ _ _ _ i _ => n - (intOf i).toNat)
  case atStart => exact ⟨0, Nat.zero_le _, rfl, World.ownsRow_nil _ _ _ _, Below.refl _ _⟩
  case round =>
    obtain ⟨k, hk, rfl, HL, HB⟩ := hrel
    by_cases hlt : k < n
    · have hki : (k : Int) < (n : Int) := by omega
      have hkn : k < r.gens.length := by rw [← HN.out]; exact hlt
      obtain ⟨g, hg⟩ : ∃ g, g = r.gens.getD k 0 := ⟨_, rfl⟩
      have R1 := hid (H.out.later HB.out)
      have hgt : g ≤ 1000 := by
        have : r.gens.getD k 0 ≤ t := by rw [List.getD_eq_getElem?_getD, List.getElem?_eq_getElem hkn]; exact H.out.old _ (List.getElem_mem hkn)
        omega
      have cg : wr.cell? ⟨gb, k, none⟩ = some (.int .i64 (g : Int)) := by
        refine cell_blk R1.out.gens ?_
        simp [hg, gI, hkn, List.getD_eq_getElem?_getD]
      have BX : Hid (Below wr.heap.size wr (wr.alloc (.cells #[.int .i64 (k : Int), .int .i64 (g : Int)] 24))) := (Below.refl _ _).alloc (Nat.le_refl _) _
      have AL := hid (alive_any (R1.out.later BX.out) (k : Int) (g : Int) (I64_small (by omega) (by omega)) (I64_small (by omega) (by omega)))
      have hgl : gb < wr.heap.size := World.block_lt_of_cell? wr _ cg
      have hgn : ¬ (gb = wr.heap.size) := by omega
      by_cases hm : k ∈ r.free
      · have e1 : r.aliveB (k : Int) (g : Int) = false := by rw [hg, RS.alive_at hkn]; simpa using hm
        rw [e1] at AL
        have e2 : Hid (r.upto (k + 1) = r.upto k) := by show r.upto (k + 1) = _; rw [RS.upto, if_pos hm]
        clear e1 hm
        have HG := hid hg
        clear hg
        go_wp2_with fail
        refine AL.out.mono ?_
        rintro e w1 ⟨rfl, hb⟩
        have B1 := hid (BX.out.trans (hb.mono BX.out.size))
        clear hb AL
        go_wp2_with fail
        go_roundw
        case rel => exact ⟨k + 1, by omega, by go_num, by rw [e2.out]; exact Ents.later HL.out B1.out, HB.out.trans (B1.out.mono HB.out.size)⟩
        case measure => simp [intOf]; omega
      · have e1 : r.aliveB (k : Int) (g : Int) = true := by rw [hg, RS.alive_at hkn]; simpa using hm
        rw [e1] at AL
        have e2 : Hid (r.upto (k + 1) = r.upto k ++ [(k, g)]) := by show r.upto (k + 1) = _; rw [RS.upto, if_neg hm, hg]
        clear e1 hm
        have HG := hid hg
        clear hg
        go_wp2_with fail
        refine AL.out.mono ?_
        rintro e w1 ⟨rfl, hb⟩
        have B1 := hid (BX.out.trans (hb.mono BX.out.size))
        have EB := hid (blk_seen hb (Nat.le_refl _) (heap_alloc_new wr (.cells #[.int .i64 (k : Int), .int .i64 (g : Int)] 24)))
        have d0 := cell_blk EB.out (j := 0) rfl
        have d1 := cell_blk EB.out (j := 1) rfl
        have HL1 := hid (Ents.later HL.out B1.out)
        have hul : (r.upto k).length ≤ 1000 := by have := r.upto_len k; omega
        have hw1 : W.heap.size ≤ w1.heap.size := by have := HB.out.size; have := B1.out.size; omega
        clear hb AL
        obtain ⟨la, lc, rfl⟩ := Ents.slice HL.out
        go_wp2_with (at_builtin; refine wpList_ent rfl _ _ rfl HL1.out hul hw1 rfl rfl ?_; intro v' w2 ho hst hat)
        have b2 : Hid (Below W.heap.size W w2) := (HB.out.trans (B1.out.mono HB.out.size)).trans (hst.out.below (fun x hx => (World.ownsRow.lt HL1.out x hx).1) hw1)
        exact ⟨⟨k + 1, by omega, by go_num, by rw [e2.out]; exact ho.out, b2.out⟩, by simp [intOf]; omega⟩
    · have hki : ¬ ((k : Int) < (n : Int)) := by omega
      have e1 : Hid (r.upto k = r.all) := by show r.upto k = r.upto _; rw [← HN.out, show k = n by omega]
      go_wp2_with fail
      go_ret
      exact ⟨_, rfl, by rw [← e1.out]; exact HL.out, HB.out⟩
set_option maxHeartbeats 400000 in
theorem list_nil (W : World) : Calls Tryd.prog 19 #[.pointer none] W fun e W' => e = .returned (.slice none 0 0) ∧ W' = W := by
  go_enter Tryd.func19, Tryd.ntmps19
  go_wp2
  go_ret
  exact ⟨rfl, rfl⟩
end Go.Proofs.YtdpoojopipcffaaDoor
