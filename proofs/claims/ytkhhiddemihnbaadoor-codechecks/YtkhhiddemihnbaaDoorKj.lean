/- Contracts of blame: Leaves. -/
import Derived.Test.YtkhhiddemihnbaaDoorKi
import Derived.Test.YtkhhiddemihnbaaDoorShelf
import Derived.Deep.AppendLies
import Derived.OneCell
namespace Go.Proofs.YtkhhiddemihnbaaDoor
open Go.RowKit Go.Shelf
attribute [local go_sem] Oper.semAt_some
/-- A way as a text. -/
def joinB (ws : List ByteArray) : ByteArray := ⟨(Lib.join (ws.map (·.data.toList)) [47]).toArray⟩
def leafCells (ls : List (List ByteArray × Nat)) : List Value := ls.flatMap fun p => [.string (joinB p.1), .int .i64 (p.2 : Int)]
theorem numOf_one : ∀ k, k < 18 → numOf [k + 1] = (k : Int) + 1 := by decide
theorem join_any (B : Nat) (tv : Value) (ts : List ByteArray) (w : World) (h : Trail B w tv ts) (hl : ts.length ≤ 1000) (hs : (joinB ts).size ≤ 100000) :
    Calls Tryd.prog 31 #[tv, .string ⟨#[47]⟩] w fun e w' => e = .returned (.string (joinB ts)) ∧ Below w.heap.size w w' := by
  rcases h.2 with ⟨rfl, h0⟩ | ⟨g, cap, cur, rfl, hb, hblk, hnc, hcm, hcs, htk⟩
  · have : ts = [] := List.eq_nil_of_length_eq_zero h0
    subst this
    refine (Tryd.strings_Join_none none 0 ⟨#[47]⟩ w).mono ?_
    rintro e w' ⟨rfl, rfl⟩
    exact ⟨rfl, Below.refl _ _⟩
  · refine Tryd.strings_Join g 0 cap ts ⟨#[47]⟩ w (fun j x hx => ?_) (Array.getElem?_eq_some_iff.1 hblk).1 (by omega) hnc ?_
    · have hj : j < ts.length := (List.getElem?_eq_some_iff.1 hx).1
      rw [Nat.zero_add, World.ownsRow.cellAt h j (by omega)]
      simp [hx, sv]
    · have : (Lib.join (ts.map (·.data.toList)) [47]).length = (joinB ts).size := by simp [joinB, ByteArray.size]
      show (Lib.join (ts.map (·.data.toList)) [47]).length ≤ _
      omega
theorem Tryd.infoLeaf : (Tryd.prog.info? 49).map (fun i => (i.zero, i.size, i.bytes)) = some (some (.agg #[.string ⟨#[]⟩, .int .i64 0]), 2, 24) := by kernel_rfl
theorem own_far {w w' : World} {B n z : Nat} {e : TypeId} {v : Value} {xs : List Value} (h : w.ownsRow B e z v n xs) (hb : Below w.heap.size w w') : w'.ownsRow B e z v n xs := by
  refine ⟨h.1, ?_⟩
  rcases h.2 with h1 | ⟨g, cap, cur, h1, h2, h3, h4⟩
  · exact .inl h1
  · exact .inr ⟨g, cap, cur, h1, h2, (hb.block g (Array.getElem?_eq_some_iff.1 h3).1).trans h3, h4⟩
/-- How Leaves stands between two leaves. -/
def LvI (n₀ : Nat) (w : World) (b : Nat) (s : List Lf) (W : World) : Prop :=
  ∃ lv, (W.heap[b]? = some (.cells #[lv] 44 (0, 0)) ∧ W.ownsRow n₀ 49 2 lv s.length (leafCells (s.map Lf.pair))) ∧ Below n₀ w W
theorem LvI.turn {n₀ : Nat} {w : World} {b B : Nat} (hb : b < B) (hw : n₀ ≤ B) (h0 : n₀ ≤ w.heap.size) (s : List Lf) (A A' : World) (h : LvI n₀ w b s A) (h1 : Turn (fun o => isRow o ∨ Odd o) B A A') : LvI n₀ w b s A' := by
  obtain ⟨lv, ⟨h2, h4⟩, h6⟩ := h
  refine ⟨lv, ⟨h1.block b _ h2 (.inl hb), ?_⟩, h6.trans ((h1.mono (fun _ h => h) hw).below (Nat.le_trans h0 h6.size))⟩
  refine ⟨h4.1, ?_⟩
  rcases h4.2 with h | ⟨g, cap, cur, e1, e2, e3, e4⟩
  · exact .inl h
  · refine .inr ⟨g, cap, cur, e1, e2, h1.block g _ e3 (.inr ?_), e4⟩
    rintro (⟨c, e⟩ | e) <;> cases e
theorem own_turn {P : Obj → Prop} {N : Nat} {w w' : World} {B n z : Nat} {e : TypeId} {v : Value} {xs : List Value} (h : w.ownsRow B e z v n xs) (ht : Turn P N w w') (hP : ∀ cur, ¬ P (.cells cur e (0, 0))) : w'.ownsRow B e z v n xs := by
  refine ⟨h.1, ?_⟩
  rcases h.2 with h1 | ⟨g, cap, cur, h1, h2, h3, h4⟩
  · exact .inl h1
  · exact .inr ⟨g, cap, cur, h1, h2, ht.block g _ h3 (.inr (hP cur)), h4⟩
theorem own_at {w : World} {B n z : Nat} {e : TypeId} {v : Value} {xs : List Value} (h : w.ownsRow B e z v n xs) {g : Nat} (hg : v.ownBlock = some g) : B ≤ g ∧ ∃ cur, w.heap[g]? = some (.cells cur e (0, 0)) := by
  rcases h.2 with ⟨h1, _⟩ | ⟨g', cap, cur, h1, h2, h3, h4⟩
  · rw [h1] at hg; cases hg
  · rw [h1] at hg
    simp [Value.ownBlock] at hg
    subst hg
    exact ⟨h2, cur, h3⟩
theorem lv_next {n₀ b g cap : Nat} {wl W w3 w4 : World} {lv : Value} {pre : List Lf} {x : Lf} (hn : n₀ ≤ b) (h0 : n₀ ≤ wl.heap.size) (hb : W.heap[b]? = some (.cells #[lv] 44 (0, 0))) (ho : W.ownsRow n₀ 49 2 lv pre.length (leafCells (pre.map Lf.pair))) (hB : Below n₀ wl W) (b3 : Below W.heap.size W w3)
    (o4 : w4.ownsRow n₀ 49 2 (.slice (some ⟨g, 0, none⟩) (pre.length + 1) cap) (pre.length + 1) (leafCells (pre.map Lf.pair) ++ [.string (joinB x.ts), .int .i64 (x.k : Int)])) (g4 : w3.grownBy w4 lv.ownBlock) (at4 : lv.ownBlock = some g ∨ g = w3.heap.size) :
    KeepsOthers W (w4.setCell ⟨b, 0, none⟩ (.slice (some ⟨g, 0, none⟩) (pre.length + 1) cap)) ∧ Kp n₀ W (w4.setCell ⟨b, 0, none⟩ (.slice (some ⟨g, 0, none⟩) (pre.length + 1) cap)) ∧ LvI n₀ wl b (pre ++ [x]) (w4.setCell ⟨b, 0, none⟩ (.slice (some ⟨g, 0, none⟩) (pre.length + 1) cap)) := by
  have hbW : b < W.heap.size := (Array.getElem?_eq_some_iff.1 hb).1
  have hne : ∀ g', lv.ownBlock = some g' → g' ≠ b := by
    rintro g' hg' rfl
    obtain ⟨-, cur, hc⟩ := own_at ho hg'
    rw [hb] at hc
    cases hc
  have hb4 : w4.heap[b]? = some (.cells #[lv] 44 (0, 0)) := by
    rw [g4.block b (Nat.lt_of_lt_of_le hbW b3.size) (fun e => hne b e.symm rfl), b3.block b hbW]; exact hb
  have keep : ∀ (k : Nat) (o : Obj), W.heap[k]? = some o → k ≠ b → some k ≠ lv.ownBlock → (w4.setCell ⟨b, 0, none⟩ (.slice (some ⟨g, 0, none⟩) (pre.length + 1) cap)).heap[k]? = some o := by
    intro k o hk h1 h2
    have hkW : k < W.heap.size := (Array.getElem?_eq_some_iff.1 hk).1
    rw [Below.heap_setCell _ _ _ _ h1, g4.block k (Nat.lt_of_lt_of_le hkW b3.size) h2, b3.block k hkW]; exact hk
  have hsz : W.heap.size ≤ (w4.setCell ⟨b, 0, none⟩ (.slice (some ⟨g, 0, none⟩) (pre.length + 1) cap)).heap.size := by simp; exact Nat.le_trans b3.size g4.size
  have hT : Kp n₀ W (w4.setCell ⟨b, 0, none⟩ (.slice (some ⟨g, 0, none⟩) (pre.length + 1) cap)) := by
    refine ⟨g4.os.trans b3.os, g4.tape.trans b3.tape, g4.output.trans b3.output, hsz, fun k o hk hp => ?_⟩
    refine keep k o hk ?_ ?_
    · rintro rfl
      rw [hb] at hk
      cases hk
      rcases hp with hp | hp
      · omega
      · exact hp (by rintro ⟨c, e | e⟩ <;> cases e)
    · intro e
      obtain ⟨h1, cur, hc⟩ := own_at ho e.symm
      rw [hk] at hc
      cases hc
      rcases hp with hp | hp
      · omega
      · exact hp (by rintro ⟨c, e | e⟩ <;> cases e)
  refine ⟨⟨hsz, fun k o hk hcell => keep k o hk ?_ ?_⟩, hT, .slice (some ⟨g, 0, none⟩) (pre.length + 1) cap, ⟨one_setCell hb4, ?_⟩, hB.trans (Turn.below hT (Nat.le_trans h0 hB.size))⟩
  · rintro rfl
    rw [hb] at hk
    cases hk
    cases hcell
  · intro e
    obtain ⟨h1, cur, hc⟩ := own_at ho e.symm
    rw [hk] at hc
    cases hc
    cases hcell
  · have hgb : g ≠ b := by
      rcases at4 with h | h
      · exact hne g h
      · have := b3.size; omega
    have h5 := ownsRow_setCell_other o4 (a := ⟨b, 0, none⟩) (fun e => hgb (by simpa [Value.ownBlock] using e)) (.slice (some ⟨g, 0, none⟩) (pre.length + 1) cap)
    have e1 : (pre ++ [x]).length = pre.length + 1 := by simp
    have e2 : leafCells ((pre ++ [x]).map Lf.pair) = leafCells (pre.map Lf.pair) ++ [.string (joinB x.ts), .int .i64 (x.k : Int)] := by simp [leafCells, Lf.pair]
    rw [e1, e2]
    exact h5
theorem leaf_number (Ad : Nat → Addr) (k : Nat) (w : World) (hE : Env w Ad) (h1 : 1 ≤ k) (h2 : k ≤ 18) :
    Calls Tryd.prog 32 #[.iface 163 (.pointer (some (Ad k)))] w fun e w' => e = .returned (.int .i64 (k : Int)) ∧ Below w.heap.size w w' := by
  have h := number_some Ad (.iface 163 (.pointer (some (Ad k)))) [([], k)] 0 w hE (.leaf 0 k ⟨h1, h2⟩) (by omega) ⟨_, _, rfl⟩
  obtain ⟨j, rfl⟩ : ∃ j, k = j + 1 := ⟨k - 1, by omega⟩
  rw [show numOf ([([], j + 1)].map Prod.snd) = ((j + 1 : Nat) : Int) by show numOf [j + 1] = _; rw [numOf_one j (by omega)]; rfl] at h
  exact h
set_option maxHeartbeats 2000000 in
set_option maxRecDepth 100000 in
theorem leaves_any (Ad : Nat → Addr) (v : Value) (ls : List (List ByteArray × Nat)) (d : Nat) (w : World) (hE : Env w Ad) (hT : Tr Ad w.heap.size w d v ls) (hd : d ≤ 1000) (hs : ∀ p ∈ ls, (joinB p.1).size ≤ 100000 ∧ p.1.length ≤ 1000) (hl : ls.length ≤ 1000) :
    Calls Tryd.prog 17 #[v] w fun e w' => ∃ lv, e = .returned lv ∧ w'.ownsRow w.heap.size 49 2 lv ls.length (leafCells ls) ∧ Below w.heap.size w w' := by
  have HV := hid hT.isIface
  have HT := hid hT
  have HE := hid hE
  clear hT hE
  refine callsIn_wide (n := 5) |>.1 ?_
  refine callsIn_of_wp_marks Tryd.func17 rfl trivial ?_ rfl
  simp only [Tryd.ntmps17, List.size_toArray, List.length_cons, List.length_nil, Nat.reduceAdd, Nat.reduceSub, Array.replicate_succ, Array.replicate_zero, List.push_toArray, List.append_toArray, List.nil_append, List.cons_append]
  gi_wp2_with fail
  refine ⟨trivial, ?_⟩
  refine (callsIn_wide.2 (parts_any v HV.out _)).mono ?_
  rintro e w' ⟨rfl, rfl⟩
  gi_wp2_with fail
  obtain ⟨wl, hwl⟩ : ∃ wl, wl = (w.alloc (.cells #[.slice none 0 0] 44)).alloc (.cells #[v] 42) := ⟨_, rfl⟩
  rw [← hwl]
  have hsz : wl.heap.size = w.heap.size + 1 + 1 := by rw [hwl]; simp
  have hb0 : Below w.heap.size w wl := by rw [hwl]; exact ((Below.refl _ _).alloc (Nat.le_refl _) _).alloc (by simp) _
  have hb1 : Below (w.heap.size + 1) (w.alloc (.cells #[.slice none 0 0] 44)) wl := by rw [hwl]; exact (Below.refl _ _).alloc (by simp) _
  have hblk : wl.heap[w.heap.size]? = some (.cells #[.slice none 0 0] 44 (0, 0)) := (hb1.block w.heap.size (by omega)).trans (heap_alloc_new w _)
  have c2 : wl.cell? ⟨w.heap.size + 1, 0, none⟩ = some v := by
    rw [hwl]
    have := new_cell (w.alloc (.cells #[.slice none 0 0] 44)) v 42
    rw [World.size_alloc] at this
    exact this
  refine range_law (P := Tryd.prog) rfl (by decide) (gf := 50) (lb := #[.pointer (some ⟨w.heap.size + 1, 0, none⟩)]) rfl trivial (enters_of Tryd.func50 (by kernel_rfl) rfl)
    (encs Ad) (fun _ => rfl) isRow isRow_cells (Handed wl.heap.size ls) (LvI w.heap.size wl w.heap.size) (fun _ _ _ => False) (Kp w.heap.size)
    (fun xs => xs.map Lf.pair = ls) (fun xs => xs.map Lf.pair <+: ls)
    ?hR (LvI.turn (by omega) (by omega) (by omega)) (fun _ _ _ _ h _ => h) ⟨.slice none 0 0, ⟨hblk, World.ownsRow_nil _ _ _ _⟩, Below.refl _ _⟩ w.heap.size ?hBi (fun _ _ _ h => h.elim) ?hKt ?hKb
    (parts_seq Ad w.heap.size (w.heap.size + 1) d w wl v ls _ _ HT.out hd hb0 (by omega) (by omega) c2)
    (fun x => { tmps := #[v, undef, .slice none 0 0, .pointer (some ⟨w.heap.size, 0, none⟩), x.tv, .iface 163 (.pointer (some (Ad x.k))), v, .func (.func 50) #[] #[.pointer (some ⟨w.heap.size + 1, 0, none⟩)], x.tv, .iface 163 (.pointer (some (Ad x.k))), undef, undef, undef, undef, undef, undef, undef, undef, undef], defers := [] }) ?assign ?body ?done ?stop
  case hR =>
    rintro s x A B ⟨h1, h2⟩ ht
    exact ⟨own_later h1 fun g cur _ hg => ht.block g _ hg (.inr fun h => by cases h), h2⟩
  case hBi => exact fun s A ⟨_, _, h⟩ => h
  case hKt => exact fun h1 h2 => h1.trans h2
  case hKb => exact fun h => h.mono odd_kept (by omega)
  case assign =>
    intro l x W K hK
    simp only [encs]
    gi_wp2
    exact hK
  case body =>
    rintro l pre x W hlt ⟨lv, ⟨hblkW, ho⟩, hB⟩ ⟨htr, hx1, hx2, hG⟩
    have HG := hid (hs x.pair (hG.subset (by simp)))
    have hpl : pre.length < ls.length := by have := hG.length_le; simp at this; omega
    have HTR := hid htr
    have HO := hid ho
    have EW := hid (HE.out.later (hb0.trans hB))
    have HB := hid hB
    have HBW := hid hblkW
    have hbW : w.heap.size < W.heap.size := (Array.getElem?_eq_some_iff.1 hblkW).1
    have hc := cell_of_one hblkW
    have hf := free_of_one hblkW
    clear hs hG htr ho hB hblkW
    gi_wp2_with fail
    refine region_round0 (by kernel_rfl) (by kernel_rfl) (by rintro ⟨a, w, h⟩; exact h) ?_
    refine wpAny_take (i := 1) (v := x.tv) rfl (by kernel_rfl) (by kernel_rfl) (by kernel_rfl) (fun _ _ _ h => h) (.inl ⟨by rfl, fun W' => ?_⟩) ?_
    · go_simp
    refine wpAny_take (i := 3) (v := .iface 163 (.pointer (some (Ad x.k)))) rfl (by kernel_rfl) (by kernel_rfl) (by kernel_rfl) (fun _ _ _ h => h) (.inl ⟨by rfl, fun W' => ?_⟩) ?_
    · go_simp
    refine wpAny_ready (rs := [0, 2]) (by kernel_rfl) (by simp) ?_
    refine AllReady.cons rfl (fun K hK => ?_) (AllReady.cons rfl (fun K hK => ?_) AllReady.nil)
    · go_simp
      refine hK _ _ ?_
      clear hK K
      refine wpAny_ready (rs := [2]) (by kernel_rfl) (by simp) ?_
      refine AllReady.cons rfl (fun K hK => ?_) AllReady.nil
      go_simp
      refine (join_any wl.heap.size x.tv x.ts W.drew HTR.out HG.out.2 HG.out.1).mono ?_
      rintro e w1 ⟨rfl, hb1⟩
      have B1 := hid (show Below W.heap.size W w1 from (Below.refl W.heap.size W).drew.trans hb1)
      have c1 : w1.cell? ⟨w.heap.size, 0, none⟩ = some lv := (B1.out.cell (p := ⟨w.heap.size, 0, none⟩) hbW).trans hc
      refine hK _ _ ?_
      clear hK K hb1
      refine wpAny_ready (rs := [4]) (by kernel_rfl) (by simp) ?_
      refine AllReady.cons rfl (fun K hK => ?_) AllReady.nil
      go_simp
      refine (leaf_number Ad x.k w1 (EW.out.later B1.out) hx1 hx2).mono ?_
      rintro e w2 ⟨rfl, hb2⟩
      have B2 := hid (show Below W.heap.size W w2 from B1.out.trans (hb2.mono B1.out.size))
      have c2 : w2.cell? ⟨w.heap.size, 0, none⟩ = some lv := (B2.out.cell (p := ⟨w.heap.size, 0, none⟩) hbW).trans hc
      refine hK _ _ ?_
      clear hK K hb2
      refine wpAny_take (i := 5) (v := .agg #[.string (joinB x.ts), .int .i64 (x.k : Int)]) rfl (by kernel_rfl) (by kernel_rfl) (by kernel_rfl) (fun _ _ _ h => h) (.inl ⟨by rfl, fun W' => ?_⟩) ?_
      · go_simp
      refine wpAny_ready (rs := [6]) (by kernel_rfl) (by simp) ?_
      refine AllReady.cons rfl (fun K hK => ?_) AllReady.nil
      go_simp
      refine hK _ _ ?_
      clear hK K
      have B3 := hid (show Below W.heap.size W (w2.alloc (.cells #[.string (joinB x.ts), .int .i64 (x.k : Int)] 49)) from B2.out.alloc B2.out.size _)
      have c3 : (w2.alloc (.cells #[.string (joinB x.ts), .int .i64 (x.k : Int)] 49)).cell? ⟨w.heap.size, 0, none⟩ = some lv := (B3.out.cell (p := ⟨w.heap.size, 0, none⟩) hbW).trans hc
      have f3 : (w2.alloc (.cells #[.string (joinB x.ts), .int .i64 (x.k : Int)] 49)).frozen? ⟨w.heap.size, 0, none⟩ = false := (B3.out.frozen (p := ⟨w.heap.size, 0, none⟩) hbW).trans hf
      have hnew : (w2.alloc (.cells #[.string (joinB x.ts), .int .i64 (x.k : Int)] 49)).heap[w2.heap.size]? = some (.cells #[.string (joinB x.ts), .int .i64 (x.k : Int)] 49 (0, 0)) := heap_alloc_new w2 _
      have hszw : W.heap.size ≤ (w2.alloc (.cells #[.string (joinB x.ts), .int .i64 (x.k : Int)] 49)).heap.size := B3.out.size
      generalize hw3 : w2.alloc (.cells #[.string (joinB x.ts), .int .i64 (x.k : Int)] 49) = w3 at *
      have O3 : Hid (w3.ownsRow w.heap.size 49 2 lv pre.length (leafCells (pre.map Lf.pair))) := own_far HO.out B3.out
      clear hw3
      refine wpAny_ready (rs := [7]) (by kernel_rfl) (by simp) ?_
      refine AllReady.cons rfl (fun K hK => ?_) AllReady.nil
      rw [if_pos (by rfl)]
      obtain ⟨i0, hi, hz0, hz1, hz2⟩ := info_parts Tryd.infoLeaf
      refine wp_append_lies w3 (.tmp 10) (.tmp 16) 44 rfl w.heap.size 49 i0 (.agg #[.string ⟨#[]⟩, .int .i64 0]) 2 24 Tryd.underlying44 hi hz0 hz1 hz2 rfl (by decide) lv pre.length _ rfl O3.out ⟨w2.heap.size, 0, none⟩ 1 1 [.string (joinB x.ts), .int .i64 (x.k : Int)] rfl rfl (World.news_of_block hnew) (by intro u hu; simp at hu; rcases hu with rfl | rfl <;> rfl) (by decide) (by simp [maxLen]; omega) (by omega) (by omega) w3.heap.size rfl ?_
      intro g cap w4 o4 g4 at4 lt4
      have N4 := hid (lv_next (x := x) (Nat.le_refl _) (by omega) HBW.out HO.out HB.out B3.out o4 g4 at4)
      have hne4 : some w.heap.size ≠ lv.ownBlock := by
        intro e
        obtain ⟨-, cur, hcur⟩ := own_at HO.out e.symm
        rw [HBW.out] at hcur
        cases hcur
      have c4 : w4.cell? ⟨w.heap.size, 0, none⟩ = some lv := (g4.cell_far ⟨w.heap.size, 0, none⟩ (by show w.heap.size < _; omega) hne4).trans c3
      have f4 : w4.frozen? ⟨w.heap.size, 0, none⟩ = false := (g4.frozen_far ⟨w.heap.size, 0, none⟩ (by show w.heap.size < _; omega) hne4).trans f3
      refine hK _ _ ?_
      clear hK K o4 g4 at4 hne4 c3 f3
      refine wpAny_ready (rs := [8]) (by kernel_rfl) (by simp) ?_
      refine AllReady.cons rfl (fun K hK => ?_) AllReady.nil
      go_simp
      refine hK _ _ ?_
      clear hK K
      refine wpAny_done (by kernel_rfl) ?_ _
      exact N4.out
    · go_simp
      refine (join_any wl.heap.size x.tv x.ts W.drew HTR.out HG.out.2 HG.out.1).mono ?_
      rintro e w1 ⟨rfl, hb1⟩
      have B1 := hid (show Below W.heap.size W w1 from (Below.refl W.heap.size W).drew.trans hb1)
      have c1 : w1.cell? ⟨w.heap.size, 0, none⟩ = some lv := (B1.out.cell (p := ⟨w.heap.size, 0, none⟩) hbW).trans hc
      refine hK _ _ ?_
      clear hK K hb1
      refine wpAny_ready (rs := [0, 4]) (by kernel_rfl) (by simp) ?_
      refine AllReady.cons rfl (fun K hK => ?_) (AllReady.cons rfl (fun K hK => ?_) AllReady.nil)
      · go_simp
        refine hK _ _ ?_
        clear hK K
        refine wpAny_ready (rs := [4]) (by kernel_rfl) (by simp) ?_
        refine AllReady.cons rfl (fun K hK => ?_) AllReady.nil
        go_simp
        refine (leaf_number Ad x.k w1 (EW.out.later B1.out) hx1 hx2).mono ?_
        rintro e w2 ⟨rfl, hb2⟩
        have B2 := hid (show Below W.heap.size W w2 from B1.out.trans (hb2.mono B1.out.size))
        have c2 : w2.cell? ⟨w.heap.size, 0, none⟩ = some lv := (B2.out.cell (p := ⟨w.heap.size, 0, none⟩) hbW).trans hc
        refine hK _ _ ?_
        clear hK K hb2
        refine wpAny_take (i := 5) (v := .agg #[.string (joinB x.ts), .int .i64 (x.k : Int)]) rfl (by kernel_rfl) (by kernel_rfl) (by kernel_rfl) (fun _ _ _ h => h) (.inl ⟨by rfl, fun W' => ?_⟩) ?_
        · go_simp
        refine wpAny_ready (rs := [6]) (by kernel_rfl) (by simp) ?_
        refine AllReady.cons rfl (fun K hK => ?_) AllReady.nil
        go_simp
        refine hK _ _ ?_
        clear hK K
        have B3 := hid (show Below W.heap.size W (w2.alloc (.cells #[.string (joinB x.ts), .int .i64 (x.k : Int)] 49)) from B2.out.alloc B2.out.size _)
        have c3 : (w2.alloc (.cells #[.string (joinB x.ts), .int .i64 (x.k : Int)] 49)).cell? ⟨w.heap.size, 0, none⟩ = some lv := (B3.out.cell (p := ⟨w.heap.size, 0, none⟩) hbW).trans hc
        have f3 : (w2.alloc (.cells #[.string (joinB x.ts), .int .i64 (x.k : Int)] 49)).frozen? ⟨w.heap.size, 0, none⟩ = false := (B3.out.frozen (p := ⟨w.heap.size, 0, none⟩) hbW).trans hf
        have hnew : (w2.alloc (.cells #[.string (joinB x.ts), .int .i64 (x.k : Int)] 49)).heap[w2.heap.size]? = some (.cells #[.string (joinB x.ts), .int .i64 (x.k : Int)] 49 (0, 0)) := heap_alloc_new w2 _
        have hszw : W.heap.size ≤ (w2.alloc (.cells #[.string (joinB x.ts), .int .i64 (x.k : Int)] 49)).heap.size := B3.out.size
        generalize hw3 : w2.alloc (.cells #[.string (joinB x.ts), .int .i64 (x.k : Int)] 49) = w3 at *
        have O3 : Hid (w3.ownsRow w.heap.size 49 2 lv pre.length (leafCells (pre.map Lf.pair))) := own_far HO.out B3.out
        clear hw3
        refine wpAny_ready (rs := [7]) (by kernel_rfl) (by simp) ?_
        refine AllReady.cons rfl (fun K hK => ?_) AllReady.nil
        rw [if_pos (by rfl)]
        obtain ⟨i0, hi, hz0, hz1, hz2⟩ := info_parts Tryd.infoLeaf
        refine wp_append_lies w3 (.tmp 10) (.tmp 16) 44 rfl w.heap.size 49 i0 (.agg #[.string ⟨#[]⟩, .int .i64 0]) 2 24 Tryd.underlying44 hi hz0 hz1 hz2 rfl (by decide) lv pre.length _ rfl O3.out ⟨w2.heap.size, 0, none⟩ 1 1 [.string (joinB x.ts), .int .i64 (x.k : Int)] rfl rfl (World.news_of_block hnew) (by intro u hu; simp at hu; rcases hu with rfl | rfl <;> rfl) (by decide) (by simp [maxLen]; omega) (by omega) (by omega) w3.heap.size rfl ?_
        intro g cap w4 o4 g4 at4 lt4
        have N4 := hid (lv_next (x := x) (Nat.le_refl _) (by omega) HBW.out HO.out HB.out B3.out o4 g4 at4)
        have hne4 : some w.heap.size ≠ lv.ownBlock := by
          intro e
          obtain ⟨-, cur, hcur⟩ := own_at HO.out e.symm
          rw [HBW.out] at hcur
          cases hcur
        have c4 : w4.cell? ⟨w.heap.size, 0, none⟩ = some lv := (g4.cell_far ⟨w.heap.size, 0, none⟩ (by show w.heap.size < _; omega) hne4).trans c3
        have f4 : w4.frozen? ⟨w.heap.size, 0, none⟩ = false := (g4.frozen_far ⟨w.heap.size, 0, none⟩ (by show w.heap.size < _; omega) hne4).trans f3
        refine hK _ _ ?_
        clear hK K o4 g4 at4 hne4 c3 f3
        refine wpAny_ready (rs := [8]) (by kernel_rfl) (by simp) ?_
        refine AllReady.cons rfl (fun K hK => ?_) AllReady.nil
        go_simp
        refine hK _ _ ?_
        clear hK K
        refine wpAny_done (by kernel_rfl) ?_ _
        exact N4.out
      · go_simp
        refine (leaf_number Ad x.k w1 (EW.out.later B1.out) hx1 hx2).mono ?_
        rintro e w2 ⟨rfl, hb2⟩
        have B2 := hid (show Below W.heap.size W w2 from B1.out.trans (hb2.mono B1.out.size))
        have c2 : w2.cell? ⟨w.heap.size, 0, none⟩ = some lv := (B2.out.cell (p := ⟨w.heap.size, 0, none⟩) hbW).trans hc
        refine hK _ _ ?_
        clear hK K hb2
        refine wpAny_take (i := 5) (v := .agg #[.string (joinB x.ts), .int .i64 (x.k : Int)]) rfl (by kernel_rfl) (by kernel_rfl) (by kernel_rfl) (fun _ _ _ h => h) (.inl ⟨by rfl, fun W' => ?_⟩) ?_
        · go_simp
        refine wpAny_ready (rs := [0, 6]) (by kernel_rfl) (by simp) ?_
        refine AllReady.cons rfl (fun K hK => ?_) (AllReady.cons rfl (fun K hK => ?_) AllReady.nil)
        · go_simp
          refine hK _ _ ?_
          clear hK K
          refine wpAny_ready (rs := [6]) (by kernel_rfl) (by simp) ?_
          refine AllReady.cons rfl (fun K hK => ?_) AllReady.nil
          go_simp
          refine hK _ _ ?_
          clear hK K
          have B3 := hid (show Below W.heap.size W (w2.alloc (.cells #[.string (joinB x.ts), .int .i64 (x.k : Int)] 49)) from B2.out.alloc B2.out.size _)
          have c3 : (w2.alloc (.cells #[.string (joinB x.ts), .int .i64 (x.k : Int)] 49)).cell? ⟨w.heap.size, 0, none⟩ = some lv := (B3.out.cell (p := ⟨w.heap.size, 0, none⟩) hbW).trans hc
          have f3 : (w2.alloc (.cells #[.string (joinB x.ts), .int .i64 (x.k : Int)] 49)).frozen? ⟨w.heap.size, 0, none⟩ = false := (B3.out.frozen (p := ⟨w.heap.size, 0, none⟩) hbW).trans hf
          have hnew : (w2.alloc (.cells #[.string (joinB x.ts), .int .i64 (x.k : Int)] 49)).heap[w2.heap.size]? = some (.cells #[.string (joinB x.ts), .int .i64 (x.k : Int)] 49 (0, 0)) := heap_alloc_new w2 _
          have hszw : W.heap.size ≤ (w2.alloc (.cells #[.string (joinB x.ts), .int .i64 (x.k : Int)] 49)).heap.size := B3.out.size
          generalize hw3 : w2.alloc (.cells #[.string (joinB x.ts), .int .i64 (x.k : Int)] 49) = w3 at *
          have O3 : Hid (w3.ownsRow w.heap.size 49 2 lv pre.length (leafCells (pre.map Lf.pair))) := own_far HO.out B3.out
          clear hw3
          refine wpAny_ready (rs := [7]) (by kernel_rfl) (by simp) ?_
          refine AllReady.cons rfl (fun K hK => ?_) AllReady.nil
          rw [if_pos (by rfl)]
          obtain ⟨i0, hi, hz0, hz1, hz2⟩ := info_parts Tryd.infoLeaf
          refine wp_append_lies w3 (.tmp 10) (.tmp 16) 44 rfl w.heap.size 49 i0 (.agg #[.string ⟨#[]⟩, .int .i64 0]) 2 24 Tryd.underlying44 hi hz0 hz1 hz2 rfl (by decide) lv pre.length _ rfl O3.out ⟨w2.heap.size, 0, none⟩ 1 1 [.string (joinB x.ts), .int .i64 (x.k : Int)] rfl rfl (World.news_of_block hnew) (by intro u hu; simp at hu; rcases hu with rfl | rfl <;> rfl) (by decide) (by simp [maxLen]; omega) (by omega) (by omega) w3.heap.size rfl ?_
          intro g cap w4 o4 g4 at4 lt4
          have N4 := hid (lv_next (x := x) (Nat.le_refl _) (by omega) HBW.out HO.out HB.out B3.out o4 g4 at4)
          have hne4 : some w.heap.size ≠ lv.ownBlock := by
            intro e
            obtain ⟨-, cur, hcur⟩ := own_at HO.out e.symm
            rw [HBW.out] at hcur
            cases hcur
          have c4 : w4.cell? ⟨w.heap.size, 0, none⟩ = some lv := (g4.cell_far ⟨w.heap.size, 0, none⟩ (by show w.heap.size < _; omega) hne4).trans c3
          have f4 : w4.frozen? ⟨w.heap.size, 0, none⟩ = false := (g4.frozen_far ⟨w.heap.size, 0, none⟩ (by show w.heap.size < _; omega) hne4).trans f3
          refine hK _ _ ?_
          clear hK K o4 g4 at4 hne4 c3 f3
          refine wpAny_ready (rs := [8]) (by kernel_rfl) (by simp) ?_
          refine AllReady.cons rfl (fun K hK => ?_) AllReady.nil
          go_simp
          refine hK _ _ ?_
          clear hK K
          refine wpAny_done (by kernel_rfl) ?_ _
          exact N4.out
        · go_simp
          refine hK _ _ ?_
          clear hK K
          have B3 := hid (show Below W.heap.size W (w2.alloc (.cells #[.string (joinB x.ts), .int .i64 (x.k : Int)] 49)) from B2.out.alloc B2.out.size _)
          have c3 : (w2.alloc (.cells #[.string (joinB x.ts), .int .i64 (x.k : Int)] 49)).cell? ⟨w.heap.size, 0, none⟩ = some lv := (B3.out.cell (p := ⟨w.heap.size, 0, none⟩) hbW).trans hc
          have f3 : (w2.alloc (.cells #[.string (joinB x.ts), .int .i64 (x.k : Int)] 49)).frozen? ⟨w.heap.size, 0, none⟩ = false := (B3.out.frozen (p := ⟨w.heap.size, 0, none⟩) hbW).trans hf
          have hnew : (w2.alloc (.cells #[.string (joinB x.ts), .int .i64 (x.k : Int)] 49)).heap[w2.heap.size]? = some (.cells #[.string (joinB x.ts), .int .i64 (x.k : Int)] 49 (0, 0)) := heap_alloc_new w2 _
          have hszw : W.heap.size ≤ (w2.alloc (.cells #[.string (joinB x.ts), .int .i64 (x.k : Int)] 49)).heap.size := B3.out.size
          generalize hw3 : w2.alloc (.cells #[.string (joinB x.ts), .int .i64 (x.k : Int)] 49) = w3 at *
          have O3 : Hid (w3.ownsRow w.heap.size 49 2 lv pre.length (leafCells (pre.map Lf.pair))) := own_far HO.out B3.out
          clear hw3
          refine wpAny_ready (rs := [0]) (by kernel_rfl) (by simp) ?_
          refine AllReady.cons rfl (fun K hK => ?_) AllReady.nil
          go_simp
          refine hK _ _ ?_
          clear hK K
          refine wpAny_ready (rs := [7]) (by kernel_rfl) (by simp) ?_
          refine AllReady.cons rfl (fun K hK => ?_) AllReady.nil
          rw [if_pos (by rfl)]
          obtain ⟨i0, hi, hz0, hz1, hz2⟩ := info_parts Tryd.infoLeaf
          refine wp_append_lies w3 (.tmp 10) (.tmp 16) 44 rfl w.heap.size 49 i0 (.agg #[.string ⟨#[]⟩, .int .i64 0]) 2 24 Tryd.underlying44 hi hz0 hz1 hz2 rfl (by decide) lv pre.length _ rfl O3.out ⟨w2.heap.size, 0, none⟩ 1 1 [.string (joinB x.ts), .int .i64 (x.k : Int)] rfl rfl (World.news_of_block hnew) (by intro u hu; simp at hu; rcases hu with rfl | rfl <;> rfl) (by decide) (by simp [maxLen]; omega) (by omega) (by omega) w3.heap.size rfl ?_
          intro g cap w4 o4 g4 at4 lt4
          have N4 := hid (lv_next (x := x) (Nat.le_refl _) (by omega) HBW.out HO.out HB.out B3.out o4 g4 at4)
          have hne4 : some w.heap.size ≠ lv.ownBlock := by
            intro e
            obtain ⟨-, cur, hcur⟩ := own_at HO.out e.symm
            rw [HBW.out] at hcur
            cases hcur
          have c4 : w4.cell? ⟨w.heap.size, 0, none⟩ = some lv := (g4.cell_far ⟨w.heap.size, 0, none⟩ (by show w.heap.size < _; omega) hne4).trans c3
          have f4 : w4.frozen? ⟨w.heap.size, 0, none⟩ = false := (g4.frozen_far ⟨w.heap.size, 0, none⟩ (by show w.heap.size < _; omega) hne4).trans f3
          refine hK _ _ ?_
          clear hK K o4 g4 at4 hne4 c3 f3
          refine wpAny_ready (rs := [8]) (by kernel_rfl) (by simp) ?_
          refine AllReady.cons rfl (fun K hK => ?_) AllReady.nil
          go_simp
          refine hK _ _ ?_
          clear hK K
          refine wpAny_done (by kernel_rfl) ?_ _
          exact N4.out
  case done =>
    rintro D ys W hD hS ⟨lv, ⟨hblkW, ho⟩, hB⟩ hK
    have hc := cell_of_one hblkW
    have hT : Turn Odd w.heap.size W (W.putObj D (.deferred none)) := Turn.put _ (by omega) hK rfl
    have ho2 := own_turn ho hT (fun cur h => by cases h)
    have el : ys.length = ls.length := by rw [← hS]; simp
    rw [hS, el] at ho2
    have HO := hid ho2
    have HB := hid ((hb0.trans hB).trans (hT.below (Nat.le_trans hb0.size hB.size)))
    clear ho2 ho hT
    gi_wp2
    refine ⟨by simp, .inl ⟨_, _, rfl, run_takeDeferred hK, ?_⟩⟩
    exact ⟨_, results_tmp rfl _ _ _, ⟨lv, rfl, HO.out, HB.out⟩⟩
  case stop =>
    rintro D c pre W hD hS h hK
    exact h.elim
end Go.Proofs.YtkhhiddemihnbaaDoor
