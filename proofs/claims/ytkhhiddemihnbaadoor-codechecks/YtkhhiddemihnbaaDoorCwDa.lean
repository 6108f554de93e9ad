/- The laws' schema. -/
import Derived.Test.YtkhhiddemihnbaaDoorCwCg
namespace Go.Proofs.YtkhhiddemihnbaaDoor.Cw
open Go.RowKit Go.Shelf
theorem own_kept {B : Nat} {W W' : World} {ty : TypeId} {sz : Nat} {v : Value} {n : Nat} {l : List Value} {T : Nat → Prop} (h : W.ownsRow B ty sz v n l) (hs : St T W W') (hn : ∀ k, v.ownBlock = some k → ¬ T k) : W'.ownsRow B ty sz v n l :=
  ⟨h.1, h.2.elim .inl fun ⟨g, cap, cur, h1, h2, h3, h4⟩ => .inr ⟨g, cap, cur, h1, h2, hs.at h3 (hn g (by rw [h1]; rfl)), h4⟩⟩
theorem infoCmp : (Tryd.prog.info? 65).map (fun i => (i.zero, i.size, i.bytes)) = some (some (.agg #[.string ⟨#[]⟩, .int .i64 0, .bool false, .int .i64 0, .int .i64 0, .int .i64 0, .int .i64 0]), 7, 64) := by kernel_rfl
def cArr (c : Cmp) : List Value := [.string c.s, .int .i64 c.wd, .bool c.rb, .int .i64 c.d0, .int .i64 c.d1, .int .i64 c.d2, .int .i64 c.d3]
def cCells (l : List Cmp) : List Value := l.flatMap cArr
def Cmps (B : Nat) (W : World) (v : Value) (l : List Cmp) : Prop := W.ownsRow B 65 7 v l.length (cCells l)
theorem cCells_at : ∀ (l : List Cmp) (j : Nat) (c : Cmp), l[j]? = some c → ∀ i, i < 7 → (cCells l)[j * 7 + i]? = (cArr c)[i]? := by
  intro l
  induction l with
  | nil => intro j c h; simp at h
  | cons x l ih =>
    intro j c h i hi
    have e : cCells (x :: l) = cArr x ++ cCells l := by simp [cCells]
    have hx : (cArr x).length = 7 := rfl
    cases j with
    | zero =>
      simp at h
      subst h
      rw [e, Nat.zero_mul, Nat.zero_add, List.getElem?_append_left (by omega)]
    | succ j =>
      rw [e, List.getElem?_append_right (by omega), hx, show (j + 1) * 7 + i - 7 = j * 7 + i by omega]
      exact ih j c (by simpa using h) i hi
theorem Cmps.row {B : Nat} {W : World} {v : Value} {l : List Cmp} (h : Cmps B W v l) : CmpRow W v l := by
  rcases h.2 with ⟨rfl, h0⟩ | ⟨g, cap, cur, rfl, -, -, hc, -, -, -⟩
  · obtain rfl := List.length_eq_zero_iff.1 h0
    exact ⟨none, 0, rfl, Nat.le_refl _, .inl rfl⟩
  · refine ⟨_, cap, rfl, hc, .inr ⟨g, 0, rfl, fun j x hj => ?_⟩⟩
    have hj' := (List.getElem?_eq_some_iff.1 hj).1
    have A := cCells_at l j x hj
    have C : ∀ i, i < 7 → W.cell? ⟨g, j * 7 + i, none⟩ = (cArr x)[i]? := fun i hi => (World.ownsRow.cellAt h (j * 7 + i) (by omega)).trans (A i hi)
    rw [Nat.zero_add]
    exact ⟨C 0 (by decide), C 1 (by decide), C 2 (by decide), C 3 (by decide), C 4 (by decide), C 5 (by decide), C 6 (by decide)⟩
theorem step_cmp {ops : Array Oper} {o : Oper} {a : Act} {K : Act → World → Prop} {Q : Exit → Act → World → Prop} {E : Prop} (hgd : o.guard = none) (s x : Operand)
    (ho : o.op = .call { callee := .builtin .append, args := #[s, x], argTypes := #[36, 36] }) {B sb : Nat} {wc : World} {ov : Value} {l : List Cmp} {c : Cmp} (hown : Cmps B wc ov l) (hl : l.length ≤ 1000) (hB : B ≤ wc.heap.size)
    {cs : Array Value} (hbox : wc.heap[sb]? = some (.cells cs 39 (0, 0))) (hcs : cs[0]? = some ov) (hne : ov.ownBlock ≠ some sb)
    (hs : a.eval s = ov) (hx : a.eval x = .slice (some ⟨wc.heap.size, 0, none⟩) 1 1)
    (h : ∀ g' cap w2, Hid (Cmps B w2 (.slice (some ⟨g', 0, none⟩) (l.length + 1) cap) (l ++ [c]) ∧ w2.heap[sb]? = some (.cells cs 39 (0, 0)) ∧ St (fun x => ov.ownBlock = some x) wc w2) → w2.cell? ⟨sb, 0, none⟩ = some ov → w2.frozen? ⟨sb, 0, none⟩ = false → K (a.put o.dst (.slice (some ⟨g', 0, none⟩) (l.length + 1) cap)) w2) :
    if Region.wanted o (yielded ops a.tmps) = true then Oper.wp Tryd.prog o a (wc.alloc (.cells #[.string c.s, .int .i64 c.wd, .bool c.rb, .int .i64 c.d0, .int .i64 c.d1, .int .i64 c.d2, .int .i64 c.d3] 65)).drew K Q else E := by
  obtain ⟨i0, hi, hz0, hz1, hz2⟩ := info_parts infoCmp
  have hb : Below wc.heap.size wc (wc.alloc (.cells #[.string c.s, .int .i64 c.wd, .bool c.rb, .int .i64 c.d0, .int .i64 c.d1, .int .i64 c.d2, .int .i64 c.d3] 65)).drew := ((Below.refl _ _).alloc (Nat.le_refl _) _).drew
  have ho2 : (wc.alloc (.cells #[.string c.s, .int .i64 c.wd, .bool c.rb, .int .i64 c.d0, .int .i64 c.d1, .int .i64 c.d2, .int .i64 c.d3] 65)).drew.ownsRow B 65 7 ov l.length (cCells l) := World.ownsRow.alloc hown _
  have hz : (wc.alloc (.cells #[.string c.s, .int .i64 c.wd, .bool c.rb, .int .i64 c.d0, .int .i64 c.d1, .int .i64 c.d2, .int .i64 c.d3] 65)).drew.heap.size = wc.heap.size + 1 := by simp
  have hh := heap_alloc_new wc (.cells #[.string c.s, .int .i64 c.wd, .bool c.rb, .int .i64 c.d0, .int .i64 c.d1, .int .i64 c.d2, .int .i64 c.d3] 65)
  refine step_append_lies _ hgd s x 36 ho B 65 i0 (.agg #[.string ⟨#[]⟩, .int .i64 0, .bool false, .int .i64 0, .int .i64 0, .int .i64 0, .int .i64 0]) 7 64 Tryd.underlying36 hi hz0 hz1 hz2 rfl (by decide) ov l.length (cCells l) hs ho2 ⟨wc.heap.size, 0, none⟩ 1 1 (cArr c) hx rfl (fun j u hu => by
    rw [add_at]
    exact cell_blk (W := wc.alloc _) hh (by simpa [cArr] using hu)) (by intro u hu; simp [cArr] at hu; rcases hu with rfl | rfl | rfl | rfl | rfl | rfl | rfl <;> rfl) (by decide) (by unfold maxLen; omega) (by omega) (by omega) (wc.heap.size + 1) hz ?_
  intro g' cap w2 ow hg hat hlt
  have st : St (fun x => ov.ownBlock = some x) wc w2 := (St.of_below hb).trans (St.of_grown (S := fun x => ov.ownBlock = some x) hg fun k e => e) fun _ _ q => q
  have hb2 := st.at hbox hne
  refine h g' cap w2 ⟨?_, hb2, st⟩ (cell_blk hb2 hcs) (blk_free hb2 0)
  show World.ownsRow _ _ _ _ _ _ _
  have e : cCells (l ++ [c]) = cCells l ++ cArr c := by simp [cCells]
  rw [e, List.length_append]
  exact ow
def plC (k : Nat) : Cmp := ⟨⟨#[97 + k.toUInt8]⟩, IntKind.i64.wrap (1 + (k : Int)), decide ((k : Int) < 3), 0, 0, 0, 0⟩
def plL (k : Nat) : List Cmp := (List.range k).map plC
theorem pl_all : plL 4 = plainC true := by kernel_rfl
set_option maxRecDepth 1000000 in
theorem sub_name (k : Nat) (hk : k < 4) (w : World) : (Instr.slice 9 (.string ⟨#[97, 98, 99, 100]⟩) (some (.int .i64 (k : Int))) (some (.int .i64 (IntKind.i64.wrap ((k : Int) + 1)))) none).run Tryd.prog w = .ok (.string (plC k).s) w := by
  have hkc : k = 0 ∨ k = 1 ∨ k = 2 ∨ k = 3 := by omega
  rcases hkc with rfl | rfl | rfl | rfl <;> (show _ = _; first | kernel_rfl | (simp [Instr.slice, plC, go_sem]; done) | rfl)
abbrev vQ (b : Nat) : Value := .slice (some ⟨b, 0, none⟩) 2 2
abbrev aQ : Array Value := #[.string ⟨#[115]⟩, .int .i64 0, .string ⟨#[116]⟩, .int .i64 0]
theorem rsc_row {W : World} {g : Nat} (h : W.heap[g]? = some (.cells aQ 98 (0, 0))) : RscRow W (vQ g) plainQ := by
  refine ⟨_, 2, rfl, by decide, .inr ⟨g, 0, rfl, fun j x hx => ?_⟩⟩
  have hj : j = 0 ∨ j = 1 := by
    have := (List.getElem?_eq_some_iff.1 hx).1
    have e : plainQ.length = 2 := rfl
    omega
  rcases hj with rfl | rfl <;> (simp [plainQ] at hx; subst hx; exact ⟨cell_blk h rfl, cell_blk h rfl⟩)
/-- The schema so far. -/
structure Wi (W w1 : World) (l : List Cmp) (lv : Value) (wr : World) : Prop where
  box : wr.heap[W.heap.size + 1 + 1]? = some (.cells #[lv, vQ (W.heap.size + 1)] 39 (0, 0))
  row : Cmps w1.heap.size wr lv l
  st : St (fun k => k = W.heap.size + 1 + 1) w1 wr
theorem three_blk (W : World) (a b c : Array Value) (e f g : TypeId) : Below W.heap.size W (((W.alloc (.cells a e)).alloc (.cells b f)).alloc (.cells c g)) ∧ (((W.alloc (.cells a e)).alloc (.cells b f)).alloc (.cells c g)).heap[W.heap.size]? = some (.cells a e (0, 0)) ∧ (((W.alloc (.cells a e)).alloc (.cells b f)).alloc (.cells c g)).heap[W.heap.size + 1]? = some (.cells b f (0, 0)) ∧ (((W.alloc (.cells a e)).alloc (.cells b f)).alloc (.cells c g)).heap[W.heap.size + 1 + 1]? = some (.cells c g (0, 0)) := by
  have b1 := bAl W (.cells a e)
  have b2 := bAl (W.alloc (.cells a e)) (.cells b f)
  have b3 := bAl ((W.alloc (.cells a e)).alloc (.cells b f)) (.cells c g)
  have n1 := heap_alloc_new W (.cells a e)
  have n2 := heap_alloc_new (W.alloc (.cells a e)) (.cells b f)
  have n3 := heap_alloc_new ((W.alloc (.cells a e)).alloc (.cells b f)) (.cells c g)
  have z1 : (W.alloc (.cells a e)).heap.size = W.heap.size + 1 := by simp
  have z2 : ((W.alloc (.cells a e)).alloc (.cells b f)).heap.size = W.heap.size + 1 + 1 := by simp
  have m1 := blk_seen b3 (Nat.le_refl _) (blk_seen b2 (Nat.le_refl _) n1)
  have m2 := blk_seen b3 (Nat.le_refl _) n2
  rw [z1] at m2
  rw [z2] at n3
  exact ⟨(b1.trans (b2.mono b1.size)).trans (b3.mono (Nat.le_trans b1.size b2.size)), m1, m2, n3⟩
set_option maxHeartbeats 3200000 in
set_option maxRecDepth 100000 in
theorem plain_any (W : World) : Calls Tryd.prog 22 #[] W fun e W' => ∃ va vb, e = .returned (.agg #[va, vb]) ∧ Cmps W.heap.size W' va (plainC true) ∧ RscRow W' vb plainQ ∧ Below W.heap.size W W' := by
  obtain ⟨w1, hw1⟩ : ∃ w1, w1 = ((W.alloc (.cells #[.slice none 0 0, .slice none 0 0] 39)).alloc (.cells aQ 98)).alloc (.cells #[.slice none 0 0, vQ (W.heap.size + 1)] 39) := ⟨_, rfl⟩
  obtain ⟨b1, r1, t1, p1⟩ := three_blk W #[.slice none 0 0, .slice none 0 0] aQ #[.slice none 0 0, vQ (W.heap.size + 1)] 39 98 39
  have z1 : w1.heap.size = W.heap.size + 3 := by rw [hw1]; simp
  rw [← hw1] at b1 r1 t1 p1
  have N0 : Hid (Wi W w1 (plL 0) (.slice none 0 0) w1) := ⟨p1, World.ownsRow_nil _ _ _ _, St.of_below (Below.refl _ _)⟩
  have HW1 := hid hw1
  have B1 := hid b1
  have R1 := hid r1
  have T1 := hid t1
  clear hw1 b1 r1 t1 p1
  go_enter Tryd.func22, Tryd.ntmps22
  go_upto_region 2 with fail
  rw [← HW1.out]
  go_wp2_with fail
  go_loopg [2] 4 (fun gh i wr => ∃ k : Nat, k ≤ 4 ∧ gh = 4 - k ∧ i = .int .i64 (k : Int) ∧ ∃ lv, Hid (Wi W w1 (plL k) lv wr))
  case atStart => exact ⟨0, Nat.zero_le _, rfl, rfl, _, N0.out⟩
  case round =>
    obtain ⟨k, hk, rfl, rfl, lv, HN⟩ := hrel
    by_cases hlt : k < 4
    · have hki : (k : Int) < 4 := by omega
      have hk0 : (0 : Int) ≤ (k : Int) := by omega
      obtain ⟨l, hl⟩ : ∃ l, l = plL k := ⟨_, rfl⟩
      rw [← hl] at HN
      have hl9 : l.length ≤ 1000 := by rw [hl]; simp [plL]; omega
      obtain ⟨oa, oc, rfl⟩ : ∃ a c, lv = .slice a l.length c := own_slice HN.out.row
      have BOX := hid HN.out.box
      have ROW := hid HN.out.row
      have y0 : wr.cell? ⟨W.heap.size + 1 + 1, 0, none⟩ = some (.slice oa l.length oc) := cell_blk BOX.out rfl
      have hne : (Value.slice oa l.length oc).ownBlock ≠ some (W.heap.size + 1 + 1) := fun e => by have := (World.ownsRow.lt ROW.out _ e).1; omega
      have hB6 : w1.heap.size ≤ wr.heap.size := HN.out.st.size
      have htn : ¬ (W.heap.size + 1 + 1 = wr.heap.size) := by omega
      have htw : W.heap.size + 1 + 1 < wr.heap.size := by omega
      have HL := hid hl
      clear hl
      have hsl := sub_name k hlt
      go_wp2_with fail
      go_region_law (refine step_cmp (c := plC k) rfl _ _ rfl ROW.out hl9 hB6 BOX.out rfl hne rfl rfl ?_; intro g' cap w7 hg hx7 hf7)
      all_goals
        obtain ⟨q1, q2, q3⟩ := hg.out
        have s1 := St.setCell (S := fun k => k = W.heap.size + 1 + 1) (a := w7) (p := ⟨W.heap.size + 1 + 1, 0, none⟩) (.slice (some ⟨g', 0, none⟩) (l.length + 1) cap) rfl
        have NX : Hid (Wi W w1 (plL (k + 1)) (.slice (some ⟨g', 0, none⟩) (l.length + 1) cap) (w7.setCell ⟨W.heap.size + 1 + 1, 0, none⟩ (.slice (some ⟨g', 0, none⟩) (l.length + 1) cap))) := by
          have e : plL (k + 1) = l ++ [plC k] := by rw [HL.out]; unfold plL; rw [List.range_succ, List.map_append]; rfl
          refine ⟨?_, ?_, ?_⟩
          · have := heap_setCell_same w7 (W.heap.size + 1 + 1) 0 _ _ (.slice (some ⟨g', 0, none⟩) (l.length + 1) cap) q2
            simpa using this
          · rw [e]
            exact own_kept q1 s1 fun y hy e => by have := (World.ownsRow.lt q1 y hy).1; omega
          · exact (HN.out.st.trans q3 fun y hy e => by have := (World.ownsRow.lt ROW.out y e).1; omega).trans s1 fun _ _ q => q
        clear hx7 hf7 q1 q2 q3 s1 hg
        go_wp2_with fail
        go_roundg (4 - (k + 1))
        case measure => omega
        case rel => exact ⟨k + 1, by omega, rfl, by go_num, _, NX.out⟩
    · have hki : ¬ ((k : Int) < 4) := by omega
      obtain rfl : k = 4 := by omega
      obtain ⟨L, hL⟩ : ∃ L, L = plL 4 := ⟨_, rfl⟩
      have hN := HN.out
      rw [← hL] at hN
      have HL := hid hL
      clear hL
      obtain ⟨oa, oc, rfl⟩ : ∃ a c, lv = .slice a L.length c := own_slice hN.row
      have y0 : wr.cell? ⟨W.heap.size + 1 + 1, 0, none⟩ = some (.slice oa L.length oc) := cell_blk hN.box rfl
      have y1 : wr.cell? ⟨W.heap.size + 1 + 1, 1, none⟩ = some (vQ (W.heap.size + 1)) := cell_blk hN.box rfl
      have r8 := hN.st.at R1.out (by omega)
      have x0 : wr.cell? ⟨W.heap.size, 0, none⟩ = some (.slice none 0 0) := cell_blk r8 rfl
      have x1 : wr.cell? ⟨W.heap.size, 1, none⟩ = some (.slice none 0 0) := cell_blk r8 rfl
      have f0 := blk_free r8 0
      have f1 := blk_free r8 1
      have h1 := heap_setCell_same wr W.heap.size 0 _ _ (.slice oa L.length oc) r8
      have h2 := heap_setCell_same _ W.heap.size 1 _ _ (vQ (W.heap.size + 1)) h1
      have c := fun (w : World) (j : Nat) (v : Value) => St.setCell (S := fun k => k = W.heap.size) (a := w) (p := ⟨W.heap.size, j, none⟩) v rfl
      have s2 := (c wr 0 (.slice oa L.length oc)).trans (c _ 1 (vQ (W.heap.size + 1))) fun _ _ q => q
      have CR : Hid (Cmps W.heap.size ((wr.setCell ⟨W.heap.size, 0, none⟩ (.slice oa L.length oc)).setCell ⟨W.heap.size, 1, none⟩ (vQ (W.heap.size + 1))) (.slice oa L.length oc) L) := by
        show World.ownsRow _ _ _ _ _ _ _
        have h := own_kept hN.row s2 fun y hy e => by have := (World.ownsRow.lt hN.row y hy).1; omega
        exact ⟨h.1, h.2.imp id fun ⟨g, cap, cur, h1, h2, h3⟩ => ⟨g, cap, cur, h1, by omega, h3⟩⟩
      have t8 := hN.st.at T1.out (by omega)
      have TR : Hid (RscRow ((wr.setCell ⟨W.heap.size, 0, none⟩ (.slice oa L.length oc)).setCell ⟨W.heap.size, 1, none⟩ (vQ (W.heap.size + 1))) (vQ (W.heap.size + 1)) plainQ) := rsc_row (s2.at t8 (by omega))
      have BB := hid ((B1.out.trans (hN.st.below (B := W.heap.size) (fun q hq => by omega) (by omega))).trans (s2.below (B := W.heap.size) (fun q hq => by omega) (by have := hN.st.size; omega)))
      have H2 := hid h2
      clear hN h1 h2 c s2 r8 t8
      go_wp2_with fail
      generalize (wr.setCell ⟨W.heap.size, 0, none⟩ (.slice oa L.length oc)).setCell ⟨W.heap.size, 1, none⟩ (vQ (W.heap.size + 1)) = w9 at *
      have d0 : w9.cell? ⟨W.heap.size, 0, none⟩ = some (.slice oa L.length oc) := cell_blk H2.out rfl
      have d1 : w9.cell? ⟨W.heap.size, 1, none⟩ = some (vQ (W.heap.size + 1)) := cell_blk H2.out rfl
      exact bodyPost_ret (v := .agg #[.slice oa L.length oc, vQ (W.heap.size + 1)]) (by simp [results, Tryd.results22, go_sem, d0, d1]) rfl ⟨_, _, rfl, by rw [← pl_all, ← HL.out]; exact CR.out, TR.out, BB.out⟩
end Go.Proofs.YtkhhiddemihnbaaDoor.Cw
