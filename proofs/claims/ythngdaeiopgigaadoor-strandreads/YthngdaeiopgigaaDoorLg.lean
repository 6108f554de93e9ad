/- The law StrandReads, walked. -/
import Derived.Test.YthngdaeiopgigaaDoorQg
import Derived.Test.YthngdaeiopgigaaDoorMe
namespace Go.Proofs.YthngdaeiopgigaaDoor
open Go.ChangeShapes Go.WideShapes Go.ChangeAt Go.RowKit
attribute [local go_sem ↓] Go.wp_at_zero Go.wp_at_succ
/-- The reference's Take, of any kind. -/
theorem taken (s : ByteArray) (x : Itm) (fa : Option Addr) (fc : Nat) (hk : 1 ≤ x.kind ∧ x.kind ≤ 6) (hN : I64 x.N) (hs : s.size ≤ 10000000) (aF : Addr) (w : World) :
    Calls Tryd.prog 17 #[.string s, .agg #[.int .i64 x.kind, .int .i64 x.N, .string x.text, .slice fa x.fl.length fc]] w fun e w' => Took w (RS.get aF x ⟨s.data.toList, none⟩) e w' := by
  obtain ⟨kd, N, text, fl⟩ := x
  obtain ⟨hk1, hk2⟩ := hk
  simp only at hk1 hk2 hN ⊢
  obtain rfl | rfl | rfl | rfl | rfl | rfl : kd = 1 ∨ kd = 2 ∨ kd = 3 ∨ kd = 4 ∨ kd = 5 ∨ kd = 6 := by omega
  · exact take1 s N text fl fa fc hs aF w
  · exact take2 s N text fl fa fc hs aF w
  · exact take3 s N text fl fa fc hs aF w
  · exact take4 s N hN text fl fa fc hs aF w
  · exact take5 s N text fl fa fc hs aF w
  · exact take_any6 s N text fl fa fc hs aF w
theorem got_fl (x : Itm) (hk : 1 ≤ x.kind ∧ x.kind ≤ 6) (l : List UInt8) (aF : Addr) : (RS.get aF x ⟨l, none⟩).1.fl.length ≤ 100000 := by
  obtain ⟨kd, N, text, fl⟩ := x
  obtain ⟨hk1, hk2⟩ := hk
  simp only at hk1 hk2
  obtain rfl | rfl | rfl | rfl | rfl | rfl : kd = 1 ∨ kd = 2 ∨ kd = 3 ∨ kd = 4 ∨ kd = 5 ∨ kd = 6 := by omega
  all_goals try (simp [RS.get]; done)
  rw [get6]
  simp only [RS.flags]
  split
  · rename_i h; rw [unpk_length]; omega
  · simp
/-- Where both stand. -/
def Sd (aF : Addr) (b : Bool) (rest : List UInt8) (st : RS) : Prop := (b = false ∧ st = ⟨rest, none⟩) ∨ (b = true ∧ ∃ s, st = ⟨rest, some (s, aF)⟩)
theorem Sd.rest {aF : Addr} {b : Bool} {rest : List UInt8} {st : RS} (h : Sd aF b rest st) : st.rest = rest := by
  rcases h with ⟨_, rfl⟩ | ⟨_, s, rfl⟩ <;> rfl
theorem Sd.next {aF : Addr} (x : Itm) (hk : 1 ≤ x.kind ∧ x.kind ≤ 6) (rest : List UInt8) :
    Sd aF (RS.get aF x ⟨rest, none⟩).2.err.isSome (RS.get aF x ⟨rest, none⟩).2.rest (RS.get aF x ⟨rest, none⟩).2 ∧ (RS.get aF x ⟨rest, none⟩).2.rest.length ≤ rest.length := by
  have h := get_cases x hk rest aF
  generalize RS.get aF x ⟨rest, none⟩ = q at h
  cases h with
  | yes y e t hl _ _ _ _ _ _ _ => exact ⟨.inl ⟨rfl, rfl⟩, by rw [hl, List.length_append]; simp⟩
  | no y s _ => exact ⟨.inr ⟨rfl, s, rfl⟩, Nat.le_refl _⟩
/-- A row of bools lies in no block that has none. -/
theorem Bools.apart {w w' : World} {v : Value} {fl : List Bool} {b : Nat} (h : Bools w v fl) (hb : ∀ o x, w.cell? ⟨b, o, none⟩ ≠ some (.bool x)) (hk : ∀ k, k < w.heap.size → k ≠ b → w'.heap[k]? = w.heap[k]?) : Bools w' v fl := by
  obtain ⟨fa, fc, rfl, h⟩ := h
  refine ⟨fa, fc, rfl, ?_⟩
  rcases h with h | ⟨g, o, ha, h⟩
  · exact .inl h
  · refine .inr ⟨g, o, ha, fun j hj => ?_⟩
    have h1 := h j hj
    have h2 : g < w.heap.size := World.block_lt_of_cell? w _ h1
    have h3 : g ≠ b := by rintro rfl; exact hb _ _ h1
    rw [World.cell?_of_block (w := w) (a := ⟨g, o + j, none⟩) (hk g h2 h3)]; exact h1
theorem Rd.noBool {w : World} {b : Nat} {st : RS} (h : Rd w b st) : ∀ o x, w.cell? ⟨b, o, none⟩ ≠ some (.bool x) := by
  obtain ⟨s, _, hb⟩ := h
  intro o x
  rw [blk_cell hb]
  match o with
  | 0 => simp [RS.c0]; cases st.err <;> simp
  | 1 => simp [RS.c1]; cases st.err <;> simp
  | 2 => simp
  | o + 3 => simp
theorem itm_noBool {w : World} {b : Nat} {k n : Int} {t : ByteArray} {a : Option Addr} {l c : Nat} (h : w.heap[b]? = some (.cells #[.int .i64 k, .int .i64 n, .string t, .slice a l c] 30 (0, 0))) : ∀ o x, w.cell? ⟨b, o, none⟩ ≠ some (.bool x) := by
  intro o x
  rw [blk_cell h]
  match o with
  | 0 => simp
  | 1 => simp
  | 2 => simp
  | 3 => simp
  | o + 4 => simp
/-- What the calls of one round keep. -/
structure Cz (w : World) (br : Nat) (W7 : World) (st : RS) (W : World) : Prop where
  rd : Rd W br st
  kp : Kp (fun k => k = br) W7 W
  bel : Below w.heap.size w W
  ft : w.heap.size ≤ br
theorem Cz.new {w : World} {br : Nat} {W7 : World} {st : RS} {W W' : World} (h : Cz w br W7 st W) (hb : Below W.heap.size W W') : Cz w br W7 st W' := ⟨h.rd.new hb, h.kp.trans (Kp.new hb), h.bel.trans (hb.mono h.bel.size), h.ft⟩
theorem Cz.drew {w : World} {br : Nat} {W7 : World} {st : RS} {W : World} (h : Cz w br W7 st W) : Cz w br W7 st W.drew := ⟨h.rd, h.kp.drew, h.bel.drew, h.ft⟩
theorem Cz.got {w : World} {br : Nat} {W7 : World} {st st' : RS} {W W' : World} (h : Cz w br W7 st W) (hr : Rd W' br st') (hk : Kp (fun k => k = br) W W') : Cz w br W7 st' W' := ⟨hr, h.kp.trans hk, h.bel.trans (hk.below h.bel.size (fun k e => by rw [e]; exact h.ft)), h.ft⟩
theorem Cz.cell {w : World} {br : Nat} {W7 : World} {st : RS} {W : World} (h : Cz w br W7 st W) {b i : Nat} {u : Value} (hb : b ≠ br) (hc : W7.cell? ⟨b, i, none⟩ = some u) : W.cell? ⟨b, i, none⟩ = some u := by
  have hlt : b < W7.heap.size := World.block_lt_of_cell? W7 _ hc
  rw [World.cell?_of_block (w := W7) (a := ⟨b, i, none⟩) (h.kp.block b hlt hb)]; exact hc
theorem Cz.bools {w : World} {br : Nat} {W7 : World} {st st7 : RS} {W : World} (h : Cz w br W7 st W) (h7 : Rd W7 br st7) {v : Value} {fl : List Bool} (hb : Bools W7 v fl) : Bools W v fl :=
  hb.apart h7.noBool (fun k hk hne => h.kp.block k hk hne)
theorem cz8 {w : World} {br : Nat} {W7 : World} {st : RS} {W : World} {ib i0 i1 i2 i3 by_ : Nat} {u0 u1 u2 u3 v0 v1 v2 v3 : Value} (h : Cz w br W7 st W) (hi : ib ≠ br) (hy : by_ ≠ br) (e0 : W7.cell? ⟨ib, i0, none⟩ = some u0) (e1 : W7.cell? ⟨ib, i1, none⟩ = some u1) (e2 : W7.cell? ⟨ib, i2, none⟩ = some u2) (e3 : W7.cell? ⟨ib, i3, none⟩ = some u3) (y0 : W7.cell? ⟨by_, 0, none⟩ = some v0) (y1 : W7.cell? ⟨by_, 1, none⟩ = some v1) (y2 : W7.cell? ⟨by_, 2, none⟩ = some v2) (y3 : W7.cell? ⟨by_, 3, none⟩ = some v3) :
    W.cell? ⟨ib, i0, none⟩ = some u0 ∧ W.cell? ⟨ib, i1, none⟩ = some u1 ∧ W.cell? ⟨ib, i2, none⟩ = some u2 ∧ W.cell? ⟨ib, i3, none⟩ = some u3 ∧ W.cell? ⟨by_, 0, none⟩ = some v0 ∧ W.cell? ⟨by_, 1, none⟩ = some v1 ∧ W.cell? ⟨by_, 2, none⟩ = some v2 ∧ W.cell? ⟨by_, 3, none⟩ = some v3 :=
  ⟨h.cell hi e0, h.cell hi e1, h.cell hi e2, h.cell hi e3, h.cell hy y0, h.cell hy y1, h.cell hy y2, h.cell hy y3⟩
theorem put_itm {w w6 W7 : World} {br bw : Nat} {st : RS} {a b : Int} {c : ByteArray} {d : Option Addr} {e f : Nat} (I6 : RInv w w6 br st) (hne : bw ≠ br) (hge : w.heap.size ≤ bw) (K6 : w6.heap[bw]? = some (.cells #[.int .i64 a, .int .i64 b, .string c, .slice d e f] 30 (0, 0))) (o : Obj) (p q r z : Value)
    (hW7 : W7 = ((((w6.setCell ⟨bw, 0, none⟩ p).setCell ⟨bw, 1, none⟩ q).setCell ⟨bw, 2, none⟩ r).setCell ⟨bw, 3, none⟩ z).alloc o) :
    RInv w W7 br st ∧ W7.heap[bw]? = some (.cells #[p, q, r, z] 30 (0, 0)) ∧ ∀ v fl, Bools w6 v fl → Bools W7 v fl := by
  have hlt := lt_of_block K6
  have hkp : Kp (fun k => k = bw) w6 W7 := by
    rw [hW7]
    exact ((((((Kp.refl (fun k => k = bw) w6).setCell (p := ⟨bw, 0, none⟩) (fun _ => rfl) p).setCell (p := ⟨bw, 1, none⟩) (fun _ => rfl) q).setCell (p := ⟨bw, 2, none⟩) (fun _ => rfl) r).setCell (p := ⟨bw, 3, none⟩) (fun _ => rfl) z)).alloc o
  refine ⟨⟨I6.rd.kept (hkp.block br I6.rd.foots.lt (fun h => hne h.symm)), I6.bel.trans (hkp.below I6.bel.size (fun k h => by rw [h]; exact hge)), I6.ft⟩, ?_, fun v fl h => h.apart (itm_noBool K6) (fun k hk hn => hkp.block k hk hn)⟩
  rw [hW7, heap_alloc_old _ _ (by simpa using hlt), blk_set (blk_set (blk_set (blk_set K6 0 p) 1 q) 2 r) 3 z]
  rfl
set_option maxHeartbeats 3200000 in
set_option maxRecDepth 100000 in
theorem reads_any (w : World) (s : ByteArray) (v : Value) (xs : List (Itm × Value)) (aF aA aL aN : Addr) (hE : Env w aF aA aL aN) (hI : Its w v xs) (hl : xs.length ≤ 10000000000000) (hs : s.size ≤ 140737488355328) :
    Calls Tryd.prog 4 #[.string s, v] w fun e w' => e = .returned (.bool true) ∧ Below w.heap.size w w' := by
  have h3 := hE.lt
  obtain ⟨a, c, rfl, hlay⟩ := hI.lay
  go_enter Tryd.func4, Tryd.ntmps4
  go_wp2_with fail
  refine (awake_any w aF aA aL aN hE).mono ?_
  rintro e w1 ⟨rfl, hb1⟩
  go_wp2_with fail
  refine (heavy_any xs _ w1 hl (hI.later hb1)).mono ?_
  rintro e w1' ⟨rfl, rfl⟩
  cases hh : hvy xs with
  | true =>
    go_wp2
    go_ret
    exact ⟨rfl, hb1⟩
  | false =>
    obtain ⟨h60, hok⟩ := ok_of hh hI.nums
    clear hh
    by_cases hbig : 4096 < s.size
    · go_wp2
      go_ret
      exact ⟨rfl, hb1⟩
    · go_wp2_with fail
      refine (newReader_any _ _).mono ?_
      rintro e w2 ⟨rfl, hr2, hb2⟩
      have I2 : RInv w w2 w1.heap.size ⟨s.data.toList, none⟩ := ⟨hr2, hb1.trans (hb2.mono hb1.size), hb1.size⟩
      clear hr2 hb2 hb1
      generalize w1.heap.size = br at *
      go_wp2_with fail
      go_loopw [6, 7, 8] (fun wrong rs i wx => ∃ (k : Nat) (t : ByteArray) (b : Bool) (st : RS), i = .int .i64 k ∧ k ≤ xs.length ∧ rs = .string t ∧ wrong = .bool b ∧ t.size ≤ 4096 ∧ RInv w wx br st ∧ Sd aF b t.data.toList st) (fun _ _ i _ => xs.length - (intOf i).toNat)
      case atStart => exact ⟨0, s, false, _, rfl, Nat.zero_le _, rfl, rfl, by omega, I2, .inl ⟨rfl, rfl⟩⟩
      case round =>
        clear I2
        obtain ⟨k, t, b, st, rfl, hk, rfl, rfl, htl, hinv, hsd⟩ := hrel
        by_cases hlt : k < xs.length
        · obtain ⟨x, hx⟩ : ∃ x, xs[k]? = some x := ⟨_, List.getElem?_eq_getElem hlt⟩
          obtain ⟨ib, io, rfl, hc4⟩ := hlay.resolve_left (by rintro rfl; simp at hlt)
          obtain ⟨c0, c1, c2, c3⟩ := hc4 k x hx
          have hmem := List.mem_of_getElem? hx
          have hxo := hok x hmem
          have hbo := hI.bools x hmem
          have hkk := hxo.hk
          have hib : ib < w.heap.size := World.block_lt_of_cell? w _ c0
          obtain ⟨va, vc, hv, _⟩ := id hbo
          rw [hv] at c3 hbo
          have d0 := (hinv.bel.cell (p := ⟨ib, io + k * 4, none⟩) hib).trans c0
          have d1 := (hinv.bel.cell (p := ⟨ib, io + k * 4 + 1, none⟩) hib).trans c1
          have d2 := (hinv.bel.cell (p := ⟨ib, io + k * 4 + 2, none⟩) hib).trans c2
          have d3 := (hinv.bel.cell (p := ⟨ib, io + k * 4 + 3, none⟩) hib).trans c3
          have HI := hid hinv
          have hbrl := hinv.rd.foots.lt
          have hbs := hinv.bel.size
          have hb4 : Below wr.heap.size wr (wr.alloc (.cells #[.int .i64 x.1.kind, .int .i64 0, .string ⟨#[]⟩, .slice none 0 0] 30)) := (Below.refl _ _).alloc (Nat.le_refl _) _
          have I4 := hinv.new hb4
          have n0 := (I4.bel.cell (p := ⟨ib, io + k * 4, none⟩) hib).trans c0
          have n1 := (I4.bel.cell (p := ⟨ib, io + k * 4 + 1, none⟩) hib).trans c1
          have n2 := (I4.bel.cell (p := ⟨ib, io + k * 4 + 2, none⟩) hib).trans c2
          have n3 := (I4.bel.cell (p := ⟨ib, io + k * 4 + 3, none⟩) hib).trans c3
          have HI4 := hid I4
          have K4 := hid (blk_new wr (.cells #[.int .i64 x.1.kind, .int .i64 0, .string ⟨#[]⟩, .slice none 0 0] 30))
          clear hinv hx hv hb4 I4
          cases b with
          | false =>
            obtain rfl : st = ⟨t.data.toList, none⟩ := by
              rcases hsd with ⟨_, h⟩ | ⟨h, _⟩
              · exact h
              · cases h
            clear hsd
            obtain ⟨hsn, hsl⟩ := Sd.next (aF := aF) x.1 hkk t.data.toList
            have hgl := got_fl x.1 hkk t.data.toList aF
            have HT := hid (fun W => taken t x.1 va vc hkk hxo.hN (by omega) aF W)
            have HG := hid (fun W (hR : Rd W br ⟨t.data.toList, none⟩) (hP : RPre W ⟨t.data.toList, none⟩ aF) (hB : Bools W (.slice va x.1.fl.length vc) x.1.fl) => get_any br ⟨t.data.toList, none⟩ x.1 (.slice va x.1.fl.length vc) hkk hxo.hN aF W hR hP hB)
            generalize RS.get aF x.1 ⟨t.data.toList, none⟩ = q at *
            obtain ⟨y, st'⟩ := q
            simp only at hsn hsl hgl
            have HSN := hid hsn
            clear hsn
            go_wp2_with fail
            refine (HT.out _).mono ?_
            rintro e w6 ⟨⟨vy, t', rfl, ht', hby⟩, hb6⟩
            have I6 := HI4.out.new hb6
            have K6 : w6.heap[wr.heap.size]? = some (.cells #[.int .i64 x.1.kind, .int .i64 0, .string ⟨#[]⟩, .slice none 0 0] 30 (0, 0)) := (hb6.block _ (by simp)).trans K4.out
            obtain ⟨ya, yc, rfl, _⟩ := id hby
            have hb7 : Below w6.heap.size w6 (w6.alloc (.cells #[.int .i64 y.kind, .int .i64 y.N, .string y.text, .slice ya y.fl.length yc] 30)) := (Below.refl _ _).alloc (Nat.le_refl _) _
            have hbwl := lt_of_block K6
            have K7 := (hb7.block _ hbwl).trans K6
            have g0 : (w6.alloc (.cells #[.int .i64 y.kind, .int .i64 y.N, .string y.text, .slice ya y.fl.length yc] 30)).cell? ⟨wr.heap.size, 0, none⟩ = some (.int .i64 x.1.kind) := blk_cell K7 0
            have g1 : (w6.alloc (.cells #[.int .i64 y.kind, .int .i64 y.N, .string y.text, .slice ya y.fl.length yc] 30)).cell? ⟨wr.heap.size, 1, none⟩ = some (.int .i64 0) := blk_cell K7 1
            have g2 : (w6.alloc (.cells #[.int .i64 y.kind, .int .i64 y.N, .string y.text, .slice ya y.fl.length yc] 30)).cell? ⟨wr.heap.size, 2, none⟩ = some (.string ⟨#[]⟩) := blk_cell K7 2
            have g3 : (w6.alloc (.cells #[.int .i64 y.kind, .int .i64 y.N, .string y.text, .slice ya y.fl.length yc] 30)).cell? ⟨wr.heap.size, 3, none⟩ = some (.slice none 0 0) := blk_cell K7 3
            have f0 := blk_free K7 0
            have f1 := blk_free K7 1
            have f2 := blk_free K7 2
            have f3 := blk_free K7 3
            have I7 := I6.new hb7
            have hby7 := hby.later hb7
            have m0 : w6.cell? ⟨wr.heap.size, 0, none⟩ = some (.int .i64 x.1.kind) := blk_cell K6 0
            have m1 : w6.cell? ⟨wr.heap.size, 1, none⟩ = some (.int .i64 0) := blk_cell K6 1
            have m2 : w6.cell? ⟨wr.heap.size, 2, none⟩ = some (.string ⟨#[]⟩) := blk_cell K6 2
            have m3 : w6.cell? ⟨wr.heap.size, 3, none⟩ = some (.slice none 0 0) := blk_cell K6 3
            have o0 := blk_free K6 0
            have o1 := blk_free K6 1
            have o2 := blk_free K6 2
            have o3 := blk_free K6 3
            have hne0 := World.new_ne w6 ⟨wr.heap.size, 0, none⟩ m0
            have hne1 := World.new_ne w6 ⟨wr.heap.size, 1, none⟩ m1
            have hne2 := World.new_ne w6 ⟨wr.heap.size, 2, none⟩ m2
            have hne3 := World.new_ne w6 ⟨wr.heap.size, 3, none⟩ m3
            simp only [Itm.val] at *
            go_wp2_with fail
            obtain ⟨W7, hW7⟩ : ∃ W7, W7 = ((((w6.setCell ⟨wr.heap.size, 0, none⟩ (.int .i64 y.kind)).setCell ⟨wr.heap.size, 1, none⟩ (.int .i64 y.N)).setCell ⟨wr.heap.size, 2, none⟩ (.string y.text)).setCell ⟨wr.heap.size, 3, none⟩ (.slice ya y.fl.length yc)).alloc (.cells #[.int .i64 y.kind, .int .i64 y.N, .string y.text, .slice ya y.fl.length yc] 30) := ⟨_, rfl⟩
            rw [← hW7]
            obtain ⟨J7, L7, M7⟩ := put_itm I6 (by omega) hbs K6 _ _ _ _ _ hW7
            have hbx7 : Bools W7 (.slice va x.1.fl.length vc) x.1.fl := hbo.later J7.bel
            have hby7 := M7 _ _ hby
            have R7 := J7.rd
            have z0 : W7.cell? ⟨wr.heap.size, 0, none⟩ = some (.int .i64 y.kind) := blk_cell L7 0
            have z1 : W7.cell? ⟨wr.heap.size, 1, none⟩ = some (.int .i64 y.N) := blk_cell L7 1
            have z2 : W7.cell? ⟨wr.heap.size, 2, none⟩ = some (.string y.text) := blk_cell L7 2
            have z3 : W7.cell? ⟨wr.heap.size, 3, none⟩ = some (.slice ya y.fl.length yc) := blk_cell L7 3
            have e0 := (J7.bel.cell (p := ⟨ib, io + k * 4, none⟩) hib).trans c0
            have e1 := (J7.bel.cell (p := ⟨ib, io + k * 4 + 1, none⟩) hib).trans c1
            have e2 := (J7.bel.cell (p := ⟨ib, io + k * 4 + 2, none⟩) hib).trans c2
            have e3 := (J7.bel.cell (p := ⟨ib, io + k * 4 + 3, none⟩) hib).trans c3
            have hibr : ib ≠ br := by have := HI.out.ft; omega
            have hbwr : wr.heap.size ≠ br := by omega
            have hcz : Cz w br W7 ⟨t.data.toList, none⟩ W7 := ⟨R7, Kp.refl _ _, J7.bel, J7.ft⟩
            have hcd := hcz.drew
            have htz : ((st'.rest.length : Nat) : Int) = (t'.size : Int) := by rw [← ht']; simp
            have htl2 : (⟨t.data.toList, none⟩ : RS).rest.length ≤ 10000000 := by simp; omega
            have hts : t'.size ≤ 4096 := by
              have h1 : t'.size = st'.rest.length := by rw [← ht']; simp
              have h2 : t.data.toList.length = t.size := by simp
              omega
            rw [← ht'] at HSN
            clear hW7 J7 L7 M7 g0 g1 g2 g3 f0 f1 f2 f3 m0 m1 m2 m3 o0 o1 o2 o3 hne0 hne1 hne2 hne3 K6 K7 I6 I7 hb6 hb7 hby HT HI4 K4 n0 n1 n2 n3 d0 d1 d2 d3 ht' hsl hbwl
            obtain ⟨q0, q1, q2, q3, q4, q5, q6, q7⟩ := cz8 hcd hibr hbwr e0 e1 e2 e3 z0 z1 z2 z3
            generalize wr.heap.size = bw at *
            go_region_held3 (fun W => W.cell? ⟨ib, io + k * 4, none⟩ = some (.int .i64 x.1.kind) ∧ W.cell? ⟨ib, io + k * 4 + 1, none⟩ = some (.int .i64 x.1.N) ∧ W.cell? ⟨ib, io + k * 4 + 2, none⟩ = some (.string x.1.text) ∧ W.cell? ⟨ib, io + k * 4 + 3, none⟩ = some (.slice va x.1.fl.length vc) ∧ W.cell? ⟨bw, 0, none⟩ = some (.int .i64 y.kind) ∧ W.cell? ⟨bw, 1, none⟩ = some (.int .i64 y.N) ∧ W.cell? ⟨bw, 2, none⟩ = some (.string y.text) ∧ W.cell? ⟨bw, 3, none⟩ = some (.slice ya y.fl.length yc)) (first | go_keep | (exact cz8 (by assumption) hibr hbwr e0 e1 e2 e3 z0 z1 z2 z3)) (first
              | (go_at_call 19; refine (HG.out _ ?_ ?_ ?_).mono ?_; exact Cz.rd (by assumption); exact (hE.below h3 (Cz.bel (by assumption))).rpre htl2; exact Cz.bools (by assumption) R7 hbx7; rintro e1 w8 ⟨⟨vg, rfl, hbg⟩, hrg, hkg⟩; have hcn := Cz.got (by assumption) hrg hkg)
              | (go_at_call 18; refine (same_eq y vg (.slice ya y.fl.length yc) _ hgl ?_ ?_).mono ?_; exact hbg; exact Cz.bools (by assumption) R7 hby7; rintro e1 w9 ⟨rfl, hbel⟩; have hcm := Cz.new (by assumption) hbel)
              | (go_at_call 20; refine (left_any br st' _ ?_).mono ?_; exact Cz.rd (by assumption); rintro e1 w10 ⟨rfl, rfl⟩))
            all_goals go_wp2
            all_goals exact ⟨⟨k + 1, t', st'.err.isSome, st', by go_num, by omega, rfl, rfl, hts, ⟨hcm.rd, hcm.bel, hcm.ft⟩, HSN.out⟩, by simp [intOf]; omega⟩
          | true =>
            obtain ⟨s', rfl⟩ : ∃ s', st = ⟨t.data.toList, some (s', aF)⟩ := by
              rcases hsd with ⟨h, _⟩ | ⟨_, h⟩
              · cases h
              · exact h
            have HSD := hid hsd
            have HG := hid (fun W (hR : Rd W br ⟨t.data.toList, some (s', aF)⟩) (hP : RPre W ⟨t.data.toList, some (s', aF)⟩ aF) (hB : Bools W (.slice va x.1.fl.length vc) x.1.fl) => get_any br ⟨t.data.toList, some (s', aF)⟩ x.1 (.slice va x.1.fl.length vc) hkk hxo.hN aF W hR hP hB)
            rw [get_err x.1 hkk] at HG
            clear hsd
            have htl2 : (⟨t.data.toList, some (s', aF)⟩ : RS).rest.length ≤ 10000000 := by simp; omega
            have htz : ((t.data.toList.length : Nat) : Int) = (t.size : Int) := by simp
            go_wp2_with fail
            obtain ⟨W7, hW7⟩ : ∃ W7, W7 = wr.alloc (.cells #[.int .i64 x.1.kind, .int .i64 0, .string ⟨#[]⟩, .slice none 0 0] 30) := ⟨_, rfl⟩
            rw [← hW7] at HI4 K4 n0 n1 n2 n3 ⊢
            have J7 := HI4.out
            have L7 := K4.out
            have hbx7 : Bools W7 (.slice va x.1.fl.length vc) x.1.fl := hbo.later J7.bel
            have R7 := J7.rd
            have z0 : W7.cell? ⟨wr.heap.size, 0, none⟩ = some (.int .i64 x.1.kind) := blk_cell L7 0
            have z1 : W7.cell? ⟨wr.heap.size, 1, none⟩ = some (.int .i64 0) := blk_cell L7 1
            have z2 : W7.cell? ⟨wr.heap.size, 2, none⟩ = some (.string ⟨#[]⟩) := blk_cell L7 2
            have z3 : W7.cell? ⟨wr.heap.size, 3, none⟩ = some (.slice none 0 0) := blk_cell L7 3
            have hibr : ib ≠ br := by have := HI.out.ft; omega
            have hbwr : wr.heap.size ≠ br := by omega
            have hcz : Cz w br W7 ⟨t.data.toList, some (s', aF)⟩ W7 := ⟨R7, Kp.refl _ _, J7.bel, J7.ft⟩
            have hcd := hcz.drew
            clear hW7 J7 L7 HI4 K4 d0 d1 d2 d3 HI
            obtain ⟨q0, q1, q2, q3, q4, q5, q6, q7⟩ := cz8 hcd hibr hbwr n0 n1 n2 n3 z0 z1 z2 z3
            simp only [Itm.val, zeroI] at *
            generalize wr.heap.size = bw at *
            go_region_held3 (fun W => W.cell? ⟨ib, io + k * 4, none⟩ = some (.int .i64 x.1.kind) ∧ W.cell? ⟨ib, io + k * 4 + 1, none⟩ = some (.int .i64 x.1.N) ∧ W.cell? ⟨ib, io + k * 4 + 2, none⟩ = some (.string x.1.text) ∧ W.cell? ⟨ib, io + k * 4 + 3, none⟩ = some (.slice va x.1.fl.length vc) ∧ W.cell? ⟨bw, 0, none⟩ = some (.int .i64 x.1.kind) ∧ W.cell? ⟨bw, 1, none⟩ = some (.int .i64 0) ∧ W.cell? ⟨bw, 2, none⟩ = some (.string ⟨#[]⟩) ∧ W.cell? ⟨bw, 3, none⟩ = some (.slice none 0 0)) (first | go_keep | (exact cz8 (by assumption) hibr hbwr n0 n1 n2 n3 z0 z1 z2 z3)) (first
              | (go_at_call 19; refine (HG.out _ ?_ ?_ ?_).mono ?_; exact Cz.rd (by assumption); exact (hE.below h3 (Cz.bel (by assumption))).rpre htl2; exact Cz.bools (by assumption) R7 hbx7; rintro e1 w8 ⟨⟨vg, rfl, hbg⟩, hrg, hkg⟩; have hcn := Cz.got (by assumption) hrg hkg)
              | (go_at_call 18; refine (same_eq (zeroI x.1.kind) vg (.slice none 0 0) _ (by simp [zeroI]) ?_ ?_).mono ?_; exact hbg; exact Bools.nil _; rintro e1 w9 ⟨rfl, hbel⟩; have hcm := Cz.new (by assumption) hbel)
              | (go_at_call 20; refine (left_any br ⟨t.data.toList, some (s', aF)⟩ _ ?_).mono ?_; exact Cz.rd (by assumption); rintro e1 w10 ⟨rfl, rfl⟩))
            all_goals go_wp2
            all_goals exact ⟨⟨k + 1, t, true, _, by go_num, by omega, rfl, rfl, htl, ⟨hcm.rd, hcm.bel, hcm.ft⟩, HSD.out⟩, by simp [intOf]; omega⟩
        · have hke : k = xs.length := by omega
          subst hke
          have HI := hid hinv
          have E8 := hE.below h3 hinv.bel
          have k0 := E8.c0
          have hsz8 := hinv.bel.size
          have R8 := hinv.rd
          have P8 := fun (h : st.rest.length ≤ 10000000) => E8.rpre (st := st) h
          clear hinv hE E8
          rcases hsd with ⟨rfl, rfl⟩ | ⟨rfl, s', rfl⟩
          · cases htd : t.data.toList with
            | nil =>
              rw [htd] at R8
              have hte : t.toList = [] := by rw [toList_data, htd]
              clear P8 k0
              go_wp2_with fail
              refine (end_ok br _ R8).mono ?_
              rintro e w9 ⟨rfl, rfl⟩
              go_wp2_with fail
              go_ret
              exact ⟨rfl, HI.out.bel⟩
            | cons b0 t0 =>
              have P9 := P8 (by simp; omega)
              rw [htd] at R8 P9
              have hte : ¬ t.toList = [] := by rw [toList_data, htd]; simp
              clear P8
              go_wp2_with fail
              refine (end_left br b0 t0 aF _ R8 P9).mono ?_
              rintro e w9 ⟨v, rfl, ⟨g, rfl, hg⟩, hbel⟩
              have k9 := (hbel.cell (p := ⟨0, 0, none⟩) (by simp; omega)).trans k0
              have HB9 := hid hbel
              clear hbel
              go_wp2_with fail
              refine (is_blame g _ aF _ hg).mono ?_
              rintro e w10 ⟨rfl, rfl⟩
              go_wp2_with fail
              go_ret
              refine ⟨?_, HI.out.bel.trans (HB9.out.mono hsz8)⟩
              show Ending.returned (.bool (!t.toList.isEmpty)) = _
              rw [toList_data, htd]; rfl
          · clear P8
            go_wp2_with fail
            refine (end_bad br _ s' aF _ R8).mono ?_
            rintro e w9 ⟨v, rfl, ⟨g, rfl, hg⟩, hbel⟩
            have k9 := (hbel.cell (p := ⟨0, 0, none⟩) (by simp; omega)).trans k0
            have HB9 := hid hbel
            clear hbel
            go_wp2_with fail
            refine (is_blame g s' aF _ hg).mono ?_
            rintro e w10 ⟨rfl, rfl⟩
            go_wp2_with fail
            go_ret
            exact ⟨rfl, HI.out.bel.trans (HB9.out.mono hsz8)⟩
end Go.Proofs.YthngdaeiopgigaaDoor
