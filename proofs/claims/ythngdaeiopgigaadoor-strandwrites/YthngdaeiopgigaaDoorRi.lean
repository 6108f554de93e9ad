/- Contracts: an item is read. -/
import Derived.Test.YthngdaeiopgigaaDoorRh
import Derived.Test.YthngdaeiopgigaaDoorWh
namespace Go.Proofs.YthngdaeiopgigaaDoor
open Go.ChangeShapes Go.WideShapes Go.ChangeAt Go.RowKit
/-- What a call that reads answers, as an item, and the state behind it. -/
def RS.get (aF : Addr) (x : Itm) (st : RS) : Itm × RS :=
  if x.kind = 1 then (⟨1, (st.byte aF).1, ⟨#[]⟩, []⟩, (st.byte aF).2)
  else if x.kind = 2 then (⟨2, (st.number nmCount aF 9223372036854775807).1, ⟨#[]⟩, []⟩, (st.number nmCount aF 9223372036854775807).2)
  else if x.kind = 3 then (⟨3, unzig (st.number nmNum aF 18446744073709551615).1, ⟨#[]⟩, []⟩, (st.number nmNum aF 18446744073709551615).2)
  else if x.kind = 4 then (⟨4, 0, ⟨(st.text aF x.N).1.toArray⟩, []⟩, (st.text aF x.N).2)
  else if x.kind = 5 then (⟨5, (st.number nmBits aF 4294967295).1, ⟨#[]⟩, []⟩, (st.number nmBits aF 4294967295).2)
  else (⟨6, 0, ⟨#[]⟩, (st.flags aF x.N).1⟩, (st.flags aF x.N).2)
theorem get_blocks {w w' : World} {b : Nat} {o : Obj} {a1 a2 : Array Value} (hb : b < w.heap.size) (hK : Kp (fun k => k = b) (((w.alloc o).alloc (.cells a1 30)).alloc (.cells a2 30)) w') :
    w'.heap[w.heap.size + 1 + 1]? = some (.cells a2 30 (0, 0)) ∧ w'.heap[w.heap.size + 1]? = some (.cells a1 30 (0, 0)) := by
  have e1 : ((w.alloc o).alloc (.cells a1 30)).heap.size = w.heap.size + 1 + 1 := by simp
  have e0 : (w.alloc o).heap.size = w.heap.size + 1 := by simp
  constructor
  · rw [hK.block _ (by simp) (by omega), ← e1]; exact blk_new _ _
  · rw [hK.block _ (by simp) (by omega), Below.heap_alloc _ _ _ (by simp), ← e0]; exact blk_new _ _
/-- The worlds behind the stores into the two items. -/
theorem get_final {w W w' : World} {b j : Nat} {st : RS} {u u0 u1 u2 u3 : Value} (hb : b < w.heap.size) (hbel : Below w.heap.size w W) (hR : Rd w' b st) (hK : Kp (fun k => k = b) W w') :
    Rd (((((w'.setCell ⟨w.heap.size + 1 + 1, j, none⟩ u).setCell ⟨w.heap.size + 1, 0, none⟩ u0).setCell ⟨w.heap.size + 1, 1, none⟩ u1).setCell ⟨w.heap.size + 1, 2, none⟩ u2).setCell ⟨w.heap.size + 1, 3, none⟩ u3) b st ∧
    Kp (fun k => k = b) w (((((w'.setCell ⟨w.heap.size + 1 + 1, j, none⟩ u).setCell ⟨w.heap.size + 1, 0, none⟩ u0).setCell ⟨w.heap.size + 1, 1, none⟩ u1).setCell ⟨w.heap.size + 1, 2, none⟩ u2).setCell ⟨w.heap.size + 1, 3, none⟩ u3) := by
  have hs : ∀ (v : World) (p : Addr) (x : Value), w.heap.size ≤ p.block → (v.setCell p x).heap[b]? = v.heap[b]? := fun v p x h => Below.heap_setCell _ _ _ _ (by omega)
  have hk0 : Kp (fun k => k = b) w w' := ⟨hK.os.trans hbel.os, hK.tape.trans hbel.tape, hK.output.trans hbel.output, Nat.le_trans hbel.size hK.size, fun k hk hx => (hK.block k (Nat.lt_of_lt_of_le hk hbel.size) hx).trans (hbel.block k hk)⟩
  constructor
  · refine hR.kept ?_
    rw [hs _ _ _ (by simp), hs _ _ _ (by simp), hs _ _ _ (by simp), hs _ _ _ (by simp), hs _ _ _ (by simp; omega)]
  · exact ((((hk0.setCell (fun h => by simp at h; omega) _).setCell (fun h => by simp at h; omega) _).setCell (fun h => by simp at h; omega) _).setCell (fun h => by simp at h; omega) _).setCell (fun h => by simp at h; omega) _
theorem bools_final {w w' : World} {j : Nat} {u u0 u1 u2 u3 v : Value} {fl : List Bool} (h : Bools w' v fl) (hf : ∀ a k c, v = .slice (some a) k c → w.heap.size + 3 ≤ a.block) :
    Bools (((((w'.setCell ⟨w.heap.size + 1 + 1, j, none⟩ u).setCell ⟨w.heap.size + 1, 0, none⟩ u0).setCell ⟨w.heap.size + 1, 1, none⟩ u1).setCell ⟨w.heap.size + 1, 2, none⟩ u2).setCell ⟨w.heap.size + 1, 3, none⟩ u3) v fl := by
  obtain ⟨fa, fc, rfl, h2⟩ := h
  refine ⟨fa, fc, rfl, ?_⟩
  rcases h2 with h2 | ⟨b, o, rfl, h4⟩
  · exact .inl h2
  · have hb := hf _ _ _ rfl
    refine .inr ⟨b, o, rfl, fun j hj => ?_⟩
    have hs : ∀ (v : World) (p : Addr) (x : Value), p.block ≠ b → (v.setCell p x).cell? ⟨b, o + j, none⟩ = v.cell? ⟨b, o + j, none⟩ := fun v p x h => World.cell?_of_block (Below.heap_setCell _ _ _ _ (fun e => h e.symm))
    rw [hs _ _ _ (by simp at hb ⊢; omega), hs _ _ _ (by simp at hb ⊢; omega), hs _ _ _ (by simp at hb ⊢; omega), hs _ _ _ (by simp at hb ⊢; omega), hs _ _ _ (by simp at hb ⊢; omega)]
    exact h4 j hj
set_option maxHeartbeats 3200000 in
set_option maxRecDepth 100000 in
theorem get_any (b : Nat) (st : RS) (x : Itm) (fv : Value) (hk : 1 ≤ x.kind ∧ x.kind ≤ 6) (hN : I64 x.N) (aF : Addr) (w : World) (hR : Rd w b st) (hp : RPre w st aF) (hF : Bools w fv x.fl) :
    Calls Tryd.prog 19 #[.pointer (some ⟨b, 0, none⟩), x.val fv] w fun e w' => (∃ v, e = .returned ((st.get aF x).1.val v) ∧ Bools w' v (st.get aF x).1.fl) ∧ Rd w' b (st.get aF x).2 ∧ Kp (fun k => k = b) w w' := by
  obtain ⟨kd, N, text, fl⟩ := x
  obtain ⟨hk1, hk2⟩ := hk
  obtain ⟨fa, fc, rfl, _⟩ := hF
  simp only [Itm.val] at *
  obtain ⟨W3, hW3⟩ : ∃ W3, W3 = ((w.alloc (.cells #[.int .i64 kd, .int .i64 N, .string text, .slice fa fl.length fc] 30)).alloc (.cells #[.int .i64 0, .int .i64 0, .string ⟨#[]⟩, .slice none 0 0] 30)).alloc (.cells #[.int .i64 kd, .int .i64 0, .string ⟨#[]⟩, .slice none 0 0] 30) := ⟨_, rfl⟩
  have hbel : Below w.heap.size w W3 := by rw [hW3]; exact (((Below.refl _ _).alloc (Nat.le_refl _) _).alloc (by simp) _).alloc (by simp; omega) _
  have hsz3 : W3.heap.size = w.heap.size + 3 := by rw [hW3]; simp
  have hblt := hR.foots.lt
  obtain rfl | rfl | rfl | rfl | rfl | rfl : kd = 1 ∨ kd = 2 ∨ kd = 3 ∨ kd = 4 ∨ kd = 5 ∨ kd = 6 := by omega
  · rw [show RS.get aF ⟨1, N, text, fl⟩ st = (⟨1, (st.byte aF).1, ⟨#[]⟩, []⟩, (st.byte aF).2) from rfl]
    have hc := hid (rbyte_any b st aF W3 (hR.new hbel) (hp.new hbel))
    rw [hW3] at hc hbel
    generalize st.byte aF = q at *
    have HB := hid hbel
    clear hN hp hW3 hbel hsz3
    go_enter Tryd.func19, Tryd.ntmps19
    go_wp2_with (go_at_call 27; refine (hc.out).mono ?_; rintro e w' ⟨rfl, hR', hK'⟩; obtain ⟨hx, hz⟩ := get_blocks hblt hK'; have x0 := blk_cell hx 0; have x1 := blk_cell hx 1; have x2 := blk_cell hx 2; have x3 := blk_cell hx 3; have z0 := blk_cell hz 0; have z1 := blk_cell hz 1; have z2 := blk_cell hz 2; have z3 := blk_cell hz 3; have fx := blk_free hx; have fz := blk_free hz)
    exact bodyPost_ret (v := .agg #[.int .i64 1, .int .i64 q.1, .string ⟨#[]⟩, .slice none 0 0]) (by simp [results, Tryd.results19, go_sem, z0, z1, z2, z3]) rfl ⟨⟨_, rfl, Bools.nil _⟩, get_final hblt HB.out hR' hK'⟩
  · rw [show RS.get aF ⟨2, N, text, fl⟩ st = (⟨2, (st.number nmCount aF 9223372036854775807).1, ⟨#[]⟩, []⟩, (st.number nmCount aF 9223372036854775807).2) from rfl]
    have hc := hid (rcount_any b st aF W3 (hR.new hbel) (hp.new hbel))
    rw [hW3] at hc hbel
    generalize st.number nmCount aF 9223372036854775807 = q at *
    have HB := hid hbel
    clear hN hp hW3 hbel hsz3
    go_enter Tryd.func19, Tryd.ntmps19
    go_wp2_with (go_at_call 28; refine (hc.out).mono ?_; rintro e w' ⟨rfl, hR', hK'⟩; obtain ⟨hx, hz⟩ := get_blocks hblt hK'; have x0 := blk_cell hx 0; have x1 := blk_cell hx 1; have x2 := blk_cell hx 2; have x3 := blk_cell hx 3; have z0 := blk_cell hz 0; have z1 := blk_cell hz 1; have z2 := blk_cell hz 2; have z3 := blk_cell hz 3; have fx := blk_free hx; have fz := blk_free hz)
    exact bodyPost_ret (v := .agg #[.int .i64 2, .int .i64 q.1, .string ⟨#[]⟩, .slice none 0 0]) (by simp [results, Tryd.results19, go_sem, z0, z1, z2, z3]) rfl ⟨⟨_, rfl, Bools.nil _⟩, get_final hblt HB.out hR' hK'⟩
  · rw [show RS.get aF ⟨3, N, text, fl⟩ st = (⟨3, unzig (st.number nmNum aF 18446744073709551615).1, ⟨#[]⟩, []⟩, (st.number nmNum aF 18446744073709551615).2) from rfl]
    have hc := hid (rnum_any b st aF W3 (hR.new hbel) (hp.new hbel))
    rw [hW3] at hc hbel
    generalize st.number nmNum aF 18446744073709551615 = q at *
    have HB := hid hbel
    clear hN hp hW3 hbel hsz3
    go_enter Tryd.func19, Tryd.ntmps19
    go_wp2_with (go_at_call 29; refine (hc.out).mono ?_; rintro e w' ⟨rfl, hR', hK'⟩; obtain ⟨hx, hz⟩ := get_blocks hblt hK'; have x0 := blk_cell hx 0; have x1 := blk_cell hx 1; have x2 := blk_cell hx 2; have x3 := blk_cell hx 3; have z0 := blk_cell hz 0; have z1 := blk_cell hz 1; have z2 := blk_cell hz 2; have z3 := blk_cell hz 3; have fx := blk_free hx; have fz := blk_free hz)
    exact bodyPost_ret (v := .agg #[.int .i64 3, .int .i64 (unzig q.1), .string ⟨#[]⟩, .slice none 0 0]) (by simp [results, Tryd.results19, go_sem, z0, z1, z2, z3]) rfl ⟨⟨_, rfl, Bools.nil _⟩, get_final hblt HB.out hR' hK'⟩
  · rw [show RS.get aF ⟨4, N, text, fl⟩ st = (⟨4, 0, ⟨(st.text aF N).1.toArray⟩, []⟩, (st.text aF N).2) from rfl]
    have hc := hid (rtext_any b st N hN aF W3 (hR.new hbel) (hp.new hbel))
    rw [hW3] at hc hbel
    generalize st.text aF N = q at *
    have HB := hid hbel
    clear hN hp hW3 hbel hsz3
    go_enter Tryd.func19, Tryd.ntmps19
    go_wp2_with (go_at_call 30; refine (hc.out).mono ?_; rintro e w' ⟨⟨s, rfl, hse⟩, hR', hK'⟩; obtain ⟨hx, hz⟩ := get_blocks hblt hK'; have x0 := blk_cell hx 0; have x1 := blk_cell hx 1; have x2 := blk_cell hx 2; have x3 := blk_cell hx 3; have z0 := blk_cell hz 0; have z1 := blk_cell hz 1; have z2 := blk_cell hz 2; have z3 := blk_cell hz 3; have fx := blk_free hx; have fz := blk_free hz)
    exact bodyPost_ret (v := .agg #[.int .i64 4, .int .i64 0, .string s, .slice none 0 0]) (by simp [results, Tryd.results19, go_sem, z0, z1, z2, z3]) rfl ⟨⟨_, by rw [← hse], Bools.nil _⟩, get_final hblt HB.out hR' hK'⟩
  · rw [show RS.get aF ⟨5, N, text, fl⟩ st = (⟨5, (st.number nmBits aF 4294967295).1, ⟨#[]⟩, []⟩, (st.number nmBits aF 4294967295).2) from rfl]
    have hc := hid (rbits_any b st aF W3 (hR.new hbel) (hp.new hbel))
    rw [hW3] at hc hbel
    have hle := number_le nmBits aF 4294967295 st (by decide)
    generalize st.number nmBits aF 4294967295 = q at *
    have HB := hid hbel
    clear hN hp hW3 hbel hsz3
    go_enter Tryd.func19, Tryd.ntmps19
    go_wp2_with (go_at_call 32; refine (hc.out).mono ?_; rintro e w' ⟨rfl, hR', hK'⟩; obtain ⟨hx, hz⟩ := get_blocks hblt hK'; have x0 := blk_cell hx 0; have x1 := blk_cell hx 1; have x2 := blk_cell hx 2; have x3 := blk_cell hx 3; have z0 := blk_cell hz 0; have z1 := blk_cell hz 1; have z2 := blk_cell hz 2; have z3 := blk_cell hz 3; have fx := blk_free hx; have fz := blk_free hz)
    exact bodyPost_ret (v := .agg #[.int .i64 5, .int .i64 q.1, .string ⟨#[]⟩, .slice none 0 0]) (by simp [results, Tryd.results19, go_sem, z0, z1, z2, z3]) rfl ⟨⟨_, rfl, Bools.nil _⟩, get_final hblt HB.out hR' hK'⟩
  · rw [show RS.get aF ⟨6, N, text, fl⟩ st = (⟨6, 0, ⟨#[]⟩, (st.flags aF N).1⟩, (st.flags aF N).2) from rfl]
    have hc := hid (rflags_any b st N aF W3 (hR.new hbel) (hp.new hbel))
    rw [hW3] at hc hbel
    have hfr : ∀ v, Fresh W3 v → ∀ a k c, v = .slice (some a) k c → w.heap.size + 3 ≤ a.block := fun v h a k c e => by have := h a k c e; omega
    rw [hW3] at hfr
    have HFR := hid hfr
    clear hfr
    generalize st.flags aF N = q at *
    have HB := hid hbel
    clear hN hp hW3 hbel hsz3
    go_enter Tryd.func19, Tryd.ntmps19
    go_wp2_with (go_at_call 31; refine (hc.out).mono ?_; rintro e w' ⟨⟨v, rfl, hbo, hfv⟩, hR', hK'⟩; obtain ⟨va, vc, rfl, hvb⟩ := hbo; obtain ⟨hx, hz⟩ := get_blocks hblt hK'; have x0 := blk_cell hx 0; have x1 := blk_cell hx 1; have x2 := blk_cell hx 2; have x3 := blk_cell hx 3; have z0 := blk_cell hz 0; have z1 := blk_cell hz 1; have z2 := blk_cell hz 2; have z3 := blk_cell hz 3; have fx := blk_free hx; have fz := blk_free hz)
    exact bodyPost_ret (v := .agg #[.int .i64 6, .int .i64 0, .string ⟨#[]⟩, .slice va q.1.length vc]) (by simp [results, Tryd.results19, go_sem, z0, z1, z2, z3]) rfl ⟨⟨_, rfl, bools_final ⟨va, vc, rfl, hvb⟩ (HFR.out _ hfv)⟩, get_final hblt HB.out hR' hK'⟩
end Go.Proofs.YthngdaeiopgigaaDoor
