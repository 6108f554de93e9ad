/- The walk of Depths in memory: come, leave. -/
import Derived.Test.YtkhhiddemihnbaaDoorCwBb
import Derived.Deep.RegionHeld3
import Derived.Deep.RegionLaw
import Derived.Deep.RegionHeldLaw
import Derived.Deep.AppendLies
import Derived.Deep.QuietTactic
import Derived.Deep.LoopGhost
namespace Go.Proofs.YtkhhiddemihnbaaDoor.Cw
open Go.RowKit Go.Shelf
theorem infoIntW : (Tryd.prog.info? 3).map (fun i => (i.zero, i.size, i.bytes)) = some (some (.int .i64 0), 1, 8) := by kernel_rfl
def gI (n : Nat) : Value := .int .i64 (n : Int)
def gZ (n : Int) : Value := .int .i64 n
/-- Outside S all lies as it lay. -/
structure St (S : Nat → Prop) (W W' : World) : Prop where
  os : W'.os = W.os
  tape : W'.tape = W.tape
  output : W'.output = W.output
  size : W.heap.size ≤ W'.heap.size
  block : ∀ k, k < W.heap.size → ¬ S k → W'.heap[k]? = W.heap[k]?
theorem St.trans {S T : Nat → Prop} {a b c : World} (h : St S a b) (k : St T b c) (hs : ∀ x, x < a.heap.size → T x → S x) : St S a c :=
  ⟨k.os.trans h.os, k.tape.trans h.tape, k.output.trans h.output, Nat.le_trans h.size k.size, fun x hx hn => (k.block x (Nat.lt_of_lt_of_le hx h.size) (fun q => hn (hs x hx q))).trans (h.block x hx hn)⟩
theorem St.of_below {S : Nat → Prop} {a b : World} (h : Below a.heap.size a b) : St S a b := ⟨h.os, h.tape, h.output, h.size, fun k hk _ => h.block k hk⟩
theorem St.of_grown {S : Nat → Prop} {a b : World} {row : Option Nat} (h : a.grownBy b row) (hS : ∀ k, row = some k → S k) : St S a b :=
  ⟨h.os, h.tape, h.output, h.size, fun k hk hn => h.block k hk (fun e => hn (hS k e.symm))⟩
theorem St.below {S : Nat → Prop} {a b : World} {B : Nat} (h : St S a b) (hS : ∀ k, S k → B ≤ k) (hB : B ≤ a.heap.size) : Below B a b :=
  ⟨h.os, h.tape, h.output, h.size, fun k hk => h.block k (by omega) (fun q => by have := hS k q; omega)⟩
theorem St.setCell {S : Nat → Prop} {a : World} {p : Addr} (v : Value) (hp : S p.block) : St S a (a.setCell p v) :=
  ⟨rfl, rfl, rfl, by simp, fun k _ hn => Below.heap_setCell _ _ _ _ (fun e => hn (e ▸ hp))⟩
theorem St.at {S : Nat → Prop} {W W' : World} {b : Nat} {o : Obj} (hs : St S W W') (h : W.heap[b]? = some o) (hn : ¬ S b) : W'.heap[b]? = some o := (hs.block b (Array.getElem?_eq_some_iff.1 h).1 hn).trans h
theorem bAl (W : World) (o : Obj) : Below W.heap.size W (W.alloc o) := (Below.refl _ _).alloc (Nat.le_refl _) _
theorem cell_blk {W : World} {b j : Nat} {cs : Array Value} {e : TypeId} {u : Value} (h : W.heap[b]? = some (.cells cs e (0, 0))) (hj : cs[j]? = some u) : W.cell? ⟨b, j, none⟩ = some u := by
  rw [cell_of_row _ _ j _ e (0, 0) h]; exact hj
theorem blk_free {W : World} {b : Nat} {cs : Array Value} {e : TypeId} (h : W.heap[b]? = some (.cells cs e (0, 0))) (j : Nat) : W.frozen? ⟨b, j, none⟩ = false := by
  unfold World.frozen?
  rw [show (⟨b, j, none⟩ : Addr).block = b from rfl, h]
  simp
theorem blk_seen {W W' : World} {B b : Nat} {o : Obj} (hb : Below B W W') (hB : W.heap.size ≤ B) (h : W.heap[b]? = some o) : W'.heap[b]? = some o := (hb.block b (Nat.lt_of_lt_of_le (Array.getElem?_eq_some_iff.1 h).1 hB)).trans h
theorem blk_lt {W : World} {b : Nat} {o : Obj} (h : W.heap[b]? = some o) : b < W.heap.size := (Array.getElem?_eq_some_iff.1 h).1
theorem seen {B : Nat} {W W' : World} (hb : Below B W W') (hB : W.heap.size ≤ B) {p : Addr} {u : Value} (h : W.cell? p = some u) : W'.cell? p = some u := (hb.cell (p := p) (Nat.lt_of_lt_of_le (World.block_lt_of_cell? W p h) hB)).trans h
theorem own_shrink {W : World} {B fb fc : Nat} {f : List Nat} {i : Nat} (h : W.ownsRow B 3 1 (.slice (some ⟨fb, 0, none⟩) (f.length + 1) fc) (f.length + 1) ((f ++ [i]).map gI)) : W.ownsRow B 3 1 (.slice (some ⟨fb, 0, none⟩) f.length fc) f.length (f.map gI) := by
  refine ⟨by simp, ?_⟩
  rcases h.2 with ⟨h1, _⟩ | ⟨g, cap, cur, h1, h2, h3, h4, h5, h6, h7⟩
  · cases h1
  · simp only [Value.slice.injEq, Option.some.injEq, Addr.mk.injEq, true_and, and_true] at h1
    obtain ⟨rfl, rfl⟩ := h1
    refine .inr ⟨fb, fc, cur, rfl, h2, h3, by omega, h5, h6, ?_⟩
    have := congrArg (List.take f.length) h7
    rw [List.take_take] at this
    simp only [Nat.mul_one] at this ⊢
    rw [show min f.length (f.length + 1) = f.length by omega] at this
    rw [this]
    simp
/-- What an append onto the open places leaves. -/
structure Grew (B : Nat) (sv : Value) (n : Nat) (l : List Value) (wc : World) (sv' : Value) (w2 : World) : Prop where
  own : w2.ownsRow B 3 1 sv' n l
  st : St (fun x => sv.ownBlock = some x) wc w2
theorem new_cellW (w : World) (v : Value) (e : TypeId) : (w.alloc (.cells #[v] e)).cell? ⟨w.heap.size, 0, none⟩ = some v := by
  rw [cell_of_row _ _ 0 _ e (0, 0) (heap_alloc_new w _)]; rfl
theorem wpList_open {ops : Array Oper} {rest : List Oper} {o : Oper} {a : Act} {Q : Exit → Act → World → Prop} (hgd : o.guard = none) (s x : Operand)
    (ho : o.op = .call { callee := .builtin .append, args := #[s, x], argTypes := #[51, 51] }) {B rb : Nat} {wc : World} {fv : Value} {f : List Nat} {k : Nat} (hown : wc.ownsRow B 3 1 fv f.length (f.map gI)) (hl : f.length ≤ 65536) (hB : B ≤ wc.heap.size)
    {cs : Array Value} {ty : TypeId} (hbox : wc.heap[rb]? = some (.cells cs ty (0, 0))) (hcs : cs[1]? = some fv) (hne : fv.ownBlock ≠ some rb)
    (hs : a.eval s = fv) (hx : a.eval x = .slice (some ⟨wc.heap.size, 0, none⟩) 1 1)
    (h : ∀ g' cap w2, Hid (Grew B fv (f.length + 1) ((f ++ [k]).map gI) wc (.slice (some ⟨g', 0, none⟩) (f.length + 1) cap) w2) → w2.cell? ⟨rb, 1, none⟩ = some fv → w2.frozen? ⟨rb, 1, none⟩ = false → wpList Tryd.prog ops Q rest (a.put o.dst (.slice (some ⟨g', 0, none⟩) (f.length + 1) cap)) w2) :
    wpList Tryd.prog ops Q (o :: rest) a (wc.alloc (.cells #[.int .i64 (k : Int)] 3)) := by
  obtain ⟨i0, hi, hz0, hz1, hz2⟩ := info_parts infoIntW
  have hb : Below wc.heap.size wc (wc.alloc (.cells #[.int .i64 (k : Int)] 3)) := bAl _ _
  have ho2 : (wc.alloc (.cells #[.int .i64 (k : Int)] 3)).ownsRow B 3 1 fv f.length (f.map gI) := hown.alloc _
  refine wpList_append_lies _ hgd s x 51 ho B 3 i0 (.int .i64 0) 1 8 Tryd.underlying51 hi hz0 hz1 hz2 rfl (by decide) fv f.length (f.map gI) hs ho2 ⟨wc.heap.size, 0, none⟩ 1 1 [gI k] hx rfl (fun j u hu => by
    rw [add_at]
    match j, hu with
    | 0, hu =>
      simp at hu
      subst hu
      exact new_cellW wc _ 3
    | j + 1, hu => simp at hu) (by intro u hu; simp at hu; subst hu; rfl) (by decide) (by unfold maxLen; omega) (by omega) (by simp; omega) (wc.heap.size + 1) (by simp) ?_
  intro g' cap w2 ow hg hat hlt
  have st : St (fun x => fv.ownBlock = some x) wc w2 := (St.of_below hb).trans (St.of_grown (S := fun x => fv.ownBlock = some x) hg fun k e => e) fun _ _ q => q
  have hbx : w2.heap[rb]? = some (.cells cs ty (0, 0)) := (st.block rb (Array.getElem?_eq_some_iff.1 hbox).1 hne).trans hbox
  refine h g' cap w2 ⟨?_, st⟩ (cell_blk hbx hcs) (blk_free hbx 1)
  rw [List.map_append]
  exact ow
/-- The walk in memory. -/
structure Wm (B : Nat) (W : World) (wb db : Nat) (ov : Value) (d : List Int) (o : List Nat) : Prop where
  box : W.heap[wb]? = some (.cells #[.slice (some ⟨db, 0, none⟩) d.length d.length, ov] 93 (0, 0))
  dep : W.heap[db]? = some (.cells (d.map gZ).toArray 3 (0, 0))
  row : W.ownsRow (wb + 1) 3 1 ov o.length (o.map gI)
  low : B ≤ db ∧ db < wb
section
variable {B : Nat} {W W' : World} {wb db : Nat} {ov : Value} {d : List Int} {o : List Nat}
theorem Wm.c0 (h : Wm B W wb db ov d o) : W.cell? ⟨wb, 0, none⟩ = some (.slice (some ⟨db, 0, none⟩) d.length d.length) := cell_blk h.box rfl
theorem Wm.c1 (h : Wm B W wb db ov d o) : W.cell? ⟨wb, 1, none⟩ = some ov := cell_blk h.box rfl
theorem Wm.cd {q : Nat} {n : Int} (h : Wm B W wb db ov d o) (hq : d[q]? = some n) : W.cell? ⟨db, q, none⟩ = some (.int .i64 n) := cell_blk h.dep (by simp [hq, gZ])
theorem Wm.lt (h : Wm B W wb db ov d o) : db < W.heap.size ∧ wb < W.heap.size := ⟨blk_lt h.dep, blk_lt h.box⟩
theorem Wm.later (h : Wm B W wb db ov d o) (hb : Below W.heap.size W W') : Wm B W' wb db ov d o :=
  ⟨blk_seen hb (Nat.le_refl _) h.box, blk_seen hb (Nat.le_refl _) h.dep, own_later h.row fun _ _ _ hc => blk_seen hb (Nat.le_refl _) hc, h.low⟩
theorem Wm.apart (h : Wm B W wb db ov d o) (k : Nat) (hk : ov.ownBlock = some k) : k ≠ wb ∧ k ≠ db := by
  have := own_block h.row hk
  have := h.low
  omega
theorem gZ_set (d : List Int) (q : Nat) (m : Int) : (d.map gZ).toArray.setIfInBounds q (.int .i64 m) = ((d.set q m).map gZ).toArray := by
  rw [List.map_set]
  simp [gZ]
theorem heap_setCell_sameW (w : World) (b j : Nat) (cs : Array Value) (e : TypeId) (v : Value) (h : w.heap[b]? = some (.cells cs e (0, 0))) : (w.setCell ⟨b, j, none⟩ v).heap[b]? = some (.cells (cs.setIfInBounds j v) e (0, 0)) := heap_setCell_same w b j cs e v h
/-- A depth is written. -/
theorem Wm.put (h : Wm B W wb db ov d o) (q : Nat) (m : Int) : Wm B (W.setCell ⟨db, q, none⟩ (.int .i64 m)) wb db ov (d.set q m) o := by
  have hl := h.low
  have s : St (fun k => k = db) W (W.setCell ⟨db, q, none⟩ (.int .i64 m)) := St.setCell _ rfl
  refine ⟨?_, ?_, ?_, h.low⟩
  · have := s.at h.box (by omega)
    simpa using this
  · rw [heap_setCell_sameW _ _ _ _ _ _ h.dep, gZ_set]
  · refine own_later h.row fun g cur hg hc => s.at hc ?_
    exact (h.apart g hg).2
/-- The row of open places is another one. -/
theorem Wm.opened (h : Wm B W wb db ov d o) {w2 : World} {ov' : Value} {o' : List Nat} (g : Grew (wb + 1) ov o'.length (o'.map gI) W ov' w2) : Wm B (w2.setCell ⟨wb, 1, none⟩ ov') wb db ov' d o' ∧ Below B W (w2.setCell ⟨wb, 1, none⟩ ov') := by
  have hl := h.low
  have b1 := g.st.at h.box fun e => (h.apart wb e).1 rfl
  have b2 := g.st.at h.dep fun e => (h.apart db e).2 rfl
  have s : St (fun k => k = wb) w2 (w2.setCell ⟨wb, 1, none⟩ ov') := St.setCell _ rfl
  refine ⟨⟨?_, s.at b2 (by omega), ?_, h.low⟩, ?_⟩
  · rw [heap_setCell_sameW _ _ _ _ _ _ b1]
    rfl
  · refine own_later g.own fun k cur hk hc => s.at hc ?_
    have := own_block g.own hk
    omega
  · have s2 : St (fun k => k = wb ∨ ov.ownBlock = some k) W w2 := ⟨g.st.os, g.st.tape, g.st.output, g.st.size, fun k hk hn => g.st.block k hk fun q => hn (.inr q)⟩
    refine (s2.trans s fun _ _ q => .inl q).below ?_ ?_
    · rintro k (rfl | hk)
      · omega
      · have := own_block h.row hk
        omega
    · have := h.lt
      omega
theorem Wm.shrunk {fb fc q : Nat} (h : Wm B W wb db (.slice (some ⟨fb, 0, none⟩) (o.length + 1) fc) d (o ++ [q])) : Wm B (W.setCell ⟨wb, 1, none⟩ (.slice (some ⟨fb, 0, none⟩) o.length fc)) wb db (.slice (some ⟨fb, 0, none⟩) o.length fc) d o ∧ Below B W (W.setCell ⟨wb, 1, none⟩ (.slice (some ⟨fb, 0, none⟩) o.length fc)) := by
  have r := own_shrink (by have := h.row; rw [List.length_append] at this; exact this)
  refine h.opened ⟨r, ⟨rfl, rfl, rfl, Nat.le_refl _, fun _ _ _ => rfl⟩⟩
end
set_option maxHeartbeats 1600000 in
set_option maxRecDepth 100000 in
theorem come_any {B : Nat} {W : World} {wb db : Nat} {ov : Value} {d : List Int} {o : List Nat} (h : Wm B W wb db ov d o) (q : Nat) (hq : q < d.length) (m : Int) (hl : o.length ≤ 65536) :
    Calls Tryd.prog 39 #[.pointer (some ⟨wb, 0, none⟩), .int .i64 (q : Int), .int .i64 m] W fun e W' => e = .returned (.bool (cb d q m)) ∧ (∃ ov', Wm B W' wb db ov' (cd d q m) (co d o q)) ∧ Below B W W' := by
  have hn := List.getElem?_eq_getElem hq
  have hqi : (q : Int) < (d.length : Int) := by omega
  have h0 := h.c0
  have h1 := h.c1
  have h2 := h.cd hn
  by_cases hd : d[q] = -1
  · rw [hd] at hn h2
    have e1 : cd d q m = d.set q m := if_pos hn
    have e2 : co d o q = o ++ [q] := if_pos hn
    have e3 : cb d q m = true := by unfold cb; rw [cd_self hn]; simp
    rw [e1, e2, e3]
    have H := hid h
    have f2 := blk_free h.dep q
    clear h e1 e2 e3 hd
    go_enter Tryd.func39, Tryd.ntmps39
    go_upto_region 3 with fail
    obtain ⟨wc, hwc⟩ : ∃ wc, wc = W.setCell ⟨db, q, none⟩ (.int .i64 m) := ⟨_, rfl⟩
    rw [← hwc]
    have HC : Hid (Wm B wc wb db ov (d.set q m) o) := by rw [hwc]; exact H.out.put q m
    have BC : Hid (Below B W wc) := by
      show Below B W wc
      rw [hwc]
      exact (St.setCell (S := fun k => k = db) _ rfl).below (by rintro k rfl; exact H.out.low.1) (by have := H.out.lt; have := H.out.low; omega)
    have k0 := HC.out.c0
    have k1 := HC.out.c1
    rw [List.length_set] at k0
    obtain ⟨sa, sc, rfl⟩ := own_slice HC.out.row
    have hBw : wb + 1 ≤ wc.heap.size := HC.out.lt.2
    have hne : (Value.slice sa o.length sc).ownBlock ≠ some wb := fun e => (HC.out.apart wb e).1 rfl
    have hwl : wb < wc.heap.size := HC.out.lt.2
    have hwn : ¬ (wb = wc.heap.size) := by omega
    clear hwc h0 h1 h2 f2
    go_upto_region 4 with (at_builtin; refine wpList_open rfl _ _ rfl HC.out.row hl hBw HC.out.box rfl hne rfl rfl ?_; intro g' cap w3 hgr hx3 hf3)
    obtain ⟨w4, hw4⟩ : ∃ w4, w4 = w3.setCell ⟨wb, 1, none⟩ (.slice (some ⟨g', 0, none⟩) (o.length + 1) cap) := ⟨_, rfl⟩
    rw [← hw4]
    have F := HC.out.opened (ov' := .slice (some ⟨g', 0, none⟩) (o.length + 1) cap) (o' := o ++ [q]) (by rw [List.length_append]; exact hgr.out)
    rw [← hw4] at F
    have HF := hid F
    have j0 := F.1.c0
    rw [List.length_set] at j0
    have j2 := F.1.cd (q := q) (n := m) (by rw [List.getElem?_set_self hq])
    clear F hw4 hgr hx3 hf3 k0 k1
    go_wp2_with fail
    go_ret
    exact ⟨by simp, ⟨_, HF.out.1⟩, BC.out.trans HF.out.2⟩
  · have hnn : ¬ (d[q]? = some (-1)) := by rw [hn]; simpa using hd
    have e1 : cd d q m = d := if_neg hnn
    have e2 : co d o q = o := if_neg hnn
    have e3 : cb d q m = (d[q] == m) := by unfold cb; rw [e1, hn]; rfl
    rw [e1, e2, e3]
    have H := hid h
    generalize d[q] = n at *
    have hd' : (n == -1) = false := by simpa using hd
    clear h e1 e2 e3 hn hnn hd
    go_enter Tryd.func39, Tryd.ntmps39
    go_wp2_with fail
    go_ret
    exact ⟨rfl, ⟨ov, H.out⟩, Below.refl _ _⟩
set_option maxHeartbeats 1600000 in
set_option maxRecDepth 100000 in
theorem leave_any {B : Nat} {W : World} {wb db : Nat} {ov : Value} {d : List Int} {o : List Nat} {q : Nat} (h : Wm B W wb db ov d (o ++ [q])) (hl : o.length ≤ 65536) :
    Calls Tryd.prog 40 #[.pointer (some ⟨wb, 0, none⟩)] W fun e W' => e = .returned (.int .i64 (q : Int)) ∧ (∃ ov', Wm B W' wb db ov' d o) ∧ Below B W W' := by
  have h1 := h.c1
  have f1 := blk_free h.box 1
  obtain ⟨sa, sc, rfl⟩ := own_slice h.row
  obtain ⟨fb, rfl, -, -⟩ := own_some h.row (by simp)
  have h2 : W.cell? ⟨fb, o.length, none⟩ = some (.int .i64 (q : Int)) := by
    have := h.row.cells (g := fb) rfl o.length (.int .i64 (q : Int)) (by simp [gI])
    rw [add_at] at this
    simpa using this
  simp only [List.length_append, List.length_cons, List.length_nil, Nat.zero_add] at h h1
  have H := hid h
  have hli : (o.length : Int) ≤ 65536 := by omega
  have hcap : Hid (o.length + 1 ≤ sc) := by
    rcases h.row.2 with ⟨h1, _⟩ | ⟨g, cap, cur, h1, h2, h3, h4, h5, h6, h7⟩
    · cases h1
    · simp at h1
      obtain ⟨rfl, rfl⟩ := h1
      show _ ≤ _
      simpa using h4
  have hc2 : o.length ≤ sc := by have := hcap.out; omega
  clear h
  go_enter Tryd.func40, Tryd.ntmps40
  go_wp2_with fail
  go_ret
  have F := H.out.shrunk
  exact ⟨rfl, ⟨_, F.1⟩, F.2⟩
end Go.Proofs.YtkhhiddemihnbaaDoor.Cw
