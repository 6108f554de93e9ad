/- Texts in one. -/
import Derived.Deep.RegionLaw
import Derived.Deep.AppendLies
import Derived.Deep.DeepCutAuto
import Derived.Deep.CutRange
import Derived.Deep.LoopGhost
import Derived.Shelf.Abstract
import Derived.Test.YthadfdbkkmmgoaaGreatDoorMae
namespace Go.Proofs.YthadfdbkkmmgoaaGreatDoor.So
open Go.RowKit Go.Shelf Go.Maps
open Go.Proofs.YthadfdbkkmmgoaaGreatDoor.Co (I64 Pt Col CS I64_mid)
open Go.Proofs.YthadfdbkkmmgoaaGreatDoor.At (St bAl cell_blk blk_seen blk_free lst lst_mem an wi wo add Atl Ints pow_le)
open Go.Proofs.YthadfdbkkmmgoaaGreatDoor.Ro (RS Rol Ents entCells entCells_snoc infoEnt)
open Go.Proofs.YthadfdbkkmmgoaaGreatDoor.Rs (Prt SD okL okW okC fitP mskP PRow Six six six_set)
section
variable {B : Nat} {W W' : World} {f : Nat → Nat × Nat × Nat} {n : Nat} {x : TV} {m : Nat} {ws : List Nat} {own : List (Nat × Nat)} {rows : Nat → List Pt}
theorem Tb.colset (h : Tb B W f n x m ws own rows) (hlt : ∀ k, f k ≠ (0, 0, 0) → k < W.heap.size) {c w : Nat} (hw : ws[c]? = some w) {r' : List Pt} {S' : Nat → Prop} (hcol : Col B W' (x.cb c) ⟨(c : Int), w, r'⟩ S')
    (hs : St (fun k => f k = (5, n, c)) W W') (hS : ∀ k, S' k → f k = (5, n, c) ∨ W.heap.size ≤ k) : ∃ f', Tb B W' f' n x m ws own (fun c' => if c' = c then r' else rows c') ∧ Rec (cls n) f f' W.heap.size W'.heap.size := by
  obtain ⟨f', h1, h2⟩ := recol f (l := (5, n, c)) (by simp) (S := S') (N := W.heap.size) (N' := W'.heap.size) hS hlt (fun k hk => (hcol.lt k hk).2) hs.size
  have e4 : ∀ k, f k = (4, n, 0) → ¬ f k = (5, n, c) := fun k hk e => by rw [hk] at e; simp at e
  refine ⟨f', ⟨hs.at h.box (e4 _ h.ftb), own_kept h.own hs fun k hk => e4 k (h.fov hk), h.map.kept hs (e4 _ h.fcm), fun c' hc' => ?_, fun k => (h2.out _ (by simp) (by simp) k).trans (h.fp k), h.low⟩, h2.mono (fun l hl => .inr ⟨c, hl⟩) (cls_zero n)⟩
  by_cases e : c' = c
  · subst e
    refine ⟨w, hw, ?_⟩
    rw [if_pos rfl]
    exact col_congr hcol h1
  · obtain ⟨w', q1, q2⟩ := h.col c' hc'
    refine ⟨w', q1, ?_⟩
    rw [if_neg e]
    exact col_congr (q2.kept (co_st hs) fun k hk q => by rw [hk] at q; simp at q; exact e q) fun k => h2.out (5, n, c') (by simp) (by simp [e]) k
theorem Tb.rows_eq {rows' : Nat → List Pt} (h : Tb B W f n x m ws own rows) (he : ∀ c, m.testBit c = true → rows' c = rows c) : Tb B W f n x m ws own rows' :=
  { h with col := fun c hc => by rw [he c hc]; exact h.col c hc }
end
/-- What an append onto the owners leaves. -/
structure Grew (B : Nat) (ov : Value) (l : List (Nat × Nat)) (wc : World) (ov' : Value) (w2 : World) : Prop where
  own : Ents B w2 ov' l
  st : St (fun k => ov.ownBlock = some k) wc w2
  at' : ov'.ownBlock = ov.ownBlock ∨ ∃ k, ov'.ownBlock = some k ∧ wc.heap.size ≤ k
theorem step_own {ops : Array Oper} {o : Oper} {a : Act} {K : Act → World → Prop} {Q : Exit → Act → World → Prop} {E : Prop} (hgd : o.guard = none) (s x : Operand)
    (ho : o.op = .call { callee := .builtin .append, args := #[s, x], argTypes := #[268, 268] }) {B tb : Nat} {wc : World} {ov : Value} {l : List (Nat × Nat)} {i g : Nat} (hown : Ents B wc ov l) (hl : l.length ≤ 1000) (hB : B ≤ wc.heap.size)
    {cs : Array Value} (hbox : wc.heap[tb]? = some (.cells cs 271 (0, 0))) (hcs : cs[1]? = some ov) (hne : ov.ownBlock ≠ some tb)
    (hs : a.eval s = ov) (hx : a.eval x = .slice (some ⟨wc.heap.size, 0, none⟩) 1 1)
    (h : ∀ g' cap w2, Hid (Grew B ov (l ++ [(i, g)]) wc (.slice (some ⟨g', 0, none⟩) (l.length + 1) cap) w2) → w2.cell? ⟨tb, 1, none⟩ = some ov → w2.frozen? ⟨tb, 1, none⟩ = false → K (a.put o.dst (.slice (some ⟨g', 0, none⟩) (l.length + 1) cap)) w2) :
    if Region.wanted o (yielded ops a.tmps) = true then Oper.wp Tryz.prog o a (wc.alloc (.cells #[.int .i64 (i : Int), .int .i64 (g : Int)] 144)).drew K Q else E := by
  obtain ⟨i0, hi, hz0, hz1, hz2⟩ := info_parts infoEnt
  have hb : Below wc.heap.size wc (wc.alloc (.cells #[.int .i64 (i : Int), .int .i64 (g : Int)] 144)).drew := ((Below.refl _ _).alloc (Nat.le_refl _) _).drew
  have ho2 : (wc.alloc (.cells #[.int .i64 (i : Int), .int .i64 (g : Int)] 144)).drew.ownsRow B 144 2 ov l.length (entCells l) := World.ownsRow.alloc hown _
  have hz : (wc.alloc (.cells #[.int .i64 (i : Int), .int .i64 (g : Int)] 144)).drew.heap.size = wc.heap.size + 1 := by simp
  have hh := heap_alloc_new wc (.cells #[.int .i64 (i : Int), .int .i64 (g : Int)] 144)
  refine step_append_lies _ hgd s x 268 ho B 144 i0 (.agg #[.int .i64 0, .int .i64 0]) 2 16 Tryz.underlying268 hi hz0 hz1 hz2 rfl (by decide) ov l.length (entCells l) hs ho2 ⟨wc.heap.size, 0, none⟩ 1 1 [Ro.gI i, Ro.gI g] hx rfl (fun j u hu => by
    rw [add_at]
    match j, hu with
    | 0, hu =>
      simp at hu
      subst hu
      exact cell_blk (W := wc.alloc _) hh rfl
    | 1, hu =>
      simp at hu
      subst hu
      exact cell_blk (W := wc.alloc _) hh rfl
    | j + 2, hu => simp at hu) (by intro u hu; simp at hu; rcases hu with rfl | rfl <;> rfl) (by decide) (by unfold maxLen; omega) (by omega) (by omega) (wc.heap.size + 1) hz ?_
  intro g' cap w2 ow hg hat hlt
  have st : St (fun k => ov.ownBlock = some k) wc w2 := (St.of_below hb).trans (St.of_grown (S := fun k => ov.ownBlock = some k) hg fun k e => e) fun _ _ q => q
  have hbx : w2.heap[tb]? = some (.cells cs 271 (0, 0)) := st.at hbox hne
  refine h g' cap w2 ⟨?_, st, ?_⟩ (cell_blk hbx hcs) (blk_free hbx 1)
  · show World.ownsRow _ _ _ _ _ _ _
    have e : (l ++ [(i, g)]).length = l.length + 1 := by simp
    rw [e, entCells_snoc]
    exact ow
  · rcases hat with h1 | h1
    · exact .inl (by rw [h1]; rfl)
    · exact .inr ⟨g', rfl, by omega⟩
section
variable {B : Nat} {W W' : World} {f : Nat → Nat × Nat × Nat} {n : Nat} {x : TV} {m : Nat} {ws : List Nat} {own : List (Nat × Nat)} {rows : Nat → List Pt}
/-- The owners are others, and lie elsewhere. -/
theorem Tb.reown (h : Tb B W f n x m ws own rows) (hlt : ∀ k, f k ≠ (0, 0, 0) → k < W.heap.size) {w2 : World} {ov' : Value} {own' : List (Nat × Nat)} (ho : Ents B w2 ov' own') (hs : St (fun k => x.ov.ownBlock = some k) W w2) (hat : ov'.ownBlock = x.ov.ownBlock ∨ ∃ k, ov'.ownBlock = some k ∧ W.heap.size ≤ k) :
    ∃ f', Tb B (w2.setCell ⟨x.tb, 1, none⟩ ov') f' n ⟨x.tb, ov', x.cm, x.cb⟩ m ws own' rows ∧ Rec (cls n) f f' W.heap.size (w2.setCell ⟨x.tb, 1, none⟩ ov').heap.size ∧ St (fun k => cls n (f k)) W (w2.setCell ⟨x.tb, 1, none⟩ ov') := by
  have htl : x.tb < W.heap.size := (Array.getElem?_eq_some_iff.1 h.box).1
  have hnv : ∀ k, ov'.ownBlock = some k → k ≠ x.tb ∧ k ≠ x.cm := fun k hk => by
    rcases hat with e | ⟨y, e, hy⟩
    · exact h.ne_ov (e ▸ hk)
    · rw [e] at hk
      simp at hk
      have := h.map.lt
      omega
  have htb : ¬ x.ov.ownBlock = some x.tb := fun e => (h.ne_ov e).1 rfl
  have s2 : St (fun k => k = x.tb) w2 (w2.setCell ⟨x.tb, 1, none⟩ ov') := St.setCell _ rfl
  obtain ⟨f', h1, h2⟩ := recol f (l := (4, n, 0)) (by simp) (S := fun k => k = x.tb ∨ k = x.cm ∨ ov'.ownBlock = some k) (N := W.heap.size) (N' := (w2.setCell ⟨x.tb, 1, none⟩ ov').heap.size) (fun k hk => by
    rcases hk with rfl | rfl | hk
    · exact .inl h.ftb
    · exact .inl h.fcm
    · rcases hat with e | ⟨y, e, hy⟩
      · exact .inl (h.fov (e ▸ hk))
      · rw [e] at hk; simp at hk; exact .inr (by omega)) hlt (fun k hk => by
    have hw := hs.size
    rcases hk with rfl | rfl | hk
    · simp; omega
    · have := h.map.lt; simp; omega
    · have := (World.ownsRow.lt ho k hk).2; simpa using this) (by simpa using hs.size)
  have s12 : St (fun k => f k = (4, n, 0)) W (w2.setCell ⟨x.tb, 1, none⟩ ov') := St.trans (S := fun k => f k = (4, n, 0)) ⟨hs.os, hs.tape, hs.output, hs.size, fun k hk hn => hs.block k hk fun q => hn (h.fov q)⟩ s2 fun k _ hk => by rw [hk]; exact h.ftb
  refine ⟨f', ⟨?_, ?_, ?_, fun c hc => ?_, h1, h.low⟩, h2.mono (fun l hl => .inl hl) (cls_zero n), ⟨s12.os, s12.tape, s12.output, s12.size, fun k hk hn => s12.block k hk fun q => hn (.inl q)⟩⟩
  · exact heap_setCell_same w2 x.tb 1 _ 271 ov' (hs.at h.box htb)
  · exact own_kept ho s2 fun k hk q => (hnv k hk).1 q
  · exact (h.map.kept hs fun e => (h.ne_ov e).2 rfl).kept s2 fun e => h.ne e.symm
  · obtain ⟨w', q1, q2⟩ := h.col c hc
    exact ⟨w', q1, col_congr (q2.kept (co_st s12) fun k hk q => by rw [hk] at q; simp at q) fun k => h2.out (5, n, c) (by simp) (by simp) k⟩
end
/-- The rows once the first parts are pushed. -/
def pushed (rows : Nat → List Pt) (l : List Prt) (c : Nat) : List Pt := rows c ++ (l.filter fun p => p.c == (c : Int)).map pt
theorem pushed_next (rows : Nat → List Pt) {l : List Prt} {k : Nat} {p : Prt} {c0 : Nat} (hp : l[k]? = some p) (hc : p.c = (c0 : Int)) : pushed rows (l.take (k + 1)) = fun c => if c = c0 then pushed rows (l.take k) c0 ++ [pt p] else pushed rows (l.take k) c := by
  have e : l.take (k + 1) = l.take k ++ [p] := by
    obtain ⟨hl, rfl⟩ := List.getElem?_eq_some_iff.1 hp
    exact List.take_succ_eq_append_getElem hl
  funext c
  unfold pushed
  rw [e]
  by_cases q : c = c0
  · subst q
    simp [hc]
  · rw [if_neg q]
    simp [hc]
    omega
theorem pushed_len (rows : Nat → List Pt) (l : List Prt) (c : Nat) : (pushed rows l c).length ≤ (rows c).length + l.length := by
  unfold pushed
  have := List.length_filter_le (fun p : Prt => p.c == (c : Int)) l
  simp
  omega
theorem pushed_all (rows : Nat → List Pt) {l : List Prt} (h : Apart l) {c : Nat} {p : Prt} (hp : p ∈ l) (hc : p.c = (c : Int)) : pushed rows l c = rows c ++ [ptAt l c] := by
  unfold pushed
  rw [ptAt_mem h hp hc]
  congr 1
  have : l.filter (fun q => q.c == (c : Int)) = [p] := by
    clear rows
    induction l with
    | nil => simp at hp
    | cons a l ih =>
      rw [Apart, List.pairwise_cons] at h
      rcases List.mem_cons.1 hp with rfl | hp'
      · rw [List.filter_cons_of_pos (by simp [hc])]
        congr 1
        rw [List.filter_eq_nil_iff]
        intro b hb
        have := h.1 b hb
        simp; omega
      · have := h.1 p hp'
        rw [List.filter_cons_of_neg (by simp; omega)]
        exact ih h.2 hp'
  rw [this]
  rfl
/-- A row of parts that lies outside S. -/
def PRowOut (S : Nat → Prop) (W : World) (v : Value) (l : List Prt) : Prop := ∃ a c, v = .slice a l.length c ∧ (l = [] ∨ ∃ b o, a = some ⟨b, o, none⟩ ∧ ¬ S b ∧ ∀ (j : Nat) p, l[j]? = some p → Six W b (o + j * 6) p)
theorem PRowOut.row {S : Nat → Prop} {W : World} {v : Value} {l : List Prt} (h : PRowOut S W v l) : PRow W v l := by
  obtain ⟨a, c, h1, h2⟩ := h
  exact ⟨a, c, h1, h2.imp id fun ⟨b, o, q1, _, q3⟩ => ⟨b, o, q1, q3⟩⟩
theorem Six.kept {T : Nat → Prop} {W W' : World} {b o : Nat} {p : Prt} (h : Six W b o p) (hs : St T W W') (hn : ¬ T b) : Six W' b o p :=
  ⟨st_cell hs h.c0 hn, st_cell hs h.c1 hn, st_cell hs h.c2 hn, st_cell hs h.c3 hn, st_cell hs h.c4 hn, st_cell hs h.c5 hn⟩
theorem PRowOut.kept {S T : Nat → Prop} {W W' : World} {v : Value} {l : List Prt} (h : PRowOut S W v l) (hs : St T W W') (hn : ∀ k, T k → S k) : PRowOut S W' v l := by
  obtain ⟨a, c, h1, h2⟩ := h
  refine ⟨a, c, h1, h2.imp id fun ⟨b, o, q1, q2, q3⟩ => ⟨b, o, q1, q2, fun j p hj => Six.kept (q3 j p hj) hs fun e => q2 (hn b e)⟩⟩
theorem PRowOut.at {S : Nat → Prop} {W : World} {a : Option Addr} {c : Nat} {l : List Prt} (h : PRowOut S W (.slice a l.length c) l) {j : Nat} {p : Prt} (hj : l[j]? = some p) : ∃ b o, a = some ⟨b, o, none⟩ ∧ Six W b (o + j * 6) p := h.row.at hj
end Go.Proofs.YthadfdbkkmmgoaaGreatDoor.So
namespace Go.Proofs.YthadfdbkkmmgoaaGreatDoor.So
open Go.RowKit Go.Shelf Go.Maps
open Go.Proofs.YthadfdbkkmmgoaaGreatDoor.Co (I64 Pt Col CS I64_mid)
open Go.Proofs.YthadfdbkkmmgoaaGreatDoor.At (St bAl cell_blk blk_seen blk_free lst lst_mem an wi wo add Atl Ints pow_le)
open Go.Proofs.YthadfdbkkmmgoaaGreatDoor.Ro (RS Rol Ents entCells entCells_snoc infoEnt)
open Go.Proofs.YthadfdbkkmmgoaaGreatDoor.Rs (Prt SD okL okW okC fitP mskP PRow Six six six_set)
theorem PRowOut.more {S : Nat → Prop} {W : World} {v : Value} {l : List Prt} (h : PRowOut S W v l) : PRowOut (fun k => S k ∨ W.heap.size ≤ k) W v l := by
  obtain ⟨a, c, h1, h2⟩ := h
  refine ⟨a, c, h1, ?_⟩
  rcases l with _ | ⟨p, l⟩
  · exact .inl rfl
  · rcases h2 with h2 | ⟨b, o, q1, q2, q3⟩
    · cases h2
    · refine .inr ⟨b, o, q1, fun q => ?_, q3⟩
      have := World.block_lt_of_cell? W _ (q3 0 p rfl).c0
      rcases q with q | q
      · exact q2 q
      · have : b < W.heap.size := this
        omega
/-- Where push is: the table with the first parts pushed. -/
structure Pu (B : Nat) (W : World) (f : Nat → Nat × Nat × Nat) (n : Nat) (x : TV) (m : Nat) (ws : List Nat) (own : List (Nat × Nat)) (rows : Nat → List Pt) (v : Value) (l : List Prt) (i g : Nat) (eb k : Nat) (f' : Nat → Nat × Nat × Nat) (wr : World) : Prop where
  tb : Tb B wr f' n x m ws own (pushed rows (l.take k))
  rc : Rec (cls n) f f' W.heap.size wr.heap.size
  st : St (fun k => cls n (f k)) W wr
  row : PRowOut (fun k => cls n (f k) ∨ W.heap.size ≤ k) wr v l
  ent : wr.heap[eb]? = some (.cells #[.int .i64 (i : Int), .int .i64 (g : Int)] 144 (0, 0))
  eb : W.heap.size ≤ eb ∧ ¬ cls n (f' eb)
section
variable {B : Nat} {W : World} {f : Nat → Nat × Nat × Nat} {n : Nat} {x : TV} {m : Nat} {ws : List Nat} {own : List (Nat × Nat)} {rows : Nat → List Pt} {v : Value} {l : List Prt} {i g eb k : Nat} {f' : Nat → Nat × Nat × Nat} {wr wr' : World}
theorem Pu.later (h : Pu B W f n x m ws own rows v l i g eb k f' wr) (hb : Below wr.heap.size wr wr') : Pu B W f n x m ws own rows v l i g eb k f' wr' where
  tb := h.tb.later hb
  rc := ⟨h.rc.out, h.rc.new, fun k hk => Nat.lt_of_lt_of_le (h.rc.lt k hk) hb.size⟩
  st := h.st.trans (St.of_below (S := fun _ => False) hb) fun _ _ q => q.elim
  row := h.row.kept (T := fun _ => False) (St.of_below hb) fun _ q => q.elim
  ent := blk_seen hb (Nat.le_refl _) h.ent
  eb := h.eb
theorem Pu.next (h : Pu B W f n x m ws own rows v l i g eb k f' wr) {p : Prt} {c w : Nat} (hp : l[k]? = some p) (hc : p.c = (c : Int)) (hw : ws[c]? = some w) {w2 : World} {S' : Nat → Prop}
    (hcol : Col B w2 (x.cb c) ⟨(c : Int), w, pushed rows (l.take k) c ++ [pt p]⟩ S') (hs : St (fun k => f' k = (5, n, c)) wr w2) (hS : ∀ k, S' k → f' k = (5, n, c) ∨ wr.heap.size ≤ k) :
    ∃ f2, Pu B W f n x m ws own rows v l i g eb (k + 1) f2 w2 := by
  obtain ⟨f2, h1, h2⟩ := h.tb.colset h.rc.lt hw hcol hs hS
  have hcl : ∀ k, f' k = (5, n, c) → cls n (f k) ∨ W.heap.size ≤ k := fun k hk => h.rc.new k (.inr ⟨c, hk⟩)
  refine ⟨f2, ?_, h.rc.trans h2 h.st.size, ?_, ?_, ?_, h.eb.1, ?_⟩
  · rw [pushed_next rows hp hc]; exact h1
  · refine h.st.trans hs fun k hk q => (hcl k q).elim id fun q' => by omega
  · exact h.row.kept hs hcl
  · exact hs.at h.ent fun e => h.eb.2 (.inr ⟨c, e⟩)
  · intro q
    have hlt := (Array.getElem?_eq_some_iff.1 h.ent).1
    exact (h2.new eb q).elim h.eb.2 fun q' => by omega
end
/-- The cells that a round of push reads. -/
def Lds (x : TV) (wr : World) (c : Nat) (p : Prt) (W' : World) : Prop := W'.cell? ⟨x.tb, 2, none⟩ = some (.map (some x.cm)) ∧ W'.cell? ⟨wr.heap.size, 0, none⟩ = some (.int .i64 (c : Int)) ∧ W'.cell? ⟨wr.heap.size, 1, none⟩ = some (.int .i64 p.v0) ∧ W'.cell? ⟨wr.heap.size, 2, none⟩ = some (.int .i64 p.v1) ∧ W'.cell? ⟨wr.heap.size, 3, none⟩ = some (.int .i64 p.v2) ∧ W'.cell? ⟨wr.heap.size, 4, none⟩ = some (.int .i64 p.v3) ∧ W'.cell? ⟨wr.heap.size, 5, none⟩ = some (.int .i64 p.t) ∧ (Instr.lookup 269 (.map (some x.cm)) (.int .i64 (c : Int)) false).run Tryz.prog W' = .ok (.pointer (some ⟨x.cb c, 0, none⟩)) W'
set_option maxHeartbeats 3200000 in
set_option maxRecDepth 100000 in
theorem push_any {B : Nat} {W : World} {f : Nat → Nat × Nat × Nat} {n : Nat} {x : TV} {m : Nat} {ws : List Nat} {own : List (Nat × Nat)} {rows : Nat → List Pt} (h : Tb B W f n x m ws own rows) (hlt : ∀ k, f k ≠ (0, 0, 0) → k < W.heap.size)
    (i g : Nat) {v : Value} {l : List Prt} (hv : PRowOut (fun k => cls n (f k)) W v l) (hl : l.length ≤ 16) (hok : ∀ p ∈ l, 0 ≤ p.c ∧ p.c < 16 ∧ m.testBit p.c.toNat = true ∧ fitP ws p = true ∧ I64 p.t) (hr : ∀ c, (rows c).length ≤ 100) (ho : own.length ≤ 100) (hB : B ≤ W.heap.size) :
    Calls Tryz.prog 173 #[.pointer (some ⟨x.tb, 0, none⟩), .agg #[.int .i64 (i : Int), .int .i64 (g : Int)], v] W fun e W' => e = .returned (.int .i64 (own.length : Int)) ∧ ∃ ov' f', Tb B W' f' n ⟨x.tb, ov', x.cm, x.cb⟩ m ws (own ++ [(i, g)]) (pushed rows l) ∧ Rec (cls n) f f' W.heap.size W'.heap.size ∧ St (fun k => cls n (f k)) W W' := by
  obtain ⟨va, vc, rfl, -⟩ := id hv
  have hli : (l.length : Int) ≤ 16 := by omega
  have P0 : Hid (Pu B W f n x m ws own rows (.slice va l.length vc) l i g W.heap.size 0 f (W.alloc (.cells #[.int .i64 (i : Int), .int .i64 (g : Int)] 144))) := by
    have b := bAl W (.cells #[.int .i64 (i : Int), .int .i64 (g : Int)] 144)
    refine ⟨?_, Rec.refl _ _ hlt b.size, St.of_below b, ?_, heap_alloc_new W _, Nat.le_refl _, fun q => ?_⟩
    · have e : pushed rows (l.take 0) = rows := by funext c; simp [pushed]
      rw [e]; exact h.later b
    · exact hv.more.kept (T := fun _ => False) (St.of_below b) fun _ q => q.elim
    · have := hlt _ (cls_ne q).1
      omega
  have HOK := hid hok
  have HR := hid hr
  have HLT := hid hlt
  have htl : x.tb < W.heap.size := (Array.getElem?_eq_some_iff.1 h.box).1
  obtain ⟨oa, oc, hov⟩ := own_slice h.own
  clear hok hr hv hlt h
  go_enter Tryz.func173, Tryz.ntmps173
  go_wp2_with fail
  obtain ⟨w1, hw1⟩ : ∃ w1, w1 = W.alloc (.cells #[.int .i64 (i : Int), .int .i64 (g : Int)] 144) := ⟨_, rfl⟩
  rw [← hw1] at P0 ⊢
  go_loopg [8, 11] l.length (fun gh _ q wr => ∃ k : Nat, k ≤ l.length ∧ gh = l.length - k ∧ q = .int .i64 (k : Int) ∧ ∃ f', Hid (Pu B W f n x m ws own rows (.slice va l.length vc) l i g W.heap.size k f' wr))
  case atStart => exact ⟨0, Nat.zero_le _, rfl, rfl, f, P0.out⟩
  case round =>
    obtain ⟨k, hk, rfl, rfl, f', HP⟩ := hrel
    by_cases hlt : k < l.length
    · have hki : (k : Int) < (l.length : Int) := by omega
      obtain ⟨p, hp⟩ := at_lt l k hlt
      obtain ⟨b, o, rfl, h6⟩ := HP.out.row.at hp
      obtain ⟨d0, d1, d2, d3, d4, d5⟩ := h6
      have hok := HOK.out p (List.mem_of_getElem? hp)
      obtain ⟨c, hc⟩ : ∃ c : Nat, p.c = (c : Int) := ⟨p.c.toNat, by omega⟩
      obtain ⟨w3, hw3⟩ : ∃ w3, w3 = wr.alloc (.cells #[.int .i64 (c : Int), .int .i64 p.v0, .int .i64 p.v1, .int .i64 p.v2, .int .i64 p.v3, .int .i64 p.t] 89) := ⟨_, rfl⟩
      have HW3 := hid hw3
      have B3 : Hid (Below wr.heap.size wr w3) := by rw [hw3]; exact bAl _ _
      have H3 : Hid (w3.heap[wr.heap.size]? = some (.cells #[.int .i64 (c : Int), .int .i64 p.v0, .int .i64 p.v1, .int .i64 p.v2, .int .i64 p.v3, .int .i64 p.t] 89 (0, 0))) := by rw [hw3]; exact heap_alloc_new wr _
      have hbit : m.testBit c = true := by have := hok.2.2.1; rw [hc] at this; simpa using this
      have hc16 : c < 16 := by omega
      have LKE : lk (colMap m x.cb) (c : Int) = some (x.cb c) := by rw [lk_nat]; unfold colMap; rw [if_pos hbit]
      have PS : Hid (∀ W' f2 k2, Pu B W f n x m ws own rows (.slice (some ⟨b, o, none⟩) l.length vc) l i g W.heap.size k2 f2 W' → W'.heap[wr.heap.size]? = some (.cells #[.int .i64 (c : Int), .int .i64 p.v0, .int .i64 p.v1, .int .i64 p.v2, .int .i64 p.v3, .int .i64 p.t] 89 (0, 0)) → Lds x wr c p W') := fun W' f2 k2 hp hh =>
        ⟨hp.tb.c2, cell_blk hh rfl, cell_blk hh rfl, cell_blk hh rfl, cell_blk hh rfl, cell_blk hh rfl, cell_blk hh rfl, by
          have := hp.tb.look (c : Int) (I64_mid (by omega) (by omega))
          rw [LKE] at this
          exact this⟩
      have KK : Hid (∀ W', Below w3.heap.size w3 W' → Lds x wr c p W') := fun W' hb => PS.out W' f' k (HP.out.later (B3.out.trans (hb.mono B3.out.size))) (blk_seen hb (Nat.le_refl _) H3.out)
      have PC : Hid (∀ W', Below w3.heap.size w3 W' → Calls Tryz.prog 189 #[.pointer (some ⟨x.cb c, 0, none⟩), .agg #[.int .i64 (c : Int), .int .i64 p.v0, .int .i64 p.v1, .int .i64 p.v2, .int .i64 p.v3, .int .i64 p.t]] W' fun e W2 => (∃ r : Int, e = .returned (.tuple #[.int .i64 r, .nilIface])) ∧ (∃ f2, Pu B W f n x m ws own rows (.slice (some ⟨b, o, none⟩) l.length vc) l i g W.heap.size (k + 1) f2 W2) ∧ Lds x wr c p W2) := fun W' hb => by
        have b' := B3.out.trans (hb.mono B3.out.size)
        have hP := HP.out.later b'
        obtain ⟨w, hw, hcol⟩ := hP.tb.col c hbit
        have hfit : (pt p).fitB w = true := by have := hok.2.2.2.1; rw [Rs.fit_in hc hw] at this; exact this
        have hlen : (pushed rows (l.take k) c).length < 1000 := by
          have h1 := pushed_len rows (l.take k) c
          have h2 := HR.out c
          have h3 : (l.take k).length ≤ l.length := by simp; omega
          omega
        refine (Co.col_push hcol (pt p) hfit hok.2.2.2.2 hlen).mono ?_
        rintro e W2 ⟨rfl, S', q1, q2, q3⟩
        obtain ⟨f2, hn⟩ := hP.next hp hc hw q1 (st_co q2) q3
        refine ⟨⟨_, rfl⟩, ⟨f2, hn⟩, PS.out W2 f2 (k + 1) hn ((st_co q2).at (blk_seen hb (Nat.le_refl _) H3.out) fun e => ?_)⟩
        have := HP.out.rc.lt _ (fun q => by rw [q] at e; simp at e)
        omega
      clear hw3 hok hbit LKE PS hp H3
      unfold Lds at KK PC
      go_wp2_with fail
      rw [← HW3.out]
      go_region_held3 (fun W' => W'.cell? ⟨x.tb, 2, none⟩ = some (.map (some x.cm)) ∧ W'.cell? ⟨wr.heap.size, 0, none⟩ = some (.int .i64 (c : Int)) ∧ W'.cell? ⟨wr.heap.size, 1, none⟩ = some (.int .i64 p.v0) ∧ W'.cell? ⟨wr.heap.size, 2, none⟩ = some (.int .i64 p.v1) ∧ W'.cell? ⟨wr.heap.size, 3, none⟩ = some (.int .i64 p.v2) ∧ W'.cell? ⟨wr.heap.size, 4, none⟩ = some (.int .i64 p.v3) ∧ W'.cell? ⟨wr.heap.size, 5, none⟩ = some (.int .i64 p.t) ∧ (Instr.lookup 269 (.map (some x.cm)) (.int .i64 (c : Int)) false).run Tryz.prog W' = .ok (.pointer (some ⟨x.cb c, 0, none⟩)) W')
        (first | exact KK.out _ (Below.refl _ _).drew | exact KK.out _ (Below.refl _ _) | exact K4.out)
        ((go_at_call 189; refine (PC.out _ (by first | exact (Below.refl _ _).drew | exact Below.refl _ _)).mono ?_; rintro e w4 ⟨⟨r, rfl⟩, ⟨f2, hf2⟩, hk4⟩; have F2 := hid hf2; have K4 := hid hk4; clear hf2 hk4))
      clear K4 KK PC
      go_wp2_with fail
      go_roundg (l.length - (k + 1))
      case measure => omega
      case rel => exact ⟨k + 1, by omega, rfl, by go_num, f2, F2.out⟩
    · have hki : ¬ ((k : Int) < (l.length : Int)) := by omega
      obtain rfl : k = l.length := by omega
      have hrow := HP.out.tb
      rw [List.take_length] at hrow
      have T1 := hid hrow
      have c1 := T1.out.c1
      rw [hov] at c1
      have e0 := cell_blk HP.out.ent (j := 0) rfl
      have e1 := cell_blk HP.out.ent (j := 1) rfl
      have hne : (Value.slice oa own.length oc).ownBlock ≠ some x.tb := fun e => (hrow.ne_ov (hov ▸ e)).1 rfl
      have OW := hid (hov ▸ hrow.own)
      have BX := hid (hov ▸ hrow.box)
      have hBw : B ≤ wr.heap.size := Nat.le_trans hB HP.out.st.size
      have ho1 : own.length ≤ 1000 := by omega
      have ho2 : (own.length : Int) ≤ 100 := by omega
      have htn : ¬ (x.tb = wr.heap.size) := by have := HP.out.st.size; omega
      have htw : x.tb < wr.heap.size := by have := HP.out.st.size; omega
      clear hrow
      go_wp2_with fail
      go_region_law (refine step_own rfl _ _ rfl OW.out ho1 hBw BX.out rfl hne rfl rfl ?_; intro g' cap w5 hgr hx5 hf5)
      all_goals
        have gr := hgr.out
        rw [← hov] at gr
        have RO := hid (T1.out.reown HP.out.rc.lt gr.own gr.st gr.at')
        clear gr hgr hx5 hf5
        obtain ⟨w6, hw6⟩ : ∃ w6, w6 = w5.setCell ⟨x.tb, 1, none⟩ (.slice (some ⟨g', 0, none⟩) (own.length + 1) cap) := ⟨_, rfl⟩
        rw [← hw6] at RO ⊢
        obtain ⟨f2, r1, r2, r3⟩ := RO.out
        have q1 : w6.cell? ⟨x.tb, 1, none⟩ = some (.slice (some ⟨g', 0, none⟩) (own.length + 1) cap) := r1.c1
        have FN : Hid (Tb B w6 f2 n ⟨x.tb, .slice (some ⟨g', 0, none⟩) (own.length + 1) cap, x.cm, x.cb⟩ m ws (own ++ [(i, g)]) (pushed rows l) ∧ Rec (cls n) f f2 W.heap.size w6.heap.size ∧ St (fun k => cls n (f k)) W w6) :=
          ⟨r1, HP.out.rc.trans r2 HP.out.st.size, HP.out.st.trans r3 fun k hk q => (HP.out.rc.new k q).elim id fun q' => by omega⟩
        clear r1 r2 r3 RO hw6 T1 OW BX
        go_wp2_with fail
        go_ret
        exact ⟨by simp, _, f2, FN.out⟩
end Go.Proofs.YthadfdbkkmmgoaaGreatDoor.So
namespace Go.Proofs.YthadfdbkkmmgoaaGreatDoor.So
open Go.RowKit Go.Shelf Go.Maps
open Go.Proofs.YthadfdbkkmmgoaaGreatDoor.Co (I64 Pt Col CS I64_mid)
open Go.Proofs.YthadfdbkkmmgoaaGreatDoor.At (St bAl cell_blk blk_seen blk_free lst lst_mem an wi wo add Atl Ints pow_le)
open Go.Proofs.YthadfdbkkmmgoaaGreatDoor.Ro (RS Rol Ents entCells)
open Go.Proofs.YthadfdbkkmmgoaaGreatDoor.Rs (Prt SD okL okW okC fitP mskP PRow st_ro ro_st)
/-- What a change leaves. -/
structure Gw (c c' : CV) (W W' : World) : Prop where
  st : St (fun k => c.f k ≠ (0, 0, 0)) W W'
  new : ∀ k, c'.f k ≠ (0, 0, 0) → c.f k ≠ (0, 0, 0) ∨ W.heap.size ≤ k
theorem Gw.trans {c c1 c2 : CV} {W W1 W2 : World} (h : Gw c c1 W W1) (k : Gw c1 c2 W1 W2) : Gw c c2 W W2 :=
  ⟨h.st.trans k.st fun x hx q => (h.new x q).elim id fun q' => by omega, fun x hx => (k.new x hx).elim (h.new x) fun q => .inr (Nat.le_trans h.st.size q)⟩
theorem Gw.of_below {c : CV} {W W' : World} (h : Below W.heap.size W W') : Gw c c W W' := ⟨St.of_below h, fun _ q => .inl q⟩
theorem Gw.of_rec {C : Nat × Nat × Nat → Prop} {c c' : CV} {W W' : World} (hr : Rec C c.f c'.f W.heap.size W'.heap.size) (hs : St (fun k => C (c.f k)) W W') (h0 : ¬ C (0, 0, 0)) : Gw c c' W W' := by
  refine ⟨⟨hs.os, hs.tape, hs.output, hs.size, fun k hk hn => hs.block k hk fun q => hn fun e => h0 (e ▸ q)⟩, fun k hk => ?_⟩
  by_cases q : C (c'.f k)
  · exact (hr.new k q).imp (fun q e => h0 (e ▸ q)) id
  · exact .inl (by rw [(hr.out _ hk q k).1 rfl]; exact hk)
section
variable {ex : Option Nat} {B : Nat} {W W' : World} {sb : Nat} {c : CV} {s : SD}
theorem Sto.roll (h : Sto ex B W sb c s) {S' : Nat → Prop} {t' : Nat} {r' : RS} (hr : Rol B W' c.rb t' r' S') (hs : St (fun k => c.f k = (2, 0, 0)) W W') (hS : ∀ k, S' k → c.f k = (2, 0, 0) ∨ W.heap.size ≤ k) {ex' : Option Nat} (hlk : Lk ex' c.tab c.seat { s with r := r' }) (ht' : t' ≤ 900000) :
    ∃ f', Sto ex' B W' sb { c with f := f', t := t' } { s with r := r' } ∧ Gw c { c with f := f', t := t' } W W' := by
  obtain ⟨f', h1, h2⟩ := recol c.f (l := (2, 0, 0)) (by simp) (S := S') (N := W.heap.size) (N' := W'.heap.size) hS (fun k hk => (h.lt k hk).2) (fun k hk => (hr.lt k hk).2) hs.size
  refine ⟨f', ⟨hs.at h.box (by rw [h.fsb]; simp), own_kept h.wd hs fun k hk => by rw [h.fwv hk]; simp, ?_, rol_congr hr h1, hs.at h.seats (by rw [h.fsv]; simp), h.map.kept hs (by rw [h.ftm]; simp), ?_, ?_, ?_, h.okw, h.n2, hlk, fun k n hk => h.only k n (by rw [(h2.out _ (cls_ne hk).1 (cls_ne hk).2.2.1 k).1 rfl]; exact hk), ht'⟩, Gw.of_rec (C := fun l => l = (2, 0, 0)) h2 hs (by simp)⟩
  · exact atl_congr (h.atl.kept hs fun k hk q => by rw [hk] at q; simp at q) fun k => h2.out _ (by simp) (by simp) k
  · intro n own hn
    obtain ⟨m, q1, q2⟩ := h.tabs n own hn
    exact ⟨m, q1, q2.move hs (fun k hk q => (cls_ne hk).2.2.1 q) fun l hl k => h2.out l (cls_ne hl).1 (cls_ne hl).2.2.1 k⟩
  · exact fun k => (h2.out _ (by simp) (by simp) k).trans (h.fp k)
  · intro k hk
    refine ⟨?_, h2.lt k hk⟩
    by_cases e : f' k = (2, 0, 0)
    · exact (hr.lt k ((h1 k).1 e)).1
    · exact (h.lt k (by rw [(h2.out _ hk e k).1 rfl]; exact hk)).1
theorem sets_old {l : List Nat} {n m x : Nat} (h : l[n]? = some x) : (add l m)[n]? = some x := (At.add_old m (List.getElem?_eq_some_iff.1 h).1).trans h
theorem Lk.note {tab : Nat → Option (List (Nat × Nat))} {seat : List (Nat × Nat)} (h : Lk ex tab seat s) (m : Nat) : Lk ex tab seat { s with sets := add s.sets m } := by
  refine ⟨h.len, fun i g ha he => ?_, fun n own hn => ⟨(h.back n own hn).1, fun j i g e => ?_⟩, h.ok⟩
  · obtain ⟨n, j, own, e1, e2, e3, e4⟩ := h.here i g ha he
    exact ⟨n, j, own, e1, e2, e3, sets_old e4⟩
  · obtain ⟨b1, b2, b3, b4⟩ := (h.back n own hn).2 j i g e
    exact ⟨b1, b2, b3, sets_old b4⟩
theorem Sto.note (h : Sto ex B W sb c s) {S' : Nat → Prop} {m : Nat} (hr : Atl B W' c.ab ⟨s.ws.length, add s.sets m⟩ S') (hs : St (fun k => c.f k = (3, 0, 0)) W W') (hS : ∀ k, S' k → c.f k = (3, 0, 0) ∨ W.heap.size ≤ k) :
    ∃ f', Sto ex B W' sb { c with f := f' } { s with sets := add s.sets m } ∧ Gw c { c with f := f' } W W' := by
  obtain ⟨f', h1, h2⟩ := recol c.f (l := (3, 0, 0)) (by simp) (S := S') (N := W.heap.size) (N' := W'.heap.size) hS (fun k hk => (h.lt k hk).2) (fun k hk => (hr.lt k hk).2) hs.size
  refine ⟨f', ⟨hs.at h.box (by rw [h.fsb]; simp), own_kept h.wd hs fun k hk => by rw [h.fwv hk]; simp, atl_congr hr h1, ?_, hs.at h.seats (by rw [h.fsv]; simp), h.map.kept hs (by rw [h.ftm]; simp), ?_, ?_, ?_, h.okw, h.n2, h.lk.note m, fun k n hk => h.only k n (by rw [(h2.out _ (cls_ne hk).1 (cls_ne hk).2.2.2 k).1 rfl]; exact hk), h.small⟩, Gw.of_rec (C := fun l => l = (3, 0, 0)) h2 hs (by simp)⟩
  · exact rol_congr (h.rol.kept (st_ro hs) fun k hk q => by rw [hk] at q; simp at q) fun k => h2.out _ (by simp) (by simp) k
  · intro n own hn
    obtain ⟨m', q1, q2⟩ := h.tabs n own hn
    exact ⟨m', sets_old q1, q2.move hs (fun k hk q => (cls_ne hk).2.2.2 q) fun l hl k => h2.out l (cls_ne hl).1 (cls_ne hl).2.2.2 k⟩
  · exact fun k => (h2.out _ (by simp) (by simp) k).trans (h.fp k)
  · intro k hk
    refine ⟨?_, h2.lt k hk⟩
    by_cases e : f' k = (3, 0, 0)
    · exact (hr.lt k ((h1 k).1 e)).1
    · exact (h.lt k (by rw [(h2.out _ hk e k).1 rfl]; exact hk)).1
end
/-- A store whose table n is held beside it. -/
structure Sx (ex : Option Nat) (B : Nat) (W : World) (sb : Nat) (c : CV) (s : SD) (n : Nat) (x : TV) (m : Nat) (own : List (Nat × Nat)) (rows : Nat → List Pt) : Prop where
  box : W.heap[sb]? = some (.cells c.box 183 (0, 0))
  wd : Ints B W c.wv s.ws
  atl : Atl B W c.ab ⟨s.ws.length, s.sets⟩ (fun k => c.f k = (3, 0, 0))
  rol : Rol B W c.rb c.t s.r (fun k => c.f k = (2, 0, 0))
  seats : W.heap[c.sv]? = some (.cells (entCells c.seat).toArray 267 (0, 0))
  map : PMap W c.tm (gput (tabMap c.tab c.tv) n (some x.tb))
  tabs : ∀ n' own', n' ≠ n → c.tab n' = some own' → ∃ m, s.sets[n']? = some m ∧ Tb B W c.f n' (c.tv n') m s.ws own' (rowsOf s own')
  tb : Tb B W c.f n x m s.ws own rows
  set : s.sets[n]? = some m
  fp : ∀ k, c.f k = (1, 0, 0) ↔ k = sb ∨ k = c.tm ∨ k = c.sv ∨ c.wv.ownBlock = some k
  lt : ∀ k, c.f k ≠ (0, 0, 0) → B ≤ k ∧ k < W.heap.size
  okw : okW s.ws
  n2 : s.p.length = 64
  lk : Lk ex c.tab c.seat s
  only : ∀ k n', cls n' (c.f k) → n' = n ∨ c.tab n' ≠ none
  small : c.t ≤ 900000
section
variable {ex : Option Nat} {B : Nat} {W W' : World} {sb : Nat} {c : CV} {s : SD} {n : Nat} {x : TV} {m : Nat} {own : List (Nat × Nat)} {rows : Nat → List Pt}
theorem Sto.out (h : Sto ex B W sb c s) {n m : Nat} {own : List (Nat × Nat)} (hn : c.tab n = some own) (hm : s.sets[n]? = some m) : Sx ex B W sb c s n (c.tv n) m own (rowsOf s own) := by
  obtain ⟨m', q1, q2⟩ := h.tabs n own hn
  obtain rfl : m' = m := by rw [hm] at q1; simpa using q1.symm
  refine ⟨h.box, h.wd, h.atl, h.rol, h.seats, ?_, fun n' own' _ h' => h.tabs n' own' h', q2, hm, h.fp, h.lt, h.okw, h.n2, h.lk, fun k n' hk => .inr (h.only k n' hk), h.small⟩
  have e : gput (tabMap c.tab c.tv) n (some (c.tv n).tb) = tabMap c.tab c.tv := by
    funext k
    unfold gput
    by_cases e : k = n
    · subst e; rw [if_pos rfl]; unfold tabMap; rw [hn]; rfl
    · rw [if_neg e]
  rw [e]
  exact h.map
theorem Sx.fsb (h : Sx ex B W sb c s n x m own rows) : c.f sb = (1, 0, 0) := (h.fp _).2 (.inl rfl)
theorem Sx.ftm (h : Sx ex B W sb c s n x m own rows) : c.f c.tm = (1, 0, 0) := (h.fp _).2 (.inr (.inl rfl))
theorem Sx.fsv (h : Sx ex B W sb c s n x m own rows) : c.f c.sv = (1, 0, 0) := (h.fp _).2 (.inr (.inr (.inl rfl)))
theorem Sx.fwv (h : Sx ex B W sb c s n x m own rows) {k : Nat} (hk : c.wv.ownBlock = some k) : c.f k = (1, 0, 0) := (h.fp _).2 (.inr (.inr (.inr hk)))
/-- The table beside it is another one. -/
theorem Sx.retab (h : Sx ex B W sb c s n x m own rows) {f' : Nat → Nat × Nat × Nat} {ov' : Value} {own' : List (Nat × Nat)} {rows' : Nat → List Pt} (ht : Tb B W' f' n ⟨x.tb, ov', x.cm, x.cb⟩ m s.ws own' rows') (hr : Rec (cls n) c.f f' W.heap.size W'.heap.size) (hs : St (fun k => cls n (c.f k)) W W') :
    Sx ex B W' sb { c with f := f' } s n ⟨x.tb, ov', x.cm, x.cb⟩ m own' rows' ∧ Gw c { c with f := f' } W W' := by
  have nc : ∀ {k : Nat} {l : Nat × Nat × Nat}, c.f k = l → ¬ cls n l → ¬ cls n (c.f k) := fun e q => by rw [e]; exact q
  have n1 : ¬ cls n (1, 0, 0) := fun q => (cls_ne q).2.1 rfl
  have n2 : ¬ cls n (2, 0, 0) := fun q => (cls_ne q).2.2.1 rfl
  have n3 : ¬ cls n (3, 0, 0) := fun q => (cls_ne q).2.2.2 rfl
  refine ⟨⟨hs.at h.box (nc h.fsb n1), own_kept h.wd hs fun k hk => nc (h.fwv hk) n1, ?_, ?_, hs.at h.seats (nc h.fsv n1), h.map.kept hs (nc h.ftm n1), ?_, ht, h.set, ?_, ?_, h.okw, h.n2, h.lk, ?_, h.small⟩, Gw.of_rec (c := c) (c' := { c with f := f' }) hr hs (cls_zero n)⟩
  · exact atl_congr (h.atl.kept hs fun k hk => nc hk n3) fun k => hr.out _ (by simp) n3 k
  · exact rol_congr (h.rol.kept (st_ro hs) fun k hk => nc hk n2) fun k => hr.out _ (by simp) n2 k
  · intro n' own' hne h'
    obtain ⟨m', q1, q2⟩ := h.tabs n' own' hne h'
    exact ⟨m', q1, q2.move hs (fun k hk q => hne (cls_one hk q)) fun l hl k => hr.out l (cls_ne hl).1 (fun q => hne (cls_one hl q)) k⟩
  · exact fun k => (hr.out _ (by simp) n1 k).trans (h.fp k)
  · intro k hk
    refine ⟨?_, hr.lt k hk⟩
    by_cases e : cls n (f' k)
    · refine (hr.new k e).elim (fun q => (h.lt k (cls_ne q).1).1) fun q => ?_
      have := h.lt sb (by rw [h.fsb]; simp)
      omega
    · exact (h.lt k (by rw [(hr.out _ hk e k).1 rfl]; exact hk)).1
  · intro k n' hk
    by_cases e : n' = n
    · exact .inl e
    · exact h.only k n' (by rw [(hr.out _ (cls_ne hk).1 (fun q => e (cls_one hk q)) k).1 rfl]; exact hk)
theorem Sx.later (h : Sx ex B W sb c s n x m own rows) (hb : Below W.heap.size W W') : Sx ex B W' sb c s n x m own rows := by
  have hs : St (fun _ => False) W W' := St.of_below hb
  exact ⟨hs.at h.box id, own_kept h.wd hs fun _ _ => id, h.atl.later hb, h.rol.later hb, hs.at h.seats id, h.map.kept hs id, fun n' own' hne h' => by
    obtain ⟨m', q1, q2⟩ := h.tabs n' own' hne h'
    exact ⟨m', q1, q2.later hb⟩, h.tb.later hb, h.set, h.fp, fun k hk => ⟨(h.lt k hk).1, Nat.lt_of_lt_of_le (h.lt k hk).2 hb.size⟩, h.okw, h.n2, h.lk, h.only, h.small⟩
end
end Go.Proofs.YthadfdbkkmmgoaaGreatDoor.So
namespace Go.Proofs.YthadfdbkkmmgoaaGreatDoor.So
open Go.RowKit Go.Shelf Go.Maps
open Go.Proofs.YthadfdbkkmmgoaaGreatDoor.Co (I64 Pt Col CS I64_mid)
open Go.Proofs.YthadfdbkkmmgoaaGreatDoor.At (St bAl cell_blk blk_seen blk_free lst lst_mem an wi wo add Atl Ints pow_le)
open Go.Proofs.YthadfdbkkmmgoaaGreatDoor.Ro (RS Rol Ents entCells entCells_len)
open Go.Proofs.YthadfdbkkmmgoaaGreatDoor.Rs (Prt SD okL okW okC fitP mskP PRow st_ro ro_st)
def tvput (tv : Nat → TV) (n : Nat) (x : TV) : Nat → TV := fun k => if k = n then x else tv k
theorem tabMap_put (tab : Nat → Option (List (Nat × Nat))) (tv : Nat → TV) (n : Nat) (x : TV) (own : List (Nat × Nat)) : tabMap (tput tab n (some own)) (tvput tv n x) = gput (tabMap tab tv) n (some x.tb) := by
  funext k
  unfold tabMap gput tput tvput
  by_cases e : k = n <;> simp [e]
theorem ent_set (l : List (Nat × Nat)) {i : Nat} (a b : Nat) : entCells (l.set i (a, b)) = ((entCells l).set (i * 2) (Ro.gI a)).set (i * 2 + 1) (Ro.gI b) := by
  induction l generalizing i with
  | nil => simp [entCells]
  | cons p l ih =>
    have e : ∀ q : Nat × Nat, ∀ l, entCells (q :: l) = Ro.gI q.1 :: Ro.gI q.2 :: entCells l := fun q l => by simp [entCells]
    cases i with
    | zero => simp [e]
    | succ i =>
      rw [List.set_cons_succ, e, e, ih, show (i + 1) * 2 = i * 2 + 1 + 1 by omega]
      simp
section
variable {ex ex' : Option Nat} {B : Nat} {W W' : World} {sb : Nat} {c : CV} {s s' : SD} {n : Nat} {x : TV} {m : Nat} {own : List (Nat × Nat)} {rows : Nat → List Pt}
/-- The table is put back, with other seats. -/
theorem Sx.back (h : Sx ex B W sb c s n x m own rows) {seat' : List (Nat × Nat)} (hseat : W'.heap[c.sv]? = some (.cells (entCells seat').toArray 267 (0, 0))) (hs : St (fun k => k = c.sv) W W') (hlen : seat'.length = c.seat.length)
    (hws : s'.ws = s.ws) (hr : s'.r = s.r) (hsets : s'.sets = s.sets) (hp : s'.p.length = 64) (hlk : Lk ex' (tput c.tab n (some own)) seat' s') (hrows : ∀ q, m.testBit q = true → rowsOf s' own q = rows q)
    (hrows' : ∀ n' own', n' ≠ n → c.tab n' = some own' → ∀ q, rowsOf s' own' q = rowsOf s own' q) : Sto ex' B W' sb { c with seat := seat', tab := tput c.tab n (some own), tv := tvput c.tv n x } s' := by
  have n1 : ∀ {k : Nat}, c.f k ≠ (1, 0, 0) → k ≠ c.sv := fun q e => q (by rw [e]; exact h.fsv)
  have nsb : sb ≠ c.sv := fun e => by
    have := h.box
    rw [e, h.seats] at this
    simp at this
  refine ⟨?_, ?_, ?_, ?_, hseat, ?_, ?_, h.fp, fun k hk => ⟨(h.lt k hk).1, Nat.lt_of_lt_of_le (h.lt k hk).2 hs.size⟩, hws ▸ h.okw, hp, hlk, ?_, h.small⟩
  · have : CV.box { c with seat := seat', tab := tput c.tab n (some own), tv := tvput c.tv n x } = c.box := by unfold CV.box; simp [hlen]
    rw [this]
    exact hs.at h.box nsb
  · rw [hws]
    refine own_kept h.wd hs fun k hk e => ?_
    obtain ⟨q, hq⟩ := own_blk h.wd hk
    rw [e, h.seats] at hq
    simp at hq
  · rw [hws, hsets]
    exact h.atl.kept hs fun k hk e => n1 (by rw [hk]; simp) e
  · rw [hr]
    exact h.rol.kept (st_ro hs) fun k hk e => n1 (by rw [hk]; simp) e
  · show PMap W' c.tm (tabMap (tput c.tab n (some own)) (tvput c.tv n x))
    rw [tabMap_put]
    exact h.map.kept hs fun e => h.map.cells_ne h.seats e.symm
  · intro n' own' hn
    change tput c.tab n (some own) n' = some own' at hn
    rw [hws, hsets]
    by_cases e : n' = n
    · subst e
      rw [tput_same] at hn
      obtain rfl : own = own' := by simpa using hn
      refine ⟨m, h.set, ?_⟩
      have : tvput c.tv n' x n' = x := by simp [tvput]
      show Tb B W' c.f n' (tvput c.tv n' x n') m s.ws own (rowsOf s' own)
      rw [this]
      exact (h.tb.move hs (fun k hk e => n1 (cls_ne hk).2.1 e) fun _ _ _ => Iff.rfl).rows_eq hrows
    · rw [tput_ne _ e] at hn
      obtain ⟨m', q1, q2⟩ := h.tabs n' own' e hn
      refine ⟨m', q1, ?_⟩
      have : tvput c.tv n x n' = c.tv n' := by simp [tvput, e]
      show Tb B W' c.f n' (tvput c.tv n x n') m' s.ws own' (rowsOf s' own')
      rw [this]
      exact (q2.move hs (fun k hk e => n1 (cls_ne hk).2.1 e) fun _ _ _ => Iff.rfl).rows_eq fun q _ => hrows' n' own' e hn q
  · intro k n' hk
    show tput c.tab n (some own) n' ≠ none
    by_cases e : n' = n
    · subst e; rw [tput_same]; simp
    · rw [tput_ne _ e]; exact (h.only k n' hk).elim (fun q => absurd q e) id
/-- A new table beside the store. -/
theorem Sto.fresh (h : Sto ex B W sb c s) {n m : Nat} (hm : s.sets[n]? = some m) {x : TV} {f' : Nat → Nat × Nat × Nat} {W1 W2 : World} (ht : Tb B W1 f' n x m s.ws [] (fun _ => [])) (hr : Rec (cls n) c.f f' W.heap.size W1.heap.size) (hb : Below W.heap.size W W1)
    (hp : PMap W2 c.tm (gput (tabMap c.tab c.tv) n (some x.tb))) (hs : St (fun k => k = c.tm) W1 W2) (hnt : c.tab n = none) : Sx ex B W2 sb { c with f := f' } s n x m [] (fun _ => []) ∧ Gw c { c with f := f' } W W2 := by
  have h1 := h.later hb
  have n1 : ¬ cls n (1, 0, 0) := fun q => (cls_ne q).2.1 rfl
  have n2 : ¬ cls n (2, 0, 0) := fun q => (cls_ne q).2.2.1 rfl
  have n3 : ¬ cls n (3, 0, 0) := fun q => (cls_ne q).2.2.2 rfl
  have f1 : f' c.tm = (1, 0, 0) := (hr.out _ (by simp) n1 _).2 h.ftm
  have nt : ∀ {k : Nat}, f' k ≠ (1, 0, 0) → k ≠ c.tm := fun q e => q (by rw [e]; exact f1)
  have nt' : ∀ {k : Nat}, c.f k ≠ (1, 0, 0) → k ≠ c.tm := fun q e => q (by rw [e]; exact h.ftm)
  have hmt := h1.map
  refine ⟨⟨hs.at h1.box (hmt.cells_ne h1.box), own_kept h1.wd hs fun k hk e => ?_, ?_, ?_, hs.at h1.seats (hmt.cells_ne h1.seats), hp, ?_, ?_, hm, ?_, ?_, h.okw, h.n2, h.lk, ?_, h.small⟩, ?_, ?_⟩
  · obtain ⟨q, hq⟩ := own_blk h1.wd hk
    exact hmt.cells_ne hq e
  · exact atl_congr (h1.atl.kept hs fun k hk e => nt' (by rw [hk]; simp) e) fun k => hr.out _ (by simp) n3 k
  · exact rol_congr (h1.rol.kept (st_ro hs) fun k hk e => nt' (by rw [hk]; simp) e) fun k => hr.out _ (by simp) n2 k
  · intro n' own' hne h'
    obtain ⟨m', q1, q2⟩ := h1.tabs n' own' h'
    exact ⟨m', q1, q2.move hs (fun k hk e => nt' (cls_ne hk).2.1 e) fun l hl k => hr.out l (cls_ne hl).1 (fun q => hne (cls_one hl q)) k⟩
  · exact ht.move hs (fun k hk e => nt (cls_ne hk).2.1 e) fun _ _ _ => Iff.rfl
  · exact fun k => (hr.out _ (by simp) n1 k).trans (h.fp k)
  · intro k hk
    refine ⟨?_, Nat.lt_of_lt_of_le (hr.lt k hk) hs.size⟩
    by_cases e : cls n (f' k)
    · refine (hr.new k e).elim (fun q => (h.lt k (cls_ne q).1).1) fun q => ?_
      have := h.big
      omega
    · exact (h.lt k (by rw [(hr.out _ hk e k).1 rfl]; exact hk)).1
  · intro k n' hk
    by_cases e : n' = n
    · exact .inl e
    · exact .inr (h.only k n' (by rw [(hr.out _ (cls_ne hk).1 (fun q => e (cls_one hk q)) k).1 rfl]; exact hk))
  · refine (St.of_below (S := fun k => c.f k ≠ (0, 0, 0)) hb).trans hs fun k _ e => ?_
    rw [e, h.ftm]
    simp
  · intro k hk
    by_cases e : cls n (f' k)
    · exact (hr.new k e).imp (fun q => absurd hnt (h.only k n q)) id
    · exact .inl (by rw [(hr.out _ hk e k).1 rfl]; exact hk)
end
theorem ptAt_sorted {l l' : List Prt} (h : Apart l) (hp : l.Perm l') {c : Nat} : ptAt l c = ptAt l' c := ptAt_perm h hp c
theorem rows_enter {s : SD} {i g : Nat} {l : List Prt} {own : List (Nat × Nat)} (hi : i < s.p.length) (hown : ∀ e ∈ own, e.1 ≠ i) (q : Nat) : rowsOf (entered s i l) (own ++ [(i, g)]) q = rowsOf s own q ++ [ptAt l q] := by
  unfold rowsOf
  rw [List.map_append, List.map_cons, List.map_nil, at_entered l hi]
  congr 1
  exact List.map_congr_left fun e he => by rw [at_other l (hown e he)]
theorem rows_other {s : SD} {i : Nat} {l : List Prt} {own : List (Nat × Nat)} (hown : ∀ e ∈ own, e.1 ≠ i) (q : Nat) : rowsOf (entered s i l) own q = rowsOf s own q := by
  unfold rowsOf
  exact List.map_congr_left fun e he => by rw [at_other l (hown e he)]
theorem Lk.apart {tab : Nat → Option (List (Nat × Nat))} {seat : List (Nat × Nat)} {s : SD} {i n : Nat} {own : List (Nat × Nat)} (h : Lk (some i) tab seat s) (hn : tab n = some own) : ∀ e ∈ own, e.1 ≠ i := by
  intro e he q
  obtain ⟨j, hj⟩ := List.getElem?_of_mem he
  exact ((h.back n own hn).2 j e.1 e.2 hj).2.1 (by rw [q])
theorem add_same {l : List Nat} {m : Nat} (h : m ∈ l) : add l m = l := if_pos h
end Go.Proofs.YthadfdbkkmmgoaaGreatDoor.So
namespace Go.Proofs.YthadfdbkkmmgoaaGreatDoor.So
open Go.RowKit Go.Shelf Go.Maps
open Go.Proofs.YthadfdbkkmmgoaaGreatDoor.Co (I64 Pt Col CS I64_mid)
open Go.Proofs.YthadfdbkkmmgoaaGreatDoor.At (St bAl cell_blk blk_seen blk_free lst lst_mem an wi wo add Atl Ints pow_le)
open Go.Proofs.YthadfdbkkmmgoaaGreatDoor.Ro (RS Rol Ents entCells entCells_len)
open Go.Proofs.YthadfdbkkmmgoaaGreatDoor.Rs (Prt SD okL okW okC fitP mskP mskP_snoc PRow st_ro ro_st)
theorem PRowOut.mono {S S' : Nat → Prop} {W : World} {v : Value} {l : List Prt} (h : PRowOut S W v l) (hS : ∀ k, S' k → S k) : PRowOut S' W v l := by
  obtain ⟨a, c, h1, h2⟩ := h
  exact ⟨a, c, h1, h2.imp id fun ⟨b, o, q1, q2, q3⟩ => ⟨b, o, q1, fun q => q2 (hS b q), q3⟩⟩
theorem entered_note (s : SD) (i : Nat) (l : List Prt) : entered { s with sets := add s.sets (mskP l) } i l = entered s i l := by
  unfold entered
  simp only [add_same (At.add_mem s.sets (mskP l))]
theorem Lk.few {ex : Option Nat} {tab : Nat → Option (List (Nat × Nat))} {seat : List (Nat × Nat)} {s : SD} (h : Lk ex tab seat s) {n : Nat} {own : List (Nat × Nat)} (hn : tab n = some own) : own.length ≤ s.r.gens.length := by
  have hnd : (own.map Prod.fst).Nodup := by
    rw [List.Nodup, List.pairwise_map, List.pairwise_iff_getElem]
    intro a b ha hb hab e
    have := (h.one hn hn (i := own[a].1) (g := own[a].2) (g' := own[b].2) (List.getElem?_eq_getElem ha) (by rw [e]; exact List.getElem?_eq_getElem hb)).2
    omega
  have := At.few_of (N := s.r.gens.length) hnd fun y hy => by
    obtain ⟨p, hp, rfl⟩ := List.mem_map.1 hy
    obtain ⟨j, hj⟩ := List.getElem?_of_mem hp
    exact al_lt ((h.back n own hn).2 j p.1 p.2 hj).1
  simpa using this
/-- Where enter is once the table is found, or made. -/
structure En (B : Nat) (W : World) (sb : Nat) (c : CV) (s : SD) (i g n M : Nat) (v : Value) (l : List Prt) (x : TV) (own : List (Nat × Nat)) (f5 : Nat → Nat × Nat × Nat) (wx : World) : Prop where
  sx : Sx (some i) B wx sb { c with f := f5 } { s with sets := add s.sets M } n x M own (rowsOf s own)
  hown : c.tab n = some own ∨ (c.tab n = none ∧ own = [])
  gw : Gw c { c with f := f5 } W wx
  ent : wx.heap[W.heap.size]? = some (.cells #[.int .i64 (i : Int), .int .i64 (g : Int)] 144 (0, 0))
  row : PRowOut (fun k => c.f k ≠ (0, 0, 0) ∨ W.heap.size ≤ k) wx v l
  out : f5 W.heap.size = (0, 0, 0)
/-- What enter has done. -/
theorem En.done {B : Nat} {W : World} {sb : Nat} {c : CV} {s : SD} {i g n M : Nat} {v : Value} {l l' : List Prt} {x : TV} {own : List (Nat × Nat)} {f5 f6 : Nat → Nat × Nat × Nat} {wx w6 w7 : World} {ov' : Value} (h : En B W sb c s i g n M v l x own f5 wx) (ha : al s i g)
    (hM : M = mskP l) (hn : n = s.sets.idxOf M) (hp : l.Perm l') (hl : okE s.ws l')
    (h6 : Sx (some i) B w6 sb { c with f := f6 } { s with sets := add s.sets M } n ⟨x.tb, ov', x.cm, x.cb⟩ M (own ++ [(i, g)]) (pushed (rowsOf s own) l)) (hg : Gw c { c with f := f6 } W w6)
    (hw7 : w7 = (w6.setCell ⟨c.sv, i * 2, none⟩ (.int .i64 (n : Int))).setCell ⟨c.sv, i * 2 + 1, none⟩ (.int .i64 (own.length : Int))) :
    ∃ c', Sto none B w7 sb c' (entered s i l') ∧ c'.t = c.t ∧ Gw c c' W w7 := by
  have hm' : mskP l' = M := by rw [hM, msk_perm hp]
  have hi := al_lt ha
  have h64 : s.p.length = 64 := h.sx.n2
  have hg64 : s.r.gens.length ≤ 64 := h.sx.rol.small
  have s67 : St (fun k => k = c.sv) w6 w7 := by
    rw [hw7]
    exact (St.setCell (S := fun k => k = c.sv) (p := ⟨c.sv, i * 2, none⟩) _ rfl).trans (St.setCell (S := fun k => k = c.sv) (p := ⟨c.sv, i * 2 + 1, none⟩) _ rfl) fun _ _ q => q
  have hse : w7.heap[c.sv]? = some (.cells (entCells (c.seat.set i (n, own.length))).toArray 267 (0, 0)) := by
    have e1 := heap_setCell_same w6 c.sv (i * 2) _ 267 (.int .i64 (n : Int)) h6.seats
    have e2 := heap_setCell_same _ c.sv (i * 2 + 1) _ 267 (.int .i64 (own.length : Int)) e1
    rw [hw7, e2, ent_set]
    simp [Ro.gI]
  have ap : ∀ e ∈ own, e.1 ≠ i := by
    rcases h.hown with q | ⟨_, rfl⟩
    · exact h6.lk.apart (n := n) q
    · simp
  have hidx : (add s.sets M).idxOf (mskP l') = n := by rw [hm', At.idx_add, hn]
  have LE := h6.lk.enter (i := i) (g := g) ha (by show s.r.gens.length ≤ s.p.length; omega) (l := l') hl (own := own) (by
    show c.tab ((add s.sets M).idxOf (mskP l')) = some own ∨ _
    rw [hidx]; exact h.hown)
  rw [hidx] at LE
  have BK := h6.back (s' := entered { s with sets := add s.sets M } i l') (ex' := none) hse s67 (by simp) rfl rfl (by
    show add (add s.sets M) (mskP l') = add s.sets M
    rw [hm', add_same (At.add_mem _ _)]) (by simp [entered, h64]) LE (by
    intro q hq
    rw [rows_enter (s := { s with sets := add s.sets M }) (by show i < s.p.length; omega) ap, hM] at *
    obtain ⟨p, hpl, hpc⟩ := (msk_mem (fun x hx => (hl.1.2 x (hp.mem_iff.1 hx)).1) q).1 hq
    rw [pushed_all _ (apart_perm (okL_apart hl.1) hp.symm) hpl hpc, ptAt_perm (apart_perm (okL_apart hl.1) hp.symm) hp]
    rfl) (by
    intro n' own' hne h' q
    exact rows_other (h6.lk.apart (n := n') h') q)
  rw [← hm'] at BK
  rw [entered_note] at BK
  refine ⟨_, BK, rfl, hg.trans ⟨⟨s67.os, s67.tape, s67.output, s67.size, fun k hk hn => s67.block k hk fun q => hn ?_⟩, fun k hk => .inl hk⟩⟩
  show f6 k ≠ (0, 0, 0)
  rw [q]
  have := h6.fsv
  show f6 c.sv ≠ _
  rw [show f6 c.sv = (1, 0, 0) from this]
  simp
end Go.Proofs.YthadfdbkkmmgoaaGreatDoor.So
namespace Go.Proofs.YthadfdbkkmmgoaaGreatDoor.So
open Go.RowKit Go.Shelf Go.Maps
open Go.Proofs.YthadfdbkkmmgoaaGreatDoor.Co (I64 Pt Col CS I64_mid)
open Go.Proofs.YthadfdbkkmmgoaaGreatDoor.At (St bAl cell_blk blk_seen blk_free lst lst_mem an wi wo add Atl Ints pow_le)
open Go.Proofs.YthadfdbkkmmgoaaGreatDoor.Ro (RS Rol Ents entCells entCells_len)
open Go.Proofs.YthadfdbkkmmgoaaGreatDoor.Rs (Prt SD okL okW okC fitP mskP mskP_snoc PRow st_ro ro_st)
theorem msk_next {l : List Prt} {k : Nat} {p : Prt} {c : Nat} (hp : l[k]? = some p) (hc : p.c = (c : Int)) : mskP (l.take (k + 1)) = wi (mskP (l.take k)) c := by
  have e : l.take (k + 1) = l.take k ++ [p] := by
    obtain ⟨hl, rfl⟩ := List.getElem?_eq_some_iff.1 hp
    exact List.take_succ_eq_append_getElem hl
  rw [e, mskP_snoc, hc]
  rfl
theorem tab_bound {ex : Option Nat} {B : Nat} {W : World} {sb : Nat} {c : CV} {s : SD} (h : Sto ex B W sb c s) : ∀ n b, tabMap c.tab c.tv n = some b → n < 70000 := by
  intro n b e
  unfold tabMap at e
  cases q : c.tab n with
  | none => rw [q] at e; cases e
  | some own =>
    obtain ⟨m, h1, -⟩ := h.tabs n own q
    have := (List.getElem?_eq_some_iff.1 h1).1
    have := h.atl.ok.small
    simp at this
    omega
theorem keep_two {w : World} {sv a b : Nat} {x y : Value} {p : Addr} {u : Value} (h : w.cell? p = some u) (hn : p.block ≠ sv) : ((w.setCell ⟨sv, a, none⟩ x).setCell ⟨sv, b, none⟩ y).cell? p = some u :=
  st_cell (St.setCell (S := fun k => k = sv) (p := ⟨sv, b, none⟩) y rfl) (st_cell (St.setCell (S := fun k => k = sv) (p := ⟨sv, a, none⟩) x rfl) h hn) hn
set_option maxHeartbeats 6400000 in
set_option maxRecDepth 100000 in
theorem enter_any {B : Nat} {W : World} {sb : Nat} {c : CV} {s : SD} {i g : Nat} (h : Sto (some i) B W sb c s) (ha : al s i g) {v : Value} {l l' : List Prt} (hv : PRowOut (fun k => c.f k ≠ (0, 0, 0)) W v l) (hp : l.Perm l') (hl : okE s.ws l') :
    Calls Tryz.prog 153 #[.pointer (some ⟨sb, 0, none⟩), .agg #[.int .i64 (i : Int), .int .i64 (g : Int)], v] W fun e W' => e = .returned (.tuple #[]) ∧ ∃ c', Sto none B W' sb c' (entered s i l') ∧ c'.t = c.t ∧ Gw c c' W W' := by
  obtain ⟨va, vc, rfl, -⟩ := id hv
  have hl16 : l.length ≤ 16 := by rw [hp.length_eq]; exact Rs.okL_few hl.1 h.okw.1
  have hli : (l.length : Int) ≤ 16 := by omega
  have HOK : Hid (∀ p ∈ l, 0 ≤ p.c ∧ p.c < (s.ws.length : Int)) := fun p q => hl.1.2 p (hp.mem_iff.1 q)
  have hw16 := h.okw.1
  obtain ⟨w1, hw1⟩ : ∃ w1, w1 = W.alloc (.cells #[.int .i64 (i : Int), .int .i64 (g : Int)] 144) := ⟨_, rfl⟩
  have HW1 := hid hw1
  have B1 : Hid (Below W.heap.size W w1) := by rw [hw1]; exact bAl _ _
  have E1 : Hid (w1.heap[W.heap.size]? = some (.cells #[.int .i64 (i : Int), .int .i64 (g : Int)] 144 (0, 0))) := by rw [hw1]; exact heap_alloc_new W _
  have HV := hid hv.more
  have H := hid h
  have HA := hid ha
  have HP := hid hp
  have HL := hid hl
  clear hw1 h ha hp hl hv
  go_enter Tryz.func153, Tryz.ntmps153
  go_wp2_with fail
  rw [← HW1.out]
  go_loopg [6, 8, 15] l.length (fun gh sv _ q wr => ∃ k m : Nat, k ≤ l.length ∧ gh = l.length - k ∧ q = .int .i64 (k : Int) ∧ sv = .int .u32 (m : Int) ∧ Hid (m = mskP (l.take k)) ∧ Hid (m < 65536) ∧ Hid (Below w1.heap.size w1 wr))
  case atStart => exact ⟨0, 0, Nat.zero_le _, rfl, rfl, rfl, rfl, (show (0 : Nat) < 65536 by decide), Below.refl _ _⟩
  case round =>
    obtain ⟨k, m, hk, rfl, rfl, rfl, HM, HM6, HB⟩ := hrel
    by_cases hlt : k < l.length
    · have hki : (k : Int) < (l.length : Int) := by omega
      obtain ⟨p, hp⟩ := at_lt l k hlt
      have hrow := (HV.out.kept (T := fun _ => False) (St.of_below (B1.out.trans (HB.out.mono B1.out.size))) fun _ q => q.elim).at hp
      obtain ⟨b, o, rfl, d0, d1, d2, d3, d4, d5⟩ := hrow
      have hok := HOK.out p (List.mem_of_getElem? hp)
      obtain ⟨cc, hc⟩ : ∃ cc : Nat, p.c = (cc : Int) := ⟨p.c.toNat, by omega⟩
      have hc16 : cc < 16 := by omega
      have WI := hid (fun w => At.with_in m cc (by have := HM6.out; omega) (by omega) w)
      have HN : Hid (wi m cc = mskP (l.take (k + 1))) := by show _ = _; rw [msk_next hp hc, ← HM.out]
      have HN6 : Hid (wi m cc < 65536) := At.wi_lt (n := 16) HM6.out hc16
      have HB' : Hid (Below w1.heap.size w1 (wr.alloc (.cells #[.int .i64 (cc : Int), .int .i64 p.v0, .int .i64 p.v1, .int .i64 p.v2, .int .i64 p.v3, .int .i64 p.t] 89))) := HB.out.alloc HB.out.size _
      clear hp hok HM HM6
      generalize wi m cc = m2 at *
      go_wp2_with (go_at_call 133; refine (WI.out _).mono ?_; rintro e w2 ⟨rfl, rfl⟩)
      go_roundg (l.length - (k + 1))
      case measure => omega
      case rel => exact ⟨k + 1, m2, by omega, rfl, by go_num, rfl, HN.out, HN6.out, HB'.out⟩
    · have hki : ¬ ((k : Int) < (l.length : Int)) := by omega
      obtain rfl : k = l.length := by omega
      have hM : Hid (m = mskP l) := by show _ = _; rw [HM.out, List.take_length]
      have B2 := hid (B1.out.trans (HB.out.mono B1.out.size))
      have H2 := hid (H.out.later B2.out)
      have c1 := H2.out.c1
      have hm2 : m < 2 ^ s.ws.length := by rw [hM.out]; exact msk_lt HOK.out
      have AT := hid (At.at_ok H2.out.atl m hm2)
      have E2 := hid (blk_seen HB.out (Nat.le_refl _) E1.out)
      have R2 := hid (HV.out.kept (T := fun _ => False) (St.of_below B2.out) fun _ q => q.elim)
      clear HM HB
      go_wp2_with fail
      refine AT.out.mono ?_
      rintro e w3 ⟨rfl, S3, q1, q2, q3⟩
      obtain ⟨f3, h3, g3⟩ := H2.out.note (m := m) q1 q2 q3
      have H3 := hid h3
      have G3 := hid ((Gw.of_below (c := c) B2.out).trans g3)
      have hs3 : St (fun k => c.f k ≠ (0, 0, 0)) wr w3 := g3.st
      have E3 : Hid (w3.heap[W.heap.size]? = some (.cells #[.int .i64 (i : Int), .int .i64 (g : Int)] 144 (0, 0))) := hs3.at E2.out fun q => by have := (H.out.lt _ q).2; omega
      have R3 := hid (R2.out.kept hs3 fun k q => .inl q)
      have O3 : Hid (f3 W.heap.size = (0, 0, 0)) := by
        refine Classical.byContradiction fun q => ?_
        rcases g3.new W.heap.size q with q' | q'
        · have := (H.out.lt _ q').2; omega
        · have := (Array.getElem?_eq_some_iff.1 E2.out).1; omega
      have hset : (add s.sets m)[s.sets.idxOf m]? = some m := At.add_get _ _
      have hnb : s.sets.idxOf m ≤ 65536 := Nat.le_trans (At.idx_le _ _) (by have := H.out.atl.ok.small; simpa using this)
      have HSET := hid hset
      obtain ⟨n, hn⟩ : ∃ n, n = s.sets.idxOf m := ⟨_, rfl⟩
      rw [← hn] at HSET hnb ⊢
      have HN := hid hn
      have LK := h3.look_ok (n : Int) (I64_mid (by omega) (by omega))
      rw [lk_nat] at LK
      obtain ⟨y, hy⟩ : ∃ y, y = tabMap c.tab c.tv n := ⟨_, rfl⟩
      have hy' : tabMap c.tab c.tv n = y := hy.symm
      change (Instr.lookup 178 (.map (some c.tm)) (.int .i64 (n : Int)) true).run Tryz.prog w3 = .ok (.tuple #[ptrV (tabMap c.tab c.tv n), .bool (tabMap c.tab c.tv n).isSome]) w3 at LK
      rw [hy'] at LK
      have HY := hid hy
      have c2 : w3.cell? ⟨sb, 2, none⟩ = some (.map (some c.tm)) := h3.c2
      obtain ⟨pv, hpv⟩ : ∃ pv, pv = ptrV y := ⟨_, rfl⟩
      obtain ⟨pb, hpb⟩ : ∃ pb, pb = y.isSome := ⟨_, rfl⟩
      rw [← hpv, ← hpb] at LK
      have HPV := hid hpv
      have HPB := hid hpb
      clear hy hy' hpv hpb h3 g3 q1 q2 q3 hs3 hset hn E2 R2 AT c1
      go_upto_if 43 with fail
      go_cut [11] (fun s11 wx => ∃ x own f5, s11 = .pointer (some ⟨x.tb, 0, none⟩) ∧ Hid (En B W sb c s i g n m (.slice va l.length vc) l x own f5 wx))
      case first =>
        cases q : c.tab n with
        | none =>
          have hy : y = none := by rw [HY.out]; unfold tabMap; rw [q]; rfl
          obtain rfl : pb = false := by rw [HPB.out, hy]; rfl
          have hwd := H3.out.wd
          have c0 : w3.cell? ⟨sb, 0, none⟩ = some c.wv := H3.out.c0
          obtain ⟨wa, wcc, hwv⟩ := hwd.slice
          change c.wv = _ at hwv
          have NT := hid (newtable_any (B := B) w3 f3 n m s.ws c.wv H3.out.big (fun k hk => (H3.out.lt k hk).2) (fun k hk => H3.out.only k n hk q) hm2 H3.out.okw hwd)
          have TBD := hid (tab_bound H3.out)
          rw [hwv] at c0 NT
          clear HY HPV HPB hy LK hwd
          go_wp2_with fail
          refine NT.out.mono ?_
          rintro e w4 ⟨x, rfl, f4, ht, hr, hb⟩
          have H4 := H3.out.later hb
          obtain ⟨w5, hmu, hp5, hs5⟩ := H4.map.store Tryz.underlying178 TBD.out n x.tb (by omega)
          have c2' : w4.cell? ⟨sb, 2, none⟩ = some (.map (some c.tm)) := H4.c2
          have FR := H3.out.fresh HSET.out ht hr hb hp5 hs5 q
          have hlt3 : W.heap.size < w3.heap.size := (Array.getElem?_eq_some_iff.1 E3.out).1
          have htm : c.tm < W.heap.size := (H.out.lt _ (by rw [H.out.ftm]; simp)).2
          have EN : Hid (En B W sb c s i g n m (.slice va l.length vc) l x [] f4 w5) := by
            refine ⟨FR.1, .inr ⟨q, rfl⟩, G3.out.trans FR.2, hs5.at (blk_seen hb (Nat.le_refl _) E3.out) (by show ¬ W.heap.size = c.tm; omega), (R3.out.kept (T := fun _ => False) (St.of_below hb) fun _ q => q.elim).kept hs5 fun k e => .inl (by rw [e, H.out.ftm]; simp), ?_⟩
            refine Classical.byContradiction fun q' => ?_
            by_cases e : cls n (f4 W.heap.size)
            · rcases hr.new _ e with e' | e'
              · rw [O3.out] at e'; exact cls_zero n e'
              · omega
            · have := (hr.out _ q' e W.heap.size).1 rfl
              rw [O3.out] at this
              exact q' this.symm
          clear ht hr hb hp5 hs5 FR H4 NT c2 c0
          go_wp2_with fail
          go_meet
          exact ⟨x, [], f4, rfl, EN.out⟩
        | some own =>
          have hy : y = some (c.tv n).tb := by rw [HY.out]; unfold tabMap; rw [q]; rfl
          obtain rfl : pb = true := by rw [HPB.out, hy]; rfl
          obtain rfl : pv = .pointer (some ⟨(c.tv n).tb, 0, none⟩) := by rw [HPV.out, hy]; rfl
          clear HY HPV HPB hy LK
          go_wp2_with fail
          go_meet
          exact ⟨c.tv n, own, f3, rfl, ⟨H3.out.out (c := { c with f := f3 }) q HSET.out, .inl q, G3.out, E3.out, R3.out, O3.out⟩⟩
      case rest =>
        obtain ⟨x, own, f5, rfl, HE⟩ := hcut
        have hof : own.length ≤ 64 := by
          rcases HE.out.hown with q | ⟨_, rfl⟩
          · exact Nat.le_trans (HE.out.sx.lk.few (n := n) q) HE.out.sx.rol.small
          · simp
        have hi := al_lt HA.out
        have hsl : i < c.seat.length := by have := HE.out.sx.lk.len; change c.seat.length = s.r.gens.length at this; omega
        have hsi : (i : Int) < (c.seat.length : Int) := by omega
        obtain ⟨p0, hp0'⟩ := at_lt c.seat i hsl
        have hp0 := hid hp0'
        have nsb : sb ≠ c.sv := fun e => by
          have := H.out.box
          rw [e, H.out.seats] at this
          simp at this
        have nsW : W.heap.size ≠ c.sv := by have := (H.out.lt _ (by rw [H.out.fsv]; simp)).2; omega
        clear hp0'
        have hwlt : W.heap.size < wc.heap.size := (Array.getElem?_eq_some_iff.1 HE.out.ent).1
        have RW : Hid (PRowOut (fun k => cls n (f5 k)) wc (.slice va l.length vc) l) := HE.out.row.mono fun k q => HE.out.gw.new k (cls_ne q).1
        have OKP : Hid (∀ p ∈ l, 0 ≤ p.c ∧ p.c < 16 ∧ m.testBit p.c.toNat = true ∧ fitP s.ws p = true ∧ I64 p.t) := fun p hp => by
          have h1 := HOK.out p hp
          have h2 := HL.out.2 p (HP.out.mem_iff.1 hp)
          refine ⟨h1.1, by omega, ?_, h2.1, h2.2⟩
          rw [hM.out, msk_mem (fun x hx => (HOK.out x hx).1)]
          exact ⟨p, hp, by omega⟩
        have RL : Hid (∀ q, (rowsOf s own q).length ≤ 100) := fun q => by unfold rowsOf; simp; omega
        have PC : Hid (∀ W', Below wc.heap.size wc W' → Calls Tryz.prog 173 #[.pointer (some ⟨x.tb, 0, none⟩), .agg #[.int .i64 (i : Int), .int .i64 (g : Int)], .slice va l.length vc] W' fun e W2 => e = .returned (.int .i64 (own.length : Int)) ∧ (∃ ov' f6, Sx (some i) B W2 sb { c with f := f6 } { s with sets := add s.sets m } n ⟨x.tb, ov', x.cm, x.cb⟩ m (own ++ [(i, g)]) (pushed (rowsOf s own) l) ∧ Gw c { c with f := f6 } W W2) ∧ W2.heap[W.heap.size]? = some (.cells #[.int .i64 (i : Int), .int .i64 (g : Int)] 144 (0, 0))) := fun W' hb => by
          have hx := HE.out.sx.later hb
          refine (push_any hx.tb (fun k hk => (hx.lt k hk).2) i g (RW.out.kept (T := fun _ => False) (St.of_below hb) fun _ q => q.elim) hl16 OKP.out RL.out (by omega) (by have := hx.lt sb (by rw [hx.fsb]; simp); omega)).mono ?_
          rintro e W2 ⟨rfl, ov', f6, q1, q2, q3⟩
          have R := hx.retab q1 q2 q3
          refine ⟨rfl, ⟨ov', f6, R.1, (HE.out.gw.trans (Gw.of_below hb)).trans R.2⟩, q3.at (blk_seen hb (Nat.le_refl _) HE.out.ent) ?_⟩
          show ¬ cls n (f5 W.heap.size)
          rw [HE.out.out]
          exact cls_zero n
        have KX : Hid (∀ W' f6 ov' own' rows', Sx (some i) B W' sb { c with f := f6 } { s with sets := add s.sets m } n ⟨x.tb, ov', x.cm, x.cb⟩ m own' rows' → W'.heap[W.heap.size]? = some (.cells #[.int .i64 (i : Int), .int .i64 (g : Int)] 144 (0, 0)) → W'.cell? ⟨sb, 4, none⟩ = some (.slice (some ⟨c.sv, 0, none⟩) c.seat.length c.seat.length) ∧ W'.cell? ⟨W.heap.size, 0, none⟩ = some (.int .i64 (i : Int)) ∧ W'.cell? ⟨W.heap.size, 1, none⟩ = some (.int .i64 (g : Int))) :=
          fun W' f6 ov' own' rows' h1 h2 => ⟨cell_blk h1.box rfl, cell_blk h2 rfl, cell_blk h2 rfl⟩
        have KK : Hid (∀ W', Below wc.heap.size wc W' → W'.cell? ⟨sb, 4, none⟩ = some (.slice (some ⟨c.sv, 0, none⟩) c.seat.length c.seat.length) ∧ W'.cell? ⟨W.heap.size, 0, none⟩ = some (.int .i64 (i : Int)) ∧ W'.cell? ⟨W.heap.size, 1, none⟩ = some (.int .i64 (g : Int))) := fun W' hb => KX.out W' f5 x.ov own (rowsOf s own) (HE.out.sx.later hb) (blk_seen hb (Nat.le_refl _) HE.out.ent)
        clear RW OKP RL LK HY HPV HPB H3 G3 E3 R3 O3 HSET
        go_wp2_with fail
        go_region_held3 (fun W' => W'.cell? ⟨sb, 4, none⟩ = some (.slice (some ⟨c.sv, 0, none⟩) c.seat.length c.seat.length) ∧ W'.cell? ⟨W.heap.size, 0, none⟩ = some (.int .i64 (i : Int)) ∧ W'.cell? ⟨W.heap.size, 1, none⟩ = some (.int .i64 (g : Int)))
          (first | exact KK.out _ (Below.refl _ _).drew | exact KK.out _ (Below.refl _ _) | exact K6.out | exact ⟨keep_two K6.out.1 nsb, keep_two K6.out.2.1 nsW, keep_two K6.out.2.2 nsW⟩)
          ((go_at_call 173; refine (PC.out _ (by first | exact (Below.refl _ _).drew | exact Below.refl _ _)).mono ?_; rintro e w6 ⟨rfl, ⟨ov', f6, hx6, hg6⟩, he6⟩; have K6 := hid (KX.out _ _ _ _ _ hx6 he6); have X6 := hid hx6; have G6 := hid hg6; have z0 : w6.cell? ⟨c.sv, i * 2, none⟩ = some (.int .i64 (p0.1 : Int)) := cell_blk hx6.seats (by simpa using (ent_at hp0.out).1); have z1 : w6.cell? ⟨c.sv, i * 2 + 1, none⟩ = some (.int .i64 (p0.2 : Int)) := cell_blk hx6.seats (by simpa using (ent_at hp0.out).2); have y0 : w6.frozen? ⟨c.sv, i * 2, none⟩ = false := blk_free hx6.seats _; have y1 : w6.frozen? ⟨c.sv, i * 2 + 1, none⟩ = false := blk_free hx6.seats _; clear hx6 hg6 he6))
        obtain ⟨w7, hw7⟩ : ∃ w7, w7 = (w6.setCell ⟨c.sv, i * 2, none⟩ (.int .i64 (n : Int))).setCell ⟨c.sv, i * 2 + 1, none⟩ (.int .i64 (own.length : Int)) := ⟨_, rfl⟩
        have FN := hid (HE.out.done HA.out hM.out HN.out HP.out HL.out X6.out G6.out hw7)
        rw [← hw7]
        clear hw7 z0 z1 y0 y1 K6 X6 G6 KK KX PC
        go_end0
        exact ⟨rfl, FN.out⟩
end Go.Proofs.YthadfdbkkmmgoaaGreatDoor.So
namespace Go.Proofs.YthadfdbkkmmgoaaGreatDoor.So
open Go.RowKit Go.Shelf Go.Maps
open Go.Proofs.YthadfdbkkmmgoaaGreatDoor.Co (I64 Pt Col CS I64_mid)
open Go.Proofs.YthadfdbkkmmgoaaGreatDoor.At (St bAl cell_blk blk_seen blk_free lst lst_mem an wi wo add Atl Ints pow_le)
open Go.Proofs.YthadfdbkkmmgoaaGreatDoor.Ro (RS Rol Ents entCells entCells_len)
open Go.Proofs.YthadfdbkkmmgoaaGreatDoor.Rs (Prt Prts SD okL okW okC fitP mskP mskP_snoc PRow st_ro ro_st wpList_prt)
/-- Where each is. -/
structure Ea (W : World) (cs : List Nat) (pr : Nat → Prt) (Inv : Nat → World → Prop) (la : Option Addr) (lc : Nat) (k : Nat) (lv : Value) (wr : World) : Prop where
  inv : Inv k wr
  out : Prts W.heap.size wr lv ((cs.take k).map pr)
  li : Ints W.heap.size wr (.slice la cs.length lc) cs
  st : St (fun k => k < W.heap.size) W wr
theorem ints_ne {B B' : Nat} {W : World} {v u : Value} {l : List Nat} {q : List Prt} (h : Ints B W v l) (h' : Prts B' W u q) {k : Nat} (hv : v.ownBlock = some k) : u.ownBlock ≠ some k := fun hu => by
  obtain ⟨c, e⟩ := own_blk h hv
  obtain ⟨c', e'⟩ := own_blk h' hu
  rw [e] at e'
  simp at e'
set_option maxHeartbeats 3200000 in
set_option maxRecDepth 100000 in
theorem each_any (fk : Nat) (lb : Array Value) (eg : ∀ args w, (callFunc fk args).run Tryz.prog w = .ok (.enter fk args) w) {W : World} (tb cm m : Nat) (cb : Nat → Nat) (pr : Nat → Prt) (Inv : Nat → World → Prop) (hm : m < 65536) (h0 : Inv 0 W) (c0 : W.cell? ⟨tb, 0, none⟩ = some (.int .u32 (m : Int)))
    (hlater : ∀ k w w', Inv k w → Below w.heap.size w w' → Inv k w')
    (hread : ∀ k w, Inv k w → w.cell? ⟨tb, 2, none⟩ = some (.map (some cm)) ∧ ∀ c, m.testBit c = true → (Instr.lookup 269 (.map (some cm)) (.int .i64 ((c : Nat) : Int)) false).run Tryz.prog w = .ok (.pointer (some ⟨cb c, 0, none⟩)) w)
    (hout : ∀ k w w' lv q, Inv k w → W.heap.size ≤ w.heap.size → Prts W.heap.size w lv q → St (fun x => lv.ownBlock = some x) w w' → Inv k w')
    (hstep : ∀ k c w, (lst 32 m)[k]? = some c → Inv k w → W.heap.size ≤ w.heap.size → Calls Tryz.prog fk (#[.pointer (some ⟨cb c, 0, none⟩)] ++ lb) w fun e w' => e = .returned (.tuple #[(pr c).val, .nilIface]) ∧ Inv (k + 1) w' ∧ St (fun k => k < W.heap.size) w w') :
    Calls Tryz.prog 122 #[.pointer (some ⟨tb, 0, none⟩), .func (.func fk) #[] lb] W fun e W' => ∃ v, e = .returned v ∧ Prts W.heap.size W' v ((lst 32 m).map pr) ∧ Inv (lst 32 m).length W' ∧ St (fun k => k < W.heap.size) W W' := by
  have LI := hid (At.list_any m (by omega) W)
  have HS := hid hstep
  have HR := hid hread
  have HLa := hid hlater
  have HO := hid hout
  have H0 := hid h0
  have hln := lst_len32 m
  have HB : Hid (∀ c, c ∈ lst 32 m → m.testBit c = true ∧ c < 32) := fun c hc => ⟨((lst_mem m c 32).1 hc).2, ((lst_mem m c 32).1 hc).1⟩
  clear hstep hread hlater h0 hout
  go_enter Tryz.func122, Tryz.ntmps122
  go_wp2_with fail
  refine LI.out.mono ?_
  rintro e w1 ⟨lv0, rfl, hlv, hb1⟩
  obtain ⟨la, lc, rfl⟩ := hlv.slice
  generalize hcs : lst 32 m = cs at *
  have HCS := hid hcs
  clear hcs
  have E0 : Hid (Ea W cs pr Inv la lc 0 (.slice none 0 0) w1) := ⟨HLa.out 0 W w1 H0.out hb1, World.ownsRow_nil _ _ _ _, hlv, St.of_below hb1⟩
  clear hlv hb1 LI
  have hleni : (cs.length : Int) ≤ 32 := by omega
  go_wp2_with fail
  go_loopg [5, 7, 8, 9, 16] cs.length (fun gh lv _ _ _ q wr => ∃ k : Nat, k ≤ cs.length ∧ gh = cs.length - k ∧ q = .int .i64 (k : Int) ∧ Hid (Ea W cs pr Inv la lc k lv wr))
  case atStart => exact ⟨0, Nat.zero_le _, rfl, rfl, E0.out⟩
  case round =>
    obtain ⟨k, hk, rfl, rfl, HE⟩ := hrel
    by_cases hlt : k < cs.length
    · have hki : (k : Int) < (cs.length : Int) := by omega
      obtain ⟨c, hc⟩ := at_lt cs k hlt
      obtain ⟨g, rfl, -, -⟩ := HE.out.li.some (by omega)
      have x1 := HE.out.li.cell hc
      have hcb := HB.out c (List.mem_of_getElem? hc)
      have x2 := (HR.out k wr HE.out.inv).1
      have x3 := (HR.out k wr HE.out.inv).2 c hcb.1
      have hws : W.heap.size ≤ wr.heap.size := HE.out.st.size
      have ST := hid (HS.out k c wr hc HE.out.inv hws)
      have HT : Hid (cs.take (k + 1) = cs.take k ++ [c]) := by
        obtain ⟨hl, rfl⟩ := List.getElem?_eq_some_iff.1 hc
        exact List.take_succ_eq_append_getElem hl
      obtain ⟨p, hp⟩ : ∃ p, p = pr c := ⟨_, rfl⟩
      rw [← hp] at ST
      have HP := hid hp
      unfold Prt.val at ST
      clear hc hp hcb
      go_wp2_with fail
      refine ST.out.mono ?_
      rintro e w2 ⟨rfl, hi2, hs2⟩
      have I2 := hid hi2
      have S2 := hid hs2
      clear hi2 hs2 ST x1 x2 x3
      obtain ⟨q, hq⟩ : ∃ q, q = (cs.take k).map pr := ⟨_, rfl⟩
      have HQ := hid hq
      have hul : q.length ≤ 1000 := by rw [hq]; simp; omega
      have HEo : Prts W.heap.size wr u5 q := by rw [hq]; exact HE.out.out
      obtain ⟨oa, oc, rfl⟩ := HEo.slice
      have O2 : Hid (Prts W.heap.size w2 (.slice oa q.length oc) q) := HEo.kept S2.out fun y hy e => by have := (HEo.lt y hy).1; omega
      clear hq HEo
      have b3 := bAl w2 (.cells #[.int .i64 p.c, .int .i64 p.v0, .int .i64 p.v1, .int .i64 p.v2, .int .i64 p.v3, .int .i64 p.t] 89)
      obtain ⟨w3, hw3⟩ : ∃ w3, w3 = w2.alloc (.cells #[.int .i64 p.c, .int .i64 p.v0, .int .i64 p.v1, .int .i64 p.v2, .int .i64 p.v3, .int .i64 p.t] 89) := ⟨_, rfl⟩
      have y := heap_alloc_new w2 (.cells #[.int .i64 p.c, .int .i64 p.v0, .int .i64 p.v1, .int .i64 p.v2, .int .i64 p.v3, .int .i64 p.t] 89)
      rw [← hw3] at b3 y
      have B3 := hid b3
      have O3 := hid (O2.out.later b3)
      have y0 := cell_blk y (j := 0) rfl
      have y1 := cell_blk y (j := 1) rfl
      have y2 := cell_blk y (j := 2) rfl
      have y3 := cell_blk y (j := 3) rfl
      have y4 := cell_blk y (j := 4) rfl
      have y5 := cell_blk y (j := 5) rfl
      have hsz3 : W.heap.size ≤ w3.heap.size := Nat.le_trans hws (Nat.le_trans S2.out.size b3.size)
      have HW3 := hid hw3
      clear b3 y hw3 O2
      go_upto_region 6 with fail
      rw [← HW3.out]
      go_wp2_with (at_builtin; refine wpList_prt (p := p) rfl _ _ rfl O3.out hul hsz3 rfl rfl ?_; intro v4 w4 H4 S4)
      go_roundg (cs.length - (k + 1))
      case measure => omega
      case rel =>
        refine ⟨k + 1, by omega, rfl, by go_num, ⟨?_, ?_, ?_, ?_⟩⟩
        · exact HO.out (k + 1) w3 w4 _ _ (HLa.out _ _ _ I2.out B3.out) hsz3 O3.out S4.out
        · rw [HT.out, List.map_append, List.map_cons, List.map_nil, ← HP.out, ← HQ.out]
          exact H4.out
        · have l2 : Ints W.heap.size w3 (.slice (some ⟨g, 0, none⟩) cs.length lc) cs := Ints.later (own_kept HE.out.li S2.out fun y hy q => by have := (HE.out.li.lt y hy).1; omega) B3.out
          exact own_kept l2 S4.out fun y hy q => ints_ne l2 O3.out hy q
        · refine ((HE.out.st.trans S2.out fun _ _ q => q).trans (St.of_below (S := fun _ => False) B3.out) fun _ _ q => q.elim).trans S4.out fun y hy q => ?_
          exact hy
    · have hki : ¬ ((k : Int) < (cs.length : Int)) := by omega
      obtain rfl : k = cs.length := by omega
      have hd := HE.out
      go_wp2_with fail
      go_ret
      have ho := hd.out
      rw [List.take_length] at ho
      refine ⟨_, rfl, ?_⟩
      rw [HCS.out]
      exact ⟨ho, hd.inv, hd.st⟩
end Go.Proofs.YthadfdbkkmmgoaaGreatDoor.So
namespace Go.Proofs.YthadfdbkkmmgoaaGreatDoor.So
open Go.RowKit Go.Shelf Go.Maps
open Go.Proofs.YthadfdbkkmmgoaaGreatDoor.Co (I64 Pt Col CS I64_mid lies put6_blk put6_st put6)
open Go.Proofs.YthadfdbkkmmgoaaGreatDoor.At (St bAl cell_blk blk_seen blk_free)
section
variable {B : Nat} {W : World} {rb : Nat} {s : CS} {S : Nat → Prop}
set_option maxHeartbeats 1600000 in
set_option maxRecDepth 100000 in
theorem take1_any (h : Col B W rb s S) (n : Nat) (p : Pt) (hp : s.rows[n]? = some p) (pl : Pt) (hpl : s.rows[s.rows.length - 1]? = some pl) (xb : Nat) (hx : W.cell? ⟨xb, 0, none⟩ = some (.int .i64 (n : Int))) :
    Calls Tryz.prog 190 #[.pointer (some ⟨rb, 0, none⟩), .pointer (some ⟨xb, 0, none⟩)] W fun e W' => e = .returned (.tuple #[p.val s.comp, .nilIface]) ∧ Col B W' rb (s.taken n pl) S ∧ Co.St S W W' := by
  obtain ⟨W1, hW1⟩ : ∃ W1, W1 = W.alloc (.cells #[.int .i64 0, .int .i64 0, .int .i64 0, .int .i64 0, .int .i64 0, .int .i64 0] 89) := ⟨_, rfl⟩
  have b1 : Below W.heap.size W W1 := by rw [hW1]; exact bAl _ _
  have r1 : W1.heap[W.heap.size]? = some (.cells (Pt.zero.arr 0) 89 (0, 0)) := by rw [hW1]; exact heap_alloc_new W _
  have x1 : W1.cell? ⟨xb, 0, none⟩ = some (.int .i64 (n : Int)) := At.seen b1 (Nat.le_refl _) hx
  have TK := hid (Co.col_take (h.later b1) n p hp pl hpl)
  have HLT := hid (fun k hk => (h.lt k hk).2)
  have HW1 := hid hW1
  have B1 := hid b1
  have R1 := hid r1
  unfold Pt.val at TK ⊢
  generalize s.comp = cm at *
  clear h hp hpl hx b1 hW1 r1
  go_enter Tryz.func190, Tryz.ntmps190
  go_upto_region 1 with fail
  rw [← HW1.out]
  go_wp2_with fail
  refine TK.out.mono ?_
  rintro e w2 ⟨rfl, hc, hs⟩
  have C2 := hid hc
  have S2 := hid hs
  have r2 : w2.heap[W.heap.size]? = some (.cells (Pt.zero.arr 0) 89 (0, 0)) := hs.at R1.out fun q => by have := HLT.out _ q; omega
  have R2 := hid r2
  obtain ⟨x0, x1, x2, x3, x4, x5, f0, f1, f2, f3, f4, f5⟩ := lies r2
  clear hc hs r2 TK
  go_wp2_with fail
  have PB := put6_blk R2.out rfl cm p
  have PS := put6_st w2 W.heap.size cm p
  unfold put6 at PB PS
  obtain ⟨d0, d1, d2, d3, d4, d5, -, -, -, -, -, -⟩ := lies PB
  generalize (((((w2.setCell ⟨W.heap.size, 0, none⟩ (.int .i64 cm)).setCell ⟨W.heap.size, 1, none⟩ (.int .i64 p.a)).setCell ⟨W.heap.size, 2, none⟩ (.int .i64 p.b)).setCell ⟨W.heap.size, 3, none⟩ (.int .i64 p.c)).setCell ⟨W.heap.size, 4, none⟩ (.int .i64 p.d)).setCell ⟨W.heap.size, 5, none⟩ (.int .i64 p.t) = w3 at *
  refine bodyPost_ret (v := .tuple #[.agg #[.int .i64 cm, .int .i64 p.a, .int .i64 p.b, .int .i64 p.c, .int .i64 p.d, .int .i64 p.t], .nilIface]) (by simp [results, Tryz.results190, go_sem, d0, d1, d2, d3, d4, d5]) rfl ⟨rfl, C2.out.kept PS fun k hk e => ?_, ?_⟩
  · have := HLT.out k hk; omega
  · exact ((Co.St.of_below (S := S) B1.out).trans S2.out fun _ _ q => q).trans PS fun k hk e => by omega
set_option maxHeartbeats 1600000 in
set_option maxRecDepth 100000 in
theorem row1_any (h : Col B W rb s S) (n : Nat) (p : Pt) (hp : s.rows[n]? = some p) (xb : Nat) (hx : W.cell? ⟨xb, 0, none⟩ = some (.int .i64 (n : Int))) :
    Calls Tryz.prog 123 #[.pointer (some ⟨rb, 0, none⟩), .pointer (some ⟨xb, 0, none⟩)] W fun e W' => e = .returned (.tuple #[p.val s.comp, .nilIface]) ∧ Below W.heap.size W W' := by
  obtain ⟨W1, hW1⟩ : ∃ W1, W1 = W.alloc (.cells #[.int .i64 0, .int .i64 0, .int .i64 0, .int .i64 0, .int .i64 0, .int .i64 0] 89) := ⟨_, rfl⟩
  have b1 : Below W.heap.size W W1 := by rw [hW1]; exact bAl _ _
  have r1 : W1.heap[W.heap.size]? = some (.cells (Pt.zero.arr 0) 89 (0, 0)) := by rw [hW1]; exact heap_alloc_new W _
  have x1 : W1.cell? ⟨xb, 0, none⟩ = some (.int .i64 (n : Int)) := At.seen b1 (Nat.le_refl _) hx
  have TK := hid (Co.col_row (h.later b1) n p hp)
  have HW1 := hid hW1
  have B1 := hid b1
  have R1 := hid r1
  unfold Pt.val at TK ⊢
  generalize s.comp = cm at *
  clear h hp hx b1 hW1 r1
  go_enter Tryz.func123, Tryz.ntmps123
  go_upto_region 1 with fail
  rw [← HW1.out]
  go_wp2_with fail
  refine TK.out.mono ?_
  rintro e w2 ⟨rfl, hb⟩
  have B2 := hid (B1.out.trans (hb.mono B1.out.size))
  have r2 : w2.heap[W.heap.size]? = some (.cells (Pt.zero.arr 0) 89 (0, 0)) := blk_seen hb (Nat.le_refl _) R1.out
  have R2 := hid r2
  obtain ⟨x0, x1, x2, x3, x4, x5, f0, f1, f2, f3, f4, f5⟩ := lies r2
  clear hb r2 TK
  go_wp2_with fail
  have PB := put6_blk R2.out rfl cm p
  have PS := put6_st w2 W.heap.size cm p
  unfold put6 at PB PS
  obtain ⟨d0, d1, d2, d3, d4, d5, -, -, -, -, -, -⟩ := lies PB
  generalize (((((w2.setCell ⟨W.heap.size, 0, none⟩ (.int .i64 cm)).setCell ⟨W.heap.size, 1, none⟩ (.int .i64 p.a)).setCell ⟨W.heap.size, 2, none⟩ (.int .i64 p.b)).setCell ⟨W.heap.size, 3, none⟩ (.int .i64 p.c)).setCell ⟨W.heap.size, 4, none⟩ (.int .i64 p.d)).setCell ⟨W.heap.size, 5, none⟩ (.int .i64 p.t) = w3 at *
  exact bodyPost_ret (v := .tuple #[.agg #[.int .i64 cm, .int .i64 p.a, .int .i64 p.b, .int .i64 p.c, .int .i64 p.d, .int .i64 p.t], .nilIface]) (by simp [results, Tryz.results123, go_sem, d0, d1, d2, d3, d4, d5]) rfl ⟨rfl, B2.out.trans (PS.below (B := W.heap.size) (fun k hk => by omega) B2.out.size)⟩
end
end Go.Proofs.YthadfdbkkmmgoaaGreatDoor.So
namespace Go.Proofs.YthadfdbkkmmgoaaGreatDoor.So
open Go.RowKit Go.Shelf Go.Maps
open Go.Proofs.YthadfdbkkmmgoaaGreatDoor.Co (I64 Pt Col CS I64_mid)
open Go.Proofs.YthadfdbkkmmgoaaGreatDoor.At (St bAl cell_blk blk_seen blk_free lst lst_mem an wi wo add Atl Ints pow_le)
open Go.Proofs.YthadfdbkkmmgoaaGreatDoor.Ro (RS Rol Ents entCells entCells_len)
open Go.Proofs.YthadfdbkkmmgoaaGreatDoor.Rs (Prt Prts SD okL okW okC fitP mskP mskP_snoc PRow st_ro ro_st)
/-- A row taken out: the last one comes in its place. -/
def tk (r : List Pt) (j : Nat) : List Pt := (r.set j (r.getD (r.length - 1) Pt.zero)).dropLast
def rowsT (rows : Nat → List Pt) (j : Nat) (l : List Nat) (c : Nat) : List Pt := if c ∈ l then tk (rows c) j else rows c
section
variable {B : Nat} {W W' : World} {f : Nat → Nat × Nat × Nat} {n : Nat} {x : TV} {m : Nat} {ws : List Nat} {own : List (Nat × Nat)} {rows : Nat → List Pt}
theorem Tb.colsame (h : Tb B W f n x m ws own rows) {c w : Nat} (hw : ws[c]? = some w) {r' : List Pt} (hcol : Col B W' (x.cb c) ⟨(c : Int), w, r'⟩ (fun k => f k = (5, n, c))) (hs : St (fun k => f k = (5, n, c)) W W') : Tb B W' f n x m ws own (fun c' => if c' = c then r' else rows c') := by
  have e4 : ∀ k, f k = (4, n, 0) → ¬ f k = (5, n, c) := fun k hk e => by rw [hk] at e; simp at e
  refine ⟨hs.at h.box (e4 _ h.ftb), own_kept h.own hs fun k hk => e4 k (h.fov hk), h.map.kept hs (e4 _ h.fcm), fun c' hc' => ?_, h.fp, h.low⟩
  by_cases e : c' = c
  · subst e
    refine ⟨w, hw, ?_⟩
    rw [if_pos rfl]
    exact hcol
  · obtain ⟨w', q1, q2⟩ := h.col c' hc'
    refine ⟨w', q1, ?_⟩
    rw [if_neg e]
    exact q2.kept (co_st hs) fun k hk q => by rw [hk] at q; simp at q; exact e q
theorem rowsT_next (rows : Nat → List Pt) (j : Nat) {cs : List Nat} {k c : Nat} (hc : cs[k]? = some c) : rowsT rows j (cs.take (k + 1)) = fun c' => if c' = c then tk (rows c) j else rowsT rows j (cs.take k) c' := by
  have e : cs.take (k + 1) = cs.take k ++ [c] := by
    obtain ⟨hl, rfl⟩ := List.getElem?_eq_some_iff.1 hc
    exact List.take_succ_eq_append_getElem hl
  funext c'
  unfold rowsT
  rw [e]
  by_cases q : c' = c
  · subst q; simp
  · simp [q]
/-- A table behind its owners' row, changed in its place. -/
theorem Tb.ovset (h : Tb B W f n x m ws own rows) {ov' : Value} {own' : List (Nat × Nat)} (hov : ov'.ownBlock = x.ov.ownBlock) (hs : St (fun k => f k = (4, n, 0)) W W') (hbox : W'.heap[x.tb]? = some (.cells #[.int .u32 (m : Int), ov', .map (some x.cm)] 271 (0, 0))) (hmap : PMap W' x.cm (colMap m x.cb)) (ho : Ents B W' ov' own') :
    Tb B W' f n ⟨x.tb, ov', x.cm, x.cb⟩ m ws own' rows := by
  refine ⟨hbox, ho, hmap, fun c hc => ?_, fun k => ?_, h.low⟩
  · obtain ⟨w', q1, q2⟩ := h.col c hc
    exact ⟨w', q1, q2.kept (co_st hs) fun k hk q => by rw [hk] at q; simp at q⟩
  · rw [h.fp k, ← hov]
end
theorem ent_take (l : List (Nat × Nat)) (k : Nat) : (entCells l).take (k * 2) = entCells (l.take k) := by
  induction l generalizing k with
  | nil => simp [entCells]
  | cons a l ih =>
    have e : ∀ (q : Nat × Nat) l, entCells (q :: l) = Ro.gI q.1 :: Ro.gI q.2 :: entCells l := fun q l => by simp [entCells]
    cases k with
    | zero => simp [entCells]
    | succ k =>
      rw [e, List.take_succ_cons, e, show (k + 1) * 2 = k * 2 + 1 + 1 by omega, List.take_succ_cons, List.take_succ_cons, ih]
theorem taken_cells {cur : List Value} {own : List (Nat × Nat)} {j : Nat} {y : Nat × Nat} (hc : cur.take (own.length * 2) = entCells own) :
    ((cur.set (j * 2) (Ro.gI y.1)).set (j * 2 + 1) (Ro.gI y.2)).take ((own.length - 1) * 2) = entCells (taken own j y) := by
  unfold taken
  rw [List.dropLast_eq_take, ← ent_take, List.length_set, ent_set, ← hc, List.take_set, List.take_set, List.take_set, List.take_set, List.take_take, Nat.min_eq_left (by omega)]
end Go.Proofs.YthadfdbkkmmgoaaGreatDoor.So
namespace Go.Proofs.YthadfdbkkmmgoaaGreatDoor.So
open Go.RowKit Go.Shelf Go.Maps
open Go.Proofs.YthadfdbkkmmgoaaGreatDoor.Co (I64 Pt Col CS I64_mid)
open Go.Proofs.YthadfdbkkmmgoaaGreatDoor.At (St bAl cell_blk blk_seen blk_free lst lst_mem an wi wo add Atl Ints pow_le)
open Go.Proofs.YthadfdbkkmmgoaaGreatDoor.Ro (RS Rol Ents entCells entCells_len)
open Go.Proofs.YthadfdbkkmmgoaaGreatDoor.Rs (Prt Prts SD okL okW okC fitP mskP mskP_snoc PRow st_ro ro_st)
/-- What holds of the table while its columns are taken from. -/
structure Tk (B : Nat) (W W1 : World) (f : Nat → Nat × Nat × Nat) (n : Nat) (x : TV) (m : Nat) (ws : List Nat) (own : List (Nat × Nat)) (rows : Nat → List Pt) (j k : Nat) (w : World) : Prop where
  tb : Tb B w f n x m ws own (rowsT rows j ((lst 32 m).take k))
  st : St (fun k => cls n (f k)) W1 w
  cell : w.heap[W.heap.size]? = some (.cells #[.int .i64 (j : Int)] 3 (0, 0))
theorem enters140 : ∀ args w, (callFunc 190 args).run Tryz.prog w = .ok (.enter 190 args) w := enters_of Tryz.func190 (by kernel_rfl) rfl
theorem taking {B : Nat} {W W1 : World} {f : Nat → Nat × Nat × Nat} {n : Nat} {x : TV} {m : Nat} {ws : List Nat} {own : List (Nat × Nat)} {rows : Nat → List Pt} (h : Tb B W f n x m ws own rows) (hlt : ∀ k, f k ≠ (0, 0, 0) → k < W.heap.size) (hm : m < 65536) (j : Nat) (hj : j < own.length) (hrows : ∀ c, m.testBit c = true → (rows c).length = own.length)
    (hW1 : W1 = W.alloc (.cells #[.int .i64 (j : Int)] 3)) :
    Calls Tryz.prog 122 #[.pointer (some ⟨x.tb, 0, none⟩), .func (.func 190) #[] #[.pointer (some ⟨W.heap.size, 0, none⟩)]] W1 fun e W' => ∃ v, e = .returned v ∧ Prts W1.heap.size W' v ((lst 32 m).map fun c => mk c ((rows c).getD j Pt.zero)) ∧ Tk B W W1 f n x m ws own rows j (lst 32 m).length W' ∧ St (fun k => k < W1.heap.size) W1 W' := by
  have b1 : Below W.heap.size W W1 := by rw [hW1]; exact bAl _ _
  have hz : W1.heap.size = W.heap.size + 1 := by rw [hW1]; simp
  have r1 : W1.heap[W.heap.size]? = some (.cells #[.int .i64 (j : Int)] 3 (0, 0)) := by rw [hW1]; exact heap_alloc_new W _
  have h1 := h.later b1
  have hc16 : ∀ c, m.testBit c = true → c < 16 := fun c hc => Nat.lt_of_not_le fun q => by
    rw [At.bit_out (n := 16) hm q] at hc
    cases hc
  refine each_any 190 #[.pointer (some ⟨W.heap.size, 0, none⟩)] enters140 x.tb x.cm m x.cb (fun c => mk c ((rows c).getD j Pt.zero)) (Tk B W W1 f n x m ws own rows j) hm ⟨?_, St.refl _ _, r1⟩ h1.c0 ?_ ?_ ?_ ?_
  · have e : rowsT rows j ((lst 32 m).take 0) = rows := by funext c; simp [rowsT]
    rw [e]; exact h1
  · intro k w w' hk hb
    exact ⟨hk.tb.later hb, hk.st.trans (St.of_below (S := fun _ => False) hb) fun _ _ q => q.elim, blk_seen hb (Nat.le_refl _) hk.cell⟩
  · intro k w hk
    refine ⟨hk.tb.c2, fun c hc => ?_⟩
    have := hk.tb.look (c : Int) (I64_mid (by omega) (by have := hc16 c hc; omega))
    rw [lk_nat] at this
    unfold colMap at this
    rw [if_pos hc] at this
    exact this
  · intro k w w' lv q hk hw hp hs
    have hlv : ∀ y, lv.ownBlock = some y → W1.heap.size ≤ y := fun y hy => (hp.lt y hy).1
    refine ⟨hk.tb.move hs (fun y hy e => ?_) fun _ _ _ => Iff.rfl, hk.st.trans hs fun y hy e => ?_, hs.at hk.cell fun e => ?_⟩
    · have := hlv y e
      have := hlt y (cls_ne hy).1
      omega
    · have := hlv y e; omega
    · have := hlv _ e; omega
  · intro k c w hc hk hw
    have hcb := ((lst_mem m c 32).1 (List.mem_of_getElem? hc)).2
    obtain ⟨wd, q1, q2⟩ := hk.tb.col c hcb
    have hnd : c ∉ (lst 32 m).take k := fun q => by
      have h2 : ((lst 32 m).take (k + 1)).Nodup := (lst_nodup m 32).sublist (List.take_sublist _ _)
      have e : (lst 32 m).take (k + 1) = (lst 32 m).take k ++ [c] := by
        obtain ⟨hl, rfl⟩ := List.getElem?_eq_some_iff.1 hc
        exact List.take_succ_eq_append_getElem hl
      rw [e, List.nodup_append] at h2
      exact h2.2.2 c q c (by simp) rfl
    have er : rowsT rows j ((lst 32 m).take k) c = rows c := by unfold rowsT; rw [if_neg hnd]
    rw [er] at q2
    have hl := hrows c hcb
    obtain ⟨p, hp⟩ := at_lt (rows c) j (by omega)
    obtain ⟨pl, hpl⟩ := at_lt (rows c) ((rows c).length - 1) (by omega)
    have ep : (rows c).getD j Pt.zero = p := by rw [List.getD_eq_getElem?_getD, hp]; rfl
    have epl : (rows c).getD ((rows c).length - 1) Pt.zero = pl := by rw [List.getD_eq_getElem?_getD, hpl]; rfl
    refine (take1_any q2 j p hp pl hpl W.heap.size (cell_blk hk.cell rfl)).mono ?_
    rintro e w' ⟨rfl, k1, k2⟩
    have hsc := st_co k2
    refine ⟨by rw [ep, mk_val], ⟨?_, hk.st.trans hsc fun y hy e => .inr ⟨c, e⟩, hsc.at hk.cell fun e => ?_⟩, ⟨hsc.os, hsc.tape, hsc.output, hsc.size, fun y hy hn => hsc.block y hy fun e => hn ?_⟩⟩
    · rw [rowsT_next rows j hc]
      have := hk.tb.colsame q1 k1 hsc
      unfold tk
      rw [epl]
      exact this
    · have := hlt _ (by rw [e]; simp); omega
    · have := hlt y (by rw [e]; simp); omega
theorem cells_of {cur : Array Value} {own : List (Nat × Nat)} {j : Nat} {p : Nat × Nat} (hc : cur.toList.take (own.length * 2) = entCells own) (hj : own[j]? = some p) : cur[j * 2]? = some (.int .i64 (p.1 : Int)) ∧ cur[j * 2 + 1]? = some (.int .i64 (p.2 : Int)) := by
  have hl := (List.getElem?_eq_some_iff.1 hj).1
  have h := ent_at hj
  rw [← hc, List.getElem?_take_of_lt (by omega), List.getElem?_take_of_lt (by omega)] at h
  simpa using h
theorem keep_last {w : World} {g j last : Nat} {a b : Value} {cur : Array Value} {ty : TypeId} (h : w.heap[g]? = some (.cells cur ty (0, 0))) (c0 : cur[last * 2]? = some a) (c1 : cur[last * 2 + 1]? = some b) :
    ((w.setCell ⟨g, j * 2, none⟩ a).setCell ⟨g, j * 2 + 1, none⟩ b).cell? ⟨g, last * 2, none⟩ = some a ∧ ((w.setCell ⟨g, j * 2, none⟩ a).setCell ⟨g, j * 2 + 1, none⟩ b).cell? ⟨g, last * 2 + 1, none⟩ = some b := by
  have h1 := heap_setCell_same w g (j * 2) cur ty a h
  have h2 := heap_setCell_same _ g (j * 2 + 1) _ ty b h1
  have l0 := (Array.getElem?_eq_some_iff.1 c0).1
  have l1 := (Array.getElem?_eq_some_iff.1 c1).1
  refine ⟨cell_blk h2 ?_, cell_blk h2 ?_⟩
  · rw [Array.getElem?_setIfInBounds, if_neg (by omega), Array.getElem?_setIfInBounds]
    by_cases e : j = last
    · rw [if_pos (by omega), if_pos (by omega)]
    · rw [if_neg (by omega)]; exact c0
  · rw [Array.getElem?_setIfInBounds]
    by_cases e : j = last
    · rw [if_pos (by omega), if_pos (by simpa using (by omega))]
    · rw [if_neg (by omega), Array.getElem?_setIfInBounds, if_neg (by omega)]; exact c1
set_option maxHeartbeats 3200000 in
set_option maxRecDepth 100000 in
theorem ttake_any {B : Nat} {W : World} {f : Nat → Nat × Nat × Nat} {n : Nat} {x : TV} {m : Nat} {ws : List Nat} {own : List (Nat × Nat)} {rows : Nat → List Pt} (h : Tb B W f n x m ws own rows) (hlt : ∀ k, f k ≠ (0, 0, 0) → k < W.heap.size) (hm : m < 65536) (j : Nat) (hj : j < own.length) (hrows : ∀ c, m.testBit c = true → (rows c).length = own.length) (ho : own.length ≤ 100)
    {y : Nat × Nat} (hy : own[own.length - 1]? = some y) :
    Calls Tryz.prog 174 #[.pointer (some ⟨x.tb, 0, none⟩), .int .i64 (j : Int)] W fun e W' => ∃ v, e = .returned v ∧ Prts W.heap.size W' v ((lst 32 m).map fun c => mk c ((rows c).getD j Pt.zero)) ∧ (∃ ov', ov'.ownBlock = x.ov.ownBlock ∧ Tb B W' f n ⟨x.tb, ov', x.cm, x.cb⟩ m ws (taken own j y) (fun c => tk (rows c) j)) ∧ St (fun k => cls n (f k)) W W' := by
  obtain ⟨W1, hW1⟩ : ∃ W1, W1 = W.alloc (.cells #[.int .i64 (j : Int)] 3) := ⟨_, rfl⟩
  have b1 : Below W.heap.size W W1 := by rw [hW1]; exact bAl _ _
  have TK := hid (taking h hlt hm j hj hrows hW1)
  have HW1 := hid hW1
  have B1 := hid b1
  obtain ⟨last, hlast⟩ : ∃ last, own.length = last + 1 := ⟨own.length - 1, by omega⟩
  have HLT := hid hlt
  have HY := hid hy
  have hz1 : W1.heap.size = W.heap.size + 1 := by rw [hW1]; simp
  have hov : x.ov.ownBlock = x.ov.ownBlock := rfl
  obtain ⟨g, cap, hovv⟩ : ∃ g cap, x.ov = .slice (some ⟨g, 0, none⟩) own.length cap := by
    rcases h.own.2 with ⟨-, q⟩ | ⟨g, cap, cur, q, -⟩
    · omega
    · exact ⟨g, cap, q⟩
  clear h hlt hrows hy hW1 b1 hov
  go_enter Tryz.func174, Tryz.ntmps174
  go_upto_region 1 with fail
  rw [← HW1.out]
  go_wp2_with fail
  refine TK.out.mono ?_
  rintro e w2 ⟨v, rfl, hv, hk, hs⟩
  have V2 := hid hv
  have K2 := hid hk
  have c1 := hk.tb.c1
  rw [hovv] at c1
  obtain ⟨g', cap', cur, e1, e2, e3, e4, e5, e6, e7⟩ := (hk.tb.own.2).resolve_left (by omega)
  obtain ⟨rfl, rfl⟩ : g = g' ∧ cap = cap' := by rw [hovv] at e1; simpa using e1
  have hn1 : ((own.length : Nat) : Int) - 1 = (last : Int) := by omega
  have hji : (j : Int) < (own.length : Int) := by omega
  have hli : (last : Int) < (own.length : Int) := by omega
  have hoi : (own.length : Int) ≤ 100 := by omega
  have hci : (own.length : Int) ≤ (cap : Int) := by omega
  have hlc : (last : Int) ≤ (cap : Int) := by omega
  have hcm : (cap : Int) ≤ 9223372036854775807 := by unfold maxLen at e5; omega
  have hyl : own[last]? = some y := by have := HY.out; rw [hlast] at this; simpa using this
  obtain ⟨p, hp⟩ := at_lt own j hj
  have zl := cells_of e7 hyl
  have zj := cells_of e7 hp
  have d0 := cell_blk e3 zl.1
  have d1 := cell_blk e3 zl.2
  have d2 := cell_blk e3 zj.1
  have d3 := cell_blk e3 zj.2
  have d4 := blk_free e3 (j * 2)
  have d5 := blk_free e3 (j * 2 + 1)
  have dc := cell_blk hk.cell (j := 0) rfl
  have hgo : x.ov.ownBlock = some g := by rw [hovv]; rfl
  have hgt := hk.tb.ne_ov hgo
  have hgl : g < W.heap.size := HLT.out _ (by rw [hk.tb.fov hgo]; simp)
  have htg : x.tb ≠ g := fun e => hgt.1 e.symm
  have hWg : W.heap.size ≠ g := by omega
  have KL := hid (keep_last (j := j) e3 zl.1 zl.2)
  have K0 : Hid (∀ q, (w2.drewN q).cell? ⟨x.tb, 1, none⟩ = some (.slice (some ⟨g, 0, none⟩) own.length cap) ∧ (w2.drewN q).cell? ⟨W.heap.size, 0, none⟩ = some (.int .i64 (j : Int)) ∧ (w2.drewN q).cell? ⟨g, last * 2, none⟩ = some (.int .i64 (y.1 : Int)) ∧ (w2.drewN q).cell? ⟨g, last * 2 + 1, none⟩ = some (.int .i64 (y.2 : Int))) := fun q =>
    ⟨At.seen (At.drewN_below w2 q) (Nat.le_refl _) c1, At.seen (At.drewN_below w2 q) (Nat.le_refl _) dc, At.seen (At.drewN_below w2 q) (Nat.le_refl _) d0, At.seen (At.drewN_below w2 q) (Nat.le_refl _) d1⟩
  have HLA := hid hlast
  have HOV := hid hovv
  have E3 := hid e3
  have E7 := hid e7
  have S2 := hid hs
  clear hv hk hs e1 e3 e7 zl zj hyl hp HY hlast hovv hgo TK
  go_wp2_with fail
  go_region_held3 (fun W' => W'.cell? ⟨x.tb, 1, none⟩ = some (.slice (some ⟨g, 0, none⟩) own.length cap) ∧ W'.cell? ⟨W.heap.size, 0, none⟩ = some (.int .i64 (j : Int)) ∧ W'.cell? ⟨g, last * 2, none⟩ = some (.int .i64 (y.1 : Int)) ∧ W'.cell? ⟨g, last * 2 + 1, none⟩ = some (.int .i64 (y.2 : Int)))
    (first | exact K0.out 0 | exact K0.out 1 | exact ⟨keep_two (K0.out 1).1 htg, keep_two (K0.out 1).2.1 hWg, KL.out.1, KL.out.2⟩) (fail)
  obtain ⟨w3, hw3⟩ : ∃ w3, w3 = ((w2.setCell ⟨g, j * 2, none⟩ (.int .i64 (y.1 : Int))).setCell ⟨g, j * 2 + 1, none⟩ (.int .i64 (y.2 : Int))).drew := ⟨_, rfl⟩
  rw [← hw3]
  have s23 : St (fun k => k = g) w2 w3 := by
    rw [hw3]
    have q := (St.setCell (S := fun k => k = g) (a := w2) (p := ⟨g, j * 2, none⟩) (.int .i64 (y.1 : Int)) rfl).trans (St.setCell (S := fun k => k = g) (p := ⟨g, j * 2 + 1, none⟩) (.int .i64 (y.2 : Int)) rfl) fun _ _ q => q
    exact ⟨q.os, q.tape, q.output, q.size, q.block⟩
  have hg3 : w3.heap[g]? = some (.cells ((cur.setIfInBounds (j * 2) (.int .i64 (y.1 : Int))).setIfInBounds (j * 2 + 1) (.int .i64 (y.2 : Int))) 144 (0, 0)) := by
    rw [hw3]
    exact heap_setCell_same _ g (j * 2 + 1) _ 144 _ (heap_setCell_same w2 g (j * 2) cur 144 _ E3.out)
  have hb3 := s23.at K2.out.tb.box htg
  have t1 : w3.cell? ⟨x.tb, 1, none⟩ = some (.slice (some ⟨g, 0, none⟩) own.length cap) := by
    have := cell_blk hb3 (j := 1) rfl
    rw [HOV.out] at this
    exact this
  have t2 := blk_free hb3 1
  have S23 := hid s23
  have G3 := hid hg3
  have X3 := hid hb3
  clear hw3 s23 hg3 hb3 K0 KL d0 d1 d2 d3 d4 d5 dc c1
  go_wp2_with fail
  obtain ⟨w4, hw4⟩ : ∃ w4, w4 = w3.setCell ⟨x.tb, 1, none⟩ (.slice (some ⟨g, 0, none⟩) last cap) := ⟨_, rfl⟩
  rw [← hw4]
  have s34 : St (fun k => k = x.tb) w3 w4 := by rw [hw4]; exact St.setCell _ rfl
  have hgo : x.ov.ownBlock = some g := by rw [HOV.out]; rfl
  have T4 := K2.out.tb
  rw [List.take_length] at T4
  have T5 := T4.rows_eq (rows' := fun c => tk (rows c) j) fun c hc => by
    unfold rowsT
    rw [if_pos ((lst_mem m c 32).2 ⟨Nat.lt_of_lt_of_le (Nat.lt_of_not_le fun q => by rw [At.bit_out (n := 16) hm q] at hc; cases hc) (by decide : 16 ≤ 32), hc⟩)]
  have s24 : St (fun k => f k = (4, n, 0)) w2 w4 := by
    refine (St.trans (S := fun k => f k = (4, n, 0)) ⟨S23.out.os, S23.out.tape, S23.out.output, S23.out.size, fun k hk hn => S23.out.block k hk fun e => hn (by rw [e]; exact T5.fov hgo)⟩ s34 fun k _ e => ?_)
    rw [e]; exact T5.ftb
  have FN := T5.ovset (ov' := .slice (some ⟨g, 0, none⟩) last cap) (own' := taken own j y) hgo.symm s24 (by
      rw [hw4]
      exact heap_setCell_same w3 x.tb 1 _ 271 _ X3.out) ((T5.map.kept S23.out (fun e => (T5.ne_ov hgo).2 e.symm)).kept s34 fun e => T5.ne e.symm) (by
      have hl : (taken own j y).length = last := by rw [taken_len]; have := HLA.out; omega
      show World.ownsRow _ _ _ _ _ _ _
      rw [hl]
      refine ⟨by rw [entCells_len, hl], .inr ⟨g, cap, _, rfl, e2, s34.at G3.out (fun e => htg e.symm), by have := HLA.out; omega, e5, by simpa using e6, ?_⟩⟩
      have := taken_cells (j := j) (y := y) E7.out
      rw [show last = own.length - 1 by have := HLA.out; omega, ← this]
      simp [Ro.gI])
  have V4 : Prts W.heap.size w4 v ((lst 32 m).map fun c => mk c ((rows c).getD j Pt.zero)) := by
    have v1 := V2.out.kept S23.out fun k hk e => by have := (V2.out.lt k hk).1; omega
    have v2 := v1.kept s34 fun k hk e => by
      have := (V2.out.lt k hk).1
      have := HLT.out x.tb (by rw [T5.ftb]; simp)
      omega
    exact v2.lower (by omega)
  have SF : St (fun k => cls n (f k)) W w4 := by
    have q := (St.of_below (S := fun k => cls n (f k)) B1.out).trans K2.out.st fun k _ q => q
    exact q.trans s24 fun k _ e => .inl e
  have VH := hid V4
  have FH := hid FN
  have SH := hid SF
  clear V4 FN SF T4 T5 s24 s34 hw4 S2 V2 K2 E3 E7 S23 G3 X3
  go_wp2_with fail
  go_ret
  exact ⟨_, rfl, VH.out, ⟨.slice (some ⟨g, 0, none⟩) last cap, hgo.symm, FH.out⟩, SH.out⟩
end Go.Proofs.YthadfdbkkmmgoaaGreatDoor.So
