/- AtlasExact: both atlases, apart in memory, and the call that is played beside them. -/
import Derived.Test.YtmiaepjlifceeaaDoorCd
namespace Go.Proofs.YtmiaepjlifceeaaDoor
open Go.RowKit Go.Shelf Go.Maps
/-- Both atlases. -/
structure Ex (w : World) (rb ub : Nat) (s1 s2 : AS) (S U : Nat → Prop) (wr : World) : Prop where
  col : Atl w.heap.size wr rb s1 S
  ref : Rer w.heap.size wr ub s2 U
  dis : ∀ x, S x → ¬ U x
  bel : Below w.heap.size w wr
section
variable {w : World} {rb ub : Nat} {s1 s2 : AS} {S U : Nat → Prop} {wr w' : World}
theorem Ex.later (h : Ex w rb ub s1 s2 S U wr) (hb : Below wr.heap.size wr w') : Ex w rb ub s1 s2 S U w' := ⟨h.col.later hb, h.ref.later hb, h.dis, h.bel.trans (hb.mono h.bel.size)⟩
theorem Ex.colT {s1' : AS} {S' : Nat → Prop} (h : Ex w rb ub s1 s2 S U wr) (hs : St S wr w') (hc : Atl w.heap.size w' rb s1' S') (hf : ∀ x, S' x → S x ∨ wr.heap.size ≤ x) : Ex w rb ub s1' s2 S' U w' :=
  ⟨hc, h.ref.kept hs fun k hk e => h.dis k e hk, fun x hx hu => (hf x hx).elim (fun q => h.dis x q hu) (fun q => by have := (h.ref.lt x hu).2; omega), h.bel.trans (h.col.below hs)⟩
theorem Ex.refT {s2' : AS} {U' : Nat → Prop} (h : Ex w rb ub s1 s2 S U wr) (hs : St U wr w') (hc : Rer w.heap.size w' ub s2' U') (hf : ∀ x, U' x → U x ∨ wr.heap.size ≤ x) : Ex w rb ub s1 s2' S U' w' :=
  ⟨h.col.kept hs fun k hk e => h.dis k hk e, hc, fun x hx hu => (hf x hu).elim (fun q => h.dis x hx q) (fun q => by have := (h.col.lt x hx).2; omega), h.bel.trans (h.ref.below hs)⟩
end
/-- A call of the statement. -/
structure ActI where
  kind : Int
  m : Nat
  w : Nat
  node : Int
  n : Int
def ActI.wf (x : ActI) : Prop := x.m < 4294967296 ∧ x.w < 4294967296
def ActI.arr (x : ActI) : Array Value := #[.int .i64 x.kind, .int .u32 (x.m : Int), .int .u32 (x.w : Int), .int .i64 x.node, .int .i64 x.n]
/-- Both atlases, and the call that is played in a block of its own. -/
structure Rd (w : World) (rb ub : Nat) (s1 s2 : AS) (S U : Nat → Prop) (bx : Nat) (x : ActI) (wr : World) : Prop where
  ex : Ex w rb ub s1 s2 S U wr
  hx : wr.heap[bx]? = some (.cells x.arr 35 (0, 0))
  nx : ¬ S bx ∧ ¬ U bx
theorem out_new {wr : World} {S S' : Nat → Prop} {k : Nat} {o : Obj} (hk : wr.heap[k]? = some o) (hn : ¬ S k) (hf : ∀ x, S' x → S x ∨ wr.heap.size ≤ x) : ¬ S' k := fun e => by
  rcases hf k e with q | q
  · exact hn q
  · have := (Array.getElem?_eq_some_iff.1 hk).1; omega
section
variable {w : World} {rb ub : Nat} {s1 s2 : AS} {S U : Nat → Prop} {bx : Nat} {x : ActI} {wr w' : World}
theorem Rd.later (h : Rd w rb ub s1 s2 S U bx x wr) (hb : Below wr.heap.size wr w') : Rd w rb ub s1 s2 S U bx x w' := ⟨h.ex.later hb, blk_seen hb (Nat.le_refl _) h.hx, h.nx⟩
theorem Rd.colT {s1' : AS} (h : Rd w rb ub s1 s2 S U bx x wr) (hg : Goes w.heap.size rb s1' S wr w') : ∃ S', Rd w rb ub s1' s2 S' U bx x w' := by
  obtain ⟨S', a, st, f⟩ := hg
  exact ⟨S', h.ex.colT st a f, st.at h.hx h.nx.1, out_new h.hx h.nx.1 f, h.nx.2⟩
theorem Rd.refT {s2' : AS} (h : Rd w rb ub s1 s2 S U bx x wr) (hg : Rgo w.heap.size ub s2' U wr w') : ∃ U', Rd w rb ub s1 s2' S U' bx x w' := by
  obtain ⟨U', a, st, f⟩ := hg
  exact ⟨U', h.ex.refT st a f, st.at h.hx h.nx.2, h.nx.1, out_new h.hx h.nx.2 f⟩
theorem Ex.round (h : Ex w rb ub s1 s2 S U wr) (x : ActI) : Rd w rb ub s1 s2 S U wr.heap.size x (wr.alloc (.cells x.arr 35)) :=
  ⟨h.later (bAl _ _), heap_alloc_new wr _, fun e => by have := (h.col.lt _ e).2; omega, fun e => by have := (h.ref.lt _ e).2; omega⟩
end
/-- The cells of the call that is played. -/
structure Told (W : World) (b : Nat) (x : ActI) : Prop where
  c0 : W.cell? ⟨b, 0, none⟩ = some (.int .i64 x.kind)
  c1 : W.cell? ⟨b, 1, none⟩ = some (.int .u32 (x.m : Int))
  c2 : W.cell? ⟨b, 2, none⟩ = some (.int .u32 (x.w : Int))
  c3 : W.cell? ⟨b, 3, none⟩ = some (.int .i64 x.node)
  c4 : W.cell? ⟨b, 4, none⟩ = some (.int .i64 x.n)
theorem told {W : World} {b : Nat} {x : ActI} (h : W.heap[b]? = some (.cells x.arr 35 (0, 0))) : Told W b x :=
  ⟨cell_blk h rfl, cell_blk h rfl, cell_blk h rfl, cell_blk h rfl, cell_blk h rfl⟩
theorem CPost.pre {Ad : Nat → Addr} {B rb : Nat} {s' : AS} {S : Nat → Prop} {W W1 : World} {n g : Nat} {e : Ending} {W' : World} (hb : Below W.heap.size W W1) (h : CPost Ad B rb s' S W1 n g e W') : CPost Ad B rb s' S W n g e W' := by
  obtain ⟨fv, he, hf, S', a, st, f⟩ := h
  exact ⟨fv, he, hf, S', a, (St.of_below (S := S) hb).trans st fun _ _ q => q, fun x hx => (f x hx).elim .inl fun q => .inr (Nat.le_trans hb.size q)⟩
set_option maxHeartbeats 800000 in
set_option maxRecDepth 100000 in
theorem turn_any {Ad : Nat → Addr} {B rb : Nat} {s' : AS} {S : Nat → Prop} {W : World} {n g : Nat} (x : ActI) (b : Bool) (hb : (x.kind == 2) = b)
    (h : ∀ W1, Below W.heap.size W W1 → Calls Tryd.prog (if b then 24 else 25) #[.pointer (some ⟨rb, 0, none⟩), .int .i64 x.node, .int .i64 x.n] W1 (CPost Ad B rb s' S W1 n g)) :
    Calls Tryd.prog 15 #[.pointer (some ⟨rb, 0, none⟩), .agg #[.int .i64 x.kind, .int .u32 (x.m : Int), .int .u32 (x.w : Int), .int .i64 x.node, .int .i64 x.n]] W (CPost Ad B rb s' S W n g) := by
  have B1 := hid (bAl W (.cells #[.int .i64 x.kind, .int .u32 (x.m : Int), .int .u32 (x.w : Int), .int .i64 x.node, .int .i64 x.n] 35))
  have C := hid (h _ B1.out)
  clear h
  cases b with
  | true =>
    simp only [if_true] at C
    go_enter Tryd.func15, Tryd.ntmps15
    go_wp2_with fail
    refine C.out.mono ?_
    intro e w1 hp
    obtain ⟨fv, rfl, -⟩ := id hp
    have HP := hid (hp.pre B1.out)
    clear C hp
    go_wp2_with fail
    go_ret2
    exact HP.out
  | false =>
    simp only [Bool.false_eq_true, if_false] at C
    go_enter Tryd.func15, Tryd.ntmps15
    go_wp2_with fail
    refine C.out.mono ?_
    intro e w1 hp
    obtain ⟨fv, rfl, -⟩ := id hp
    have HP := hid (hp.pre B1.out)
    clear C hp
    go_wp2_with fail
    go_ret2
    exact HP.out
set_option maxHeartbeats 1600000 in
set_option maxRecDepth 100000 in
theorem exact_out (w : World) (Ad : Nat → Addr) (hE : Env w Ad) (c : Int) (v : Value) (hb : c < 0 ∨ 16 < c) :
    Calls Tryd.prog 3 #[.int .i64 c, v] w fun e w' => e = .returned (.bool true) ∧ Below w.heap.size w w' := by
  have AW := hid (awake_any w Ad hE.three)
  have E0 := hid hE
  have RB := hid (fun W => rnew_bad W c hb)
  have NB := hid (fun W h => new_bad Ad W h c hb)
  clear hE hb
  go_enter Tryd.func3, Tryd.ntmps3
  go_wp2_with fail
  refine AW.out.mono ?_
  rintro e w1 ⟨rfl, b1⟩
  have E1 := hid (E0.out.later b1)
  have B1 := hid b1
  have NC := hid (NB.out w1 E1.out.three)
  clear AW b1
  go_wp2_with fail
  refine NC.out.mono ?_
  rintro e w2 ⟨t, q, rfl, h2, b2⟩
  have B2 := hid (B1.out.trans (b2.mono B1.out.size))
  have E2 := hid (E1.out.later b2)
  have IS := hid (is_err Ad (k := 1) E2.out.three h2 (by decide) (by decide))
  have e1 := E2.out.three.c1
  clear NC b2 h2
  go_wp2_with fail
  refine (RB.out _).mono ?_
  rintro e w3 ⟨rfl, rfl⟩
  go_wp2_with fail
  refine IS.out.mono ?_
  rintro e w4 ⟨rfl, b4⟩
  have B4 := hid (B2.out.trans (b4.mono B2.out.size))
  clear IS b4 e1
  go_wp2_with fail
  go_ret
  exact ⟨rfl, B4.out⟩
/-- The five cells of a call. -/
def Five (W : World) (b o : Nat) (x : ActI) : Prop := ∀ i, i < 5 → W.cell? ⟨b, o + i, none⟩ = x.arr[i]?
theorem Five.later {W W' : World} {b o : Nat} {x : ActI} (h : Five W b o x) (hb : Below W.heap.size W W') : Five W' b o x := fun i hi => by
  have h1 := h i hi
  obtain ⟨u, hu⟩ : ∃ u, x.arr[i]? = some u := ⟨x.arr[i]'(by simp [ActI.arr]; omega), Array.getElem?_eq_getElem _⟩
  rw [hu] at h1 ⊢
  exact seen hb (Nat.le_refl _) h1
def ActRow (W : World) (v : Value) (cl : List ActI) : Prop := ∃ a c, v = .slice a cl.length c ∧ (∀ x ∈ cl, x.wf) ∧ (cl = [] ∨ ∃ b o, a = some ⟨b, o, none⟩ ∧ ∀ (j : Nat) x, cl[j]? = some x → Five W b (o + j * 5) x)
/-- What the last arm asks of both atlases. -/
structure Asks (rb ub a b : Nat) (l : List Nat) (wx : World) : Prop where
  c20 : ∀ W', Below wx.heap.size wx W' → Calls Tryd.prog 20 #[.pointer (some ⟨rb, 0, none⟩), .int .u32 (a : Int), .int .u32 (b : Int)] W' fun e w' => ∃ v, e = .returned v ∧ Ints W'.heap.size w' v l ∧ Below wx.heap.size wx w'
  c21 : ∀ W', Below wx.heap.size wx W' → Calls Tryd.prog 21 #[.pointer (some ⟨ub, 0, none⟩), .int .u32 (a : Int), .int .u32 (b : Int)] W' fun e w' => ∃ v, e = .returned v ∧ Ints W'.heap.size w' v l ∧ Below W'.heap.size W' w' ∧ Below wx.heap.size wx w'
  c19 : ∀ W' B B' v u, Below wx.heap.size wx W' → Ints B W' v l → Ints B' W' u l → Calls Tryd.prog 19 #[v, u] W' fun e w' => e = .returned (.bool true) ∧ Below wx.heap.size wx w'
theorem asks {w wx : World} {rb ub a b : Nat} {s : AS} {S U : Nat → Prop} (hX : Ex w rb ub s s S U wx) (ha : a < 4294967296) (hb : b < 4294967296) : ∃ l, Asks rb ub a b l wx := by
  have hl : (mtc s.l a b s.l.length).length ≤ 100000 := by have := mtc_len s.l a b s.l.length; have := hX.col.ok.small; omega
  refine ⟨mtc s.l a b s.l.length, fun W' hq => ?_, fun W' hq => ?_, fun W' B B' v u hq h1 h2 => ?_⟩
  · refine (match_any (hX.col.later hq) a b ha hb).mono ?_
    rintro e w' ⟨v, h1, h2, h3⟩
    exact ⟨v, h1, h2, hq.trans (h3.mono hq.size)⟩
  · refine (rmatch_any (hX.ref.later hq) a b ha hb).mono ?_
    rintro e w' ⟨v, h1, h2, h3⟩
    exact ⟨v, h1, h2, h3, hq.trans (h3.mono hq.size)⟩
  · refine (same_any h1 h2 hl).mono ?_
    rintro e w' ⟨h1, h2⟩
    exact ⟨h1, hq.trans (h2.mono hq.size)⟩
end Go.Proofs.YtmiaepjlifceeaaDoor
