/- Take. -/
import Derived.Test.YtdpoojopipcffaaDoorRb
namespace Go.Proofs.YtdpoojopipcffaaDoor
open Go.RowKit Go.Shelf Go.Maps
def four : List Nat := [1, 2, 6, 17]
/-- The sentinels that a roll tells. -/
structure Env4 (w : World) (Ad : Nat → Addr) : Prop where
  cell : ∀ k ∈ four, w.cell? ⟨gv k, 0, none⟩ = some (.iface 91 (.pointer (some (Ad k))))
  sen : ∀ k ∈ four, SenK w (Ad k)
  inj : ∀ i ∈ four, ∀ j ∈ four, Ad i = Ad j → i = j
theorem Env4.later {w w' : World} {Ad : Nat → Addr} (h : Env4 w Ad) (hb : Below w.heap.size w w') : Env4 w' Ad :=
  ⟨fun k hk => seen hb (Nat.le_refl _) (h.cell k hk), fun k hk => (h.sen k hk).below hb (h.sen k hk).lt, h.inj⟩
theorem Env4.c1 {w : World} {Ad : Nat → Addr} (h : Env4 w Ad) : w.cell? ⟨0, 0, none⟩ = some (.iface 91 (.pointer (some (Ad 1)))) := h.cell 1 (by decide)
theorem Env4.c2 {w : World} {Ad : Nat → Addr} (h : Env4 w Ad) : w.cell? ⟨1, 0, none⟩ = some (.iface 91 (.pointer (some (Ad 2)))) := h.cell 2 (by decide)
theorem Env4.c6 {w : World} {Ad : Nat → Addr} (h : Env4 w Ad) : w.cell? ⟨2, 0, none⟩ = some (.iface 91 (.pointer (some (Ad 6)))) := h.cell 6 (by decide)
theorem Env4.c17 {w : World} {Ad : Nat → Addr} (h : Env4 w Ad) : w.cell? ⟨3, 0, none⟩ = some (.iface 91 (.pointer (some (Ad 17)))) := h.cell 17 (by decide)
theorem Env.four {w : World} {Ad : Nat → Addr} (h : Env w Ad) : Env4 w Ad := by
  have R : ∀ k ∈ YtdpoojopipcffaaDoor.four, 1 ≤ k ∧ k ≤ 18 := by decide
  exact ⟨fun k hk => h.cell k (R k hk).1 (R k hk).2, fun k hk => h.sen k (R k hk).1 (R k hk).2, fun i hi j hj => h.inj i j (R i hi).1 (R i hi).2 (R j hj).1 (R j hj).2⟩
/-- A sentinel at a word. -/
def ErrAt (Ad : Nat → Addr) (W : World) (v : Value) (s : ByteArray) (k : Nat) : Prop := Chn Ad W.heap.size W 1 v ([s], k)
theorem at_err (Ad : Nat → Addr) (s : ByteArray) (k : Nat) (hk : 1 ≤ k ∧ k ≤ 18) (w : World) :
    Calls Tryd.prog 22 #[.string s, .iface 91 (.pointer (some (Ad k)))] w fun e w' => ∃ v', e = .returned v' ∧ ErrAt Ad w' v' s k ∧ Below w.heap.size w w' := at_chain Ad s 0 _ ([], k) w ⟨rfl, hk.1, hk.2, Nat.le_refl _⟩
theorem at_err_at (Ad : Nat → Addr) (s : ByteArray) (k : Nat) (hk : 1 ≤ k ∧ k ≤ 18) (w : World) :
    Calls Tryd.prog 22 #[.string s, .iface 91 (.pointer (some (Ad k)))] w fun e w' => e = .returned (.iface 66 (.pointer (some ⟨w.heap.size, 0, none⟩))) ∧ ErrAt Ad w' (.iface 66 (.pointer (some ⟨w.heap.size, 0, none⟩))) s k ∧ Below w.heap.size w w' := by
  refine (at_some s 91 (.pointer (some (Ad k))) w).mono ?_
  rintro e w' ⟨rfl, rfl⟩
  obtain ⟨c0, c1⟩ := cell_new2 w (.string s) (.iface 91 (.pointer (some (Ad k)))) 68
  exact ⟨rfl, ⟨⟨w.heap.size, _, rfl, by simp, c0, c1, rfl⟩, hk.1, hk.2, by simp⟩, (Below.refl _ _).alloc (Nat.le_refl _) _⟩
theorem ErrAt.later {Ad : Nat → Addr} {W W' : World} {v : Value} {s : ByteArray} {k : Nat} (h : ErrAt Ad W v s k) (hb : Below W.heap.size W W') : ErrAt Ad W' v s k := h.move hb hb.size
theorem ErrAt.shape {Ad : Nat → Addr} {W : World} {v : Value} {s : ByteArray} {k : Nat} (h : ErrAt Ad W v s k) : ∃ t q, v = .iface t q := by
  obtain ⟨t, q, rfl, _⟩ := h.1.shape; exact ⟨t, q, rfl⟩
def bTake : ByteArray := ⟨#[116, 97, 107, 101]⟩
def bFree : ByteArray := ⟨#[102, 114, 101, 101]⟩
def bMost : ByteArray := ⟨#[109, 111, 115, 116]⟩
theorem set_same {W : World} {b j : Nat} {cs : Array Value} {e : TypeId} {u : Value} (h : W.heap[b]? = some (.cells cs e (0, 0))) (hj : cs[j]? = some u) : W.setCell ⟨b, j, none⟩ u = W := by
  have e : (W.setCell ⟨b, j, none⟩ u).heap = W.heap := by
    apply Array.ext_getElem?
    intro k
    by_cases hk : k = b
    · subst hk
      rw [heap_setCell_same W k j cs e u h, h]
      have : cs.setIfInBounds j u = cs := by
        apply Array.ext_getElem?
        intro m
        rw [Array.getElem?_setIfInBounds]
        split
        · rename_i hm
          subst hm
          have := (Array.getElem?_eq_some_iff.1 hj).1
          rw [if_pos this, hj]
        · rfl
      rw [this]
    · exact Below.heap_setCell _ _ _ _ hk
  unfold World.setCell at e ⊢
  cases W
  simp at e ⊢
  exact e
theorem blk_free {W : World} {b : Nat} {cs : Array Value} {e : TypeId} (h : W.heap[b]? = some (.cells cs e (0, 0))) (j : Nat) : W.frozen? ⟨b, j, none⟩ = false := by
  unfold World.frozen?
  rw [show (⟨b, j, none⟩ : Addr).block = b from rfl, h]
  simp
theorem blk_seen {W W' : World} {B b : Nat} {o : Obj} (hb : Below B W W') (hB : W.heap.size ≤ B) (h : W.heap[b]? = some o) : W'.heap[b]? = some o := (hb.block b (Nat.lt_of_lt_of_le (Array.getElem?_eq_some_iff.1 h).1 hB)).trans h
set_option maxHeartbeats 800000 in
set_option maxRecDepth 100000 in
theorem take_nil (Ad : Nat → Addr) (W : World) (hE : Env4 W Ad) :
    Calls Tryd.prog 10 #[.pointer none] W fun e W' => ∃ v, e = .returned (.tuple #[.agg #[.int .i64 0, .int .i64 0], v]) ∧ ErrAt Ad W' v bTake 2 ∧ Below W.heap.size W W' := by
  have BA : Hid (Below W.heap.size W (W.alloc (.cells #[.int .i64 0, .int .i64 0] 24))) := (Below.refl _ _).alloc (Nat.le_refl _) _
  have e2 := hE.c2
  have hl := World.block_lt_of_cell? W _ e2
  have hn := World.new_ne W _ e2
  have AC := hid (at_err Ad bTake 2 (by decide) (W.alloc (.cells #[.int .i64 0, .int .i64 0] 24)))
  clear hE
  go_enter Tryd.func10, Tryd.ntmps10
  go_wp2_with fail
  refine AC.out.mono ?_
  rintro e w1 ⟨v, rfl, hv, hb⟩
  have HV := hid hv
  have HB := hid (BA.out.trans (hb.mono BA.out.size))
  have HH := hid (blk_seen hb (Nat.le_refl _) (heap_alloc_new W (.cells #[.int .i64 0, .int .i64 0] 24)))
  have d0 := cell_blk HH.out (j := 0) rfl
  have d1 := cell_blk HH.out (j := 1) rfl
  have f0 := blk_free HH.out 0
  have f1 := blk_free HH.out 1
  clear hv hb e2 hl hn AC
  go_wp2_with fail
  rw [set_same HH.out rfl, set_same HH.out rfl]
  exact bodyPost_ret (v := .tuple #[.agg #[.int .i64 0, .int .i64 0], v]) (by simp [results, Tryd.results10, go_sem, d0, d1]) rfl ⟨v, rfl, HV.out, HB.out⟩
set_option maxHeartbeats 800000 in
set_option maxRecDepth 100000 in
theorem take_full (Ad : Nat → Addr) {B : Nat} {W : World} {rb gb mb t : Nat} {fv : Value} {r : RS} (h : Rl B W rb gb mb fv t r) (hE : Env4 W Ad) (hf : r.free = []) :
    Calls Tryd.prog 10 #[.pointer (some ⟨rb, 0, none⟩)] W fun e W' => ∃ b, e = .returned (.tuple #[.agg #[.int .i64 0, .int .i64 0], .iface 66 (.pointer (some ⟨b, 0, none⟩))]) ∧ W.heap.size ≤ b ∧ ErrAt Ad W' (.iface 66 (.pointer (some ⟨b, 0, none⟩))) bTake 6 ∧ Below W.heap.size W W' := by
  have BA : Hid (Below W.heap.size W (W.alloc (.cells #[.int .i64 0, .int .i64 0] 24))) := (Below.refl _ _).alloc (Nat.le_refl _) _
  have e2 := hE.c6
  have hl := World.block_lt_of_cell? W _ e2
  have hn := World.new_ne W _ e2
  have c1 := h.c1
  have hrl := World.block_lt_of_cell? W _ c1
  have hrn := World.new_ne W _ c1
  obtain ⟨fa, fc, rfl⟩ := own_slice h.free
  have hz : (r.free.length : Int) = 0 := by rw [hf]; rfl
  rw [hf] at c1
  have AC := hid (at_err_at Ad bTake 6 (by decide) (W.alloc (.cells #[.int .i64 0, .int .i64 0] 24)))
  clear hE h hf hz
  go_enter Tryd.func10, Tryd.ntmps10
  go_wp2_with fail
  refine AC.out.mono ?_
  rintro e w1 ⟨rfl, hv, hb⟩
  generalize hq : (W.alloc (.cells #[.int .i64 0, .int .i64 0] 24)).heap.size = q at hv ⊢
  have hqW : W.heap.size ≤ q := by rw [← hq]; simp
  clear hq
  have HV := hid hv
  have HB := hid (BA.out.trans (hb.mono BA.out.size))
  have HH := hid (blk_seen hb (Nat.le_refl _) (heap_alloc_new W (.cells #[.int .i64 0, .int .i64 0] 24)))
  have d0 := cell_blk HH.out (j := 0) rfl
  have d1 := cell_blk HH.out (j := 1) rfl
  have f0 := blk_free HH.out 0
  have f1 := blk_free HH.out 1
  clear hv hb e2 hl hn AC
  go_wp2_with fail
  rw [set_same HH.out rfl, set_same HH.out rfl]
  exact bodyPost_ret (v := .tuple #[.agg #[.int .i64 0, .int .i64 0], .iface 66 (.pointer (some ⟨q, 0, none⟩))]) (by simp [results, Tryd.results10, go_sem, d0, d1]) rfl ⟨q, rfl, hqW, HV.out, HB.out⟩
theorem Rl.ne_rg {B : Nat} {W : World} {rb gb mb t : Nat} {fv : Value} {r : RS} (h : Rl B W rb gb mb fv t r) : rb ≠ gb := fun e => by
  have h1 := h.box
  rw [e, h.gens] at h1
  simp at h1
theorem Rl.ne_rm {B : Nat} {W : World} {rb gb mb t : Nat} {fv : Value} {r : RS} (h : Rl B W rb gb mb fv t r) : rb ≠ mb := fun e => by
  have h1 := h.box
  obtain ⟨D, ⟨es, cl, hb, _⟩, _⟩ := h.map
  rw [e, hb] at h1
  simp at h1
theorem Rl.ne_gm {B : Nat} {W : World} {rb gb mb t : Nat} {fv : Value} {r : RS} (h : Rl B W rb gb mb fv t r) : gb ≠ mb := fun e => by
  have h1 := h.gens
  obtain ⟨D, ⟨es, cl, hb, _⟩, _⟩ := h.map
  rw [e, hb] at h1
  simp at h1
theorem Rl.ne_f {B : Nat} {W : World} {rb gb mb t : Nat} {fv : Value} {r : RS} (h : Rl B W rb gb mb fv t r) (k : Nat) (hk : fv.ownBlock = some k) : k ≠ rb ∧ k ≠ gb ∧ k ≠ mb := by
  rcases h.free.2 with ⟨h1, _⟩ | ⟨g, cap, cur, h1, h2, h3, h4⟩
  · rw [h1] at hk; simp [Value.ownBlock] at hk
  · rw [h1] at hk
    have e : g = k := by simpa [Value.ownBlock] using hk
    subst e
    refine ⟨fun e => ?_, fun e => h.apart (by rw [h1, ← e]; rfl), fun e => ?_⟩
    · rw [e, h.box] at h3; simp at h3
    · obtain ⟨D, ⟨es, cl, hb, _⟩, _⟩ := h.map
      rw [e, hb] at h3; simp at h3
theorem own_shrink {W : World} {B fb fc : Nat} {f : List Nat} {i : Nat} (h : W.ownsRow B 3 1 (.slice (some ⟨fb, 0, none⟩) (f.length + 1) fc) (f.length + 1) ((f ++ [i]).map gI)) : W.ownsRow B 3 1 (.slice (some ⟨fb, 0, none⟩) f.length fc) f.length (f.map gI) := by
  refine ⟨by simp, ?_⟩
  rcases h.2 with ⟨h1, _⟩ | ⟨g, cap, cur, h1, h2, h3, h4, h5, h6, h7⟩
  · cases h1
  · simp only [Value.slice.injEq, Option.some.injEq, Addr.mk.injEq, true_and, and_true] at h1
    obtain ⟨rfl, rfl⟩ := h1
    refine .inr ⟨fb, fc, cur, rfl, h2, h3, by omega, h5, h6, ?_⟩
    have := congrArg (List.take f.length) h7
    rw [List.take_take] at this
    simp only [Nat.mul_one] at this ⊢
    rw [show min f.length (f.length + 1) = f.length by omega] at this
    rw [this]
    simp
theorem gens_set (gs : List Nat) (i g : Nat) : (gs.map gI).toArray.setIfInBounds i (.int .i64 ((g : Int) + 1)) = ((gs.set i (g + 1)).map gI).toArray := by
  rw [List.map_set]
  simp [gI]
theorem Rl.few {B : Nat} {W : World} {rb gb mb t : Nat} {fv : Value} {r : RS} (h : Rl B W rb gb mb fv t r) : r.free.length ≤ r.gens.length := by
  obtain ⟨D, _, hH⟩ := h.map
  have := hH.2
  omega
/-- What Take leaves. -/
theorem Rl.took {B : Nat} {W W7 : World} {rb gb mb t fb fc : Nat} {f : List Nat} {i : Nat} {r : RS} (h : Rl B W rb gb mb (.slice (some ⟨fb, 0, none⟩) r.free.length fc) t r) (hf : r.free = f ++ [i]) (ht : t ≤ 1000)
    (hs : St (fun k => k = mb) ((W.setCell ⟨rb, 1, none⟩ (.slice (some ⟨fb, 0, none⟩) f.length fc)).setCell ⟨gb, i, none⟩ (.int .i64 ((r.gens.getD i 0 : Nat) + 1 : Int))) W7)
    (D : DataW Unit) (hD1 : W.ownsMap Tryd.prog 24 (unitElem (H := Unit)) mb t D) (hH : Holds D r) (hD : W7.ownsMap Tryd.prog 24 (unitElem (H := Unit)) mb (t + 1) (D.put (kl i ((r.gens.getD i 0 + 1 : Nat) : Int)) (.agg []))) :
    Rl B W7 rb gb mb (.slice (some ⟨fb, 0, none⟩) f.length fc) (t + 1) (r.took i) ∧ St (Ft rb gb mb (.slice (some ⟨fb, 0, none⟩) r.free.length fc)) W W7 := by
  have hfl : r.free.length = f.length + 1 := by rw [hf]; simp
  have n1 := h.ne_rg
  have n2 := h.ne_rm
  have n3 := h.ne_gm
  obtain ⟨n4, n5, n6⟩ := h.ne_f fb rfl
  have hi : i < r.gens.length := h.ok.2 i (by rw [hf]; simp)
  have l1 : rb < W.heap.size := (h.lt rb (.inl rfl)).2
  have l2 : gb < W.heap.size := (h.lt gb (.inr (.inl rfl))).2
  have l3 : fb < W.heap.size := (h.lt fb (.inr (.inr (.inr rfl)))).2
  have hgt : r.gens.getD i 0 ≤ t := by rw [List.getD_eq_getElem?_getD, List.getElem?_eq_getElem hi]; exact h.old _ (List.getElem_mem hi)
  have hg1 : (r.took i).gens = r.gens.set i (r.gens.getD i 0 + 1) := rfl
  have hf1 : (r.took i).free = f := by simp [RS.took, hf]
  have B1 : (W.setCell ⟨rb, 1, none⟩ (.slice (some ⟨fb, 0, none⟩) f.length fc)).heap[rb]? = some (.cells #[.slice (some ⟨gb, 0, none⟩) r.gens.length r.gens.length, .slice (some ⟨fb, 0, none⟩) f.length fc, .map (some mb)] 56 (0, 0)) := heap_setCell_same W rb 1 _ 56 _ h.box
  have G1 : (W.setCell ⟨rb, 1, none⟩ (.slice (some ⟨fb, 0, none⟩) f.length fc)).heap[gb]? = some (.cells (r.gens.map gI).toArray 3 (0, 0)) := (Below.heap_setCell _ _ _ _ (fun e => n1 e.symm)).trans h.gens
  refine ⟨⟨?_, ?_, ?_, ?_, h.ok.took hf, ?_, ?_, h.low, ?_⟩, ?_⟩
  · rw [hs.block rb (by simpa using l1) n2, Below.heap_setCell _ _ _ _ n1, B1, hg1]; simp
  · rw [hs.block gb (by simpa using l2) n3, heap_setCell_same _ gb i _ 3 _ G1, hg1, gens_set]
  · rw [hf1]
    have h0 := h.free
    rw [hfl, hf] at h0
    refine own_later (own_shrink h0) fun k cur hk hb => ?_
    obtain rfl : fb = k := by simpa [Value.ownBlock] using hk
    rw [hs.block fb (by simpa using l3) n6, Below.heap_setCell _ _ _ _ n5, Below.heap_setCell _ _ _ _ n4, hb]
  · exact ⟨_, hD, hH.took (hD1.tidy keyed24) h.ok hf (I64_small (by omega) (by have := h.small; omega)) (I64_small (by omega) (by omega)) _⟩
  · rw [hg1, List.length_set]; exact h.small
  · intro g hg
    rw [hg1] at hg
    rcases List.mem_or_eq_of_mem_set hg with hg | rfl
    · have := h.old g hg; omega
    · omega
  · exact fun e => h.apart (by simpa [Value.ownBlock] using e)
  · have S1 : St (Ft rb gb mb (.slice (some ⟨fb, 0, none⟩) r.free.length fc)) W (W.setCell ⟨rb, 1, none⟩ (.slice (some ⟨fb, 0, none⟩) f.length fc)) := St.setCell _ (.inl rfl)
    have S2 : St (Ft rb gb mb (.slice (some ⟨fb, 0, none⟩) r.free.length fc)) (W.setCell ⟨rb, 1, none⟩ (.slice (some ⟨fb, 0, none⟩) f.length fc)) ((W.setCell ⟨rb, 1, none⟩ (.slice (some ⟨fb, 0, none⟩) f.length fc)).setCell ⟨gb, i, none⟩ (.int .i64 ((r.gens.getD i 0 : Nat) + 1 : Int))) := St.setCell _ (.inr (.inl rfl))
    exact (S1.trans S2 fun _ _ q => q).trans hs fun x _ q => .inr (.inr (.inl q))
set_option maxHeartbeats 1600000 in
set_option maxRecDepth 100000 in
theorem take_some {B : Nat} {W : World} {rb gb mb t : Nat} {fv : Value} {f : List Nat} {i : Nat} {r : RS} (h : Rl B W rb gb mb fv t r) (hf : r.free = f ++ [i]) (ht : t ≤ 1000) :
    Calls Tryd.prog 10 #[.pointer (some ⟨rb, 0, none⟩)] W fun e W' => e = .returned (.tuple #[.agg #[.int .i64 i, .int .i64 ((r.gens.getD i 0 : Nat) + 1 : Int)], .nilIface]) ∧ ∃ fv', Rl B W' rb gb mb fv' (t + 1) (r.took i) ∧ fv'.ownBlock = fv.ownBlock ∧ St (Ft rb gb mb fv) W W' := by
  have H := hid h
  have hfl : r.free.length = f.length + 1 := by rw [hf]; simp
  obtain ⟨fa, fc, rfl⟩ := own_slice h.free
  have ho := h.free
  obtain ⟨fb, rfl, hfB, hfW⟩ := own_some ho (by omega)
  have hi : i < r.gens.length := h.ok.2 i (by rw [hf]; simp)
  obtain ⟨m, hm⟩ : ∃ m, m = f.length := ⟨_, rfl⟩
  obtain ⟨g, hg⟩ : ∃ g, g = r.gens.getD i 0 := ⟨_, rfl⟩
  obtain ⟨n, hn⟩ : ∃ n, n = r.gens.length := ⟨_, rfl⟩
  have hgt : g ≤ t := by rw [hg, List.getD_eq_getElem?_getD, List.getElem?_eq_getElem hi]; exact h.old _ (List.getElem_mem hi)
  have c0 := h.c0
  have c1 := h.c1
  have c2 := h.c2
  rw [hfl, ← hm] at c1
  rw [← hn] at c0 hi
  have cf : W.cell? ⟨fb, m, none⟩ = some (.int .i64 (i : Int)) := by
    rw [ho.cellAt m (by omega), hf, hm]; simp [gI]
  have cg : W.cell? ⟨gb, i, none⟩ = some (.int .i64 (g : Int)) := by
    refine cell_blk h.gens ?_
    have : i < r.gens.length := by omega
    simp [hg, gI, this, List.getD_eq_getElem?_getD]
  have fr1 := blk_free h.box 1
  have frg := blk_free h.gens i
  have n1 := h.ne_rg
  obtain ⟨n2, n3, _⟩ := h.ne_f fb rfl
  have l1 : rb < W.heap.size := (h.lt rb (.inl rfl)).2
  have l2 : gb < W.heap.size := (h.lt gb (.inr (.inl rfl))).2
  have l3 : fb < W.heap.size := hfW
  have m1 : ¬ (rb = W.heap.size) := by omega
  have m2 : ¬ (gb = W.heap.size) := by omega
  have m3 : ¬ (fb = W.heap.size) := by omega
  have m1' : ¬ (rb = W.heap.size + 1) := by omega
  have m2' : ¬ (gb = W.heap.size + 1) := by omega
  have n1' : ¬ (gb = rb) := fun e => n1 e.symm
  have n2' : ¬ (rb = fb) := fun e => n2 e.symm
  have n3' : ¬ (gb = fb) := fun e => n3 e.symm
  have hii : (i : Int) < (n : Int) := by omega
  have hn64 : (n : Int) ≤ 64 := by have := h.small; omega
  have hm64 : (m : Int) ≤ 64 := by have := h.small; have := h.few; omega
  have hmc : (m : Int) + 1 ≤ (fc : Int) := by
    rcases ho.2 with ⟨h1, _⟩ | ⟨_, _, _, h1, _, _, h4, _⟩
    · simp at h1
    · simp at h1; omega
  have hgi : (g : Int) ≤ 1000 := by omega
  have hmz : ((m : Int) + 1 == 0) = false := by rw [beq_eq_false_iff_ne]; omega
  obtain ⟨D, hD, hH⟩ := h.map
  have ni : I64 (i : Int) := I64_small (by omega) (by omega)
  have ng : I64 ((g : Int) + 1) := I64_small (by omega) (by omega)
  obtain ⟨W5, hW5⟩ : ∃ W5, W5 = ((((W.setCell ⟨rb, 1, none⟩ (.slice (some ⟨fb, 0, none⟩) m fc)).setCell ⟨gb, i, none⟩ (.int .i64 ((g : Int) + 1))).alloc (.cells #[.int .i64 0, .int .i64 0] 24)).alloc (.cells #[.int .i64 i, .int .i64 ((g : Int) + 1)] 24)) := ⟨_, rfl⟩
  obtain ⟨W1, hW1⟩ : ∃ W1, W1 = ((W.setCell ⟨rb, 1, none⟩ (.slice (some ⟨fb, 0, none⟩) m fc)).setCell ⟨gb, i, none⟩ (.int .i64 ((g : Int) + 1))) := ⟨_, rfl⟩
  have z1 : W1.heap.size = W.heap.size := by rw [hW1]; simp
  have D1 : W1.ownsMap Tryd.prog 24 (unitElem (H := Unit)) mb t D := by rw [hW1]; exact (hD.setCell (fun e => h.ne_rm e.symm) _).setCell (fun e => h.ne_gm e.symm) _
  have hW5' : W5 = (W1.alloc (.cells #[.int .i64 0, .int .i64 0] 24)).alloc (.cells #[.int .i64 i, .int .i64 ((g : Int) + 1)] 24) := by rw [hW5, hW1]
  have b15 : Below W1.heap.size W1 W5 := by rw [hW5']; exact ((Below.refl _ _).alloc (Nat.le_refl _) _).alloc (by simp) _
  have D5 : W5.ownsMap Tryd.prog 24 (unitElem (H := Unit)) mb t D := by rw [hW5']; exact (D1.alloc _).alloc _
  obtain ⟨w6, hmu, hD6, ht6⟩ := D5.drew.store keyed24 Tryd.underlying54 (by unfold maxLen; omega) (key_ent i ((g : Int) + 1) ni ng) (unitElem_mk (H := Unit))
  unfold entV at hmu
  have z5 : W5.heap.size = W.heap.size + 2 := by rw [hW5']; simp [z1]
  have e5 : W5.heap[W.heap.size + 1]? = some (.cells #[.int .i64 i, .int .i64 ((g : Int) + 1)] 24 (0, 0)) := by
    have := heap_alloc_new (W1.alloc (.cells #[.int .i64 0, .int .i64 0] 24)) (.cells #[.int .i64 i, .int .i64 ((g : Int) + 1)] 24)
    rw [hW5', ← z1]; simpa using this
  have r5 : W5.heap[W.heap.size]? = some (.cells #[.int .i64 0, .int .i64 0] 24 (0, 0)) := by
    rw [hW5', ← z1, Below.heap_alloc _ _ _ (by simp)]; exact heap_alloc_new W1 _
  have x5 : W5.heap[rb]? = some (.cells #[.slice (some ⟨gb, 0, none⟩) n n, .slice (some ⟨fb, 0, none⟩) m fc, .map (some mb)] 56 (0, 0)) := by
    rw [b15.block rb (by omega), hW1, Below.heap_setCell _ _ _ _ n1, hn]
    exact heap_setCell_same W rb 1 _ 56 _ h.box
  have lmb : mb < W.heap.size := hD.lt
  have g6 : ∀ k, k < W5.heap.size → k ≠ mb → w6.heap[k]? = W5.heap[k]? := fun k hk hne => ht6.grown.block k (by simpa using hk) (by simpa using hne)
  have K5 : Hid (W5.drew.cell? ⟨rb, 2, none⟩ = some (.map (some mb)) ∧ W5.drew.cell? ⟨W.heap.size + 1, 0, none⟩ = some (.int .i64 i) ∧ W5.drew.cell? ⟨W.heap.size + 1, 1, none⟩ = some (.int .i64 ((g : Int) + 1))) :=
    ⟨cell_blk (W := W5) x5 rfl, cell_blk (W := W5) e5 rfl, cell_blk (W := W5) e5 rfl⟩
  have e6 := (g6 (W.heap.size + 1) (by omega) (by omega)).trans e5
  have r6 := (g6 (W.heap.size) (by omega) (by omega)).trans r5
  have x6 := (g6 rb (by omega) h.ne_rm).trans x5
  have K6 : Hid (w6.cell? ⟨rb, 2, none⟩ = some (.map (some mb)) ∧ w6.cell? ⟨W.heap.size + 1, 0, none⟩ = some (.int .i64 i) ∧ w6.cell? ⟨W.heap.size + 1, 1, none⟩ = some (.int .i64 ((g : Int) + 1))) :=
    ⟨cell_blk x6 rfl, cell_blk e6 rfl, cell_blk e6 rfl⟩
  have E6 := hid e6
  have R6 := hid r6
  have HW5 := hid hW5
  have hfin : Hid (∀ W7, W7 = (w6.setCell ⟨W.heap.size, 0, none⟩ (.int .i64 i)).setCell ⟨W.heap.size, 1, none⟩ (.int .i64 ((g : Int) + 1)) → Rl B W7 rb gb mb (.slice (some ⟨fb, 0, none⟩) f.length fc) (t + 1) (r.took i) ∧ St (Ft rb gb mb (.slice (some ⟨fb, 0, none⟩) r.free.length fc)) W W7) := by
    rintro W7 rfl
    refine h.took hf ht ?_ D hD hH ?_
    · rw [← hg, ← hm, ← hW1]
      have s1 : St (fun k => k = mb) W1 W5 := St.of_below b15
      have s2' : St (fun k => k = mb) W5.drew w6 := St.of_grown ht6.grown fun k e => by simpa using e.symm
      have s2 : St (fun k => k = mb) W5 w6 := ⟨s2'.os, s2'.tape, s2'.output, s2'.size, s2'.block⟩
      have s3 : St (fun k => k = W.heap.size) w6 ((w6.setCell ⟨W.heap.size, 0, none⟩ (.int .i64 i)).setCell ⟨W.heap.size, 1, none⟩ (.int .i64 ((g : Int) + 1))) := (St.setCell (S := fun k => k = W.heap.size) (a := w6) (p := ⟨W.heap.size, 0, none⟩) (.int .i64 i) rfl).trans (St.setCell (S := fun k => k = W.heap.size) (p := ⟨W.heap.size, 1, none⟩) (.int .i64 ((g : Int) + 1)) rfl) fun _ _ q => q
      exact (s1.trans s2 fun _ _ q => q).trans s3 fun x hx q => by omega
    · rw [← hg]
      exact (hD6.setCell (by show mb ≠ W.heap.size; omega) _).setCell (by show mb ≠ W.heap.size; omega) _
  clear hD hH D1 D5 hD6 ht6 z1 z5 e5 r5 x5 g6 e6 r6 x6 b15 lmb hW5' ni ng hW1 hW5
  have HM := hid hm
  have HG := hid hg
  have HN := hid hn
  have HF := hid hf
  have HFL := hid hfl
  clear h hf hfl ho hm hg hn
  go_enter Tryd.func10, Tryd.ntmps10
  go_wp2_with fail
  rw [← HW5.out]
  go_region_held3 (fun W' => W'.cell? ⟨rb, 2, none⟩ = some (.map (some mb)) ∧ W'.cell? ⟨W.heap.size + 1, 0, none⟩ = some (.int .i64 i) ∧ W'.cell? ⟨W.heap.size + 1, 1, none⟩ = some (.int .i64 ((g : Int) + 1))) (first | exact K5.out | exact K6.out) (fail)
  have d0 := cell_blk R6.out (j := 0) rfl
  have d1 := cell_blk R6.out (j := 1) rfl
  have f0 := blk_free R6.out 0
  have f1 := blk_free R6.out 1
  clear hmu c0 c1 c2 cf cg
  go_wp2_with fail
  refine bodyPost_ret (v := .tuple #[.agg #[.int .i64 i, .int .i64 ((g : Int) + 1)], .nilIface]) (by simp [results, Tryd.results10, go_sem, d0, d1]) rfl ⟨by rw [HG.out], _, (hfin.out _ rfl).1, rfl, (hfin.out _ rfl).2⟩
end Go.Proofs.YtdpoojopipcffaaDoor
