/- Badges: Drop. -/
import Derived.Test.YtiebbedpjogjfaaDoorBdBf
namespace Go.Proofs.YtiebbedpjogjfaaDoor.Bd
open Go.RowKit Go.Shelf Go.Maps
/-- Two cells of a block are written. -/
def put2 (W : World) (b : Nat) (i g : Int) : World := (W.setCell ⟨b, 0, none⟩ (.int .i64 i)).setCell ⟨b, 1, none⟩ (.int .i64 g)
theorem put2_blk {W : World} {b : Nat} {a c : Value} {e : TypeId} (h : W.heap[b]? = some (.cells #[a, c] e (0, 0))) (i g : Int) : (put2 W b i g).heap[b]? = some (.cells #[.int .i64 i, .int .i64 g] e (0, 0)) := by
  have h1 := heap_setCell_same W b 0 _ e (.int .i64 i) h
  have h2 := heap_setCell_same _ b 1 _ e (.int .i64 g) h1
  simpa [put2] using h2
theorem put2_st (W : World) (b : Nat) (i g : Int) : St (fun k => k = b) W (put2 W b i g) :=
  (St.setCell (S := fun k => k = b) (a := W) (p := ⟨b, 0, none⟩) (.int .i64 i) rfl).trans (St.setCell (S := fun k => k = b) (p := ⟨b, 1, none⟩) (.int .i64 g) rfl) fun _ _ q => q
theorem set_same {W : World} {b j : Nat} {cs : Array Value} {e : TypeId} {u : Value} (h : W.heap[b]? = some (.cells cs e (0, 0))) (hj : cs[j]? = some u) : W.setCell ⟨b, j, none⟩ u = W := by
  have e : (W.setCell ⟨b, j, none⟩ u).heap = W.heap := by
    apply Array.ext_getElem?
    intro k
    by_cases hk : k = b
    · subst hk
      rw [heap_setCell_same W k j cs e u h, h]
      have : cs.setIfInBounds j u = cs := by
        apply Array.ext_getElem?
        intro m
        rw [Array.getElem?_setIfInBounds]
        split
        · rename_i hm
          subst hm
          have := (Array.getElem?_eq_some_iff.1 hj).1
          rw [if_pos this, hj]
        · rfl
      rw [this]
    · exact Below.heap_setCell _ _ _ _ hk
  unfold World.setCell at e ⊢
  cases W
  simp at e ⊢
  exact e
theorem put2_same {W : World} {b : Nat} {e : TypeId} {i g : Int} (h : W.heap[b]? = some (.cells #[.int .i64 i, .int .i64 g] e (0, 0))) : put2 W b i g = W := by
  unfold put2
  rw [set_same h rfl, set_same h rfl]
section
variable {Ad : Nat → Addr} {B : Nat} {W : World} {bb ob nb : Nat} {n : Int} {l : Prs}
set_option maxHeartbeats 3200000 in
set_option maxRecDepth 100000 in
theorem drop_nil (hE : Env5 W Ad) (id : Int) :
    Calls Tryd.prog 11 #[.pointer none, .int .i64 id] W fun e W' => ∃ t q, e = .returned (.tuple #[.agg #[.int .i64 0, .int .i64 0], .iface t q]) ∧ Err Ad W' (.iface t q) 2 1 ∧ Below W.heap.size W W' := by
  obtain ⟨w1, hw1⟩ : ∃ w1, w1 = W.alloc (.cells #[.int .i64 0, .int .i64 0] 29) := ⟨_, rfl⟩
  have b1 : Below W.heap.size W w1 := by rw [hw1]; exact bAl _ _
  have r1 : w1.heap[W.heap.size]? = some (.cells #[.int .i64 0, .int .i64 0] 29 (0, 0)) := by rw [hw1]; exact heap_alloc_new W _
  have c2 := (hE.later b1).c2
  have HW1 := hid hw1
  have B1 := hid b1
  have R1 := hid r1
  have AC := hid (fun str => at_err Ad str _ 2 0 w1 (err_leaf Ad w1 2 (by decide)))
  clear hw1 b1 hE r1
  go_enter Tryd.func11, Tryd.ntmps11
  go_upto_region 1 with fail
  rw [← HW1.out]
  go_wp2_with fail
  refine (AC.out _).mono ?_
  rintro e w3 ⟨t, q, rfl, hv, hb⟩
  have r3 := blk_seen hb (Nat.le_refl _) R1.out
  have y0 : w3.cell? ⟨W.heap.size, 0, none⟩ = some (.int .i64 0) := cell_blk r3 rfl
  have y1 : w3.cell? ⟨W.heap.size, 1, none⟩ = some (.int .i64 0) := cell_blk r3 rfl
  have f0 := blk_free r3 0
  have f1 := blk_free r3 1
  have R3 := hid r3
  have B3 := hid (B1.out.trans (hb.mono B1.out.size))
  obtain ⟨w4, hw4⟩ : ∃ w4, w4 = (w3.setCell ⟨W.heap.size, 0, none⟩ (.int .i64 0)).setCell ⟨W.heap.size, 1, none⟩ (.int .i64 0) := ⟨_, rfl⟩
  have same : Hid (w4 = w3) := by
    rw [hw4]
    show put2 w3 W.heap.size 0 0 = w3
    exact put2_same r3
  have HV := hid hv
  clear hv hb c2 AC r3
  go_wp2_with fail
  rw [← hw4, same.out]
  exact bodyPost_ret (v := .tuple #[.agg #[.int .i64 0, .int .i64 0], .iface t q]) (by simp [results, Tryd.results11, go_sem, y0, y1]) rfl ⟨t, q, rfl, HV.out, B3.out⟩
set_option maxHeartbeats 3200000 in
set_option maxRecDepth 100000 in
theorem drop_none (h : Bg B W bb ob nb n l) (hE : Env5 W Ad) (id : Int) (hi : I64 id) (hn : who l id = none) :
    Calls Tryd.prog 11 #[.pointer (some ⟨bb, 0, none⟩), .int .i64 id] W fun e W' => ∃ t q, e = .returned (.tuple #[.agg #[.int .i64 0, .int .i64 0], .iface t q]) ∧ Err Ad W' (.iface t q) 7 1 ∧ Below W.heap.size W W' := by
  obtain ⟨w1, hw1⟩ : ∃ w1, w1 = W.alloc (.cells #[.int .i64 0, .int .i64 0] 29) := ⟨_, rfl⟩
  have b1 : Below W.heap.size W w1 := by rw [hw1]; exact bAl _ _
  have r1 : w1.heap[W.heap.size]? = some (.cells #[.int .i64 0, .int .i64 0] 29 (0, 0)) := by rw [hw1]; exact heap_alloc_new W _
  have h1 := h.later b1
  have c0 := h1.c0
  have lk0 := h1.m1.look und1 id hi
  rw [hn] at lk0
  have lk : (Instr.lookup 60 (.map (some ob)) (.int .i64 id) true).run Tryd.prog w1 = .ok (.tuple #[.agg #[.int .i64 0, .int .i64 0], .bool false]) w1 := lk0
  obtain ⟨w2, hw2⟩ : ∃ w2, w2 = w1.alloc (.cells #[.int .i64 0, .int .i64 0] 29) := ⟨_, rfl⟩
  have b2 : Below w1.heap.size w1 w2 := by rw [hw2]; exact bAl _ _
  have c7 := ((hE.later b1).later b2).c7
  have HW1 := hid hw1
  have HW2 := hid hw2
  have B2 := hid (b1.trans (b2.mono b1.size))
  have R2 := hid (blk_seen b2 (Nat.le_refl _) r1)
  have AC := hid (fun str => at_err Ad str _ 7 0 w2 (err_leaf Ad w2 7 (by decide)))
  clear hw1 b1 hE r1 h h1 lk0 hw2 b2 hi hn
  go_enter Tryd.func11, Tryd.ntmps11
  go_upto_region 1 with fail
  rw [← HW1.out]
  go_upto_region 4 with fail
  rw [← HW2.out]
  go_wp2_with fail
  refine (AC.out _).mono ?_
  rintro e w3 ⟨t, q, rfl, hv, hb⟩
  have r3 := blk_seen hb (Nat.le_refl _) R2.out
  have y0 : w3.cell? ⟨W.heap.size, 0, none⟩ = some (.int .i64 0) := cell_blk r3 rfl
  have y1 : w3.cell? ⟨W.heap.size, 1, none⟩ = some (.int .i64 0) := cell_blk r3 rfl
  have f0 := blk_free r3 0
  have f1 := blk_free r3 1
  have B3 := hid (B2.out.trans (hb.mono B2.out.size))
  obtain ⟨w4, hw4⟩ : ∃ w4, w4 = (w3.setCell ⟨W.heap.size, 0, none⟩ (.int .i64 0)).setCell ⟨W.heap.size, 1, none⟩ (.int .i64 0) := ⟨_, rfl⟩
  have same : Hid (w4 = w3) := by
    rw [hw4]
    exact put2_same r3
  have HV := hid hv
  clear hv hb c7 AC r3 lk c0
  go_wp2_with fail
  rw [← hw4, same.out]
  exact bodyPost_ret (v := .tuple #[.agg #[.int .i64 0, .int .i64 0], .iface t q]) (by simp [results, Tryd.results11, go_sem, y0, y1]) rfl ⟨t, q, rfl, HV.out, B3.out⟩
set_option maxHeartbeats 3200000 in
set_option maxRecDepth 100000 in
theorem drop_ok (h : Bg B W bb ob nb n l) (id i g : Int) (hi : I64 id) (hn : who l id = some (i, g)) :
    Calls Tryd.prog 11 #[.pointer (some ⟨bb, 0, none⟩), .int .i64 id] W fun e W' => e = .returned (.tuple #[.agg #[.int .i64 i, .int .i64 g], .nilIface]) ∧ Bg B W' bb ob nb n (del id l) ∧ St (fun k => Ft bb ob nb k) W W' := by
  obtain ⟨w1, hw1⟩ : ∃ w1, w1 = W.alloc (.cells #[.int .i64 0, .int .i64 0] 29) := ⟨_, rfl⟩
  have b1 : Below W.heap.size W w1 := by rw [hw1]; exact bAl _ _
  have r1 : w1.heap[W.heap.size]? = some (.cells #[.int .i64 0, .int .i64 0] 29 (0, 0)) := by rw [hw1]; exact heap_alloc_new W _
  have h1 := h.later b1
  have c0 := h1.c0
  have lk0 := h1.m1.look und1 id hi
  rw [hn] at lk0
  have lk : (Instr.lookup 60 (.map (some ob)) (.int .i64 id) true).run Tryd.prog w1 = .ok (.tuple #[.agg #[.int .i64 i, .int .i64 g], .bool true]) w1 := lk0
  obtain ⟨w2, hw2⟩ : ∃ w2, w2 = w1.alloc (.cells #[.int .i64 i, .int .i64 g] 29) := ⟨_, rfl⟩
  have b2 : Below w1.heap.size w1 w2 := by rw [hw2]; exact bAl _ _
  have q2 : w2.heap[w1.heap.size]? = some (.cells #[.int .i64 i, .int .i64 g] 29 (0, 0)) := by rw [hw2]; exact heap_alloc_new w1 _
  have r2 := blk_seen b2 (Nat.le_refl _) r1
  have h2 := h1.later b2
  have hw64 := h.ok.i64 _ ((h.ok.who id (i, g)).1 hn)
  have hs1 : w1.heap.size = W.heap.size + 1 := by rw [hw1]; simp
  have lt1 := (h.lt ob (.inr (.inl rfl))).2
  have lt2 := (h.lt nb (.inr (.inr rfl))).2
  have lt0 := (h.lt bb (.inl rfl)).2
  obtain ⟨w3, dl1, m1, t1⟩ := h2.m1.drop h.ok hn und1 hi 0
  have c02 := h2.c0
  have x3 := t1.at h2.box h.ne1
  have y3 : M2 w3 nb l := h2.m2.kept t1 fun e => h.ne e.symm
  have q3 := t1.at q2 (by omega)
  have r3 := t1.at r2 (by omega)
  have bd : Below w3.heap.size w3 w3.drew := (Below.refl _ _).drew
  obtain ⟨w4, dl2, m2, t2⟩ := (y3.kept (T := fun _ => False) (St.of_below bd) fun q => q).drop h.ok hn und2 hw64.1 hw64.2 0
  have x4 := t2.at (blk_seen bd (Nat.le_refl _) x3) h.ne2
  have q4 := t2.at (blk_seen bd (Nat.le_refl _) q3) (by omega)
  have r4 := t2.at (blk_seen bd (Nat.le_refl _) r3) (by omega)
  have g4 : Bg B w4 bb ob nb n (del id l) := ⟨x4, (m1.kept (T := fun _ => False) (St.of_below bd) fun q => q).kept t2 h.ne, m2, h.ok.del id, h.low, h.ne⟩
  have st5 := put2_st w4 W.heap.size i g
  have r5 := put2_blk r4 i g
  have G5 : Hid (Bg B (put2 w4 W.heap.size i g) bb ob nb n (del id l)) := g4.kept st5 fun k hk e => by rcases hk with rfl | rfl | rfl <;> omega
  have S5 : Hid (St (fun k => Ft bb ob nb k) W (put2 w4 W.heap.size i g)) := by
    have a1 : St (fun k => Ft bb ob nb k) W w2 := St.of_below (b1.trans (b2.mono b1.size))
    have a2 := a1.trans t1 fun x _ e => .inr (.inl e)
    have a3 := a2.trans (St.of_below (S := fun _ => False) bd) fun _ _ q => q.elim
    have a4 := a3.trans t2 fun x _ e => .inr (.inr e)
    exact a4.trans st5 fun x hx e => by omega
  have z0 : (put2 w4 W.heap.size i g).cell? ⟨W.heap.size, 0, none⟩ = some (.int .i64 i) := cell_blk r5 rfl
  have z1 : (put2 w4 W.heap.size i g).cell? ⟨W.heap.size, 1, none⟩ = some (.int .i64 g) := cell_blk r5 rfl
  obtain ⟨w5, hw5⟩ : ∃ w5, w5 = put2 w4 W.heap.size i g := ⟨_, rfl⟩
  rw [← hw5] at G5 S5 z0 z1
  unfold put2 at hw5
  have HW5 := hid hw5
  have K3 : Hid (∀ W', Below w3.heap.size w3 W' → W'.cell? ⟨bb, 1, none⟩ = some (.map (some nb)) ∧ W'.cell? ⟨w1.heap.size, 0, none⟩ = some (.int .i64 i) ∧ W'.cell? ⟨w1.heap.size, 1, none⟩ = some (.int .i64 g)) := fun W' hb => ⟨cell_blk (blk_seen hb (Nat.le_refl _) x3) rfl, cell_blk (blk_seen hb (Nat.le_refl _) q3) rfl, cell_blk (blk_seen hb (Nat.le_refl _) q3) rfl⟩
  have KB : Hid (w4.cell? ⟨bb, 1, none⟩ = some (.map (some nb)) ∧ w4.cell? ⟨w1.heap.size, 0, none⟩ = some (.int .i64 i) ∧ w4.cell? ⟨w1.heap.size, 1, none⟩ = some (.int .i64 g)) := ⟨cell_blk x4 rfl, cell_blk q4 rfl, cell_blk q4 rfl⟩
  have Q4 := hid q4
  have R4 := hid r4
  have HW1 := hid hw1
  have HW2 := hid hw2
  clear hw1 b1 r1 h h1 lk0 hw2 b2 hi hn q2 r2 h2 hw64 hs1 lt0 lt1 lt2 m1 t1 x3 y3 q3 r3 bd m2 t2 x4 q4 r4 g4 st5 r5 hw5
  go_enter Tryd.func11, Tryd.ntmps11
  go_upto_region 1 with fail
  rw [← HW1.out]
  go_upto_region 4 with fail
  rw [← HW2.out]
  go_upto_region 7 with fail
  clear lk c0 dl1 c02 HW1 HW2
  go_region_held3 (fun W' => W'.cell? ⟨bb, 1, none⟩ = some (.map (some nb)) ∧ W'.cell? ⟨w1.heap.size, 0, none⟩ = some (.int .i64 i) ∧ W'.cell? ⟨w1.heap.size, 1, none⟩ = some (.int .i64 g))
    (first | exact KB.out | exact K3.out _ (Below.refl _ _).drew | exact K3.out _ (Below.refl _ _)) (fail)
  have e0 : w4.cell? ⟨w1.heap.size, 0, none⟩ = some (.int .i64 i) := cell_blk Q4.out rfl
  have e1 : w4.cell? ⟨w1.heap.size, 1, none⟩ = some (.int .i64 g) := cell_blk Q4.out rfl
  have y0 : w4.cell? ⟨W.heap.size, 0, none⟩ = some (.int .i64 0) := cell_blk R4.out rfl
  have y1 : w4.cell? ⟨W.heap.size, 1, none⟩ = some (.int .i64 0) := cell_blk R4.out rfl
  have f0 := blk_free R4.out 0
  have f1 := blk_free R4.out 1
  clear dl2 KB K3
  go_wp2_with fail
  rw [← HW5.out]
  exact bodyPost_ret (v := .tuple #[.agg #[.int .i64 i, .int .i64 g], .nilIface]) (by simp [results, Tryd.results11, go_sem, z0, z1]) rfl ⟨rfl, G5.out, S5.out⟩
end
end Go.Proofs.YtiebbedpjogjfaaDoor.Bd
