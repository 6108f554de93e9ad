/- Badges: unowned, join, Give. -/
import Derived.Test.YtiebbedpjogjfaaDoorBdBd
namespace Go.Proofs.YtiebbedpjogjfaaDoor.Bd
open Go.RowKit Go.Shelf Go.Maps
section
variable {Ad : Nat → Addr} {B : Nat} {W : World} {bb ob nb : Nat} {n : Int} {l : Prs}
set_option maxHeartbeats 1600000 in
set_option maxRecDepth 100000 in
theorem uno_none (h : Bg B W bb ob nb n l) (id : Int) (hi : I64 id) (hn : who l id = none) :
    Calls Tryd.prog 31 #[.pointer (some ⟨bb, 0, none⟩), .int .i64 id] W fun e W' => e = .returned .nilIface ∧ Below W.heap.size W W' := by
  have c0 := h.c0
  have lk0 := h.m1.look und1 id hi
  rw [hn] at lk0
  have lk : (Instr.lookup 60 (.map (some ob)) (.int .i64 id) true).run Tryd.prog W = .ok (.tuple #[.agg #[.int .i64 0, .int .i64 0], .bool false]) W := lk0
  clear lk0
  have B1 := hid (bAl W (.cells #[.int .i64 0, .int .i64 0] 29))
  clear h hi hn
  go_enter Tryd.func31, Tryd.ntmps31
  go_wp2_with fail
  go_ret
  exact ⟨rfl, B1.out⟩
set_option maxHeartbeats 1600000 in
set_option maxRecDepth 100000 in
theorem uno_some (h : Bg B W bb ob nb n l) (hE : Env5 W Ad) (id : Int) (hi : I64 id) {x : Int × Int} (hn : who l id = some x) :
    Calls Tryd.prog 31 #[.pointer (some ⟨bb, 0, none⟩), .int .i64 id] W fun e W' => ∃ t q, e = .returned (.iface t q) ∧ Err Ad W' (.iface t q) 9 1 ∧ Below W.heap.size W W' := by
  have c0 := h.c0
  have lk0 := h.m1.look und1 id hi
  rw [hn] at lk0
  obtain ⟨a, b⟩ := x
  have lk : (Instr.lookup 60 (.map (some ob)) (.int .i64 id) true).run Tryd.prog W = .ok (.tuple #[.agg #[.int .i64 a, .int .i64 b], .bool true]) W := lk0
  clear lk0
  obtain ⟨w1, hw1⟩ : ∃ w1, w1 = W.alloc (.cells #[.int .i64 a, .int .i64 b] 29) := ⟨_, rfl⟩
  have b1 : Below W.heap.size W w1 := by rw [hw1]; exact bAl _ _
  have c9 := (hE.later b1).c9
  have HW1 := hid hw1
  have B1 := hid b1
  have AC := hid (fun str => at_err Ad str _ 9 0 w1 (err_leaf Ad w1 9 (by decide)))
  clear h hi hn hw1 b1 hE
  go_enter Tryd.func31, Tryd.ntmps31
  go_upto_region 2 with fail
  rw [← HW1.out]
  go_wp2_with fail
  refine (AC.out _).mono ?_
  rintro e w3 ⟨t, q, rfl, hv, hb⟩
  have HV := hid hv
  have B3 := hid (B1.out.trans (hb.mono B1.out.size))
  clear hv hb c9 AC lk c0
  go_wp2_with fail
  go_ret
  exact ⟨t, q, rfl, HV.out, B3.out⟩
set_option maxHeartbeats 3200000 in
set_option maxRecDepth 100000 in
theorem join_ok {m : Int} (h : Bg B W bb ob nb m l) (hok0 : okP n l) (id i g : Int) (hid' : I64 id) (hi : I64 i) (hg : I64 g) (hok : okP m (ins (id, i, g) l)) (h1 : who l id = none) (h2 : num l (i, g) = none) :
    Calls Tryd.prog 28 #[.pointer (some ⟨bb, 0, none⟩), .int .i64 id, .agg #[.int .i64 i, .int .i64 g]] W fun e W' => e = .returned (.tuple #[]) ∧ Bg B W' bb ob nb m (ins (id, i, g) l) ∧ St (fun k => Ft bb ob nb k) W W' := by
  obtain ⟨w1, hw1⟩ : ∃ w1, w1 = W.alloc (.cells #[.int .i64 i, .int .i64 g] 29) := ⟨_, rfl⟩
  have b1 : Below W.heap.size W w1 := by rw [hw1]; exact bAl _ _
  have r1 : w1.heap[W.heap.size]? = some (.cells #[.int .i64 i, .int .i64 g] 29 (0, 0)) := by rw [hw1]; exact heap_alloc_new W _
  have hb1 := h.later b1
  have bd1 : Below w1.heap.size w1 w1.drew := (Below.refl _ _).drew
  obtain ⟨w2, s1, m1, t1⟩ := (hb1.later bd1).m1.store hok0 hok h1 und1 hid'
  have hn1 : ¬ W.heap.size = ob := by have := (h.lt ob (.inr (.inl rfl))).2; omega
  have hn2 : ¬ W.heap.size = nb := by have := (h.lt nb (.inr (.inr rfl))).2; omega
  have r2 : w2.heap[W.heap.size]? = some (.cells #[.int .i64 i, .int .i64 g] 29 (0, 0)) := t1.at (blk_seen bd1 (Nat.le_refl _) r1) hn1
  have x2 : w2.heap[bb]? = some (.cells #[.map (some ob), .map (some nb), .int .i64 m] 63 (0, 0)) := t1.at (hb1.later bd1).box h.ne1
  have y2 : M2 w2 nb l := (hb1.later bd1).m2.kept t1 fun e => h.ne e.symm
  have bd2 : Below w2.heap.size w2 w2.drew := (Below.refl _ _).drew
  obtain ⟨w3, s2, m2, t2⟩ := (y2.kept (T := fun _ => False) (St.of_below bd2) fun q => q).store hok0 hok h2 und2 hid' hi hg
  have G : Hid (Bg B w3 bb ob nb m (ins (id, i, g) l)) := ⟨t2.at (blk_seen bd2 (Nat.le_refl _) x2) h.ne2, (m1.kept (T := fun _ => False) (St.of_below bd2) fun q => q).kept t2 h.ne, m2, hok, h.low, h.ne⟩
  have S1 : Hid (St (fun k => Ft bb ob nb k) W w3) := by
    have a1 : St (fun k => Ft bb ob nb k) W w1.drew := St.of_below (b1.trans (bd1.mono b1.size))
    have a2 := a1.trans t1 fun x _ e => .inr (.inl e)
    have a3 := a2.trans (St.of_below (S := fun _ => False) bd2) fun _ _ q => q.elim
    exact a3.trans t2 fun x _ e => .inr (.inr e)
  have c0 : w1.cell? ⟨bb, 0, none⟩ = some (.map (some ob)) := hb1.c0
  have d0 : w1.cell? ⟨W.heap.size, 0, none⟩ = some (.int .i64 i) := cell_blk r1 rfl
  have d1 : w1.cell? ⟨W.heap.size, 1, none⟩ = some (.int .i64 g) := cell_blk r1 rfl
  have c1 : w2.cell? ⟨bb, 1, none⟩ = some (.map (some nb)) := cell_blk x2 rfl
  have f0 : w2.cell? ⟨W.heap.size, 0, none⟩ = some (.int .i64 i) := cell_blk r2 rfl
  have f1 : w2.cell? ⟨W.heap.size, 1, none⟩ = some (.int .i64 g) := cell_blk r2 rfl
  have K1 : Hid (∀ W', Below w1.heap.size w1 W' → W'.cell? ⟨bb, 0, none⟩ = some (.map (some ob)) ∧ W'.cell? ⟨W.heap.size, 0, none⟩ = some (.int .i64 i) ∧ W'.cell? ⟨W.heap.size, 1, none⟩ = some (.int .i64 g)) := fun W' hb => ⟨seen hb (Nat.le_refl _) c0, seen hb (Nat.le_refl _) d0, seen hb (Nat.le_refl _) d1⟩
  have K2 : Hid (∀ W', Below w2.heap.size w2 W' → W'.cell? ⟨bb, 1, none⟩ = some (.map (some nb)) ∧ W'.cell? ⟨W.heap.size, 0, none⟩ = some (.int .i64 i) ∧ W'.cell? ⟨W.heap.size, 1, none⟩ = some (.int .i64 g)) := fun W' hb => ⟨seen hb (Nat.le_refl _) c1, seen hb (Nat.le_refl _) f0, seen hb (Nat.le_refl _) f1⟩
  have KA : Hid (w2.cell? ⟨bb, 0, none⟩ = some (.map (some ob)) ∧ w2.cell? ⟨W.heap.size, 0, none⟩ = some (.int .i64 i) ∧ w2.cell? ⟨W.heap.size, 1, none⟩ = some (.int .i64 g)) := ⟨cell_blk x2 rfl, f0, f1⟩
  have KB : Hid (w3.cell? ⟨bb, 1, none⟩ = some (.map (some nb)) ∧ w3.cell? ⟨W.heap.size, 0, none⟩ = some (.int .i64 i) ∧ w3.cell? ⟨W.heap.size, 1, none⟩ = some (.int .i64 g)) := by
    have q := t2.at (blk_seen bd2 (Nat.le_refl _) r2) hn2
    exact ⟨cell_blk G.out.box rfl, cell_blk q rfl, cell_blk q rfl⟩
  have HW1 := hid hw1
  clear h hi hg hok h1 h2 hw1 b1 r1 hb1 bd1 m1 t1 hn1 hn2 r2 x2 y2 bd2 m2 t2 hid' c0 c1 d0 d1 f0 f1 hok0
  go_enter Tryd.func28, Tryd.ntmps28
  go_upto_region 1 with fail
  rw [← HW1.out]
  go_region_held3 (fun W' => W'.cell? ⟨bb, 0, none⟩ = some (.map (some ob)) ∧ W'.cell? ⟨W.heap.size, 0, none⟩ = some (.int .i64 i) ∧ W'.cell? ⟨W.heap.size, 1, none⟩ = some (.int .i64 g))
    (first | exact KA.out | exact K1.out _ (Below.refl _ _).drew | exact K1.out _ (Below.refl _ _)) (fail)
  clear s1 K1 KA HW1
  go_upto_region 2 with fail
  go_region_held3 (fun W' => W'.cell? ⟨bb, 1, none⟩ = some (.map (some nb)) ∧ W'.cell? ⟨W.heap.size, 0, none⟩ = some (.int .i64 i) ∧ W'.cell? ⟨W.heap.size, 1, none⟩ = some (.int .i64 g))
    (first | exact KB.out | exact K2.out _ (Below.refl _ _).drew | exact K2.out _ (Below.refl _ _)) (fail)
  clear s2 K2 KB
  go_wp2_with fail
  go_end0
  exact ⟨rfl, G.out, S1.out⟩
end
end Go.Proofs.YtiebbedpjogjfaaDoor.Bd
