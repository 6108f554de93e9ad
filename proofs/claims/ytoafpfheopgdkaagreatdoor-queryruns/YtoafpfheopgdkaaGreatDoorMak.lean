/- Texts in one. -/
import Derived.Shelf.SlGeneric
import Derived.Shelf.SortM.Plain
import Derived.Shelf.SortM.SortNone
import Derived.Ground.SlgmProg
import Derived.Test.YtoafpfheopgdkaaGreatDoorProg
import Derived.Lib.SlKeysI
import Derived.Maps.OwnSet
import Derived.Shelf.Abstract
import Derived.Deep.LoopGhost
import Derived.Deep.DeepCutAuto
import Derived.Deep.CutRange
import Derived.Test.YtoafpfheopgdkaaGreatDoorMaj
namespace Go.Proofs.YtoafpfheopgdkaaGreatDoor.Bd
open Go.RowKit Go.Shelf Go.Maps
section
variable {Ad : Nat → Addr} {B : Nat} {W : World} {bb ob nb : Nat} {n : Int} {l : Prs}
set_option maxHeartbeats 1600000 in
set_option maxRecDepth 100000 in
theorem uno_none (h : Bg B W bb ob nb n l) (id : Int) (hi : I64 id) (hn : who l id = none) :
    Calls Tryz.prog 39 #[.pointer (some ⟨bb, 0, none⟩), .int .i64 id] W fun e W' => e = .returned .nilIface ∧ Below W.heap.size W W' := by
  have c0 := h.c0
  have lk0 := h.m1.look und1 id hi
  rw [hn] at lk0
  have lk : (Instr.lookup 97 (.map (some ob)) (.int .i64 id) true).run Tryz.prog W = .ok (.tuple #[.agg #[.int .i64 0, .int .i64 0], .bool false]) W := lk0
  clear lk0
  have B1 := hid (bAl W (.cells #[.int .i64 0, .int .i64 0] 58))
  clear h hi hn
  go_enter Tryz.func39, Tryz.ntmps39
  go_wp2_with fail
  go_ret
  exact ⟨rfl, B1.out⟩
set_option maxHeartbeats 1600000 in
set_option maxRecDepth 100000 in
theorem uno_some (h : Bg B W bb ob nb n l) (hE : Env5 W Ad) (id : Int) (hi : I64 id) {x : Int × Int} (hn : who l id = some x) :
    Calls Tryz.prog 39 #[.pointer (some ⟨bb, 0, none⟩), .int .i64 id] W fun e W' => ∃ t q, e = .returned (.iface t q) ∧ Err Ad W' (.iface t q) 9 1 ∧ Below W.heap.size W W' := by
  have c0 := h.c0
  have lk0 := h.m1.look und1 id hi
  rw [hn] at lk0
  obtain ⟨a, b⟩ := x
  have lk : (Instr.lookup 97 (.map (some ob)) (.int .i64 id) true).run Tryz.prog W = .ok (.tuple #[.agg #[.int .i64 a, .int .i64 b], .bool true]) W := lk0
  clear lk0
  obtain ⟨w1, hw1⟩ : ∃ w1, w1 = W.alloc (.cells #[.int .i64 a, .int .i64 b] 58) := ⟨_, rfl⟩
  have b1 : Below W.heap.size W w1 := by rw [hw1]; exact bAl _ _
  have c9 := (hE.later b1).c9
  have HW1 := hid hw1
  have B1 := hid b1
  have AC := hid (fun str => at_err Ad str _ 9 0 w1 (err_leaf Ad w1 9 (by decide)))
  clear h hi hn hw1 b1 hE
  go_enter Tryz.func39, Tryz.ntmps39
  go_upto_region 2 with fail
  rw [← HW1.out]
  go_wp2_with fail
  refine (AC.out _).mono ?_
  rintro e w3 ⟨t, q, rfl, hv, hb⟩
  have HV := hid hv
  have B3 := hid (B1.out.trans (hb.mono B1.out.size))
  clear hv hb c9 AC lk c0
  go_wp2_with fail
  go_ret
  exact ⟨t, q, rfl, HV.out, B3.out⟩
set_option maxHeartbeats 3200000 in
set_option maxRecDepth 100000 in
theorem join_ok {m : Int} (h : Bg B W bb ob nb m l) (hok0 : okP n l) (id i g : Int) (hid' : I64 id) (hi : I64 i) (hg : I64 g) (hok : okP m (ins (id, i, g) l)) (h1 : who l id = none) (h2 : num l (i, g) = none) :
    Calls Tryz.prog 41 #[.pointer (some ⟨bb, 0, none⟩), .int .i64 id, .agg #[.int .i64 i, .int .i64 g]] W fun e W' => e = .returned (.tuple #[]) ∧ Bg B W' bb ob nb m (ins (id, i, g) l) ∧ St (fun k => Ft bb ob nb k) W W' := by
  obtain ⟨w1, hw1⟩ : ∃ w1, w1 = W.alloc (.cells #[.int .i64 i, .int .i64 g] 58) := ⟨_, rfl⟩
  have b1 : Below W.heap.size W w1 := by rw [hw1]; exact bAl _ _
  have r1 : w1.heap[W.heap.size]? = some (.cells #[.int .i64 i, .int .i64 g] 58 (0, 0)) := by rw [hw1]; exact heap_alloc_new W _
  have hb1 := h.later b1
  have bd1 : Below w1.heap.size w1 w1.drew := (Below.refl _ _).drew
  obtain ⟨w2, s1, m1, t1⟩ := (hb1.later bd1).m1.store hok0 hok h1 und1 hid'
  have hn1 : ¬ W.heap.size = ob := by have := (h.lt ob (.inr (.inl rfl))).2; omega
  have hn2 : ¬ W.heap.size = nb := by have := (h.lt nb (.inr (.inr rfl))).2; omega
  have r2 : w2.heap[W.heap.size]? = some (.cells #[.int .i64 i, .int .i64 g] 58 (0, 0)) := t1.at (blk_seen bd1 (Nat.le_refl _) r1) hn1
  have x2 : w2.heap[bb]? = some (.cells #[.map (some ob), .map (some nb), .int .i64 m] 100 (0, 0)) := t1.at (hb1.later bd1).box h.ne1
  have y2 : M2 w2 nb l := (hb1.later bd1).m2.kept t1 fun e => h.ne e.symm
  have bd2 : Below w2.heap.size w2 w2.drew := (Below.refl _ _).drew
  obtain ⟨w3, s2, m2, t2⟩ := (y2.kept (T := fun _ => False) (St.of_below bd2) fun q => q).store hok0 hok h2 und2 hid' hi hg
  have G : Hid (Bg B w3 bb ob nb m (ins (id, i, g) l)) := ⟨t2.at (blk_seen bd2 (Nat.le_refl _) x2) h.ne2, (m1.kept (T := fun _ => False) (St.of_below bd2) fun q => q).kept t2 h.ne, m2, hok, h.low, h.ne⟩
  have S1 : Hid (St (fun k => Ft bb ob nb k) W w3) := by
    have a1 : St (fun k => Ft bb ob nb k) W w1.drew := St.of_below (b1.trans (bd1.mono b1.size))
    have a2 := a1.trans t1 fun x _ e => .inr (.inl e)
    have a3 := a2.trans (St.of_below (S := fun _ => False) bd2) fun _ _ q => q.elim
    exact a3.trans t2 fun x _ e => .inr (.inr e)
  have c0 : w1.cell? ⟨bb, 0, none⟩ = some (.map (some ob)) := hb1.c0
  have d0 : w1.cell? ⟨W.heap.size, 0, none⟩ = some (.int .i64 i) := cell_blk r1 rfl
  have d1 : w1.cell? ⟨W.heap.size, 1, none⟩ = some (.int .i64 g) := cell_blk r1 rfl
  have c1 : w2.cell? ⟨bb, 1, none⟩ = some (.map (some nb)) := cell_blk x2 rfl
  have f0 : w2.cell? ⟨W.heap.size, 0, none⟩ = some (.int .i64 i) := cell_blk r2 rfl
  have f1 : w2.cell? ⟨W.heap.size, 1, none⟩ = some (.int .i64 g) := cell_blk r2 rfl
  have K1 : Hid (∀ W', Below w1.heap.size w1 W' → W'.cell? ⟨bb, 0, none⟩ = some (.map (some ob)) ∧ W'.cell? ⟨W.heap.size, 0, none⟩ = some (.int .i64 i) ∧ W'.cell? ⟨W.heap.size, 1, none⟩ = some (.int .i64 g)) := fun W' hb => ⟨seen hb (Nat.le_refl _) c0, seen hb (Nat.le_refl _) d0, seen hb (Nat.le_refl _) d1⟩
  have K2 : Hid (∀ W', Below w2.heap.size w2 W' → W'.cell? ⟨bb, 1, none⟩ = some (.map (some nb)) ∧ W'.cell? ⟨W.heap.size, 0, none⟩ = some (.int .i64 i) ∧ W'.cell? ⟨W.heap.size, 1, none⟩ = some (.int .i64 g)) := fun W' hb => ⟨seen hb (Nat.le_refl _) c1, seen hb (Nat.le_refl _) f0, seen hb (Nat.le_refl _) f1⟩
  have KA : Hid (w2.cell? ⟨bb, 0, none⟩ = some (.map (some ob)) ∧ w2.cell? ⟨W.heap.size, 0, none⟩ = some (.int .i64 i) ∧ w2.cell? ⟨W.heap.size, 1, none⟩ = some (.int .i64 g)) := ⟨cell_blk x2 rfl, f0, f1⟩
  have KB : Hid (w3.cell? ⟨bb, 1, none⟩ = some (.map (some nb)) ∧ w3.cell? ⟨W.heap.size, 0, none⟩ = some (.int .i64 i) ∧ w3.cell? ⟨W.heap.size, 1, none⟩ = some (.int .i64 g)) := by
    have q := t2.at (blk_seen bd2 (Nat.le_refl _) r2) hn2
    exact ⟨cell_blk G.out.box rfl, cell_blk q rfl, cell_blk q rfl⟩
  have HW1 := hid hw1
  clear h hi hg hok h1 h2 hw1 b1 r1 hb1 bd1 m1 t1 hn1 hn2 r2 x2 y2 bd2 m2 t2 hid' c0 c1 d0 d1 f0 f1 hok0
  go_enter Tryz.func41, Tryz.ntmps41
  go_upto_region 1 with fail
  rw [← HW1.out]
  go_region_held3 (fun W' => W'.cell? ⟨bb, 0, none⟩ = some (.map (some ob)) ∧ W'.cell? ⟨W.heap.size, 0, none⟩ = some (.int .i64 i) ∧ W'.cell? ⟨W.heap.size, 1, none⟩ = some (.int .i64 g))
    (first | exact KA.out | exact K1.out _ (Below.refl _ _).drew | exact K1.out _ (Below.refl _ _)) (fail)
  clear s1 K1 KA HW1
  go_upto_region 2 with fail
  go_region_held3 (fun W' => W'.cell? ⟨bb, 1, none⟩ = some (.map (some nb)) ∧ W'.cell? ⟨W.heap.size, 0, none⟩ = some (.int .i64 i) ∧ W'.cell? ⟨W.heap.size, 1, none⟩ = some (.int .i64 g))
    (first | exact KB.out | exact K2.out _ (Below.refl _ _).drew | exact K2.out _ (Below.refl _ _)) (fail)
  clear s2 K2 KB
  go_wp2_with fail
  go_end0
  exact ⟨rfl, G.out, S1.out⟩
end
end Go.Proofs.YtoafpfheopgdkaaGreatDoor.Bd
namespace Go.Proofs.YtoafpfheopgdkaaGreatDoor.Bd
open Go.RowKit Go.Shelf Go.Maps
theorem wrap_mid {n : Int} (h0 : -1000000 ≤ n) (h1 : n ≤ 2147483648) : IntKind.i64.wrap n = n := by
  unfold IntKind.wrap
  simp [IntKind.signed, IntKind.bits]
  omega
theorem okP.free {n : Int} {l : Prs} (h : okP n l) : Bd.who l n = none := by
  cases q : Bd.who l n with
  | none => rfl
  | some x =>
    have := (h.low _ ((h.who n x).1 q)).2
    simp at this
section
variable {Ad : Nat → Addr} {B : Nat} {W : World} {bb ob nb : Nat} {n : Int} {l : Prs}
set_option maxHeartbeats 1600000 in
set_option maxRecDepth 100000 in
theorem give_nil (hE : Env5 W Ad) (i g : Int) :
    Calls Tryz.prog 24 #[.pointer none, .agg #[.int .i64 i, .int .i64 g]] W fun e W' => ∃ t q, e = .returned (.tuple #[.int .i64 0, .iface t q]) ∧ Err Ad W' (.iface t q) 2 1 ∧ Below W.heap.size W W' := by
  obtain ⟨w1, hw1⟩ : ∃ w1, w1 = W.alloc (.cells #[.int .i64 i, .int .i64 g] 58) := ⟨_, rfl⟩
  have b1 : Below W.heap.size W w1 := by rw [hw1]; exact bAl _ _
  have c2 := (hE.later b1).c2
  have HW1 := hid hw1
  have B1 := hid b1
  have AC := hid (fun str => at_err Ad str _ 2 0 w1 (err_leaf Ad w1 2 (by decide)))
  clear hw1 b1 hE
  go_enter Tryz.func24, Tryz.ntmps24
  go_upto_region 1 with fail
  rw [← HW1.out]
  go_wp2_with fail
  refine (AC.out _).mono ?_
  rintro e w3 ⟨t, q, rfl, hv, hb⟩
  have HV := hid hv
  have B3 := hid (B1.out.trans (hb.mono B1.out.size))
  clear hv hb c2 AC
  go_wp2_with fail
  exact bodyPost_ret (v := .tuple #[.int .i64 0, .iface t q]) (by simp [results, Tryz.results24, go_sem]) rfl ⟨t, q, rfl, HV.out, B3.out⟩
set_option maxHeartbeats 1600000 in
set_option maxRecDepth 100000 in
theorem give_twice (h : Bg B W bb ob nb n l) (hE : Env5 W Ad) (i g : Int) (hi : I64 i) (hg : I64 g) {x : Int} (hn : num l (i, g) = some x) :
    Calls Tryz.prog 24 #[.pointer (some ⟨bb, 0, none⟩), .agg #[.int .i64 i, .int .i64 g]] W fun e W' => ∃ t q, e = .returned (.tuple #[.int .i64 0, .iface t q]) ∧ Err Ad W' (.iface t q) 9 2 ∧ Below W.heap.size W W' := by
  obtain ⟨w1, hw1⟩ : ∃ w1, w1 = W.alloc (.cells #[.int .i64 i, .int .i64 g] 58) := ⟨_, rfl⟩
  have b1 : Below W.heap.size W w1 := by rw [hw1]; exact bAl _ _
  have r1 : w1.heap[W.heap.size]? = some (.cells #[.int .i64 i, .int .i64 g] 58 (0, 0)) := by rw [hw1]; exact heap_alloc_new W _
  have d0 : w1.cell? ⟨W.heap.size, 0, none⟩ = some (.int .i64 i) := cell_blk r1 rfl
  have d1 : w1.cell? ⟨W.heap.size, 1, none⟩ = some (.int .i64 g) := cell_blk r1 rfl
  have UN := hid (unn_some (h.later b1) (hE.later b1) i g hi hg hn)
  have HW1 := hid hw1
  have B1 := hid b1
  clear hw1 b1 hE h hi hg hn r1
  go_enter Tryz.func24, Tryz.ntmps24
  go_upto_region 1 with fail
  rw [← HW1.out]
  go_wp2_with fail
  refine UN.out.mono ?_
  rintro e w2 ⟨t, q, rfl, hv, hb⟩
  have AC := hid (fun str => at_err Ad str _ 9 1 w2 hv)
  have B2 := hid (B1.out.trans (hb.mono B1.out.size))
  clear hv hb UN d0 d1
  go_wp2_with fail
  refine (AC.out _).mono ?_
  rintro e w3 ⟨t3, q3, rfl, hv, hb⟩
  have HV := hid hv
  have B3 := hid (B2.out.trans (hb.mono B2.out.size))
  clear hv hb AC
  go_wp2_with fail
  exact bodyPost_ret (v := .tuple #[.int .i64 0, .iface t3 q3]) (by simp [results, Tryz.results24, go_sem]) rfl ⟨t3, q3, rfl, HV.out, B3.out⟩
set_option maxHeartbeats 1600000 in
set_option maxRecDepth 100000 in
theorem give_full (h : Bg B W bb ob nb n l) (hE : Env5 W Ad) (i g : Int) (hi : I64 i) (hg : I64 g) (hn : num l (i, g) = none) (hf : 1073741824 < n) :
    Calls Tryz.prog 24 #[.pointer (some ⟨bb, 0, none⟩), .agg #[.int .i64 i, .int .i64 g]] W fun e W' => ∃ t q, e = .returned (.tuple #[.int .i64 0, .iface t q]) ∧ Err Ad W' (.iface t q) 6 1 ∧ Below W.heap.size W W' := by
  obtain ⟨w1, hw1⟩ : ∃ w1, w1 = W.alloc (.cells #[.int .i64 i, .int .i64 g] 58) := ⟨_, rfl⟩
  have b1 : Below W.heap.size W w1 := by rw [hw1]; exact bAl _ _
  have r1 : w1.heap[W.heap.size]? = some (.cells #[.int .i64 i, .int .i64 g] 58 (0, 0)) := by rw [hw1]; exact heap_alloc_new W _
  have d0 : w1.cell? ⟨W.heap.size, 0, none⟩ = some (.int .i64 i) := cell_blk r1 rfl
  have d1 : w1.cell? ⟨W.heap.size, 1, none⟩ = some (.int .i64 g) := cell_blk r1 rfl
  have UN := hid (unn_none (h.later b1) i g hi hg hn)
  have HH := hid (h.later b1)
  have HE := hid (hE.later b1)
  have HW1 := hid hw1
  have B1 := hid b1
  clear hw1 b1 hE h hi hg hn r1
  go_enter Tryz.func24, Tryz.ntmps24
  go_upto_region 1 with fail
  rw [← HW1.out]
  go_wp2_with fail
  refine UN.out.mono ?_
  rintro e w2 ⟨rfl, hb⟩
  have c2 := (HH.out.later hb).c2
  have c6 := (HE.out.later hb).c6
  have AC := hid (fun str => at_err Ad str _ 6 0 w2 (err_leaf Ad w2 6 (by decide)))
  have B2 := hid (B1.out.trans (hb.mono B1.out.size))
  clear hb UN d0 d1
  go_wp2_with fail
  refine (AC.out _).mono ?_
  rintro e w3 ⟨t3, q3, rfl, hv, hb⟩
  have HV := hid hv
  have B3 := hid (B2.out.trans (hb.mono B2.out.size))
  clear hv hb AC c2 c6
  go_wp2_with fail
  exact bodyPost_ret (v := .tuple #[.int .i64 0, .iface t3 q3]) (by simp [results, Tryz.results24, go_sem]) rfl ⟨t3, q3, rfl, HV.out, B3.out⟩
set_option maxHeartbeats 3200000 in
set_option maxRecDepth 100000 in
theorem give_ok (h : Bg B W bb ob nb n l) (i g : Int) (hi : I64 i) (hg : I64 g) (hn : num l (i, g) = none) (hf : n ≤ 1073741824) :
    Calls Tryz.prog 24 #[.pointer (some ⟨bb, 0, none⟩), .agg #[.int .i64 i, .int .i64 g]] W fun e W' => e = .returned (.tuple #[.int .i64 n, .nilIface]) ∧ Bg B W' bb ob nb (n + 1) (ins (n, i, g) l) ∧ St (fun k => Ft bb ob nb k) W W' := by
  obtain ⟨w1, hw1⟩ : ∃ w1, w1 = W.alloc (.cells #[.int .i64 i, .int .i64 g] 58) := ⟨_, rfl⟩
  have b1 : Below W.heap.size W w1 := by rw [hw1]; exact bAl _ _
  have r1 : w1.heap[W.heap.size]? = some (.cells #[.int .i64 i, .int .i64 g] 58 (0, 0)) := by rw [hw1]; exact heap_alloc_new W _
  have d0 : w1.cell? ⟨W.heap.size, 0, none⟩ = some (.int .i64 i) := cell_blk r1 rfl
  have d1 : w1.cell? ⟨W.heap.size, 1, none⟩ = some (.int .i64 g) := cell_blk r1 rfl
  have hn1 := h.ok.next
  have hfi : ¬ (1073741824 : Int) < n := by omega
  have hwr : IntKind.i64.wrap (n + 1) = n + 1 := wrap_mid (by omega) (by omega)
  have hok2 : okP (n + 1) (ins (n, i, g) l) := h.ok.add (m := n + 1) (by omega) (by omega) hi hg h.ok.free hn
  have UN := hid (unn_none (h.later b1) i g hi hg hn)
  have HH := hid (h.later b1)
  have H0 := hid h
  have HW1 := hid hw1
  have B1 := hid b1
  have R1 := hid r1
  have JN : Hid (∀ W', Bg B W' bb ob nb (n + 1) l → Calls Tryz.prog 41 #[.pointer (some ⟨bb, 0, none⟩), .int .i64 n, .agg #[.int .i64 i, .int .i64 g]] W' fun e W2 => e = .returned (.tuple #[]) ∧ Bg B W2 bb ob nb (n + 1) (ins (n, i, g) l) ∧ St (fun k => Ft bb ob nb k) W' W2) := fun W' hb => join_ok hb h.ok n i g (I64_mid (by omega) (by omega)) hi hg hok2 h.ok.free hn
  clear hw1 b1 h hi hg hn r1 hok2
  go_enter Tryz.func24, Tryz.ntmps24
  go_upto_region 1 with fail
  rw [← HW1.out]
  go_wp2_with fail
  refine UN.out.mono ?_
  rintro e w2 ⟨rfl, hb⟩
  have h2 := HH.out.later hb
  have c2 := h2.c2
  have fz := blk_free h2.box 2
  have B2 := hid (B1.out.trans (hb.mono B1.out.size))
  have r2 := blk_seen hb (Nat.le_refl _) R1.out
  have hne : ¬ W.heap.size = bb := by have := (H0.out.lt bb (.inl rfl)).2; omega
  have s3 := St.setCell (S := fun k => k = bb) (a := w2) (p := ⟨bb, 2, none⟩) (.int .i64 (n + 1)) rfl
  have x3 : (w2.setCell ⟨bb, 2, none⟩ (.int .i64 (n + 1))).heap[bb]? = some (.cells #[.map (some ob), .map (some nb), .int .i64 (n + 1)] 100 (0, 0)) := by
    have := heap_setCell_same w2 bb 2 _ _ (.int .i64 (n + 1)) h2.box
    simpa using this
  have h3 : Bg B (w2.setCell ⟨bb, 2, none⟩ (.int .i64 (n + 1))) bb ob nb (n + 1) l := ⟨x3, h2.m1.kept s3 fun e => h2.ne1 e.symm, h2.m2.kept s3 fun e => h2.ne2 e.symm, ⟨h2.ok.rise, h2.ok.one, fun x hx => by have := h2.ok.low x hx; omega, h2.ok.i64, by omega⟩, h2.low, h2.ne⟩
  have r3 := s3.at r2 hne
  obtain ⟨w3, hw3⟩ : ∃ w3, w3 = w2.setCell ⟨bb, 2, none⟩ (.int .i64 (n + 1)) := ⟨_, rfl⟩
  rw [← hw3] at s3 x3 h3 r3
  have HW3 := hid hw3
  have e0 : w3.cell? ⟨W.heap.size, 0, none⟩ = some (.int .i64 i) := cell_blk r3 rfl
  have e1 : w3.cell? ⟨W.heap.size, 1, none⟩ = some (.int .i64 g) := cell_blk r3 rfl
  have S3 : Hid (St (fun k => Ft bb ob nb k) W w3) := (St.of_below (S := fun k => Ft bb ob nb k) B2.out).trans s3 fun x _ e => .inl e
  have JO := hid (JN.out w3 h3)
  clear h2 r2 hne s3 x3 h3 r3 hw3 hb UN d0 d1 JN
  go_upto_region 10 with fail
  rw [← HW3.out]
  go_wp2_with fail
  refine JO.out.mono ?_
  rintro e w4 ⟨rfl, h4, s4⟩
  have H4 := hid h4
  have S4 := hid (S3.out.trans s4 fun x _ q => q)
  clear h4 s4 JO e0 e1 c2 fz
  go_wp2_with fail
  exact bodyPost_ret (v := .tuple #[.int .i64 n, .nilIface]) (by simp [results, Tryz.results24, go_sem]) rfl ⟨rfl, H4.out, S4.out⟩
end
end Go.Proofs.YtoafpfheopgdkaaGreatDoor.Bd
namespace Go.Proofs.YtoafpfheopgdkaaGreatDoor.Bd
open Go.RowKit Go.Shelf Go.Maps
/-- Two cells of a block are written. -/
def put2 (W : World) (b : Nat) (i g : Int) : World := (W.setCell ⟨b, 0, none⟩ (.int .i64 i)).setCell ⟨b, 1, none⟩ (.int .i64 g)
theorem put2_blk {W : World} {b : Nat} {a c : Value} {e : TypeId} (h : W.heap[b]? = some (.cells #[a, c] e (0, 0))) (i g : Int) : (put2 W b i g).heap[b]? = some (.cells #[.int .i64 i, .int .i64 g] e (0, 0)) := by
  have h1 := heap_setCell_same W b 0 _ e (.int .i64 i) h
  have h2 := heap_setCell_same _ b 1 _ e (.int .i64 g) h1
  simpa [put2] using h2
theorem put2_st (W : World) (b : Nat) (i g : Int) : St (fun k => k = b) W (put2 W b i g) :=
  (St.setCell (S := fun k => k = b) (a := W) (p := ⟨b, 0, none⟩) (.int .i64 i) rfl).trans (St.setCell (S := fun k => k = b) (p := ⟨b, 1, none⟩) (.int .i64 g) rfl) fun _ _ q => q
theorem set_same {W : World} {b j : Nat} {cs : Array Value} {e : TypeId} {u : Value} (h : W.heap[b]? = some (.cells cs e (0, 0))) (hj : cs[j]? = some u) : W.setCell ⟨b, j, none⟩ u = W := by
  have e : (W.setCell ⟨b, j, none⟩ u).heap = W.heap := by
    apply Array.ext_getElem?
    intro k
    by_cases hk : k = b
    · subst hk
      rw [heap_setCell_same W k j cs e u h, h]
      have : cs.setIfInBounds j u = cs := by
        apply Array.ext_getElem?
        intro m
        rw [Array.getElem?_setIfInBounds]
        split
        · rename_i hm
          subst hm
          have := (Array.getElem?_eq_some_iff.1 hj).1
          rw [if_pos this, hj]
        · rfl
      rw [this]
    · exact Below.heap_setCell _ _ _ _ hk
  unfold World.setCell at e ⊢
  cases W
  simp at e ⊢
  exact e
theorem put2_same {W : World} {b : Nat} {e : TypeId} {i g : Int} (h : W.heap[b]? = some (.cells #[.int .i64 i, .int .i64 g] e (0, 0))) : put2 W b i g = W := by
  unfold put2
  rw [set_same h rfl, set_same h rfl]
section
variable {Ad : Nat → Addr} {B : Nat} {W : World} {bb ob nb : Nat} {n : Int} {l : Prs}
end
end Go.Proofs.YtoafpfheopgdkaaGreatDoor.Bd
namespace Go.Proofs.YtoafpfheopgdkaaGreatDoor.Bd
open Go.RowKit Go.Shelf Go.Maps
theorem same_key {x y : Int} : (Lit.int .i64 x).sameKey (.int .i64 y) = decide (x = y) := by simp [Lit.sameKey]
section
variable {Ad : Nat → Addr} {B : Nat} {W : World} {bb ob nb : Nat} {n : Int} {l : Prs}
set_option maxHeartbeats 3200000 in
set_option maxRecDepth 100000 in
theorem above_any (h : Bg B W bb ob nb n l) (next : Int) :
    Calls Tryz.prog 34 #[.pointer (some ⟨bb, 0, none⟩), .int .i64 next] W fun e W' => e = .returned (.bool (decide (∀ x ∈ l, x.1 < next))) ∧ Below W.heap.size W W' := by
  have c0 := h.c0
  obtain ⟨D, hown, hH⟩ := h.m1
  have htm := hown.lt
  have HH := hid hH
  have HO := hid h.ok
  obtain ⟨nn, hnn⟩ : ∃ nn, nn = Maps.size D := ⟨_, rfl⟩
  rw [← hnn] at hown
  obtain ⟨res, hres⟩ : ∃ res, res = decide (∀ x ∈ l, x.1 < next) := ⟨_, rfl⟩
  rw [← hres]
  have HRS := hid hres
  clear h hH hnn hres
  go_enter Tryz.func34, Tryz.ntmps34
  go_wp2_with (first
    | (at_range; refine wpList_range_own _ rfl _ 97 rfl 3 58 keyed3 Tryz.underlying97 entElem ob nn D rfl hown ?_; intro w0 hrg0 hg0 hs0)
    | fail)
  go_frame
  have B0 : Hid (Below W.heap.size W w0) := ⟨hg0.os, hg0.tape, hg0.output, hg0.size, fun k hk => hg0.block k hk (by simp)⟩
  have hsz0 : W.heap.size + 1 ≤ w0.heap.size := by omega
  have RG0 := hid hrg0
  clear hrg0 hg0 hs0 hown c0
  have H0 : Hid (∀ x ∈ l, Maps.has D (.int .i64 x.1) = false → x.1 < next) := fun x hx q => by
    have hw := (HO.out.who x.1 x.2).2 hx
    have := HO.out.low x hx
    have hn := HO.out.next
    have e := (HH.out.1 x.1 (I64_mid (by omega) (by omega))).1
    rw [hw, q] at e
    cases e
  go_loopg [5] (Maps.size D) (fun gh _ wr => ∃ left : Lit → Bool, Hid (wr.ranges Tryz.prog 3 entElem ob W.heap.size nn D left gh) ∧ Hid (∀ x ∈ l, left (.int .i64 x.1) = false → x.1 < next) ∧ Hid (Below W.heap.size W wr) ∧ W.heap.size + 1 ≤ wr.heap.size)
  case atStart => exact ⟨_, RG0.out, H0.out, B0.out, hsz0⟩
  case round =>
    rename World => wr
    obtain ⟨left, HR, HL, HB, hsz⟩ := hrel
    have hrg := HR.out
    go_wp2_with (first
      | (at_next; refine wpList_next_ranges _ rfl _ rfl 3 keyed3 entElem (Value.int .i64) (fun c : Int × Int => entV c.1 c.2) (fun key kl hkey => by obtain ⟨x, rfl, _⟩ := Maps.keyOf_int_inv Tryz.underlying3 hkey; exact ⟨x, rfl⟩) (fun v y hv => by obtain ⟨i, g, rfl, _⟩ := entElem_inv hv; exact ⟨(i, g), rfl⟩) ob W.heap.size nn D left _ rfl hrg ?_ ?_)
      | fail)
    · intro hc0 hl0
      have hr : res = true := by
        rw [HRS.out]
        exact decide_eq_true fun x hx => HL.out x hx (hl0 _)
      subst hr
      clear hrg hl0 hc0
      go_wp2_with fail
      go_ret
      exact ⟨rfl, HB.out⟩
    · intro x o1 o2 kl y ps w1 cnt1 hkey hleft hR hat hrg1 hlt hg1 hs1 hen
      have B1 : Below W.heap.size W w1 := HB.out.trans ⟨hg1.os, hg1.tape, hg1.output, hg1.size, fun k hk => hg1.block k (by omega) (by simp; omega)⟩
      have HB1 := hid B1
      obtain ⟨x', e1, rfl, hw⟩ := Maps.keyOf_int_inv Tryz.underlying3 hkey
      obtain rfl : x = x' := by simpa using e1
      have hin : ∃ e, (x, e) ∈ l := by
        have q := (HH.out.1 x hw).1
        rw [has_true_of_atKey hat] at q
        obtain ⟨e, he⟩ := Option.isSome_iff_exists.1 q.symm
        exact ⟨e, (HO.out.who x e).1 he⟩
      have HIN := hid hin
      have RG1 := hid hrg1
      have HLT := hid hlt
      have hsz1 : W.heap.size + 1 ≤ w1.heap.size := by omega
      by_cases hge : next ≤ x
      · have hr : res = false := by
          rw [HRS.out]
          obtain ⟨e, he⟩ := HIN.out
          exact decide_eq_false fun q => by have := q _ he; simp at this; omega
        subst hr
        have hgi : x ≥ next := hge
        clear hrg hin hkey hleft hR hat hrg1 hlt hg1 hs1 B1
        go_wp2_with fail
        go_ret
        exact ⟨rfl, HB1.out⟩
      · have hgi : ¬ x ≥ next := hge
        have NL : Hid (∀ z ∈ l, (left (.int .i64 z.1) && !(Lit.int .i64 z.1).sameKey (.int .i64 x)) = false → z.1 < next) := fun z hz q => by
          by_cases e : z.1 = x
          · rw [e]; omega
          · refine HL.out z hz ?_
            rw [same_key, decide_eq_false e] at q
            simpa using q
        clear hrg hin hkey hleft hR hat hrg1 hlt hg1 hs1 B1
        go_wp2_with fail
        go_roundg cnt1
        case measure => exact HLT.out
        case rel => exact ⟨_, RG1.out, NL.out, HB1.out, hsz1⟩
end
end Go.Proofs.YtoafpfheopgdkaaGreatDoor.Bd
namespace Go.Proofs.YtoafpfheopgdkaaGreatDoor.Bd
open Go.RowKit Go.Shelf Go.Maps
section
variable {Ad : Nat → Addr} {B : Nat} {W : World} {bb ob nb : Nat} {n : Int} {l : Prs}
set_option maxHeartbeats 1600000 in
set_option maxRecDepth 100000 in
theorem turn_nil (hE : Env5 W Ad) (next : Int) :
    Calls Tryz.prog 17 #[.pointer none, .int .i64 next] W fun e W' => ∃ t q, e = .returned (.tuple #[.int .i64 0, .iface t q]) ∧ Err Ad W' (.iface t q) 2 1 ∧ Below W.heap.size W W' := by
  have c2 := hE.c2
  have AC := hid (fun str => at_err Ad str _ 2 0 W (err_leaf Ad W 2 (by decide)))
  clear hE
  go_enter Tryz.func17, Tryz.ntmps17
  go_wp2_with fail
  refine (AC.out _).mono ?_
  rintro e w3 ⟨t, q, rfl, hv, hb⟩
  have HV := hid hv
  have B3 := hid hb
  clear hv hb c2 AC
  go_wp2_with fail
  exact bodyPost_ret (v := .tuple #[.int .i64 0, .iface t q]) (by simp [results, Tryz.results17, go_sem]) rfl ⟨t, q, rfl, HV.out, B3.out⟩
/-- Whether a number can be the next one. -/
def turnB (l : Prs) (next : Int) : Bool := decide (1 ≤ next) && decide (next ≤ 1073741825) && decide (∀ x ∈ l, x.1 < next)
set_option maxHeartbeats 1600000 in
set_option maxRecDepth 100000 in
theorem turn_arg (h : Bg B W bb ob nb n l) (hE : Env5 W Ad) (next : Int) (ht : turnB l next = false) :
    Calls Tryz.prog 17 #[.pointer (some ⟨bb, 0, none⟩), .int .i64 next] W fun e W' => ∃ t q, e = .returned (.tuple #[.int .i64 0, .iface t q]) ∧ Err Ad W' (.iface t q) 1 1 ∧ Below W.heap.size W W' := by
  have AB := hid (above_any h next)
  by_cases h1 : next < 1
  · have c1 := hE.c1
    have AC := hid (fun str => at_err Ad str _ 1 0 W (err_leaf Ad W 1 (by decide)))
    clear hE AB ht h
    go_enter Tryz.func17, Tryz.ntmps17
    go_wp2_with fail
    refine (AC.out _).mono ?_
    rintro e w3 ⟨t, q, rfl, hv, hb⟩
    have HV := hid hv
    have B3 := hid hb
    clear hv hb c1 AC
    go_wp2_with fail
    exact bodyPost_ret (v := .tuple #[.int .i64 0, .iface t q]) (by simp [results, Tryz.results17, go_sem]) rfl ⟨t, q, rfl, HV.out, B3.out⟩
  · by_cases h2 : 1073741825 < next
    · have c1 := hE.c1
      have AC := hid (fun str => at_err Ad str _ 1 0 W (err_leaf Ad W 1 (by decide)))
      clear hE AB ht h
      go_enter Tryz.func17, Tryz.ntmps17
      go_wp2_with fail
      refine (AC.out _).mono ?_
      rintro e w3 ⟨t, q, rfl, hv, hb⟩
      have HV := hid hv
      have B3 := hid hb
      clear hv hb c1 AC
      go_wp2_with fail
      exact bodyPost_ret (v := .tuple #[.int .i64 0, .iface t q]) (by simp [results, Tryz.results17, go_sem]) rfl ⟨t, q, rfl, HV.out, B3.out⟩
    · have hf : decide (∀ x ∈ l, x.1 < next) = false := by
        unfold turnB at ht
        rw [decide_eq_true (show 1 ≤ next by omega), decide_eq_true (show next ≤ 1073741825 by omega)] at ht
        simpa using ht
      rw [hf] at AB
      have HE := hid hE
      clear hE ht h hf
      go_enter Tryz.func17, Tryz.ntmps17
      go_wp2_with fail
      refine AB.out.mono ?_
      rintro e w2 ⟨rfl, hb2⟩
      have c1 := (HE.out.later hb2).c1
      have B2 := hid hb2
      have AC := hid (fun str => at_err Ad str _ 1 0 w2 (err_leaf Ad w2 1 (by decide)))
      clear AB hb2
      go_wp2_with fail
      refine (AC.out _).mono ?_
      rintro e w3 ⟨t, q, rfl, hv, hb⟩
      have HV := hid hv
      have B3 := hid (B2.out.trans (hb.mono B2.out.size))
      clear hv hb c1 AC
      go_wp2_with fail
      exact bodyPost_ret (v := .tuple #[.int .i64 0, .iface t q]) (by simp [results, Tryz.results17, go_sem]) rfl ⟨t, q, rfl, HV.out, B3.out⟩
set_option maxHeartbeats 1600000 in
set_option maxRecDepth 100000 in
theorem turn_ok (h : Bg B W bb ob nb n l) (next : Int) (ht : turnB l next = true) :
    Calls Tryz.prog 17 #[.pointer (some ⟨bb, 0, none⟩), .int .i64 next] W fun e W' => e = .returned (.tuple #[.int .i64 n, .nilIface]) ∧ Bg B W' bb ob nb next l ∧ St (fun k => Ft bb ob nb k) W W' := by
  have AB := hid (above_any h next)
  unfold turnB at ht
  simp only [Bool.and_eq_true, decide_eq_true_eq] at ht
  obtain ⟨⟨h1, h2⟩, h3⟩ := ht
  rw [decide_eq_true h3] at AB
  have h1i : ¬ next < 1 := by omega
  have h2i : ¬ 1073741825 < next := by omega
  have H3 := hid h3
  have HH := hid h
  have hb12 := h1
  have hb22 := h2
  clear h3 h
  go_enter Tryz.func17, Tryz.ntmps17
  go_wp2_with fail
  refine AB.out.mono ?_
  rintro e w2 ⟨rfl, hb2⟩
  have g2 := HH.out.later hb2
  have c2 := g2.c2
  have fz := blk_free g2.box 2
  have s3 := St.setCell (S := fun k => k = bb) (a := w2) (p := ⟨bb, 2, none⟩) (.int .i64 next) rfl
  have x3 : (w2.setCell ⟨bb, 2, none⟩ (.int .i64 next)).heap[bb]? = some (.cells #[.map (some ob), .map (some nb), .int .i64 next] 100 (0, 0)) := by
    have := heap_setCell_same w2 bb 2 _ _ (.int .i64 next) g2.box
    simpa using this
  have G3 : Hid (Bg B (w2.setCell ⟨bb, 2, none⟩ (.int .i64 next)) bb ob nb next l) := ⟨x3, g2.m1.kept s3 fun e => g2.ne1 e.symm, g2.m2.kept s3 fun e => g2.ne2 e.symm, g2.ok.turn ⟨hb12, hb22⟩ H3.out, g2.low, g2.ne⟩
  have S3 : Hid (St (fun k => Ft bb ob nb k) W (w2.setCell ⟨bb, 2, none⟩ (.int .i64 next))) := (St.of_below (S := fun k => Ft bb ob nb k) hb2).trans s3 fun x _ e => .inl e
  clear g2 s3 x3 hb2 AB
  go_wp2_with fail
  exact bodyPost_ret (v := .tuple #[.int .i64 n, .nilIface]) (by simp [results, Tryz.results17, go_sem]) rfl ⟨rfl, G3.out, S3.out⟩
end
end Go.Proofs.YtoafpfheopgdkaaGreatDoor.Bd
namespace Go.Proofs.YtoafpfheopgdkaaGreatDoor.Bd
open Go.RowKit Go.Shelf Go.Maps
section
variable {Ad : Nat → Addr} {B : Nat} {W : World} {bb ob nb : Nat} {n : Int} {l : Prs}
set_option maxHeartbeats 1600000 in
set_option maxRecDepth 100000 in
theorem pin_nil (hE : Env5 W Ad) (id i g : Int) :
    Calls Tryz.prog 19 #[.pointer none, .int .i64 id, .agg #[.int .i64 i, .int .i64 g]] W fun e W' => ∃ t q, e = .returned (.iface t q) ∧ Err Ad W' (.iface t q) 2 1 ∧ Below W.heap.size W W' := by
  obtain ⟨w1, hw1⟩ : ∃ w1, w1 = W.alloc (.cells #[.int .i64 i, .int .i64 g] 58) := ⟨_, rfl⟩
  have b1 : Below W.heap.size W w1 := by rw [hw1]; exact bAl _ _
  have c2 := (hE.later b1).c2
  have HW1 := hid hw1
  have B1 := hid b1
  have AC := hid (fun str => at_err Ad str _ 2 0 w1 (err_leaf Ad w1 2 (by decide)))
  clear hw1 b1 hE
  go_enter Tryz.func19, Tryz.ntmps19
  go_upto_region 1 with fail
  rw [← HW1.out]
  go_wp2_with fail
  refine (AC.out _).mono ?_
  rintro e w3 ⟨t, q, rfl, hv, hb⟩
  have HV := hid hv
  have B3 := hid (B1.out.trans (hb.mono B1.out.size))
  clear hv hb c2 AC
  go_wp2_with fail
  go_ret
  exact ⟨t, q, rfl, HV.out, B3.out⟩
set_option maxHeartbeats 1600000 in
set_option maxRecDepth 100000 in
theorem pin_arg (h : Bg B W bb ob nb n l) (hE : Env5 W Ad) (id i g : Int) (ha : id < 1 ∨ n ≤ id) :
    Calls Tryz.prog 19 #[.pointer (some ⟨bb, 0, none⟩), .int .i64 id, .agg #[.int .i64 i, .int .i64 g]] W fun e W' => ∃ t q, e = .returned (.iface t q) ∧ Err Ad W' (.iface t q) 1 2 ∧ Below W.heap.size W W' := by
  obtain ⟨w1, hw1⟩ : ∃ w1, w1 = W.alloc (.cells #[.int .i64 i, .int .i64 g] 58) := ⟨_, rfl⟩
  have b1 : Below W.heap.size W w1 := by rw [hw1]; exact bAl _ _
  have c1 := (hE.later b1).c1
  have c2 := (h.later b1).c2
  have HW1 := hid hw1
  have B1 := hid b1
  have AC := hid (fun str => at_err Ad str _ 1 0 w1 (err_leaf Ad w1 1 (by decide)))
  clear hw1 b1 hE h
  by_cases h1 : id < 1
  · clear ha c2
    go_enter Tryz.func19, Tryz.ntmps19
    go_upto_region 1 with fail
    rw [← HW1.out]
    go_wp2_with fail
    refine (AC.out _).mono ?_
    rintro e w3 ⟨t, q, rfl, hv, hb⟩
    have AD := hid (fun str => at_err Ad str _ 1 1 w3 hv)
    have B3 := hid (B1.out.trans (hb.mono B1.out.size))
    clear hv hb c1 AC
    go_wp2_with fail
    refine (AD.out _).mono ?_
    rintro e w4 ⟨t4, q4, rfl, hv, hb⟩
    have HV := hid hv
    have B4 := hid (B3.out.trans (hb.mono B3.out.size))
    clear hv hb AD
    go_wp2_with fail
    go_ret
    exact ⟨t4, q4, rfl, HV.out, B4.out⟩
  · have h2 : id ≥ n := by omega
    clear ha
    go_enter Tryz.func19, Tryz.ntmps19
    go_upto_region 1 with fail
    rw [← HW1.out]
    go_wp2_with fail
    refine (AC.out _).mono ?_
    rintro e w3 ⟨t, q, rfl, hv, hb⟩
    have AD := hid (fun str => at_err Ad str _ 1 1 w3 hv)
    have B3 := hid (B1.out.trans (hb.mono B1.out.size))
    clear hv hb c1 AC c2
    go_wp2_with fail
    refine (AD.out _).mono ?_
    rintro e w4 ⟨t4, q4, rfl, hv, hb⟩
    have HV := hid hv
    have B4 := hid (B3.out.trans (hb.mono B3.out.size))
    clear hv hb AD
    go_wp2_with fail
    go_ret
    exact ⟨t4, q4, rfl, HV.out, B4.out⟩
/-- What All answers of two. -/
theorem all_two (W : World) (v1 v2 : Value) (l1 l2 : List (List ByteArray × Nat)) (d : Nat) (h1 : Top Ad W.heap.size W d v1 l1) (h2 : Top Ad W.heap.size W d v2 l2) (hl : l1.length + l2.length ≤ 1000) :
    Calls Tryz.prog 38 #[.slice (some ⟨W.heap.size, 0, none⟩) 2 2] (W.alloc (.cells #[v1, v2] 46)) fun e w' => ∃ v', e = .returned v' ∧ Top Ad w'.heap.size w' d v' (l1 ++ l2) ∧ Below W.heap.size W w' := by
  have b1 := bAl W (.cells #[v1, v2] 46)
  have r1 := heap_alloc_new W (.cells #[v1, v2] 46)
  have hs : W.heap.size < (W.alloc (.cells #[v1, v2] 46)).heap.size := by simp
  have T := all_top Ad d (.slice (some ⟨W.heap.size, 0, none⟩) 2 2) [(v1, l1), (v2, l2)] (W.alloc (.cells #[v1, v2] 46)) ⟨_, _, rfl, .inr ⟨W.heap.size, hs, rfl, fun j x hj => by
      match j, hj with
      | 0, hj => obtain rfl : v1 = x := by simpa using hj
                 exact cell_blk r1 rfl
      | 1, hj => obtain rfl : v2 = x := by simpa using hj
                 exact cell_blk r1 rfl
      | j + 2, hj => simp at hj⟩⟩ (fun u hu => by
      simp at hu
      rcases hu with rfl | rfl
      · exact h1.move b1 b1.size
      · exact h2.move b1 b1.size) (by simp) (by simpa using hl)
  refine T.mono ?_
  rintro e w' ⟨v', rfl, q1, q2⟩
  simp only [List.map_cons, List.map_nil, List.flatten_cons, List.flatten_nil, List.append_nil] at q1
  exact ⟨v', rfl, q1, b1.trans (q2.mono b1.size)⟩
end
end Go.Proofs.YtoafpfheopgdkaaGreatDoor.Bd
namespace Go.Proofs
open Go.Shelf
def Tryz.sortA_ren : Go.Shelf.Ren := ⟨fun | 5 => 29 | 8 => 60 | 7 => 59 | 19 => 97 | 20 => 98 | 10 => 88 | 11 => 89 | 12 => 90 | 13 => 91 | 14 => 92 | 15 => 93 | 16 => 94 | 17 => 95 | 18 => 96 | 30 => 115 | 31 => 116 | 32 => 117 | 33 => 118 | 34 => 119 | 35 => 114 | 40 => 136 | n => n, fun | 23 => 32 | 25 => 3 | 3 => 3 | 32 => 138 | 22 => 32 | 0 => 0 | 44 => 23 | 46 => 203 | 4 => 4 | 36 => 195 | 35 => 194 | 41 => 40 | 5 => 5 | 9 => 9 | 53 => 216 | 57 => 220 | 63 => 233 | 64 => 234 | n => n, fun | n => n⟩
theorem Tryz.sortA : Go.Proofs.SlLaysM.n5 Tryz.prog Tryz.sortA_ren := {
  mixed := by kernel_rfl
  f5 := ⟨Tryz.f29.name, by decide, Tryz.func29.trans (congrArg some (by kernel_rfl))⟩
  f7 := ⟨Tryz.f59.name, by decide, Tryz.func59.trans (congrArg some (by kernel_rfl))⟩
  f8 := Tryz.func60.trans (congrArg some (by kernel_rfl))
  f10 := ⟨Tryz.f88.name, by decide, Tryz.func88.trans (congrArg some (by kernel_rfl))⟩
  f11 := ⟨Tryz.f89.name, by decide, Tryz.func89.trans (congrArg some (by kernel_rfl))⟩
  f12 := ⟨Tryz.f90.name, by decide, Tryz.func90.trans (congrArg some (by kernel_rfl))⟩
  f13 := ⟨Tryz.f91.name, by decide, Tryz.func91.trans (congrArg some (by kernel_rfl))⟩
  f14 := ⟨Tryz.f92.name, by decide, Tryz.func92.trans (congrArg some (by kernel_rfl))⟩
  f15 := ⟨Tryz.f93.name, by decide, Tryz.func93.trans (congrArg some (by kernel_rfl))⟩
  f16 := ⟨Tryz.f94.name, by decide, Tryz.func94.trans (congrArg some (by kernel_rfl))⟩
  f17 := ⟨Tryz.f95.name, by decide, Tryz.func95.trans (congrArg some (by kernel_rfl))⟩
  f18 := ⟨Tryz.f96.name, by decide, Tryz.func96.trans (congrArg some (by kernel_rfl))⟩
  f19 := Tryz.func97.trans (congrArg some (by kernel_rfl))
  f20 := Tryz.func98.trans (congrArg some (by kernel_rfl))
  f30 := ⟨Tryz.f115.name, by decide, Tryz.func115.trans (congrArg some (by kernel_rfl))⟩
  f31 := Tryz.func116.trans (congrArg some (by kernel_rfl))
  f32 := Tryz.func117.trans (congrArg some (by kernel_rfl))
  f33 := ⟨Tryz.f118.name, by decide, Tryz.func118.trans (congrArg some (by kernel_rfl))⟩
  f34 := ⟨Tryz.f119.name, by decide, Tryz.func119.trans (congrArg some (by kernel_rfl))⟩
  f35 := ⟨Tryz.f114.name, by decide, Tryz.func114.trans (congrArg some (by kernel_rfl))⟩
  f40 := ⟨Tryz.f136.name, by decide, Tryz.func136.trans (congrArg some (by kernel_rfl))⟩
  t0 := Tryz.underlying0
  a0 := Tryz.isAgg0
  z0 := Tryz.sizeOf0
  v0 := Tryz.zeroValue0
  t3 := Tryz.underlying3
  a3 := Tryz.isAgg3
  z3 := Tryz.sizeOf3
  v3 := Tryz.zeroValue3
  t4 := Tryz.underlying4
  a4 := Tryz.isAgg4
  z4 := Tryz.sizeOf4
  v4 := Tryz.zeroValue4
  t5 := Tryz.underlying5
  a5 := Tryz.isAgg5
  z5 := Tryz.sizeOf5
  v5 := Tryz.zeroValue5
  t9 := Tryz.underlying9
  a9 := Tryz.isAgg9
  z9 := Tryz.sizeOf9
  v9 := Tryz.zeroValue9
  t22 := Tryz.underlying32
  a22 := Tryz.isAgg32
  z22 := Tryz.sizeOf32
  v22 := Tryz.zeroValue32
  t23 := Tryz.underlying32
  a23 := Tryz.isAgg32
  z23 := Tryz.sizeOf32
  v23 := Tryz.zeroValue32
  t25 := Tryz.underlying3
  a25 := Tryz.isAgg3
  z25 := Tryz.sizeOf3
  v25 := Tryz.zeroValue3
  t32 := Tryz.underlying138
  a32 := Tryz.isAgg138
  z32 := Tryz.sizeOf138
  v32 := Tryz.zeroValue138
  t35 := Tryz.underlying194
  a35 := Tryz.isAgg194
  z35 := Tryz.sizeOf194
  v35 := Tryz.zeroValue194
  t36 := Tryz.underlying195
  a36 := Tryz.isAgg195
  z36 := Tryz.sizeOf195
  v36 := Tryz.zeroValue195
  t41 := Tryz.underlying40
  a41 := Tryz.isAgg40
  z41 := Tryz.sizeOf40
  v41 := Tryz.zeroValue40
  t44 := Tryz.underlying23
  a44 := Tryz.isAgg23
  z44 := Tryz.sizeOf23
  v44 := Tryz.zeroValue23
  t46 := Tryz.underlying203
  a46 := Tryz.isAgg203
  z46 := Tryz.sizeOf203
  v46 := Tryz.zeroValue203
  t53 := Tryz.underlying216
  a53 := Tryz.isAgg216
  z53 := Tryz.sizeOf216
  v53 := Tryz.zeroValue216
  t57 := Tryz.underlying220
  a57 := Tryz.isAgg220
  z57 := Tryz.sizeOf220
  v57 := Tryz.zeroValue220
  t63 := Tryz.underlying233
  a63 := Tryz.isAgg233
  z63 := Tryz.sizeOf233
  v63 := Tryz.zeroValue233
  t64 := Tryz.underlying234
  a64 := Tryz.isAgg234
  z64 := Tryz.sizeOf234
  v64 := Tryz.zeroValue234 }
end Go.Proofs
namespace Go.Proofs.YtoafpfheopgdkaaGreatDoor.Bd
end Go.Proofs.YtoafpfheopgdkaaGreatDoor.Bd
namespace Go.Proofs.YtoafpfheopgdkaaGreatDoor.Bd
open Go.RowKit Go.Shelf Go.Maps
theorem top_nil {Ad : Nat → Addr} {n d : Nat} {W : World} {v : Value} (h : Top Ad n W d v []) : v = .nilIface := by
  rcases h with ⟨h, -⟩ | ⟨p, h, -⟩ | ⟨b, vs, -, h, hs⟩
  · exact h
  · cases h
  · have e : vs = [] := List.map_eq_nil_iff.1 h.symm
    subst e
    exact absurd hs.two (by simp)
section
variable {Ad : Nat → Addr} {B : Nat} {W : World} {bb ob nb : Nat} {n : Int} {l : Prs}
set_option maxHeartbeats 3200000 in
set_option maxRecDepth 100000 in
theorem pin_ok (h : Bg B W bb ob nb n l) (id i g : Int) (hi : I64 i) (hg : I64 g) (h1 : 1 ≤ id) (h2 : id < n) (hw : who l id = none) (hn : num l (i, g) = none) :
    Calls Tryz.prog 19 #[.pointer (some ⟨bb, 0, none⟩), .int .i64 id, .agg #[.int .i64 i, .int .i64 g]] W fun e W' => e = .returned .nilIface ∧ Bg B W' bb ob nb n (ins (id, i, g) l) ∧ St (fun k => Ft bb ob nb k) W W' := by
  obtain ⟨w1, hw1⟩ : ∃ w1, w1 = W.alloc (.cells #[.int .i64 i, .int .i64 g] 58) := ⟨_, rfl⟩
  have b1 : Below W.heap.size W w1 := by rw [hw1]; exact bAl _ _
  have r1 : w1.heap[W.heap.size]? = some (.cells #[.int .i64 i, .int .i64 g] 58 (0, 0)) := by rw [hw1]; exact heap_alloc_new W _
  have hnx := h.ok.next
  have hid' : I64 id := I64_mid (by omega) (by omega)
  have hok2 : okP n (ins (id, i, g) l) := h.ok.add (by omega) ⟨h1, h2⟩ hi hg hw hn
  have hB := h.later b1
  have c2 := hB.c2
  have h1i : ¬ id < 1 := by omega
  have h2i : ¬ id ≥ n := by omega
  have KK : Hid (∀ W', Below w1.heap.size w1 W' → W'.cell? ⟨W.heap.size, 0, none⟩ = some (.int .i64 i) ∧ W'.cell? ⟨W.heap.size, 1, none⟩ = some (.int .i64 g)) := fun W' hb => ⟨cell_blk (blk_seen hb (Nat.le_refl _) r1) rfl, cell_blk (blk_seen hb (Nat.le_refl _) r1) rfl⟩
  have C23 : Hid (∀ W', Below w1.heap.size w1 W' → Calls Tryz.prog 39 #[.pointer (some ⟨bb, 0, none⟩), .int .i64 id] W' fun e w' => e = .returned .nilIface ∧ Below w1.heap.size w1 w') := fun W' hb => (uno_none (hB.later hb) id hid' hw).mono fun e w' ⟨q1, q2⟩ => ⟨q1, hb.trans (q2.mono hb.size)⟩
  have C20 : Hid (∀ W', Below w1.heap.size w1 W' → Calls Tryz.prog 40 #[.pointer (some ⟨bb, 0, none⟩), .agg #[.int .i64 i, .int .i64 g]] W' fun e w' => e = .returned .nilIface ∧ Below w1.heap.size w1 w') := fun W' hb => (unn_none (hB.later hb) i g hi hg hn).mono fun e w' ⟨q1, q2⟩ => ⟨q1, hb.trans (q2.mono hb.size)⟩
  have C22 : Hid (∀ W', Below w1.heap.size w1 W' → Calls Tryz.prog 38 #[.slice (some ⟨W'.heap.size, 0, none⟩) 2 2] (W'.alloc (.cells #[.nilIface, .nilIface] 46)) fun e w' => e = .returned .nilIface ∧ Below w1.heap.size w1 w') := fun W' hb => (all_two (Ad := fun _ => ⟨0, 0, none⟩) W' .nilIface .nilIface [] [] 0 Top.empty Top.empty (by simp)).mono fun e w' ⟨v', q1, q2, q3⟩ => by
    obtain rfl := top_nil q2
    exact ⟨q1, hb.trans (q3.mono hb.size)⟩
  have JN : Hid (∀ W', Below w1.heap.size w1 W' → Calls Tryz.prog 41 #[.pointer (some ⟨bb, 0, none⟩), .int .i64 id, .agg #[.int .i64 i, .int .i64 g]] W' fun e W2 => e = .returned (.tuple #[]) ∧ Bg B W2 bb ob nb n (ins (id, i, g) l) ∧ St (fun k => Ft bb ob nb k) W' W2) := fun W' hb => join_ok (hB.later hb) h.ok id i g hid' hi hg hok2 hw hn
  have HW1 := hid hw1
  have B1 := hid b1
  clear h hi hg hw hn hw1 b1 r1 hid' hok2 hB hnx
  go_enter Tryz.func19, Tryz.ntmps19
  go_upto_region 1 with fail
  rw [← HW1.out]
  go_upto_region 5 with fail
  clear c2 h1i h2i
  go_region_held3 (fun W' => W'.cell? ⟨W.heap.size, 0, none⟩ = some (.int .i64 i) ∧ W'.cell? ⟨W.heap.size, 1, none⟩ = some (.int .i64 g))
    (first | exact KK.out _ (by assumption) | exact KK.out _ (Below.refl _ _).drew | exact KK.out _ (Below.refl _ _) | exact KK.out _ (hb6.alloc hb6.size _))
    (first
      | (go_at_call 39; refine (C23.out _ (by first | assumption | exact (Below.refl _ _).drew)).mono ?_; rintro e w5 ⟨rfl, hb5⟩)
      | (go_at_call 40; refine (C20.out _ (by first | assumption | exact (Below.refl _ _).drew)).mono ?_; rintro e w6 ⟨rfl, hb6⟩)
      | (go_at_call 38; refine (C22.out _ (by assumption)).mono ?_; rintro e w7 ⟨rfl, hb7⟩))
  have JO := hid (JN.out w7 hb7)
  have B7 := hid (B1.out.trans (hb7.mono B1.out.size))
  obtain ⟨d0, d1⟩ := KK.out w7 hb7
  clear KK C23 C20 C22 JN hb7
  go_wp2_with fail
  refine JO.out.mono ?_
  rintro e w8 ⟨rfl, h8, s8⟩
  have H8 := hid h8
  have S8 : Hid (St (fun k => Ft bb ob nb k) W w8) := (St.of_below (S := fun k => Ft bb ob nb k) B7.out).trans s8 fun _ _ q => q
  clear h8 s8 JO d0 d1
  go_wp2_with fail
  go_ret
  exact ⟨rfl, H8.out, S8.out⟩
end
end Go.Proofs.YtoafpfheopgdkaaGreatDoor.Bd
namespace Go.Proofs.YtoafpfheopgdkaaGreatDoor.Bd
open Go.RowKit Go.Shelf Go.Maps
theorem ch_kept {Ad : Nat → Addr} {N n₀ k : Nat} {W W' : World} {S : Nat → Prop} (hs : ∀ b, b < n₀ → ¬ S b → W'.heap[b]? = W.heap[b]?) (hn : ∀ b, S b → ∀ str, W.cell? ⟨b, 0, none⟩ ≠ some (.string str)) (hN : n₀ ≤ N) : ∀ {ws : List ByteArray} {v : Value}, Ch Ad n₀ W k ws v → Ch Ad N W' k ws v
  | [], _, hc => hc
  | _ :: _, _, ⟨b, inner, hv, hb, c0, c1, hi⟩ => by
    have e : W'.heap[b]? = W.heap[b]? := hs b hb fun q => hn b q _ c0
    refine ⟨b, inner, hv, by omega, ?_, ?_, ch_kept hs hn hN hi⟩
    · rw [← c0]; simp only [World.cell?, e]
    · rw [← c1]; simp only [World.cell?, e]
/-- Badges, and blocks beside them. -/
structure Bw (W1 : World) (bb ob nb : Nat) (n : Int) (l : Prs) (fr : List (Nat × Obj)) (w : World) : Prop where
  bg : Bg W1.heap.size w bb ob nb n l
  bel : Below W1.heap.size W1 w
  fr' : ∀ x ∈ fr, w.heap[x.1]? = some x.2 ∧ ¬ Ft bb ob nb x.1
section
variable {W1 w w' : World} {bb ob nb : Nat} {n : Int} {l : Prs} {fr : List (Nat × Obj)} {Ad : Nat → Addr}
theorem Bw.later (h : Bw W1 bb ob nb n l fr w) (hb : Below w.heap.size w w') : Bw W1 bb ob nb n l fr w' :=
  ⟨h.bg.later hb, h.bel.trans (hb.mono h.bel.size), fun x hx => ⟨blk_seen hb (Nat.le_refl _) (h.fr' x hx).1, (h.fr' x hx).2⟩⟩
theorem Bw.alloc (h : Bw W1 bb ob nb n l fr w) (cs : Array Value) (ty : TypeId) : Bw W1 bb ob nb n l ((w.heap.size, .cells cs ty (0, 0)) :: fr) (w.alloc (.cells cs ty)) := by
  have h' := h.later (bAl w (.cells cs ty))
  refine ⟨h'.bg, h'.bel, fun x hx => ?_⟩
  rcases List.mem_cons.1 hx with rfl | hx
  · exact ⟨heap_alloc_new w _, fun q => by have := (h.bg.lt _ q).2; omega⟩
  · exact h'.fr' x hx
theorem Bw.at (h : Bw W1 bb ob nb n l fr w) {k : Nat} {o : Obj} (hk : (k, o) ∈ fr) : w.heap[k]? = some o := (h.fr' _ hk).1
theorem Bw.few (h : Bw W1 bb ob nb n l fr w) {fr' : List (Nat × Obj)} (hf : ∀ x ∈ fr', x ∈ fr) : Bw W1 bb ob nb n l fr' w := ⟨h.bg, h.bel, fun x hx => h.fr' x (hf x hx)⟩
theorem Bw.env (h : Bw W1 bb ob nb n l fr w) (hE : Env5 W1 Ad) : Env5 w Ad := hE.later h.bel
theorem Bw.step {n' : Int} {l' : Prs} (h : Bw W1 bb ob nb n l fr w) (hg : Bg W1.heap.size w' bb ob nb n' l') (hs : St (fun k => Ft bb ob nb k) w w') : Bw W1 bb ob nb n' l' fr w' :=
  ⟨hg, h.bel.trans (hs.below (B := W1.heap.size) (fun k hk => (h.bg.lt k hk).1) h.bel.size), fun x hx => ⟨hs.at (h.fr' x hx).1 (h.fr' x hx).2, (h.fr' x hx).2⟩⟩
/-- Errors that were told before are told still. -/
theorem Bw.err (h : Bw W1 bb ob nb n l fr w) (hs : St (fun k => Ft bb ob nb k) w w') {v : Value} {k d : Nat} (hv : Err Ad w v k d) : Err Ad w' v k d := by
  obtain ⟨ws, h1, h2⟩ := hv
  refine ⟨ws, ch_kept (S := fun k => Ft bb ob nb k) (fun b hb hn => hs.block b hb hn) (fun b hb str e => ?_) hs.size h1, h2⟩
  rcases hb with rfl | rfl | rfl
  · rw [h.bg.c0] at e; cases e
  · obtain ⟨es, cl, q⟩ := h.bg.m1.obj
    simp [World.cell?, q] at e
  · obtain ⟨es, cl, q⟩ := h.bg.m2.obj
    simp [World.cell?, q] at e
theorem bw_give (h : Bw W1 bb ob nb n l fr w) (i g : Int) (hi : I64 i) (hg : I64 g) (hn : num l (i, g) = none) (hf : n ≤ 1073741824) :
    Calls Tryz.prog 24 #[.pointer (some ⟨bb, 0, none⟩), .agg #[.int .i64 i, .int .i64 g]] w fun e w' => e = .returned (.tuple #[.int .i64 n, .nilIface]) ∧ Bw W1 bb ob nb (n + 1) (ins (n, i, g) l) fr w' ∧ St (fun k => Ft bb ob nb k) w w' :=
  (give_ok h.bg i g hi hg hn hf).mono fun _ _ ⟨q1, q2, q3⟩ => ⟨q1, h.step q2 q3, q3⟩
theorem bw_pin (h : Bw W1 bb ob nb n l fr w) (id i g : Int) (hi : I64 i) (hg : I64 g) (h1 : 1 ≤ id) (h2 : id < n) (hw : who l id = none) (hn : num l (i, g) = none) :
    Calls Tryz.prog 19 #[.pointer (some ⟨bb, 0, none⟩), .int .i64 id, .agg #[.int .i64 i, .int .i64 g]] w fun e w' => e = .returned .nilIface ∧ Bw W1 bb ob nb n (ins (id, i, g) l) fr w' ∧ St (fun k => Ft bb ob nb k) w w' :=
  (pin_ok h.bg id i g hi hg h1 h2 hw hn).mono fun _ _ ⟨q1, q2, q3⟩ => ⟨q1, h.step q2 q3, q3⟩
theorem bw_turn (h : Bw W1 bb ob nb n l fr w) (next : Int) (ht : turnB l next = true) :
    Calls Tryz.prog 17 #[.pointer (some ⟨bb, 0, none⟩), .int .i64 next] w fun e w' => e = .returned (.tuple #[.int .i64 n, .nilIface]) ∧ Bw W1 bb ob nb next l fr w' ∧ St (fun k => Ft bb ob nb k) w w' :=
  (turn_ok h.bg next ht).mono fun _ _ ⟨q1, q2, q3⟩ => ⟨q1, h.step q2 q3, q3⟩
end
theorem drewN_below (W : World) (m : Nat) : Below W.heap.size W (W.drewN m) := by
  induction m generalizing W with
  | zero => exact Below.refl _ _
  | succ m ih => exact (ih W).drew
/-- A row of numbers. -/
def IRow (W : World) (v : Value) (xs : List Int) : Prop := ∃ a c, v = .slice a xs.length c ∧ (xs = [] ∨ ∃ b o, a = some ⟨b, o, none⟩ ∧ ∀ (j : Nat) x, xs[j]? = some x → W.cell? ⟨b, o + j, none⟩ = some (.int .i64 x))
theorem IRow.later {W W' : World} {v : Value} {xs : List Int} (h : IRow W v xs) (hb : Below W.heap.size W W') : IRow W' v xs := by
  obtain ⟨a, c, h1, h2⟩ := h
  refine ⟨a, c, h1, h2.imp id ?_⟩
  rintro ⟨b, o, h3, h4⟩
  exact ⟨b, o, h3, fun j x hx => seen hb (Nat.le_refl _) (h4 j x hx)⟩
theorem irow_of {B : Nat} {W : World} {v : Value} {xs : List Int} (h : W.ownsRow B 3 1 v xs.length (xs.map Go.encZ)) : IRow W v xs := by
  rcases h with ⟨h0, ⟨h1, h2⟩ | ⟨g, cap, cur, h1, h2, h3, h4, h5, h6, h7⟩⟩
  · exact ⟨none, 0, by rw [h1, h2], .inl (List.length_eq_zero_iff.1 h2)⟩
  · refine ⟨some ⟨g, 0, none⟩, cap, h1, .inr ⟨g, 0, rfl, fun j x hj => ?_⟩⟩
    have hlt := (List.getElem?_eq_some_iff.1 hj).1
    rw [Nat.zero_add]
    refine cell_blk h3 ?_
    have e : (cur.toList.take (xs.length * 1))[j]? = some (Go.encZ x) := by rw [h7, List.getElem?_map, hj]; rfl
    rw [List.getElem?_take_of_lt (by omega)] at e
    rw [← Array.getElem?_toList]
    exact e
set_option maxHeartbeats 1600000 in
set_option maxRecDepth 100000 in
theorem same_any (W : World) (v u : Value) (xs : List Int) (h : IRow W v xs) (h' : IRow W u xs) (hl : xs.length ≤ 1000) :
    Calls Tryz.prog 12 #[v, u] W fun e W' => e = .returned (.bool true) ∧ Below W.heap.size W W' := by
  have H := hid h
  have H' := hid h'
  obtain ⟨a, c, rfl, -⟩ := h
  obtain ⟨a', c', rfl, -⟩ := h'
  have hli : (xs.length : Int) ≤ 1000 := by omega
  go_enter Tryz.func12, Tryz.ntmps12
  go_wp2_with fail
  go_loopg [5] xs.length (fun gh i wr => ∃ k : Nat, k ≤ xs.length ∧ gh = xs.length - k ∧ i = .int .i64 (k : Int) ∧ Hid (Below W.heap.size W wr))
  case atStart => exact ⟨0, Nat.zero_le _, rfl, rfl, Below.refl _ _⟩
  case round =>
    rename World => wr
    obtain ⟨k, hk, rfl, rfl, HB⟩ := hrel
    by_cases hlt : k < xs.length
    · have hki : (k : Int) < (xs.length : Int) := by omega
      obtain ⟨x, hx⟩ := at_lt xs k hlt
      obtain ⟨b, o, rfl, d0⟩ : ∃ b o, a = some ⟨b, o, none⟩ ∧ wr.cell? ⟨b, o + k, none⟩ = some (.int .i64 x) := by
        obtain ⟨a2, c2, hv, hl2⟩ := H.out.later HB.out
        obtain ⟨rfl, rfl⟩ : a = a2 ∧ c = c2 := by simpa using hv
        rcases hl2 with q | ⟨b, o, q1, q2⟩
        · rw [q] at hlt; simp at hlt
        · exact ⟨b, o, q1, q2 k x hx⟩
      obtain ⟨b', o', rfl, d1⟩ : ∃ b o, a' = some ⟨b, o, none⟩ ∧ wr.cell? ⟨b, o + k, none⟩ = some (.int .i64 x) := by
        obtain ⟨a2, c2, hv, hl2⟩ := H'.out.later HB.out
        obtain ⟨rfl, rfl⟩ : a' = a2 ∧ c' = c2 := by simpa using hv
        rcases hl2 with q | ⟨b, o, q1, q2⟩
        · rw [q] at hlt; simp at hlt
        · exact ⟨b, o, q1, q2 k x hx⟩
      clear hx
      go_wp2_with fail
      go_quiet (fail)
      go_wp2_with fail
      go_roundg (xs.length - (k + 1))
      case measure => omega
      case rel => exact ⟨k + 1, by omega, rfl, by go_num, by first | exact HB.out | exact HB.out.drew | exact HB.out.trans ((drewN_below _ _).mono HB.out.size)⟩
    · have hki : ¬ (k : Int) < (xs.length : Int) := by omega
      clear hk hlt
      go_wp2_with fail
      go_ret
      exact ⟨rfl, HB.out⟩
end Go.Proofs.YtoafpfheopgdkaaGreatDoor.Bd
namespace Go.Proofs.YtoafpfheopgdkaaGreatDoor.Qu
open Go.Proofs.YtoafpfheopgdkaaGreatDoor.Rs (Prt)
open Go.Proofs.YtoafpfheopgdkaaGreatDoor.At (lst lst_mem an wi wi_bit)
/-- What a map of the greatest frames is behind a part more. -/
def stp (m : Int → Option Int) (p : Prt) : Int → Option Int :=
  match m p.c with
  | none => fun i => if i = p.c then some p.t else m i
  | some x => if x < p.t then fun i => if i = p.c then some p.t else m i else m
def tk (l : List Prt) : Int → Option Int := l.foldl stp fun _ => none
theorem tk_next {l : List Prt} {k : Nat} {p : Prt} (h : l[k]? = some p) : tk (l.take (k + 1)) = stp (tk (l.take k)) p := by
  obtain ⟨hl, rfl⟩ := List.getElem?_eq_some_iff.1 h
  unfold tk
  rw [List.take_succ_eq_append_getElem hl, List.foldl_append]
  rfl
def hasP (l : List Prt) (i : Int) : Bool := l.any fun p => p.c == i
def lateP (l : List Prt) (i s : Int) : Bool := l.any fun p => p.c == i && decide (s ≤ p.t)
theorem hasP_iff (l : List Prt) (i : Int) : hasP l i = true ↔ ∃ p ∈ l, p.c = i := by
  unfold hasP; rw [List.any_eq_true]; constructor <;> rintro ⟨p, h, e⟩ <;> exact ⟨p, h, by simpa using e⟩
theorem lateP_iff (l : List Prt) (i s : Int) : lateP l i s = true ↔ ∃ p ∈ l, p.c = i ∧ s ≤ p.t := by
  unfold lateP; rw [List.any_eq_true]; constructor <;> rintro ⟨p, h, e⟩ <;> exact ⟨p, h, by simpa using e⟩
def Grt (l : List Prt) (m : Int → Option Int) : Prop := ∀ i, (m i = none → ∀ p ∈ l, p.c ≠ i) ∧ ∀ x, m i = some x → (∃ p ∈ l, p.c = i ∧ p.t = x) ∧ ∀ p ∈ l, p.c = i → p.t ≤ x
theorem Grt.step {l : List Prt} {m : Int → Option Int} (h : Grt l m) (p : Prt) : Grt (l ++ [p]) (stp m p) := by
  intro i
  unfold stp
  have hp := h p.c
  have hi := h i
  cases e : m p.c with
  | none =>
    simp only
    by_cases q : i = p.c
    · subst q
      rw [if_pos rfl]
      refine ⟨fun z => by simp at z, fun x hx => ?_⟩
      obtain rfl : p.t = x := by simpa using hx
      refine ⟨⟨p, by simp, rfl, rfl⟩, fun p' hp' hc => ?_⟩
      rcases List.mem_append.1 hp' with h1 | h1
      · exact absurd hc (hp.1 e p' h1)
      · obtain rfl : p' = p := by simpa using h1
        exact Int.le_refl _
    · rw [if_neg q]
      refine ⟨fun z p' hp' => ?_, fun x hx => ⟨?_, fun p' hp' hc => ?_⟩⟩
      · rcases List.mem_append.1 hp' with h1 | h1
        · exact hi.1 z p' h1
        · obtain rfl : p' = p := by simpa using h1
          exact fun w => q w.symm
      · obtain ⟨p', h1, h2⟩ := (hi.2 x hx).1
        exact ⟨p', List.mem_append_left _ h1, h2⟩
      · rcases List.mem_append.1 hp' with h1 | h1
        · exact (hi.2 x hx).2 p' h1 hc
        · obtain rfl : p' = p := by simpa using h1
          exact absurd hc.symm q
  | some x0 =>
    simp only
    have hp2 := hp.2 x0 e
    by_cases ht : x0 < p.t
    · rw [if_pos ht]
      by_cases q : i = p.c
      · subst q
        rw [if_pos rfl]
        refine ⟨fun z => by simp at z, fun x hx => ?_⟩
        obtain rfl : p.t = x := by simpa using hx
        refine ⟨⟨p, by simp, rfl, rfl⟩, fun p' hp' hc => ?_⟩
        rcases List.mem_append.1 hp' with h1 | h1
        · have := hp2.2 p' h1 hc; omega
        · obtain rfl : p' = p := by simpa using h1
          exact Int.le_refl _
      · rw [if_neg q]
        refine ⟨fun z p' hp' => ?_, fun x hx => ⟨?_, fun p' hp' hc => ?_⟩⟩
        · rcases List.mem_append.1 hp' with h1 | h1
          · exact hi.1 z p' h1
          · obtain rfl : p' = p := by simpa using h1
            exact fun w => q w.symm
        · obtain ⟨p', h1, h2⟩ := (hi.2 x hx).1
          exact ⟨p', List.mem_append_left _ h1, h2⟩
        · rcases List.mem_append.1 hp' with h1 | h1
          · exact (hi.2 x hx).2 p' h1 hc
          · obtain rfl : p' = p := by simpa using h1
            exact absurd hc.symm q
    · rw [if_neg ht]
      refine ⟨fun z p' hp' => ?_, fun x hx => ⟨?_, fun p' hp' hc => ?_⟩⟩
      · rcases List.mem_append.1 hp' with h1 | h1
        · exact hi.1 z p' h1
        · obtain rfl : p' = p := by simpa using h1
          rintro rfl
          rw [e] at z; simp at z
      · obtain ⟨p', h1, h2⟩ := (hi.2 x hx).1
        exact ⟨p', List.mem_append_left _ h1, h2⟩
      · rcases List.mem_append.1 hp' with h1 | h1
        · exact (hi.2 x hx).2 p' h1 hc
        · obtain rfl : p' = p := by simpa using h1
          subst hc
          rw [e] at hx
          obtain rfl : x0 = x := by simpa using hx
          omega
theorem tk_grt (l : List Prt) : Grt l (tk l) := by
  suffices h : ∀ (l l0 : List Prt) (m : Int → Option Int), Grt l0 m → Grt (l0 ++ l) (l.foldl stp m) by
    have := h l [] (fun _ => none) (fun i => ⟨fun _ p hp => by simp at hp, fun x hx => by simp at hx⟩)
    simpa [tk] using this
  intro l
  induction l with
  | nil => intro l0 m h; simpa using h
  | cons p l ih =>
    intro l0 m h
    have := ih (l0 ++ [p]) (stp m p) (h.step p)
    simpa using this
theorem tk_has (l : List Prt) (i : Int) : (tk l i).isSome = hasP l i := by
  rw [Bool.eq_iff_iff, hasP_iff]
  have h := tk_grt l i
  cases e : tk l i with
  | none => simp; exact fun p hp => h.1 e p hp
  | some x =>
    simp
    obtain ⟨p, hp, hc, _⟩ := (h.2 x e).1
    exact ⟨p, hp, hc⟩
theorem tk_late (l : List Prt) (i s : Int) : ((tk l i).isSome && decide (s ≤ (tk l i).getD 0)) = lateP l i s := by
  rw [Bool.eq_iff_iff, lateP_iff]
  have h := tk_grt l i
  cases e : tk l i with
  | none => simp; exact fun p hp hc => absurd hc (h.1 e p hp)
  | some x =>
    obtain ⟨⟨p, hp, hc, ht⟩, hmax⟩ := h.2 x e
    simp
    constructor
    · intro hs; exact ⟨p, hp, hc, by omega⟩
    · rintro ⟨p', h1, h2, h3⟩; have := hmax p' h1 h2; omega
theorem tk_small (l : List Prt) (I : Int → Prop) (hI : ∀ p ∈ l, I p.t) (i x : Int) (h : tk l i = some x) : I x := by
  obtain ⟨⟨p, hp, _, rfl⟩, _⟩ := (tk_grt l i).2 x h
  exact hI p hp
/-- The frame that is the first one that is lately. -/
def snc (fr : Int) : Int := max fr (-4611686018427387904) - 1
/-- Something holds of all of a set. -/
def evB (m : Nat) (P : Int → Bool) : Bool := (lst 32 m).all fun i => P ((i : Nat) : Int)
theorem evB_iff (m : Nat) (P : Int → Bool) : evB m P = true ↔ ∀ i, i < 32 → m.testBit i = true → P ((i : Nat) : Int) = true := by
  unfold evB
  rw [List.all_eq_true]
  constructor
  · intro h i h1 h2; exact h i ((lst_mem m i 32).2 ⟨h1, h2⟩)
  · intro h i hi; exact h i ((lst_mem m i 32).1 hi).1 ((lst_mem m i 32).1 hi).2
/-- Whether a filter means parts, in a frame. -/
def meansB (a b c : Nat) (fr : Int) (l : List Prt) : Bool := evB a (hasP l) && evB b (fun i => !hasP l i) && evB c (fun i => lateP l i (snc fr))
theorem meansB_iff (a b c : Nat) (fr : Int) (l : List Prt) : meansB a b c fr l = true ↔ ∀ i, i < 32 → (a.testBit i = true → hasP l (i : Int) = true) ∧ (b.testBit i = true → hasP l (i : Int) = false) ∧ (c.testBit i = true → lateP l (i : Int) (snc fr) = true) := by
  unfold meansB
  rw [Bool.and_eq_true, Bool.and_eq_true, evB_iff, evB_iff, evB_iff]
  constructor
  · rintro ⟨⟨h1, h2⟩, h3⟩ i hi; exact ⟨h1 i hi, fun q => by simpa using h2 i hi q, h3 i hi⟩
  · intro h; exact ⟨⟨fun i hi => (h i hi).1, fun i hi q => by simpa using (h i hi).2.1 q⟩, fun i hi => (h i hi).2.2⟩
end Go.Proofs.YtoafpfheopgdkaaGreatDoor.Qu
namespace Go.Proofs.YtoafpfheopgdkaaGreatDoor.Qu
open Go.RowKit Go.Shelf Go.Maps
open Go.Proofs.YtoafpfheopgdkaaGreatDoor.Rs (Prt PRow Six)
open Go.Proofs.YtoafpfheopgdkaaGreatDoor.At (St bAl cell_blk blk_seen blk_free)
theorem keyedI : Keyed Tryz.prog 3 := int_keyed Tryz.underlying3
theorem zeroI (w : World) : (zeroValue 3).run Tryz.prog w = .ok (.int .i64 0) w := by kernel_rfl
def J64 (i : Int) : Prop := (Lit.int .i64 i).wf = true
theorem J64_mid {n : Int} (h0 : -1000000 ≤ n) (h1 : n ≤ 2147483648) : J64 n := by
  unfold J64 Lit.wf
  simp [IntKind.min, IntKind.max, IntKind.signed, IntKind.bits]
  omega
theorem keyI (i : Int) (h : J64 i) : keyOf Tryz.prog 3 (.int .i64 i) = some (.int .i64 i) := keyOf_int_mk Tryz.underlying3 h
theorem isKeyI (i : Int) : WideAt.IsKeyLit (.int .i64 i) := trivial
theorem key_ne {i j : Int} (h : i ≠ j) : (Lit.int .i64 i) ≠ .int .i64 j := fun e => h (by simpa using e)
/-- What a map of ints says. -/
def Hd (D : DataW Unit) (f : Int → Option Int) : Prop := ∀ i, J64 i → Maps.has D (.int .i64 i) = (f i).isSome ∧ D.atKey (.int .i64 i) (.lit (.int .i64 0)) = .lit (.int .i64 ((f i).getD 0))
/-- A map of ints in memory, with at most so many. -/
def Tm (W : World) (mb : Nat) (z : Nat) (f : Int → Option Int) : Prop := ∃ D, W.ownsMap Tryz.prog 3 (plainElem Tryz.prog 3) mb (Maps.size D) D ∧ Hd D f ∧ Maps.size D ≤ z
theorem undT : Tryz.prog.underlying 120 = some (.map 3 3) := Tryz.underlying120
theorem own_sizeI {W : World} {mb n : Nat} {D : DataW Unit} (h : W.ownsMap Tryz.prog 3 (plainElem Tryz.prog 3) mb n D) : W.ownsMap Tryz.prog 3 (plainElem Tryz.prog 3) mb (Maps.size D) D := by
  obtain ⟨es, clock, hb, F, _, rfl⟩ := h
  exact ⟨es, clock, hb, F, by simp [Maps.size, length_sorted], rfl⟩
section
variable {W W' : World} {mb z : Nat} {f : Int → Option Int}
theorem Tm.lt (h : Tm W mb z f) : mb < W.heap.size := by obtain ⟨D, h1, -⟩ := h; exact h1.lt
theorem Tm.kept {T : Nat → Prop} (h : Tm W mb z f) (hs : St T W W') (hn : ¬ T mb) : Tm W' mb z f := by
  obtain ⟨D, ⟨es, clock, hb, q⟩, hH⟩ := h
  exact ⟨D, ⟨es, clock, hs.at hb hn, q⟩, hH⟩
theorem Tm.later (h : Tm W mb z f) (hb : Below W.heap.size W W') : Tm W' mb z f := h.kept (T := fun _ => False) (St.of_below hb) fun q => q
theorem tm_made (W : World) : Tm (W.alloc (.map #[] 0)) W.heap.size 0 (fun _ => none) :=
  ⟨.map [], World.ownsMap_made W Tryz.prog 3 (plainElem Tryz.prog 3), fun _ _ => ⟨rfl, rfl⟩, Nat.le_refl _⟩
theorem Tm.look2 (h : Tm W mb z f) (i : Int) (hi : J64 i) : (Instr.lookup 120 (.map (some mb)) (.int .i64 i) true).run Tryz.prog W = .ok (.tuple #[.int .i64 ((f i).getD 0), .bool (f i).isSome]) W := by
  obtain ⟨D, h1, hH, -⟩ := h
  obtain ⟨v, ps, hr, hv⟩ := h1.look_ok keyedI undT (zeroI W) (plainElem_int Tryz.underlying3 (show (Lit.int .i64 0).wf = true by decide)) (keyI i hi)
  obtain ⟨a, rfl, e2, -⟩ := plainElem_int_inv Tryz.underlying3 hv
  rw [(hH i hi).2] at e2
  simp only [Prod.mk.injEq, DataW.lit.injEq, Lit.int.injEq, true_and] at e2
  rw [hr, (hH i hi).1, e2.1]
theorem Tm.look1 (h : Tm W mb z f) (i : Int) (hi : J64 i) : (Instr.lookup 120 (.map (some mb)) (.int .i64 i) false).run Tryz.prog W = .ok (.int .i64 ((f i).getD 0)) W := by
  obtain ⟨D, h1, hH, -⟩ := h
  obtain ⟨c, hr, e, -⟩ := h1.lookup_int keyedI undT Tryz.underlying3 (zeroI W) (keyI i hi)
  rw [(hH i hi).2] at e
  simp only [DataW.lit.injEq, Lit.int.injEq, true_and] at e
  rw [hr, e]
theorem Tm.store (h : Tm W mb z f) (hz : z ≤ 100000) (i x : Int) (hi : J64 i) (hx : J64 x) :
    ∃ w', (Instr.mapUpdate 120 (.map (some mb)) (.int .i64 i) (.int .i64 x)).run Tryz.prog W = .ok () w' ∧ Tm w' mb (z + 1) (fun j => if j = i then some x else f j) ∧ St (fun k => k = mb) W w' := by
  obtain ⟨D, h1, hH, hs⟩ := h
  obtain ⟨w', hr, h2, h3⟩ := h1.store keyedI undT (by unfold maxLen; omega) (keyI i hi) (plainElem_int Tryz.underlying3 hx)
  have hD := h1.tidy keyedI
  refine ⟨w', hr, ⟨_, own_sizeI h2, fun j hj => ?_, ?_⟩, St.of_grown h3.grown fun k e => by simpa using e.symm⟩
  · show Maps.has _ _ = (if j = i then some x else f j).isSome ∧ _ = DataW.lit (Lit.int .i64 ((if j = i then some x else f j).getD 0))
    by_cases q : j = i
    · subst q
      rw [if_pos rfl]
      exact ⟨Maps.has_put_same hD.isMap (isKeyI _) _, Maps.atKey_put_same hD.isMap (isKeyI _) _ _⟩
    · rw [if_neg q, Maps.has_put_other (key_ne q), Maps.atKey_put_other (key_ne q)]
      exact hH j hj
  · rw [Maps.size_put hD]
    split <;> omega
end
set_option maxHeartbeats 800000 in
theorem thas_any {W : World} {mb z : Nat} {f : Int → Option Int} (h : Tm W mb z f) (i : Int) (hi : J64 i) :
    Calls Tryz.prog 50 #[.map (some mb), .int .i64 i] W fun e W' => e = .returned (.bool (f i).isSome) ∧ W' = W := by
  have lk := h.look2 i hi
  clear h hi
  go_enter Tryz.func50, Tryz.ntmps50
  go_wp2_with fail
  go_ret
  exact ⟨rfl, rfl⟩
set_option maxHeartbeats 800000 in
theorem lacks_any {W : World} {mb z : Nat} {f : Int → Option Int} (h : Tm W mb z f) (i : Int) (hi : J64 i) :
    Calls Tryz.prog 52 #[.map (some mb), .int .i64 i] W fun e W' => e = .returned (.bool (f i).isNone) ∧ W' = W := by
  have C := hid (thas_any h i hi)
  clear h hi
  go_enter Tryz.func52, Tryz.ntmps52
  go_wp2_with fail
  refine C.out.mono ?_
  rintro e w1 ⟨rfl, hw⟩
  obtain rfl := hw.symm
  go_wp2_with fail
  go_ret
  exact ⟨rfl, rfl⟩
end Go.Proofs.YtoafpfheopgdkaaGreatDoor.Qu
namespace Go.Proofs.YtoafpfheopgdkaaGreatDoor.Qu
open Go.RowKit Go.Shelf Go.Maps
open Go.Proofs.YtoafpfheopgdkaaGreatDoor.Rs (Prt PRow Six)
open Go.Proofs.YtoafpfheopgdkaaGreatDoor.At (St bAl cell_blk blk_seen blk_free lst lst_mem lst_len Ints)
/-- Behind k of them nothing was amiss. -/
def okTo (cs : List Nat) (P : Int → Bool) (k : Nat) : Prop := ∀ j, j < k → ∀ c, cs[j]? = some c → P ((c : Nat) : Int) = true
set_option maxHeartbeats 3200000 in
set_option maxRecDepth 100000 in
theorem every_any (fk : Nat) (pre lb : Array Value) (eg : ∀ args w, (callFunc fk args).run Tryz.prog w = .ok (.enter fk args) w) {W : World} (m : Nat) (hm : m < 4294967296) (P : Int → Bool)
    (hstep : ∀ (c : Nat) w, c < 32 → Below W.heap.size W w → Calls Tryz.prog fk (pre ++ #[.int .i64 ((c : Nat) : Int)] ++ lb) w fun e w' => e = .returned (.bool (P ((c : Nat) : Int))) ∧ Below w.heap.size w w') :
    Calls Tryz.prog 51 #[.int .u32 (m : Int), .func (.func fk) pre lb] W fun e W' => e = .returned (.bool (evB m P)) ∧ Below W.heap.size W W' := by
  have LI := hid (At.list_any m hm W)
  have HS := hid hstep
  have hln := lst_len m 32
  have HB : Hid (∀ c, c ∈ lst 32 m → c < 32) := fun c hc => ((lst_mem m c 32).1 hc).1
  have HV : Hid (evB m P = (lst 32 m).all fun i => P ((i : Nat) : Int)) := rfl
  clear hstep
  go_enter Tryz.func51, Tryz.ntmps51
  go_wp2_with fail
  refine LI.out.mono ?_
  rintro e w1 ⟨lv0, rfl, hlv, hb1⟩
  obtain ⟨la, lc, rfl⟩ := hlv.slice
  generalize lst 32 m = cs at *
  have B1 := hid hb1
  have L1 := hid hlv
  clear hlv hb1 LI
  have hleni : (cs.length : Int) ≤ 32 := by omega
  go_wp2_with fail
  go_loopg [6, 10] cs.length (fun gh _ q wr => ∃ k : Nat, k ≤ cs.length ∧ gh = cs.length - k ∧ q = .int .i64 (k : Int) ∧ Hid (Below w1.heap.size w1 wr) ∧ Hid (okTo cs P k))
  case atStart => exact ⟨0, Nat.zero_le _, rfl, rfl, Below.refl _ _, fun j hj => absurd hj (by omega)⟩
  case round =>
    rename World => wr
    obtain ⟨k, hk, rfl, rfl, HW, HK⟩ := hrel
    have BW := hid (B1.out.trans (HW.out.mono B1.out.size))
    by_cases hlt : k < cs.length
    · have hki : (k : Int) < (cs.length : Int) := by omega
      obtain ⟨c, hc⟩ := at_lt cs k hlt
      have LW := L1.out.later HW.out
      obtain ⟨g, rfl, -, -⟩ := LW.some (by omega)
      have x1 := LW.cell hc
      have ST := hid (HS.out c wr (HB.out c (List.mem_of_getElem? hc)) BW.out)
      have HC := hid hc
      clear hc LW
      go_wp2_with fail
      refine ST.out.mono ?_
      rintro e w2 ⟨rfl, hb2⟩
      have B2 := hid (HW.out.trans (hb2.mono HW.out.size))
      have BW2 := hid (BW.out.trans (hb2.mono BW.out.size))
      clear hb2 ST x1
      cases hp : P ((c : Nat) : Int) with
      | true =>
        have K2 : Hid (okTo cs P (k + 1)) := fun j hj c' hc' => by
          by_cases e : j = k
          · subst e
            rw [HC.out] at hc'
            obtain rfl : c = c' := by simpa using hc'
            exact hp
          · exact HK.out j (by omega) c' hc'
        clear hp
        go_wp2_with fail
        go_roundg (cs.length - (k + 1))
        case measure => omega
        case rel => exact ⟨k + 1, by omega, rfl, by go_num, B2.out, K2.out⟩
      | false =>
        have R : Hid (evB m P = false) := by
          show _ = _
          rw [HV.out, Bool.eq_false_iff]
          intro q
          rw [List.all_eq_true] at q
          have := q c (List.mem_of_getElem? HC.out)
          rw [hp] at this
          cases this
        clear hp
        go_wp2_with fail
        go_ret
        exact ⟨by rw [R.out]; rfl, BW2.out⟩
    · have hki : ¬ ((k : Int) < (cs.length : Int)) := by omega
      have R : Hid (evB m P = true) := by
        show _ = _
        rw [HV.out, List.all_eq_true]
        intro c hc
        obtain ⟨j, hj, rfl⟩ := List.getElem_of_mem hc
        exact HK.out j (by omega) _ (List.getElem?_eq_getElem hj)
      go_wp2_with fail
      go_ret
      exact ⟨by rw [R.out]; rfl, BW.out⟩
end Go.Proofs.YtoafpfheopgdkaaGreatDoor.Qu
namespace Go.Proofs.YtoafpfheopgdkaaGreatDoor.Qu
open Go.RowKit Go.Shelf Go.Maps
open Go.Proofs.YtoafpfheopgdkaaGreatDoor.Rs (Prt PRow Six six_blk)
open Go.Proofs.YtoafpfheopgdkaaGreatDoor.At (St bAl cell_blk blk_seen blk_free)
set_option maxHeartbeats 3200000 in
set_option maxRecDepth 100000 in
theorem newest_any {W : World} {v : Value} {ps : List Prt} (hP : PRow W v ps) (hl : ps.length ≤ 1000) (hJ : ∀ p ∈ ps, J64 p.c ∧ J64 p.t) :
    Calls Tryz.prog 48 #[v] W fun e W' => ∃ mb, e = .returned (.map (some mb)) ∧ Tm W' mb ps.length (tk ps) ∧ W.heap.size ≤ mb ∧ Below W.heap.size W W' := by
  have HP := hid hP
  have HJ := hid hJ
  obtain ⟨a, c, rfl, -⟩ := hP
  have hli : (ps.length : Int) ≤ 1000 := by omega
  obtain ⟨w1, hw1⟩ : ∃ w1, w1 = W.alloc (.map #[] 0) := ⟨_, rfl⟩
  have T1 : Hid (Tm w1 W.heap.size 0 (fun _ => none)) := by rw [hw1]; exact tm_made W
  have B1 : Hid (Below W.heap.size W w1) := by rw [hw1]; exact bAl _ _
  have HW1 := hid hw1
  clear hw1 hJ
  have hmm := @run_makeMap Tryz.prog
  go_enter Tryz.func48, Tryz.ntmps48
  go_upto_region 2 with fail
  rw [← HW1.out]
  clear hmm
  go_wp2_with fail
  go_loopg [5, 9] ps.length (fun gh _ q wr => ∃ k : Nat, k ≤ ps.length ∧ gh = ps.length - k ∧ q = .int .i64 (k : Int) ∧ Hid (Tm wr W.heap.size k (tk (ps.take k))) ∧ Hid (Below W.heap.size W wr))
  case atStart => exact ⟨0, Nat.zero_le _, rfl, rfl, T1.out, B1.out⟩
  case round =>
    clear T1 B1
    rename World => wr
    obtain ⟨k, hk, rfl, rfl, HT, HB⟩ := hrel
    by_cases hlt : k < ps.length
    · have hki : (k : Int) < (ps.length : Int) := by omega
      obtain ⟨p, hp⟩ := at_lt ps k hlt
      obtain ⟨b, o, rfl, six⟩ := (HP.out.later HB.out).at hp
      obtain ⟨d0, d1, d2, d3, d4, d5⟩ := six
      have hj := HJ.out p (List.mem_of_getElem? hp)
      have TN := hid (tk_next hp)
      obtain ⟨w4, hw4⟩ : ∃ w4, w4 = wr.alloc (.cells #[.int .i64 p.c, .int .i64 p.v0, .int .i64 p.v1, .int .i64 p.v2, .int .i64 p.v3, .int .i64 p.t] 71) := ⟨_, rfl⟩
      have b4 : Below wr.heap.size wr w4 := by rw [hw4]; exact bAl _ _
      have r4 : w4.heap[wr.heap.size]? = some (.cells p.arr 71 (0, 0)) := by rw [hw4]; exact heap_alloc_new wr _
      have y0 := (six_blk r4).c0
      have y5 := (six_blk r4).c5
      have T4 := hid (HT.out.later b4)
      have B4 := hid (HB.out.trans (b4.mono HB.out.size))
      have HW4 := hid hw4
      have LK := hid (lacks_any T4.out p.c hj.1)
      have L1 : Hid _ := T4.out.look1 p.c hj.1
      have HJ1 := hid hj.1
      have HJ2 := hid hj.2
      obtain ⟨f, hf⟩ : ∃ f, f = tk (ps.take k) := ⟨_, rfl⟩
      rw [← hf] at LK TN T4 L1
      clear hp hw4 b4 r4 hf hj HT
      go_upto_region 5 with fail
      rw [← HW4.out]
      cases hn : f p.c with
      | none =>
        have E : Hid (tk (ps.take (k + 1)) = fun j => if j = p.c then some p.t else f j) := by
          show _ = _
          rw [TN.out]; unfold stp; rw [hn]
        obtain ⟨w6, s6, T6, S6⟩ := T4.out.store (by omega) p.c p.t HJ1.out HJ2.out
        have T6' := hid T6
        have B6 := hid (B4.out.trans (S6.below (B := W.heap.size) (fun x hx => by omega) B4.out.size))
        rw [hn] at LK
        clear T6 S6 hn TN
        go_wp2_with fail
        refine LK.out.mono ?_
        rintro e w5 ⟨rfl, hw⟩
        obtain rfl := hw.symm
        clear LK
        go_wp2_with fail
        go_roundg (ps.length - (k + 1))
        case measure => omega
        case rel => exact ⟨k + 1, by omega, rfl, by go_num, by rw [E.out]; exact T6'.out, B6.out⟩
      | some x =>
        have l1 := L1.out
        rw [hn] at l1 LK
        have l1 : (Instr.lookup 120 (.map (some W.heap.size)) (.int .i64 p.c) false).run Tryz.prog w4 = .ok (.int .i64 x) w4 := l1
        by_cases hx : x < p.t
        · have E : Hid (tk (ps.take (k + 1)) = fun j => if j = p.c then some p.t else f j) := by
            show _ = _
            rw [TN.out]; unfold stp; rw [hn]; simp only; rw [if_pos hx]
          obtain ⟨w6, s6, T6, S6⟩ := T4.out.store (by omega) p.c p.t HJ1.out HJ2.out
          have T6' := hid T6
          have B6 := hid (B4.out.trans (S6.below (B := W.heap.size) (fun x hx => by omega) B4.out.size))
          clear T6 S6 hn TN
          go_wp2_with fail
          refine LK.out.mono ?_
          rintro e w5 ⟨rfl, hw⟩
          obtain rfl := hw.symm
          clear LK
          go_wp2_with fail
          go_roundg (ps.length - (k + 1))
          case measure => omega
          case rel => exact ⟨k + 1, by omega, rfl, by go_num, by rw [E.out]; exact T6'.out, B6.out⟩
        · have E : Hid (tk (ps.take (k + 1)) = f) := by
            show _ = _
            rw [TN.out]; unfold stp; rw [hn]; simp only; rw [if_neg hx]
          have T6 : Hid (Tm w4 W.heap.size (k + 1) f) := by
            obtain ⟨D, q1, q2, q3⟩ := T4.out
            exact ⟨D, q1, q2, by omega⟩
          clear hn TN
          go_wp2_with fail
          refine LK.out.mono ?_
          rintro e w5 ⟨rfl, hw⟩
          obtain rfl := hw.symm
          clear LK
          go_wp2_with fail
          go_roundg (ps.length - (k + 1))
          case measure => omega
          case rel => exact ⟨k + 1, by omega, rfl, by go_num, by rw [E.out]; exact T6.out, B4.out⟩
    · have hki : ¬ ((k : Int) < (ps.length : Int)) := by omega
      have T8 : Hid (Tm wr W.heap.size ps.length (tk ps)) := by
        have := HT.out
        rw [List.take_of_length_le (by omega), show k = ps.length by omega] at this
        exact this
      go_wp2_with fail
      go_ret
      exact ⟨_, rfl, T8.out, Nat.le_refl _, HB.out⟩
end Go.Proofs.YtoafpfheopgdkaaGreatDoor.Qu
namespace Go.Proofs.YtoafpfheopgdkaaGreatDoor.Qu
open Go.RowKit Go.Shelf Go.Maps
open Go.Proofs.YtoafpfheopgdkaaGreatDoor.Rs (Prt PRow Six six_blk)
open Go.Proofs.YtoafpfheopgdkaaGreatDoor.At (St bAl cell_blk blk_seen blk_free)
set_option maxHeartbeats 800000 in
set_option maxRecDepth 100000 in
theorem lately_any {W : World} {mb z tb sb : Nat} {f : Int → Option Int} {s : Int} (h : Tm W mb z f) (ht : W.cell? ⟨tb, 0, none⟩ = some (.map (some mb))) (hs : W.cell? ⟨sb, 0, none⟩ = some (.int .i64 s)) (i : Int) (hi : J64 i) :
    Calls Tryz.prog 49 #[.int .i64 i, .pointer (some ⟨tb, 0, none⟩), .pointer (some ⟨sb, 0, none⟩)] W fun e W' => e = .returned (.bool ((f i).isSome && decide (s ≤ (f i).getD 0))) ∧ W' = W := by
  have C := hid (thas_any h i hi)
  have l1 := h.look1 i hi
  clear h hi
  cases hn : f i with
  | none =>
    rw [hn] at C l1
    clear hn
    go_enter Tryz.func49, Tryz.ntmps49
    go_wp2_with fail
    refine C.out.mono ?_
    rintro e w1 ⟨rfl, hw⟩
    obtain rfl := hw.symm
    go_wp2_with fail
    go_ret
    exact ⟨rfl, rfl⟩
  | some x =>
    rw [hn] at C l1
    have l1 : (Instr.lookup 120 (.map (some mb)) (.int .i64 i) false).run Tryz.prog W = .ok (.int .i64 x) W := l1
    clear hn
    go_enter Tryz.func49, Tryz.ntmps49
    go_wp2_with fail
    refine C.out.mono ?_
    rintro e w1 ⟨rfl, hw⟩
    obtain rfl := hw.symm
    go_wp2_with fail
    go_ret
    exact ⟨by simp, rfl⟩
theorem enters_has : ∀ args w, (callFunc 50 args).run Tryz.prog w = .ok (.enter 50 args) w := enters_of Tryz.func50 (by kernel_rfl) rfl
theorem enters_lacks : ∀ args w, (callFunc 52 args).run Tryz.prog w = .ok (.enter 52 args) w := enters_of Tryz.func52 (by kernel_rfl) rfl
theorem enters_lately : ∀ args w, (callFunc 49 args).run Tryz.prog w = .ok (.enter 49 args) w := enters_of Tryz.func49 (by kernel_rfl) rfl
theorem snc_wrap (fr : Int) (h : J64 fr) : wrap64 ((if fr < -4611686018427387904 then -4611686018427387904 else fr) - 1) = snc fr := by
  have h1 : -9223372036854775808 ≤ fr ∧ fr ≤ 9223372036854775807 := by
    unfold J64 Lit.wf at h
    simp [IntKind.min, IntKind.max, IntKind.signed, IntKind.bits] at h
    omega
  unfold snc
  by_cases q : fr < -4611686018427387904
  · rw [if_pos q, show max fr (-4611686018427387904) = -4611686018427387904 by omega]
    unfold wrap64; omega
  · rw [if_neg q, show max fr (-4611686018427387904) = fr by omega]
    unfold wrap64; omega
set_option maxHeartbeats 1600000 in
set_option maxRecDepth 100000 in
theorem means_any {W : World} {v : Value} {ps : List Prt} (a b c : Nat) (ha : a < 4294967296) (hb : b < 4294967296) (hc : c < 4294967296) (fr : Int) (hfr : J64 fr) (hP : PRow W v ps) (hl : ps.length ≤ 1000) (hJ : ∀ p ∈ ps, J64 p.c ∧ J64 p.t) :
    Calls Tryz.prog 23 #[.agg #[.int .u32 (a : Int), .int .u32 (b : Int), .int .u32 (c : Int)], .int .i64 fr, v] W fun e W' => e = .returned (.bool (meansB a b c fr ps)) ∧ Below W.heap.size W W' := by
  obtain ⟨w1, hw1⟩ : ∃ w1, w1 = W.alloc (.cells #[.int .u32 (a : Int), .int .u32 (b : Int), .int .u32 (c : Int)] 26) := ⟨_, rfl⟩
  have b1 : Below W.heap.size W w1 := by rw [hw1]; exact bAl _ _
  have r1 : w1.heap[W.heap.size]? = some (.cells #[.int .u32 (a : Int), .int .u32 (b : Int), .int .u32 (c : Int)] 26 (0, 0)) := by rw [hw1]; exact heap_alloc_new W _
  have NW := hid (newest_any (hP.later b1) hl hJ)
  have HW1 := hid hw1
  have B1 := hid b1
  have R1 := hid r1
  obtain ⟨pa, pc, rfl, -⟩ := hP
  have SW := hid (snc_wrap fr hfr)
  have SX : Hid (wrap64 (max fr (-4611686018427387904) - 1) = snc fr) := by
    show _ = _
    rw [← snc_wrap fr hfr, Int.max_def]
    congr 2
    split <;> split <;> omega
  have EV : Hid (meansB a b c fr ps = (evB a (fun i => (tk ps i).isSome) && evB b (fun i => (tk ps i).isNone) && evB c (fun i => (tk ps i).isSome && decide (snc fr ≤ (tk ps i).getD 0)))) := by
    show _ = _
    unfold meansB
    rw [show hasP ps = (fun i => (tk ps i).isSome) from funext fun i => (tk_has ps i).symm, show (fun i => lateP ps i (snc fr)) = (fun i => (tk ps i).isSome && decide (snc fr ≤ (tk ps i).getD 0)) from funext fun i => (tk_late ps i (snc fr)).symm]
    simp only [Option.not_isSome]
  clear hw1 b1 r1 hfr hJ
  go_enter Tryz.func23, Tryz.ntmps23
  go_upto_region 1 with fail
  rw [← HW1.out]
  go_wp2_with fail
  refine NW.out.mono ?_
  rintro e w2 ⟨mb, rfl, ht2, hlo, hb2⟩
  have T2 := hid ht2
  have B2 := hid hb2
  clear NW ht2 hb2 hlo
  go_upto_region 3 with fail
  first
    | (rw [SW.out]; generalize (if fr < -4611686018427387904 then -4611686018427387904 else fr) = mx)
    | (rw [SX.out]; generalize max fr (-4611686018427387904) = mx)
  generalize snc fr = s at *
  obtain ⟨w4, hw4⟩ : ∃ w4, w4 = (w2.alloc (.cells #[.map (some mb)] 120)).alloc (.cells #[.int .i64 s] 3) := ⟨_, rfl⟩
  have b3 := bAl w2 (.cells #[.map (some mb)] 120)
  have b4 := bAl (w2.alloc (.cells #[.map (some mb)] 120)) (.cells #[.int .i64 s] 3)
  have bb : Below w2.heap.size w2 w4 := by rw [hw4]; exact b3.trans (b4.mono b3.size)
  have r3 : w4.heap[w2.heap.size]? = some (.cells #[.map (some mb)] 120 (0, 0)) := by rw [hw4]; exact blk_seen b4 (Nat.le_refl _) (heap_alloc_new w2 _)
  have r4 : w4.heap[w2.heap.size + 1]? = some (.cells #[.int .i64 s] 3 (0, 0)) := by
    have := heap_alloc_new (w2.alloc (.cells #[.map (some mb)] 120)) (.cells #[.int .i64 s] 3)
    rw [hw4]; simpa using this
  have rf : w4.heap[W.heap.size]? = some (.cells #[.int .u32 (a : Int), .int .u32 (b : Int), .int .u32 (c : Int)] 26 (0, 0)) := blk_seen (B2.out.trans (bb.mono B2.out.size)) (Nat.le_refl _) R1.out
  have T4 := hid (T2.out.later bb)
  have B4 := hid ((B1.out.trans (B2.out.mono B1.out.size)).trans (bb.mono (Nat.le_trans B1.out.size B2.out.size)))
  rw [← hw4]
  have KC : Hid (∀ W', Below w4.heap.size w4 W' → W'.cell? ⟨W.heap.size, 0, none⟩ = some (.int .u32 (a : Int)) ∧ W'.cell? ⟨W.heap.size, 1, none⟩ = some (.int .u32 (b : Int)) ∧ W'.cell? ⟨W.heap.size, 2, none⟩ = some (.int .u32 (c : Int)) ∧ W'.cell? ⟨w2.heap.size, 0, none⟩ = some (.map (some mb)) ∧ W'.cell? ⟨w2.heap.size + 1, 0, none⟩ = some (.int .i64 s)) := fun W' hb =>
    ⟨cell_blk (blk_seen hb (Nat.le_refl _) rf) rfl, cell_blk (blk_seen hb (Nat.le_refl _) rf) rfl, cell_blk (blk_seen hb (Nat.le_refl _) rf) rfl, cell_blk (blk_seen hb (Nat.le_refl _) r3) rfl, cell_blk (blk_seen hb (Nat.le_refl _) r4) rfl⟩
  have J32 : ∀ c : Nat, c < 32 → J64 ((c : Nat) : Int) := fun c h => J64_mid (by omega) (by omega)
  have E1 : Hid (Calls Tryz.prog 51 #[.int .u32 (a : Int), .func (.func 50) #[.map (some mb)] #[]] w4 fun e W' => e = .returned (.bool (evB a fun i => (tk ps i).isSome)) ∧ Below w4.heap.size w4 W') :=
    every_any _ #[.map (some mb)] #[] enters_has a ha _ fun c w hc hb => (thas_any (T4.out.later hb) _ (J32 c hc)).mono fun _ _ ⟨q1, q2⟩ => ⟨q1, by rw [q2]; exact Below.refl _ _⟩
  have E2 : Hid (∀ w', Below w4.heap.size w4 w' → Calls Tryz.prog 51 #[.int .u32 (b : Int), .func (.func 52) #[.map (some mb)] #[]] w' fun e W' => e = .returned (.bool (evB b fun i => (tk ps i).isNone)) ∧ Below w'.heap.size w' W') := fun w' hw' =>
    every_any _ #[.map (some mb)] #[] enters_lacks b hb _ fun c w hc hb => (lacks_any ((T4.out.later hw').later hb) _ (J32 c hc)).mono fun _ _ ⟨q1, q2⟩ => ⟨q1, by rw [q2]; exact Below.refl _ _⟩
  have E3 : Hid (∀ w', Below w4.heap.size w4 w' → Calls Tryz.prog 51 #[.int .u32 (c : Int), .func (.func 49) #[] #[.pointer (some ⟨w2.heap.size, 0, none⟩), .pointer (some ⟨w2.heap.size + 1, 0, none⟩)]] w' fun e W' => e = .returned (.bool (evB c fun i => (tk ps i).isSome && decide (s ≤ (tk ps i).getD 0))) ∧ Below w'.heap.size w' W') := fun w' hw' =>
    every_any _ #[] #[.pointer (some ⟨w2.heap.size, 0, none⟩), .pointer (some ⟨w2.heap.size + 1, 0, none⟩)] enters_lately c hc _ fun c w hc hb => by
      have q := KC.out w (hw'.trans (hb.mono hw'.size))
      exact (lately_any ((T4.out.later hw').later hb) q.2.2.2.1 q.2.2.2.2 _ (J32 c hc)).mono fun _ _ ⟨q1, q2⟩ => ⟨q1, by rw [q2]; exact Below.refl _ _⟩
  generalize (evB a fun i => (tk ps i).isSome) = z1 at *
  generalize (evB b fun i => (tk ps i).isNone) = z2 at *
  generalize (evB c fun i => (tk ps i).isSome && decide (s ≤ (tk ps i).getD 0)) = z3 at *
  obtain ⟨k0, -, -, k3, -⟩ := KC.out w4 (Below.refl _ _)
  clear hw4 b3 b4 bb r3 r4 rf T2 T4 R1 B1 B2 HW1 SW
  go_wp2_with fail
  refine E1.out.mono ?_
  rintro e w5 ⟨rfl, hb5⟩
  have B5 := hid hb5
  have BW5 := hid (B4.out.trans (hb5.mono B4.out.size))
  obtain ⟨-, k1, -, k3, -⟩ := KC.out w5 hb5
  have E2' := hid (E2.out w5 hb5)
  clear E1 E2 k0 hb5
  cases z1 with
  | false =>
    go_wp2_with fail
    go_ret
    exact ⟨by rw [EV.out]; rfl, BW5.out⟩
  | true =>
    go_wp2_with fail
    refine E2'.out.mono ?_
    rintro e w6 ⟨rfl, hb6⟩
    have b6 := B5.out.trans (hb6.mono B5.out.size)
    have BW6 := hid (BW5.out.trans (hb6.mono BW5.out.size))
    obtain ⟨-, -, k2, -, -⟩ := KC.out w6 b6
    have E3' := hid (E3.out w6 b6)
    clear E2' E3 k1 k3 hb6 b6
    cases z2 with
    | false =>
      go_wp2_with fail
      go_ret
      exact ⟨by rw [EV.out]; rfl, BW6.out⟩
    | true =>
      go_wp2_with fail
      refine E3'.out.mono ?_
      rintro e w7 ⟨rfl, hb7⟩
      have BW7 := hid (BW6.out.trans (hb7.mono BW6.out.size))
      clear E3' hb7
      go_wp2_with fail
      go_ret
      exact ⟨by rw [EV.out]; simp, BW7.out⟩
end Go.Proofs.YtoafpfheopgdkaaGreatDoor.Qu
namespace Go.Proofs.YtoafpfheopgdkaaGreatDoor.Qu
open Go.RowKit Go.Shelf Go.Maps
open Go.Proofs.YtoafpfheopgdkaaGreatDoor.At (St bAl cell_blk blk_seen blk_free)
open Go.Proofs.YtoafpfheopgdkaaGreatDoor.Rs (Prt Prts PRow prts_none wpList_prt)
/-- An entity of a query: its set, the frames of its parts, whether it is named. -/
structure Bei where
  m : Nat
  t0 : Int
  t1 : Int
  t2 : Int
  t3 : Int
  t4 : Int
  t5 : Int
  t6 : Int
  t7 : Int
  nm : Bool
def Bei.tk (x : Bei) (k : Nat) : Int := match k with
  | 0 => x.t0
  | 1 => x.t1
  | 2 => x.t2
  | 3 => x.t3
  | 4 => x.t4
  | 5 => x.t5
  | 6 => x.t6
  | _ => x.t7
def Bei.arr (x : Bei) : Array Value := #[.int .u32 (x.m : Int), .int .i64 x.t0, .int .i64 x.t1, .int .i64 x.t2, .int .i64 x.t3, .int .i64 x.t4, .int .i64 x.t5, .int .i64 x.t6, .int .i64 x.t7, .bool x.nm]
def Bei.val (x : Bei) : Value := .agg #[.int .u32 (x.m : Int), .int .i64 x.t0, .int .i64 x.t1, .int .i64 x.t2, .int .i64 x.t3, .int .i64 x.t4, .int .i64 x.t5, .int .i64 x.t6, .int .i64 x.t7, .bool x.nm]
def Bei.wf (x : Bei) : Prop := x.m < 4294967296 ∧ J64 x.t0 ∧ J64 x.t1 ∧ J64 x.t2 ∧ J64 x.t3 ∧ J64 x.t4 ∧ J64 x.t5 ∧ J64 x.t6 ∧ J64 x.t7
theorem Bei.tk_wf {x : Bei} (h : x.wf) (k : Nat) : J64 (x.tk k) := by
  obtain ⟨-, h0, h1, h2, h3, h4, h5, h6, h7⟩ := h
  unfold Bei.tk
  split <;> assumption
theorem Bei.arr_tk (x : Bei) (k : Nat) (hk : k < 8) : x.arr[1 + k]? = some (.int .i64 (x.tk k)) := by
  match k, hk with
  | 0, _ => rfl
  | 1, _ => rfl
  | 2, _ => rfl
  | 3, _ => rfl
  | 4, _ => rfl
  | 5, _ => rfl
  | 6, _ => rfl
  | 7, _ => rfl
/-- The parts of the components below k. -/
def bL (x : Bei) : Nat → List Prt
  | 0 => []
  | k + 1 => if x.m.testBit k = true then bL x k ++ [⟨(k : Int), 0, 0, 0, 0, x.tk k⟩] else bL x k
theorem bL_len (x : Bei) (k : Nat) : (bL x k).length ≤ k := by
  induction k with
  | zero => simp [bL]
  | succ k ih =>
    unfold bL
    split
    · simp; omega
    · omega
theorem bL_mem (x : Bei) (p : Prt) : ∀ k, p ∈ bL x k ↔ ∃ j, j < k ∧ x.m.testBit j = true ∧ p = ⟨(j : Int), 0, 0, 0, 0, x.tk j⟩
  | 0 => by simp [bL]
  | k + 1 => by
    have ih := bL_mem x p k
    unfold bL
    constructor
    · intro h
      split at h
      · rename_i hb
        rcases List.mem_append.1 h with h | h
        · obtain ⟨j, h1, h2⟩ := ih.1 h; exact ⟨j, by omega, h2⟩
        · exact ⟨k, by omega, hb, by simpa using h⟩
      · obtain ⟨j, h1, h2⟩ := ih.1 h; exact ⟨j, by omega, h2⟩
    · rintro ⟨j, h1, h2, h3⟩
      by_cases e : j = k
      · subst e; rw [if_pos h2]; exact List.mem_append_right _ (by simp [h3])
      · have := ih.2 ⟨j, by omega, h2, h3⟩
        split
        · exact List.mem_append_left _ this
        · exact this
theorem bL_wf {x : Bei} (h : x.wf) (k : Nat) (hk : k ≤ 100) : ∀ p ∈ bL x k, J64 p.c ∧ J64 p.t := by
  intro p hp
  obtain ⟨j, h1, -, rfl⟩ := (bL_mem x p k).1 hp
  exact ⟨J64_mid (by show -1000000 ≤ (j : Int); omega) (by show (j : Int) ≤ 2147483648; omega), Bei.tk_wf h j⟩
theorem bit_int (m k : Nat) : ((((m : Int) / 2 ^ k).tmod 2 == 1) : Bool) = m.testBit k := by
  have e : ((m : Int) / 2 ^ k) = ((m / 2 ^ k : Nat) : Int) := by simp
  rw [e, Int.tmod_eq_emod_of_nonneg (Int.natCast_nonneg _)]
  rw [Nat.testBit_eq_decide_div_mod_eq]
  rw [Bool.eq_iff_iff]
  simp
  omega
set_option maxHeartbeats 1600000 in
set_option maxRecDepth 100000 in
theorem bparts_any (W : World) (x : Bei) :
    Calls Tryz.prog 9 #[x.val] W fun e W' => ∃ u, e = .returned u ∧ Prts W.heap.size W' u (bL x 8) ∧ Below W.heap.size W W' := by
  obtain ⟨w1, hw1⟩ : ∃ w1, w1 = W.alloc (.cells x.arr 35) := ⟨_, rfl⟩
  have b1 : Below W.heap.size W w1 := by rw [hw1]; exact bAl _ _
  have R1 : Hid (w1.heap[W.heap.size]? = some (.cells x.arr 35 (0, 0))) := by rw [hw1]; exact heap_alloc_new W _
  have N1 : Hid (Prts w1.heap.size (w1.alloc (.cells #[] 71)) (.slice (some ⟨w1.heap.size, 0, none⟩) 0 0) []) := prts_none w1
  have HW1 := hid hw1
  have B1 := hid b1
  clear hw1 b1
  unfold Bei.val
  unfold Bei.arr at HW1
  go_enter Tryz.func9, Tryz.ntmps9
  go_upto_region 1 with fail
  rw [← HW1.out]
  go_wp2_with fail
  go_loopg [3, 4] 8 (fun gh lv i wr => ∃ k : Nat, k ≤ 8 ∧ gh = 8 - k ∧ i = .int .i64 (k : Int) ∧ Hid (Prts w1.heap.size wr lv (bL x k)) ∧ Hid (Below w1.heap.size w1 wr))
  case atStart => exact ⟨0, Nat.zero_le _, rfl, rfl, N1.out, bAl _ _⟩
  case round =>
    obtain ⟨k, hk, rfl, rfl, HL, HB⟩ := hrel
    by_cases hlt : k < 8
    · have hki : (k : Int) < 8 := by omega
      have hk0 : (0 : Int) ≤ (k : Int) := by omega
      obtain ⟨l, hl⟩ : ∃ l, l = bL x k := ⟨_, rfl⟩
      have hul : l.length ≤ 1000 := by rw [hl]; have := bL_len x k; omega
      have hw1 : w1.heap.size ≤ wr.heap.size := HB.out.size
      rw [← hl] at HL
      obtain ⟨oa, oc, rfl⟩ := HL.out.slice
      have HT : Hid (bL x (k + 1) = if x.m.testBit k = true then l ++ [⟨(k : Int), 0, 0, 0, 0, x.tk k⟩] else l) := by rw [hl]; rfl
      have r := blk_seen HB.out (Nat.le_refl _) R1.out
      have y0 : wr.cell? ⟨W.heap.size, 0, none⟩ = some (.int .u32 (x.m : Int)) := cell_blk r rfl
      have y1 : wr.cell? ⟨W.heap.size, 1 + k, none⟩ = some (.int .i64 (x.tk k)) := cell_blk r (x.arr_tk k hlt)
      have hbt := bit_int x.m k
      clear hl r
      cases hb : x.m.testBit k with
      | false =>
        rw [hb] at hbt HT
        clear hb
        go_wp2_with fail
        go_roundg (8 - (k + 1))
        case measure => omega
        case rel => exact ⟨k + 1, by omega, rfl, by go_num, by rw [HT.out]; exact HL.out, HB.out⟩
      | true =>
        rw [hb] at hbt HT
        clear hb
        go_wp2_with (at_builtin; refine wpList_prt (p := ⟨(k : Int), 0, 0, 0, 0, x.tk k⟩) rfl _ _ rfl HL.out hul hw1 rfl rfl ?_; intro v4 w4 H4 S4)
        go_roundg (8 - (k + 1))
        case measure => omega
        case rel => exact ⟨k + 1, by omega, rfl, by go_num, by rw [HT.out]; exact H4.out, HB.out.trans (S4.out.below (B := w1.heap.size) (fun y hy => (HL.out.lt y hy).1) hw1)⟩
    · have hki : ¬ ((k : Int) < 8) := by omega
      obtain rfl : k = 8 := by omega
      have BW := hid (B1.out.trans (HB.out.mono B1.out.size))
      have LW := hid (HL.out.lower B1.out.size)
      go_wp2_with fail
      go_ret
      exact ⟨_, rfl, LW.out, BW.out⟩
end Go.Proofs.YtoafpfheopgdkaaGreatDoor.Qu
