/- Texts in one. -/
import Derived.Shelf.SlGeneric
import Derived.Shelf.SlIterI.Nil
import Derived.Shelf.SortM.Plain
import Derived.Shelf.SortM.SortNone
import Derived.Ground.GgzProg
import Derived.Ground.SlgmProg
import Derived.Test.YthadfdbkkmmgoaaGreatDoorProg
import Derived.Laws.OwnMore
import Derived.Deep.RegionHeld3
import Derived.Deep.RegionLaw
import Derived.Deep.RegionHeldLaw
import Derived.Deep.AppendLies
import Derived.Deep.QuietTactic
import Derived.BigQuiet
import Derived.Deep.Cut
import Derived.Deep.LoopGhost
import Derived.Deep.RegionWith
import Derived.Lib.SliceRun
import Derived.Deep.DrawnRows
import Derived.Test.YthadfdbkkmmgoaaGreatDoorMaj
namespace Go.Proofs.YthadfdbkkmmgoaaGreatDoor.Bd
open Go.RowKit Go.Shelf Go.Maps
section
variable {Ad : Nat → Addr} {B : Nat} {W : World} {bb ob nb : Nat} {n : Int} {l : Prs}
set_option maxHeartbeats 3200000 in
set_option maxRecDepth 100000 in
theorem join_ok {m : Int} (h : Bg B W bb ob nb m l) (hok0 : okP n l) (id i g : Int) (hid' : I64 id) (hi : I64 i) (hg : I64 g) (hok : okP m (ins (id, i, g) l)) (h1 : who l id = none) (h2 : num l (i, g) = none) :
    Calls Tryz.prog 119 #[.pointer (some ⟨bb, 0, none⟩), .int .i64 id, .agg #[.int .i64 i, .int .i64 g]] W fun e W' => e = .returned (.tuple #[]) ∧ Bg B W' bb ob nb m (ins (id, i, g) l) ∧ At.St (fun k => Ft bb ob nb k) W W' := by
  obtain ⟨w1, hw1⟩ : ∃ w1, w1 = W.alloc (.cells #[.int .i64 i, .int .i64 g] 144) := ⟨_, rfl⟩
  have b1 : Below W.heap.size W w1 := by rw [hw1]; exact bAl _ _
  have r1 : w1.heap[W.heap.size]? = some (.cells #[.int .i64 i, .int .i64 g] 144 (0, 0)) := by rw [hw1]; exact heap_alloc_new W _
  have hb1 := h.later b1
  have bd1 : Below w1.heap.size w1 w1.drew := (Below.refl _ _).drew
  obtain ⟨w2, s1, m1, t1⟩ := (hb1.later bd1).m1.store hok0 hok h1 und1 hid'
  have hn1 : ¬ W.heap.size = ob := by have := (h.lt ob (.inr (.inl rfl))).2; omega
  have hn2 : ¬ W.heap.size = nb := by have := (h.lt nb (.inr (.inr rfl))).2; omega
  have r2 : w2.heap[W.heap.size]? = some (.cells #[.int .i64 i, .int .i64 g] 144 (0, 0)) := t1.at (blk_seen bd1 (Nat.le_refl _) r1) hn1
  have x2 : w2.heap[bb]? = some (.cells #[.map (some ob), .map (some nb), .int .i64 m] 190 (0, 0)) := t1.at (hb1.later bd1).box h.ne1
  have y2 : M2 w2 nb l := (hb1.later bd1).m2.kept t1 fun e => h.ne e.symm
  have bd2 : Below w2.heap.size w2 w2.drew := (Below.refl _ _).drew
  obtain ⟨w3, s2, m2, t2⟩ := (y2.kept (T := fun _ => False) (At.St.of_below bd2) fun q => q).store hok0 hok h2 und2 hid' hi hg
  have G : Hid (Bg B w3 bb ob nb m (ins (id, i, g) l)) := ⟨t2.at (blk_seen bd2 (Nat.le_refl _) x2) h.ne2, (m1.kept (T := fun _ => False) (At.St.of_below bd2) fun q => q).kept t2 h.ne, m2, hok, h.low, h.ne⟩
  have S1 : Hid (At.St (fun k => Ft bb ob nb k) W w3) := by
    have a1 : At.St (fun k => Ft bb ob nb k) W w1.drew := At.St.of_below (b1.trans (bd1.mono b1.size))
    have a2 := a1.trans t1 fun x _ e => .inr (.inl e)
    have a3 := a2.trans (At.St.of_below (S := fun _ => False) bd2) fun _ _ q => q.elim
    exact a3.trans t2 fun x _ e => .inr (.inr e)
  have c0 : w1.cell? ⟨bb, 0, none⟩ = some (.map (some ob)) := hb1.c0
  have d0 : w1.cell? ⟨W.heap.size, 0, none⟩ = some (.int .i64 i) := cell_blk r1 rfl
  have d1 : w1.cell? ⟨W.heap.size, 1, none⟩ = some (.int .i64 g) := cell_blk r1 rfl
  have c1 : w2.cell? ⟨bb, 1, none⟩ = some (.map (some nb)) := cell_blk x2 rfl
  have f0 : w2.cell? ⟨W.heap.size, 0, none⟩ = some (.int .i64 i) := cell_blk r2 rfl
  have f1 : w2.cell? ⟨W.heap.size, 1, none⟩ = some (.int .i64 g) := cell_blk r2 rfl
  have K1 : Hid (∀ W', Below w1.heap.size w1 W' → W'.cell? ⟨bb, 0, none⟩ = some (.map (some ob)) ∧ W'.cell? ⟨W.heap.size, 0, none⟩ = some (.int .i64 i) ∧ W'.cell? ⟨W.heap.size, 1, none⟩ = some (.int .i64 g)) := fun W' hb => ⟨seen hb (Nat.le_refl _) c0, seen hb (Nat.le_refl _) d0, seen hb (Nat.le_refl _) d1⟩
  have K2 : Hid (∀ W', Below w2.heap.size w2 W' → W'.cell? ⟨bb, 1, none⟩ = some (.map (some nb)) ∧ W'.cell? ⟨W.heap.size, 0, none⟩ = some (.int .i64 i) ∧ W'.cell? ⟨W.heap.size, 1, none⟩ = some (.int .i64 g)) := fun W' hb => ⟨seen hb (Nat.le_refl _) c1, seen hb (Nat.le_refl _) f0, seen hb (Nat.le_refl _) f1⟩
  have KA : Hid (w2.cell? ⟨bb, 0, none⟩ = some (.map (some ob)) ∧ w2.cell? ⟨W.heap.size, 0, none⟩ = some (.int .i64 i) ∧ w2.cell? ⟨W.heap.size, 1, none⟩ = some (.int .i64 g)) := ⟨cell_blk x2 rfl, f0, f1⟩
  have KB : Hid (w3.cell? ⟨bb, 1, none⟩ = some (.map (some nb)) ∧ w3.cell? ⟨W.heap.size, 0, none⟩ = some (.int .i64 i) ∧ w3.cell? ⟨W.heap.size, 1, none⟩ = some (.int .i64 g)) := by
    have q := t2.at (blk_seen bd2 (Nat.le_refl _) r2) hn2
    exact ⟨cell_blk G.out.box rfl, cell_blk q rfl, cell_blk q rfl⟩
  have HW1 := hid hw1
  clear h hi hg hok h1 h2 hw1 b1 r1 hb1 bd1 m1 t1 hn1 hn2 r2 x2 y2 bd2 m2 t2 hid' c0 c1 d0 d1 f0 f1 hok0
  go_enter Tryz.func119, Tryz.ntmps119
  go_upto_region 1 with fail
  rw [← HW1.out]
  go_region_held3 (fun W' => W'.cell? ⟨bb, 0, none⟩ = some (.map (some ob)) ∧ W'.cell? ⟨W.heap.size, 0, none⟩ = some (.int .i64 i) ∧ W'.cell? ⟨W.heap.size, 1, none⟩ = some (.int .i64 g))
    (first | exact KA.out | exact K1.out _ (Below.refl _ _).drew | exact K1.out _ (Below.refl _ _)) (fail)
  clear s1 K1 KA HW1
  go_upto_region 2 with fail
  go_region_held3 (fun W' => W'.cell? ⟨bb, 1, none⟩ = some (.map (some nb)) ∧ W'.cell? ⟨W.heap.size, 0, none⟩ = some (.int .i64 i) ∧ W'.cell? ⟨W.heap.size, 1, none⟩ = some (.int .i64 g))
    (first | exact KB.out | exact K2.out _ (Below.refl _ _).drew | exact K2.out _ (Below.refl _ _)) (fail)
  clear s2 K2 KB
  go_wp2_with fail
  go_end0
  exact ⟨rfl, G.out, S1.out⟩
end
end Go.Proofs.YthadfdbkkmmgoaaGreatDoor.Bd
namespace Go.Proofs.YthadfdbkkmmgoaaGreatDoor.Bd
open Go.RowKit Go.Shelf Go.Maps
theorem wrap_mid {n : Int} (h0 : -1000000 ≤ n) (h1 : n ≤ 2147483648) : IntKind.i64.wrap n = n := by
  unfold IntKind.wrap
  simp [IntKind.signed, IntKind.bits]
  omega
theorem okP.free {n : Int} {l : Prs} (h : okP n l) : Bd.who l n = none := by
  cases q : Bd.who l n with
  | none => rfl
  | some x =>
    have := (h.low _ ((h.who n x).1 q)).2
    simp at this
section
variable {Ad : Nat → Addr} {B : Nat} {W : World} {bb ob nb : Nat} {n : Int} {l : Prs}
set_option maxHeartbeats 1600000 in
set_option maxRecDepth 100000 in
theorem give_nil (hE : Env5 W Ad) (i g : Int) :
    Calls Tryz.prog 76 #[.pointer none, .agg #[.int .i64 i, .int .i64 g]] W fun e W' => ∃ t q, e = .returned (.tuple #[.int .i64 0, .iface t q]) ∧ Err Ad W' (.iface t q) 2 1 ∧ Below W.heap.size W W' := by
  obtain ⟨w1, hw1⟩ : ∃ w1, w1 = W.alloc (.cells #[.int .i64 i, .int .i64 g] 144) := ⟨_, rfl⟩
  have b1 : Below W.heap.size W w1 := by rw [hw1]; exact bAl _ _
  have c2 := (hE.later b1).c2
  have HW1 := hid hw1
  have B1 := hid b1
  have AC := hid (fun str => at_err Ad str _ 2 0 w1 (err_leaf Ad w1 2 (by decide)))
  clear hw1 b1 hE
  go_enter Tryz.func76, Tryz.ntmps76
  go_upto_region 1 with fail
  rw [← HW1.out]
  go_wp2_with fail
  refine (AC.out _).mono ?_
  rintro e w3 ⟨t, q, rfl, hv, hb⟩
  have HV := hid hv
  have B3 := hid (B1.out.trans (hb.mono B1.out.size))
  clear hv hb c2 AC
  go_wp2_with fail
  exact bodyPost_ret (v := .tuple #[.int .i64 0, .iface t q]) (by simp [results, Tryz.results76, go_sem]) rfl ⟨t, q, rfl, HV.out, B3.out⟩
set_option maxHeartbeats 1600000 in
set_option maxRecDepth 100000 in
theorem give_twice (h : Bg B W bb ob nb n l) (hE : Env5 W Ad) (i g : Int) (hi : I64 i) (hg : I64 g) {x : Int} (hn : num l (i, g) = some x) :
    Calls Tryz.prog 76 #[.pointer (some ⟨bb, 0, none⟩), .agg #[.int .i64 i, .int .i64 g]] W fun e W' => ∃ t q, e = .returned (.tuple #[.int .i64 0, .iface t q]) ∧ Err Ad W' (.iface t q) 9 2 ∧ Below W.heap.size W W' := by
  obtain ⟨w1, hw1⟩ : ∃ w1, w1 = W.alloc (.cells #[.int .i64 i, .int .i64 g] 144) := ⟨_, rfl⟩
  have b1 : Below W.heap.size W w1 := by rw [hw1]; exact bAl _ _
  have r1 : w1.heap[W.heap.size]? = some (.cells #[.int .i64 i, .int .i64 g] 144 (0, 0)) := by rw [hw1]; exact heap_alloc_new W _
  have d0 : w1.cell? ⟨W.heap.size, 0, none⟩ = some (.int .i64 i) := cell_blk r1 rfl
  have d1 : w1.cell? ⟨W.heap.size, 1, none⟩ = some (.int .i64 g) := cell_blk r1 rfl
  have UN := hid (unn_some (h.later b1) (hE.later b1) i g hi hg hn)
  have HW1 := hid hw1
  have B1 := hid b1
  clear hw1 b1 hE h hi hg hn r1
  go_enter Tryz.func76, Tryz.ntmps76
  go_upto_region 1 with fail
  rw [← HW1.out]
  go_wp2_with fail
  refine UN.out.mono ?_
  rintro e w2 ⟨t, q, rfl, hv, hb⟩
  have AC := hid (fun str => at_err Ad str _ 9 1 w2 hv)
  have B2 := hid (B1.out.trans (hb.mono B1.out.size))
  clear hv hb UN d0 d1
  go_wp2_with fail
  refine (AC.out _).mono ?_
  rintro e w3 ⟨t3, q3, rfl, hv, hb⟩
  have HV := hid hv
  have B3 := hid (B2.out.trans (hb.mono B2.out.size))
  clear hv hb AC
  go_wp2_with fail
  exact bodyPost_ret (v := .tuple #[.int .i64 0, .iface t3 q3]) (by simp [results, Tryz.results76, go_sem]) rfl ⟨t3, q3, rfl, HV.out, B3.out⟩
set_option maxHeartbeats 1600000 in
set_option maxRecDepth 100000 in
theorem give_full (h : Bg B W bb ob nb n l) (hE : Env5 W Ad) (i g : Int) (hi : I64 i) (hg : I64 g) (hn : num l (i, g) = none) (hf : 1073741824 < n) :
    Calls Tryz.prog 76 #[.pointer (some ⟨bb, 0, none⟩), .agg #[.int .i64 i, .int .i64 g]] W fun e W' => ∃ t q, e = .returned (.tuple #[.int .i64 0, .iface t q]) ∧ Err Ad W' (.iface t q) 6 1 ∧ Below W.heap.size W W' := by
  obtain ⟨w1, hw1⟩ : ∃ w1, w1 = W.alloc (.cells #[.int .i64 i, .int .i64 g] 144) := ⟨_, rfl⟩
  have b1 : Below W.heap.size W w1 := by rw [hw1]; exact bAl _ _
  have r1 : w1.heap[W.heap.size]? = some (.cells #[.int .i64 i, .int .i64 g] 144 (0, 0)) := by rw [hw1]; exact heap_alloc_new W _
  have d0 : w1.cell? ⟨W.heap.size, 0, none⟩ = some (.int .i64 i) := cell_blk r1 rfl
  have d1 : w1.cell? ⟨W.heap.size, 1, none⟩ = some (.int .i64 g) := cell_blk r1 rfl
  have UN := hid (unn_none (h.later b1) i g hi hg hn)
  have HH := hid (h.later b1)
  have HE := hid (hE.later b1)
  have HW1 := hid hw1
  have B1 := hid b1
  clear hw1 b1 hE h hi hg hn r1
  go_enter Tryz.func76, Tryz.ntmps76
  go_upto_region 1 with fail
  rw [← HW1.out]
  go_wp2_with fail
  refine UN.out.mono ?_
  rintro e w2 ⟨rfl, hb⟩
  have c2 := (HH.out.later hb).c2
  have c6 := (HE.out.later hb).c6
  have AC := hid (fun str => at_err Ad str _ 6 0 w2 (err_leaf Ad w2 6 (by decide)))
  have B2 := hid (B1.out.trans (hb.mono B1.out.size))
  clear hb UN d0 d1
  go_wp2_with fail
  refine (AC.out _).mono ?_
  rintro e w3 ⟨t3, q3, rfl, hv, hb⟩
  have HV := hid hv
  have B3 := hid (B2.out.trans (hb.mono B2.out.size))
  clear hv hb AC c2 c6
  go_wp2_with fail
  exact bodyPost_ret (v := .tuple #[.int .i64 0, .iface t3 q3]) (by simp [results, Tryz.results76, go_sem]) rfl ⟨t3, q3, rfl, HV.out, B3.out⟩
set_option maxHeartbeats 3200000 in
set_option maxRecDepth 100000 in
theorem give_ok (h : Bg B W bb ob nb n l) (i g : Int) (hi : I64 i) (hg : I64 g) (hn : num l (i, g) = none) (hf : n ≤ 1073741824) :
    Calls Tryz.prog 76 #[.pointer (some ⟨bb, 0, none⟩), .agg #[.int .i64 i, .int .i64 g]] W fun e W' => e = .returned (.tuple #[.int .i64 n, .nilIface]) ∧ Bg B W' bb ob nb (n + 1) (ins (n, i, g) l) ∧ At.St (fun k => Ft bb ob nb k) W W' := by
  obtain ⟨w1, hw1⟩ : ∃ w1, w1 = W.alloc (.cells #[.int .i64 i, .int .i64 g] 144) := ⟨_, rfl⟩
  have b1 : Below W.heap.size W w1 := by rw [hw1]; exact bAl _ _
  have r1 : w1.heap[W.heap.size]? = some (.cells #[.int .i64 i, .int .i64 g] 144 (0, 0)) := by rw [hw1]; exact heap_alloc_new W _
  have d0 : w1.cell? ⟨W.heap.size, 0, none⟩ = some (.int .i64 i) := cell_blk r1 rfl
  have d1 : w1.cell? ⟨W.heap.size, 1, none⟩ = some (.int .i64 g) := cell_blk r1 rfl
  have hn1 := h.ok.next
  have hfi : ¬ (1073741824 : Int) < n := by omega
  have hwr : IntKind.i64.wrap (n + 1) = n + 1 := wrap_mid (by omega) (by omega)
  have hok2 : okP (n + 1) (ins (n, i, g) l) := h.ok.add (m := n + 1) (by omega) (by omega) hi hg h.ok.free hn
  have UN := hid (unn_none (h.later b1) i g hi hg hn)
  have HH := hid (h.later b1)
  have H0 := hid h
  have HW1 := hid hw1
  have B1 := hid b1
  have R1 := hid r1
  have JN : Hid (∀ W', Bg B W' bb ob nb (n + 1) l → Calls Tryz.prog 119 #[.pointer (some ⟨bb, 0, none⟩), .int .i64 n, .agg #[.int .i64 i, .int .i64 g]] W' fun e W2 => e = .returned (.tuple #[]) ∧ Bg B W2 bb ob nb (n + 1) (ins (n, i, g) l) ∧ At.St (fun k => Ft bb ob nb k) W' W2) := fun W' hb => join_ok hb h.ok n i g (I64_mid (by omega) (by omega)) hi hg hok2 h.ok.free hn
  clear hw1 b1 h hi hg hn r1 hok2
  go_enter Tryz.func76, Tryz.ntmps76
  go_upto_region 1 with fail
  rw [← HW1.out]
  go_wp2_with fail
  refine UN.out.mono ?_
  rintro e w2 ⟨rfl, hb⟩
  have h2 := HH.out.later hb
  have c2 := h2.c2
  have fz := blk_free h2.box 2
  have B2 := hid (B1.out.trans (hb.mono B1.out.size))
  have r2 := blk_seen hb (Nat.le_refl _) R1.out
  have hne : ¬ W.heap.size = bb := by have := (H0.out.lt bb (.inl rfl)).2; omega
  have s3 := At.St.setCell (S := fun k => k = bb) (a := w2) (p := ⟨bb, 2, none⟩) (.int .i64 (n + 1)) rfl
  have x3 : (w2.setCell ⟨bb, 2, none⟩ (.int .i64 (n + 1))).heap[bb]? = some (.cells #[.map (some ob), .map (some nb), .int .i64 (n + 1)] 190 (0, 0)) := by
    have := heap_setCell_same w2 bb 2 _ _ (.int .i64 (n + 1)) h2.box
    simpa using this
  have h3 : Bg B (w2.setCell ⟨bb, 2, none⟩ (.int .i64 (n + 1))) bb ob nb (n + 1) l := ⟨x3, h2.m1.kept s3 fun e => h2.ne1 e.symm, h2.m2.kept s3 fun e => h2.ne2 e.symm, ⟨h2.ok.rise, h2.ok.one, fun x hx => by have := h2.ok.low x hx; omega, h2.ok.i64, by omega⟩, h2.low, h2.ne⟩
  have r3 := s3.at r2 hne
  obtain ⟨w3, hw3⟩ : ∃ w3, w3 = w2.setCell ⟨bb, 2, none⟩ (.int .i64 (n + 1)) := ⟨_, rfl⟩
  rw [← hw3] at s3 x3 h3 r3
  have HW3 := hid hw3
  have e0 : w3.cell? ⟨W.heap.size, 0, none⟩ = some (.int .i64 i) := cell_blk r3 rfl
  have e1 : w3.cell? ⟨W.heap.size, 1, none⟩ = some (.int .i64 g) := cell_blk r3 rfl
  have S3 : Hid (At.St (fun k => Ft bb ob nb k) W w3) := (At.St.of_below (S := fun k => Ft bb ob nb k) B2.out).trans s3 fun x _ e => .inl e
  have JO := hid (JN.out w3 h3)
  clear h2 r2 hne s3 x3 h3 r3 hw3 hb UN d0 d1 JN
  go_upto_region 10 with fail
  rw [← HW3.out]
  go_wp2_with fail
  refine JO.out.mono ?_
  rintro e w4 ⟨rfl, h4, s4⟩
  have H4 := hid h4
  have S4 := hid (S3.out.trans s4 fun x _ q => q)
  clear h4 s4 JO e0 e1 c2 fz
  go_wp2_with fail
  exact bodyPost_ret (v := .tuple #[.int .i64 n, .nilIface]) (by simp [results, Tryz.results76, go_sem]) rfl ⟨rfl, H4.out, S4.out⟩
end
end Go.Proofs.YthadfdbkkmmgoaaGreatDoor.Bd
namespace Go.Proofs.YthadfdbkkmmgoaaGreatDoor.Bd
open Go.RowKit Go.Shelf Go.Maps
/-- Two cells of a block are written. -/
def put2 (W : World) (b : Nat) (i g : Int) : World := (W.setCell ⟨b, 0, none⟩ (.int .i64 i)).setCell ⟨b, 1, none⟩ (.int .i64 g)
theorem put2_blk {W : World} {b : Nat} {a c : Value} {e : TypeId} (h : W.heap[b]? = some (.cells #[a, c] e (0, 0))) (i g : Int) : (put2 W b i g).heap[b]? = some (.cells #[.int .i64 i, .int .i64 g] e (0, 0)) := by
  have h1 := heap_setCell_same W b 0 _ e (.int .i64 i) h
  have h2 := heap_setCell_same _ b 1 _ e (.int .i64 g) h1
  simpa [put2] using h2
theorem put2_st (W : World) (b : Nat) (i g : Int) : At.St (fun k => k = b) W (put2 W b i g) :=
  (At.St.setCell (S := fun k => k = b) (a := W) (p := ⟨b, 0, none⟩) (.int .i64 i) rfl).trans (At.St.setCell (S := fun k => k = b) (p := ⟨b, 1, none⟩) (.int .i64 g) rfl) fun _ _ q => q
theorem set_same {W : World} {b j : Nat} {cs : Array Value} {e : TypeId} {u : Value} (h : W.heap[b]? = some (.cells cs e (0, 0))) (hj : cs[j]? = some u) : W.setCell ⟨b, j, none⟩ u = W := by
  have e : (W.setCell ⟨b, j, none⟩ u).heap = W.heap := by
    apply Array.ext_getElem?
    intro k
    by_cases hk : k = b
    · subst hk
      rw [heap_setCell_same W k j cs e u h, h]
      have : cs.setIfInBounds j u = cs := by
        apply Array.ext_getElem?
        intro m
        rw [Array.getElem?_setIfInBounds]
        split
        · rename_i hm
          subst hm
          have := (Array.getElem?_eq_some_iff.1 hj).1
          rw [if_pos this, hj]
        · rfl
      rw [this]
    · exact Below.heap_setCell _ _ _ _ hk
  unfold World.setCell at e ⊢
  cases W
  simp at e ⊢
  exact e
theorem put2_same {W : World} {b : Nat} {e : TypeId} {i g : Int} (h : W.heap[b]? = some (.cells #[.int .i64 i, .int .i64 g] e (0, 0))) : put2 W b i g = W := by
  unfold put2
  rw [set_same h rfl, set_same h rfl]
section
variable {Ad : Nat → Addr} {B : Nat} {W : World} {bb ob nb : Nat} {n : Int} {l : Prs}
set_option maxHeartbeats 3200000 in
set_option maxRecDepth 100000 in
theorem drop_nil (hE : Env5 W Ad) (id : Int) :
    Calls Tryz.prog 161 #[.pointer none, .int .i64 id] W fun e W' => ∃ t q, e = .returned (.tuple #[.agg #[.int .i64 0, .int .i64 0], .iface t q]) ∧ Err Ad W' (.iface t q) 2 1 ∧ Below W.heap.size W W' := by
  obtain ⟨w1, hw1⟩ : ∃ w1, w1 = W.alloc (.cells #[.int .i64 0, .int .i64 0] 144) := ⟨_, rfl⟩
  have b1 : Below W.heap.size W w1 := by rw [hw1]; exact bAl _ _
  have r1 : w1.heap[W.heap.size]? = some (.cells #[.int .i64 0, .int .i64 0] 144 (0, 0)) := by rw [hw1]; exact heap_alloc_new W _
  have c2 := (hE.later b1).c2
  have HW1 := hid hw1
  have B1 := hid b1
  have R1 := hid r1
  have AC := hid (fun str => at_err Ad str _ 2 0 w1 (err_leaf Ad w1 2 (by decide)))
  clear hw1 b1 hE r1
  go_enter Tryz.func161, Tryz.ntmps161
  go_upto_region 1 with fail
  rw [← HW1.out]
  go_wp2_with fail
  refine (AC.out _).mono ?_
  rintro e w3 ⟨t, q, rfl, hv, hb⟩
  have r3 := blk_seen hb (Nat.le_refl _) R1.out
  have y0 : w3.cell? ⟨W.heap.size, 0, none⟩ = some (.int .i64 0) := cell_blk r3 rfl
  have y1 : w3.cell? ⟨W.heap.size, 1, none⟩ = some (.int .i64 0) := cell_blk r3 rfl
  have f0 := blk_free r3 0
  have f1 := blk_free r3 1
  have R3 := hid r3
  have B3 := hid (B1.out.trans (hb.mono B1.out.size))
  obtain ⟨w4, hw4⟩ : ∃ w4, w4 = (w3.setCell ⟨W.heap.size, 0, none⟩ (.int .i64 0)).setCell ⟨W.heap.size, 1, none⟩ (.int .i64 0) := ⟨_, rfl⟩
  have same : Hid (w4 = w3) := by
    rw [hw4]
    show put2 w3 W.heap.size 0 0 = w3
    exact put2_same r3
  have HV := hid hv
  clear hv hb c2 AC r3
  go_wp2_with fail
  rw [← hw4, same.out]
  exact bodyPost_ret (v := .tuple #[.agg #[.int .i64 0, .int .i64 0], .iface t q]) (by simp [results, Tryz.results161, go_sem, y0, y1]) rfl ⟨t, q, rfl, HV.out, B3.out⟩
set_option maxHeartbeats 3200000 in
set_option maxRecDepth 100000 in
theorem drop_none (h : Bg B W bb ob nb n l) (hE : Env5 W Ad) (id : Int) (hi : I64 id) (hn : who l id = none) :
    Calls Tryz.prog 161 #[.pointer (some ⟨bb, 0, none⟩), .int .i64 id] W fun e W' => ∃ t q, e = .returned (.tuple #[.agg #[.int .i64 0, .int .i64 0], .iface t q]) ∧ Err Ad W' (.iface t q) 7 1 ∧ Below W.heap.size W W' := by
  obtain ⟨w1, hw1⟩ : ∃ w1, w1 = W.alloc (.cells #[.int .i64 0, .int .i64 0] 144) := ⟨_, rfl⟩
  have b1 : Below W.heap.size W w1 := by rw [hw1]; exact bAl _ _
  have r1 : w1.heap[W.heap.size]? = some (.cells #[.int .i64 0, .int .i64 0] 144 (0, 0)) := by rw [hw1]; exact heap_alloc_new W _
  have h1 := h.later b1
  have c0 := h1.c0
  have lk0 := h1.m1.look und1 id hi
  rw [hn] at lk0
  have lk : (Instr.lookup 187 (.map (some ob)) (.int .i64 id) true).run Tryz.prog w1 = .ok (.tuple #[.agg #[.int .i64 0, .int .i64 0], .bool false]) w1 := lk0
  obtain ⟨w2, hw2⟩ : ∃ w2, w2 = w1.alloc (.cells #[.int .i64 0, .int .i64 0] 144) := ⟨_, rfl⟩
  have b2 : Below w1.heap.size w1 w2 := by rw [hw2]; exact bAl _ _
  have c7 := ((hE.later b1).later b2).c7
  have HW1 := hid hw1
  have HW2 := hid hw2
  have B2 := hid (b1.trans (b2.mono b1.size))
  have R2 := hid (blk_seen b2 (Nat.le_refl _) r1)
  have AC := hid (fun str => at_err Ad str _ 7 0 w2 (err_leaf Ad w2 7 (by decide)))
  clear hw1 b1 hE r1 h h1 lk0 hw2 b2 hi hn
  go_enter Tryz.func161, Tryz.ntmps161
  go_upto_region 1 with fail
  rw [← HW1.out]
  go_upto_region 4 with fail
  rw [← HW2.out]
  go_wp2_with fail
  refine (AC.out _).mono ?_
  rintro e w3 ⟨t, q, rfl, hv, hb⟩
  have r3 := blk_seen hb (Nat.le_refl _) R2.out
  have y0 : w3.cell? ⟨W.heap.size, 0, none⟩ = some (.int .i64 0) := cell_blk r3 rfl
  have y1 : w3.cell? ⟨W.heap.size, 1, none⟩ = some (.int .i64 0) := cell_blk r3 rfl
  have f0 := blk_free r3 0
  have f1 := blk_free r3 1
  have B3 := hid (B2.out.trans (hb.mono B2.out.size))
  obtain ⟨w4, hw4⟩ : ∃ w4, w4 = (w3.setCell ⟨W.heap.size, 0, none⟩ (.int .i64 0)).setCell ⟨W.heap.size, 1, none⟩ (.int .i64 0) := ⟨_, rfl⟩
  have same : Hid (w4 = w3) := by
    rw [hw4]
    exact put2_same r3
  have HV := hid hv
  clear hv hb c7 AC r3 lk c0
  go_wp2_with fail
  rw [← hw4, same.out]
  exact bodyPost_ret (v := .tuple #[.agg #[.int .i64 0, .int .i64 0], .iface t q]) (by simp [results, Tryz.results161, go_sem, y0, y1]) rfl ⟨t, q, rfl, HV.out, B3.out⟩
set_option maxHeartbeats 3200000 in
set_option maxRecDepth 100000 in
theorem drop_ok (h : Bg B W bb ob nb n l) (id i g : Int) (hi : I64 id) (hn : who l id = some (i, g)) :
    Calls Tryz.prog 161 #[.pointer (some ⟨bb, 0, none⟩), .int .i64 id] W fun e W' => e = .returned (.tuple #[.agg #[.int .i64 i, .int .i64 g], .nilIface]) ∧ Bg B W' bb ob nb n (del id l) ∧ At.St (fun k => Ft bb ob nb k) W W' := by
  obtain ⟨w1, hw1⟩ : ∃ w1, w1 = W.alloc (.cells #[.int .i64 0, .int .i64 0] 144) := ⟨_, rfl⟩
  have b1 : Below W.heap.size W w1 := by rw [hw1]; exact bAl _ _
  have r1 : w1.heap[W.heap.size]? = some (.cells #[.int .i64 0, .int .i64 0] 144 (0, 0)) := by rw [hw1]; exact heap_alloc_new W _
  have h1 := h.later b1
  have c0 := h1.c0
  have lk0 := h1.m1.look und1 id hi
  rw [hn] at lk0
  have lk : (Instr.lookup 187 (.map (some ob)) (.int .i64 id) true).run Tryz.prog w1 = .ok (.tuple #[.agg #[.int .i64 i, .int .i64 g], .bool true]) w1 := lk0
  obtain ⟨w2, hw2⟩ : ∃ w2, w2 = w1.alloc (.cells #[.int .i64 i, .int .i64 g] 144) := ⟨_, rfl⟩
  have b2 : Below w1.heap.size w1 w2 := by rw [hw2]; exact bAl _ _
  have q2 : w2.heap[w1.heap.size]? = some (.cells #[.int .i64 i, .int .i64 g] 144 (0, 0)) := by rw [hw2]; exact heap_alloc_new w1 _
  have r2 := blk_seen b2 (Nat.le_refl _) r1
  have h2 := h1.later b2
  have hw64 := h.ok.i64 _ ((h.ok.who id (i, g)).1 hn)
  have hs1 : w1.heap.size = W.heap.size + 1 := by rw [hw1]; simp
  have lt1 := (h.lt ob (.inr (.inl rfl))).2
  have lt2 := (h.lt nb (.inr (.inr rfl))).2
  have lt0 := (h.lt bb (.inl rfl)).2
  obtain ⟨w3, dl1, m1, t1⟩ := h2.m1.drop h.ok hn und1 hi 0
  have c02 := h2.c0
  have x3 := t1.at h2.box h.ne1
  have y3 : M2 w3 nb l := h2.m2.kept t1 fun e => h.ne e.symm
  have q3 := t1.at q2 (by omega)
  have r3 := t1.at r2 (by omega)
  have bd : Below w3.heap.size w3 w3.drew := (Below.refl _ _).drew
  obtain ⟨w4, dl2, m2, t2⟩ := (y3.kept (T := fun _ => False) (At.St.of_below bd) fun q => q).drop h.ok hn und2 hw64.1 hw64.2 0
  have x4 := t2.at (blk_seen bd (Nat.le_refl _) x3) h.ne2
  have q4 := t2.at (blk_seen bd (Nat.le_refl _) q3) (by omega)
  have r4 := t2.at (blk_seen bd (Nat.le_refl _) r3) (by omega)
  have g4 : Bg B w4 bb ob nb n (del id l) := ⟨x4, (m1.kept (T := fun _ => False) (At.St.of_below bd) fun q => q).kept t2 h.ne, m2, h.ok.del id, h.low, h.ne⟩
  have st5 := put2_st w4 W.heap.size i g
  have r5 := put2_blk r4 i g
  have G5 : Hid (Bg B (put2 w4 W.heap.size i g) bb ob nb n (del id l)) := g4.kept st5 fun k hk e => by rcases hk with rfl | rfl | rfl <;> omega
  have S5 : Hid (At.St (fun k => Ft bb ob nb k) W (put2 w4 W.heap.size i g)) := by
    have a1 : At.St (fun k => Ft bb ob nb k) W w2 := At.St.of_below (b1.trans (b2.mono b1.size))
    have a2 := a1.trans t1 fun x _ e => .inr (.inl e)
    have a3 := a2.trans (At.St.of_below (S := fun _ => False) bd) fun _ _ q => q.elim
    have a4 := a3.trans t2 fun x _ e => .inr (.inr e)
    exact a4.trans st5 fun x hx e => by omega
  have z0 : (put2 w4 W.heap.size i g).cell? ⟨W.heap.size, 0, none⟩ = some (.int .i64 i) := cell_blk r5 rfl
  have z1 : (put2 w4 W.heap.size i g).cell? ⟨W.heap.size, 1, none⟩ = some (.int .i64 g) := cell_blk r5 rfl
  obtain ⟨w5, hw5⟩ : ∃ w5, w5 = put2 w4 W.heap.size i g := ⟨_, rfl⟩
  rw [← hw5] at G5 S5 z0 z1
  unfold put2 at hw5
  have HW5 := hid hw5
  have K3 : Hid (∀ W', Below w3.heap.size w3 W' → W'.cell? ⟨bb, 1, none⟩ = some (.map (some nb)) ∧ W'.cell? ⟨w1.heap.size, 0, none⟩ = some (.int .i64 i) ∧ W'.cell? ⟨w1.heap.size, 1, none⟩ = some (.int .i64 g)) := fun W' hb => ⟨cell_blk (blk_seen hb (Nat.le_refl _) x3) rfl, cell_blk (blk_seen hb (Nat.le_refl _) q3) rfl, cell_blk (blk_seen hb (Nat.le_refl _) q3) rfl⟩
  have KB : Hid (w4.cell? ⟨bb, 1, none⟩ = some (.map (some nb)) ∧ w4.cell? ⟨w1.heap.size, 0, none⟩ = some (.int .i64 i) ∧ w4.cell? ⟨w1.heap.size, 1, none⟩ = some (.int .i64 g)) := ⟨cell_blk x4 rfl, cell_blk q4 rfl, cell_blk q4 rfl⟩
  have Q4 := hid q4
  have R4 := hid r4
  have HW1 := hid hw1
  have HW2 := hid hw2
  clear hw1 b1 r1 h h1 lk0 hw2 b2 hi hn q2 r2 h2 hw64 hs1 lt0 lt1 lt2 m1 t1 x3 y3 q3 r3 bd m2 t2 x4 q4 r4 g4 st5 r5 hw5
  go_enter Tryz.func161, Tryz.ntmps161
  go_upto_region 1 with fail
  rw [← HW1.out]
  go_upto_region 4 with fail
  rw [← HW2.out]
  go_upto_region 7 with fail
  clear lk c0 dl1 c02 HW1 HW2
  go_region_held3 (fun W' => W'.cell? ⟨bb, 1, none⟩ = some (.map (some nb)) ∧ W'.cell? ⟨w1.heap.size, 0, none⟩ = some (.int .i64 i) ∧ W'.cell? ⟨w1.heap.size, 1, none⟩ = some (.int .i64 g))
    (first | exact KB.out | exact K3.out _ (Below.refl _ _).drew | exact K3.out _ (Below.refl _ _)) (fail)
  have e0 : w4.cell? ⟨w1.heap.size, 0, none⟩ = some (.int .i64 i) := cell_blk Q4.out rfl
  have e1 : w4.cell? ⟨w1.heap.size, 1, none⟩ = some (.int .i64 g) := cell_blk Q4.out rfl
  have y0 : w4.cell? ⟨W.heap.size, 0, none⟩ = some (.int .i64 0) := cell_blk R4.out rfl
  have y1 : w4.cell? ⟨W.heap.size, 1, none⟩ = some (.int .i64 0) := cell_blk R4.out rfl
  have f0 := blk_free R4.out 0
  have f1 := blk_free R4.out 1
  clear dl2 KB K3
  go_wp2_with fail
  rw [← HW5.out]
  exact bodyPost_ret (v := .tuple #[.agg #[.int .i64 i, .int .i64 g], .nilIface]) (by simp [results, Tryz.results161, go_sem, z0, z1]) rfl ⟨rfl, G5.out, S5.out⟩
end
end Go.Proofs.YthadfdbkkmmgoaaGreatDoor.Bd
namespace Go.Proofs.YthadfdbkkmmgoaaGreatDoor.Bd
open Go.RowKit Go.Shelf Go.Maps
theorem same_key {x y : Int} : (Lit.int .i64 x).sameKey (.int .i64 y) = decide (x = y) := by simp [Lit.sameKey]
section
variable {Ad : Nat → Addr} {B : Nat} {W : World} {bb ob nb : Nat} {n : Int} {l : Prs}
end
end Go.Proofs.YthadfdbkkmmgoaaGreatDoor.Bd
namespace Go.Proofs.YthadfdbkkmmgoaaGreatDoor.Bd
open Go.RowKit Go.Shelf Go.Maps
section
variable {Ad : Nat → Addr} {B : Nat} {W : World} {bb ob nb : Nat} {n : Int} {l : Prs}
/-- Whether a number can be the next one. -/
def turnB (l : Prs) (next : Int) : Bool := decide (1 ≤ next) && decide (next ≤ 1073741825) && decide (∀ x ∈ l, x.1 < next)
end
end Go.Proofs.YthadfdbkkmmgoaaGreatDoor.Bd
namespace Go.Proofs.YthadfdbkkmmgoaaGreatDoor.Bd
open Go.RowKit Go.Shelf Go.Maps
section
variable {Ad : Nat → Addr} {B : Nat} {W : World} {bb ob nb : Nat} {n : Int} {l : Prs}
/-- What All answers of two. -/
theorem all_two (W : World) (v1 v2 : Value) (l1 l2 : List (List ByteArray × Nat)) (d : Nat) (h1 : Top Ad W.heap.size W d v1 l1) (h2 : Top Ad W.heap.size W d v2 l2) (hl : l1.length + l2.length ≤ 1000) :
    Calls Tryz.prog 85 #[.slice (some ⟨W.heap.size, 0, none⟩) 2 2] (W.alloc (.cells #[v1, v2] 31)) fun e w' => ∃ v', e = .returned v' ∧ Top Ad w'.heap.size w' d v' (l1 ++ l2) ∧ Below W.heap.size W w' := by
  have b1 := bAl W (.cells #[v1, v2] 31)
  have r1 := heap_alloc_new W (.cells #[v1, v2] 31)
  have hs : W.heap.size < (W.alloc (.cells #[v1, v2] 31)).heap.size := by simp
  have T := all_top Ad d (.slice (some ⟨W.heap.size, 0, none⟩) 2 2) [(v1, l1), (v2, l2)] (W.alloc (.cells #[v1, v2] 31)) ⟨_, _, rfl, .inr ⟨W.heap.size, hs, rfl, fun j x hj => by
      match j, hj with
      | 0, hj => obtain rfl : v1 = x := by simpa using hj
                 exact cell_blk r1 rfl
      | 1, hj => obtain rfl : v2 = x := by simpa using hj
                 exact cell_blk r1 rfl
      | j + 2, hj => simp at hj⟩⟩ (fun u hu => by
      simp at hu
      rcases hu with rfl | rfl
      · exact h1.move b1 b1.size
      · exact h2.move b1 b1.size) (by simp) (by simpa using hl)
  refine T.mono ?_
  rintro e w' ⟨v', rfl, q1, q2⟩
  simp only [List.map_cons, List.map_nil, List.flatten_cons, List.flatten_nil, List.append_nil] at q1
  exact ⟨v', rfl, q1, b1.trans (q2.mono b1.size)⟩
end
end Go.Proofs.YthadfdbkkmmgoaaGreatDoor.Bd
namespace Go.Proofs
open Go.Shelf
def Tryz.keysA_ren : Go.Shelf.Ren := ⟨fun | 7 => 112 | 10 => 150 | n => n, fun | 23 => 187 | 26 => 3 | 3 => 144 | 28 => 213 | 0 => 0 | 27 => 212 | 33 => 138 | 4 => 4 | n => n, fun | n => n⟩
theorem Tryz.keysA : Go.Proofs.SlLaysZI.n7 Tryz.prog Tryz.keysA_ren := {
  mixed := by kernel_rfl
  f7 := ⟨Tryz.f112.name, by decide, Tryz.func112.trans (congrArg some (by kernel_rfl))⟩
  f10 := ⟨Tryz.f150.name, by decide, Tryz.func150.trans (congrArg some (by kernel_rfl))⟩
  t0 := Tryz.underlying0
  a0 := Tryz.isAgg0
  z0 := Tryz.sizeOf0
  v0 := Tryz.zeroValue0
  t4 := Tryz.underlying4
  a4 := Tryz.isAgg4
  z4 := Tryz.sizeOf4
  v4 := Tryz.zeroValue4
  t23 := Tryz.underlying187
  a23 := Tryz.isAgg187
  z23 := Tryz.sizeOf187
  v23 := Tryz.zeroValue187
  t26 := Tryz.underlying3
  a26 := Tryz.isAgg3
  z26 := Tryz.sizeOf3
  v26 := Tryz.zeroValue3
  t27 := Tryz.underlying212
  a27 := Tryz.isAgg212
  z27 := Tryz.sizeOf212
  v27 := Tryz.zeroValue212
  t28 := Tryz.underlying213
  a28 := Tryz.isAgg213
  z28 := Tryz.sizeOf213
  v28 := Tryz.zeroValue213
  t33 := Tryz.underlying138
  a33 := Tryz.isAgg138
  z33 := Tryz.sizeOf138
  v33 := Tryz.zeroValue138 }
def Tryz.sortedA_ren : Go.Shelf.Ren := ⟨fun | 6 => 111 | 8 => 148 | 9 => 149 | 11 => 167 | 13 => 169 | 12 => 168 | 23 => 185 | 24 => 186 | 14 => 176 | 15 => 177 | 16 => 178 | 17 => 179 | 18 => 180 | 19 => 181 | 20 => 182 | 21 => 183 | 22 => 184 | 25 => 196 | 26 => 197 | 27 => 198 | 28 => 199 | 29 => 200 | 30 => 201 | 31 => 208 | n => n, fun | 26 => 3 | 28 => 213 | 24 => 68 | 0 => 0 | 3 => 3 | 37 => 39 | 48 => 45 | 50 => 309 | 4 => 4 | 40 => 301 | 39 => 300 | 45 => 104 | 5 => 5 | 9 => 9 | 51 => 317 | 55 => 321 | 57 => 326 | 58 => 58 | 33 => 138 | n => n, fun | n => n⟩
theorem Tryz.sortedA : Go.Proofs.SlLaysZI.n6 Tryz.prog Tryz.sortedA_ren := {
  mixed := by kernel_rfl
  f6 := ⟨Tryz.f111.name, by decide, Tryz.func111.trans (congrArg some (by kernel_rfl))⟩
  f8 := ⟨Tryz.f148.name, by decide, Tryz.func148.trans (congrArg some (by kernel_rfl))⟩
  f11 := ⟨Tryz.f167.name, by decide, Tryz.func167.trans (congrArg some (by kernel_rfl))⟩
  t0 := Tryz.underlying0
  a0 := Tryz.isAgg0
  z0 := Tryz.sizeOf0
  v0 := Tryz.zeroValue0
  t24 := Tryz.underlying68
  a24 := Tryz.isAgg68
  z24 := Tryz.sizeOf68
  v24 := Tryz.zeroValue68
  t26 := Tryz.underlying3
  a26 := Tryz.isAgg3
  z26 := Tryz.sizeOf3
  v26 := Tryz.zeroValue3
  t28 := Tryz.underlying213
  a28 := Tryz.isAgg213
  z28 := Tryz.sizeOf213
  v28 := Tryz.zeroValue213
  i26 := by kernel_rfl }
def Tryz.sortA_ren : Go.Shelf.Ren := ⟨fun | 5 => 149 | 8 => 169 | 7 => 168 | 19 => 185 | 20 => 186 | 10 => 176 | 11 => 177 | 12 => 178 | 13 => 179 | 14 => 180 | 15 => 181 | 16 => 182 | 17 => 183 | 18 => 184 | 30 => 196 | 31 => 197 | 32 => 198 | 33 => 199 | 34 => 200 | 35 => 201 | 40 => 208 | n => n, fun | 23 => 68 | 25 => 3 | 3 => 3 | 32 => 39 | 22 => 68 | 0 => 0 | 44 => 45 | 46 => 309 | 4 => 4 | 36 => 301 | 35 => 300 | 41 => 104 | 5 => 5 | 9 => 9 | 53 => 317 | 57 => 321 | 63 => 326 | 64 => 58 | n => n, fun | n => n⟩
theorem Tryz.sortA : Go.Proofs.SlLaysM.n5 Tryz.prog Tryz.sortA_ren := {
  mixed := by kernel_rfl
  f5 := ⟨Tryz.f149.name, by decide, Tryz.func149.trans (congrArg some (by kernel_rfl))⟩
  f7 := ⟨Tryz.f168.name, by decide, Tryz.func168.trans (congrArg some (by kernel_rfl))⟩
  f8 := Tryz.func169.trans (congrArg some (by kernel_rfl))
  f10 := ⟨Tryz.f176.name, by decide, Tryz.func176.trans (congrArg some (by kernel_rfl))⟩
  f11 := ⟨Tryz.f177.name, by decide, Tryz.func177.trans (congrArg some (by kernel_rfl))⟩
  f12 := ⟨Tryz.f178.name, by decide, Tryz.func178.trans (congrArg some (by kernel_rfl))⟩
  f13 := ⟨Tryz.f179.name, by decide, Tryz.func179.trans (congrArg some (by kernel_rfl))⟩
  f14 := ⟨Tryz.f180.name, by decide, Tryz.func180.trans (congrArg some (by kernel_rfl))⟩
  f15 := ⟨Tryz.f181.name, by decide, Tryz.func181.trans (congrArg some (by kernel_rfl))⟩
  f16 := ⟨Tryz.f182.name, by decide, Tryz.func182.trans (congrArg some (by kernel_rfl))⟩
  f17 := ⟨Tryz.f183.name, by decide, Tryz.func183.trans (congrArg some (by kernel_rfl))⟩
  f18 := ⟨Tryz.f184.name, by decide, Tryz.func184.trans (congrArg some (by kernel_rfl))⟩
  f19 := Tryz.func185.trans (congrArg some (by kernel_rfl))
  f20 := Tryz.func186.trans (congrArg some (by kernel_rfl))
  f30 := ⟨Tryz.f196.name, by decide, Tryz.func196.trans (congrArg some (by kernel_rfl))⟩
  f31 := Tryz.func197.trans (congrArg some (by kernel_rfl))
  f32 := Tryz.func198.trans (congrArg some (by kernel_rfl))
  f33 := ⟨Tryz.f199.name, by decide, Tryz.func199.trans (congrArg some (by kernel_rfl))⟩
  f34 := ⟨Tryz.f200.name, by decide, Tryz.func200.trans (congrArg some (by kernel_rfl))⟩
  f35 := ⟨Tryz.f201.name, by decide, Tryz.func201.trans (congrArg some (by kernel_rfl))⟩
  f40 := ⟨Tryz.f208.name, by decide, Tryz.func208.trans (congrArg some (by kernel_rfl))⟩
  t0 := Tryz.underlying0
  a0 := Tryz.isAgg0
  z0 := Tryz.sizeOf0
  v0 := Tryz.zeroValue0
  t3 := Tryz.underlying3
  a3 := Tryz.isAgg3
  z3 := Tryz.sizeOf3
  v3 := Tryz.zeroValue3
  t4 := Tryz.underlying4
  a4 := Tryz.isAgg4
  z4 := Tryz.sizeOf4
  v4 := Tryz.zeroValue4
  t5 := Tryz.underlying5
  a5 := Tryz.isAgg5
  z5 := Tryz.sizeOf5
  v5 := Tryz.zeroValue5
  t9 := Tryz.underlying9
  a9 := Tryz.isAgg9
  z9 := Tryz.sizeOf9
  v9 := Tryz.zeroValue9
  t22 := Tryz.underlying68
  a22 := Tryz.isAgg68
  z22 := Tryz.sizeOf68
  v22 := Tryz.zeroValue68
  t23 := Tryz.underlying68
  a23 := Tryz.isAgg68
  z23 := Tryz.sizeOf68
  v23 := Tryz.zeroValue68
  t25 := Tryz.underlying3
  a25 := Tryz.isAgg3
  z25 := Tryz.sizeOf3
  v25 := Tryz.zeroValue3
  t32 := Tryz.underlying39
  a32 := Tryz.isAgg39
  z32 := Tryz.sizeOf39
  v32 := Tryz.zeroValue39
  t35 := Tryz.underlying300
  a35 := Tryz.isAgg300
  z35 := Tryz.sizeOf300
  v35 := Tryz.zeroValue300
  t36 := Tryz.underlying301
  a36 := Tryz.isAgg301
  z36 := Tryz.sizeOf301
  v36 := Tryz.zeroValue301
  t41 := Tryz.underlying104
  a41 := Tryz.isAgg104
  z41 := Tryz.sizeOf104
  v41 := Tryz.zeroValue104
  t44 := Tryz.underlying45
  a44 := Tryz.isAgg45
  z44 := Tryz.sizeOf45
  v44 := Tryz.zeroValue45
  t46 := Tryz.underlying309
  a46 := Tryz.isAgg309
  z46 := Tryz.sizeOf309
  v46 := Tryz.zeroValue309
  t53 := Tryz.underlying317
  a53 := Tryz.isAgg317
  z53 := Tryz.sizeOf317
  v53 := Tryz.zeroValue317
  t57 := Tryz.underlying321
  a57 := Tryz.isAgg321
  z57 := Tryz.sizeOf321
  v57 := Tryz.zeroValue321
  t63 := Tryz.underlying326
  a63 := Tryz.isAgg326
  z63 := Tryz.sizeOf326
  v63 := Tryz.zeroValue326
  t64 := Tryz.underlying58
  a64 := Tryz.isAgg58
  z64 := Tryz.sizeOf58
  v64 := Tryz.zeroValue58 }
end Go.Proofs
namespace Go.Proofs.YthadfdbkkmmgoaaGreatDoor.Bd
open Go.RowKit Go.Maps Go.Sort Go.Shelf
theorem sortsA (m : Nat) : AnyZI.SortsIn Tryz.prog Tryz.sortedA_ren Fence.wide m :=
  ⟨fun blk off cap ss W hH hblk hsz => callsIn_wide.2 (AnyM.slices_Sort_int Tryz.sortA blk off cap ss W hH hblk hsz),
   fun p cap W => callsIn_wide.2 (AnyM.slices_Sort_int_none Tryz.sortA p cap W)⟩
def ids (l : Prs) : List Int := l.map fun x => x.1
theorem keys_perm {W : World} {ob nn : Nat} {D : DataW Unit} {l : Prs} {n : Int} (hown : W.ownsMap Tryz.prog 3 entElem ob nn D) (hH : H1 D l) (hok : okP n l) : (ids l).Perm (intKeys D) := by
  have hwf := intKeys_wf hown Tryz.underlying3
  obtain ⟨es, hD, hpw, _⟩ := hown.entries keyed3
  obtain ⟨es', hD', hk⟩ := hown.keysOf
  obtain rfl : es = es' := by rw [hD] at hD'; simpa using hD'
  subst hD
  refine perm_intKeys hpw (fun p hp => ?_) ?_ fun x => ?_
  · obtain ⟨v, hv⟩ := hk p hp
    obtain ⟨x, _, e, _⟩ := Maps.keyOf_int_inv Tryz.underlying3 hv
    exact ⟨x, e⟩
  · unfold ids
    rw [List.Nodup, List.pairwise_map]
    exact hok.rise.imp fun q e => by omega
  · constructor
    · intro hx
      obtain ⟨y, hy, rfl⟩ := List.mem_map.1 hx
      have h1 := hok.low y hy
      have h2 := hok.next
      rw [(hH.1 y.1 (I64_mid (by omega) (by omega))).1, (hok.who y.1 y.2).2 hy]
      rfl
    · intro hx
      have hin : x ∈ intKeys (DataW.map es) := by
        rw [Maps.has_eq, List.any_eq_true] at hx
        obtain ⟨p, hp, hq⟩ := hx
        obtain ⟨v, hv⟩ := hk p hp
        obtain ⟨z, _, e, _⟩ := Maps.keyOf_int_inv Tryz.underlying3 hv
        rw [e, same_key] at hq
        have := of_decide_eq_true hq
        exact List.mem_map.2 ⟨p, hp, by rw [e]; exact this⟩
      have hi := hwf x hin
      have q := (hH.1 x hi).1
      rw [hx] at q
      obtain ⟨e, he⟩ := Option.isSome_iff_exists.1 q.symm
      exact List.mem_map.2 ⟨(x, e), (hok.who x e).1 he, rfl⟩
theorem ids_sorted {n : Int} {l : Prs} (hok : okP n l) : (ids l).mergeSort leI = ids l := by
  refine List.mergeSort_of_pairwise ?_
  unfold ids
  rw [List.pairwise_map]
  exact hok.rise.imp fun q => by simp; omega
set_option maxHeartbeats 1600000 in
set_option maxRecDepth 100000 in
theorem list_any {B : Nat} {W : World} {bb ob nb : Nat} {n : Int} {l : Prs} (h : Bg B W bb ob nb n l) :
    Calls Tryz.prog 63 #[.pointer (some ⟨bb, 0, none⟩)] W fun e W' => ∃ v, e = .returned v ∧ W'.ownsRow W.heap.size 3 1 v l.length ((ids l).map encZ) ∧ Below W.heap.size W W' := by
  have c0 := h.c0
  obtain ⟨D0, hown, hH⟩ := h.m1
  have hp := keys_perm hown hH h.ok
  have hso := ids_sorted h.ok
  have hfew := h.ok.few
  have hsz : Maps.size D0 = l.length := hH.2
  have hmax : Maps.size D0 ≤ maxLen := by unfold maxLen; omega
  have hbytes : Maps.size D0 * 8 ≤ 140737488355328 := by omega
  obtain ⟨nn, hnn⟩ : ∃ nn, nn = Maps.size D0 := ⟨_, rfl⟩
  have hown' : W.ownsMap Tryz.prog 3 entElem ob nn D0 := by rw [hnn]; exact hown
  have HP := hid hp
  have HS := hid hso
  clear h hH hown hp hso
  refine (callsIn_wide (n := 6)).1 ?_
  have hbl := hown'.lt
  have hseq : SeqGives Fence.wide 2 Tryz.prog 150 #[.pointer (some ⟨W.heap.size, 0, none⟩)] encZ (fun ss => ss.Perm (intKeys D0)) (Maps.size D0) (W.alloc (.cells #[.map (some ob)] 187)) :=
    AnyZI.keys_gives (ρ := Tryz.keysA_ren) { Tryz.keysA with } Fence.wide _ trivial rfl (by omega) W.heap.size ob nn D0 _ (by simp) (by simp) (by
      obtain ⟨es, clock, hb, Ft, hs, hD⟩ := hown'
      exact ⟨es, clock, (Below.heap_alloc _ _ ob hbl).trans hb, Ft, hs, hD⟩)
  have cK : ∀ mb W, CallsIn Fence.wide 5 Tryz.prog 112 #[.map mb] W fun e w' => e = .returned (.func (.func 150) #[] #[.pointer (some ⟨W.heap.size, 0, none⟩)]) ∧ w' = W.alloc (.cells #[.map mb] 187) := fun mb W => AnyZI.keys_in Tryz.keysA Fence.wide 5 trivial rfl mb W
  have cS := AnyZI.sorted_in Tryz.sortedA Fence.wide 5 trivial trivial trivial trivial rfl (by omega) (sortsA _) (enters_of Tryz.func149 (by kernel_rfl) rfl) 150 #[.pointer (some ⟨W.heap.size, 0, none⟩)] trivial (enters_of Tryz.func150 (by kernel_rfl) rfl) _ _ hmax hbytes _ hseq
  change CallsIn _ _ Tryz.prog 111 _ _ _ at cS
  have hfK : Fence.wide.fn 112 := trivial
  have hfS : Fence.wide.fn 111 := trivial
  clear hown' hseq hnn hmax hbytes
  refine callsIn_of_wp Tryz.func63 rfl trivial ?_ rfl
  simp only [Tryz.ntmps63, List.size_toArray, List.length_cons, List.length_nil, Nat.reduceAdd, Nat.reduceSub, Array.replicate_succ, Array.replicate_zero, List.push_toArray, List.append_toArray, List.nil_append, List.cons_append]
  gi_wp2_with (first
    | (gi_at_call 112; refine (cK _ _).mono ?_; rintro e w' ⟨rfl, rfl⟩)
    | (gi_at_call 111; refine cS.mono ?_; rintro e w' ⟨v, ss, rfl, hS, hrow, hnil, hb⟩))
  go_ret
  have e1 : ss.mergeSort (fun x y => decide (x ≤ y)) = ids l := (mergeSort_of_perm_i (hS.trans HP.out.symm)).trans HS.out
  have e2 : ss.length = l.length := by have := (hS.trans HP.out.symm).length_eq; simpa [ids] using this
  rw [e1, e2] at hrow
  exact ⟨v, rfl, ownsRow_base_a hrow (by simp), ((Below.refl _ W).alloc (Nat.le_refl _) _).trans (hb.mono (by simp))⟩
set_option maxHeartbeats 800000 in
theorem list_nil (W : World) : Calls Tryz.prog 63 #[.pointer none] W fun e W' => e = .returned (.slice none 0 0) ∧ W' = W := by
  go_enter Tryz.func63, Tryz.ntmps63
  go_wp2_with fail
  go_ret
  exact ⟨rfl, rfl⟩
end Go.Proofs.YthadfdbkkmmgoaaGreatDoor.Bd
namespace Go.Proofs.YthadfdbkkmmgoaaGreatDoor
open Go.RowKit Go.Shelf
theorem Env8.k1 {w : World} {Ad : Nat → Addr} (h : Env8 w Ad) : w.cell? ⟨0, 0, none⟩ = some (.iface 330 (.pointer (some (Ad 1)))) := h.cell 1 (by decide) (by decide)
theorem Env8.k2 {w : World} {Ad : Nat → Addr} (h : Env8 w Ad) : w.cell? ⟨3, 0, none⟩ = some (.iface 330 (.pointer (some (Ad 2)))) := h.cell 2 (by decide) (by decide)
theorem Env8.k6 {w : World} {Ad : Nat → Addr} (h : Env8 w Ad) : w.cell? ⟨1, 0, none⟩ = some (.iface 330 (.pointer (some (Ad 6)))) := h.cell 6 (by decide) (by decide)
theorem Env8.k7 {w : World} {Ad : Nat → Addr} (h : Env8 w Ad) : w.cell? ⟨9, 0, none⟩ = some (.iface 330 (.pointer (some (Ad 7)))) := h.cell 7 (by decide) (by decide)
theorem Env8.k9 {w : World} {Ad : Nat → Addr} (h : Env8 w Ad) : w.cell? ⟨6, 0, none⟩ = some (.iface 330 (.pointer (some (Ad 9)))) := h.cell 9 (by decide) (by decide)
theorem Env8.k17 {w : World} {Ad : Nat → Addr} (h : Env8 w Ad) : w.cell? ⟨2, 0, none⟩ = some (.iface 330 (.pointer (some (Ad 17)))) := h.cell 17 (by decide) (by decide)
end Go.Proofs.YthadfdbkkmmgoaaGreatDoor
namespace Go.Proofs.YthadfdbkkmmgoaaGreatDoor.Gs
open Go.RowKit Go.Shelf Go.Maps
open Go.Proofs.YthadfdbkkmmgoaaGreatDoor.Sc (litS keyed9 memB memB_iff Rsc RscRow Cmp CmpRow)
theorem bAl (W : World) (o : Obj) : Below W.heap.size W (W.alloc o) := (Below.refl _ _).alloc (Nat.le_refl _) _
theorem cell_blk {W : World} {b j : Nat} {cs : Array Value} {e : TypeId} {u : Value} (h : W.heap[b]? = some (.cells cs e (0, 0))) (hj : cs[j]? = some u) : W.cell? ⟨b, j, none⟩ = some u := by
  rw [cell_of_row _ _ j _ e (0, 0) h]; exact hj
theorem blk_free {W : World} {b : Nat} {cs : Array Value} {e : TypeId} (h : W.heap[b]? = some (.cells cs e (0, 0))) (j : Nat) : W.frozen? ⟨b, j, none⟩ = false := by
  unfold World.frozen?
  rw [show (⟨b, j, none⟩ : Addr).block = b from rfl, h]
  simp
theorem blk_seen {W W' : World} {B b : Nat} {o : Obj} (hb : Below B W W') (hB : W.heap.size ≤ B) (h : W.heap[b]? = some o) : W'.heap[b]? = some o := (hb.block b (Nat.lt_of_lt_of_le (Array.getElem?_eq_some_iff.1 h).1 hB)).trans h
theorem seen {B : Nat} {W W' : World} (hb : Below B W W') (hB : W.heap.size ≤ B) {p : Addr} {u : Value} (h : W.cell? p = some u) : W'.cell? p = some u := (hb.cell (p := p) (Nat.lt_of_lt_of_le (World.block_lt_of_cell? W p h) hB)).trans h
def I64 (i : Int) : Prop := (Lit.int .i64 i).wf = true
theorem I64_small {n : Int} (h0 : 0 ≤ n) (h1 : n ≤ 1000000) : I64 n := by
  unfold I64 Lit.wf
  simp [IntKind.min, IntKind.max, IntKind.signed, IntKind.bits]
  omega
theorem zero3 (w : World) : (zeroValue 3).run Tryz.prog w = .ok (.int .i64 0) w := by kernel_rfl
theorem litS_inj {s t : ByteArray} (h : litS s = litS t) : s = t := by
  unfold litS at h
  simp at h
  exact ByteArray.ext h
theorem litS_ok (s : ByteArray) : WideAt.IsKeyLit (litS s) := trivial
theorem key_str (s : ByteArray) (h : s.size ≤ maxLen) : keyOf Tryz.prog 9 (.string s) = some (litS s) := WideMaps.keyOf_string_mk Tryz.underlying9 h
/-- The place of a name. -/
def pl (ns : List ByteArray) (s : ByteArray) : Int := if memB ns s then (ns.findIdx (fun x => x.data.toList == s.data.toList) : Int) else 0
theorem memB_lt (ns : List ByteArray) (s : ByteArray) : ns.findIdx (fun x => x.data.toList == s.data.toList) < ns.length ↔ memB ns s = true := by
  rw [List.findIdx_lt_length]
  unfold memB
  rw [List.any_eq_true]
theorem memB_snoc (ns : List ByteArray) (s u : ByteArray) : memB (ns ++ [s]) u = (memB ns u || s.data.toList == u.data.toList) := by
  unfold memB
  rw [List.any_append]
  simp
theorem same_bytes {s u : ByteArray} (h : (s.data.toList == u.data.toList) = true) : s = u := ByteArray.ext (Array.toList_inj.1 (by simpa using h))
/-- What the map of the places says. -/
def Holds (D : DataW Unit) (ns : List ByteArray) : Prop := (∀ s, Maps.has D (litS s) = memB ns s ∧ D.atKey (litS s) (.lit (.int .i64 0)) = .lit (.int .i64 (pl ns s))) ∧ Maps.size D = ns.length
def Mn (W : World) (mb : Nat) (ns : List ByteArray) : Prop := ∃ D, W.ownsMap Tryz.prog 9 (plainElem Tryz.prog 3) mb (Maps.size D) D ∧ Holds D ns
theorem own_size {k : TypeId} {R : Value → Option (DataW Unit × List MemPlace)} {W : World} {mb n : Nat} {D : DataW Unit} (h : W.ownsMap Tryz.prog k R mb n D) : W.ownsMap Tryz.prog k R mb (Maps.size D) D := by
  obtain ⟨es, clock, hb, F, _, rfl⟩ := h
  exact ⟨es, clock, hb, F, by simp [Maps.size, length_sorted], rfl⟩
theorem turned_st {W W' : World} {mb : Nat} (h : W.mapTurned W' mb) : At.St (fun k => k = mb) W W' := At.St.of_grown h.grown fun k e => by simpa using e.symm
section
variable {W W' : World} {mb : Nat} {ns : List ByteArray} {t e : TypeId}
theorem Mn.lt (h : Mn W mb ns) : mb < W.heap.size := by obtain ⟨D, h1, -⟩ := h; exact h1.lt
theorem Mn.kept {T : Nat → Prop} (h : Mn W mb ns) (hs : At.St T W W') (hn : ¬ T mb) : Mn W' mb ns := by
  obtain ⟨D, ⟨es, cl, hb, q⟩, h2⟩ := h
  exact ⟨D, ⟨es, cl, hs.at hb hn, q⟩, h2⟩
theorem Mn.obj (h : Mn W mb ns) : ∃ es cl, W.heap[mb]? = some (.map es cl) := by
  obtain ⟨D, ⟨es, cl, hb, q⟩, h2⟩ := h
  exact ⟨es, cl, hb⟩
theorem mn_made (W : World) : Mn (W.alloc (.map #[] 0)) W.heap.size [] :=
  ⟨.map [], World.ownsMap_made W Tryz.prog 9 (plainElem Tryz.prog 3), fun _ => ⟨rfl, rfl⟩, rfl⟩
theorem Mn.look (h : Mn W mb ns) (ht : Tryz.prog.underlying t = some (.map 9 3)) (s : ByteArray) (hs : s.size ≤ maxLen) :
    (Instr.lookup t (.map (some mb)) (.string s) true).run Tryz.prog W = .ok (.tuple #[.int .i64 (pl ns s), .bool (memB ns s)]) W := by
  obtain ⟨D, h1, hH⟩ := h
  obtain ⟨v, ps, hr, hv⟩ := h1.look_ok keyed9 ht (zero3 W) (plainElem_int Tryz.underlying3 (show (Lit.int .i64 0).wf = true by decide)) (key_str s hs)
  obtain ⟨a, rfl, e2, -⟩ := plainElem_int_inv Tryz.underlying3 hv
  rw [(hH.1 s).2] at e2
  simp only [Prod.mk.injEq, DataW.lit.injEq, Lit.int.injEq, true_and] at e2
  rw [hr, (hH.1 s).1, e2.1]
theorem pl_snoc (ns : List ByteArray) (s u : ByteArray) (hs : memB ns s = false) : pl (ns ++ [s]) u = if s.data.toList == u.data.toList then (ns.length : Int) else pl ns u := by
  unfold pl
  rw [memB_snoc, List.findIdx_append]
  by_cases q : (s.data.toList == u.data.toList) = true
  · obtain rfl := same_bytes q
    have : ¬ ns.findIdx (fun x => x.data.toList == s.data.toList) < ns.length := fun h => by rw [(memB_lt ns s).1 h] at hs; cases hs
    rw [if_neg this]
    simp
  · have q' : (s.data.toList == u.data.toList) = false := by simpa using q
    rw [q', Bool.or_false]
    cases m : memB ns u with
    | false => simp
    | true => rw [if_pos ((memB_lt ns u).2 m)]; simp
theorem Mn.store {s : ByteArray} (h : Mn W mb ns) (hn : memB ns s = false) (hl : ns.length ≤ 1000) (hs : s.size ≤ maxLen) (ht : Tryz.prog.underlying t = some (.map 9 e)) :
    ∃ w', (Instr.mapUpdate t (.map (some mb)) (.string s) (.int .i64 (ns.length : Int))).run Tryz.prog W = .ok () w' ∧ Mn w' mb (ns ++ [s]) ∧ At.St (fun k => k = mb) W w' := by
  obtain ⟨D, h1, hH⟩ := h
  obtain ⟨w', hr, h2, h3⟩ := h1.store keyed9 ht (by unfold maxLen; rw [hH.2]; omega) (key_str s hs) (plainElem_int Tryz.underlying3 (I64_small (n := (ns.length : Int)) (by omega) (by omega)))
  have hD := h1.tidy keyed9
  refine ⟨w', hr, ⟨_, own_size h2, fun u => ?_, ?_⟩, turned_st h3⟩
  · rw [pl_snoc ns s u hn, memB_snoc]
    by_cases q : (s.data.toList == u.data.toList) = true
    · obtain rfl := same_bytes q
      rw [if_pos q, q, Bool.or_true]
      exact ⟨Maps.has_put_same hD.isMap (litS_ok _) _, Maps.atKey_put_same hD.isMap (litS_ok _) _ _⟩
    · have q' : litS u ≠ litS s := fun e => q (by rw [litS_inj e]; simp)
      have q2 : (s.data.toList == u.data.toList) = false := by simpa using q
      rw [if_neg q, Maps.has_put_other q', Maps.atKey_put_other q', q2, Bool.or_false]
      exact hH.1 u
  · rw [Maps.size_put hD, (hH.1 s).1, hH.2, hn]
    simp
end
/-- A number, as a value. -/
def gz (x : Int) : Value := .int .i64 x
/-- Goods in memory. -/
structure Gd (B : Nat) (W : World) (gb mb : Nat) (v : Value) (ns : List ByteArray) (l : List Int) (n : Nat) : Prop where
  box : W.heap[gb]? = some (.cells #[.map (some mb), v, .int .i64 (n : Int)] 186 (0, 0))
  map : Mn W mb ns
  row : W.ownsRow B 3 1 v l.length (l.map gz)
  low : B ≤ gb ∧ B ≤ mb
  few : l.length ≤ 8
/-- The blocks that a change turns. -/
def Ft (gb : Nat) (v : Value) (k : Nat) : Prop := k = gb ∨ v.ownBlock = some k
/-- All blocks of goods. -/
def Fz (gb mb : Nat) (v : Value) (k : Nat) : Prop := k = gb ∨ k = mb ∨ v.ownBlock = some k
theorem Ft.all {gb mb k : Nat} {v : Value} (h : Ft gb v k) : Fz gb mb v k := by
  rcases h with h | h
  · exact .inl h
  · exact .inr (.inr h)
section
variable {B : Nat} {W W' : World} {gb mb : Nat} {v : Value} {ns : List ByteArray} {l : List Int} {n : Nat}
theorem Gd.row_at (h : Gd B W gb mb v ns l n) {k : Nat} (hk : v.ownBlock = some k) : ∃ cur, W.heap[k]? = some (.cells cur 3 (0, 0)) := by
  rcases h.row.2 with ⟨h1, -⟩ | ⟨g, cap, cur, h1, h2, h3, -⟩
  · rw [h1] at hk; cases hk
  · rw [h1] at hk
    obtain rfl : g = k := by simpa [Value.ownBlock] using hk
    exact ⟨cur, h3⟩
theorem Gd.ne_row (h : Gd B W gb mb v ns l n) {k : Nat} (hk : v.ownBlock = some k) : k ≠ gb ∧ k ≠ mb := by
  obtain ⟨cur, hc⟩ := h.row_at hk
  constructor
  · rintro rfl
    rw [h.box] at hc
    simp at hc
  · rintro rfl
    obtain ⟨es, cl, q⟩ := h.map.obj
    rw [q] at hc
    cases hc
theorem Gd.ne_map (h : Gd B W gb mb v ns l n) : gb ≠ mb := by
  rintro rfl
  obtain ⟨es, cl, q⟩ := h.map.obj
  have := h.box
  rw [q] at this
  cases this
theorem Gd.lt (h : Gd B W gb mb v ns l n) (k : Nat) (hk : Fz gb mb v k) : B ≤ k ∧ k < W.heap.size := by
  rcases hk with rfl | rfl | hk
  · exact ⟨h.low.1, (Array.getElem?_eq_some_iff.1 h.box).1⟩
  · exact ⟨h.low.2, h.map.lt⟩
  · exact h.row.lt k hk
theorem Gd.kept {T : Nat → Prop} (h : Gd B W gb mb v ns l n) (hs : At.St T W W') (hn : ∀ k, Fz gb mb v k → ¬ T k) : Gd B W' gb mb v ns l n :=
  ⟨hs.at h.box (hn _ (.inl rfl)), h.map.kept hs (hn _ (.inr (.inl rfl))), own_later h.row fun _ _ hk hb => hs.at hb (hn _ (.inr (.inr hk))), h.low, h.few⟩
theorem Gd.later (h : Gd B W gb mb v ns l n) (hb : Below W.heap.size W W') : Gd B W' gb mb v ns l n := h.kept (T := fun _ => False) (At.St.of_below hb) fun _ _ q => q
theorem Gd.c0 (h : Gd B W gb mb v ns l n) : W.cell? ⟨gb, 0, none⟩ = some (.map (some mb)) := cell_blk h.box rfl
theorem Gd.c1 (h : Gd B W gb mb v ns l n) : W.cell? ⟨gb, 1, none⟩ = some v := cell_blk h.box rfl
theorem Gd.c2 (h : Gd B W gb mb v ns l n) : W.cell? ⟨gb, 2, none⟩ = some (.int .i64 (n : Int)) := cell_blk h.box rfl
theorem Gd.slice (h : Gd B W gb mb v ns l n) : ∃ a c, v = .slice a l.length c := own_slice h.row
theorem Gd.at (h : Gd B W gb mb v ns l n) {i : Nat} {x : Int} (hi : l[i]? = some x) : ∃ g c, v = .slice (some ⟨g, 0, none⟩) l.length c ∧ W.cell? ⟨g, i, none⟩ = some (.int .i64 x) ∧ W.frozen? ⟨g, i, none⟩ = false := by
  have hlt := (List.getElem?_eq_some_iff.1 hi).1
  obtain ⟨a, c, rfl⟩ := h.slice
  have hr := h.row
  obtain ⟨g, rfl, -⟩ := own_some hr (by omega)
  refine ⟨g, c, rfl, ?_, hr.frozenAt i⟩
  rw [hr.cellAt i (by omega), List.getElem?_map, hi]
  rfl
/-- A number set: the world behind it. -/
theorem Gd.set {g c i : Nat} {x : Int} (h : Gd B W gb mb (.slice (some ⟨g, 0, none⟩) l.length c) ns l n) :
    Gd B ((W.setCell ⟨g, i, none⟩ (.int .i64 x)).setCell ⟨gb, 2, none⟩ (.int .i64 ((n + 1 : Nat) : Int))) gb mb (.slice (some ⟨g, 0, none⟩) l.length c) ns (l.set i x) (n + 1) ∧ At.St (Ft gb (.slice (some ⟨g, 0, none⟩) l.length c)) W ((W.setCell ⟨g, i, none⟩ (.int .i64 x)).setCell ⟨gb, 2, none⟩ (.int .i64 ((n + 1 : Nat) : Int))) := by
  obtain ⟨r1, g1⟩ := h.row.stored i (.int .i64 x)
  have hne := (h.ne_row (k := g) rfl)
  have s1 : At.St (fun k => k = g) W (W.setCell ⟨g, i, none⟩ (.int .i64 x)) := At.St.setCell _ rfl
  have b1 := s1.at h.box hne.1.symm
  have m1 := h.map.kept s1 hne.2.symm
  have s2 : At.St (fun k => k = gb) (W.setCell ⟨g, i, none⟩ (.int .i64 x)) ((W.setCell ⟨g, i, none⟩ (.int .i64 x)).setCell ⟨gb, 2, none⟩ (.int .i64 ((n + 1 : Nat) : Int))) := At.St.setCell _ rfl
  have b2 := heap_setCell_same _ gb 2 _ _ (.int .i64 ((n + 1 : Nat) : Int)) b1
  have m2 := m1.kept s2 h.ne_map.symm
  have r2 := own_later r1 fun k _ hk hb => s2.at hb (by
    obtain rfl : g = k := by simpa [Value.ownBlock] using hk
    exact hne.1)
  refine ⟨⟨by simpa using b2, m2, ?_, h.low, by simpa using h.few⟩, ?_⟩
  · rw [List.map_set, List.length_set]
    exact r2
  · exact (At.St.setCell (S := Ft gb (.slice (some ⟨g, 0, none⟩) l.length c)) (a := W) (p := ⟨g, i, none⟩) (.int .i64 x) (.inr rfl)).trans s2 fun _ _ q => .inl q
end
end Go.Proofs.YthadfdbkkmmgoaaGreatDoor.Gs
namespace Go.Proofs.YthadfdbkkmmgoaaGreatDoor.Gs
open Go.RowKit Go.Shelf Go.Maps
open Go.Proofs.YthadfdbkkmmgoaaGreatDoor.Sc (memB)
/-- A sentinel inside Blames. -/
def Err (Ad : Nat → Addr) (W : World) (v : Value) (k d : Nat) : Prop := ∃ ws, Chn Ad W.heap.size W d v (ws, k)
theorem Err.later {Ad : Nat → Addr} {W W' : World} {v : Value} {k d : Nat} (h : Err Ad W v k d) (hb : Below W.heap.size W W') : Err Ad W' v k d := by
  obtain ⟨ws, h⟩ := h; exact ⟨ws, h.move hb hb.size⟩
theorem err_leaf (Ad : Nat → Addr) (W : World) (k : Nat) (hk : 1 ≤ k ∧ k ≤ 18) : Err Ad W (.iface 330 (.pointer (some (Ad k)))) k 0 := ⟨[], rfl, hk.1, hk.2, Nat.le_refl _⟩
theorem at_err (Ad : Nat → Addr) (s : ByteArray) (v : Value) (k d : Nat) (w : World) (h : Err Ad w v k d) :
    Calls Tryz.prog 38 #[.string s, v] w fun e w' => ∃ t q, e = .returned (.iface t q) ∧ Err Ad w' (.iface t q) k (d + 1) ∧ Below w.heap.size w w' := by
  obtain ⟨ws, h⟩ := h
  refine (at_chain Ad s d v (ws, k) w h).mono ?_
  rintro e w' ⟨v', rfl, hc, hb⟩
  obtain ⟨t, q, rfl, _⟩ := hc.1.shape
  exact ⟨t, q, rfl, ⟨_, hc⟩, hb⟩
theorem is_err (Ad : Nat → Addr) {W : World} {v : Value} {p k d : Nat} (hE : Env8 W Ad) (h : Err Ad W v p d) (hp : p ∈ eight) (hk : k ∈ eight) :
    Calls Tryz.prog 11 #[v, .iface 330 (.pointer (some (Ad k)))] W fun e W' => e = .returned (.bool (decide (p = k))) ∧ Below W.heap.size W W' := by
  obtain ⟨ws, h⟩ := h
  obtain ⟨t, q, rfl, -⟩ := h.1.shape
  refine is_by Ad k t q _ W ((eis_gen Ad W.heap.size k W ws _ p (hE.sen p hp (eight_le p hp).2) (hE.sen k hk (eight_le k hk).2) (hE.same hp hk) h.1).mono ?_)
  rintro e w' ⟨rfl, rfl⟩
  exact ⟨rfl, Below.refl _ _⟩
/-- The number at a place. -/
def numAt (l : List Int) (i : Int) : Option Int := if 0 ≤ i then l[i.toNat]? else none
theorem numAt_in {l : List Int} {i : Int} {x : Int} (h : numAt l i = some x) : ∃ k : Nat, i = (k : Int) ∧ k < l.length ∧ l[k]? = some x := by
  unfold numAt at h
  split at h
  · rename_i h0
    exact ⟨i.toNat, by omega, (List.getElem?_eq_some_iff.1 h).1, h⟩
  · cases h
theorem numAt_out {l : List Int} {i : Int} (h : numAt l i = none) : i < 0 ∨ (l.length : Int) ≤ i := by
  unfold numAt at h
  split at h
  · rename_i h0
    right
    have := List.getElem?_eq_none_iff.1 h
    omega
  · omega
section
variable {Ad : Nat → Addr} {B : Nat} {W : World} {gb mb : Nat} {v : Value} {ns : List ByteArray} {l : List Int} {n : Nat}
end
end Go.Proofs.YthadfdbkkmmgoaaGreatDoor.Gs
namespace Go.Proofs.YthadfdbkkmmgoaaGreatDoor.Gs
open Go.RowKit Go.Shelf Go.Maps
open Go.Proofs.YthadfdbkkmmgoaaGreatDoor.Sc (One NoText flat dig wpList_errsG own_more itoa_any)
theorem infoInt : (Tryz.prog.info? 3).map (fun i => (i.zero, i.size, i.bytes)) = some (some (.int .i64 0), 1, 8) := by kernel_rfl
/-- append of a row of numbers onto an owned one. -/
theorem wpList_ints (w : World) {ops : Array Oper} {rest : List Oper} {o : Oper} {a : Act} {Q : Exit → Act → World → Prop} (hgd : o.guard = none) (s x : Operand)
    (ho : o.op = .call { callee := .builtin .append, args := #[s, x], argTypes := #[68, 68] })
    (base : Nat) (v : Value) (xs : List Int) (hs : a.eval s = v) (hown : w.ownsRow base 3 1 v xs.length (xs.map gz))
    (g c : Nat) (l : List Int) (hx : a.eval x = .slice (some ⟨g, 0, none⟩) l.length c) (hrow : ∀ (j : Nat) u, l[j]? = some u → w.cell? ⟨g, j, none⟩ = some (.int .i64 u)) (hlen : xs.length + l.length ≤ 5000) (hbase : base ≤ w.heap.size)
    (h : ∀ v' w', Hid (w'.ownsRow base 3 1 v' (xs ++ l).length ((xs ++ l).map gz)) → Hid (w.grownBy w' v.ownBlock) → Hid (Below base w w') → wpList Tryz.prog ops Q rest (a.put o.dst v') w') :
    wpList Tryz.prog ops Q (o :: rest) a w := by
  obtain ⟨i0, hi, hz0, hz1, hz2⟩ := info_parts infoInt
  refine wpList_append_own_at w hgd s x 68 ho base 3 i0 (.int .i64 0) 1 8 Tryz.underlying68 hi hz0 hz1 hz2 rfl (by decide) v xs.length (xs.map gz) hs hown ⟨g, 0, none⟩ l.length c (l.map gz) hx (by simp) (fun j u hu => by
    rw [add_at]
    rw [List.getElem?_map, Option.map_eq_some_iff] at hu
    obtain ⟨z, hz, rfl⟩ := hu
    exact hrow j z hz) (by intro u hu; obtain ⟨z, -, rfl⟩ := List.mem_map.1 hu; rfl) (by simp [maxLen]; omega) (by omega) hbase ?_
  intro v' w' hown' hgrow _ _
  have e : xs.length + l.length = (xs ++ l).length := by simp
  rw [e, ← List.map_append] at hown'
  exact h v' w' hown' hgrow ((Below.refl _ _).grown hgrow hbase (fun k hk => own_block hown hk))
set_option maxHeartbeats 1600000 in
set_option maxRecDepth 100000 in
theorem clone_any {B : Nat} {W : World} {v : Value} {l : List Int} (h : W.ownsRow B 3 1 v l.length (l.map gz)) (hl : l.length ≤ 1000) :
    Calls Tryz.prog 114 #[v] W fun e W' => ∃ v', e = .returned v' ∧ W'.ownsRow W.heap.size 3 1 v' l.length (l.map gz) ∧ Below W.heap.size W W' := by
  have qn := fun (w : World) (a : Option Addr) (n c : Nat) => Go.Lib.run_eql_slice_nil (P := Tryz.prog) w 68 3 a n c 0 0 Tryz.underlying68
  rcases h.2 with ⟨rfl, h0⟩ | ⟨g, cap, cur, rfl, h2, h3, h4, h5, h6, h7⟩
  · obtain rfl := List.length_eq_zero_iff.1 h0
    clear h h0 hl
    go_enter Tryz.func114, Tryz.ntmps114
    go_wp2_with fail
    go_ret
    exact ⟨_, rfl, World.ownsRow_nil _ _ _ _, Below.refl _ _⟩
  · have R : Hid (∀ (j : Nat) u, l[j]? = some u → (W.alloc (.cells #[] 3)).cell? ⟨g, j, none⟩ = some (.int .i64 u)) := fun j u hu => by
      refine seen (bAl W _) (Nat.le_refl _) ?_
      rw [h.cellAt j (by have := (List.getElem?_eq_some_iff.1 hu).1; omega), List.getElem?_map, hu]
      rfl
    have O : Hid ((W.alloc (.cells #[] 3)).ownsRow W.heap.size 3 1 (.slice (some ⟨W.heap.size, 0, none⟩) 0 0) ([] : List Int).length (([] : List Int).map gz)) := World.ownsRow_lit W #[] 0 (Nat.le_refl _) (by unfold maxLen; omega) rfl
    have hz : W.heap.size ≤ (W.alloc (.cells #[] 3)).heap.size := by simp
    have BB := hid (bAl W (.cells #[] 3))
    have hll : ([] : List Int).length + l.length ≤ 5000 := by simp; omega
    have HL := hid hll
    clear h h2 h3 h4 h5 h6 h7 hl hll
    go_enter Tryz.func114, Tryz.ntmps114
    go_wp2_with (at_builtin; refine wpList_ints _ rfl (.tmp 5) (.tmp 6) rfl W.heap.size _ [] rfl O.out g cap l rfl R.out HL.out hz ?_; intro v1 w1 ow hg bw)
    obtain ⟨a1, c1, rfl⟩ := own_slice ow.out
    go_ret
    exact ⟨_, rfl, ow.out, BB.out.trans bw.out⟩
section
variable {Ad : Nat → Addr} {B : Nat} {W : World} {gb mb : Nat} {v : Value} {ns : List ByteArray} {l : List Int} {n : Nat}
set_option maxHeartbeats 1600000 in
set_option maxRecDepth 100000 in
theorem all_any (h : Gd B W gb mb v ns l n) :
    Calls Tryz.prog 69 #[.pointer (some ⟨gb, 0, none⟩)] W fun e W' => ∃ v', e = .returned v' ∧ W'.ownsRow W.heap.size 3 1 v' l.length (l.map gz) ∧ Below W.heap.size W W' := by
  have C := hid (clone_any h.row (by have := h.few; omega))
  have c1 := h.c1
  obtain ⟨a, c, rfl⟩ := h.slice
  clear h
  go_enter Tryz.func69, Tryz.ntmps69
  go_wp2_with fail
  refine C.out.mono ?_
  rintro e w1 ⟨v1, rfl, ho, hb⟩
  obtain ⟨a1, c1, rfl⟩ := own_slice ho
  have HO := hid ho
  have HB := hid hb
  clear ho hb C
  go_wp2_with fail
  go_ret
  exact ⟨_, rfl, HO.out, HB.out⟩
set_option maxHeartbeats 1600000 in
set_option maxRecDepth 100000 in
theorem all_nil (W : World) : Calls Tryz.prog 69 #[.pointer none] W fun e W' => e = .returned (.slice none 0 0) ∧ W' = W := by
  go_enter Tryz.func69, Tryz.ntmps69
  go_wp2_with fail
  go_ret
  exact ⟨rfl, rfl⟩
end
end Go.Proofs.YthadfdbkkmmgoaaGreatDoor.Gs
namespace Go.Proofs.YthadfdbkkmmgoaaGreatDoor.Gs
open Go.RowKit Go.Shelf Go.Maps
open Go.Proofs.YthadfdbkkmmgoaaGreatDoor.Sc (One NoText flat flat_app dig own_more itoa_any row_cell)
/-- Leaves of errors. -/
abbrev Lvs := List (List ByteArray × Nat)
/-- How asMany stands: the errors so far. -/
structure Am (Ad : Nat → Addr) (w : World) (ev : Value) (us : List (Value × Lvs)) (wr : World) : Prop where
  row : wr.ownsRow w.heap.size 31 1 ev us.length (us.map Prod.fst)
  nt : ∀ g, ev.ownBlock = some g → NoText wr g
  one : ∀ u ∈ us, One Ad wr.heap.size wr u.1 u.2
  bel : Below w.heap.size w wr
section
variable {Ad : Nat → Addr} {w wr w1 w2 : World} {ev : Value} {us : List (Value × Lvs)}
theorem Am.later (h : Am Ad w ev us wr) (hb : Below wr.heap.size wr w1) : Am Ad w ev us w1 :=
  ⟨own_more h.row hb, fun g hg => (h.nt g hg).later (hb.block g (h.row.lt g hg).2), fun u hu => (h.one u hu).move hb hb.size, h.bel.trans (hb.mono h.bel.size)⟩
theorem Am.env (h : Am Ad w ev us wr) (hE : Env8 w Ad) : Env8 wr Ad := hE.later h.bel
theorem am_none (Ad : Nat → Addr) (w : World) : Am Ad w (.slice none 0 0) [] w := ⟨World.ownsRow_nil _ _ _ _, fun g hg => by simp [Value.ownBlock] at hg, fun u hu => by simp at hu, Below.refl _ _⟩
theorem Am.app {u : Value × Lvs} {g c : Nat} {o : Obj} (h : Am Ad w ev us wr) (hv : One Ad wr.heap.size wr u.1 u.2) (ow : w2.ownsRow w.heap.size 31 1 (.slice (some ⟨g, 0, none⟩) (us.length + 1) c) (us.length + 1) (us.map Prod.fst ++ [u.1])) (hg : (wr.alloc o).grownBy w2 ev.ownBlock) : Am Ad w (.slice (some ⟨g, 0, none⟩) (us.length + 1) c) (us ++ [u]) w2 := by
  have b : Below wr.heap.size wr (wr.alloc o) := bAl _ _
  have h1 := h.later b
  have hone : ∀ x ∈ us ++ [u], One Ad w2.heap.size w2 x.1 x.2 := by
    intro x hx
    have hx1 : One Ad (wr.alloc o).heap.size (wr.alloc o) x.1 x.2 := by
      rcases List.mem_append.1 hx with hx | hx
      · exact h1.one x hx
      · obtain rfl := List.mem_singleton.1 hx
        exact hv.move b b.size
    cases hq : ev.ownBlock with
    | none =>
      rw [hq] at hg
      exact hx1.move ⟨hg.os, hg.tape, hg.output, hg.size, fun k hk => hg.block k hk (by simp)⟩ hg.size
    | some k =>
      rw [hq] at hg
      exact hx1.grown hg (Nat.le_refl _) (h1.nt k hq)
  refine ⟨by simpa using ow, ?_, hone, h1.bel.grown hg h1.bel.size (fun k hk => own_block h1.row hk)⟩
  intro x hx s hs
  obtain rfl : g = x := by simpa [Value.ownBlock] using hx
  rw [ow.cellAt 0 (by omega)] at hs
  cases us with
  | nil => simp at hs; exact (hone u (by simp)).cell.2 s hs
  | cons y us => simp at hs; exact (hone y (by simp)).cell.2 s hs
end
/-- append of one error, at a step of a region that draws its order. -/
theorem step_err1 {ops : Array Oper} {o : Oper} {a : Act} {K : Act → World → Prop} {Q : Exit → Act → World → Prop} {E : Prop} (hgd : o.guard = none) (s x : Operand)
    (ho : o.op = .call { callee := .builtin .append, args := #[s, x], argTypes := #[154, 154] })
    {Ad : Nat → Addr} {w wc : World} {ev v1 : Value} {us : List (Value × Lvs)} {ls : Lvs} (hC : Am Ad w ev us wc) (hv : One Ad wc.heap.size wc v1 ls) (hul : us.length ≤ 1000)
    (hs : a.eval s = ev) (hx : a.eval x = .slice (some ⟨wc.heap.size, 0, none⟩) 1 1)
    (h : ∀ g' cap w2, Am Ad w (.slice (some ⟨g', 0, none⟩) (us.length + 1) cap) (us ++ [(v1, ls)]) w2 → K (a.put o.dst (.slice (some ⟨g', 0, none⟩) (us.length + 1) cap)) w2) :
    if Region.wanted o (yielded ops a.tmps) = true then Oper.wp Tryz.prog o a (wc.alloc (.cells #[v1] 31)) K Q else E := by
  obtain ⟨i0, hi, hz0, hz1, hz2⟩ := info_parts Tryz.infoErr
  have hown : (wc.alloc (.cells #[v1] 31)).ownsRow w.heap.size 31 1 ev us.length (us.map Prod.fst) := hC.row.alloc _
  refine step_append_lies _ hgd s x 154 ho w.heap.size 31 i0 .nilIface 1 16 Tryz.underlying154 hi hz0 hz1 hz2 rfl (by decide) ev us.length (us.map Prod.fst) hs hown ⟨wc.heap.size, 0, none⟩ 1 1 [v1] hx rfl (fun j u hu => by rw [add_at]; exact row_cell wc [v1] 31 j u hu) (by intro u hu; simp at hu; subst hu; exact hv.cell.1) (by decide) (by unfold maxLen; omega) (by omega) (Nat.le_trans hC.bel.size (by simp)) (wc.alloc (.cells #[v1] 31)).heap.size rfl ?_
  intro g' cap w2 ow hg _ _
  exact h g' cap w2 (hC.app (u := (v1, ls)) hv ow hg)
/-- What is wrong where there are p places and m values. -/
def amL (m p : Nat) : Lvs := ((List.range' m (p - m)).map fun i => ([dig i], 1)) ++ if p < m then [([dig p], 1)] else []
def amU (m k : Nat) : Lvs := (List.range' m (k - m)).map fun i => ([dig i], 1)
theorem amU_next {m k : Nat} (h : m ≤ k) : amU m (k + 1) = amU m k ++ [([dig k], 1)] := by
  unfold amU
  rw [show k + 1 - m = (k - m) + 1 by omega, List.range'_1_concat, List.map_append, show m + (k - m) = k by omega]
  rfl
theorem at_leaf (Ad : Nat → Addr) (s : ByteArray) (w : World) : Calls Tryz.prog 38 #[.string s, .iface 330 (.pointer (some (Ad 1)))] w fun e w' => ∃ t q, e = .returned (.iface t q) ∧ One Ad w'.heap.size w' (.iface t q) [([s], 1)] ∧ Below w.heap.size w w' := by
  refine (at_chain Ad s 2 _ ([], 1) w ⟨rfl, by decide, by decide, by decide⟩).mono ?_
  rintro e w' ⟨v', rfl, hc, hb⟩
  obtain ⟨t, q, rfl, _⟩ := hc.1.shape
  exact ⟨t, q, rfl, .inr ⟨_, rfl, hc⟩, hb⟩
theorem itoa_w (i : Nat) (hi : i < 100) (w : World) : Calls Tryz.prog 127 #[.int .i64 (i : Int)] w fun e w' => e = .returned (.string (dig i)) ∧ w' = w := itoa_any i hi w
end Go.Proofs.YthadfdbkkmmgoaaGreatDoor.Gs
namespace Go.Proofs.YthadfdbkkmmgoaaGreatDoor.Gs
open Go.RowKit Go.Shelf Go.Maps
open Go.Proofs.YthadfdbkkmmgoaaGreatDoor.Sc (dig)
/-- The first k numbers are the new ones. -/
def mix (l xs : List Int) (k : Nat) : List Int := xs.take k ++ l.drop k
/-- How many of the first k are others. -/
def dif (l xs : List Int) : Nat → Nat
  | 0 => 0
  | k + 1 => dif l xs k + if l[k]? = xs[k]? then 0 else 1
theorem dif_le (l xs : List Int) : ∀ k, dif l xs k ≤ k
  | 0 => Nat.le_refl _
  | k + 1 => by have := dif_le l xs k; unfold dif; split <;> omega
theorem mix_len {l xs : List Int} {k : Nat} (h : xs.length = l.length) (hk : k ≤ l.length) : (mix l xs k).length = l.length := by unfold mix; simp; omega
theorem mix_at {l xs : List Int} {k : Nat} (h : xs.length = l.length) (hk : k < l.length) : (mix l xs k)[k]? = l[k]? := by
  unfold mix
  rw [List.getElem?_append_right (by simp; omega)]
  simp
  congr 1
  omega
theorem mix_set {l xs : List Int} {k : Nat} {x : Int} (h : xs.length = l.length) (hx : xs[k]? = some x) : (mix l xs k).set k x = mix l xs (k + 1) := by
  have hk := (List.getElem?_eq_some_iff.1 hx).1
  unfold mix
  rw [take_next hx, List.set_append_right _ _ (by simp; omega), List.append_assoc]
  have e : k - (xs.take k).length = 0 := by simp; omega
  rw [e]
  obtain ⟨y, hy⟩ := at_lt l k (by omega)
  have : l.drop k = y :: l.drop (k + 1) := by
    rw [List.drop_eq_getElem_cons (by omega), (List.getElem?_eq_some_iff.1 hy).2]
  rw [this]
  rfl
theorem mix_same {l xs : List Int} {k : Nat} {x : Int} (h : xs.length = l.length) (hx : xs[k]? = some x) (hl : l[k]? = some x) : mix l xs (k + 1) = mix l xs k := by
  rw [← mix_set h hx]
  have : (mix l xs k)[k]? = some x := by rw [mix_at h (by have := (List.getElem?_eq_some_iff.1 hx).1; omega)]; exact hl
  obtain ⟨q, e⟩ := List.getElem?_eq_some_iff.1 this
  rw [← e, List.set_getElem_self]
theorem mix_all {l xs : List Int} (h : xs.length = l.length) : mix l xs l.length = xs := by
  unfold mix
  rw [List.take_of_length_le (by omega)]
  simp
/-- A row of numbers, none of S's blocks. -/
def VRow (S : Nat → Prop) (W : World) (v : Value) (xs : List Int) : Prop := ∃ a c, v = .slice a xs.length c ∧ (xs = [] ∨ ∃ b o, a = some ⟨b, o, none⟩ ∧ ¬ S b ∧ ∀ (j : Nat) x, xs[j]? = some x → W.cell? ⟨b, o + j, none⟩ = some (.int .i64 x))
theorem VRow.kept {S : Nat → Prop} {W W' : World} {v : Value} {xs : List Int} (h : VRow S W v xs) (hs : At.St S W W') : VRow S W' v xs := by
  obtain ⟨a, c, h1, h2⟩ := h
  refine ⟨a, c, h1, h2.imp id ?_⟩
  rintro ⟨b, o, h3, h4, h5⟩
  refine ⟨b, o, h3, h4, fun j x hx => ?_⟩
  have hc := h5 j x hx
  have hb := hs.block b (World.block_lt_of_cell? W _ hc) h4
  exact (World.cell?_of_block (w := W) (a := ⟨b, o + j, none⟩) hb).trans hc
section
variable {Ad : Nat → Addr} {B : Nat} {W : World} {gb mb : Nat} {v : Value} {ns : List ByteArray} {l : List Int} {n : Nat}
theorem amL_ne {m p : Nat} (h : m ≠ p) : amL m p ≠ [] := by
  unfold amL
  by_cases q : p < m
  · rw [if_pos q]; simp
  · rw [if_neg q, List.append_nil]
    intro e
    have := congrArg List.length e
    simp at this
    omega
theorem amL_eq (m : Nat) : amL m m = [] := by unfold amL; simp
theorem amL_len {m p : Nat} (hp : p ≤ 40) : (amL m p).length ≤ 41 := by
  unfold amL
  split <;> simp <;> omega
theorem amL_one {m p : Nat} : ∀ x ∈ amL m p, x.2 = 1 := by
  intro x hx
  unfold amL at hx
  rcases List.mem_append.1 hx with h | h
  · obtain ⟨i, -, rfl⟩ := List.mem_map.1 h; rfl
  · split at h
    · obtain rfl := List.mem_singleton.1 h; rfl
    · simp at h
end
end Go.Proofs.YthadfdbkkmmgoaaGreatDoor.Gs
namespace Go.Proofs.YthadfdbkkmmgoaaGreatDoor.Gs
open Go.RowKit Go.Shelf Go.Maps
open Go.Proofs.YthadfdbkkmmgoaaGreatDoor.Sc (Cmp Rsc CmpRow RscRow SmallC SmallQ checkL resL resL_next seenTo seenR_next seenB nErr isNm memB memB_iff at3 bRes bName manyL check_any)
theorem resL_nil {cs : List Cmp} {rs : List Rsc} : ∀ m k, k ≤ m → resL cs rs m = [] → resL cs rs k = []
  | 0, k, h, e => by obtain rfl : k = 0 := by omega
                     exact e
  | m + 1, k, h, e => by
    by_cases q : k = m + 1
    · subst q; exact e
    · refine resL_nil m k (by omega) ?_
      rw [resL] at e
      exact (List.append_eq_nil_iff.1 e).1
/-- What a schema that can be says of its resources. -/
theorem chk_res {cs : List Cmp} {rs : List Rsc} (h : checkL cs rs = []) : rs.length ≤ 8 ∧ ∀ (k : Nat) (r : Rsc), rs[k]? = some r → isNm r.s = true ∧ memB ((rs.take k).map Rsc.s) r.s = false := by
  unfold checkL at h
  obtain ⟨-, h2⟩ := List.append_eq_nil_iff.1 h
  obtain ⟨h3, h4⟩ := List.append_eq_nil_iff.1 h2
  have hl : rs.length ≤ 8 := by
    unfold manyL at h3
    split at h3
    · cases h3
    · omega
  have hN : ∀ (k : Nat) (r : Rsc), rs[k]? = some r → isNm r.s = true ∧ memB (seenTo (cs.map Cmp.s ++ (rs.take k).map Rsc.s)) r.s = false := by
    intro k r hr
    have hk := (List.getElem?_eq_some_iff.1 hr).1
    have e := resL_nil rs.length (k + 1) (by omega) h4
    rw [resL_next hr] at e
    have e2 := (List.append_eq_nil_iff.1 e).2
    unfold at3 at e2
    have e3 := List.map_eq_nil_iff.1 e2
    unfold nErr at e3
    cases q : isNm r.s with
    | false => rw [q] at e3; simp at e3
    | true =>
      rw [q] at e3
      refine ⟨rfl, ?_⟩
      cases q2 : memB (seenTo (cs.map Cmp.s ++ (rs.take k).map Rsc.s)) r.s with
      | false => rfl
      | true => rw [q2] at e3; simp at e3
  have hS : ∀ k, k ≤ rs.length → ∀ s, s ∈ (rs.take k).map Rsc.s → s ∈ seenTo (cs.map Cmp.s ++ (rs.take k).map Rsc.s) := by
    intro k
    induction k with
    | zero => intro _ s hs; simp at hs
    | succ k ih =>
      intro hk s hs
      obtain ⟨r, hr⟩ := at_lt rs k (by omega)
      rw [seenR_next hr]
      obtain ⟨q1, q2⟩ := hN k r hr
      unfold seenB
      rw [q1, q2]
      rw [take_next hr, List.map_append] at hs
      rcases List.mem_append.1 hs with hs | hs
      · exact List.mem_append.2 (.inl (ih (by omega) s hs))
      · exact List.mem_append.2 (.inr (by simpa using hs))
  refine ⟨hl, fun k r hr => ⟨(hN k r hr).1, ?_⟩⟩
  have hk := (List.getElem?_eq_some_iff.1 hr).1
  cases q : memB ((rs.take k).map Rsc.s) r.s with
  | false => rfl
  | true =>
    have := (hN k r hr).2
    rw [(memB_iff _ _).2 (hS k (by omega) _ ((memB_iff _ _).1 q))] at this
    cases this
theorem nm_size {s : ByteArray} (h : isNm s = true) : s.size ≤ 8 := by
  unfold isNm at h
  simp at h
  omega
/-- What an append of a number leaves. -/
structure Grew (B : Nat) (v : Value) (l : List Int) (wc : World) (v' : Value) (w2 : World) : Prop where
  own : w2.ownsRow B 3 1 v' l.length (l.map gz)
  st : At.St (fun x => v.ownBlock = some x) wc w2
  at' : v'.ownBlock = v.ownBlock ∨ ∃ x, v'.ownBlock = some x ∧ wc.heap.size ≤ x
theorem step_num {ops : Array Oper} {o : Oper} {a : Act} {K : Act → World → Prop} {Q : Exit → Act → World → Prop} {E : Prop} (hgd : o.guard = none) (s x : Operand)
    (ho : o.op = .call { callee := .builtin .append, args := #[s, x], argTypes := #[68, 68] }) {B gb : Nat} {wc : World} {v : Value} {l : List Int} {k : Int} (hown : wc.ownsRow B 3 1 v l.length (l.map gz)) (hl : l.length ≤ 1000) (hB : B ≤ wc.heap.size)
    {cs : Array Value} (hbox : wc.heap[gb]? = some (.cells cs 186 (0, 0))) (hcs : cs[1]? = some v) (hne : v.ownBlock ≠ some gb)
    (hs : a.eval s = v) (hx : a.eval x = .slice (some ⟨wc.heap.size, 0, none⟩) 1 1)
    (h : ∀ g' cap w2, Grew B v (l ++ [k]) wc (.slice (some ⟨g', 0, none⟩) (l.length + 1) cap) w2 → w2.cell? ⟨gb, 1, none⟩ = some v → w2.frozen? ⟨gb, 1, none⟩ = false → K (a.put o.dst (.slice (some ⟨g', 0, none⟩) (l.length + 1) cap)) w2) :
    if Region.wanted o (yielded ops a.tmps) = true then Oper.wp Tryz.prog o a (wc.alloc (.cells #[.int .i64 k] 3)).drew K Q else E := by
  obtain ⟨i0, hi, hz0, hz1, hz2⟩ := info_parts infoInt
  have hb : Below wc.heap.size wc (wc.alloc (.cells #[.int .i64 k] 3)).drew := ((Below.refl _ _).alloc (Nat.le_refl _) _).drew
  have ho2 : (wc.alloc (.cells #[.int .i64 k] 3)).drew.ownsRow B 3 1 v l.length (l.map gz) := hown.alloc _
  have hz : (wc.alloc (.cells #[.int .i64 k] 3)).drew.heap.size = wc.heap.size + 1 := by simp
  refine step_append_lies _ hgd s x 68 ho B 3 i0 (.int .i64 0) 1 8 Tryz.underlying68 hi hz0 hz1 hz2 rfl (by decide) v l.length (l.map gz) hs ho2 ⟨wc.heap.size, 0, none⟩ 1 1 [gz k] hx rfl (fun j u hu => by
    rw [add_at]
    match j, hu with
    | 0, hu =>
      simp at hu
      subst hu
      exact new_cell wc _ 3
    | j + 1, hu => simp at hu) (by intro u hu; simp at hu; subst hu; rfl) (by decide) (by unfold maxLen; omega) (by omega) (by omega) (wc.heap.size + 1) hz ?_
  intro g' cap w2 ow hg hat hlt
  have st : At.St (fun x => v.ownBlock = some x) wc w2 := (At.St.of_below hb).trans (At.St.of_grown (S := fun x => v.ownBlock = some x) hg fun k e => e) fun _ _ q => q
  have hbx : w2.heap[gb]? = some (.cells cs 186 (0, 0)) := st.at hbox hne
  refine h g' cap w2 ⟨?_, st, ?_⟩ (cell_blk hbx hcs) (blk_free hbx 1)
  · have e : (l ++ [k]).length = l.length + 1 := by simp
    rw [e, List.map_append]
    exact ow
  · rcases hat with h1 | h1
    · exact .inl (by rw [h1]; rfl)
    · exact .inr ⟨g', rfl, by omega⟩
/-- A resource more. -/
theorem Gd.push {B : Nat} {wb w5 : World} {gb mb : Nat} {v v' : Value} {ns : List ByteArray} {l : List Int} {n : Nat} {x : Int} (h : Gd B wb gb mb v ns l n) (hg : Grew B v (l ++ [x]) wb v' w5) (hl : l.length < 8) :
    Gd B (w5.setCell ⟨gb, 1, none⟩ v') gb mb v' ns (l ++ [x]) n ∧ At.St (Ft gb v) wb (w5.setCell ⟨gb, 1, none⟩ v') := by
  have lg := (h.lt gb (.inl rfl)).2
  have lm := (h.lt mb (.inr (.inl rfl))).2
  have hnv : ∀ x, v'.ownBlock = some x → x ≠ gb ∧ x ≠ mb := fun x hx => by
    rcases hg.at' with h1 | ⟨y, h1, h2⟩
    · exact h.ne_row (h1 ▸ hx)
    · rw [h1] at hx; simp at hx; omega
  have b5 := hg.st.at h.box (fun e => (h.ne_row e).1 rfl)
  have m5 := h.map.kept hg.st (fun e => (h.ne_row e).2 rfl)
  have s6 : At.St (fun k => k = gb) w5 (w5.setCell ⟨gb, 1, none⟩ v') := At.St.setCell _ rfl
  have b6 := heap_setCell_same _ gb 1 _ _ v' b5
  refine ⟨⟨by simpa using b6, m5.kept s6 h.ne_map.symm, own_later hg.own fun k _ hk hb => s6.at hb (hnv k hk).1, h.low, by simp; omega⟩, ?_⟩
  exact (show At.St (Ft gb v) wb w5 from ⟨hg.st.os, hg.st.tape, hg.st.output, hg.st.size, fun k hk hn => hg.st.block k hk fun e => hn (.inr e)⟩).trans s6 fun _ _ e => .inl e
theorem top_nil {Ad : Nat → Addr} {n₀ d : Nat} {W : World} {v : Value} (h : Top Ad n₀ W d v []) : v = .nilIface := by
  rcases h with ⟨q, -⟩ | ⟨p, q, -⟩ | ⟨b, vs, -, q, q2⟩
  · exact q
  · cases q
  · have := q2.two; rw [List.map_eq_nil_iff.1 q.symm] at this; simp at this
set_option maxHeartbeats 4000000 in
set_option maxRecDepth 100000 in
theorem new_ok (Ad : Nat → Addr) (w : World) (va vb : Value) (cs : List Cmp) (rs : List Rsc) (hE : Env8 w Ad) (hC : CmpRow w va cs) (hQ : RscRow w vb rs) (hsC : SmallC cs) (hsQ : SmallQ rs) (hck : checkL cs rs = []) :
    Calls Tryz.prog 49 #[.agg #[va, vb]] w fun e w' => ∃ gb, e = .returned (.tuple #[.pointer (some ⟨gb, 0, none⟩), .nilIface]) ∧ (∃ mb v, Gd w.heap.size w' gb mb v (rs.map Rsc.s) (rs.map Rsc.n) 0) ∧ Below w.heap.size w w' := by
  have hmm := @run_makeMap Tryz.prog
  obtain ⟨h8, hN⟩ := chk_res hck
  obtain ⟨w0, hw0⟩ : ∃ w0, w0 = w.alloc (.cells #[va, vb] 25) := ⟨_, rfl⟩
  have b0 : Below w.heap.size w w0 := by rw [hw0]; exact bAl _ _
  have r0 : w0.heap[w.heap.size]? = some (.cells #[va, vb] 25 (0, 0)) := by rw [hw0]; exact heap_alloc_new w _
  have CK := hid (check_any Ad w0 va vb cs rs (hE.later b0) (hC.later b0) (hQ.later b0) hsC hsQ)
  rw [hck] at CK
  have HQ := hid hQ
  obtain ⟨a, c, rfl, hcap, -⟩ := hC
  obtain ⟨a', c', rfl, hcap', -⟩ := hQ
  have x0 : w0.cell? ⟨w.heap.size, 0, none⟩ = some (.slice a cs.length c) := cell_blk r0 rfl
  have x1 : w0.cell? ⟨w.heap.size, 1, none⟩ = some (.slice a' rs.length c') := cell_blk r0 rfl
  have HW0 := hid hw0
  have B0 := hid b0
  have R0 := hid r0
  have HN := hid hN
  have h8i : (rs.length : Int) ≤ 8 := by omega
  clear hE hsC hsQ hck hw0 b0 r0 hN hcap hcap'
  go_enter Tryz.func49, Tryz.ntmps49
  go_upto_region 1 with fail
  rw [← HW0.out]
  go_wp2_with fail
  refine CK.out.mono ?_
  rintro e w1 ⟨v1, rfl, ht, hb⟩
  obtain rfl := top_nil ht
  have R1 := hid (blk_seen hb (Nat.le_refl _) R0.out)
  have B1 := hid (B0.out.trans (hb.mono B0.out.size))
  have hz1 : Hid (w.heap.size < w1.heap.size) := by
    have := (Array.getElem?_eq_some_iff.1 R1.out).1
    exact this
  obtain ⟨w2, hw2⟩ : ∃ w2, w2 = w1.alloc (.map #[] 0) := ⟨_, rfl⟩
  obtain ⟨w3, hw3⟩ : ∃ w3, w3 = w2.alloc (.cells #[.map (some w1.heap.size), .slice none 0 0, .int .i64 0] 186) := ⟨_, rfl⟩
  have b2 : Below w1.heap.size w1 w2 := by rw [hw2]; exact bAl _ _
  have b3 : Below w2.heap.size w2 w3 := by rw [hw3]; exact bAl _ _
  have hs2 : w2.heap.size = w1.heap.size + 1 := by rw [hw2]; simp
  have m2 : Mn w2 w1.heap.size [] := by rw [hw2]; exact mn_made w1
  have G3 : Hid (Gd w.heap.size w3 w2.heap.size w1.heap.size (.slice none 0 0) [] [] 0) := ⟨by rw [hw3]; exact heap_alloc_new w2 _, m2.kept (T := fun _ => False) (At.St.of_below b3) fun q => q, World.ownsRow_nil _ _ _ _, ⟨by have := hz1.out; omega, by have := hz1.out; omega⟩, by simp⟩
  have B3 := hid (B1.out.trans ((b2.trans (b3.mono b2.size)).mono B1.out.size))
  have x3 : w3.cell? ⟨w.heap.size, 1, none⟩ = some (.slice a' rs.length c') := cell_blk (blk_seen b3 (Nat.le_refl _) (blk_seen b2 (Nat.le_refl _) R1.out)) rfl
  have HW2 := hid hw2
  have HW3 := hid hw3
  have HS2 := hid hs2
  obtain ⟨gb, hgb⟩ : ∃ gb, gb = w2.heap.size := ⟨_, rfl⟩
  obtain ⟨mb, hmb⟩ : ∃ mb, mb = w1.heap.size := ⟨_, rfl⟩
  rw [← hgb, ← hmb] at G3
  clear ht hb b2 b3 hs2 m2 hw2 hw3 CK x0 x1
  have HGB := hid hgb
  have HMB := hid hmb
  clear hgb hmb
  go_upto_region 5 with fail
  rw [← HW2.out, ← HW3.out]
  rw [← HS2.out, ← HGB.out, ← HMB.out]
  clear HW2 HW3 HS2 HGB HMB hmm hz1 R1 B1
  go_wp2_with fail
  go_loopw [6, 7, 19] (fun _ _ i wr => ∃ (k : Nat) (v : Value), k ≤ rs.length ∧ i = .int .i64 (k : Int) ∧ Hid (Gd w.heap.size wr gb mb v ((rs.take k).map Rsc.s) ((rs.take k).map Rsc.n) 0 ∧ Below w.heap.size w wr)) (fun _ _ i _ => rs.length - (intOf i).toNat)
  case atStart => exact ⟨0, _, Nat.zero_le _, rfl, G3.out, B3.out⟩
  case round =>
    clear x3 G3 B3
    obtain ⟨k, v, hk, rfl, HK⟩ := hrel
    by_cases hlt : k < rs.length
    · have hki : (k : Int) < (rs.length : Int) := by omega
      obtain ⟨x, hx⟩ := at_lt rs k hlt
      obtain ⟨b, o, rfl, c0, c1⟩ : ∃ b o, a' = some ⟨b, o, none⟩ ∧ wr.cell? ⟨b, o + k * 2, none⟩ = some (.string x.s) ∧ wr.cell? ⟨b, o + k * 2 + 1, none⟩ = some (.int .i64 x.n) := by
        obtain ⟨a2, c2, hv, -, hl2⟩ := HQ.out.later HK.out.2
        obtain ⟨rfl, rfl⟩ : a' = a2 ∧ c' = c2 := by simpa using hv
        rcases hl2 with q | ⟨b, o, q1, q2⟩
        · rw [q] at hlt; simp at hlt
        · exact ⟨b, o, q1, q2 k x hx⟩
      obtain ⟨hnm, hmem⟩ := HN.out k x hx
      have hsz := nm_size hnm
      have hkl : ((rs.take k).map Rsc.s).length = k := by simp; omega
      have hkn : ((rs.take k).map Rsc.n).length = k := by simp; omega
      obtain ⟨va, vc, hvv⟩ := HK.out.1.slice
      obtain ⟨wa, hwa⟩ : ∃ wa, wa = wr.alloc (.cells #[.string x.s, .int .i64 x.n] 107) := ⟨_, rfl⟩
      have ba : Below wr.heap.size wr wa := by rw [hwa]; exact bAl _ _
      have ra : wa.heap[wr.heap.size]? = some (.cells #[.string x.s, .int .i64 x.n] 107 (0, 0)) := by rw [hwa]; exact heap_alloc_new wr _
      have bd : Below wa.heap.size wa wa.drew := (Below.refl _ _).drew
      have ga := HK.out.1.later ba
      have gd := ga.later bd
      obtain ⟨wb, hr, hm, hs⟩ := gd.map.store hmem (by omega) (by unfold maxLen; omega) Tryz.underlying184
      rw [hkl] at hr
      have gB : Gd w.heap.size wb gb mb v ((rs.take k).map Rsc.s ++ [x.s]) ((rs.take k).map Rsc.n) 0 := ⟨hs.at gd.box gd.ne_map, hm, own_later gd.row fun q _ hq hb => hs.at hb (gd.ne_row hq).2, gd.low, gd.few⟩
      have rb := hs.at (blk_seen bd (Nat.le_refl _) ra) (by have := (HK.out.1.lt mb (.inr (.inl rfl))).2; omega)
      have bw : Below w.heap.size w wb := (HK.out.2.trans ((ba.trans (bd.mono ba.size)).mono HK.out.2.size)).trans (hs.below (B := w.heap.size) (fun q e => by rw [e]; exact gd.low.2) (HK.out.2.trans ((ba.trans (bd.mono ba.size)).mono HK.out.2.size)).size)
      have K1 : Hid (wa.drew.cell? ⟨gb, 0, none⟩ = some (.map (some mb)) ∧ wa.drew.cell? ⟨wr.heap.size, 0, none⟩ = some (.string x.s)) := ⟨gd.c0, cell_blk (W := wa.drew) ra rfl⟩
      have K2 : Hid (wb.cell? ⟨gb, 0, none⟩ = some (.map (some mb)) ∧ wb.cell? ⟨wr.heap.size, 0, none⟩ = some (.string x.s)) := ⟨gB.c0, cell_blk rb rfl⟩
      have e1 : wb.cell? ⟨gb, 1, none⟩ = some v := gB.c1
      have e2 : wb.cell? ⟨wr.heap.size, 1, none⟩ = some (.int .i64 x.n) := cell_blk rb rfl
      have HGB := hid gB
      have HBW := hid bw
      have HWA := hid hwa
      have HTN := hid (take_next hx)
      have hnl : gb < wb.heap.size := (gB.lt gb (.inl rfl)).2
      have hnn : ¬ gb = wb.heap.size := by omega
      have hne : v.ownBlock ≠ some gb := fun e => (gB.ne_row e).1 rfl
      have hB2 : w.heap.size ≤ wb.heap.size := bw.size
      have hnl2 : ((rs.take k).map Rsc.n).length ≤ 1000 := by omega
      obtain ⟨ns, hns⟩ : ∃ ns, ns = (rs.take k).map Rsc.s := ⟨_, rfl⟩
      obtain ⟨ls, hls⟩ : ∃ ls, ls = (rs.take k).map Rsc.n := ⟨_, rfl⟩
      rw [← hns, ← hls] at HGB
      rw [← hls] at hnl2 hkn
      have HNS := hid hns
      have HLS := hid hls
      have HKN := hid hkn
      rw [← hls] at hvv
      subst hvv
      clear hnm hmem hsz hkl ba ra bd ga gd hm hs gB rb bw hwa HK hns hls hkn hx
      go_upto_region 8 with fail
      rw [← HWA.out]
      go_region_held3 (fun W' => W'.cell? ⟨gb, 0, none⟩ = some (.map (some mb)) ∧ W'.cell? ⟨wr.heap.size, 0, none⟩ = some (.string x.s)) (first | exact K1.out | exact K2.out) (fail)
      clear hr K1 K2 c0 c1
      go_upto_region 9 with fail
      go_region_law (refine step_num rfl _ _ rfl HGB.out.row hnl2 hB2 HGB.out.box rfl hne rfl rfl ?_; intro g' cap w5 hgr hx5 hf5)
      all_goals
        have NX : Hid (Gd w.heap.size (w5.setCell ⟨gb, 1, none⟩ (.slice (some ⟨g', 0, none⟩) (ls.length + 1) cap)) gb mb (.slice (some ⟨g', 0, none⟩) (ls.length + 1) cap) ((rs.take (k + 1)).map Rsc.s) ((rs.take (k + 1)).map Rsc.n) 0 ∧ Below w.heap.size w (w5.setCell ⟨gb, 1, none⟩ (.slice (some ⟨g', 0, none⟩) (ls.length + 1) cap))) := by
          obtain ⟨q1, q2⟩ := HGB.out.push hgr (by have := HKN.out; omega)
          rw [HTN.out, List.map_append, List.map_append, ← HNS.out, ← HLS.out]
          refine ⟨q1, HBW.out.trans (q2.below (B := w.heap.size) (fun q e => ?_) HBW.out.size)⟩
          exact (HGB.out.lt q e.all).1
        clear hgr hx5 hf5 HGB HNS HLS e1 e2
        go_wp2_with fail
        go_roundw
        case rel => exact ⟨k + 1, _, by omega, by go_num, NX.out⟩
        case measure => simp [intOf]; omega
    · have hki : ¬ (k : Int) < (rs.length : Int) := by omega
      obtain rfl : k = rs.length := by omega
      rw [List.take_of_length_le (Nat.le_refl _)] at HK
      go_wp2_with fail
      go_ret2
      exact ⟨gb, rfl, ⟨mb, v, HK.out.1⟩, HK.out.2⟩
end Go.Proofs.YthadfdbkkmmgoaaGreatDoor.Gs
namespace Go.Proofs.YthadfdbkkmmgoaaGreatDoor.Wo
open Go.RowKit Go.Shelf Go.Maps
open Go.Proofs.YthadfdbkkmmgoaaGreatDoor.At (St bAl cell_blk blk_seen blk_free)
open Go.Proofs.YthadfdbkkmmgoaaGreatDoor.Rs (SD Prt Prts PRow)
open Go.Proofs.YthadfdbkkmmgoaaGreatDoor.So (Sto CV Gw)
open Go.Proofs.YthadfdbkkmmgoaaGreatDoor.Bd (Prs)
/-- Whose a block is: nobody's (0), the store's (1), the badges' (2), the goods' (3), commands' (4), the world's (5), its kinds' (6). -/
abbrev Own := Nat → Nat
/-- What is owned lies above B. -/
def Fin (B : Nat) (G : Own) (W : World) : Prop := ∀ k, G k ≠ 0 → B ≤ k ∧ k < W.heap.size
/-- A step that changes blocks of the owners C alone. -/
structure Up (C : Nat → Prop) (G G' : Own) (W W' : World) : Prop where
  st : St (fun k => C (G k)) W W'
  old : ∀ k, k < W.heap.size → G' k = G k
  new : ∀ k, W.heap.size ≤ k → G' k ≠ 0 → C (G' k)
variable {B : Nat} {G G' G2 : Own} {W W' W2 : World} {C C' D : Nat → Prop}
theorem st_mono {S T : Nat → Prop} (h : St S W W') (hs : ∀ k, k < W.heap.size → S k → T k) : St T W W' := ⟨h.os, h.tape, h.output, h.size, fun k hk n => h.block k hk fun q => n (hs k hk q)⟩
theorem Up.later (hf : Fin B G W) (hb : Below W.heap.size W W') : Up C G G W W' := ⟨St.of_below hb, fun _ _ => rfl, fun k hk q => by have := (hf k q).2; omega⟩
theorem Up.refl (hf : Fin B G W) : Up C G G W W := Up.later hf (Below.refl _ _)
theorem Up.mono (h : Up C G G' W W') (hc : ∀ i, C i → D i) : Up D G G' W W' := ⟨st_mono h.st fun _ _ q => hc _ q, h.old, fun k hk q => hc _ (h.new k hk q)⟩
theorem Up.trans (h : Up C G G' W W') (k : Up C G' G2 W' W2) : Up C G G2 W W2 :=
  ⟨h.st.trans k.st fun x hx q => by rw [h.old x hx] at q; exact q, fun x hx => (k.old x (Nat.lt_of_lt_of_le hx h.st.size)).trans (h.old x hx), fun x hx q => by
    by_cases e : x < W'.heap.size
    · rw [k.old x e] at q ⊢; exact h.new x hx q
    · exact k.new x (by omega) q⟩
theorem Up.bel (h : Up C G G' W W') (hf : Fin B G W) (hB : B ≤ W.heap.size) (h0 : ¬ C 0) : Below B W W' := h.st.below (fun k q => (hf k fun e => h0 (e ▸ q)).1) hB
/-- A block of nobody's stays. -/
theorem Up.at (h : Up C G G' W W') {k : Nat} {o : Obj} (hk : W.heap[k]? = some o) (hn : ¬ C (G k)) : W'.heap[k]? = some o ∧ G' k = G k :=
  ⟨h.st.at hk hn, h.old k (Array.getElem?_eq_some_iff.1 hk).1⟩
/-- The new owner of new blocks. -/
def paint (G : Own) (N i : Nat) (S : Nat → Prop) [DecidablePred S] : Own := fun k => if k < N then G k else if S k then i else 0
theorem paint_up {i : Nat} {S : Nat → Prop} [DecidablePred S] (hi : C i) (hs : St (fun k => C (G k)) W W') : Up C G (paint G W.heap.size i S) W W' :=
  ⟨hs, fun k hk => by simp [paint, hk], fun k hk q => by
    have e : ¬ k < W.heap.size := by omega
    unfold paint at q ⊢
    rw [if_neg e] at q ⊢
    by_cases f : S k
    · rw [if_pos f]; exact hi
    · rw [if_neg f] at q; exact absurd rfl q⟩
theorem paint_fin {i : Nat} {S : Nat → Prop} [DecidablePred S] (hf : Fin B G W) (hB : B ≤ W.heap.size) (hs : W.heap.size ≤ W'.heap.size) (hS : ∀ k, S k → k < W'.heap.size) : Fin B (paint G W.heap.size i S) W' := fun k q => by
  unfold paint at q
  by_cases e : k < W.heap.size
  · rw [if_pos e] at q
    have := hf k q
    omega
  · rw [if_neg e] at q
    by_cases f : S k
    · have := hS k f; omega
    · rw [if_neg f] at q; exact absurd rfl q
theorem paint_at {i : Nat} {S S' : Nat → Prop} [DecidablePred S] (hS : ∀ k, S' k → (k < W.heap.size ∧ G k = i) ∨ (W.heap.size ≤ k ∧ S k)) (k : Nat) (hk : S' k) : paint G W.heap.size i S k = i := by
  unfold paint
  rcases hS k hk with ⟨h1, h2⟩ | ⟨h1, h2⟩
  · rw [if_pos h1, h2]
  · rw [if_neg (by omega), if_pos h2]
/-- The store beside others. -/
def Ps (B : Nat) (G : Own) (W : World) (sb : Nat) (s : SD) (t : Nat) : Prop := ∃ c, Sto none B W sb c s ∧ c.t ≤ t ∧ ∀ k, c.f k ≠ (0, 0, 0) → G k = 1
/-- Badges beside others. -/
def Pb (B : Nat) (G : Own) (W : World) (bb : Nat) (n : Int) (l : Prs) : Prop := ∃ ob nb, Bd.Bg B W bb ob nb n l ∧ ∀ k, Bd.Ft bb ob nb k → G k = 2
/-- Goods beside others. -/
def Pg (B : Nat) (G : Own) (W : World) (gb : Nat) (ns : List ByteArray) (gl : List Int) (n : Nat) : Prop := ∃ mb v, Gs.Gd B W gb mb v ns gl n ∧ ∀ k, Gs.Fz gb mb v k → G k = 3
section
variable {sb : Nat} {s s' : SD} {t t' bb gb jb most n : Nat} {nx : Int} {l : Prs} {ns : List ByteArray} {gl : List Int}
theorem Ps.kept (h : Ps B G W sb s t) (hf : Fin B G W) (hu : Up C G G' W W') (hc : ¬ C 1) : Ps B G' W' sb s t := by
  obtain ⟨c, h1, h2, h3⟩ := h
  exact ⟨c, h1.keep hu.st fun k hk q => hc (h3 k hk ▸ q), h2, fun k hk => (hu.old k (hf k (by rw [h3 k hk]; decide)).2).trans (h3 k hk)⟩
theorem Pb.kept (h : Pb B G W bb nx l) (hf : Fin B G W) (hu : Up C G G' W W') (hc : ¬ C 2) : Pb B G' W' bb nx l := by
  obtain ⟨ob, nb, h1, h3⟩ := h
  exact ⟨ob, nb, h1.kept hu.st fun k hk q => hc (h3 k hk ▸ q), fun k hk => (hu.old k (hf k (by rw [h3 k hk]; decide)).2).trans (h3 k hk)⟩
theorem Pg.kept (h : Pg B G W gb ns gl n) (hf : Fin B G W) (hu : Up C G G' W W') (hc : ¬ C 3) : Pg B G' W' gb ns gl n := by
  obtain ⟨mb, v, h1, h3⟩ := h
  exact ⟨mb, v, h1.kept hu.st fun k hk q => hc (h3 k hk ▸ q), fun k hk => (hu.old k (hf k (by rw [h3 k hk]; decide)).2).trans (h3 k hk)⟩
/-- The store behind a change of its own. -/
theorem Ps.go {c c' : CV} (hf : Fin B G W) (h1 : Sto none B W sb c s) (h3 : ∀ k, c.f k ≠ (0, 0, 0) → G k = 1) (k1 : Sto none B W' sb c' s') (k2 : c'.t ≤ t') (k3 : Gw c c' W W') :
    ∃ G', Up (· = 1) G G' W W' ∧ Fin B G' W' ∧ Ps B G' W' sb s' t' := by
  classical
  have hs : St (fun k => G k = 1) W W' := st_mono k3.st fun k _ q => h3 k q
  refine ⟨paint G W.heap.size 1 fun k => c'.f k ≠ (0, 0, 0), paint_up (C := (· = 1)) rfl hs, paint_fin hf h1.big hs.size fun k hk => (k1.lt k hk).2, c', k1, k2, paint_at fun k hk => ?_⟩
  by_cases e : k < W.heap.size
  · rcases k3.new k hk with q | q
    · exact .inl ⟨e, h3 k q⟩
    · omega
  · exact .inr ⟨by omega, hk⟩
/-- Badges behind a change of their own. -/
theorem Pb.go {ob nb : Nat} {nx' : Int} {l' : Prs} (hf : Fin B G W) (h3 : ∀ k, Bd.Ft bb ob nb k → G k = 2) (hg : Bd.Bg B W' bb ob nb nx' l') (hs : St (fun k => Bd.Ft bb ob nb k) W W') : Up (· = 2) G G W W' ∧ Fin B G W' ∧ Pb B G W' bb nx' l' :=
  ⟨⟨st_mono hs fun k _ q => h3 k q, fun _ _ => rfl, fun k hk q => by have := (hf k q).2; omega⟩, fun k q => by have := hf k q; have := hs.size; omega, ob, nb, hg, h3⟩
/-- Goods behind a change of their own. -/
theorem Pg.go {mb : Nat} {v : Value} {gl' : List Int} {n' : Nat} (hf : Fin B G W) (h3 : ∀ k, Gs.Fz gb mb v k → G k = 3) (hg : Gs.Gd B W' gb mb v ns gl' n') (hs : St (Gs.Ft gb v) W W') : Up (· = 3) G G W W' ∧ Fin B G W' ∧ Pg B G W' gb ns gl' n' :=
  ⟨⟨st_mono hs fun k _ q => h3 k q.all, fun _ _ => rfl, fun k hk q => by have := (hf k q).2; omega⟩, fun k q => by have := hf k q; have := hs.size; omega, mb, v, hg, h3⟩
end
end Go.Proofs.YthadfdbkkmmgoaaGreatDoor.Wo
