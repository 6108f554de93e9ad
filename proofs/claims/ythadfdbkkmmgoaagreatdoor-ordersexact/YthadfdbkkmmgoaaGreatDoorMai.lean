/- A part of the proof. -/
import Derived.Shelf.SlGeneric
import Derived.Shelf.SlIterI.Nil
import Derived.Shelf.SortM.Plain
import Derived.Shelf.SortM.SortNone
import Derived.Ground.GgzProg
import Derived.Ground.SlgmProg
import Derived.Lib.SliceRun
import Derived.Test.YthadfdbkkmmgoaaGreatDoorMah
set_option maxHeartbeats 4000000
namespace Go.Proofs.YthadfdbkkmmgoaaGreatDoor.Bd
open Go.RowKit Go.Shelf Go.Maps
section
variable {Ad : Nat -> Addr} {B : Nat} {W : World} {bb ob nb : Nat} {n : Int} {l : Prs}
set_option maxRecDepth 100000 in
theorem z7b (W : World) : Calls Tryz.prog 50 #[] W fun e W' => ∃ bb ob nb, e = .returned (.pointer (some ⟨bb, 0, none⟩)) /\ Bg W.heap.size W' bb ob nb 1 [] /\ Below W.heap.size W W' := by
 have hmm := @run_makeMap Tryz.prog
 go_enter Tryz.func50, Tryz.ntmps50
 go_wp2_with fail
 have e1 : (W.alloc (.map #[] 0)).heap.size = W.heap.size + 1 := by simp
 have e2 : ((W.alloc (.map #[] 0)).alloc (.map #[] 0)).heap.size = W.heap.size + 2 := by simp
 have b1 := bAl W (.map #[] 0)
 have b2 := bAl (W.alloc (.map #[] 0)) (.map #[] 0)
 have b3 := bAl ((W.alloc (.map #[] 0)).alloc (.map #[] 0)) (.cells #[.map (some W.heap.size), .map (some (W.heap.size + 1)), .int .i64 1] 190)
 have m1 := (z8p W).kept (T := fun _ => False) (At.St.of_below b2) fun q => q
 have m1 := m1.kept (T := fun _ => False) (At.St.of_below b3) fun q => q
 have m2 := (z9c (W.alloc (.map #[] 0))).kept (T := fun _ => False) (At.St.of_below b3) fun q => q
 have bx := heap_alloc_new ((W.alloc (.map #[] 0)).alloc (.map #[] 0)) (.cells #[.map (some W.heap.size), .map (some (W.heap.size + 1)), .int .i64 1] 190)
 rw [e1] at m2
 rw [e2] at bx
 have G : Bg W.heap.size (((W.alloc (.map #[] 0)).alloc (.map #[] 0)).alloc (.cells #[.map (some W.heap.size), .map (some (W.heap.size + 1)), .int .i64 1] 190)) (W.heap.size + 2) W.heap.size (W.heap.size + 1) 1 [] := ⟨bx, m1, m2, okP.nil, by omega, by omega⟩
 have bb := b1.trans ((b2.trans (b3.mono b2.size)).mono b1.size)
 go_ret
 exact ⟨_, _, _, rfl, G, bb⟩
theorem zlu (h : Bg B W bb ob nb n l) : Calls Tryz.prog 68 #[.pointer (some ⟨bb, 0, none⟩)] W fun e W' => e = .returned (.int .i64 n) /\ W' = W := by
 have c2 := h.c2
 clear h
 go_enter Tryz.func68, Tryz.ntmps68
 go_wp2_with fail
 go_ret
 exact ⟨rfl, rfl⟩
set_option maxRecDepth 100000 in
theorem z0i (h : Bg B W bb ob nb n l) (id : Int) (hi : I64 id) :
  Calls Tryz.prog 120 #[.pointer (some ⟨bb, 0, none⟩), .int .i64 id] W fun e W' => e = .returned (.tuple #[.agg #[.int .i64 (entO (who l id)).1, .int .i64 (entO (who l id)).2], .bool (who l id).isSome]) /\ Below W.heap.size W W' := by
 obtain ⟨w1, hw1⟩ : ∃ w1, w1 = W.alloc (.cells #[.int .i64 0, .int .i64 0] 144) := ⟨_, rfl⟩
 have b1 : Below W.heap.size W w1 := by rw [hw1]; exact bAl _ _
 have r1 : w1.heap[W.heap.size]? = some (.cells #[.int .i64 0, .int .i64 0] 144 (0, 0)) := by rw [hw1]; exact heap_alloc_new W _
 have h1 := h.later b1
 have c0 := h1.c0
 have lk := h1.m1.look und1 id hi
 have HW1 := hid hw1
 generalize entO (who l id) = x at *
 generalize (who l id).isSome = r at *
 obtain ⟨a, b⟩ := x
 obtain ⟨w2, hw2⟩ : ∃ w2, w2 = w1.alloc (.cells #[.int .i64 a, .int .i64 b] 144) := ⟨_, rfl⟩
 have b2 : Below w1.heap.size w1 w2 := by rw [hw2]; exact bAl _ _
 have r2 : w2.heap[w1.heap.size]? = some (.cells #[.int .i64 a, .int .i64 b] 144 (0, 0)) := by rw [hw2]; exact heap_alloc_new w1 _
 have x0 : w2.cell? ⟨w1.heap.size, 0, none⟩ = some (.int .i64 a) := zaa r2 rfl
 have x1 : w2.cell? ⟨w1.heap.size, 1, none⟩ = some (.int .i64 b) := zaa r2 rfl
 have r1' := zab b2 (Nat.le_refl _) r1
 have y0 : w2.cell? ⟨W.heap.size, 0, none⟩ = some (.int .i64 0) := zaa r1' rfl
 have y1 : w2.cell? ⟨W.heap.size, 1, none⟩ = some (.int .i64 0) := zaa r1' rfl
 have f0 := zac r1' 0
 have f1 := zac r1' 1
 have HW2 := hid hw2
 have R1 := hid r1'
 have B2 := hid (b1.trans (b2.mono b1.size))
 clear h h1 hi hw1 hw2 b1 b2 r1 r2 r1'
 go_enter Tryz.func120, Tryz.ntmps120
 go_upto_region 1 with fail
 rw [<- HW1.out]
 go_upto_region 4 with fail
 rw [<- HW2.out]
 go_wp2_with fail
 have s1 := At.St.setCell (S := fun k => k = W.heap.size) (a := w2) (p := ⟨W.heap.size, 0, none⟩) (.int .i64 a) rfl
 have s2 := At.St.setCell (S := fun k => k = W.heap.size) (a := w2.setCell ⟨W.heap.size, 0, none⟩ (.int .i64 a)) (p := ⟨W.heap.size, 1, none⟩) (.int .i64 b) rfl
 have s3 := s1.trans s2 fun x _ q => q
 have B3 := B2.out.trans (s3.below (B := W.heap.size) (fun k hk => by omega) B2.out.size)
 have e0 : ((w2.setCell ⟨W.heap.size, 0, none⟩ (.int .i64 a)).setCell ⟨W.heap.size, 1, none⟩ (.int .i64 b)).cell? ⟨W.heap.size, 0, none⟩ = some (.int .i64 a) := by
  rw [World.cell?_setCell_other _ _ _ _ (by simp)]
  exact World.cell?_setCell_same _ _ _ y0
 have e1 : ((w2.setCell ⟨W.heap.size, 0, none⟩ (.int .i64 a)).setCell ⟨W.heap.size, 1, none⟩ (.int .i64 b)).cell? ⟨W.heap.size, 1, none⟩ = some (.int .i64 b) :=
  World.cell?_setCell_same _ _ _ (by rw [World.cell?_setCell_other _ _ _ _ (by simp)]; exact y1)
 exact bodyPost_ret (v := .tuple #[.agg #[.int .i64 a, .int .i64 b], .bool r]) (by simp [results, Tryz.results120, go_sem, e0, e1]) rfl ⟨rfl, B3⟩
end
section
variable {Ad : Nat -> Addr} {B : Nat} {W : World} {bb ob nb : Nat} {n : Int} {l : Prs}
set_option maxRecDepth 100000 in
theorem z6b {m : Int} (h : Bg B W bb ob nb m l) (hok0 : okP n l) (id i g : Int) (hid' : I64 id) (hi : I64 i) (hg : I64 g) (hok : okP m (ins (id, i, g) l)) (h1 : who l id = none) (h2 : num l (i, g) = none) :
  Calls Tryz.prog 119 #[.pointer (some ⟨bb, 0, none⟩), .int .i64 id, .agg #[.int .i64 i, .int .i64 g]] W fun e W' => e = .returned (.tuple #[]) /\ Bg B W' bb ob nb m (ins (id, i, g) l) /\ At.St (fun k => Ft bb ob nb k) W W' := by
 obtain ⟨w1, hw1⟩ : ∃ w1, w1 = W.alloc (.cells #[.int .i64 i, .int .i64 g] 144) := ⟨_, rfl⟩
 have b1 : Below W.heap.size W w1 := by rw [hw1]; exact bAl _ _
 have r1 : w1.heap[W.heap.size]? = some (.cells #[.int .i64 i, .int .i64 g] 144 (0, 0)) := by rw [hw1]; exact heap_alloc_new W _
 have hb1 := h.later b1
 have bd1 : Below w1.heap.size w1 w1.drew := (Below.refl _ _).drew
 obtain ⟨w2, s1, m1, t1⟩ := (hb1.later bd1).m1.store hok0 hok h1 und1 hid'
 have hn1 : ¬ W.heap.size = ob := by have := (h.lt ob (.inr (.inl rfl))).2; omega
 have hn2 : ¬ W.heap.size = nb := by have := (h.lt nb (.inr (.inr rfl))).2; omega
 have r2 : w2.heap[W.heap.size]? = some (.cells #[.int .i64 i, .int .i64 g] 144 (0, 0)) := t1.at (zab bd1 (Nat.le_refl _) r1) hn1
 have x2 : w2.heap[bb]? = some (.cells #[.map (some ob), .map (some nb), .int .i64 m] 190 (0, 0)) := t1.at (hb1.later bd1).box h.ne1
 have y2 : M2 w2 nb l := (hb1.later bd1).m2.kept t1 fun e => h.ne e.symm
 have bd2 : Below w2.heap.size w2 w2.drew := (Below.refl _ _).drew
 obtain ⟨w3, s2, m2, t2⟩ := (y2.kept (T := fun _ => False) (At.St.of_below bd2) fun q => q).store hok0 hok h2 und2 hid' hi hg
 have G : Hid (Bg B w3 bb ob nb m (ins (id, i, g) l)) := ⟨t2.at (zab bd2 (Nat.le_refl _) x2) h.ne2, (m1.kept (T := fun _ => False) (At.St.of_below bd2) fun q => q).kept t2 h.ne, m2, hok, h.low, h.ne⟩
 have S1 : Hid (At.St (fun k => Ft bb ob nb k) W w3) := by
  have a1 : At.St (fun k => Ft bb ob nb k) W w1.drew := At.St.of_below (b1.trans (bd1.mono b1.size))
  have a2 := a1.trans t1 fun x _ e => .inr (.inl e)
  have a3 := a2.trans (At.St.of_below (S := fun _ => False) bd2) fun _ _ q => q.elim
  exact a3.trans t2 fun x _ e => .inr (.inr e)
 have c0 : w1.cell? ⟨bb, 0, none⟩ = some (.map (some ob)) := hb1.c0
 have d0 : w1.cell? ⟨W.heap.size, 0, none⟩ = some (.int .i64 i) := zaa r1 rfl
 have d1 : w1.cell? ⟨W.heap.size, 1, none⟩ = some (.int .i64 g) := zaa r1 rfl
 have c1 : w2.cell? ⟨bb, 1, none⟩ = some (.map (some nb)) := zaa x2 rfl
 have f0 : w2.cell? ⟨W.heap.size, 0, none⟩ = some (.int .i64 i) := zaa r2 rfl
 have f1 : w2.cell? ⟨W.heap.size, 1, none⟩ = some (.int .i64 g) := zaa r2 rfl
 have K1 : Hid (∀ W', Below w1.heap.size w1 W' -> W'.cell? ⟨bb, 0, none⟩ = some (.map (some ob)) /\ W'.cell? ⟨W.heap.size, 0, none⟩ = some (.int .i64 i) /\ W'.cell? ⟨W.heap.size, 1, none⟩ = some (.int .i64 g)) := fun W' hb => ⟨seen hb (Nat.le_refl _) c0, seen hb (Nat.le_refl _) d0, seen hb (Nat.le_refl _) d1⟩
 have K2 : Hid (∀ W', Below w2.heap.size w2 W' -> W'.cell? ⟨bb, 1, none⟩ = some (.map (some nb)) /\ W'.cell? ⟨W.heap.size, 0, none⟩ = some (.int .i64 i) /\ W'.cell? ⟨W.heap.size, 1, none⟩ = some (.int .i64 g)) := fun W' hb => ⟨seen hb (Nat.le_refl _) c1, seen hb (Nat.le_refl _) f0, seen hb (Nat.le_refl _) f1⟩
 have KA : Hid (w2.cell? ⟨bb, 0, none⟩ = some (.map (some ob)) /\ w2.cell? ⟨W.heap.size, 0, none⟩ = some (.int .i64 i) /\ w2.cell? ⟨W.heap.size, 1, none⟩ = some (.int .i64 g)) := ⟨zaa x2 rfl, f0, f1⟩
 have KB : Hid (w3.cell? ⟨bb, 1, none⟩ = some (.map (some nb)) /\ w3.cell? ⟨W.heap.size, 0, none⟩ = some (.int .i64 i) /\ w3.cell? ⟨W.heap.size, 1, none⟩ = some (.int .i64 g)) := by
  have q := t2.at (zab bd2 (Nat.le_refl _) r2) hn2
  exact ⟨zaa G.out.box rfl, zaa q rfl, zaa q rfl⟩
 have HW1 := hid hw1
 clear h hi hg hok h1 h2 hw1 b1 r1 hb1 bd1 m1 t1 hn1 hn2 r2 x2 y2 bd2 m2 t2 hid' c0 c1 d0 d1 f0 f1 hok0
 go_enter Tryz.func119, Tryz.ntmps119
 go_upto_region 1 with fail
 rw [<- HW1.out]
 go_region_held3 (fun W' => W'.cell? ⟨bb, 0, none⟩ = some (.map (some ob)) /\ W'.cell? ⟨W.heap.size, 0, none⟩ = some (.int .i64 i) /\ W'.cell? ⟨W.heap.size, 1, none⟩ = some (.int .i64 g))
  (first | exact KA.out | exact K1.out _ (Below.refl _ _).drew | exact K1.out _ (Below.refl _ _)) (fail)
 clear s1 K1 KA HW1
 go_upto_region 2 with fail
 go_region_held3 (fun W' => W'.cell? ⟨bb, 1, none⟩ = some (.map (some nb)) /\ W'.cell? ⟨W.heap.size, 0, none⟩ = some (.int .i64 i) /\ W'.cell? ⟨W.heap.size, 1, none⟩ = some (.int .i64 g))
  (first | exact KB.out | exact K2.out _ (Below.refl _ _).drew | exact K2.out _ (Below.refl _ _)) (fail)
 clear s2 K2 KB
 go_wp2_with fail
 go_end0
 exact ⟨rfl, G.out, S1.out⟩
end
theorem zbn {n : Int} (h0 : -1000000 <= n) (h1 : n <= 2147483648) : IntKind.i64.wrap n = n := by
 unfold IntKind.wrap
 simp [IntKind.signed, IntKind.bits]
 omega
theorem okP.free {n : Int} {l : Prs} (h : okP n l) : Bd.who l n = none := by
 cases q : Bd.who l n with
 | none => rfl
 | some x =>
  have := (h.low _ ((h.who n x).1 q)).2
  simp at this
section
variable {Ad : Nat -> Addr} {B : Nat} {W : World} {bb ob nb : Nat} {n : Int} {l : Prs}
set_option maxRecDepth 100000 in
theorem z9d (h : Bg B W bb ob nb n l) (i g : Int) (hi : I64 i) (hg : I64 g) (hn : num l (i, g) = none) (hf : n <= 1073741824) :
  Calls Tryz.prog 76 #[.pointer (some ⟨bb, 0, none⟩), .agg #[.int .i64 i, .int .i64 g]] W fun e W' => e = .returned (.tuple #[.int .i64 n, .nilIface]) /\ Bg B W' bb ob nb (n + 1) (ins (n, i, g) l) /\ At.St (fun k => Ft bb ob nb k) W W' := by
 obtain ⟨w1, hw1⟩ : ∃ w1, w1 = W.alloc (.cells #[.int .i64 i, .int .i64 g] 144) := ⟨_, rfl⟩
 have b1 : Below W.heap.size W w1 := by rw [hw1]; exact bAl _ _
 have r1 : w1.heap[W.heap.size]? = some (.cells #[.int .i64 i, .int .i64 g] 144 (0, 0)) := by rw [hw1]; exact heap_alloc_new W _
 have d0 : w1.cell? ⟨W.heap.size, 0, none⟩ = some (.int .i64 i) := zaa r1 rfl
 have d1 : w1.cell? ⟨W.heap.size, 1, none⟩ = some (.int .i64 g) := zaa r1 rfl
 have hn1 := h.ok.next
 have hfi : ¬ (1073741824 : Int) < n := by omega
 have hwr : IntKind.i64.wrap (n + 1) = n + 1 := zbn (by omega) (by omega)
 have hok2 : okP (n + 1) (ins (n, i, g) l) := h.ok.add (m := n + 1) (by omega) (by omega) hi hg h.ok.free hn
 have UN := hid (z4i (h.later b1) i g hi hg hn)
 have HH := hid (h.later b1)
 have H0 := hid h
 have HW1 := hid hw1
 have B1 := hid b1
 have R1 := hid r1
 have JN : Hid (∀ W', Bg B W' bb ob nb (n + 1) l -> Calls Tryz.prog 119 #[.pointer (some ⟨bb, 0, none⟩), .int .i64 n, .agg #[.int .i64 i, .int .i64 g]] W' fun e W2 => e = .returned (.tuple #[]) /\ Bg B W2 bb ob nb (n + 1) (ins (n, i, g) l) /\ At.St (fun k => Ft bb ob nb k) W' W2) := fun W' hb => z6b hb h.ok n i g (zaj (by omega) (by omega)) hi hg hok2 h.ok.free hn
 clear hw1 b1 h hi hg hn r1 hok2
 go_enter Tryz.func76, Tryz.ntmps76
 go_upto_region 1 with fail
 rw [<- HW1.out]
 go_wp2_with fail
 refine UN.out.mono ?_
 rintro e w2 ⟨rfl, hb⟩
 have h2 := HH.out.later hb
 have c2 := h2.c2
 have fz := zac h2.box 2
 have B2 := hid (B1.out.trans (hb.mono B1.out.size))
 have r2 := zab hb (Nat.le_refl _) R1.out
 have hne : ¬ W.heap.size = bb := by have := (H0.out.lt bb (.inl rfl)).2; omega
 have s3 := At.St.setCell (S := fun k => k = bb) (a := w2) (p := ⟨bb, 2, none⟩) (.int .i64 (n + 1)) rfl
 have x3 : (w2.setCell ⟨bb, 2, none⟩ (.int .i64 (n + 1))).heap[bb]? = some (.cells #[.map (some ob), .map (some nb), .int .i64 (n + 1)] 190 (0, 0)) := by
  have := heap_setCell_same w2 bb 2 _ _ (.int .i64 (n + 1)) h2.box
  simpa using this
 have h3 : Bg B (w2.setCell ⟨bb, 2, none⟩ (.int .i64 (n + 1))) bb ob nb (n + 1) l := ⟨x3, h2.m1.kept s3 fun e => h2.ne1 e.symm, h2.m2.kept s3 fun e => h2.ne2 e.symm, ⟨h2.ok.rise, h2.ok.one, fun x hx => by have := h2.ok.low x hx; omega, h2.ok.i64, by omega⟩, h2.low, h2.ne⟩
 have r3 := s3.at r2 hne
 obtain ⟨w3, hw3⟩ : ∃ w3, w3 = w2.setCell ⟨bb, 2, none⟩ (.int .i64 (n + 1)) := ⟨_, rfl⟩
 rw [<- hw3] at s3 x3 h3 r3
 have HW3 := hid hw3
 have e0 : w3.cell? ⟨W.heap.size, 0, none⟩ = some (.int .i64 i) := zaa r3 rfl
 have e1 : w3.cell? ⟨W.heap.size, 1, none⟩ = some (.int .i64 g) := zaa r3 rfl
 have S3 : Hid (At.St (fun k => Ft bb ob nb k) W w3) := (At.St.of_below (S := fun k => Ft bb ob nb k) B2.out).trans s3 fun x _ e => .inl e
 have JO := hid (JN.out w3 h3)
 clear h2 r2 hne s3 x3 h3 r3 hw3 hb UN d0 d1 JN
 go_upto_region 10 with fail
 rw [<- HW3.out]
 go_wp2_with fail
 refine JO.out.mono ?_
 rintro e w4 ⟨rfl, h4, s4⟩
 have H4 := hid h4
 have S4 := hid (S3.out.trans s4 fun x _ q => q)
 clear h4 s4 JO e0 e1 c2 fz
 go_wp2_with fail
 exact bodyPost_ret (v := .tuple #[.int .i64 n, .nilIface]) (by simp [results, Tryz.results76, go_sem]) rfl ⟨rfl, H4.out, S4.out⟩
end
def put2 (W : World) (b : Nat) (i g : Int) : World := (W.setCell ⟨b, 0, none⟩ (.int .i64 i)).setCell ⟨b, 1, none⟩ (.int .i64 g)
theorem zmq {W : World} {b : Nat} {a c : Value} {e : TypeId} (h : W.heap[b]? = some (.cells #[a, c] e (0, 0))) (i g : Int) : (put2 W b i g).heap[b]? = some (.cells #[.int .i64 i, .int .i64 g] e (0, 0)) := by
 have h1 := heap_setCell_same W b 0 _ e (.int .i64 i) h
 have h2 := heap_setCell_same _ b 1 _ e (.int .i64 g) h1
 simpa [put2] using h2
theorem zyn (W : World) (b : Nat) (i g : Int) : At.St (fun k => k = b) W (put2 W b i g) :=
 (At.St.setCell (S := fun k => k = b) (a := W) (p := ⟨b, 0, none⟩) (.int .i64 i) rfl).trans (At.St.setCell (S := fun k => k = b) (p := ⟨b, 1, none⟩) (.int .i64 g) rfl) fun _ _ q => q
theorem zbj {W : World} {b j : Nat} {cs : Array Value} {e : TypeId} {u : Value} (h : W.heap[b]? = some (.cells cs e (0, 0))) (hj : cs[j]? = some u) : W.setCell ⟨b, j, none⟩ u = W := by
 have e : (W.setCell ⟨b, j, none⟩ u).heap = W.heap := by
  apply Array.ext_getElem?
  intro k
  by_cases hk : k = b
  ·subst hk
   rw [heap_setCell_same W k j cs e u h, h]
   have : cs.setIfInBounds j u = cs := by
    apply Array.ext_getElem?
    intro m
    rw [Array.getElem?_setIfInBounds]
    split
    ·rename_i hm
     subst hm
     have := (Array.getElem?_eq_some_iff.1 hj).1
     rw [if_pos this, hj]
    rfl
   rw [this]
  exact Below.heap_setCell _ _ _ _ hk
 unfold World.setCell at e ⊢
 cases W
 simp at e ⊢
 exact e
theorem z0v {W : World} {b : Nat} {e : TypeId} {i g : Int} (h : W.heap[b]? = some (.cells #[.int .i64 i, .int .i64 g] e (0, 0))) : put2 W b i g = W := by
 unfold put2
 rw [zbj h rfl, zbj h rfl]
section
variable {Ad : Nat -> Addr} {B : Nat} {W : World} {bb ob nb : Nat} {n : Int} {l : Prs}
set_option maxRecDepth 100000 in
theorem z7t (h : Bg B W bb ob nb n l) (id i g : Int) (hi : I64 id) (hn : who l id = some (i, g)) :
  Calls Tryz.prog 161 #[.pointer (some ⟨bb, 0, none⟩), .int .i64 id] W fun e W' => e = .returned (.tuple #[.agg #[.int .i64 i, .int .i64 g], .nilIface]) /\ Bg B W' bb ob nb n (del id l) /\ At.St (fun k => Ft bb ob nb k) W W' := by
 obtain ⟨w1, hw1⟩ : ∃ w1, w1 = W.alloc (.cells #[.int .i64 0, .int .i64 0] 144) := ⟨_, rfl⟩
 have b1 : Below W.heap.size W w1 := by rw [hw1]; exact bAl _ _
 have r1 : w1.heap[W.heap.size]? = some (.cells #[.int .i64 0, .int .i64 0] 144 (0, 0)) := by rw [hw1]; exact heap_alloc_new W _
 have h1 := h.later b1
 have c0 := h1.c0
 have lk0 := h1.m1.look und1 id hi
 rw [hn] at lk0
 have lk : (Instr.lookup 187 (.map (some ob)) (.int .i64 id) true).run Tryz.prog w1 = .ok (.tuple #[.agg #[.int .i64 i, .int .i64 g], .bool true]) w1 := lk0
 obtain ⟨w2, hw2⟩ : ∃ w2, w2 = w1.alloc (.cells #[.int .i64 i, .int .i64 g] 144) := ⟨_, rfl⟩
 have b2 : Below w1.heap.size w1 w2 := by rw [hw2]; exact bAl _ _
 have q2 : w2.heap[w1.heap.size]? = some (.cells #[.int .i64 i, .int .i64 g] 144 (0, 0)) := by rw [hw2]; exact heap_alloc_new w1 _
 have r2 := zab b2 (Nat.le_refl _) r1
 have h2 := h1.later b2
 have hw64 := h.ok.i64 _ ((h.ok.who id (i, g)).1 hn)
 have hs1 : w1.heap.size = W.heap.size + 1 := by rw [hw1]; simp
 have lt1 := (h.lt ob (.inr (.inl rfl))).2
 have lt2 := (h.lt nb (.inr (.inr rfl))).2
 have lt0 := (h.lt bb (.inl rfl)).2
 obtain ⟨w3, dl1, m1, t1⟩ := h2.m1.drop h.ok hn und1 hi 0
 have c02 := h2.c0
 have x3 := t1.at h2.box h.ne1
 have y3 : M2 w3 nb l := h2.m2.kept t1 fun e => h.ne e.symm
 have q3 := t1.at q2 (by omega)
 have r3 := t1.at r2 (by omega)
 have bd : Below w3.heap.size w3 w3.drew := (Below.refl _ _).drew
 obtain ⟨w4, dl2, m2, t2⟩ := (y3.kept (T := fun _ => False) (At.St.of_below bd) fun q => q).drop h.ok hn und2 hw64.1 hw64.2 0
 have x4 := t2.at (zab bd (Nat.le_refl _) x3) h.ne2
 have q4 := t2.at (zab bd (Nat.le_refl _) q3) (by omega)
 have r4 := t2.at (zab bd (Nat.le_refl _) r3) (by omega)
 have g4 : Bg B w4 bb ob nb n (del id l) := ⟨x4, (m1.kept (T := fun _ => False) (At.St.of_below bd) fun q => q).kept t2 h.ne, m2, h.ok.del id, h.low, h.ne⟩
 have st5 := zyn w4 W.heap.size i g
 have r5 := zmq r4 i g
 have G5 : Hid (Bg B (put2 w4 W.heap.size i g) bb ob nb n (del id l)) := g4.kept st5 fun k hk e => by rcases hk with rfl | rfl | rfl <;> omega
 have S5 : Hid (At.St (fun k => Ft bb ob nb k) W (put2 w4 W.heap.size i g)) := by
  have a1 : At.St (fun k => Ft bb ob nb k) W w2 := At.St.of_below (b1.trans (b2.mono b1.size))
  have a2 := a1.trans t1 fun x _ e => .inr (.inl e)
  have a3 := a2.trans (At.St.of_below (S := fun _ => False) bd) fun _ _ q => q.elim
  have a4 := a3.trans t2 fun x _ e => .inr (.inr e)
  exact a4.trans st5 fun x hx e => by omega
 have z0 : (put2 w4 W.heap.size i g).cell? ⟨W.heap.size, 0, none⟩ = some (.int .i64 i) := zaa r5 rfl
 have z1 : (put2 w4 W.heap.size i g).cell? ⟨W.heap.size, 1, none⟩ = some (.int .i64 g) := zaa r5 rfl
 obtain ⟨w5, hw5⟩ : ∃ w5, w5 = put2 w4 W.heap.size i g := ⟨_, rfl⟩
 rw [<- hw5] at G5 S5 z0 z1
 unfold put2 at hw5
 have HW5 := hid hw5
 have K3 : Hid (∀ W', Below w3.heap.size w3 W' -> W'.cell? ⟨bb, 1, none⟩ = some (.map (some nb)) /\ W'.cell? ⟨w1.heap.size, 0, none⟩ = some (.int .i64 i) /\ W'.cell? ⟨w1.heap.size, 1, none⟩ = some (.int .i64 g)) := fun W' hb => ⟨zaa (zab hb (Nat.le_refl _) x3) rfl, zaa (zab hb (Nat.le_refl _) q3) rfl, zaa (zab hb (Nat.le_refl _) q3) rfl⟩
 have KB : Hid (w4.cell? ⟨bb, 1, none⟩ = some (.map (some nb)) /\ w4.cell? ⟨w1.heap.size, 0, none⟩ = some (.int .i64 i) /\ w4.cell? ⟨w1.heap.size, 1, none⟩ = some (.int .i64 g)) := ⟨zaa x4 rfl, zaa q4 rfl, zaa q4 rfl⟩
 have Q4 := hid q4
 have R4 := hid r4
 have HW1 := hid hw1
 have HW2 := hid hw2
 clear hw1 b1 r1 h h1 lk0 hw2 b2 hi hn q2 r2 h2 hw64 hs1 lt0 lt1 lt2 m1 t1 x3 y3 q3 r3 bd m2 t2 x4 q4 r4 g4 st5 r5 hw5
 go_enter Tryz.func161, Tryz.ntmps161
 go_upto_region 1 with fail
 rw [<- HW1.out]
 go_upto_region 4 with fail
 rw [<- HW2.out]
 go_upto_region 7 with fail
 clear lk c0 dl1 c02 HW1 HW2
 go_region_held3 (fun W' => W'.cell? ⟨bb, 1, none⟩ = some (.map (some nb)) /\ W'.cell? ⟨w1.heap.size, 0, none⟩ = some (.int .i64 i) /\ W'.cell? ⟨w1.heap.size, 1, none⟩ = some (.int .i64 g))
  (first | exact KB.out | exact K3.out _ (Below.refl _ _).drew | exact K3.out _ (Below.refl _ _)) (fail)
 have e0 : w4.cell? ⟨w1.heap.size, 0, none⟩ = some (.int .i64 i) := zaa Q4.out rfl
 have e1 : w4.cell? ⟨w1.heap.size, 1, none⟩ = some (.int .i64 g) := zaa Q4.out rfl
 have y0 : w4.cell? ⟨W.heap.size, 0, none⟩ = some (.int .i64 0) := zaa R4.out rfl
 have y1 : w4.cell? ⟨W.heap.size, 1, none⟩ = some (.int .i64 0) := zaa R4.out rfl
 have f0 := zac R4.out 0
 have f1 := zac R4.out 1
 clear dl2 KB K3
 go_wp2_with fail
 rw [<- HW5.out]
 exact bodyPost_ret (v := .tuple #[.agg #[.int .i64 i, .int .i64 g], .nilIface]) (by simp [results, Tryz.results161, go_sem, z0, z1]) rfl ⟨rfl, G5.out, S5.out⟩
end
theorem z2c {x y : Int} : (Lit.int .i64 x).sameKey (.int .i64 y) = decide (x = y) := by simp [Lit.sameKey]
end Go.Proofs.YthadfdbkkmmgoaaGreatDoor.Bd
namespace Go.Proofs
open Go.Shelf
def Tryz.znb : Go.Shelf.Ren := ⟨fun | 7 => 112 | 10 => 150 | n => n, fun | 23 => 187 | 26 => 3 | 3 => 144 | 28 => 213 | 0 => 0 | 27 => 212 | 33 => 138 | 4 => 4 | n => n, fun | n => n⟩
theorem Tryz.z9p : Go.Proofs.SlLaysZI.n7 Tryz.prog Tryz.znb := {
 mixed := by kernel_rfl
 f7 := ⟨Tryz.f112.name, by decide, Tryz.func112.trans (congrArg some (by kernel_rfl))⟩
 f10 := ⟨Tryz.f150.name, by decide, Tryz.func150.trans (congrArg some (by kernel_rfl))⟩
 t0 := Tryz.underlying0
 a0 := Tryz.isAgg0
 z0 := Tryz.sizeOf0
 v0 := Tryz.zeroValue0
 t4 := Tryz.underlying4
 a4 := Tryz.isAgg4
 z4 := Tryz.sizeOf4
 v4 := Tryz.zeroValue4
 t23 := Tryz.underlying187
 a23 := Tryz.isAgg187
 z23 := Tryz.sizeOf187
 v23 := Tryz.zeroValue187
 t26 := Tryz.underlying3
 a26 := Tryz.isAgg3
 z26 := Tryz.sizeOf3
 v26 := Tryz.zeroValue3
 t27 := Tryz.underlying212
 a27 := Tryz.isAgg212
 z27 := Tryz.sizeOf212
 v27 := Tryz.zeroValue212
 t28 := Tryz.underlying213
 a28 := Tryz.isAgg213
 z28 := Tryz.sizeOf213
 v28 := Tryz.zeroValue213
 t33 := Tryz.underlying138
 a33 := Tryz.isAgg138
 z33 := Tryz.sizeOf138
 v33 := Tryz.zeroValue138 }
def Tryz.zim : Go.Shelf.Ren := ⟨fun | 6 => 111 | 8 => 148 | 9 => 149 | 11 => 167 | 13 => 169 | 12 => 168 | 23 => 185 | 24 => 186 | 14 => 176 | 15 => 177 | 16 => 178 | 17 => 179 | 18 => 180 | 19 => 181 | 20 => 182 | 21 => 183 | 22 => 184 | 25 => 196 | 26 => 197 | 27 => 198 | 28 => 199 | 29 => 200 | 30 => 201 | 31 => 208 | n => n, fun | 26 => 3 | 28 => 213 | 24 => 68 | 0 => 0 | 3 => 3 | 37 => 39 | 48 => 45 | 50 => 309 | 4 => 4 | 40 => 301 | 39 => 300 | 45 => 104 | 5 => 5 | 9 => 9 | 51 => 317 | 55 => 321 | 57 => 326 | 58 => 58 | 33 => 138 | n => n, fun | n => n⟩
theorem Tryz.z7g : Go.Proofs.SlLaysZI.n6 Tryz.prog Tryz.zim := {
 mixed := by kernel_rfl
 f6 := ⟨Tryz.f111.name, by decide, Tryz.func111.trans (congrArg some (by kernel_rfl))⟩
 f8 := ⟨Tryz.f148.name, by decide, Tryz.func148.trans (congrArg some (by kernel_rfl))⟩
 f11 := ⟨Tryz.f167.name, by decide, Tryz.func167.trans (congrArg some (by kernel_rfl))⟩
 t0 := Tryz.underlying0
 a0 := Tryz.isAgg0
 z0 := Tryz.sizeOf0
 v0 := Tryz.zeroValue0
 t24 := Tryz.underlying68
 a24 := Tryz.isAgg68
 z24 := Tryz.sizeOf68
 v24 := Tryz.zeroValue68
 t26 := Tryz.underlying3
 a26 := Tryz.isAgg3
 z26 := Tryz.sizeOf3
 v26 := Tryz.zeroValue3
 t28 := Tryz.underlying213
 a28 := Tryz.isAgg213
 z28 := Tryz.sizeOf213
 v28 := Tryz.zeroValue213
 i26 := by kernel_rfl }
def Tryz.zxv : Go.Shelf.Ren := ⟨fun | 5 => 149 | 8 => 169 | 7 => 168 | 19 => 185 | 20 => 186 | 10 => 176 | 11 => 177 | 12 => 178 | 13 => 179 | 14 => 180 | 15 => 181 | 16 => 182 | 17 => 183 | 18 => 184 | 30 => 196 | 31 => 197 | 32 => 198 | 33 => 199 | 34 => 200 | 35 => 201 | 40 => 208 | n => n, fun | 23 => 68 | 25 => 3 | 3 => 3 | 32 => 39 | 22 => 68 | 0 => 0 | 44 => 45 | 46 => 309 | 4 => 4 | 36 => 301 | 35 => 300 | 41 => 104 | 5 => 5 | 9 => 9 | 53 => 317 | 57 => 321 | 63 => 326 | 64 => 58 | n => n, fun | n => n⟩
theorem Tryz.yau : Go.Proofs.SlLaysM.n5 Tryz.prog Tryz.zxv := {
 mixed := by kernel_rfl
 f5 := ⟨Tryz.f149.name, by decide, Tryz.func149.trans (congrArg some (by kernel_rfl))⟩
 f7 := ⟨Tryz.f168.name, by decide, Tryz.func168.trans (congrArg some (by kernel_rfl))⟩
 f8 := Tryz.func169.trans (congrArg some (by kernel_rfl))
 f10 := ⟨Tryz.f176.name, by decide, Tryz.func176.trans (congrArg some (by kernel_rfl))⟩
 f11 := ⟨Tryz.f177.name, by decide, Tryz.func177.trans (congrArg some (by kernel_rfl))⟩
 f12 := ⟨Tryz.f178.name, by decide, Tryz.func178.trans (congrArg some (by kernel_rfl))⟩
 f13 := ⟨Tryz.f179.name, by decide, Tryz.func179.trans (congrArg some (by kernel_rfl))⟩
 f14 := ⟨Tryz.f180.name, by decide, Tryz.func180.trans (congrArg some (by kernel_rfl))⟩
 f15 := ⟨Tryz.f181.name, by decide, Tryz.func181.trans (congrArg some (by kernel_rfl))⟩
 f16 := ⟨Tryz.f182.name, by decide, Tryz.func182.trans (congrArg some (by kernel_rfl))⟩
 f17 := ⟨Tryz.f183.name, by decide, Tryz.func183.trans (congrArg some (by kernel_rfl))⟩
 f18 := ⟨Tryz.f184.name, by decide, Tryz.func184.trans (congrArg some (by kernel_rfl))⟩
 f19 := Tryz.func185.trans (congrArg some (by kernel_rfl))
 f20 := Tryz.func186.trans (congrArg some (by kernel_rfl))
 f30 := ⟨Tryz.f196.name, by decide, Tryz.func196.trans (congrArg some (by kernel_rfl))⟩
 f31 := Tryz.func197.trans (congrArg some (by kernel_rfl))
 f32 := Tryz.func198.trans (congrArg some (by kernel_rfl))
 f33 := ⟨Tryz.f199.name, by decide, Tryz.func199.trans (congrArg some (by kernel_rfl))⟩
 f34 := ⟨Tryz.f200.name, by decide, Tryz.func200.trans (congrArg some (by kernel_rfl))⟩
 f35 := ⟨Tryz.f201.name, by decide, Tryz.func201.trans (congrArg some (by kernel_rfl))⟩
 f40 := ⟨Tryz.f208.name, by decide, Tryz.func208.trans (congrArg some (by kernel_rfl))⟩
 t0 := Tryz.underlying0
 a0 := Tryz.isAgg0
 z0 := Tryz.sizeOf0
 v0 := Tryz.zeroValue0
 t3 := Tryz.underlying3
 a3 := Tryz.isAgg3
 z3 := Tryz.sizeOf3
 v3 := Tryz.zeroValue3
 t4 := Tryz.underlying4
 a4 := Tryz.isAgg4
 z4 := Tryz.sizeOf4
 v4 := Tryz.zeroValue4
 t5 := Tryz.underlying5
 a5 := Tryz.isAgg5
 z5 := Tryz.sizeOf5
 v5 := Tryz.zeroValue5
 t9 := Tryz.underlying9
 a9 := Tryz.isAgg9
 z9 := Tryz.sizeOf9
 v9 := Tryz.zeroValue9
 t22 := Tryz.underlying68
 a22 := Tryz.isAgg68
 z22 := Tryz.sizeOf68
 v22 := Tryz.zeroValue68
 t23 := Tryz.underlying68
 a23 := Tryz.isAgg68
 z23 := Tryz.sizeOf68
 v23 := Tryz.zeroValue68
 t25 := Tryz.underlying3
 a25 := Tryz.isAgg3
 z25 := Tryz.sizeOf3
 v25 := Tryz.zeroValue3
 t32 := Tryz.underlying39
 a32 := Tryz.isAgg39
 z32 := Tryz.sizeOf39
 v32 := Tryz.zeroValue39
 t35 := Tryz.underlying300
 a35 := Tryz.isAgg300
 z35 := Tryz.sizeOf300
 v35 := Tryz.zeroValue300
 t36 := Tryz.underlying301
 a36 := Tryz.isAgg301
 z36 := Tryz.sizeOf301
 v36 := Tryz.zeroValue301
 t41 := Tryz.underlying104
 a41 := Tryz.isAgg104
 z41 := Tryz.sizeOf104
 v41 := Tryz.zeroValue104
 t44 := Tryz.underlying45
 a44 := Tryz.isAgg45
 z44 := Tryz.sizeOf45
 v44 := Tryz.zeroValue45
 t46 := Tryz.underlying309
 a46 := Tryz.isAgg309
 z46 := Tryz.sizeOf309
 v46 := Tryz.zeroValue309
 t53 := Tryz.underlying317
 a53 := Tryz.isAgg317
 z53 := Tryz.sizeOf317
 v53 := Tryz.zeroValue317
 t57 := Tryz.underlying321
 a57 := Tryz.isAgg321
 z57 := Tryz.sizeOf321
 v57 := Tryz.zeroValue321
 t63 := Tryz.underlying326
 a63 := Tryz.isAgg326
 z63 := Tryz.sizeOf326
 v63 := Tryz.zeroValue326
 t64 := Tryz.underlying58
 a64 := Tryz.isAgg58
 z64 := Tryz.sizeOf58
 v64 := Tryz.zeroValue58 }
end Go.Proofs
namespace Go.Proofs.YthadfdbkkmmgoaaGreatDoor.Bd
open Go.RowKit Go.Maps Go.Sort Go.Shelf
theorem z9y (m : Nat) : AnyZI.SortsIn Tryz.prog Tryz.zim Fence.wide m :=
  ⟨fun blk off cap ss W hH hblk hsz => callsIn_wide.2 (AnyM.slices_Sort_int Tryz.yau blk off cap ss W hH hblk hsz),
   fun p cap W => callsIn_wide.2 (AnyM.slices_Sort_int_none Tryz.yau p cap W)⟩
def ids (l : Prs) : List Int := l.map fun x => x.1
theorem keys_perm {W : World} {ob nn : Nat} {D : DataW Unit} {l : Prs} {n : Int} (hown : W.ownsMap Tryz.prog 3 zfr ob nn D) (hH : H1 D l) (hok : okP n l) : (ids l).Perm (intKeys D) := by
 have hwf := intKeys_wf hown Tryz.underlying3
 obtain ⟨es, hD, hpw, _⟩ := hown.entries zbs
 obtain ⟨es', hD', hk⟩ := hown.keysOf
 obtain rfl : es = es' := by rw [hD] at hD'; simpa using hD'
 subst hD
 refine perm_intKeys hpw (fun p hp => ?_) ?_ fun x => ?_
 ·obtain ⟨v, hv⟩ := hk p hp
  obtain ⟨x, _, e, _⟩ := Maps.keyOf_int_inv Tryz.underlying3 hv
  exact ⟨x, e⟩
 ·unfold ids
  rw [List.Nodup, List.pairwise_map]
  exact hok.rise.imp fun q e => by omega
 constructor
 ·intro hx
  obtain ⟨y, hy, rfl⟩ := List.mem_map.1 hx
  have h1 := hok.low y hy
  have h2 := hok.next
  rw [(hH.1 y.1 (zaj (by omega) (by omega))).1, (hok.who y.1 y.2).2 hy]
  rfl
 intro hx
 have hin : x ∈ intKeys (DataW.map es) := by
  rw [Maps.has_eq, List.any_eq_true] at hx
  obtain ⟨p, hp, hq⟩ := hx
  obtain ⟨v, hv⟩ := hk p hp
  obtain ⟨z, _, e, _⟩ := Maps.keyOf_int_inv Tryz.underlying3 hv
  rw [e, z2c] at hq
  have := of_decide_eq_true hq
  exact List.mem_map.2 ⟨p, hp, by rw [e]; exact this⟩
 have hi := hwf x hin
 have q := (hH.1 x hi).1
 rw [hx] at q
 obtain ⟨e, he⟩ := Option.isSome_iff_exists.1 q.symm
 exact List.mem_map.2 ⟨(x, e), (hok.who x e).1 he, rfl⟩
theorem zum {n : Int} {l : Prs} (hok : okP n l) : (ids l).mergeSort leI = ids l := by
 refine List.mergeSort_of_pairwise ?_
 unfold ids
 rw [List.pairwise_map]
 exact hok.rise.imp fun q => by simp; omega
set_option maxRecDepth 100000 in
theorem zdp {B : Nat} {W : World} {bb ob nb : Nat} {n : Int} {l : Prs} (h : Bg B W bb ob nb n l) :
  Calls Tryz.prog 63 #[.pointer (some ⟨bb, 0, none⟩)] W fun e W' => ∃ v, e = .returned v /\ W'.ownsRow W.heap.size 3 1 v l.length ((ids l).map encZ) /\ Below W.heap.size W W' := by
 have c0 := h.c0
 obtain ⟨D0, hown, hH⟩ := h.m1
 have hp := keys_perm hown hH h.ok
 have hso := zum h.ok
 have hfew := h.ok.few
 have hsz : Maps.size D0 = l.length := hH.2
 have hmax : Maps.size D0 <= maxLen := by unfold maxLen; omega
 have hbytes : Maps.size D0 * 8 <= 140737488355328 := by omega
 obtain ⟨nn, hnn⟩ : ∃ nn, nn = Maps.size D0 := ⟨_, rfl⟩
 have hown' : W.ownsMap Tryz.prog 3 zfr ob nn D0 := by rw [hnn]; exact hown
 have HP := hid hp
 have HS := hid hso
 clear h hH hown hp hso
 refine (callsIn_wide (n := 6)).1 ?_
 have hbl := hown'.lt
 have hseq : SeqGives Fence.wide 2 Tryz.prog 150 #[.pointer (some ⟨W.heap.size, 0, none⟩)] encZ (fun ss => ss.Perm (intKeys D0)) (Maps.size D0) (W.alloc (.cells #[.map (some ob)] 187)) :=
  AnyZI.keys_gives (ρ := Tryz.znb) { Tryz.z9p with } Fence.wide _ trivial rfl (by omega) W.heap.size ob nn D0 _ (by simp) (by simp) (by
   obtain ⟨es, clock, hb, Ft, hs, hD⟩ := hown'
   exact ⟨es, clock, (Below.heap_alloc _ _ ob hbl).trans hb, Ft, hs, hD⟩)
 have cK : ∀ mb W, CallsIn Fence.wide 5 Tryz.prog 112 #[.map mb] W fun e w' => e = .returned (.func (.func 150) #[] #[.pointer (some ⟨W.heap.size, 0, none⟩)]) /\ w' = W.alloc (.cells #[.map mb] 187) := fun mb W => AnyZI.keys_in Tryz.z9p Fence.wide 5 trivial rfl mb W
 have cS := AnyZI.sorted_in Tryz.z7g Fence.wide 5 trivial trivial trivial trivial rfl (by omega) (z9y _) (enters_of Tryz.func149 (by kernel_rfl) rfl) 150 #[.pointer (some ⟨W.heap.size, 0, none⟩)] trivial (enters_of Tryz.func150 (by kernel_rfl) rfl) _ _ hmax hbytes _ hseq
 change CallsIn _ _ Tryz.prog 111 _ _ _ at cS
 have hfK : Fence.wide.fn 112 := trivial
 have hfS : Fence.wide.fn 111 := trivial
 clear hown' hseq hnn hmax hbytes
 refine callsIn_of_wp Tryz.func63 rfl trivial ?_ rfl
 simp only [Tryz.ntmps63, List.size_toArray, List.length_cons, List.length_nil, Nat.reduceAdd, Nat.reduceSub, Array.replicate_succ, Array.replicate_zero, List.push_toArray, List.append_toArray, List.nil_append, List.cons_append]
 gi_wp2_with (first
  | (gi_at_call 112; refine (cK _ _).mono ?_; rintro e w' ⟨rfl, rfl⟩)
  | (gi_at_call 111; refine cS.mono ?_; rintro e w' ⟨v, ss, rfl, hS, hrow, hnil, hb⟩))
 go_ret
 have e1 : ss.mergeSort (fun x y => decide (x <= y)) = ids l := (mergeSort_of_perm_i (hS.trans HP.out.symm)).trans HS.out
 have e2 : ss.length = l.length := by have := (hS.trans HP.out.symm).length_eq; simpa [ids] using this
 rw [e1, e2] at hrow
 exact ⟨v, rfl, ownsRow_base_a hrow (by simp), ((Below.refl _ W).alloc (Nat.le_refl _) _).trans (hb.mono (by simp))⟩
end Go.Proofs.YthadfdbkkmmgoaaGreatDoor.Bd
namespace Go.Proofs.YthadfdbkkmmgoaaGreatDoor
open Go.RowKit Go.Shelf
theorem Env8.k1 {w : World} {Ad : Nat -> Addr} (h : Env8 w Ad) : w.cell? ⟨0, 0, none⟩ = some (.iface 330 (.pointer (some (Ad 1)))) := h.cell 1 (by decide) (by decide)
theorem Env8.k2 {w : World} {Ad : Nat -> Addr} (h : Env8 w Ad) : w.cell? ⟨3, 0, none⟩ = some (.iface 330 (.pointer (some (Ad 2)))) := h.cell 2 (by decide) (by decide)
theorem Env8.k6 {w : World} {Ad : Nat -> Addr} (h : Env8 w Ad) : w.cell? ⟨1, 0, none⟩ = some (.iface 330 (.pointer (some (Ad 6)))) := h.cell 6 (by decide) (by decide)
theorem Env8.k17 {w : World} {Ad : Nat -> Addr} (h : Env8 w Ad) : w.cell? ⟨2, 0, none⟩ = some (.iface 330 (.pointer (some (Ad 17)))) := h.cell 17 (by decide) (by decide)
end Go.Proofs.YthadfdbkkmmgoaaGreatDoor
namespace Go.Proofs.YthadfdbkkmmgoaaGreatDoor.Gs
open Go.RowKit Go.Shelf Go.Maps
open Sc (litS zks memB)
theorem bAl (W : World) (o : Obj) : Below W.heap.size W (W.alloc o) := (Below.refl _ _).alloc (Nat.le_refl _) _
theorem zaa {W : World} {b j : Nat} {cs : Array Value} {e : TypeId} {u : Value} (h : W.heap[b]? = some (.cells cs e (0, 0))) (hj : cs[j]? = some u) : W.cell? ⟨b, j, none⟩ = some u := by
 rw [cell_of_row _ _ j _ e (0, 0) h]; exact hj
theorem zac {W : World} {b : Nat} {cs : Array Value} {e : TypeId} (h : W.heap[b]? = some (.cells cs e (0, 0))) (j : Nat) : W.frozen? ⟨b, j, none⟩ = false := by
 unfold World.frozen?
 rw [show (⟨b, j, none⟩ : Addr).block = b from rfl, h]
 simp
theorem zab {W W' : World} {B b : Nat} {o : Obj} (hb : Below B W W') (hB : W.heap.size <= B) (h : W.heap[b]? = some o) : W'.heap[b]? = some o := (hb.block b (Nat.lt_of_lt_of_le (Array.getElem?_eq_some_iff.1 h).1 hB)).trans h
theorem seen {B : Nat} {W W' : World} (hb : Below B W W') (hB : W.heap.size <= B) {p : Addr} {u : Value} (h : W.cell? p = some u) : W'.cell? p = some u := (hb.cell (p := p) (Nat.lt_of_lt_of_le (World.block_lt_of_cell? W p h) hB)).trans h
def I64 (i : Int) : Prop := (Lit.int .i64 i).wf = true
theorem zec {n : Int} (h0 : 0 <= n) (h1 : n <= 1000000) : I64 n := by
 unfold I64 Lit.wf
 simp [IntKind.min, IntKind.max, IntKind.signed, IntKind.bits]
 omega
theorem z4a {s t : ByteArray} (h : litS s = litS t) : s = t := by
 unfold litS at h
 simp at h
 exact ByteArray.ext h
theorem z0s (s : ByteArray) : WideAt.IsKeyLit (litS s) := trivial
theorem z6h (s : ByteArray) (h : s.size <= maxLen) : keyOf Tryz.prog 9 (.string s) = some (litS s) := WideMaps.keyOf_string_mk Tryz.underlying9 h
def pl (ns : List ByteArray) (s : ByteArray) : Int := if memB ns s then (ns.findIdx (fun x => x.data.toList == s.data.toList) : Int) else 0
theorem zww (ns : List ByteArray) (s : ByteArray) : ns.findIdx (fun x => x.data.toList == s.data.toList) < ns.length ↔ memB ns s = true := by
 rw [List.findIdx_lt_length]
 unfold memB
 rw [List.any_eq_true]
theorem zom (ns : List ByteArray) (s u : ByteArray) : memB (ns ++ [s]) u = (memB ns u || s.data.toList == u.data.toList) := by
 unfold memB
 rw [List.any_append]
 simp
theorem zla {s u : ByteArray} (h : (s.data.toList == u.data.toList) = true) : s = u := ByteArray.ext (Array.toList_inj.1 (by simpa using h))
def Holds (D : DataW Unit) (ns : List ByteArray) : Prop := (∀ s, Maps.has D (litS s) = memB ns s /\ D.atKey (litS s) (.lit (.int .i64 0)) = .lit (.int .i64 (pl ns s))) /\ Maps.size D = ns.length
def Mn (W : World) (mb : Nat) (ns : List ByteArray) : Prop := ∃ D, W.ownsMap Tryz.prog 9 (plainElem Tryz.prog 3) mb (Maps.size D) D /\ Holds D ns
theorem zcf {k : TypeId} {R : Value -> Option (DataW Unit × List MemPlace)} {W : World} {mb n : Nat} {D : DataW Unit} (h : W.ownsMap Tryz.prog k R mb n D) : W.ownsMap Tryz.prog k R mb (Maps.size D) D := by
 obtain ⟨es, clock, hb, F, _, rfl⟩ := h
 exact ⟨es, clock, hb, F, by simp [Maps.size, length_sorted], rfl⟩
theorem zcd {W W' : World} {mb : Nat} (h : W.mapTurned W' mb) : At.St (fun k => k = mb) W W' := At.St.zam h.grown fun k e => by simpa using e.symm
section
variable {W W' : World} {mb : Nat} {ns : List ByteArray} {t e : TypeId}
theorem Mn.lt (h : Mn W mb ns) : mb < W.heap.size := by obtain ⟨D, h1, -⟩ := h; exact h1.lt
theorem Mn.kept {T : Nat -> Prop} (h : Mn W mb ns) (hs : At.St T W W') (hn : ¬ T mb) : Mn W' mb ns := by
 obtain ⟨D, ⟨es, cl, hb, q⟩, h2⟩ := h
 exact ⟨D, ⟨es, cl, hs.at hb hn, q⟩, h2⟩
theorem Mn.obj (h : Mn W mb ns) : ∃ es cl, W.heap[mb]? = some (.map es cl) := by
 obtain ⟨D, ⟨es, cl, hb, q⟩, h2⟩ := h
 exact ⟨es, cl, hb⟩
theorem z9j (W : World) : Mn (W.alloc (.map #[] 0)) W.heap.size [] :=
 ⟨.map [], World.ownsMap_made W Tryz.prog 9 (plainElem Tryz.prog 3), fun _ => ⟨rfl, rfl⟩, rfl⟩
theorem z8c (ns : List ByteArray) (s u : ByteArray) (hs : memB ns s = false) : pl (ns ++ [s]) u = if s.data.toList == u.data.toList then (ns.length : Int) else pl ns u := by
 unfold pl
 rw [zom, List.findIdx_append]
 by_cases q : (s.data.toList == u.data.toList) = true
 ·obtain rfl := zla q
  have : ¬ ns.findIdx (fun x => x.data.toList == s.data.toList) < ns.length := fun h => by rw [(zww ns s).1 h] at hs; cases hs
  rw [if_neg this]
  simp
 have q' : (s.data.toList == u.data.toList) = false := by simpa using q
 rw [q', Bool.or_false]
 cases m : memB ns u with
 | false => simp
 | true => rw [if_pos ((zww ns u).2 m)]; simp
theorem Mn.store {s : ByteArray} (h : Mn W mb ns) (hn : memB ns s = false) (hl : ns.length <= 1000) (hs : s.size <= maxLen) (ht : Tryz.prog.underlying t = some (.map 9 e)) :
  ∃ w', (Instr.mapUpdate t (.map (some mb)) (.string s) (.int .i64 (ns.length : Int))).run Tryz.prog W = .ok () w' /\ Mn w' mb (ns ++ [s]) /\ At.St (fun k => k = mb) W w' := by
 obtain ⟨D, h1, hH⟩ := h
 obtain ⟨w', hr, h2, h3⟩ := h1.store zks ht (by unfold maxLen; rw [hH.2]; omega) (z6h s hs) (plainElem_int Tryz.underlying3 (zec (n := (ns.length : Int)) (by omega) (by omega)))
 have hD := h1.tidy zks
 refine ⟨w', hr, ⟨_, zcf h2, fun u => ?_, ?_⟩, zcd h3⟩
 ·rw [z8c ns s u hn, zom]
  by_cases q : (s.data.toList == u.data.toList) = true
  ·obtain rfl := zla q
   rw [if_pos q, q, Bool.or_true]
   exact ⟨Maps.has_put_same hD.isMap (z0s _) _, Maps.atKey_put_same hD.isMap (z0s _) _ _⟩
  have q' : litS u ≠ litS s := fun e => q (by rw [z4a e]; simp)
  have q2 : (s.data.toList == u.data.toList) = false := by simpa using q
  rw [if_neg q, Maps.has_put_other q', Maps.atKey_put_other q', q2, Bool.or_false]
  exact hH.1 u
 rw [Maps.size_put hD, (hH.1 s).1, hH.2, hn]
 simp
end
def gz (x : Int) : Value := .int .i64 x
structure Gd (B : Nat) (W : World) (gb mb : Nat) (v : Value) (ns : List ByteArray) (l : List Int) (n : Nat) : Prop where
 box : W.heap[gb]? = some (.cells #[.map (some mb), v, .int .i64 (n : Int)] 186 (0, 0))
 map : Mn W mb ns
 row : W.ownsRow B 3 1 v l.length (l.map gz)
 low : B <= gb /\ B <= mb
 few : l.length <= 8
def Ft (gb : Nat) (v : Value) (k : Nat) : Prop := k = gb \/ v.ownBlock = some k
def Fz (gb mb : Nat) (v : Value) (k : Nat) : Prop := k = gb \/ k = mb \/ v.ownBlock = some k
theorem Ft.all {gb mb k : Nat} {v : Value} (h : Ft gb v k) : Fz gb mb v k := by
 rcases h with h | h
 ·exact .inl h
 exact .inr (.inr h)
section
variable {B : Nat} {W W' : World} {gb mb : Nat} {v : Value} {ns : List ByteArray} {l : List Int} {n : Nat}
theorem Gd.ybk (h : Gd B W gb mb v ns l n) {k : Nat} (hk : v.ownBlock = some k) : ∃ cur, W.heap[k]? = some (.cells cur 3 (0, 0)) := by
 rcases h.row.2 with ⟨h1, -⟩ | ⟨g, cap, cur, h1, h2, h3, -⟩
 ·rw [h1] at hk; cases hk
 rw [h1] at hk
 obtain rfl : g = k := by simpa [Value.ownBlock] using hk
 exact ⟨cur, h3⟩
theorem Gd.zna (h : Gd B W gb mb v ns l n) {k : Nat} (hk : v.ownBlock = some k) : k ≠ gb /\ k ≠ mb := by
 obtain ⟨cur, hc⟩ := h.ybk hk
 constructor
 ·rintro rfl
  rw [h.box] at hc
  simp at hc
 rintro rfl
 obtain ⟨es, cl, q⟩ := h.map.obj
 rw [q] at hc
 cases hc
theorem Gd.z5e (h : Gd B W gb mb v ns l n) : gb ≠ mb := by
 rintro rfl
 obtain ⟨es, cl, q⟩ := h.map.obj
 have := h.box
 rw [q] at this
 cases this
theorem Gd.lt (h : Gd B W gb mb v ns l n) (k : Nat) (hk : Fz gb mb v k) : B <= k /\ k < W.heap.size := by
 rcases hk with rfl | rfl | hk
 ·exact ⟨h.low.1, (Array.getElem?_eq_some_iff.1 h.box).1⟩
 ·exact ⟨h.low.2, h.map.lt⟩
 exact h.row.lt k hk
theorem Gd.kept {T : Nat -> Prop} (h : Gd B W gb mb v ns l n) (hs : At.St T W W') (hn : ∀ k, Fz gb mb v k -> ¬ T k) : Gd B W' gb mb v ns l n :=
 ⟨hs.at h.box (hn _ (.inl rfl)), h.map.kept hs (hn _ (.inr (.inl rfl))), zas h.row fun _ _ hk hb => hs.at hb (hn _ (.inr (.inr hk))), h.low, h.few⟩
theorem Gd.later (h : Gd B W gb mb v ns l n) (hb : Below W.heap.size W W') : Gd B W' gb mb v ns l n := h.kept (T := fun _ => False) (At.St.of_below hb) fun _ _ q => q
theorem Gd.c0 (h : Gd B W gb mb v ns l n) : W.cell? ⟨gb, 0, none⟩ = some (.map (some mb)) := zaa h.box rfl
theorem Gd.c1 (h : Gd B W gb mb v ns l n) : W.cell? ⟨gb, 1, none⟩ = some v := zaa h.box rfl
theorem Gd.slice (h : Gd B W gb mb v ns l n) : ∃ a c, v = .slice a l.length c := zaf h.row
end
end Go.Proofs.YthadfdbkkmmgoaaGreatDoor.Gs
namespace Go.Proofs.YthadfdbkkmmgoaaGreatDoor.Gs
open Go.RowKit Go.Shelf Go.Maps
def Err (Ad : Nat -> Addr) (W : World) (v : Value) (k d : Nat) : Prop := ∃ ws, Chn Ad W.heap.size W d v (ws, k)
theorem z9u (Ad : Nat -> Addr) {W : World} {v : Value} {p k d : Nat} (hE : Env8 W Ad) (h : Err Ad W v p d) (hp : p ∈ eight) (hk : k ∈ eight) :
  Calls Tryz.prog 11 #[v, .iface 330 (.pointer (some (Ad k)))] W fun e W' => e = .returned (.bool (decide (p = k))) /\ Below W.heap.size W W' := by
 obtain ⟨ws, h⟩ := h
 obtain ⟨t, q, rfl, -⟩ := h.1.shape
 refine ycg Ad k t q _ W ((z7m Ad W.heap.size k W ws _ p (hE.sen p hp (zdl p hp).2) (hE.sen k hk (zdl k hk).2) (hE.same hp hk) h.1).mono ?_)
 rintro e w' ⟨rfl, rfl⟩
 exact ⟨rfl, Below.refl _ _⟩
end Go.Proofs.YthadfdbkkmmgoaaGreatDoor.Gs
namespace Go.Proofs.YthadfdbkkmmgoaaGreatDoor.Gs
open Go.RowKit Go.Shelf Go.Maps
theorem zdf : (Tryz.prog.info? 3).map (fun i => (i.zero, i.size, i.bytes)) = some (some (.int .i64 0), 1, 8) := by kernel_rfl
theorem zpl (w : World) {ops : Array Oper} {rest : List Oper} {o : Oper} {a : Act} {Q : Exit -> Act -> World -> Prop} (hgd : o.guard = none) (s x : Operand)
  (ho : o.op = .call { callee := .builtin .append, args := #[s, x], argTypes := #[68, 68] })
  (base : Nat) (v : Value) (xs : List Int) (hs : a.eval s = v) (hown : w.ownsRow base 3 1 v xs.length (xs.map gz))
  (g c : Nat) (l : List Int) (hx : a.eval x = .slice (some ⟨g, 0, none⟩) l.length c) (hrow : ∀ (j : Nat) u, l[j]? = some u -> w.cell? ⟨g, j, none⟩ = some (.int .i64 u)) (hlen : xs.length + l.length <= 5000) (hbase : base <= w.heap.size)
  (h : ∀ v' w', Hid (w'.ownsRow base 3 1 v' (xs ++ l).length ((xs ++ l).map gz)) -> Hid (w.grownBy w' v.ownBlock) -> Hid (Below base w w') -> wpList Tryz.prog ops Q rest (a.put o.dst v') w') :
  wpList Tryz.prog ops Q (o :: rest) a w := by
 obtain ⟨i0, hi, hz0, hz1, hz2⟩ := info_parts zdf
 refine wpList_append_own_at w hgd s x 68 ho base 3 i0 (.int .i64 0) 1 8 Tryz.underlying68 hi hz0 hz1 hz2 rfl (by decide) v xs.length (xs.map gz) hs hown ⟨g, 0, none⟩ l.length c (l.map gz) hx (by simp) (fun j u hu => by
  rw [zbx]
  rw [List.getElem?_map, Option.map_eq_some_iff] at hu
  obtain ⟨z, hz, rfl⟩ := hu
  exact hrow j z hz) (by intro u hu; obtain ⟨z, -, rfl⟩ := List.mem_map.1 hu; rfl) (by simp [maxLen]; omega) (by omega) hbase ?_
 intro v' w' hown' hgrow _ _
 have e : xs.length + l.length = (xs ++ l).length := by simp
 rw [e, <- List.map_append] at hown'
 exact h v' w' hown' hgrow ((Below.refl _ _).grown hgrow hbase (fun k hk => zcn hown hk))
set_option maxRecDepth 100000 in
theorem zgk {B : Nat} {W : World} {v : Value} {l : List Int} (h : W.ownsRow B 3 1 v l.length (l.map gz)) (hl : l.length <= 1000) :
  Calls Tryz.prog 114 #[v] W fun e W' => ∃ v', e = .returned v' /\ W'.ownsRow W.heap.size 3 1 v' l.length (l.map gz) /\ Below W.heap.size W W' := by
 have qn := fun (w : World) (a : Option Addr) (n c : Nat) => Go.Lib.run_eql_slice_nil (P := Tryz.prog) w 68 3 a n c 0 0 Tryz.underlying68
 rcases h.2 with ⟨rfl, h0⟩ | ⟨g, cap, cur, rfl, h2, h3, h4, h5, h6, h7⟩
 ·obtain rfl := List.length_eq_zero_iff.1 h0
  clear h h0 hl
  go_enter Tryz.func114, Tryz.ntmps114
  go_wp2_with fail
  go_ret
  exact ⟨_, rfl, World.ownsRow_nil _ _ _ _, Below.refl _ _⟩
 have R : Hid (∀ (j : Nat) u, l[j]? = some u -> (W.alloc (.cells #[] 3)).cell? ⟨g, j, none⟩ = some (.int .i64 u)) := fun j u hu => by
  refine seen (bAl W _) (Nat.le_refl _) ?_
  rw [h.cellAt j (by have := (List.getElem?_eq_some_iff.1 hu).1; omega), List.getElem?_map, hu]
  rfl
 have O : Hid ((W.alloc (.cells #[] 3)).ownsRow W.heap.size 3 1 (.slice (some ⟨W.heap.size, 0, none⟩) 0 0) ([] : List Int).length (([] : List Int).map gz)) := World.ownsRow_lit W #[] 0 (Nat.le_refl _) (by unfold maxLen; omega) rfl
 have hz : W.heap.size <= (W.alloc (.cells #[] 3)).heap.size := by simp
 have BB := hid (bAl W (.cells #[] 3))
 have hll : ([] : List Int).length + l.length <= 5000 := by simp; omega
 have HL := hid hll
 clear h h2 h3 h4 h5 h6 h7 hl hll
 go_enter Tryz.func114, Tryz.ntmps114
 go_wp2_with (at_builtin; refine zpl _ rfl (.tmp 5) (.tmp 6) rfl W.heap.size _ [] rfl O.out g cap l rfl R.out HL.out hz ?_; intro v1 w1 ow hg bw)
 obtain ⟨a1, c1, rfl⟩ := zaf ow.out
 go_ret
 exact ⟨_, rfl, ow.out, BB.out.trans bw.out⟩
section
variable {Ad : Nat -> Addr} {B : Nat} {W : World} {gb mb : Nat} {v : Value} {ns : List ByteArray} {l : List Int} {n : Nat}
set_option maxRecDepth 100000 in
theorem z5z (h : Gd B W gb mb v ns l n) :
  Calls Tryz.prog 69 #[.pointer (some ⟨gb, 0, none⟩)] W fun e W' => ∃ v', e = .returned v' /\ W'.ownsRow W.heap.size 3 1 v' l.length (l.map gz) /\ Below W.heap.size W W' := by
 have C := hid (zgk h.row (by have := h.few; omega))
 have c1 := h.c1
 obtain ⟨a, c, rfl⟩ := h.slice
 clear h
 go_enter Tryz.func69, Tryz.ntmps69
 go_wp2_with fail
 refine C.out.mono ?_
 rintro e w1 ⟨v1, rfl, ho, hb⟩
 obtain ⟨a1, c1, rfl⟩ := zaf ho
 have HO := hid ho
 have HB := hid hb
 clear ho hb C
 go_wp2_with fail
 go_ret
 exact ⟨_, rfl, HO.out, HB.out⟩
end
end Go.Proofs.YthadfdbkkmmgoaaGreatDoor.Gs
namespace Go.Proofs.YthadfdbkkmmgoaaGreatDoor.Gs
open Go.RowKit Go.Shelf Go.Maps
open Sc (Cmp Rsc zah zaw zbu zbv zak resL zgj zar zhe zej nErr isNm memB zfj at3 zay zbl)
theorem zrm {cs : List Cmp} {rs : List Rsc} : ∀ m k, k <= m -> resL cs rs m = [] -> resL cs rs k = []
  | 0, k, h, e => by obtain rfl : k = 0 := by omega
                     exact e
  | m + 1, k, h, e => by
    by_cases q : k = m + 1
    · subst q; exact e
    refine zrm m k (by omega) ?_
    rw [resL] at e
    exact (List.append_eq_nil_iff.1 e).1
theorem z5q {cs : List Cmp} {rs : List Rsc} (h : zak cs rs = []) : rs.length <= 8 /\ ∀ (k : Nat) (r : Rsc), rs[k]? = some r -> isNm r.s = true /\ memB ((rs.take k).map Rsc.s) r.s = false := by
 unfold zak at h
 obtain ⟨-, h2⟩ := List.append_eq_nil_iff.1 h
 obtain ⟨h3, h4⟩ := List.append_eq_nil_iff.1 h2
 have hl : rs.length <= 8 := by
  unfold zay at h3
  split at h3
  ·cases h3
  omega
 have hN : ∀ (k : Nat) (r : Rsc), rs[k]? = some r -> isNm r.s = true /\ memB (zar (cs.map Cmp.s ++ (rs.take k).map Rsc.s)) r.s = false := by
  intro k r hr
  have hk := (List.getElem?_eq_some_iff.1 hr).1
  have e := zrm rs.length (k + 1) (by omega) h4
  rw [zgj hr] at e
  have e2 := (List.append_eq_nil_iff.1 e).2
  unfold at3 at e2
  have e3 := List.map_eq_nil_iff.1 e2
  unfold nErr at e3
  cases q : isNm r.s with
  | false => rw [q] at e3; simp at e3
  | true =>
   rw [q] at e3
   refine ⟨rfl, ?_⟩
   cases q2 : memB (zar (cs.map Cmp.s ++ (rs.take k).map Rsc.s)) r.s with
   | false => rfl
   | true => rw [q2] at e3; simp at e3
 have hS : ∀ k, k <= rs.length -> ∀ s, s ∈ (rs.take k).map Rsc.s -> s ∈ zar (cs.map Cmp.s ++ (rs.take k).map Rsc.s) := by
  intro k
  induction k with
  | zero => intro _ s hs; simp at hs
  | succ k ih =>
   intro hk s hs
   obtain ⟨r, hr⟩ := zal rs k (by omega)
   rw [zhe hr]
   obtain ⟨q1, q2⟩ := hN k r hr
   unfold zej
   rw [q1, q2]
   rw [zbe hr, List.map_append] at hs
   rcases List.mem_append.1 hs with hs | hs
   ·exact List.mem_append.2 (.inl (ih (by omega) s hs))
   exact List.mem_append.2 (.inr (by simpa using hs))
 refine ⟨hl, fun k r hr => ⟨(hN k r hr).1, ?_⟩⟩
 have hk := (List.getElem?_eq_some_iff.1 hr).1
 cases q : memB ((rs.take k).map Rsc.s) r.s with
 | false => rfl
 | true =>
  have := (hN k r hr).2
  rw [(zfj _ _).2 (hS k (by omega) _ ((zfj _ _).1 q))] at this
  cases this
theorem z8e {s : ByteArray} (h : isNm s = true) : s.size <= 8 := by
 unfold isNm at h
 simp at h
 omega
structure Grew (B : Nat) (v : Value) (l : List Int) (wc : World) (v' : Value) (w2 : World) : Prop where
 own : w2.ownsRow B 3 1 v' l.length (l.map gz)
 st : At.St (fun x => v.ownBlock = some x) wc w2
 at' : v'.ownBlock = v.ownBlock \/ ∃ x, v'.ownBlock = some x /\ wc.heap.size <= x
theorem z1z {ops : Array Oper} {o : Oper} {a : Act} {K : Act -> World -> Prop} {Q : Exit -> Act -> World -> Prop} {E : Prop} (hgd : o.guard = none) (s x : Operand)
  (ho : o.op = .call { callee := .builtin .append, args := #[s, x], argTypes := #[68, 68] }) {B gb : Nat} {wc : World} {v : Value} {l : List Int} {k : Int} (hown : wc.ownsRow B 3 1 v l.length (l.map gz)) (hl : l.length <= 1000) (hB : B <= wc.heap.size)
  {cs : Array Value} (hbox : wc.heap[gb]? = some (.cells cs 186 (0, 0))) (hcs : cs[1]? = some v) (hne : v.ownBlock ≠ some gb)
  (hs : a.eval s = v) (hx : a.eval x = .slice (some ⟨wc.heap.size, 0, none⟩) 1 1)
  (h : ∀ g' cap w2, Grew B v (l ++ [k]) wc (.slice (some ⟨g', 0, none⟩) (l.length + 1) cap) w2 -> w2.cell? ⟨gb, 1, none⟩ = some v -> w2.frozen? ⟨gb, 1, none⟩ = false -> K (a.put o.dst (.slice (some ⟨g', 0, none⟩) (l.length + 1) cap)) w2) :
  if Region.wanted o (yielded ops a.tmps) = true then Oper.wp Tryz.prog o a (wc.alloc (.cells #[.int .i64 k] 3)).drew K Q else E := by
 obtain ⟨i0, hi, hz0, hz1, hz2⟩ := info_parts zdf
 have hb : Below wc.heap.size wc (wc.alloc (.cells #[.int .i64 k] 3)).drew := ((Below.refl _ _).alloc (Nat.le_refl _) _).drew
 have ho2 : (wc.alloc (.cells #[.int .i64 k] 3)).drew.ownsRow B 3 1 v l.length (l.map gz) := hown.alloc _
 have hz : (wc.alloc (.cells #[.int .i64 k] 3)).drew.heap.size = wc.heap.size + 1 := by simp
 refine step_append_lies _ hgd s x 68 ho B 3 i0 (.int .i64 0) 1 8 Tryz.underlying68 hi hz0 hz1 hz2 rfl (by decide) v l.length (l.map gz) hs ho2 ⟨wc.heap.size, 0, none⟩ 1 1 [gz k] hx rfl (fun j u hu => by
  rw [zbx]
  match j, hu with
  | 0, hu =>
   simp at hu
   subst hu
   exact zbz wc _ 3
  | j + 1, hu => simp at hu) (by intro u hu; simp at hu; subst hu; rfl) (by decide) (by unfold maxLen; omega) (by omega) (by omega) (wc.heap.size + 1) hz ?_
 intro g' cap w2 ow hg hat hlt
 have st : At.St (fun x => v.ownBlock = some x) wc w2 := (At.St.of_below hb).trans (At.St.zam (S := fun x => v.ownBlock = some x) hg fun k e => e) fun _ _ q => q
 have hbx : w2.heap[gb]? = some (.cells cs 186 (0, 0)) := st.at hbox hne
 refine h g' cap w2 ⟨?_, st, ?_⟩ (zaa hbx hcs) (zac hbx 1)
 ·have e : (l ++ [k]).length = l.length + 1 := by simp
  rw [e, List.map_append]
  exact ow
 rcases hat with h1 | h1
 ·exact .inl (by rw [h1]; rfl)
 exact .inr ⟨g', rfl, by omega⟩
theorem Gd.push {B : Nat} {wb w5 : World} {gb mb : Nat} {v v' : Value} {ns : List ByteArray} {l : List Int} {n : Nat} {x : Int} (h : Gd B wb gb mb v ns l n) (hg : Grew B v (l ++ [x]) wb v' w5) (hl : l.length < 8) :
  Gd B (w5.setCell ⟨gb, 1, none⟩ v') gb mb v' ns (l ++ [x]) n /\ At.St (Ft gb v) wb (w5.setCell ⟨gb, 1, none⟩ v') := by
 have lg := (h.lt gb (.inl rfl)).2
 have lm := (h.lt mb (.inr (.inl rfl))).2
 have hnv : ∀ x, v'.ownBlock = some x -> x ≠ gb /\ x ≠ mb := fun x hx => by
  rcases hg.at' with h1 | ⟨y, h1, h2⟩
  ·exact h.zna (h1 ▸ hx)
  rw [h1] at hx; simp at hx; omega
 have b5 := hg.st.at h.box (fun e => (h.zna e).1 rfl)
 have m5 := h.map.kept hg.st (fun e => (h.zna e).2 rfl)
 have s6 : At.St (fun k => k = gb) w5 (w5.setCell ⟨gb, 1, none⟩ v') := At.St.setCell _ rfl
 have b6 := heap_setCell_same _ gb 1 _ _ v' b5
 refine ⟨⟨by simpa using b6, m5.kept s6 h.z5e.symm, zas hg.own fun k _ hk hb => s6.at hb (hnv k hk).1, h.low, by simp; omega⟩, ?_⟩
 exact (show At.St (Ft gb v) wb w5 from ⟨hg.st.os, hg.st.tape, hg.st.output, hg.st.size, fun k hk hn => hg.st.block k hk fun e => hn (.inr e)⟩).trans s6 fun _ _ e => .inl e
theorem ziz {Ad : Nat -> Addr} {n₀ d : Nat} {W : World} {v : Value} (h : Top Ad n₀ W d v []) : v = .nilIface := by
 rcases h with ⟨q, -⟩ | ⟨p, q, -⟩ | ⟨b, vs, -, q, q2⟩
 ·exact q
 ·cases q
 have := q2.two; rw [List.map_eq_nil_iff.1 q.symm] at this; simp at this
set_option maxRecDepth 100000 in
theorem zer (Ad : Nat -> Addr) (w : World) (va vb : Value) (cs : List Cmp) (rs : List Rsc) (hE : Env8 w Ad) (hC : zah w va cs) (hQ : zaw w vb rs) (hsC : zbu cs) (hsQ : zbv rs) (hck : zak cs rs = []) :
  Calls Tryz.prog 49 #[.agg #[va, vb]] w fun e w' => ∃ gb, e = .returned (.tuple #[.pointer (some ⟨gb, 0, none⟩), .nilIface]) /\ (∃ mb v, Gd w.heap.size w' gb mb v (rs.map Rsc.s) (rs.map Rsc.n) 0) /\ Below w.heap.size w w' := by
 have hmm := @run_makeMap Tryz.prog
 obtain ⟨h8, hN⟩ := z5q hck
 obtain ⟨w0, hw0⟩ : ∃ w0, w0 = w.alloc (.cells #[va, vb] 25) := ⟨_, rfl⟩
 have b0 : Below w.heap.size w w0 := by rw [hw0]; exact bAl _ _
 have r0 : w0.heap[w.heap.size]? = some (.cells #[va, vb] 25 (0, 0)) := by rw [hw0]; exact heap_alloc_new w _
 have CK := hid (zbl Ad w0 va vb cs rs (hE.later b0) (hC.later b0) (hQ.later b0) hsC hsQ)
 rw [hck] at CK
 have HQ := hid hQ
 obtain ⟨a, c, rfl, hcap, -⟩ := hC
 obtain ⟨a', c', rfl, hcap', -⟩ := hQ
 have x0 : w0.cell? ⟨w.heap.size, 0, none⟩ = some (.slice a cs.length c) := zaa r0 rfl
 have x1 : w0.cell? ⟨w.heap.size, 1, none⟩ = some (.slice a' rs.length c') := zaa r0 rfl
 have HW0 := hid hw0
 have B0 := hid b0
 have R0 := hid r0
 have HN := hid hN
 have h8i : (rs.length : Int) <= 8 := by omega
 clear hE hsC hsQ hck hw0 b0 r0 hN hcap hcap'
 go_enter Tryz.func49, Tryz.ntmps49
 go_upto_region 1 with fail
 rw [<- HW0.out]
 go_wp2_with fail
 refine CK.out.mono ?_
 rintro e w1 ⟨v1, rfl, ht, hb⟩
 obtain rfl := ziz ht
 have R1 := hid (zab hb (Nat.le_refl _) R0.out)
 have B1 := hid (B0.out.trans (hb.mono B0.out.size))
 have hz1 : Hid (w.heap.size < w1.heap.size) := by
  have := (Array.getElem?_eq_some_iff.1 R1.out).1
  exact this
 obtain ⟨w2, hw2⟩ : ∃ w2, w2 = w1.alloc (.map #[] 0) := ⟨_, rfl⟩
 obtain ⟨w3, hw3⟩ : ∃ w3, w3 = w2.alloc (.cells #[.map (some w1.heap.size), .slice none 0 0, .int .i64 0] 186) := ⟨_, rfl⟩
 have b2 : Below w1.heap.size w1 w2 := by rw [hw2]; exact bAl _ _
 have b3 : Below w2.heap.size w2 w3 := by rw [hw3]; exact bAl _ _
 have hs2 : w2.heap.size = w1.heap.size + 1 := by rw [hw2]; simp
 have m2 : Mn w2 w1.heap.size [] := by rw [hw2]; exact z9j w1
 have G3 : Hid (Gd w.heap.size w3 w2.heap.size w1.heap.size (.slice none 0 0) [] [] 0) := ⟨by rw [hw3]; exact heap_alloc_new w2 _, m2.kept (T := fun _ => False) (At.St.of_below b3) fun q => q, World.ownsRow_nil _ _ _ _, ⟨by have := hz1.out; omega, by have := hz1.out; omega⟩, by simp⟩
 have B3 := hid (B1.out.trans ((b2.trans (b3.mono b2.size)).mono B1.out.size))
 have x3 : w3.cell? ⟨w.heap.size, 1, none⟩ = some (.slice a' rs.length c') := zaa (zab b3 (Nat.le_refl _) (zab b2 (Nat.le_refl _) R1.out)) rfl
 have HW2 := hid hw2
 have HW3 := hid hw3
 have HS2 := hid hs2
 obtain ⟨gb, hgb⟩ : ∃ gb, gb = w2.heap.size := ⟨_, rfl⟩
 obtain ⟨mb, hmb⟩ : ∃ mb, mb = w1.heap.size := ⟨_, rfl⟩
 rw [<- hgb, <- hmb] at G3
 clear ht hb b2 b3 hs2 m2 hw2 hw3 CK x0 x1
 have HGB := hid hgb
 have HMB := hid hmb
 clear hgb hmb
 go_upto_region 5 with fail
 rw [<- HW2.out, <- HW3.out]
 rw [<- HS2.out, <- HGB.out, <- HMB.out]
 clear HW2 HW3 HS2 HGB HMB hmm hz1 R1 B1
 go_wp2_with fail
 go_loopw [6, 7, 19] (fun _ _ i wr => ∃ (k : Nat) (v : Value), k <= rs.length /\ i = .int .i64 (k : Int) /\ Hid (Gd w.heap.size wr gb mb v ((rs.take k).map Rsc.s) ((rs.take k).map Rsc.n) 0 /\ Below w.heap.size w wr)) (fun _ _ i _ => rs.length - (intOf i).toNat)
 case atStart => exact ⟨0, _, Nat.zero_le _, rfl, G3.out, B3.out⟩
 case round =>
  clear x3 G3 B3
  obtain ⟨k, v, hk, rfl, HK⟩ := hrel
  by_cases hlt : k < rs.length
  ·have hki : (k : Int) < (rs.length : Int) := by omega
   obtain ⟨x, hx⟩ := zal rs k hlt
   obtain ⟨b, o, rfl, c0, c1⟩ : ∃ b o, a' = some ⟨b, o, none⟩ /\ wr.cell? ⟨b, o + k * 2, none⟩ = some (.string x.s) /\ wr.cell? ⟨b, o + k * 2 + 1, none⟩ = some (.int .i64 x.n) := by
    obtain ⟨a2, c2, hv, -, hl2⟩ := HQ.out.later HK.out.2
    obtain ⟨rfl, rfl⟩ : a' = a2 /\ c' = c2 := by simpa using hv
    rcases hl2 with q | ⟨b, o, q1, q2⟩
    ·rw [q] at hlt; simp at hlt
    exact ⟨b, o, q1, q2 k x hx⟩
   obtain ⟨hnm, hmem⟩ := HN.out k x hx
   have hsz := z8e hnm
   have hkl : ((rs.take k).map Rsc.s).length = k := by simp; omega
   have hkn : ((rs.take k).map Rsc.n).length = k := by simp; omega
   obtain ⟨va, vc, hvv⟩ := HK.out.1.slice
   obtain ⟨wa, hwa⟩ : ∃ wa, wa = wr.alloc (.cells #[.string x.s, .int .i64 x.n] 107) := ⟨_, rfl⟩
   have ba : Below wr.heap.size wr wa := by rw [hwa]; exact bAl _ _
   have ra : wa.heap[wr.heap.size]? = some (.cells #[.string x.s, .int .i64 x.n] 107 (0, 0)) := by rw [hwa]; exact heap_alloc_new wr _
   have bd : Below wa.heap.size wa wa.drew := (Below.refl _ _).drew
   have ga := HK.out.1.later ba
   have gd := ga.later bd
   obtain ⟨wb, hr, hm, hs⟩ := gd.map.store hmem (by omega) (by unfold maxLen; omega) Tryz.underlying184
   rw [hkl] at hr
   have gB : Gd w.heap.size wb gb mb v ((rs.take k).map Rsc.s ++ [x.s]) ((rs.take k).map Rsc.n) 0 := ⟨hs.at gd.box gd.z5e, hm, zas gd.row fun q _ hq hb => hs.at hb (gd.zna hq).2, gd.low, gd.few⟩
   have rb := hs.at (zab bd (Nat.le_refl _) ra) (by have := (HK.out.1.lt mb (.inr (.inl rfl))).2; omega)
   have bw : Below w.heap.size w wb := (HK.out.2.trans ((ba.trans (bd.mono ba.size)).mono HK.out.2.size)).trans (hs.below (B := w.heap.size) (fun q e => by rw [e]; exact gd.low.2) (HK.out.2.trans ((ba.trans (bd.mono ba.size)).mono HK.out.2.size)).size)
   have K1 : Hid (wa.drew.cell? ⟨gb, 0, none⟩ = some (.map (some mb)) /\ wa.drew.cell? ⟨wr.heap.size, 0, none⟩ = some (.string x.s)) := ⟨gd.c0, zaa (W := wa.drew) ra rfl⟩
   have K2 : Hid (wb.cell? ⟨gb, 0, none⟩ = some (.map (some mb)) /\ wb.cell? ⟨wr.heap.size, 0, none⟩ = some (.string x.s)) := ⟨gB.c0, zaa rb rfl⟩
   have e1 : wb.cell? ⟨gb, 1, none⟩ = some v := gB.c1
   have e2 : wb.cell? ⟨wr.heap.size, 1, none⟩ = some (.int .i64 x.n) := zaa rb rfl
   have HGB := hid gB
   have HBW := hid bw
   have HWA := hid hwa
   have HTN := hid (zbe hx)
   have hnl : gb < wb.heap.size := (gB.lt gb (.inl rfl)).2
   have hnn : ¬ gb = wb.heap.size := by omega
   have hne : v.ownBlock ≠ some gb := fun e => (gB.zna e).1 rfl
   have hB2 : w.heap.size <= wb.heap.size := bw.size
   have hnl2 : ((rs.take k).map Rsc.n).length <= 1000 := by omega
   obtain ⟨ns, hns⟩ : ∃ ns, ns = (rs.take k).map Rsc.s := ⟨_, rfl⟩
   obtain ⟨ls, hls⟩ : ∃ ls, ls = (rs.take k).map Rsc.n := ⟨_, rfl⟩
   rw [<- hns, <- hls] at HGB
   rw [<- hls] at hnl2 hkn
   have HNS := hid hns
   have HLS := hid hls
   have HKN := hid hkn
   rw [<- hls] at hvv
   subst hvv
   clear hnm hmem hsz hkl ba ra bd ga gd hm hs gB rb bw hwa HK hns hls hkn hx
   go_upto_region 8 with fail
   rw [<- HWA.out]
   go_region_held3 (fun W' => W'.cell? ⟨gb, 0, none⟩ = some (.map (some mb)) /\ W'.cell? ⟨wr.heap.size, 0, none⟩ = some (.string x.s)) (first | exact K1.out | exact K2.out) (fail)
   clear hr K1 K2 c0 c1
   go_upto_region 9 with fail
   go_region_law (refine z1z rfl _ _ rfl HGB.out.row hnl2 hB2 HGB.out.box rfl hne rfl rfl ?_; intro g' cap w5 hgr hx5 hf5)
   all_goals
    have NX : Hid (Gd w.heap.size (w5.setCell ⟨gb, 1, none⟩ (.slice (some ⟨g', 0, none⟩) (ls.length + 1) cap)) gb mb (.slice (some ⟨g', 0, none⟩) (ls.length + 1) cap) ((rs.take (k + 1)).map Rsc.s) ((rs.take (k + 1)).map Rsc.n) 0 /\ Below w.heap.size w (w5.setCell ⟨gb, 1, none⟩ (.slice (some ⟨g', 0, none⟩) (ls.length + 1) cap))) := by
     obtain ⟨q1, q2⟩ := HGB.out.push hgr (by have := HKN.out; omega)
     rw [HTN.out, List.map_append, List.map_append, <- HNS.out, <- HLS.out]
     refine ⟨q1, HBW.out.trans (q2.below (B := w.heap.size) (fun q e => ?_) HBW.out.size)⟩
     exact (HGB.out.lt q e.all).1
    clear hgr hx5 hf5 HGB HNS HLS e1 e2
    go_wp2_with fail
    go_roundw
    case rel => exact ⟨k + 1, _, by omega, by go_num, NX.out⟩
    case measure => simp [intOf]; omega
  have hki : ¬ (k : Int) < (rs.length : Int) := by omega
  obtain rfl : k = rs.length := by omega
  rw [List.take_of_length_le (Nat.le_refl _)] at HK
  go_wp2_with fail
  go_ret2
  exact ⟨gb, rfl, ⟨mb, v, HK.out.1⟩, HK.out.2⟩
end Go.Proofs.YthadfdbkkmmgoaaGreatDoor.Gs
namespace Go.Proofs.YthadfdbkkmmgoaaGreatDoor.Wo
open Go.RowKit Go.Shelf Go.Maps
open At (St)
open Rs (SD)
open Go.Proofs.YthadfdbkkmmgoaaGreatDoor.So (Sto CV Gw)
open Bd (Prs)
abbrev Own := Nat -> Nat
def Fin (B : Nat) (G : Own) (W : World) : Prop := ∀ k, G k ≠ 0 -> B <= k /\ k < W.heap.size
structure Up (C : Nat -> Prop) (G G' : Own) (W W' : World) : Prop where
 st : St (fun k => C (G k)) W W'
 old : ∀ k, k < W.heap.size -> G' k = G k
 new : ∀ k, W.heap.size <= k -> G' k ≠ 0 -> C (G' k)
variable {B : Nat} {G G' G2 : Own} {W W' W2 : World} {C C' D : Nat -> Prop}
theorem zbi {S T : Nat -> Prop} (h : St S W W') (hs : ∀ k, k < W.heap.size -> S k -> T k) : St T W W' := ⟨h.os, h.tape, h.output, h.size, fun k hk n => h.block k hk fun q => n (hs k hk q)⟩
theorem Up.later (hf : Fin B G W) (hb : Below W.heap.size W W') : Up C G G W W' := ⟨St.of_below hb, fun _ _ => rfl, fun k hk q => by have := (hf k q).2; omega⟩
theorem Up.mono (h : Up C G G' W W') (hc : ∀ i, C i -> D i) : Up D G G' W W' := ⟨zbi h.st fun _ _ q => hc _ q, h.old, fun k hk q => hc _ (h.new k hk q)⟩
theorem Up.trans (h : Up C G G' W W') (k : Up C G' G2 W' W2) : Up C G G2 W W2 :=
 ⟨h.st.trans k.st fun x hx q => by rw [h.old x hx] at q; exact q, fun x hx => (k.old x (Nat.lt_of_lt_of_le hx h.st.size)).trans (h.old x hx), fun x hx q => by
  by_cases e : x < W'.heap.size
  ·rw [k.old x e] at q ⊢; exact h.new x hx q
  exact k.new x (by omega) q⟩
theorem Up.bel (h : Up C G G' W W') (hf : Fin B G W) (hB : B <= W.heap.size) (h0 : ¬ C 0) : Below B W W' := h.st.below (fun k q => (hf k fun e => h0 (e ▸ q)).1) hB
theorem Up.at (h : Up C G G' W W') {k : Nat} {o : Obj} (hk : W.heap[k]? = some o) (hn : ¬ C (G k)) : W'.heap[k]? = some o /\ G' k = G k :=
 ⟨h.st.at hk hn, h.old k (Array.getElem?_eq_some_iff.1 hk).1⟩
def zkb (G : Own) (N i : Nat) (S : Nat -> Prop) [DecidablePred S] : Own := fun k => if k < N then G k else if S k then i else 0
theorem zrk {i : Nat} {S : Nat -> Prop} [DecidablePred S] (hi : C i) (hs : St (fun k => C (G k)) W W') : Up C G (zkb G W.heap.size i S) W W' :=
 ⟨hs, fun k hk => by simp [zkb, hk], fun k hk q => by
  have e : ¬ k < W.heap.size := by omega
  unfold zkb at q ⊢
  rw [if_neg e] at q ⊢
  by_cases f : S k
  ·rw [if_pos f]; exact hi
  rw [if_neg f] at q; exact absurd rfl q⟩
theorem zno {i : Nat} {S : Nat -> Prop} [DecidablePred S] (hf : Fin B G W) (hB : B <= W.heap.size) (hs : W.heap.size <= W'.heap.size) (hS : ∀ k, S k -> k < W'.heap.size) : Fin B (zkb G W.heap.size i S) W' := fun k q => by
 unfold zkb at q
 by_cases e : k < W.heap.size
 ·rw [if_pos e] at q
  have := hf k q
  omega
 rw [if_neg e] at q
 by_cases f : S k
 ·have := hS k f; omega
 rw [if_neg f] at q; exact absurd rfl q
theorem zro {i : Nat} {S S' : Nat -> Prop} [DecidablePred S] (hS : ∀ k, S' k -> (k < W.heap.size /\ G k = i) \/ (W.heap.size <= k /\ S k)) (k : Nat) (hk : S' k) : zkb G W.heap.size i S k = i := by
 unfold zkb
 rcases hS k hk with ⟨h1, h2⟩ | ⟨h1, h2⟩
 ·rw [if_pos h1, h2]
 rw [if_neg (by omega), if_pos h2]
def Ps (B : Nat) (G : Own) (W : World) (sb : Nat) (s : SD) (t : Nat) : Prop := ∃ c, Sto none B W sb c s /\ c.t <= t /\ ∀ k, c.f k ≠ (0, 0, 0) -> G k = 1
def Pb (B : Nat) (G : Own) (W : World) (bb : Nat) (n : Int) (l : Prs) : Prop := ∃ ob nb, Bd.Bg B W bb ob nb n l /\ ∀ k, Bd.Ft bb ob nb k -> G k = 2
def Pg (B : Nat) (G : Own) (W : World) (gb : Nat) (ns : List ByteArray) (gl : List Int) (n : Nat) : Prop := ∃ mb v, Gs.Gd B W gb mb v ns gl n /\ ∀ k, Gs.Fz gb mb v k -> G k = 3
section
variable {sb : Nat} {s s' : SD} {t t' bb gb jb most n : Nat} {nx : Int} {l : Prs} {ns : List ByteArray} {gl : List Int}
theorem Ps.kept (h : Ps B G W sb s t) (hf : Fin B G W) (hu : Up C G G' W W') (hc : ¬ C 1) : Ps B G' W' sb s t := by
 obtain ⟨c, h1, h2, h3⟩ := h
 exact ⟨c, h1.keep hu.st fun k hk q => hc (h3 k hk ▸ q), h2, fun k hk => (hu.old k (hf k (by rw [h3 k hk]; decide)).2).trans (h3 k hk)⟩
theorem Pb.kept (h : Pb B G W bb nx l) (hf : Fin B G W) (hu : Up C G G' W W') (hc : ¬ C 2) : Pb B G' W' bb nx l := by
 obtain ⟨ob, nb, h1, h3⟩ := h
 exact ⟨ob, nb, h1.kept hu.st fun k hk q => hc (h3 k hk ▸ q), fun k hk => (hu.old k (hf k (by rw [h3 k hk]; decide)).2).trans (h3 k hk)⟩
theorem Pg.kept (h : Pg B G W gb ns gl n) (hf : Fin B G W) (hu : Up C G G' W W') (hc : ¬ C 3) : Pg B G' W' gb ns gl n := by
 obtain ⟨mb, v, h1, h3⟩ := h
 exact ⟨mb, v, h1.kept hu.st fun k hk q => hc (h3 k hk ▸ q), fun k hk => (hu.old k (hf k (by rw [h3 k hk]; decide)).2).trans (h3 k hk)⟩
theorem Ps.go {c c' : CV} (hf : Fin B G W) (h1 : Sto none B W sb c s) (h3 : ∀ k, c.f k ≠ (0, 0, 0) -> G k = 1) (k1 : Sto none B W' sb c' s') (k2 : c'.t <= t') (k3 : Gw c c' W W') :
  ∃ G', Up (· = 1) G G' W W' /\ Fin B G' W' /\ Ps B G' W' sb s' t' := by
 classical
 have hs : St (fun k => G k = 1) W W' := zbi k3.st fun k _ q => h3 k q
 refine ⟨zkb G W.heap.size 1 fun k => c'.f k ≠ (0, 0, 0), zrk (C := (· = 1)) rfl hs, zno hf h1.big hs.size fun k hk => (k1.lt k hk).2, c', k1, k2, zro fun k hk => ?_⟩
 by_cases e : k < W.heap.size
 ·rcases k3.new k hk with q | q
  ·exact .inl ⟨e, h3 k q⟩
  omega
 exact .inr ⟨by omega, hk⟩
theorem Pb.go {ob nb : Nat} {nx' : Int} {l' : Prs} (hf : Fin B G W) (h3 : ∀ k, Bd.Ft bb ob nb k -> G k = 2) (hg : Bd.Bg B W' bb ob nb nx' l') (hs : St (fun k => Bd.Ft bb ob nb k) W W') : Up (· = 2) G G W W' /\ Fin B G W' /\ Pb B G W' bb nx' l' :=
 ⟨⟨zbi hs fun k _ q => h3 k q, fun _ _ => rfl, fun k hk q => by have := (hf k q).2; omega⟩, fun k q => by have := hf k q; have := hs.size; omega, ob, nb, hg, h3⟩
end
end Go.Proofs.YthadfdbkkmmgoaaGreatDoor.Wo
namespace Go.Proofs.YthadfdbkkmmgoaaGreatDoor.Wo
open Go.RowKit Go.Shelf Go.Maps
open At (St)
open Rs (SD Prt Prts PRow fitP remP insP ix)
open Go.Proofs.YthadfdbkkmmgoaaGreatDoor.So (Er al entered zbb chkL)
open Co (I64)
theorem z9h {l : List Prt} {comp : Int} {q : Prt} (hq : l[ix l comp]? = some q) : q ∈ l /\ q.c = comp := by
 have h := (List.getElem?_eq_some_iff.1 hq)
 obtain ⟨h1, h2⟩ := h
 have e := List.findIdx_getElem (w := h1) (p := fun (x : Prt) => x.c == comp)
 refine ⟨h2 ▸ List.getElem_mem h1, ?_⟩
 rw [<- h2]
 exact eq_of_beq e
theorem z7q {l : List Prt} {comp : Int} (h : l[ix l comp]? = none) : ∀ x ∈ l, x.c ≠ comp := fun x hx e => by
 have h1 := List.getElem?_eq_none_iff.1 h
 have : ix l comp < l.length := List.findIdx_lt_length_of_exists ⟨x, hx, by simp [e]⟩
 omega
def pick (l : List Prt) (comp : Int) : Option Prt := l[ix l comp]?
theorem zgg {l : List Prt} {comp : Int} {q : Prt} (hq : pick l comp = some q) : q ∈ l /\ q.c = comp := z9h hq
theorem zjy {l : List Prt} {comp : Int} (h : pick l comp = none) : ∀ x ∈ l, x.c ≠ comp := z7q h
def Go1 (B : Nat) (G : Own) (W W' : World) (sb : Nat) (s' : SD) (t' : Nat) : Prop := ∃ G', Up (· = 1) G G' W W' /\ Fin B G' W' /\ Ps B G' W' sb s' t'
section
variable {B : Nat} {G : Own} {W W' : World} {sb : Nat} {s : SD} {t i g : Nat} {Ad : Nat -> Addr}
theorem Fin.later (hf : Fin B G W) (hb : Below W.heap.size W W') : Fin B G W' := fun k q => by have := hf k q; have := hb.size; omega
theorem z5y (h : Ps B G W sb s t) : Calls Tryz.prog 61 #[.pointer (some ⟨sb, 0, none⟩)] W fun e W' => e = .returned (.int .i64 (s.r.count : Int)) /\ W' = W := by
 obtain ⟨c, h1, h2, h3⟩ := h
 exact So.zvc h1
theorem z8i (h : Ps B G W sb s t) (ha : al s i g) : Calls Tryz.prog 78 #[.pointer (some ⟨sb, 0, none⟩), .agg #[.int .i64 (i : Int), .int .i64 (g : Int)]] W fun e W' => ∃ v, e = .returned (.tuple #[v, .nilIface]) /\ Prts W.heap.size W' v (s.at i) /\ Below W.heap.size W W' := by
 obtain ⟨c, h1, h2, h3⟩ := h
 exact So.z1f h1 ha
def zjz (G : Own) (W : World) (v : Value) (l : List Prt) : Prop := ∃ a c, v = .slice a l.length c /\ (l = [] \/ ∃ b o, a = some ⟨b, o, none⟩ /\ G b = 0 /\ ∀ (j : Nat) p, l[j]? = some p -> Rs.Six W b (o + j * 6) p)
theorem zjz.row {v : Value} {l : List Prt} (h : zjz G W v l) : PRow W v l := by
 obtain ⟨a, c, h1, h2⟩ := h
 exact ⟨a, c, h1, h2.imp id fun ⟨b, o, q1, _, q3⟩ => ⟨b, o, q1, q3⟩⟩
theorem zjz.of {v : Value} {l : List Prt} (h : PRow W v l) (hb : ∀ b o, (∃ n c, v = .slice (some ⟨b, o, none⟩) n c) -> G b = 0) : zjz G W v l := by
 obtain ⟨a, c, h1, h2⟩ := h
 exact ⟨a, c, h1, h2.imp id fun ⟨b, o, q1, q3⟩ => ⟨b, o, q1, hb b o ⟨l.length, c, by rw [h1, q1]⟩, q3⟩⟩
theorem znw (h : Ps B G W sb s t) (hE : Env8 W Ad) {v : Value} {l : List Prt} (hv : PRow W v l) (hl : l.length <= 90) (hc : chkL s.ws l = 0) (hf : s.r.free = []) :
  Calls Tryz.prog 116 #[.pointer (some ⟨sb, 0, none⟩), v] W fun e W' => ∃ r, e = .returned (.tuple #[.agg #[.int .i64 0, .int .i64 0], r]) /\ Er Ad W' r 6 /\ Below W.heap.size W W' := by
 obtain ⟨c, h1, h2, h3⟩ := h
 exact So.zvt Ad h1 hE hv hl hc hf
theorem z6z (h : Ps B G W sb s t) (hF : Fin B G W) (hE : Env8 W Ad) (ht : t <= 900) {v : Value} {l : List Prt} (hv : zjz G W v l) (hl : l.length <= 90) (hc : chkL s.ws l = 0) (hti : ∀ p ∈ l, I64 p.t) {f : List Nat} (hf : s.r.free = f ++ [i]) :
  Calls Tryz.prog 116 #[.pointer (some ⟨sb, 0, none⟩), v] W fun e W' => e = .returned (.tuple #[.agg #[.int .i64 (i : Int), .int .i64 ((s.r.gens.getD i 0 + 1 : Nat) : Int)], .nilIface]) /\ Go1 B G W W' sb (entered { s with r := s.r.took i } i (zbb l)) (t + 1) := by
 obtain ⟨c, h1, h2, h3⟩ := h
 refine (So.zml Ad h1 hE (l := l) ?_ hl hc hti hf (by omega)).mono ?_
 ·obtain ⟨a, cc, q1, q2⟩ := hv
  exact ⟨a, cc, q1, q2.imp id fun ⟨b, o, e1, e2, e3⟩ => ⟨b, o, e1, fun q => by rw [h3 b q] at e2; exact absurd e2 (by decide), e3⟩⟩
 rintro e W' ⟨rfl, c', k1, k2, k3⟩
 exact ⟨rfl, Ps.go hF h1 h3 k1 (by omega) k3⟩
theorem z0d (h : Ps B G W sb s t) (hF : Fin B G W) (ha : al s i g) :
  Calls Tryz.prog 117 #[.pointer (some ⟨sb, 0, none⟩), .agg #[.int .i64 (i : Int), .int .i64 (g : Int)]] W fun e W' => ∃ v, e = .returned (.tuple #[v, .nilIface]) /\ Prts W.heap.size W' v (s.at i) /\ ∃ G', Up (· = 1) G G' W W' /\ Fin B G' W' /\ Ps B G' W' sb { s with r := s.r.freed i } t /\ ∀ k, v.ownBlock = some k -> G' k = 0 := by
 classical
 obtain ⟨c, h1, h2, h3⟩ := h
 refine (So.zgx h1 ha).mono ?_
 rintro e W' ⟨v, rfl, q1, c', k1, k2, k3, k4⟩
 have hs : St (fun k => G k = 1) W W' := zbi k3.st fun k _ q => h3 k q
 refine ⟨v, rfl, q1, zkb G W.heap.size 1 fun k => c'.f k ≠ (0, 0, 0), zrk (C := (· = 1)) rfl hs, zno hF h1.big hs.size fun k hk => (k1.lt k hk).2, ⟨c', k1, by omega, zro fun k hk => ?_⟩, fun k hk => ?_⟩
 ·by_cases e : k < W.heap.size
  ·rcases k3.new k hk with q | q
   ·exact .inl ⟨e, h3 k q⟩
   omega
  exact .inr ⟨by omega, hk⟩
 have := (q1.lt _ hk).1
 unfold zkb
 rw [if_neg (by omega), if_neg (by simpa using k4 k hk)]
theorem zkd (h : Ps B G W sb s t) (hE : Env8 W Ad) (ha : al s i g) (p q : Prt) (hf : fitP s.ws p = true) (hq : q ∈ s.at i) (hqc : q.c = p.c) :
  Calls Tryz.prog 142 #[.pointer (some ⟨sb, 0, none⟩), .agg #[.int .i64 (i : Int), .int .i64 (g : Int)], .agg #[.int .i64 p.c, .int .i64 p.v0, .int .i64 p.v1, .int .i64 p.v2, .int .i64 p.v3, .int .i64 p.t]] W fun e W' => ∃ r, e = .returned r /\ Er Ad W' r 9 /\ Below W.heap.size W W' := by
 obtain ⟨c, h1, h2, h3⟩ := h
 obtain ⟨n, j, m, own, y, A⟩ := h1.stands ha (by simp)
 have hr := Rs.zeq hf
 have h16 := h1.okw.1
 refine So.zfa h1 hE ha A p hf (cc := p.c.toNat) (by omega) (by omega) ?_
 rw [A.msk]
 exact (So.zcx (So.zex A.ok.1) _).2 ⟨q, hq, by omega⟩
theorem z3c (h : Ps B G W sb s t) (hF : Fin B G W) (hE : Env8 W Ad) (ha : al s i g) (p : Prt) (hf : fitP s.ws p = true) (ht : I64 p.t) (hno : ∀ q ∈ s.at i, q.c ≠ p.c) :
  Calls Tryz.prog 142 #[.pointer (some ⟨sb, 0, none⟩), .agg #[.int .i64 (i : Int), .int .i64 (g : Int)], .agg #[.int .i64 p.c, .int .i64 p.v0, .int .i64 p.v1, .int .i64 p.v2, .int .i64 p.v3, .int .i64 p.t]] W fun e W' => e = .returned .nilIface /\ Go1 B G W W' sb (entered s i (insP (s.at i) p)) t := by
 obtain ⟨c, h1, h2, h3⟩ := h
 obtain ⟨n, j, m, own, y, A⟩ := h1.stands ha (by simp)
 have hr := Rs.zeq hf
 have h16 := h1.okw.1
 refine (So.zju Ad h1 hE ha A p hf ht (cc := p.c.toNat) (by omega) (by omega) ?_).mono ?_
 ·refine Bool.eq_false_iff.2 fun q => ?_
  rw [A.msk] at q
  obtain ⟨z, hz, ez⟩ := (So.zcx (So.zex A.ok.1) _).1 q
  exact hno z hz (by omega)
 rintro e w' ⟨rfl, c', k1, k2, k3⟩
 exact ⟨rfl, Ps.go hF h1 h3 k1 (by omega) k3⟩
theorem ycb (h : Ps B G W sb s t) (ha : al s i g) (comp : Int) (q : Prt) (hq : pick (s.at i) comp = some q) :
  Calls Tryz.prog 79 #[.pointer (some ⟨sb, 0, none⟩), .agg #[.int .i64 (i : Int), .int .i64 (g : Int)], .int .i64 comp] W fun e W' => e = .returned (.tuple #[q.val, .nilIface]) /\ Below W.heap.size W W' := by
 obtain ⟨c, h1, h2, h3⟩ := h
 obtain ⟨hqm, rfl⟩ := zgg hq
 exact So.zsm h1 ha q hqm
theorem zmg (h : Ps B G W sb s t) (hE : Env8 W Ad) (ha : al s i g) (comp : Int) (hc : I64 comp) (hno : pick (s.at i) comp = none) :
  Calls Tryz.prog 144 #[.pointer (some ⟨sb, 0, none⟩), .agg #[.int .i64 (i : Int), .int .i64 (g : Int)], .int .i64 comp] W fun e W' => ∃ r, e = .returned (.tuple #[Prt.zero.val, r]) /\ Er Ad W' r 7 10 /\ Below W.heap.size W W' := by
 obtain ⟨c, h1, h2, h3⟩ := h
 exact So.zuf (k := 7) (by omega) fun W' hb => So.z3f (h1.later hb) (hE.later hb) ha comp hc (zjy hno)
theorem z3h (h : Ps B G W sb s t) (hF : Fin B G W) (ha : al s i g) (comp : Int) (q : Prt) (hq : pick (s.at i) comp = some q) :
  Calls Tryz.prog 144 #[.pointer (some ⟨sb, 0, none⟩), .agg #[.int .i64 (i : Int), .int .i64 (g : Int)], .int .i64 comp] W fun e W' => e = .returned (.tuple #[q.val, .nilIface]) /\ Go1 B G W W' sb (entered s i (remP (s.at i) comp)) t := by
 obtain ⟨c, h1, h2, h3⟩ := h
 obtain ⟨hqm, rfl⟩ := zgg hq
 refine (So.zjf h1 ha q hqm).mono ?_
 rintro e w' ⟨rfl, c', k1, k2, k3⟩
 exact ⟨rfl, Ps.go hF h1 h3 k1 (by omega) k3⟩
end
end Go.Proofs.YthadfdbkkmmgoaaGreatDoor.Wo
namespace Go.Proofs.YthadfdbkkmmgoaaGreatDoor.Wo
open Go.RowKit Go.Shelf Go.Maps
open Rs (SD Prt)
open Go.Proofs.YthadfdbkkmmgoaaGreatDoor.So (al zso ziv zgv zfv zgl entered zcq)
open Bd (Prs okP who ins del)
abbrev Bgs := List (Int × List Prt)
def zat (s : SD) (l : Prs) : Bgs := l.map fun x => (x.1, s.at x.2.1.toNat)
def look (L : Bgs) (id : Int) : Option (List Prt) := (L.find? fun x => x.1 == id).map (·.2)
def setB (L : Bgs) (id : Int) (r : List Prt) : Bgs := L.map fun x => if x.1 = id then (id, r) else x
def delB (id : Int) (L : Bgs) : Bgs := L.filter fun x => !(x.1 == id)
def insB (p : Int × List Prt) : Bgs -> Bgs
 | [] => [p]
 | x :: L => if p.1 < x.1 then p :: x :: L else x :: insB p L
structure zcw (s : SD) (l : Prs) : Prop where
 al : ∀ x ∈ l, ∃ i g : Nat, x.2 = ((i : Int), (g : Int)) /\ So.al s i g
 cnt : s.r.count = l.length
 one : l.Pairwise (fun x y => x.2 ≠ y.2)
 ok : s.r.ok
 n2 : s.p.length = 64
 n64 : s.r.gens.length <= 64
theorem zrj {α β : Type} {f : α -> β} : ∀ {l : List α}, l.Pairwise (fun x y => f x ≠ f y) -> ∀ {x y : α}, x ∈ l -> y ∈ l -> f x = f y -> x = y
 | [], _, _, _, hx, _, _ => by simp at hx
 | a :: l, h, x, y, hx, hy, e => by
  rw [List.pairwise_cons] at h
  rcases List.mem_cons.1 hx with e1 | hx' <;> rcases List.mem_cons.1 hy with e2 | hy'
  ·rw [e1, e2]
  ·exact absurd (e1 ▸ e) (h.1 y hy')
  ·exact absurd (e2 ▸ e.symm) (h.1 x hx')
  exact zrj h.2 hx' hy' e
section
variable {s s' : SD} {l : Prs} {n id : Int} {i g : Nat} {r : List Prt}
theorem zcw.at (h : zcw s l) (hp : okP n l) {e : Int × Int} (hw : who l id = some e) : ∃ i g : Nat, e = ((i : Int), (g : Int)) /\ So.al s i g /\ (id, e) ∈ l := by
 have hm := (hp.who id e).1 hw
 obtain ⟨i, g, h1, h2⟩ := h.al _ hm
 exact ⟨i, g, h1, h2, hm⟩
theorem zcw.idx (h : zcw s l) {x y : Int × Int × Int} (hx : x ∈ l) (hy : y ∈ l) (e : x.2.1 = y.2.1) : x = y := by
 obtain ⟨i, g, h1, h2⟩ := h.al x hx
 obtain ⟨j, k, h3, h4⟩ := h.al y hy
 have e1 : i = j := by rw [h1, h3] at e; simp only at e; omega
 subst e1
 have e2 := zso h2 h4
 subst e2
 exact zrj (f := fun x : Int × Int × Int => x.2) h.one hx hy (h1.trans h3.symm)
theorem zfx (s : SD) (l : Prs) (id : Int) : look (zat s l) id = (who l id).map fun e => s.at e.1.toNat := by
 unfold look zat who
 induction l with
 | nil => rfl
 | cons x l ih =>
  rw [List.map_cons, List.find?_cons, List.find?_cons]
  cases e : x.1 == id with
  | true => rfl
  | false => exact ih
theorem zcw.lt (h : zcw s l) {i g : Nat} (ha : So.al s i g) : i < 64 := Nat.lt_of_lt_of_le (ziv ha) h.n64
theorem zur (h : zcw s l) (hp : okP n l) (hw : who l id = some ((i : Int), (g : Int))) (h1 : s'.at i = r) (h2 : ∀ k, k ≠ i -> s'.at k = s.at k) : zat s' l = setB (zat s l) id r := by
 unfold zat setB
 rw [List.map_map]
 refine List.map_congr_left fun x hx => ?_
 have hm := (hp.who id _).1 hw
 by_cases e : x.1 = id
 ·have hx2 : (id, x.2) ∈ l := by rw [<- e]; exact hx
  have := (hp.who id x.2).2 hx2
  rw [hw] at this
  have e2 : x.2 = ((i : Int), (g : Int)) := by simpa using this.symm
  simp only [Function.comp_apply, e, if_pos, e2, Int.toNat_natCast, h1]
 simp only [Function.comp_apply, e, if_neg, not_false_eq_true]
 obtain ⟨j, k, q1, q2⟩ := h.al x hx
 have : j ≠ i := fun q => by
  subst q
  have := h.idx hx hm (by rw [q1])
  rw [this] at e
  exact e rfl
 rw [q1]
 simp only [Int.toNat_natCast]
 rw [h2 j this]
theorem zeo {k : Nat} (hk : k ≠ i) : (entered s i r).at k = s.at k := by
 unfold entered SD.at
 rw [List.getD_eq_getElem?_getD, List.getD_eq_getElem?_getD, List.getElem?_set_ne (fun e => hk e.symm)]
theorem zkc (h : zcw s l) (hp : okP n l) (hw : who l id = some ((i : Int), (g : Int))) (ha : So.al s i g) : zat (entered s i r) l = setB (zat s l) id r :=
 zur h hp hw (zcq r (by have := h.lt ha; have := h.n2; omega)) fun _ hk => zeo hk
theorem zcw.entered (h : zcw s l) (i : Nat) (r : List Prt) : zcw (So.entered s i r) l := ⟨fun x hx => h.al x hx, h.cnt, h.one, h.ok, by unfold So.entered; simpa using h.n2, h.n64⟩
theorem zuk (s : SD) (l : Prs) (id : Int) (r : Ro.RS) : zat { s with r := r } (del id l) = delB id (zat s l) := by
 unfold zat del delB
 rw [List.filter_map]
 rfl
theorem ztj {p : Int × Int × Int} {l : Prs} (h2 : ∀ x ∈ l, s'.at x.2.1.toNat = s.at x.2.1.toNat) : zat s' (ins p l) = insB (p.1, s'.at p.2.1.toNat) (zat s l) := by
 induction l with
 | nil => rfl
 | cons x l ih =>
  have h3 := h2 x (List.mem_cons_self ..)
  have ih := ih fun y hy => h2 y (List.mem_cons_of_mem _ hy)
  unfold zat at *
  unfold ins
  rw [List.map_cons, insB]
  by_cases e : p.1 < x.1
  ·rw [if_pos e, if_pos e, List.map_cons, List.map_cons, h3]
   congr 2
   exact List.map_congr_left fun y hy => by rw [h2 y (List.mem_cons_of_mem _ hy)]
  rw [if_neg e, if_neg e, List.map_cons, ih, h3]
theorem zcw.del (h : zcw s l) (hp : okP n l) (hw : who l id = some ((i : Int), (g : Int))) (ha : So.al s i g) : zcw { s with r := s.r.freed i } (del id l) := by
 have hm := (hp.who id _).1 hw
 have hi : i ∉ s.r.free := ((zgv _ _ _).1 ha).1
 refine ⟨fun x hx => ?_, ?_, h.one.filter _, ⟨?_, ?_⟩, h.n2, h.n64⟩
 ·obtain ⟨h1, h2⟩ := Bd.zoy.1 hx
  obtain ⟨j, k, q1, q2⟩ := h.al x h1
  refine ⟨j, k, q1, (zgl ha j k).2 ⟨q2, fun q => ?_⟩⟩
  subst q
  exact h2 (by rw [h.idx h1 hm (by rw [q1])])
 ·have h1 := Bd.zqj hp hw
  have h2 := h.cnt
  have h3 := ziv ha
  show s.r.gens.length - (s.r.free ++ [i]).length = _
  unfold Ro.RS.count at h2
  rw [List.length_append]
  simp
  omega
 ·show (s.r.free ++ [i]).Nodup
  rw [List.nodup_append]
  exact ⟨h.ok.1, by simp, fun a hx b hb e => by simp only [List.mem_singleton] at hb; exact hi (hb ▸ e ▸ hx)⟩
 intro j hj
 change j ∈ s.r.free ++ [i] at hj
 rcases List.mem_append.1 hj with q | q
 ·exact h.ok.2 j q
 simp only [List.mem_singleton] at q; rw [q]; show i < s.r.gens.length; exact ziv ha
theorem zcw.fresh (h : zcw s l) {f : List Nat} (hf : s.r.free = f ++ [i]) {x : Int × Int × Int} (hx : x ∈ l) : x.2.1 ≠ (i : Int) := fun e => by
 obtain ⟨j, k, q1, q2⟩ := h.al x hx
 rw [q1] at e
 have e1 : j = i := by simp only at e; omega
 subst e1
 exact ((zgv _ _ _).1 q2).1 (by rw [hf]; simp)
theorem zcw.ins (h : zcw s l) {f : List Nat} (hf : s.r.free = f ++ [i]) {m : Int} (r : List Prt) : zcw (So.entered { s with r := s.r.took i } i r) (ins (m, (i : Int), ((s.r.gens.getD i 0 + 1 : Nat) : Int)) l) := by
 have hi : i < s.r.gens.length := h.ok.2 i (by rw [hf]; simp)
 refine ⟨fun x hx => ?_, ?_, Bd.zox h.one fun x hx e => h.fresh hf hx (by rw [e]), ⟨?_, ?_⟩, by unfold So.entered; simpa using h.n2, by show (s.r.gens.set _ _).length <= 64; simpa using h.n64⟩
 ·rcases Bd.zez.1 hx with rfl | hx
  ·exact ⟨i, _, rfl, (zfv h.ok hf _ _).2 (.inl ⟨rfl, rfl⟩)⟩
  obtain ⟨j, k, q1, q2⟩ := h.al x hx
  exact ⟨j, k, q1, (zfv h.ok hf _ _).2 (.inr q2)⟩
 ·have h2 := h.cnt
  rw [Bd.zmm]
  unfold Ro.RS.count at h2
  show (s.r.gens.set _ _).length - (s.r.free.dropLast).length = _
  rw [hf] at h2 ⊢
  simp at h2 ⊢
  have h3 : f.length + 1 <= s.r.gens.length := by
   have := h.ok
   have hnd := this.1
   have hl : s.r.free.length <= s.r.gens.length := by
    have q := List.Nodup.length_le_of_subset (l₂ := List.range s.r.gens.length) hnd fun x hx => List.mem_range.2 (this.2 x hx)
    simpa using q
   rw [hf] at hl
   simpa using hl
  omega
 ·show (s.r.free.dropLast).Nodup
  have := h.ok.1
  rw [hf] at this ⊢
  simp
  exact (List.nodup_append.1 this).1
 intro j hj
 change j ∈ s.r.free.dropLast at hj
 show j < (s.r.gens.set _ _).length
 rw [List.length_set]
 exact h.ok.2 j (List.dropLast_subset _ hj)
theorem zoo (h : zcw s l) {f : List Nat} (hf : s.r.free = f ++ [i]) {m g : Int} (r : List Prt) : zat (So.entered { s with r := s.r.took i } i r) (ins (m, (i : Int), g) l) = insB (m, r) (zat s l) := by
 have hi : i < s.p.length := by
  have := h.ok.2 i (by rw [hf]; simp)
  have := h.n64
  have := h.n2
  omega
 have e := ztj (s := s) (s' := So.entered { s with r := s.r.took i } i r) (p := (m, (i : Int), g)) (l := l) fun x hx => ?_
 ·rw [e]
  show insB (m, (So.entered { s with r := s.r.took i } i r).at (i : Int).toNat) _ = _
  rw [Int.toNat_natCast, zcq (s := { s with r := s.r.took i }) r hi]
 obtain ⟨j, k, q1, q2⟩ := h.al x hx
 have : j ≠ i := fun q => h.fresh hf hx (by rw [q1, q])
 rw [q1]
 simp only [Int.toNat_natCast]
 rw [zeo this]
 rfl
theorem zcw.full (h : zcw s l) : s.r.free = [] ↔ s.r.gens.length <= l.length := by
 have h2 := h.cnt
 unfold Ro.RS.count at h2
 have hl : s.r.free.length <= s.r.gens.length := by
  have q := List.Nodup.length_le_of_subset (l₂ := List.range s.r.gens.length) h.ok.1 fun x hx => List.mem_range.2 (h.ok.2 x hx)
  simpa using q
 constructor
 ·intro e
  rw [e] at h2
  simp at h2
  omega
 intro e
 exact List.length_eq_zero_iff.1 (by omega)
end
end Go.Proofs.YthadfdbkkmmgoaaGreatDoor.Wo
namespace Go.Proofs.YthadfdbkkmmgoaaGreatDoor.Sc
open Go.RowKit Go.Shelf
def bitI (n : Int) : Int := if 0 <= n /\ n < 32 then 2 ^ n.toNat % 4294967296 else 0
theorem zqs (n : Int) (w : World) (h : n < 0) : Calls Tryz.prog 138 #[.int .i64 n] w fun e w' => e = .returned (.int .u32 0) /\ w' = w := by
 go_enter Tryz.func138, Tryz.ntmps138
 go_wp2
 go_ret
 exact ⟨rfl, rfl⟩
theorem zme (n : Int) (w : World) (h : 32 <= n) : Calls Tryz.prog 138 #[.int .i64 n] w fun e w' => e = .returned (.int .u32 0) /\ w' = w := by
 have h0 : ¬ n < 0 := by omega
 go_enter Tryz.func138, Tryz.ntmps138
 go_wp2
 go_ret
 exact ⟨rfl, rfl⟩
theorem zwz (n : Nat) (w : World) (h : n < 32) : Calls Tryz.prog 138 #[.int .i64 (n : Int)] w fun e w' => e = .returned (.int .u32 (2 ^ n % 4294967296)) /\ w' = w := by
 have h0 : ¬ (n : Int) < 0 := by omega
 have h1 : ¬ (32 : Int) <= n := by omega
 go_enter Tryz.func138, Tryz.ntmps138
 go_wp2
 go_ret
 exact ⟨rfl, rfl⟩
theorem zja (n : Int) (w : World) : Calls Tryz.prog 138 #[.int .i64 n] w fun e w' => e = .returned (.int .u32 (bitI n)) /\ w' = w := by
 by_cases h0 : n < 0
 ·rw [show bitI n = 0 from if_neg (by omega)]; exact zqs n w h0
 by_cases h1 : 32 <= n
 ·rw [show bitI n = 0 from if_neg (by omega)]; exact zme n w h1
 obtain ⟨k, rfl⟩ := Int.eq_ofNat_of_zero_le (show 0 <= n by omega)
 rw [show bitI (k : Int) = 2 ^ k % 4294967296 from (if_pos (by omega)).trans (by rw [Int.toNat_natCast])]
 exact zwz k w (by omega)
def orI (m n : Int) : Int := bits .or .u32 m (bitI n)
theorem zff (m n : Int) (w : World) : Calls Tryz.prog 133 #[.int .u32 m, .int .i64 n] w fun e w' => e = .returned (.int .u32 (bits .or .u32 m (bitI n))) /\ w' = w := by
 have BC := hid (zja n w)
 go_enter Tryz.func133, Tryz.ntmps133
 go_wp2_with fail
 refine BC.out.mono ?_
 rintro e w1 ⟨rfl, rfl⟩
 go_wp2_with fail
 go_ret
 exact ⟨rfl, rfl⟩
theorem zsr (m n : Int) (w : World) : Calls Tryz.prog 94 #[.int .u32 m, .int .i64 n] w fun e w' => e = .returned (.bool (bits .and .u32 m (bitI n) != 0)) /\ w' = w := by
 have BC := hid (zja n w)
 go_enter Tryz.func94, Tryz.ntmps94
 go_wp2_with fail
 refine BC.out.mono ?_
 rintro e w1 ⟨rfl, rfl⟩
 go_wp2_with fail
 go_ret
 exact ⟨rfl, rfl⟩
theorem zht (m a : Int) (w : World) : Calls Tryz.prog 93 #[.int .u32 m, .int .u32 a] w fun e w' => e = .returned (.bool (bits .andNot .u32 m a == 0)) /\ w' = w := by
 go_enter Tryz.func93, Tryz.ntmps93
 go_wp2
 go_ret
 exact ⟨rfl, rfl⟩
def zdj (cs : List Cmp) (b : Bool) : Nat -> Int
 | 0 => 0
 | k + 1 => match cs[k]? with | some c => if c.rb == b then orI (zdj cs b k) (k : Int) else zdj cs b k | none => zdj cs b k
theorem zhf {cs : List Cmp} {k : Nat} {c : Cmp} (b : Bool) (h : cs[k]? = some c) : zdj cs b (k + 1) = if c.rb == b then orI (zdj cs b k) (k : Int) else zdj cs b k := by simp only [zdj, h]
set_option maxRecDepth 100000 in
theorem zsy (W : World) (va vb : Value) (cs : List Cmp) (hC : zah W va cs) (hl : cs.length <= 1000) (bb : Bool) :
  Calls Tryz.prog 86 #[.agg #[va, vb], .bool bb] W fun e W' => e = .returned (.int .u32 (zdj cs bb (min cs.length 32))) /\ Below W.heap.size W W' := by
 have HC := hid hC
 obtain ⟨a, c, rfl, hcap, hlay⟩ := hC
 have HL := hid hlay
 obtain ⟨n, hn⟩ : ∃ n, n = min cs.length 32 := ⟨_, rfl⟩
 have hmin : min (cs.length : Int) 32 = (n : Int) := by rw [hn]; omega
 have hnc : (n : Int) <= (c : Int) := by omega
 have hn0 : (0 : Int) <= (n : Int) := by omega
 have hnl : n <= cs.length := by omega
 have hn32 : (n : Int) <= 32 := by omega
 have BA : Hid (Below W.heap.size W (W.alloc (.cells #[.slice a cs.length c, vb] 25))) := (Below.refl _ _).alloc (Nat.le_refl _) _
 rw [<- hn]
 clear hlay hn
 go_enter Tryz.func86, Tryz.ntmps86
 go_wp2_with fail
 go_loopw [5, 6, 7, 16] (fun m _ _ i wr => ∃ k : Nat, k <= n /\ i = .int .i64 (k : Int) /\ Hid (Below W.heap.size W wr) /\ ∃ z : Int, Hid (z = zdj cs bb k) /\ m = .int .u32 z) (fun _ _ _ i _ => n - (intOf i).toNat)
 case atStart => exact ⟨0, Nat.zero_le _, rfl, BA.out, 0, rfl, rfl⟩
 case round =>
  obtain ⟨k, hk, rfl, HB, z, HZ, rfl⟩ := hrel
  by_cases hlt : k < n
  ·have hki : (k : Int) < (n : Int) := by omega
   obtain ⟨x, hx⟩ := zal cs k (by omega)
   obtain ⟨b, o, rfl, hc⟩ : ∃ b o, a = some ⟨b, o, none⟩ /\ ∀ (j : Nat) (x : Cmp), cs[j]? = some x -> W.cell? ⟨b, o + j * 7, none⟩ = some (.string x.s) /\ W.cell? ⟨b, o + j * 7 + 1, none⟩ = some (.int .i64 x.wd) /\ W.cell? ⟨b, o + j * 7 + 2, none⟩ = some (.bool x.rb) /\ W.cell? ⟨b, o + j * 7 + 3, none⟩ = some (.int .i64 x.d0) /\ W.cell? ⟨b, o + j * 7 + 4, none⟩ = some (.int .i64 x.d1) /\ W.cell? ⟨b, o + j * 7 + 5, none⟩ = some (.int .i64 x.d2) /\ W.cell? ⟨b, o + j * 7 + 6, none⟩ = some (.int .i64 x.d3) := by
    rcases HL.out with h | h
    ·rw [h] at hx; simp at hx
    exact h
   obtain ⟨c0, c1, c2, c3, c4, c5, c6⟩ := hc k x hx
   have S := fun {p : Addr} {u : Value} (h : W.cell? p = some u) => Below.seen HB.out (Nat.le_refl _) h
   have c0 := S c0
   have c1 := S c1
   have c2 := S c2
   have c3 := S c3
   have c4 := S c4
   have c5 := S c5
   have c6 := S c6
   have KN := hid (zhf bb hx)
   have BX := hid (HB.out.alloc HB.out.size (.cells #[.string x.s, .int .i64 x.wd, .bool x.rb, .int .i64 x.d0, .int .i64 x.d1, .int .i64 x.d2, .int .i64 x.d3] 96))
   have WC := hid (fun W' => zff z (k : Int) W')
   clear S hc hx
   by_cases hq : x.rb = bb
   ·have q : (x.rb == bb) = true := by simp [hq]
    have R : Hid (bits .or .u32 z (bitI (k : Int)) = zdj cs bb (k + 1)) := by show _ = _; rw [KN.out, if_pos q, <- HZ.out]; rfl
    clear hq
    go_wp2_with fail
    refine (WC.out _).mono ?_
    rintro e w1 ⟨rfl, rfl⟩
    clear WC
    go_wp2_with fail
    go_roundw
    case rel => exact ⟨k + 1, by omega, by go_num, BX.out, _, R.out, rfl⟩
    case measure => simp [intOf]; omega
   have q : (x.rb == bb) = false := by simp [hq]
   have R : Hid (z = zdj cs bb (k + 1)) := by show _ = _; rw [KN.out, if_neg (by rw [q]; decide), <- HZ.out]
   clear hq WC
   go_wp2_with fail
   go_roundw
   case rel => exact ⟨k + 1, by omega, by go_num, BX.out, _, R.out, rfl⟩
   case measure => simp [intOf]; omega
  have hki : ¬ ((k : Int) < (n : Int)) := by omega
  have R : Hid (z = zdj cs bb n) := by show _ = _; rw [HZ.out, show k = n by omega]
  go_wp2_with fail
  go_ret
  exact ⟨by rw [R.out]; rfl, HB.out⟩
theorem zhu (W : World) (va vb : Value) (hvb : ∃ a l c, vb = .slice a l c) (cs : List Cmp) (hC : zah W va cs) (hl : cs.length <= 1000) :
  Calls Tryz.prog 40 #[.agg #[va, vb]] W fun e W' => e = .returned (.int .u32 (zdj cs true (min cs.length 32))) /\ Below W.heap.size W W' := by
 have BA : Hid (Below W.heap.size W (W.alloc (.cells #[va, vb] 25))) := (Below.refl _ _).alloc (Nat.le_refl _) _
 have KC := hid (zsy (W.alloc (.cells #[va, vb] 25)) va vb cs (hC.later BA.out) hl true)
 obtain ⟨a, c, rfl, -, -⟩ := hC
 obtain ⟨a', l', c', rfl⟩ := hvb
 go_enter Tryz.func40, Tryz.ntmps40
 go_wp2_with fail
 refine KC.out.mono ?_
 rintro e w1 ⟨rfl, hb1⟩
 have B1 := hid (BA.out.trans (hb1.mono BA.out.size))
 clear hb1 KC
 go_wp2_with fail
 go_ret
 exact ⟨rfl, B1.out⟩
theorem zyr (W : World) (va vb : Value) (hvb : ∃ a l c, vb = .slice a l c) (cs : List Cmp) (hC : zah W va cs) (hl : cs.length <= 1000) :
  Calls Tryz.prog 41 #[.agg #[va, vb]] W fun e W' => e = .returned (.int .u32 (zdj cs false (min cs.length 32))) /\ Below W.heap.size W W' := by
 have BA : Hid (Below W.heap.size W (W.alloc (.cells #[va, vb] 25))) := (Below.refl _ _).alloc (Nat.le_refl _) _
 have KC := hid (zsy (W.alloc (.cells #[va, vb] 25)) va vb cs (hC.later BA.out) hl false)
 obtain ⟨a, c, rfl, -, -⟩ := hC
 obtain ⟨a', l', c', rfl⟩ := hvb
 go_enter Tryz.func41, Tryz.ntmps41
 go_wp2_with fail
 refine KC.out.mono ?_
 rintro e w1 ⟨rfl, hb1⟩
 have B1 := hid (BA.out.trans (hb1.mono BA.out.size))
 clear hb1 KC
 go_wp2_with fail
 go_ret
 exact ⟨rfl, B1.out⟩
end Go.Proofs.YthadfdbkkmmgoaaGreatDoor.Sc
