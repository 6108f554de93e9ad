/- A part of the proof. -/
import Derived.Deep.DrawnRows
import Derived.Deep.Onto
import Derived.Test.YthadfdbkkmmgoaaGreatDoorMag
set_option maxHeartbeats 4000000
namespace Go.Proofs.YthadfdbkkmmgoaaGreatDoor
namespace So
open Go.RowKit Go.Shelf Go.Maps
open At (St bAl zaa zab zac)
open Rs (Prt Prts)
def gone (a b : List Prt) (q : Prt) (k : Nat) : List Prt := a ++ b.take k ++ (q :: b).drop k
theorem z7z (a b : List Prt) (q p : Prt) (k : Nat) (hp : b[k]? = some p) : (gone a b q k)[a.length + 1 + k]? = some p := by
 have hk := (List.getElem?_eq_some_iff.1 hp).1
 unfold gone
 rw [List.getElem?_append_right (by simp; omega), List.getElem?_drop]
 simp
 rw [Nat.min_eq_left (by omega), show k + (a.length + 1 + k - (a.length + k)) = k + 1 by omega, List.getElem?_cons_succ]
 exact hp
theorem z0y (a b : List Prt) (q p : Prt) (k : Nat) (hp : b[k]? = some p) : (gone a b q k).set (a.length + k) p = gone a b q (k + 1) := by
 have hk := (List.getElem?_eq_some_iff.1 hp).1
 unfold gone
 rw [List.set_append_right _ _ (by simp; omega)]
 simp only [List.length_append, List.length_take, Nat.min_eq_left (Nat.le_of_lt hk), Nat.sub_self]
 rw [show (q :: b).drop k = ((q :: b)[k]'(by simp; omega)) :: (q :: b).drop (k + 1) from List.drop_eq_getElem_cons (by simp; omega), List.set_cons_zero, List.take_add_one, hp]
 simp
theorem z1m (a b : List Prt) (q : Prt) : ∃ x, gone a b q b.length = (a ++ b) ++ [x] := by
 refine ⟨((q :: b)[b.length]'(by simp)), ?_⟩
 unfold gone
 rw [List.take_of_length_le (Nat.le_refl _)]
 congr 1
 rw [List.drop_eq_getElem_cons (by simp)]
 simp
set_option maxRecDepth 100000 in
theorem zhp {N : Nat} {W : World} {g n cap : Nat} {a b : List Prt} {q : Prt} (h : Prts N W (.slice (some ⟨g, 0, none⟩) n cap) (a ++ q :: b)) (hn9 : n <= 1000) (xb : Nat) (comp : Int) (hx : W.cell? ⟨xb, 0, none⟩ = some (.int .i64 comp)) (hxg : ¬ xb = g) (ha : ∀ x ∈ a, x.c ≠ comp) (hq : q.c = comp) (hbn : ∀ x ∈ b, x.c ≠ comp) :
  Calls Tryz.prog 65 #[.slice (some ⟨g, 0, none⟩) n cap, .func (.func 163) #[] #[.pointer (some ⟨xb, 0, none⟩)]] W fun e W' => e = .returned (.slice (some ⟨g, 0, none⟩) (a ++ b).length cap) /\ Prts N W' (.slice (some ⟨g, 0, none⟩) (a ++ b).length cap) (a ++ b) /\ St (fun k => k = g) W W' := by
 obtain ⟨hn, hNg, cur, hcur, hcap, hcm, -, -⟩ := zcz h
 have hgW : g < W.heap.size := (Array.getElem?_eq_some_iff.1 hcur).1
 have hxW : xb < W.heap.size := by
  rcases Nat.lt_or_ge xb W.heap.size with q | q
  ·exact q
  simp [World.cell?, Array.getElem?_eq_none q] at hx
 rw [show (a ++ q :: b).length = a.length + 1 + b.length by simp; omega] at hn hcap
 rw [<- hn] at hcap
 have IX := hid (zvq h hn hn9 xb comp hx ha hq)
 have CL : Hid (∀ W', St (fun k => k = g) W W' -> ∀ (p : Prt) bb, (p.c == comp) = bb -> Calls Tryz.prog 163 #[.agg #[.int .i64 p.c, .int .i64 p.v0, .int .i64 p.v1, .int .i64 p.v2, .int .i64 p.v3, .int .i64 p.t], .pointer (some ⟨xb, 0, none⟩)] W' fun e W2 => e = .returned (.bool bb) /\ Below W'.heap.size W' W2) := fun W' hs p bb hp =>
  zsj W' p xb comp (zax hs hx hxg) bb hp
 have HB := hid hbn
 have G0 : Hid (gone a b q 0 = a ++ q :: b) := by show _ = _; simp [gone]
 have GA := hid (z7z a b q)
 have GN := hid (z0y a b q)
 have GE := hid (z1m a b q)
 have HL := hid (show (a ++ b).length = a.length + b.length by simp)
 have HH := hid h
 obtain ⟨A, hA⟩ : ∃ A, A = a.length := ⟨_, rfl⟩
 obtain ⟨Bn, hBn⟩ : ∃ Bn, Bn = b.length := ⟨_, rfl⟩
 rw [<- hA] at IX GA GN HL hn
 rw [<- hBn] at GE HL hn
 have hnI : (n : Int) <= 1000 := by omega
 have hAn : (A : Int) + 1 + (Bn : Int) = (n : Int) := by omega
 have hA1 : ¬ ((A : Int) = -1) := by omega
 rw [HL.out]
 have HHN := hid hn
 have HBN := hid hBn
 have hcapI : (n : Int) <= (cap : Int) := by omega
 clear h hx ha hq hbn hcur hcm hn9 hn hA hBn hNg
 go_enter Tryz.func65, Tryz.ntmps65
 go_wp2_with fail
 refine IX.out.mono ?_
 rintro e w1 ⟨rfl, hb1⟩
 have P1 := hid (HH.out.later hb1)
 have S1 := hid (St.of_below (S := fun k => k = g) hb1)
 clear hb1 IX
 go_wp2_with fail
 go_loopg [5, 6, 7] Bn (fun gh i j _ wr => ∃ k i0 j0 : Nat, k <= Bn /\ gh = Bn - k /\ i = .int .i64 (i0 : Int) /\ j = .int .i64 (j0 : Int) /\ Hid (i0 = A + k) /\ Hid (j0 = A + 1 + k) /\ Hid (Prts N wr (.slice (some ⟨g, 0, none⟩) n cap) (gone a b q k)) /\ Hid (St (fun k => k = g) W wr))
 case atStart => exact ⟨0, A, A + 1, Nat.zero_le _, rfl, rfl, by go_num, rfl, rfl, (by show Prts _ _ _ _; rw [G0.out]; exact P1.out), S1.out⟩
 case round =>
  obtain ⟨k, i0, j0, hk, rfl, rfl, rfl, HI, HJ, HP, HS⟩ := hrel
  by_cases hlt : k < Bn
  ·have hji : (j0 : Int) < (n : Int) := by have := HJ.out; omega
   have hii : (i0 : Int) < (n : Int) := by have := HI.out; omega
   obtain ⟨p, hp⟩ := zal b k (by rw [<- HBN.out]; exact hlt)
   have hp1 : (gone a b q k)[j0]? = some p := by rw [HJ.out]; exact GA.out p k hp
   obtain ⟨c0, c1, c2, c3, c4, c5⟩ := zee HP.out hp1
   have hne : (p.c == comp) = false := by simp [HB.out p (List.mem_of_getElem? hp)]
   obtain ⟨w2, hw2⟩ : ∃ w2, w2 = wr.alloc (.cells #[.int .i64 p.c, .int .i64 p.v0, .int .i64 p.v1, .int .i64 p.v2, .int .i64 p.v3, .int .i64 p.t] 89) := ⟨_, rfl⟩
   have b2 : Below wr.heap.size wr w2 := by rw [hw2]; exact bAl _ _
   have r2 : w2.heap[wr.heap.size]? = some (.cells p.arr 89 (0, 0)) := by rw [hw2]; exact heap_alloc_new wr _
   have s2 := HS.out.trans (St.of_below (S := fun _ => False) b2) fun _ _ q => q.elim
   have CC := hid (CL.out w2 s2 p _ hne)
   have P2 := hid (HP.out.later b2)
   have S2 := hid s2
   have R2 := hid r2
   have HW2 := hid hw2
   have y0 : w2.cell? ⟨wr.heap.size, 0, none⟩ = some (.int .i64 p.c) := zaa r2 rfl
   have y1 : w2.cell? ⟨wr.heap.size, 1, none⟩ = some (.int .i64 p.v0) := zaa r2 rfl
   have y2 : w2.cell? ⟨wr.heap.size, 2, none⟩ = some (.int .i64 p.v1) := zaa r2 rfl
   have y3 : w2.cell? ⟨wr.heap.size, 3, none⟩ = some (.int .i64 p.v2) := zaa r2 rfl
   have y4 : w2.cell? ⟨wr.heap.size, 4, none⟩ = some (.int .i64 p.v3) := zaa r2 rfl
   have y5 : w2.cell? ⟨wr.heap.size, 5, none⟩ = some (.int .i64 p.t) := zaa r2 rfl
   have GK := hid (GN.out p k hp)
   clear hp hp1 hne hw2 b2 r2 s2 HP
   go_upto_region 8 with fail
   rw [<- HW2.out]
   go_wp2_with fail
   refine CC.out.mono ?_
   rintro e w3 ⟨rfl, hb3⟩
   have P3 := hid (P2.out.later hb3)
   have S3 := hid (S2.out.trans (St.of_below (S := fun _ => False) hb3) fun _ _ q => q.elim)
   have r3 := zab hb3 (Nat.le_refl _) R2.out
   have z0 : w3.cell? ⟨wr.heap.size, 0, none⟩ = some (.int .i64 p.c) := zaa r3 rfl
   have z1 : w3.cell? ⟨wr.heap.size, 1, none⟩ = some (.int .i64 p.v0) := zaa r3 rfl
   have z2 : w3.cell? ⟨wr.heap.size, 2, none⟩ = some (.int .i64 p.v1) := zaa r3 rfl
   have z3 : w3.cell? ⟨wr.heap.size, 3, none⟩ = some (.int .i64 p.v2) := zaa r3 rfl
   have z4 : w3.cell? ⟨wr.heap.size, 4, none⟩ = some (.int .i64 p.v3) := zaa r3 rfl
   have z5 : w3.cell? ⟨wr.heap.size, 5, none⟩ = some (.int .i64 p.t) := zaa r3 rfl
   obtain ⟨en, -, cu3, hc3, -, -, -, -⟩ := zcz P3.out
   obtain ⟨x, hx⟩ := zal (gone a b q k) i0 (by rw [<- en]; omega)
   obtain ⟨d0, d1, d2, d3, d4, d5⟩ := zee P3.out hx
   have f0 := zac hc3 (i0 * 6)
   have f1 := zac hc3 (i0 * 6 + 1)
   have f2 := zac hc3 (i0 * 6 + 2)
   have f3 := zac hc3 (i0 * 6 + 3)
   have f4 := zac hc3 (i0 * 6 + 4)
   have f5 := zac hc3 (i0 * 6 + 5)
   have P4 := hid (zlp P3.out i0 p)
   have S4 := hid (S3.out.trans (zqm w3 g (i0 * 6) p) fun _ _ q => q)
   unfold sixo at P4 S4
   clear hb3 CC r3 hx en hc3 y0 y1 y2 y3 y4 y5 c0 c1 c2 c3 c4 c5
   go_wp2_with fail
   go_roundg (Bn - (k + 1))
   case measure => omega
   case rel => exact ⟨k + 1, i0 + 1, j0 + 1, by omega, rfl, by go_num, by go_num, (by have := HI.out; show _ = _; omega), (by have := HJ.out; show _ = _; omega), (by show Prts _ _ _ _; rw [<- GK.out, <- HI.out]; exact P4.out), S4.out⟩
  obtain rfl : k = Bn := by omega
  have hji : ¬ ((j0 : Int) < (n : Int)) := by have := HJ.out; omega
  have hin : (i0 : Int) <= (n : Int) := by have := HI.out; omega
  have hn1 : n - i0 = 1 := by have := HI.out; omega
  have hci : ¬ (cap = i0) := by omega
  obtain ⟨x, hx⟩ := GE.out
  have PX := HP.out
  rw [hx] at PX
  obtain ⟨w5, hcl, P5, S5⟩ := zuj PX (i0 * 6) (cap - i0) (by rw [HL.out, HI.out])
  have C5 := hid hcl
  have P6 := hid P5
  have S6 := hid (HS.out.trans S5 fun _ _ q => q)
  rw [HL.out] at P6
  have hi9 : (i0 : Int) <= 1000 := by omega
  clear PX hx P5 S5 HP HS
  go_wp2_with fail
  go_ret
  exact ⟨by show Ending.returned (.slice (some ⟨g, 0, none⟩) i0 cap) = _; rw [HI.out], P6.out, S6.out⟩
end So
namespace So
open Go.RowKit Go.Shelf Go.Maps
open Co (Pt lies zca zcs put6)
open At (St bAl zaa zab)
open Rs (Prt SD Prts remP)
def yw (W : World) (i g comp : Int) : World := ((W.alloc (.cells #[.int .i64 i, .int .i64 g] 144)).alloc (.cells #[.int .i64 comp] 3)).alloc (.cells #[.int .i64 0, .int .i64 0, .int .i64 0, .int .i64 0, .int .i64 0, .int .i64 0] 89)
theorem zrh (W : World) (i g comp : Int) : Below W.heap.size W (yw W i g comp) /\ (yw W i g comp).heap[W.heap.size]? = some (.cells #[.int .i64 i, .int .i64 g] 144 (0, 0)) /\ (yw W i g comp).heap[W.heap.size + 1]? = some (.cells #[.int .i64 comp] 3 (0, 0)) /\ (yw W i g comp).heap[W.heap.size + 2]? = some (.cells (Pt.zero.arr 0) 89 (0, 0)) /\ (yw W i g comp).heap.size = W.heap.size + 3 := by
 obtain ⟨a1, a2, a3⟩ := zpj (n := 0) (Below.refl W.heap.size W) rfl #[.int .i64 i, .int .i64 g] 144
 obtain ⟨b1, b2, b3⟩ := zpj a1 a2 #[.int .i64 comp] 3
 obtain ⟨e1, e2, e3⟩ := zpj b1 b2 #[.int .i64 0, .int .i64 0, .int .i64 0, .int .i64 0, .int .i64 0, .int .i64 0] 89
 have K : ∀ {w : World} {k : Nat} {o : Obj} (q : Obj), w.heap[k]? = some o -> (w.alloc q).heap[k]? = some o := fun q h => zab (bAl _ _) (Nat.le_refl _) h
 exact ⟨e1, K _ (K _ a3), K _ b3, e3, e2⟩
def Kp (W w3 w : World) : Prop := w3.heap.size <= w.heap.size /\ ∀ k o, W.heap.size <= k -> w3.heap[k]? = some o -> w.heap[k]? = some o
theorem Kp.later {W w3 w w' : World} (h : Kp W w3 w) (hb : Below w.heap.size w w') : Kp W w3 w' := ⟨Nat.le_trans h.1 hb.size, fun k o hk ho => zab hb (Nat.le_refl _) (h.2 k o hk ho)⟩
theorem Kp.st {W w3 w w' : World} (h : Kp W w3 w) {S : Nat -> Prop} (hs : St S w w') (hS : ∀ k, W.heap.size <= k -> k < w3.heap.size -> ¬ S k) : Kp W w3 w' := ⟨Nat.le_trans h.1 hs.size, fun k o hk ho => hs.at (h.2 k o hk ho) (hS k hk (Array.getElem?_eq_some_iff.1 ho).1)⟩
theorem zxk {N : Nat} {W : World} {v : Value} {l : List Prt} (h : Prts N W v l) (hl : l ≠ []) : ∃ g n cap, v = .slice (some ⟨g, 0, none⟩) n cap /\ n = l.length := by
 obtain ⟨-, ⟨-, h0⟩ | ⟨g, cap, cur, e, -⟩⟩ := (h : World.ownsRow _ _ _ _ _ _ _)
 ·exact absurd (List.length_eq_zero_iff.1 h0) hl
 exact ⟨g, _, cap, e, rfl⟩
theorem zyu {l : List Prt} (h : Apart l) {q : Prt} (hq : q ∈ l) : ∃ a b, l = a ++ q :: b /\ (∀ x ∈ a, x.c ≠ q.c) /\ (∀ x ∈ b, x.c ≠ q.c) /\ remP l q.c = a ++ b := by
 obtain ⟨a, b, rfl⟩ := List.append_of_mem hq
 have h' := List.pairwise_append.1 h
 have ha : ∀ x ∈ a, x.c ≠ q.c := fun x hx => h'.2.2 x hx q (by simp)
 have hb : ∀ x ∈ b, x.c ≠ q.c := fun x hx e => (List.pairwise_cons.1 h'.2.1).1 x hx e.symm
 refine ⟨a, b, rfl, ha, hb, ?_⟩
 unfold remP
 rw [List.filter_append, List.filter_cons]
 have ea : a.filter (fun x => !(x.c == q.c)) = a := List.filter_eq_self.2 fun x hx => by simp [ha x hx]
 have eb : b.filter (fun x => !(x.c == q.c)) = b := List.filter_eq_self.2 fun x hx => by simp [hb x hx]
 rw [ea, eb]
 simp
def Erd (W : World) (i g : Nat) (W' : World) : Prop := W'.cell? ⟨W.heap.size, 0, none⟩ = some (.int .i64 (i : Int)) /\ W'.cell? ⟨W.heap.size, 1, none⟩ = some (.int .i64 (g : Int))
set_option maxRecDepth 100000 in
theorem zwt {B : Nat} {W w3 : World} {sb : Nat} {c : CV} {s : SD} {i g : Nat} {q : Prt} (h : Sto none B W sb c s) (ha : al s i g) (hq : q ∈ s.at i) (hb3 : Below W.heap.size W w3) (h1 : w3.heap[W.heap.size]? = some (.cells #[.int .i64 (i : Int), .int .i64 (g : Int)] 144 (0, 0))) (h2 : w3.heap[W.heap.size + 1]? = some (.cells #[.int .i64 q.c] 3 (0, 0))) (hz : W.heap.size + 2 < w3.heap.size) (W' : World) (hb : Below w3.heap.size w3 W') :
  Calls Tryz.prog 154 #[.pointer (some ⟨sb, 0, none⟩), .agg #[.int .i64 (i : Int), .int .i64 (g : Int)]] W' fun e W2 => ∃ v, e = .returned v /\ Hid (∀ w, Below W2.heap.size W2 w -> Erd W i g w) ∧
   Hid (∀ w, Below W2.heap.size W2 w -> Calls Tryz.prog 65 #[v, .func (.func 163) #[] #[.pointer (some ⟨W.heap.size + 1, 0, none⟩)]] w fun e W3 => ∃ v', e = .returned v' /\ Hid (∀ w, Below W3.heap.size W3 w -> Erd W i g w) ∧
    Hid (∀ w, Below W3.heap.size W3 w -> Calls Tryz.prog 153 #[.pointer (some ⟨sb, 0, none⟩), .agg #[.int .i64 (i : Int), .int .i64 (g : Int)], v'] w fun e W4 => e = .returned (.tuple #[]) /\ Hid (Erd W i g W4) /\ Hid (Kp W w3 W4 /\ ∃ c', Sto none B W4 sb c' (entered s i (remP (s.at i) q.c)) /\ c'.t = c.t /\ c'.f (W.heap.size + 2) = (0, 0, 0) /\ Gw c c' W W4))) := by
 obtain ⟨n, j, m, own, y, A⟩ := h.stands ha (by simp)
 obtain ⟨a, b, hl, hla, hlb, hlr⟩ := zyu (zdz A.ok.1) hq
 have ER : ∀ w, Kp W w3 w -> Erd W i g w := fun w hk => ⟨zaa (hk.2 _ _ (Nat.le_refl _) h1) rfl, zaa (hk.2 _ _ (Nat.le_refl _) h1) rfl⟩
 refine (zrf h ha (hb3.trans (hb.mono hb3.size)) (N := w3.heap.size) hb.size hb3.size).mono ?_
 rintro e W2 ⟨v, c3, rfl, L, q2⟩
 have k2 : Kp W w3 W2 := (Kp.later (w := w3) ⟨Nat.le_refl _, fun _ _ _ o => o⟩ hb).st q2 fun k hk _ q => by omega
 refine ⟨v, rfl, fun w hw => ER w (k2.later hw), fun w hw => ?_⟩
 obtain ⟨gb, nn, cap, rfl, hnn⟩ := zxk L.parts (by rw [hl]; simp)
 have pw := L.parts.later hw
 have hgN := (pw.lt gb rfl).1
 have hlen : (s.at i).length <= 1000 := by have := Rs.zmo A.ok.1 h.okw.1; omega
 have pw' := pw
 rw [hl] at pw'
 refine (zhp pw' (by omega) (W.heap.size + 1) q.c (zaa ((k2.later hw).2 _ _ (by omega) h2) rfl) (by omega) hla rfl hlb).mono ?_
 rintro e W3 ⟨rfl, p3, s3⟩
 have k3 : Kp W w3 W3 := (k2.later hw).st s3 fun k _ hk q => by omega
 have L2 := L.later hw
 have z3 : c3.f gb = (0, 0, 0) := L.out gb rfl
 have t3 := L2.sto.keep s3 fun k hk e => hk (by rw [e]; exact z3)
 have g3 : Gw c c3 W W3 := ⟨L2.gw.st.trans s3 fun k hk e => by have := hb3.size; omega, L2.gw.new⟩
 refine ⟨_, rfl, fun w' hw' => ER w' (k3.later hw'), fun w' hw' => ?_⟩
 refine (ziy (t3.later hw') ha (zrd (p3.later hw') fun k hk e => e (by have e' : gb = k := (by simpa [Value.ownBlock] using hk); rw [<- e']; exact z3)) (List.Perm.refl _) (by rw [<- hlr]; exact z8a A.ok q.c)).mono ?_
 rintro e W4 ⟨rfl, c', e1, e2, e3⟩
 have k4 : Kp W w3 W4 := (k3.later hw').st e3.st fun k hk _ e => by have := L.low k e; omega
 refine ⟨rfl, ER W4 k4, k4, c', hlr ▸ e1, e2.trans L.t, Classical.byContradiction fun e => ?_, (g3.trans (Gw.of_below hw')).trans e3⟩
 rcases e3.new _ e with e | e
 ·have := L.low _ e; omega
 have := k3.1; have := hw'.size; omega
section
variable {Ad : Nat -> Addr} {W : World}
set_option maxRecDepth 100000 in
theorem zuf {rv : Value} {i g comp : Int} {k : Nat} (hk : k ≠ 0) (h : ∀ W', Below W.heap.size W W' -> Calls Tryz.prog 79 #[rv, .agg #[.int .i64 i, .int .i64 g], .int .i64 comp] W' fun e W2 => ∃ r, e = .returned (.tuple #[Pt.zero.val 0, r]) /\ Er Ad W2 r k /\ Below W'.heap.size W' W2) :
  Calls Tryz.prog 144 #[rv, .agg #[.int .i64 i, .int .i64 g], .int .i64 comp] W fun e W' => ∃ r, e = .returned (.tuple #[Pt.zero.val 0, r]) /\ Er Ad W' r k 10 /\ Below W.heap.size W W' := by
 obtain ⟨b1, r1, p1, q1, z1⟩ := zrh W i g comp
 obtain ⟨w1, hw1⟩ : ∃ w1, w1 = yw W i g comp := ⟨_, rfl⟩
 rw [<- hw1] at b1 r1 p1 z1 q1
 have d0 := zaa r1 (j := 0) rfl
 have d1 := zaa r1 (j := 1) rfl
 have y0 : w1.cell? ⟨W.heap.size + 1, 0, none⟩ = some (.int .i64 comp) := zaa p1 rfl
 have FD := hid (h w1 b1)
 have HW1 := hid hw1
 have B1 := hid b1
 have Q1 := hid q1
 have HK := hid hk
 unfold yw at HW1
 unfold Pt.val Pt.zero at FD
 clear hw1 b1 r1 h p1 q1 hk z1
 go_enter Tryz.func144, Tryz.ntmps144
 go_upto_region 1 with fail
 rw [<- HW1.out]
 go_wp2_with fail
 refine FD.out.mono ?_
 rintro e w2 ⟨r, rfl, hr, hb⟩
 obtain ⟨w3, hw3⟩ : ∃ w3, w3 = w2.alloc (.cells #[.int .i64 0, .int .i64 0, .int .i64 0, .int .i64 0, .int .i64 0, .int .i64 0] 89) := ⟨_, rfl⟩
 have b3 : Below w2.heap.size w2 w3 := by rw [hw3]; exact bAl _ _
 have B2 := hid ((B1.out.trans (hb.mono B1.out.size)).trans (b3.mono (B1.out.trans (hb.mono B1.out.size)).size))
 have Q2 := hid (zab b3 (Nat.le_refl _) (zab hb (Nat.le_refl _) Q1.out))
 have AC := hid fun str => z7u Ad str r k w3 (m := 10) (hr.later b3)
 have HW3 := hid hw3
 obtain ⟨t, q, rfl⟩ : ∃ t q, r = .iface t q := by
  rcases hr with ⟨e, -⟩ | ⟨-, t, q, e, -⟩
  ·exact absurd e HK.out
  exact ⟨t, q, e⟩
 clear hb hr FD y0 d0 d1 b3 hw3
 go_upto_region 2 with fail
 rw [<- HW3.out]
 go_wp2_with fail
 refine (AC.out _).mono ?_
 rintro e w4 ⟨v', rfl, q1, q2⟩
 have q3 := zab q2 (Nat.le_refl _) Q2.out
 have B3 := hid (B2.out.trans (q2.mono B2.out.size))
 have R3 := hid q1
 obtain ⟨x0, x1, x2, x3, x4, x5, f0, f1, f2, f3, f4, f5⟩ := lies q3
 have HZ : Hid (put6 w4 (W.heap.size + 2) 0 Pt.zero = w4) := Co.zje q3
 unfold put6 at HZ
 clear q1 q2 q3 AC
 go_wp2_with fail
 rw [show (((((w4.setCell ⟨W.heap.size + 2, 0, none⟩ (.int .i64 0)).setCell ⟨W.heap.size + 2, 1, none⟩ (.int .i64 0)).setCell ⟨W.heap.size + 2, 2, none⟩ (.int .i64 0)).setCell ⟨W.heap.size + 2, 3, none⟩ (.int .i64 0)).setCell ⟨W.heap.size + 2, 4, none⟩ (.int .i64 0)).setCell ⟨W.heap.size + 2, 5, none⟩ (.int .i64 0) = w4 from HZ.out]
 exact bodyPost_ret (v := .tuple #[Pt.zero.val 0, v']) (by simp [results, Tryz.results144, go_sem, x0, x1, x2, x3, x4, x5, Pt.zero, Pt.val]) rfl ⟨_, rfl, R3.out, B3.out⟩
set_option maxRecDepth 100000 in
theorem zjf {B : Nat} {sb : Nat} {c : CV} {s : SD} {i g : Nat} (h : Sto none B W sb c s) (ha : al s i g) (q : Prt) (hq : q ∈ s.at i) :
  Calls Tryz.prog 144 #[.pointer (some ⟨sb, 0, none⟩), .agg #[.int .i64 (i : Int), .int .i64 (g : Int)], .int .i64 q.c] W fun e W' => e = .returned (.tuple #[q.val, .nilIface]) /\ ∃ c', Sto none B W' sb c' (entered s i (remP (s.at i) q.c)) /\ c'.t = c.t /\ Gw c c' W W' := by
 obtain ⟨b1, r1, p1, q1, z1⟩ := zrh W (i : Int) (g : Int) q.c
 obtain ⟨w1, hw1⟩ : ∃ w1, w1 = yw W (i : Int) (g : Int) q.c := ⟨_, rfl⟩
 rw [<- hw1] at b1 r1 p1 z1 q1
 have d0 := zaa r1 (j := 0) rfl
 have d1 := zaa r1 (j := 1) rfl
 have y0 : w1.cell? ⟨W.heap.size + 1, 0, none⟩ = some (.int .i64 q.c) := zaa p1 rfl
 have FD := hid (zsm (h.later b1) ha q hq)
 have HW1 := hid hw1
 have B1 := hid b1
 have R1 := hid r1
 have P1 := hid p1
 have Q1 := hid q1
 have H := hid h
 have HA := hid ha
 have HQ := hid hq
 unfold yw at HW1
 unfold Prt.val at FD ⊢
 clear hw1 b1 r1 h ha hq p1 q1
 go_enter Tryz.func144, Tryz.ntmps144
 go_upto_region 1 with fail
 rw [<- HW1.out]
 go_wp2_with fail
 refine FD.out.mono ?_
 rintro e w2 ⟨rfl, hb⟩
 obtain ⟨w3, hw3⟩ : ∃ w3, w3 = w2.alloc (.cells #[.int .i64 q.c, .int .i64 q.v0, .int .i64 q.v1, .int .i64 q.v2, .int .i64 q.v3, .int .i64 q.t] 89) := ⟨_, rfl⟩
 have b3 : Below w2.heap.size w2 w3 := by rw [hw3]; exact bAl _ _
 have v3 : w3.heap[w2.heap.size]? = some (.cells q.arr 89 (0, 0)) := by rw [hw3]; exact heap_alloc_new w2 _
 have b13 := hb.trans (b3.mono hb.size)
 have V3 := hid v3
 have B3 := hid (B1.out.trans (b13.mono B1.out.size))
 have R3 := hid (zab b13 (Nat.le_refl _) R1.out)
 have P3 := hid (zab b13 (Nat.le_refl _) P1.out)
 have Q3 := hid (zab b13 (Nat.le_refl _) Q1.out)
 have hz2 : W.heap.size + 3 <= w2.heap.size := by have := hb.size; omega
 have hz3 : W.heap.size + 2 < w3.heap.size := by have := b3.size; omega
 have HW3 := hid hw3
 have LV := hid (zwt H.out HA.out HQ.out B3.out R3.out P3.out hz3)
 have KK : Hid (∀ W', Below w3.heap.size w3 W' -> Erd W i g W') := fun W' hb => ⟨zaa (zab hb (Nat.le_refl _) R3.out) rfl, zaa (zab hb (Nat.le_refl _) R3.out) rfl⟩
 unfold Erd at KK LV
 clear hb FD y0 d0 d1 b3 hw3 v3 b13 z1
 go_upto_region 2 with fail
 rw [<- HW3.out]
 go_wp2_with fail
 go_region_held3 (fun W' => W'.cell? ⟨W.heap.size, 0, none⟩ = some (.int .i64 (i : Int)) /\ W'.cell? ⟨W.heap.size, 1, none⟩ = some (.int .i64 (g : Int)))
  (first | exact KK.out _ (Below.refl _ _).drew | exact KK.out _ (Below.refl _ _) | exact K4.out _ (Below.refl _ _) | exact K5.out _ (Below.refl _ _) | exact K6.out)
  (first
   | (go_at_call 154; refine (LV.out _ (by first | exact (Below.refl _ _).drew | exact Below.refl _ _)).mono ?_; rintro e w4 ⟨v, rfl, K4, D4⟩)
   | (go_at_call 65; refine (D4.out _ (by first | exact Below.refl _ _ | exact (Below.refl _ _).drew)).mono ?_; rintro e w5 ⟨v5, rfl, K5, E5⟩)
   | (go_at_call 153; refine (E5.out _ (by first | exact Below.refl _ _ | exact (Below.refl _ _).drew)).mono ?_; rintro e w6 ⟨rfl, K6, R6⟩)
   | fail)
 all_goals
  have k8 := R6.out.1.2 _ _ (by omega) V3.out
  have z8 := R6.out.1.2 _ _ (by omega) Q3.out
  have t0 : w6.cell? ⟨w2.heap.size, 0, none⟩ = some (.int .i64 q.c) := zaa k8 rfl
  have t1 : w6.cell? ⟨w2.heap.size, 1, none⟩ = some (.int .i64 q.v0) := zaa k8 rfl
  have t2 : w6.cell? ⟨w2.heap.size, 2, none⟩ = some (.int .i64 q.v1) := zaa k8 rfl
  have t3 : w6.cell? ⟨w2.heap.size, 3, none⟩ = some (.int .i64 q.v2) := zaa k8 rfl
  have t4 : w6.cell? ⟨w2.heap.size, 4, none⟩ = some (.int .i64 q.v3) := zaa k8 rfl
  have t5 : w6.cell? ⟨w2.heap.size, 5, none⟩ = some (.int .i64 q.t) := zaa k8 rfl
  obtain ⟨x0, x1, x2, x3, x4, x5, f0, f1, f2, f3, f4, f5⟩ := lies z8
  have Z8 := hid z8
  clear k8 z8
  go_wp2_with fail
  have PB := zca Z8.out rfl q.c (pt q)
  have PS := zqd (zcs w6 (W.heap.size + 2) q.c (pt q))
  unfold put6 pt at PB PS
  dsimp only at PB PS
  obtain ⟨d0, d1, d2, d3, d4, d5, -, -, -, -, -, -⟩ := lies PB
  generalize (((((w6.setCell ⟨W.heap.size + 2, 0, none⟩ (.int .i64 q.c)).setCell ⟨W.heap.size + 2, 1, none⟩ (.int .i64 q.v0)).setCell ⟨W.heap.size + 2, 2, none⟩ (.int .i64 q.v1)).setCell ⟨W.heap.size + 2, 3, none⟩ (.int .i64 q.v2)).setCell ⟨W.heap.size + 2, 4, none⟩ (.int .i64 q.v3)).setCell ⟨W.heap.size + 2, 5, none⟩ (.int .i64 q.t) = w7 at *
  obtain ⟨-, c', e1, e2, e3, e4⟩ := R6.out
  refine bodyPost_ret (v := .tuple #[.agg #[.int .i64 q.c, .int .i64 q.v0, .int .i64 q.v1, .int .i64 q.v2, .int .i64 q.v3, .int .i64 q.t], .nilIface]) (by simp [results, Tryz.results144, go_sem, d0, d1, d2, d3, d4, d5]) rfl ⟨rfl, c', e1.keep PS fun k hk e => hk (by rw [e]; exact e3), e2, ⟨e4.st.trans PS fun k hk e => ?_, e4.new⟩⟩
  omega
end
end So
namespace Sc
open Go.RowKit Go.Shelf
structure Rsc where
 s : ByteArray
 n : Int
def zah (W : World) (v : Value) (cs : List Cmp) : Prop := ∃ a c, v = .slice a cs.length c /\ cs.length <= c /\ (cs = [] \/ ∃ b o, a = some ⟨b, o, none⟩ /\ ∀ (j : Nat) (x : Cmp), cs[j]? = some x →
 W.cell? ⟨b, o + j * 7, none⟩ = some (.string x.s) /\ W.cell? ⟨b, o + j * 7 + 1, none⟩ = some (.int .i64 x.wd) /\ W.cell? ⟨b, o + j * 7 + 2, none⟩ = some (.bool x.rb) /\ W.cell? ⟨b, o + j * 7 + 3, none⟩ = some (.int .i64 x.d0) /\ W.cell? ⟨b, o + j * 7 + 4, none⟩ = some (.int .i64 x.d1) /\ W.cell? ⟨b, o + j * 7 + 5, none⟩ = some (.int .i64 x.d2) /\ W.cell? ⟨b, o + j * 7 + 6, none⟩ = some (.int .i64 x.d3))
def zaw (W : World) (v : Value) (rs : List Rsc) : Prop := ∃ a c, v = .slice a rs.length c /\ rs.length <= c /\ (rs = [] \/ ∃ b o, a = some ⟨b, o, none⟩ /\ ∀ (j : Nat) (x : Rsc), rs[j]? = some x →
 W.cell? ⟨b, o + j * 2, none⟩ = some (.string x.s) /\ W.cell? ⟨b, o + j * 2 + 1, none⟩ = some (.int .i64 x.n))
theorem zah.later {W W' : World} {v : Value} {cs : List Cmp} (h : zah W v cs) (hb : Below W.heap.size W W') : zah W' v cs := by
 obtain ⟨a, c, h1, h2, h3⟩ := h
 refine ⟨a, c, h1, h2, h3.imp id ?_⟩
 rintro ⟨b, o, ha, hc⟩
 refine ⟨b, o, ha, fun j x hx => ?_⟩
 obtain ⟨c0, c1, c2, c3, c4, c5, c6⟩ := hc j x hx
 have S := fun {p : Addr} {u : Value} (h : W.cell? p = some u) => Below.seen hb (Nat.le_refl _) h
 exact ⟨S c0, S c1, S c2, S c3, S c4, S c5, S c6⟩
theorem zaw.later {W W' : World} {v : Value} {rs : List Rsc} (h : zaw W v rs) (hb : Below W.heap.size W W') : zaw W' v rs := by
 obtain ⟨a, c, h1, h2, h3⟩ := h
 refine ⟨a, c, h1, h2, h3.imp id ?_⟩
 rintro ⟨b, o, ha, hc⟩
 refine ⟨b, o, ha, fun j x hx => ?_⟩
 obtain ⟨c0, c1⟩ := hc j x hx
 exact ⟨Below.seen hb (Nat.le_refl _) c0, Below.seen hb (Nat.le_refl _) c1⟩
abbrev Leaves := List (List ByteArray × Nat)
def zaq : ByteArray := ⟨#[99, 111, 109, 112, 111, 110, 101, 110, 116, 115]⟩
def bRes : ByteArray := ⟨#[114, 101, 115, 111, 117, 114, 99, 101, 115]⟩
def zek : ByteArray := ⟨#[110, 97, 109, 101]⟩
def zlc : ByteArray := ⟨#[119, 105, 100, 116, 104]⟩
def zgp : ByteArray := ⟨#[100, 101, 102, 97, 117, 108, 116]⟩
def at3 (l : ByteArray) (i : Nat) (p : ByteArray) (ns : List Nat) : Leaves := ns.map fun k => ([l, dig i, p], k)
def zar (ns : List ByteArray) : List ByteArray := ns.foldl zej []
theorem zjb (ns : List ByteArray) (s : ByteArray) : zar (ns ++ [s]) = zej (zar ns) s := by simp [zar, List.foldl_append]
def zot (acc : List ByteArray) (i : Nat) (c : Cmp) : Leaves := at3 zaq i zek (nErr acc c.s) ++ (at3 zaq i zlc (wErr c) ++ at3 zaq i zgp (dErr c))
def zcy (cs : List Cmp) : Nat -> Leaves
 | 0 => []
 | k + 1 => zcy cs k ++ (match cs[k]? with | some c => zot (zar ((cs.take k).map Cmp.s)) k c | none => [])
def resL (cs : List Cmp) (rs : List Rsc) : Nat -> Leaves
 | 0 => []
 | k + 1 => resL cs rs k ++ (match rs[k]? with | some r => at3 bRes k zek (nErr (zar (cs.map Cmp.s ++ (rs.take k).map Rsc.s)) r.s) | none => [])
def zay (l : ByteArray) (m n : Nat) : Leaves := if (m : Int) < (n : Int) then [([l], 4)] else []
def zak (cs : List Cmp) (rs : List Rsc) : Leaves := zay zaq 16 cs.length ++ zcy cs cs.length ++ (zay bRes 8 rs.length ++ resL cs rs rs.length)
theorem zgr (acc : List ByteArray) (s : ByteArray) : (nErr acc s).length <= 1 /\ ∀ k ∈ nErr acc s, 1 <= k /\ k <= 18 := by
 unfold nErr
 split
 ·split <;> simp
 simp
theorem zrb (c : Cmp) : (wErr c).length <= 1 /\ ∀ k ∈ wErr c, 1 <= k /\ k <= 18 := by
 unfold wErr
 split <;> simp
theorem zra (c : Cmp) : (dErr c).length <= 1 /\ ∀ k ∈ dErr c, 1 <= k /\ k <= 18 := by
 unfold dErr
 split <;> simp
theorem zqc (l : ByteArray) (i : Nat) (p : ByteArray) (ns : List Nat) : (at3 l i p ns).length = ns.length := by simp [at3]
theorem zvv (acc : List ByteArray) (i : Nat) (c : Cmp) : (zot acc i c).length <= 3 := by
 have h1 := (zgr acc c.s).1
 have h2 := (zrb c).1
 have h3 := (zra c).1
 simp only [zot, List.length_append, zqc]
 omega
theorem zge (cs : List Cmp) : ∀ k, (zcy cs k).length <= 3 * k
 | 0 => by simp [zcy]
 | k + 1 => by
  have ih := zge cs k
  simp only [zcy, List.length_append]
  cases cs[k]? with
  | none => simp; omega
  | some c => have := zvv (zar ((cs.take k).map Cmp.s)) k c; simp only []; omega
theorem zma (cs : List Cmp) (rs : List Rsc) : ∀ k, (resL cs rs k).length <= k
 | 0 => by simp [resL]
 | k + 1 => by
  have ih := zma cs rs k
  simp only [resL, List.length_append]
  cases rs[k]? with
  | none => simp; omega
  | some r => have := (zgr (zar (cs.map Cmp.s ++ (rs.take k).map Rsc.s)) r.s).1; simp only [zqc]; omega
structure Ckd (Ad : Nat -> Addr) (w : World) (mb B n : Nat) (acc : List ByteArray) (ev : Value) (us : List (Value × Leaves)) (wr : World) : Prop where
 map : MapN wr mb n acc
 row : wr.ownsRow B 31 1 ev us.length (us.map Prod.fst)
 nt : ∀ g, ev.ownBlock = some g -> zhz wr g
 one : ∀ u ∈ us, One Ad wr.heap.size wr u.1 u.2
 bel : Below w.heap.size w wr
 low : w.heap.size <= mb /\ mb < B
 high : B <= wr.heap.size
theorem zhk {W : World} {mb n : Nat} {acc : List ByteArray} (h : MapN W mb n acc) : zhz W mb := by
 intro s hs
 obtain ⟨es, clock, hb, -⟩ := h
 simp [World.cell?, hb] at hs
theorem zhz.later {W W' : World} {g : Nat} (h : zhz W g) (hb : W'.heap[g]? = W.heap[g]?) : zhz W' g := fun s hs => h s ((World.cell?_of_block (a := ⟨g, 0, none⟩) hb).symm.trans hs)
variable {Ad : Nat -> Addr} {w wr w1 : World} {mb B n : Nat} {acc : List ByteArray} {ev : Value} {us : List (Value × Leaves)}
theorem Ckd.later (h : Ckd Ad w mb B n acc ev us wr) (hb : Below wr.heap.size wr w1) : Ckd Ad w mb B n acc ev us w1 :=
 ⟨h.map.later hb, zrs h.row hb, fun g hg => (h.nt g hg).later (hb.block g (h.row.lt g hg).2), fun u hu => (h.one u hu).move hb hb.size, h.bel.trans (hb.mono h.bel.size), h.low, Nat.le_trans h.high hb.size⟩
theorem Ckd.took {acc' : List ByteArray} (h : Ckd Ad w mb B n acc ev us wr) (hm : MapN w1 mb (n + 1) acc') (hg : wr.grownBy w1 (some mb)) : Ckd Ad w mb B (n + 1) acc' ev us w1 := by
 have hne : ∀ g, ev.ownBlock = some g -> some g ≠ some mb := fun g hgb e => by
  have := (h.row.lt g hgb).1
  have := h.low.2
  simp at e; omega
 refine ⟨hm, h.row.kept hg ?_, fun g hgb => (h.nt g hgb).later (hg.block g (h.row.lt g hgb).2 (hne g hgb)), fun u hu => (h.one u hu).grown hg (Nat.le_refl _) (zhk h.map), ?_, h.low, Nat.le_trans h.high hg.size⟩
 ·cases hb : ev.ownBlock with
  | none => exact .inl rfl
  | some g => exact .inr (hne g hb)
 exact h.bel.grown hg h.bel.size (fun k hk => by simp at hk; rw [<- hk]; exact h.low.1)
theorem zda (W : World) (vs : List Value) (e : TypeId) (j : Nat) (u : Value) (h : vs[j]? = some u) : (W.alloc (.cells vs.toArray e)).cell? ⟨W.heap.size, j, none⟩ = some u := by
 rw [cell_of_row _ _ j _ e (0, 0) (heap_alloc_new W _)]
 simpa using h
theorem Ckd.app {Ad : Nat -> Addr} {w wr w2 : World} {mb B n : Nat} {acc : List ByteArray} {ev : Value} {us vs : List (Value × Leaves)} {ga : Option Addr} {gc : Nat} {y : List Value} (h : Ckd Ad w mb B n acc ev us wr) (h0 : 0 < us.length) (hv : ∀ u ∈ vs, One Ad wr.heap.size wr u.1 u.2) {o : Obj}
  (hy : y = us.map Prod.fst ++ vs.map Prod.fst) (ow : w2.ownsRow B 31 1 (.slice ga y.length gc) y.length y) (hg : (wr.alloc o).grownBy w2 ev.ownBlock) : Ckd Ad w mb B n acc (.slice ga y.length gc) (us ++ vs) w2 := by
 have b : Below wr.heap.size wr (wr.alloc o) := (Below.refl _ _).alloc (Nat.le_refl _) _
 have h1 := h.later b
 obtain ⟨a, c, rfl⟩ := zaf h.row
 obtain ⟨g, rfl, hgB, hgl⟩ := zdo h.row h0
 have hyl : y.length = (us ++ vs).length := by rw [hy]; simp
 have hym : y = (us ++ vs).map Prod.fst := by rw [hy]; simp
 have hnt : zhz (wr.alloc o) g := h1.nt g rfl
 have hone : ∀ u ∈ us ++ vs, One Ad w2.heap.size w2 u.1 u.2 := by
  intro u hu
  rcases List.mem_append.1 hu with hu | hu
  ·exact (h1.one u hu).grown hg (Nat.le_refl _) hnt
  exact ((hv u hu).move b b.size).grown hg (Nat.le_refl _) hnt
 obtain ⟨g', rfl, hg'⟩ := zdo ow (by rw [hyl]; simp; omega)
 have hne : some mb ≠ (Value.slice (some ⟨g, 0, none⟩) us.length c).ownBlock := fun e => by
  have e' : mb = g := by simpa [Value.ownBlock] using e
  have := h.low.2
  omega
 refine ⟨World.ownsMap.kept h1.map hg hne, by rw [<- hyl, <- hym]; exact ow, ?_, hone, ?_, h.low, Nat.le_trans h1.high hg.size⟩
 ·intro x hx s hs
  obtain rfl : g' = x := by simpa [Value.ownBlock] using hx
  rw [ow.cellAt 0 (by rw [hyl]; simp; omega), hym] at hs
  cases us with
  | nil => simp at h0
  | cons u us => simp at hs; exact (hone u (by simp)).cell.2 s hs
 exact h1.bel.grown hg h1.bel.size (fun k hk => by simp [Value.ownBlock] at hk; rw [<- hk]; have := h.low; omega)
def flat (us : List (Value × Leaves)) : Leaves := (us.map Prod.snd).flatten
theorem zmr (us vs : List (Value × Leaves)) : flat (us ++ vs) = flat us ++ flat vs := by simp [flat]
theorem zhn {cs : List Cmp} {k : Nat} {c : Cmp} (h : cs[k]? = some c) : zcy cs (k + 1) = zcy cs k ++ zot (zar ((cs.take k).map Cmp.s)) k c := by simp [zcy, h]
theorem zxz {cs : List Cmp} {k : Nat} {c : Cmp} (h : cs[k]? = some c) : zar ((cs.take (k + 1)).map Cmp.s) = zej (zar ((cs.take k).map Cmp.s)) c.s := by
 rw [zbe h, List.map_append, List.map_cons, List.map_nil, zjb]
def zbu (cs : List Cmp) : Prop := cs.length <= 40 /\ True
def zbv (rs : List Rsc) : Prop := rs.length <= 40 /\ True
structure C6 (Ad : Nat -> Addr) (w : World) (mb B n : Nat) (acc : List ByteArray) (ev : Value) (us : List (Value × Leaves)) (g : Nat) (x : Cmp) (vs : List (Value × Leaves)) (wc : World) : Prop where
 ck : Ckd Ad w mb B n acc ev us wc
 c0 : wc.cell? ⟨g, 0, none⟩ = some (.string x.s)
 c1 : wc.cell? ⟨g, 1, none⟩ = some (.int .i64 x.wd)
 c2 : wc.cell? ⟨g, 2, none⟩ = some (.bool x.rb)
 c3 : wc.cell? ⟨g, 3, none⟩ = some (.int .i64 x.d0)
 c4 : wc.cell? ⟨g, 4, none⟩ = some (.int .i64 x.d1)
 c5 : wc.cell? ⟨g, 5, none⟩ = some (.int .i64 x.d2)
 c6 : wc.cell? ⟨g, 6, none⟩ = some (.int .i64 x.d3)
 one : ∀ u ∈ vs, One Ad wc.heap.size wc u.1 u.2
theorem C6.later {Ad : Nat -> Addr} {w wc w1 : World} {mb B n g : Nat} {acc : List ByteArray} {ev : Value} {us vs : List (Value × Leaves)} {x : Cmp} (h : C6 Ad w mb B n acc ev us g x vs wc) (hb : Below wc.heap.size wc w1) : C6 Ad w mb B n acc ev us g x vs w1 :=
 have S := fun {p : Addr} {u : Value} (h : wc.cell? p = some u) => Below.seen hb (Nat.le_refl _) h
 ⟨h.ck.later hb, S h.c0, S h.c1, S h.c2, S h.c3, S h.c4, S h.c5, S h.c6, fun u hu => (h.one u hu).move hb hb.size⟩
theorem C6.push {Ad : Nat -> Addr} {w wc w1 : World} {mb B n g : Nat} {acc : List ByteArray} {ev v : Value} {us vs : List (Value × Leaves)} {x : Cmp} {L : Leaves} (h : C6 Ad w mb B n acc ev us g x vs wc) (hb : Below wc.heap.size wc w1) (ho : One Ad w1.heap.size w1 v L) : C6 Ad w mb B n acc ev us g x (vs ++ [(v, L)]) w1 :=
 have k := h.later hb
 ⟨k.ck, k.c0, k.c1, k.c2, k.c3, k.c4, k.c5, k.c6, fun u hu => by
  rcases List.mem_append.1 hu with hu | hu
  ·exact k.one u hu
  simp at hu; subst hu; exact ho⟩
theorem C6.took {Ad : Nat -> Addr} {w wc w1 : World} {mb B n g : Nat} {acc acc' : List ByteArray} {ev : Value} {us vs : List (Value × Leaves)} {x : Cmp} (h : C6 Ad w mb B n acc ev us g x vs wc) (hm : MapN w1 mb (n + 1) acc') (hg : wc.grownBy w1 (some mb)) : C6 Ad w mb B (n + 1) acc' ev us g x vs w1 := by
 have hne : some g ≠ some mb := fun e => zhk h.ck.map x.s (by simp at e; rw [<- e]; exact h.c0)
 have S := fun {j : Nat} {u : Value} (h : wc.cell? ⟨g, j, none⟩ = some u) => hg.cell (a := ⟨g, j, none⟩) h hne
 exact ⟨h.ck.took hm hg, S h.c0, S h.c1, S h.c2, S h.c3, S h.c4, S h.c5, S h.c6, fun u hu => (h.one u hu).grown hg (Nat.le_refl _) (zhk h.ck.map)⟩
def zld (g : Nat) (x : Cmp) (W : World) : Prop := W.cell? ⟨g, 0, none⟩ = some (.string x.s) /\ W.cell? ⟨g, 1, none⟩ = some (.int .i64 x.wd) /\ W.cell? ⟨g, 2, none⟩ = some (.bool x.rb) /\ W.cell? ⟨g, 3, none⟩ = some (.int .i64 x.d0) /\ W.cell? ⟨g, 4, none⟩ = some (.int .i64 x.d1) /\ W.cell? ⟨g, 5, none⟩ = some (.int .i64 x.d2) /\ W.cell? ⟨g, 6, none⟩ = some (.int .i64 x.d3)
theorem C6.cells {Ad : Nat -> Addr} {w wc : World} {mb B n g : Nat} {acc : List ByteArray} {ev : Value} {us vs : List (Value × Leaves)} {x : Cmp} (h : C6 Ad w mb B n acc ev us g x vs wc) : wc.cell? ⟨g, 0, none⟩ = some (.string x.s) /\ wc.cell? ⟨g, 1, none⟩ = some (.int .i64 x.wd) /\ wc.cell? ⟨g, 2, none⟩ = some (.bool x.rb) /\ wc.cell? ⟨g, 3, none⟩ = some (.int .i64 x.d0) /\ wc.cell? ⟨g, 4, none⟩ = some (.int .i64 x.d1) /\ wc.cell? ⟨g, 5, none⟩ = some (.int .i64 x.d2) /\ wc.cell? ⟨g, 6, none⟩ = some (.int .i64 x.d3) :=
 ⟨h.c0, h.c1, h.c2, h.c3, h.c4, h.c5, h.c6⟩
theorem C6.env {Ad : Nat -> Addr} {w wc : World} {mb B n g : Nat} {acc : List ByteArray} {ev : Value} {us vs : List (Value × Leaves)} {x : Cmp} (h : C6 Ad w mb B n acc ev us g x vs wc) (hE : Env8 w Ad) : Env8 wc Ad := hE.later h.ck.bel
theorem C6.drew {Ad : Nat -> Addr} {w wc : World} {mb B n g : Nat} {acc : List ByteArray} {ev : Value} {us vs : List (Value × Leaves)} {x : Cmp} (h : C6 Ad w mb B n acc ev us g x vs wc) : C6 Ad w mb B n acc ev us g x vs wc.drew := h.later ⟨rfl, rfl, rfl, Nat.le_refl _, fun _ _ => rfl⟩
theorem One.shape {Ad : Nat -> Addr} {n₀ : Nat} {W : World} {v : Value} {L : Leaves} (h : One Ad n₀ W v L) : v.cells = #[v] := by
 rcases h with ⟨rfl, -⟩ | ⟨p, -, h⟩
 ·rfl
 obtain ⟨t, q, rfl, -⟩ := h.1.shape
 rfl
def NsOk (ns : List Nat) : Prop := ns.length <= 1 /\ ∀ k ∈ ns, 1 <= k /\ k <= 18
theorem way3 (Ad : Nat -> Addr) (W : World) (l p : ByteArray) (i : Nat) (hi : i < 100) (ns : List Nat) (h : NsOk ns) :
  Calls Tryz.prog 81 #[.string l, .int .i64 (i : Int), .string p, errV Ad ns] W fun e W' => ∃ v', e = .returned v' /\ One Ad W'.heap.size W' v' (at3 l i p ns) /\ Below W.heap.size W W' := zwh Ad W l p i hi ns h.1 h.2
theorem yar (Ad : Nat -> Addr) (W : World) (hE : Env8 W Ad) (x : Cmp) : Calls Tryz.prog 83 #[.agg #[.string x.s, .int .i64 x.wd, .bool x.rb, .int .i64 x.d0, .int .i64 x.d1, .int .i64 x.d2, .int .i64 x.d3]] W fun e W' => e = .returned (errV Ad (wErr x)) /\ Below W.heap.size W W' := z0w Ad W hE x
theorem z3u (Ad : Nat -> Addr) (W : World) (hE : Env8 W Ad) (x : Cmp) : Calls Tryz.prog 84 #[.agg #[.string x.s, .int .i64 x.wd, .bool x.rb, .int .i64 x.d0, .int .i64 x.d1, .int .i64 x.d2, .int .i64 x.d3]] W fun e W' => e = .returned (errV Ad (dErr x)) /\ Below W.heap.size W W' := zqq Ad W hE x
attribute [local go_sem ↓] Go.wp_at_zero Go.wp_at_succ
theorem zgj {cs : List Cmp} {rs : List Rsc} {k : Nat} {r : Rsc} (h : rs[k]? = some r) : resL cs rs (k + 1) = resL cs rs k ++ at3 bRes k zek (nErr (zar (cs.map Cmp.s ++ (rs.take k).map Rsc.s)) r.s) := by simp [resL, h]
theorem zhe {cs : List Cmp} {rs : List Rsc} {k : Nat} {r : Rsc} (h : rs[k]? = some r) : zar (cs.map Cmp.s ++ (rs.take (k + 1)).map Rsc.s) = zej (zar (cs.map Cmp.s ++ (rs.take k).map Rsc.s)) r.s := by
 rw [zbe h, List.map_append, List.map_cons, List.map_nil, <- List.append_assoc, zjb]
theorem ztv {ops : Array Oper} {o : Oper} {a : Act} {K : Act -> World -> Prop} {Q : Exit -> Act -> World -> Prop} {E : Prop} (hgd : o.guard = none) (s x : Operand)
  (ho : o.op = .call { callee := .builtin .append, args := #[s, x], argTypes := #[154, 154] })
  {Ad : Nat -> Addr} {w wc : World} {mb B n g : Nat} {acc : List ByteArray} {ev : Value} {us vs : List (Value × Leaves)} {y : Cmp} (hC : C6 Ad w mb B n acc ev us g y vs wc) {v1 v2 v3 : Value} (hvs : vs.map Prod.fst = [v1, v2, v3]) (h0 : 0 < us.length) (hul : us.length <= 1000)
  (hs : a.eval s = ev) (hx : a.eval x = .slice (some ⟨wc.heap.size, 0, none⟩) 3 3)
  (h : ∀ g' cap w2, C6 Ad w mb B n acc (.slice (some ⟨g', 0, none⟩) (us.length + 3) cap) (us ++ vs) g y [] w2 -> K (a.put o.dst (.slice (some ⟨g', 0, none⟩) (us.length + 3) cap)) w2) :
  if Region.wanted o (yielded ops a.tmps) = true then Oper.wp Tryz.prog o a (wc.alloc (.cells #[v1, v2, v3] 31)) K Q else E := by
 obtain ⟨i0, hi, hz0, hz1, hz2⟩ := info_parts Tryz.zqi
 have hone : ∀ u ∈ [v1, v2, v3], u.oneCell' = true := by
  intro u hu
  rw [<- hvs] at hu
  obtain ⟨p, hp, rfl⟩ := List.mem_map.1 hu
  exact (hC.one p hp).cell.1
 have hown : (wc.alloc (.cells #[v1, v2, v3] 31)).ownsRow B 31 1 ev us.length (us.map Prod.fst) := hC.ck.row.alloc _
 have hvl : vs.length = 3 := by have := congrArg List.length hvs; simpa using this
 refine step_append_lies _ hgd s x 154 ho B 31 i0 .nilIface 1 16 Tryz.underlying154 hi hz0 hz1 hz2 rfl (by decide) ev us.length (us.map Prod.fst) hs hown ⟨wc.heap.size, 0, none⟩ 3 3 [v1, v2, v3] hx rfl (fun j u hu => by rw [zbx]; exact zda wc [v1, v2, v3] 31 j u hu) hone (by decide) (by unfold maxLen; omega) (by omega) (Nat.le_trans hC.ck.high (by simp)) (wc.alloc (.cells #[v1, v2, v3] 31)).heap.size rfl ?_
 intro g' cap w2 ow hg _ _
 have e : us.length + 3 = (us.map Prod.fst ++ [v1, v2, v3]).length := by simp
 refine h g' cap w2 ?_
 have hC1 := hC.later (show Below wc.heap.size wc (wc.alloc (.cells #[v1, v2, v3] 31)) from (Below.refl _ _).alloc (Nat.le_refl _) _)
 have hne : some g ≠ ev.ownBlock := fun hh => hC1.ck.nt g hh.symm y.s hC1.c0
 have S := fun {j : Nat} {u : Value} (h : (wc.alloc (.cells #[v1, v2, v3] 31)).cell? ⟨g, j, none⟩ = some u) => hg.cell (a := ⟨g, j, none⟩) h hne
 rw [e] at ow ⊢
 exact ⟨hC.ck.app h0 hC.one (by rw [hvs]) ow hg, S hC1.c0, S hC1.c1, S hC1.c2, S hC1.c3, S hC1.c4, S hC1.c5, S hC1.c6, by simp⟩
set_option maxRecDepth 100000 in
theorem zbl (Ad : Nat -> Addr) (w : World) (va vb : Value) (cs : List Cmp) (rs : List Rsc) (hE : Env8 w Ad) (hC : zah w va cs) (hQ : zaw w vb rs) (hsC : zbu cs) (hsQ : zbv rs) :
  Calls Tryz.prog 37 #[.agg #[va, vb]] w fun e w' => ∃ v', e = .returned v' /\ Top Ad w'.heap.size w' 3 v' (zak cs rs) /\ Below w.heap.size w w' := by
 have hmm := @run_makeMap Tryz.prog
 obtain ⟨a, c, rfl, hcap, hlay⟩ := hC
 obtain ⟨a', c', rfl, hcap', hlay'⟩ := hQ
 have HL := hid hlay
 have HL' := hid hlay'
 have h40 : cs.length <= 40 := hsC.1
 have h40' : rs.length <= 40 := hsQ.1
 have h40i : (cs.length : Int) <= 40 := by omega
 have h40i' : (rs.length : Int) <= 40 := by omega
 have HSC := hid hsC
 have HSQ := hid hsQ
 have HE := hid hE
 clear hE hsC hsQ hlay hlay'
 go_enter Tryz.func37, Tryz.ntmps37
 go_wp2_with fail
 obtain ⟨w0, hw0⟩ : ∃ w0, w0 = w.alloc (.cells #[.slice a cs.length c, .slice a' rs.length c'] 25) := ⟨_, rfl⟩
 have hsz : Hid (w0.heap.size = w.heap.size + 1) := by rw [hw0]; simp [Hid]
 have B0 : Hid (Below w.heap.size w w0) := by rw [hw0]; exact (Below.refl _ _).alloc (Nat.le_refl _) _
 obtain ⟨x0, x1⟩ := zdv w (.slice a cs.length c) (.slice a' rs.length c') 25
 rw [<- hw0] at x0 x1 ⊢
 have X0 := hid x0
 have X1 := hid x1
 have MM : Hid (MapN (w0.alloc (.map #[] 0)) (w.heap.size + 1) 0 []) := by rw [<- hsz.out]; exact World.ownsMap_made w0 Tryz.prog 9 _
 have BM : Hid (Below w0.heap.size w0 (w0.alloc (.map #[] 0))) := (Below.refl _ _).alloc (Nat.le_refl _) _
 have hszM : Hid ((w0.alloc (.map #[] 0)).heap.size = w.heap.size + 2) := by have := hsz.out; simp [Hid, this]
 have E0 := hid (HE.out.later B0.out)
 have T1 := hid (ziw Ad (w0.alloc (.map #[] 0)) (E0.out.later BM.out) ⟨#[99, 111, 109, 112, 111, 110, 101, 110, 116, 115]⟩ (cs.length : Int) 16)
 clear hw0 x0 x1 hmm
 refine T1.out.mono ?_
 rintro e w2 ⟨v2, rfl, o2, hb2⟩
 obtain ⟨hc2, -⟩ := (show v2.cells = #[v2] /\ v2.oneCell' = true from by
  rcases o2 with ⟨rfl, -⟩ | ⟨p, -, h⟩
  ·exact ⟨rfl, rfl⟩
  obtain ⟨t, q, rfl, -⟩ := h.1.shape
  exact ⟨rfl, rfl⟩)
 unfold Value.cells at hc2
 have K3 : Hid (Ckd Ad w0 (w.heap.size + 1) (w.heap.size + 2) 0 [] (.slice (some ⟨w2.heap.size, 0, none⟩) 1 1) [(v2, zay zaq 16 cs.length)] (w2.alloc (.cells #[v2] 31))) := by
  have b3 : Below w2.heap.size w2 (w2.alloc (.cells #[v2] 31)) := (Below.refl _ _).alloc (Nat.le_refl _) _
  have hs := hszM.out
  have hs2 := hb2.size
  have hs0 := hsz.out
  have b13 := hb2.trans (b3.mono hb2.size)
  refine ⟨MM.out.later b13, ?_, ?_, ?_, BM.out.trans (b13.mono BM.out.size), ⟨by omega, by omega⟩, ?_⟩
  ·exact World.ownsRow_lit (base := w.heap.size + 2) (e := 31) (size := 1) w2 #[v2] 1 (by omega) (by unfold maxLen; omega) (by simp)
  ·intro g hg s hs
   obtain rfl : w2.heap.size = g := by simpa [Value.ownBlock] using hg
   rw [zbz w2 v2 31] at hs
   exact o2.cell.2 s (by simpa using hs)
  ·intro u hu
   simp at hu
   subst hu
   exact o2.move b3 b3.size
  simp; omega
 have B12 := hid (BM.out.trans (hb2.mono BM.out.size))
 have y0 := Below.seen B12.out (Nat.le_refl _) X0.out
 have y1 := Below.seen B12.out (Nat.le_refl _) X1.out
 have hl2 : w.heap.size < w2.heap.size := World.block_lt_of_cell? w2 _ y0
 have hn2 : ¬ (w.heap.size = w2.heap.size) := by omega
 clear o2 hb2 T1 MM BM
 go_wp2_with fail
 go_loopw [4, 5, 6, 18] (fun ev _ _ i wr => ∃ k : Nat, k <= cs.length /\ i = .int .i64 (k : Int) /\ ∃ us, Hid (Ckd Ad w0 (w.heap.size + 1) (w.heap.size + 2) k (zar ((cs.take k).map Cmp.s)) ev us wr /\ 0 < us.length /\ us.length <= 1 + 3 * k /\ flat us = zay zaq 16 cs.length ++ zcy cs k)) (fun _ _ _ i _ => cs.length - (intOf i).toNat)
 case atStart => exact ⟨0, Nat.zero_le _, rfl, _, K3.out, by simp, by simp, by simp [flat, zcy]⟩
 case round =>
  obtain ⟨k, hk, rfl, us, HK⟩ := hrel
  obtain ⟨ck, hu0, hul, hfl⟩ := HK.out
  have CK := hid ck
  have HF := hid hfl
  by_cases hlt : k < cs.length
  ·have hki : (k : Int) < (cs.length : Int) := by omega
   obtain ⟨x, hx⟩ := zal cs k hlt
   obtain ⟨b, o, rfl, hc⟩ : ∃ b o, a = some ⟨b, o, none⟩ /\ ∀ (j : Nat) (x : Cmp), cs[j]? = some x -> w.cell? ⟨b, o + j * 7, none⟩ = some (.string x.s) /\ w.cell? ⟨b, o + j * 7 + 1, none⟩ = some (.int .i64 x.wd) /\ w.cell? ⟨b, o + j * 7 + 2, none⟩ = some (.bool x.rb) /\ w.cell? ⟨b, o + j * 7 + 3, none⟩ = some (.int .i64 x.d0) /\ w.cell? ⟨b, o + j * 7 + 4, none⟩ = some (.int .i64 x.d1) /\ w.cell? ⟨b, o + j * 7 + 5, none⟩ = some (.int .i64 x.d2) /\ w.cell? ⟨b, o + j * 7 + 6, none⟩ = some (.int .i64 x.d3) := by
    rcases HL.out with h | h
    ·rw [h] at hlt; simp at hlt
    exact h
   have BW := hid (B0.out.trans (ck.bel.mono B0.out.size))
   obtain ⟨c0, c1, c2, c3, c4, c5, c6⟩ := hc k x hx
   have S := fun {p : Addr} {u : Value} (h : w.cell? p = some u) => Below.seen BW.out (Nat.le_refl _) h
   have c0 := S c0
   have c1 := S c1
   have c2 := S c2
   have c3 := S c3
   have c4 := S c4
   have c5 := S c5
   have c6 := S c6
   have CN := hid (zhn hx)
   have SN := hid (zxz hx)
   obtain ⟨acc, HA⟩ : ∃ acc, Hid (acc = zar ((cs.take k).map Cmp.s)) := ⟨_, rfl⟩
   rw [<- HA.out] at CK CN SN
   clear S hc hx ck hfl HK HA
   have K6 : Hid (C6 Ad w0 (w.heap.size + 1) (w.heap.size + 2) k acc u4 us wr.heap.size x [] (wr.alloc (.cells #[.string x.s, .int .i64 x.wd, .bool x.rb, .int .i64 x.d0, .int .i64 x.d1, .int .i64 x.d2, .int .i64 x.d3] 96))) := by
    have b : Below wr.heap.size wr (wr.alloc (.cells #[.string x.s, .int .i64 x.wd, .bool x.rb, .int .i64 x.d0, .int .i64 x.d1, .int .i64 x.d2, .int .i64 x.d3] 96)) := (Below.refl _ _).alloc (Nat.le_refl _) _
    have R := fun (j : Nat) (u : Value) (h : [Value.string x.s, .int .i64 x.wd, .bool x.rb, .int .i64 x.d0, .int .i64 x.d1, .int .i64 x.d2, .int .i64 x.d3][j]? = some u) => zda wr _ 96 j u h
    exact ⟨CK.out.later b, R 0 _ rfl, R 1 _ rfl, R 2 _ rfl, R 3 _ rfl, R 4 _ rfl, R 5 _ rfl, R 6 _ rfl, by simp⟩
   go_wp2_with fail
   generalize hwq : wr.alloc (.cells #[.string x.s, .int .i64 x.wd, .bool x.rb, .int .i64 x.d0, .int .i64 x.d1, .int .i64 x.d2, .int .i64 x.d3] 96) = wq at *
   have k6 := K6.out
   clear hwq c0 c1 c2 c3 c4 c5 c6
   obtain ⟨c0, c1, c2, c3, c4, c5, c6⟩ := k6.cells
   have k6d := k6.drew
   generalize wr.heap.size = g6 at *
   have h1000 : us.length <= 1000 := by omega
   go_region_held3 (fun W => W.cell? ⟨g6, 0, none⟩ = some (.string x.s) /\ W.cell? ⟨g6, 1, none⟩ = some (.int .i64 x.wd) /\ W.cell? ⟨g6, 2, none⟩ = some (.bool x.rb) /\ W.cell? ⟨g6, 3, none⟩ = some (.int .i64 x.d0) /\ W.cell? ⟨g6, 4, none⟩ = some (.int .i64 x.d1) /\ W.cell? ⟨g6, 5, none⟩ = some (.int .i64 x.d2) /\ W.cell? ⟨g6, 6, none⟩ = some (.int .i64 x.d3)) (first | go_keep | (exact C6.cells (by assumption))) (first
    | (go_at_call 82; refine (zrz Ad _ (C6.env (by assumption) E0.out) (w.heap.size + 1) k _ (C6.ck (by assumption)).map (by omega) x.s).mono ?_; rintro e w7 ⟨rfl, hm7, hg7⟩; have h7 := C6.took (by assumption) hm7 hg7)
    | (go_at_call 81; refine (way3 Ad _ _ _ k (by omega) _ (by first | exact zgr _ _ | exact zrb _ | exact zra _)).mono ?_; rintro e w8 ⟨v8, rfl, o8, hb8⟩; have h8 := C6.push (by assumption) hb8 o8; have s8 := o8.shape; unfold Value.cells at s8)
    | (go_at_call 83; refine (yar Ad _ (C6.env (by assumption) E0.out) x).mono ?_; rintro e w9 ⟨rfl, hb9⟩; have h9 := C6.later (by assumption) hb9)
    | (go_at_call 84; refine (z3u Ad _ (C6.env (by assumption) E0.out) x).mono ?_; rintro e w9 ⟨rfl, hb9⟩; have h9 := C6.later (by assumption) hb9)
    | (refine ztv (by rfl) _ _ (by rfl) (by assumption) (by rfl) hu0 h1000 (by rfl) (by rfl) ?_; intro g9 cap9 w10 hk10))
   have NX : Hid (∃ us', Ckd Ad w0 (w.heap.size + 1) (w.heap.size + 2) (k + 1) (zar ((cs.take (k + 1)).map Cmp.s)) (.slice (some ⟨g9, 0, none⟩) (us.length + 3) cap9) us' w10 /\ 0 < us'.length /\ us'.length <= 1 + 3 * (k + 1) /\ flat us' = zay zaq 16 cs.length ++ zcy cs (k + 1)) := by
    have e := hk10.ck
    rw [<- SN.out] at e
    refine ⟨_, e, by simp, by simp; omega, ?_⟩
    rw [zmr, HF.out, CN.out, List.append_assoc]
    congr 2
    simp only [flat, zot, List.nil_append, List.cons_append, List.map_cons, List.map_nil, List.flatten_cons, List.flatten_nil, List.append_nil]
    rfl
   clear hk10 h9 h8 h7 k6d k6 c0 c1 c2 c3 c4 c5 c6 o8 hb8 hm7 hg7 hb9
   go_wp2_with fail
   go_roundw
   case rel =>
    obtain ⟨us', hus'⟩ := NX.out
    exact ⟨k + 1, by omega, by go_num, us', hus'⟩
   case measure => simp [intOf]; omega
  have hki : ¬ ((k : Int) < (cs.length : Int)) := by omega
  obtain rfl : k = cs.length := by omega
  rw [List.take_of_length_le (Nat.le_refl _)] at CK
  have x1 := Below.seen CK.out.bel (Nat.le_refl _) X1.out
  have T2 := hid (ziw Ad wr (E0.out.later CK.out.bel) ⟨#[114, 101, 115, 111, 117, 114, 99, 101, 115]⟩ (rs.length : Int) 8)
  obtain ⟨pa, pc, rfl⟩ := zaf CK.out.row
  clear ck hfl HK
  go_wp2_with fail
  refine T2.out.mono ?_
  rintro e w5 ⟨v5, rfl, o5, hb5⟩
  have s5 := o5.shape
  unfold Value.cells at s5
  have CK5 := hid (CK.out.later hb5)
  have hum : (us.map Prod.fst).length = us.length := List.length_map _
  have OW : Hid ((w5.alloc (.cells #[v5] 31)).ownsRow (w.heap.size + 2) 31 1 (.slice pa us.length pc) (us.map Prod.fst).length (us.map Prod.fst)) := by rw [hum]; exact CK5.out.row.alloc _
  have A1 := hid (zmp w5 v5)
  have A2 : Hid (∀ z ∈ [v5], z.oneCell' = true) := by intro z hz; simp at hz; rw [hz]; exact o5.cell.1
  have A3 : Hid ((us.map Prod.fst).length + [v5].length <= 5000) := by show _ <= _; rw [hum]; simp; omega
  have hBs : w.heap.size + 2 <= (w5.alloc (.cells #[v5] 31)).heap.size := Nat.le_trans CK5.out.high (by simp)
  have O5 := hid o5
  have X1a : Hid ((w5.alloc (.cells #[v5] 31)).cell? ⟨w.heap.size, 1, none⟩ = some (.slice a' rs.length c')) := Below.seen (CK5.out.later ((Below.refl _ _).alloc (Nat.le_refl _) (.cells #[v5] 31))).bel (Nat.le_refl _) X1.out
  have hlt2 : Hid (w.heap.size < w.heap.size + 2) := by show _ < _; omega
  clear o5 hb5 T2 hum
  go_wp2_with (at_builtin; refine zhx _ rfl (.tmp 41) (.tmp 46) rfl (w.heap.size + 2) _ (us.map Prod.fst) rfl OW.out w5.heap.size 1 [v5] rfl A1.out A2.out A3.out hBs ?_; intro ga gc y w6 hy ow hg bw; have z1 := (bw.out.cell (p := ⟨w.heap.size, 1, none⟩) hlt2.out).trans X1a.out)
  have K6 : Hid (∃ us', Ckd Ad w0 (w.heap.size + 1) (w.heap.size + 2) (cs.length + 0) (zar (cs.map Cmp.s ++ (rs.take 0).map Rsc.s)) (.slice ga y.length gc) us' w6 /\ 0 < us'.length /\ us'.length <= 2 + 3 * cs.length + 0 /\ flat us' = zay zaq 16 cs.length ++ zcy cs cs.length ++ (zay bRes 8 rs.length ++ resL cs rs 0)) := by
   have e := CK5.out.app (vs := [(v5, zay bRes 8 rs.length)]) hu0 (by intro u hu; simp at hu; subst hu; exact O5.out) (by rw [hy.out]; rfl) ow.out hg.out
   refine ⟨_, by simpa using e, by simp, by simp; omega, ?_⟩
   rw [zmr, HF.out]
   simp [flat, resL]
  clear z1 CK5 CK OW A1 A2 A3 hBs O5 hy ow hg bw x1 HF X1a s5
  go_loopw [4, 7, 8, 51] (fun ev _ _ i wr => ∃ k : Nat, k <= rs.length /\ i = .int .i64 (k : Int) /\ ∃ us, Hid (Ckd Ad w0 (w.heap.size + 1) (w.heap.size + 2) (cs.length + k) (zar (cs.map Cmp.s ++ (rs.take k).map Rsc.s)) ev us wr /\ 0 < us.length /\ us.length <= 2 + 3 * cs.length + k /\ flat us = zay zaq 16 cs.length ++ zcy cs cs.length ++ (zay bRes 8 rs.length ++ resL cs rs k))) (fun _ _ _ i _ => rs.length - (intOf i).toNat)
  case atStart =>
   obtain ⟨us', hus'⟩ := K6.out
   exact ⟨0, Nat.zero_le _, rfl, us', hus'⟩
  case round =>
   clear hul hu0
   obtain ⟨k, hk, rfl, us, HK⟩ := hrel
   obtain ⟨ck, hu0, hul, hfl⟩ := HK.out
   have CK := hid ck
   have HF := hid hfl
   by_cases hlt : k < rs.length
   ·have hki : (k : Int) < (rs.length : Int) := by omega
    obtain ⟨x, hx⟩ := zal rs k hlt
    obtain ⟨b, o, rfl, hc⟩ : ∃ b o, a' = some ⟨b, o, none⟩ /\ ∀ (j : Nat) (x : Rsc), rs[j]? = some x -> w.cell? ⟨b, o + j * 2, none⟩ = some (.string x.s) /\ w.cell? ⟨b, o + j * 2 + 1, none⟩ = some (.int .i64 x.n) := by
     rcases HL'.out with h | h
     ·rw [h] at hlt; simp at hlt
     exact h
    have BW := hid (B0.out.trans (ck.bel.mono B0.out.size))
    obtain ⟨c0, c1⟩ := hc k x hx
    have c0 := Below.seen BW.out (Nat.le_refl _) c0
    have c1 := Below.seen BW.out (Nat.le_refl _) c1
    have CN := hid (zgj (cs := cs) hx)
    have SN := hid (zhe (cs := cs) hx)
    obtain ⟨acc, HA⟩ : ∃ acc, Hid (acc = zar (cs.map Cmp.s ++ (rs.take k).map Rsc.s)) := ⟨_, rfl⟩
    rw [<- HA.out] at CK CN SN
    have BA : Hid (Below wr.heap.size wr (wr.alloc (.cells #[.string x.s, .int .i64 x.n] 107))) := (Below.refl _ _).alloc (Nat.le_refl _) _
    have CA := hid (CK.out.later BA.out)
    have TA := hid (zrz Ad _ (E0.out.later CA.out.bel) (w.heap.size + 1) _ _ CA.out.map (by omega) x.s)
    clear hc hx ck hfl HK HA
    go_wp2_with fail
    refine TA.out.mono ?_
    rintro e w7 ⟨rfl, hm7, hg7⟩
    have C7 := hid (CA.out.took hm7 hg7)
    have WA := hid (way3 Ad w7 ⟨#[114, 101, 115, 111, 117, 114, 99, 101, 115]⟩ ⟨#[110, 97, 109, 101]⟩ k (by omega) _ (zgr acc x.s))
    clear hm7 hg7 TA CA
    go_wp2_with fail
    refine WA.out.mono ?_
    rintro e w8 ⟨v8, rfl, o8, hb8⟩
    have s8 := o8.shape
    unfold Value.cells at s8
    have C8 := hid (C7.out.later hb8)
    obtain ⟨pa, pc, hpv⟩ := zaf C8.out.row
    have hum : (us.map Prod.fst).length = us.length := List.length_map _
    have OW : Hid ((w8.alloc (.cells #[v8] 31)).ownsRow (w.heap.size + 2) 31 1 u4 (us.map Prod.fst).length (us.map Prod.fst)) := by rw [hum]; exact C8.out.row.alloc _
    have A1 := hid (zmp w8 v8)
    have A2 : Hid (∀ z ∈ [v8], z.oneCell' = true) := by intro z hz; simp at hz; rw [hz]; exact o8.cell.1
    have A3 : Hid ((us.map Prod.fst).length + [v8].length <= 5000) := by show _ <= _; rw [hum]; simp; omega
    have hBs : w.heap.size + 2 <= (w8.alloc (.cells #[v8] 31)).heap.size := Nat.le_trans C8.out.high (by simp)
    have O8 := hid o8
    clear o8 hb8 WA hum hpv C7
    go_wp2_with (at_builtin; refine zhx _ rfl (.tmp 56) (.tmp 63) rfl (w.heap.size + 2) _ (us.map Prod.fst) rfl OW.out w8.heap.size 1 [v8] rfl A1.out A2.out A3.out hBs ?_; intro ga2 gc2 y2 w9 hy2 ow2 hg2 bw2)
    have NX : Hid (∃ us', Ckd Ad w0 (w.heap.size + 1) (w.heap.size + 2) (cs.length + (k + 1)) (zar (cs.map Cmp.s ++ (rs.take (k + 1)).map Rsc.s)) (.slice ga2 y2.length gc2) us' w9 /\ 0 < us'.length /\ us'.length <= 2 + 3 * cs.length + (k + 1) /\ flat us' = zay zaq 16 cs.length ++ zcy cs cs.length ++ (zay bRes 8 rs.length ++ resL cs rs (k + 1))) := by
     have e := C8.out.app (vs := [(v8, at3 bRes k zek (nErr acc x.s))]) hu0 (by intro u hu; simp at hu; subst hu; exact O8.out) (by rw [hy2.out]; rfl) ow2.out hg2.out
     rw [<- SN.out] at e
     refine ⟨_, e, by simp, by simp; omega, ?_⟩
     rw [zmr, HF.out, CN.out]
     simp [flat]
    go_roundw
    case rel =>
     obtain ⟨us', hus'⟩ := NX.out
     exact ⟨k + 1, by omega, by go_num, us', hus'⟩
    case measure => simp [intOf]; omega
   have hki : ¬ ((k : Int) < (rs.length : Int)) := by omega
   obtain rfl : k = rs.length := by omega
   have AL := hid (z8f Ad 3 u4 us wr (z4d (by have := CK.out.row; rw [show us.length = (us.map Prod.fst).length by simp] at this; exact this)) (fun u hu => (CK.out.one u hu).top) (by omega) (by
    show (flat us).length <= 1000
    rw [HF.out]
    have h1 := zge cs cs.length
    have h2 := zma cs rs rs.length
    have h3 : (zay zaq 16 cs.length).length <= 1 := by unfold zay; split <;> simp
    have h4 : (zay bRes 8 rs.length).length <= 1 := by unfold zay; split <;> simp
    simp only [List.length_append]
    omega))
   have R : Hid ((us.map Prod.snd).flatten = zak cs rs) := by show flat us = _; rw [HF.out]; rfl
   rw [R.out] at AL
   have BW := hid (B0.out.trans (CK.out.bel.mono B0.out.size))
   obtain ⟨pa, pc, rfl⟩ := zaf CK.out.row
   clear ck hfl HK R
   go_wp2_with fail
   refine AL.out.mono ?_
   rintro e w9 ⟨v9, rfl, t9, hb9⟩
   have T9 := hid t9
   have B9 := hid (BW.out.trans (hb9.mono BW.out.size))
   clear t9 hb9 AL
   go_wp2_with fail
   go_ret
   exact ⟨_, rfl, T9.out, B9.out⟩
end Sc
namespace So
open Go.RowKit Go.Shelf Go.Maps
open At (Ints Atl)
open Ro (RS Rol zae)
open Rs (SD okW)
theorem zyi {B B' : Nat} {W : World} {rb t : Nat} {r : RS} {S : Nat -> Prop} (h : Rol B W rb t r S) (hB : B' <= B) : Rol B' W rb t r S := by
 obtain ⟨gb, mb, fv, h1, h2⟩ := h
 exact ⟨gb, mb, fv, ⟨h1.box, h1.gens, World.ownsRow.mono h1.free hB, h1.map, h1.ok, h1.small, h1.old, ⟨Nat.le_trans hB h1.low.1, Nat.le_trans hB h1.low.2.1, Nat.le_trans hB h1.low.2.2⟩, h1.apart⟩, h2⟩
def zib (ws : List Nat) (n : Nat) : SD := { ws := ws, sets := [0], r := RS.fresh n, p := List.replicate 64 [] }
theorem zzd {ws : List Nat} {n i g : Nat} : ¬ al (zib ws n) i g := by
 rw [zgv]
 rintro ⟨h1, h2⟩
 obtain ⟨h3, -⟩ := List.getElem?_eq_some_iff.1 h2
 apply h1
 simp [zib, RS.fresh] at h3 ⊢
 omega
theorem z8y (ws : List Nat) (n : Nat) : Lk none (fun _ => none) (List.replicate n (0, 0)) (zib ws n) :=
 ⟨by simp [zib, RS.fresh], fun _ _ h => absurd h zzd, fun _ _ h => (by cases h), fun _ _ h => absurd h zzd⟩
theorem Sto.made {B : Nat} {w2 w3 w4 W' : World} {rb ab sb tm sv n : Nat} {S2 S3 : Nat -> Prop} {ws : List Nat} {lv : Value} (hB : B <= w2.heap.size) (hR : Rol w2.heap.size w3 rb 0 (RS.fresh n) S2) (hA : Atl w3.heap.size w4 ab ⟨ws.length, [0]⟩ S3) (b34 : Below w3.heap.size w3 w4) (b23 : w2.heap.size <= w3.heap.size) (b4 : Below w4.heap.size w4 W')
  (hbox : W'.heap[sb]? = some (.cells #[lv, .pointer (some ⟨ab, 0, none⟩), .map (some tm), .pointer (some ⟨rb, 0, none⟩), .slice (some ⟨sv, 0, none⟩) n n] 183 (0, 0))) (hmap : PMap W' tm (fun _ => none)) (hseat : W'.heap[sv]? = some (.cells (zae (List.replicate n (0, 0))).toArray 267 (0, 0)))
  (hw : Ints w4.heap.size W' lv ws) (h1 : w4.heap.size <= sb) (h2 : w4.heap.size <= tm) (h3 : w4.heap.size <= sv) (hok : okW ws) :
  ∃ c : CV, Sto none B W' sb c (zib ws n) /\ c.t = 0 /\ ∀ k, c.f k ≠ (0, 0, 0) -> w2.heap.size <= k := by
 classical
 obtain ⟨f, hf⟩ : ∃ f : Nat -> Nat × Nat × Nat, f = fun k => if k = sb \/ k = tm \/ k = sv \/ lv.ownBlock = some k then (1, 0, 0) else if S2 k then (2, 0, 0) else if S3 k then (3, 0, 0) else (0, 0, 0) := ⟨_, rfl⟩
 have l34 := b34.size
 have l4 := b4.size
 have one : ∀ k, (k = sb \/ k = tm \/ k = sv \/ lv.ownBlock = some k) -> w4.heap.size <= k := fun k hk => by
  rcases hk with rfl | rfl | rfl | hk
  ·exact h1
  ·exact h2
  ·exact h3
  exact (hw.lt k hk).1
 have s2 : ∀ k, S2 k -> w2.heap.size <= k /\ k < w3.heap.size := fun k hk => hR.lt k hk
 have s3 : ∀ k, S3 k -> w3.heap.size <= k /\ k < w4.heap.size := fun k hk => hA.lt k hk
 have f1 : ∀ k, f k = (1, 0, 0) ↔ k = sb \/ k = tm \/ k = sv \/ lv.ownBlock = some k := fun k => by
  rw [hf]
  show (if _ then _ else _) = _ ↔ _
  split
  ·exact ⟨fun _ => by assumption, fun _ => rfl⟩
  rename_i hn
  split
  ·exact ⟨fun e => by simp at e, fun e => absurd e hn⟩
  split
  ·exact ⟨fun e => by simp at e, fun e => absurd e hn⟩
  exact ⟨fun e => by simp at e, fun e => absurd e hn⟩
 have f2 : ∀ k, f k = (2, 0, 0) ↔ S2 k := fun k => by
  rw [hf]
  show (if _ then _ else _) = _ ↔ _
  split
  ·rename_i hn
   exact ⟨fun e => by simp at e, fun e => by have := one k hn; have := s2 k e; omega⟩
  split
  ·exact ⟨fun _ => by assumption, fun _ => rfl⟩
  rename_i hn
  split
  ·exact ⟨fun e => by simp at e, fun e => absurd e hn⟩
  exact ⟨fun e => by simp at e, fun e => absurd e hn⟩
 have f3 : ∀ k, f k = (3, 0, 0) ↔ S3 k := fun k => by
  rw [hf]
  show (if _ then _ else _) = _ ↔ _
  split
  ·rename_i hn
   exact ⟨fun e => by simp at e, fun e => by have := one k hn; have := s3 k e; omega⟩
  split
  ·rename_i hn
   exact ⟨fun e => by simp at e, fun e => by have := s2 k hn; have := s3 k e; omega⟩
  split
  ·exact ⟨fun _ => by assumption, fun _ => rfl⟩
  rename_i hn
  exact ⟨fun e => by simp at e, fun e => absurd e hn⟩
 have fany : ∀ k, f k ≠ (0, 0, 0) -> (k = sb \/ k = tm \/ k = sv \/ lv.ownBlock = some k) \/ S2 k \/ S3 k := fun k hk => by
  rw [hf] at hk
  change (if _ then _ else _) ≠ _ at hk
  split at hk
  ·exact .inl (by assumption)
  split at hk
  ·exact .inr (.inl (by assumption))
  split at hk
  ·exact .inr (.inr (by assumption))
  exact absurd rfl hk
 have hlt : ∀ k, f k ≠ (0, 0, 0) -> w2.heap.size <= k /\ k < W'.heap.size := fun k hk => by
  have L := fun {k : Nat} {o : Obj} (h : W'.heap[k]? = some o) => (Array.getElem?_eq_some_iff.1 h).1
  rcases fany k hk with q | q | q
  ·have q' := one k q
   refine ⟨by omega, ?_⟩
   rcases q with rfl | rfl | rfl | q
   ·exact L hbox
   ·exact hmap.lt
   ·exact L hseat
   exact (hw.lt k q).2
  ·have := s2 k q; exact ⟨this.1, by omega⟩
  have := s3 k q; exact ⟨by omega, by omega⟩
 refine ⟨⟨lv, ab, tm, rb, sv, 0, List.replicate n (0, 0), fun _ => none, fun _ => ⟨0, .nilIface, 0, fun _ => 0⟩, f⟩, ⟨?_, ?_, ?_, ?_, hseat, ?_, fun n' own h => (by cases h), f1, fun k hk => ⟨Nat.le_trans hB (hlt k hk).1, (hlt k hk).2⟩, hok, by simp [zib], z8y ws n, fun k n' hk => ?_, by simp⟩, rfl, fun k hk => (hlt k hk).1⟩
 ·unfold CV.box
  simpa using hbox
 ·exact hw.lower (by omega)
 ·exact zdq ((hA.later b4).lower (by omega)) f3
 ·exact zdw (zyi ((hR.later b34).later b4) hB) f2
 ·exact hmap
 rcases fany k (zan hk).1 with q | q | q
 ·exact absurd ((f1 k).2 q) (zan hk).2.1
 ·exact absurd ((f2 k).2 q) (zan hk).2.2.1
 exact absurd ((f3 k).2 q) (zan hk).2.2.2
end So
namespace So
open Go.RowKit Go.Shelf Go.Maps
open Ro (zae zdm)
theorem z2h : (Tryz.prog.info? 267).map (fun i => (i.zero, i.size, i.bytes)) = some (some (.agg #[.int .i64 0, .int .i64 0]), 2, 16) := by kernel_rfl
theorem zvf (n : Nat) : madeCells (Value.cells (.agg #[.int .i64 0, .int .i64 0])) (n * 2) = (zae (List.replicate n (0, 0))).toArray := by
 have e0 : Value.cells (.agg #[.int .i64 0, .int .i64 0]) = #[.int .i64 0, .int .i64 0] := by simp [Value.cells]
 rw [e0]
 apply Array.toList_inj.1
 refine List.ext_getElem? fun t => ?_
 show _ = (zae (List.replicate n (0, 0)))[t]?
 by_cases ht : t < n * 2
 ·obtain ⟨p, hp⟩ : ∃ p : Nat × Nat, p = (0, 0) := ⟨_, rfl⟩
  have hr : (List.replicate n (0, 0) : List (Nat × Nat))[t / 2]? = some (0, 0) := by rw [List.getElem?_replicate, if_pos (by omega)]
  obtain ⟨e1, e2⟩ := zkn hr
  rcases Nat.mod_two_eq_zero_or_one t with h | h
  ·rw [show t / 2 * 2 = t by omega] at e1
   rw [e1]
   simp [madeCells, ht, h]
  rw [show t / 2 * 2 + 1 = t by omega] at e2
  rw [e2]
  simp [madeCells, ht, h]
 rw [List.getElem?_eq_none (by simp [madeCells]; omega), List.getElem?_eq_none (by rw [zdm]; simp; omega)]
theorem zzy (W : World) (n : Nat) (hn : n <= 64) : (Instr.makeSlice 179 (.int .i64 (n : Int)) (.int .i64 (n : Int))).run Tryz.prog W = .ok (.slice (some ⟨W.heap.size, 0, none⟩) n n) (W.alloc (.cells (zae (List.replicate n (0, 0))).toArray 267)) := by
 obtain ⟨i0, hi, hz0, hz1, hz2⟩ := info_parts z2h
 have h := run_makeSlice (P := Tryz.prog) W 179 267 i0 (.agg #[.int .i64 0, .int .i64 0]) Tryz.underlying179 hi hz0 .i64 .i64 (n : Int) (n : Int) (by omega) (by omega) (by rw [hz1]; simp; omega) (by rw [hz2]; omega) (by omega)
 rw [hz1, Int.toNat_natCast, zvf] at h
 exact h
end So
namespace So
open Go.RowKit Go.Shelf Go.Maps
open At (St zaa zac Ints)
open Ro (zdf)
theorem z3y {ops : Array Oper} {o : Oper} {a : Act} {K : Act -> World -> Prop} {Q : Exit -> Act -> World -> Prop} {E : Prop} (hgd : o.guard = none) (s x : Operand)
  (ho : o.op = .call { callee := .builtin .append, args := #[s, x], argTypes := #[68, 68] }) {B sb : Nat} {wc : World} {ov : Value} {l : List Nat} {k : Nat} (hown : Ints B wc ov l) (hl : l.length <= 1000) (hB : B <= wc.heap.size)
  {cs : Array Value} (hbox : wc.heap[sb]? = some (.cells cs 183 (0, 0))) (hcs : cs[0]? = some ov) (hne : ov.ownBlock ≠ some sb)
  (hs : a.eval s = ov) (hx : a.eval x = .slice (some ⟨wc.heap.size, 0, none⟩) 1 1)
  (h : ∀ g' cap w2, Hid (Ints B w2 (.slice (some ⟨g', 0, none⟩) (l.length + 1) cap) (l ++ [k]) /\ w2.heap[sb]? = some (.cells cs 183 (0, 0)) /\ St (fun x => ov.ownBlock = some x) wc w2 /\ (ov.ownBlock = some g' \/ wc.heap.size <= g')) -> w2.cell? ⟨sb, 0, none⟩ = some ov -> w2.frozen? ⟨sb, 0, none⟩ = false -> K (a.put o.dst (.slice (some ⟨g', 0, none⟩) (l.length + 1) cap)) w2) :
  if Region.wanted o (yielded ops a.tmps) = true then Oper.wp Tryz.prog o a (wc.alloc (.cells #[.int .i64 (k : Int)] 3)).drew K Q else E := by
 obtain ⟨i0, hi, hz0, hz1, hz2⟩ := info_parts zdf
 have hb : Below wc.heap.size wc (wc.alloc (.cells #[.int .i64 (k : Int)] 3)).drew := ((Below.refl _ _).alloc (Nat.le_refl _) _).drew
 have ho2 : (wc.alloc (.cells #[.int .i64 (k : Int)] 3)).drew.ownsRow B 3 1 ov l.length (l.map At.gI) := World.ownsRow.alloc hown _
 have hz : (wc.alloc (.cells #[.int .i64 (k : Int)] 3)).drew.heap.size = wc.heap.size + 1 := by simp
 have hh := heap_alloc_new wc (.cells #[.int .i64 (k : Int)] 3)
 refine step_append_lies _ hgd s x 68 ho B 3 i0 (.int .i64 0) 1 8 Tryz.underlying68 hi hz0 hz1 hz2 rfl (by decide) ov l.length (l.map At.gI) hs ho2 ⟨wc.heap.size, 0, none⟩ 1 1 [At.gI k] hx rfl (fun j u hu => by
  rw [zbx]
  match j, hu with
  | 0, hu =>
   simp at hu
   subst hu
   exact zaa (W := wc.alloc _) hh rfl
  | j + 1, hu => simp at hu) (by intro u hu; simp at hu; subst hu; rfl) (by decide) (by unfold maxLen; omega) (by omega) (by omega) (wc.heap.size + 1) hz ?_
 intro g' cap w2 ow hg hat hlt
 have st : St (fun x => ov.ownBlock = some x) wc w2 := (St.of_below hb).trans (St.zam (S := fun x => ov.ownBlock = some x) hg fun k e => e) fun _ _ q => q
 have hb2 := st.at hbox hne
 refine h g' cap w2 ⟨?_, hb2, st, ?_⟩ (zaa hb2 hcs) (zac hb2 0)
 ·show World.ownsRow _ _ _ _ _ _ _
  rw [List.map_append, List.length_append]
  exact ow
 rcases hat with h1 | h1
 ·exact .inl h1
 exact .inr (by omega)
structure Nw (w4 w5 : World) (ab rb n : Nat) (l : List Nat) (lv : Value) (wr : World) : Prop where
 box : wr.heap[w4.heap.size + 2]? = some (.cells #[lv, .pointer (some ⟨ab, 0, none⟩), .map (some w4.heap.size), .pointer (some ⟨rb, 0, none⟩), .slice (some ⟨w4.heap.size + 1, 0, none⟩) n n] 183 (0, 0))
 row : Ints w5.heap.size wr lv l
 st : St (fun k => k = w4.heap.size + 2) w5 wr
theorem Nw.next {w4 w5 : World} {ab rb n : Nat} {l : List Nat} {lv lv' : Value} {wr wc w2 : World} {k : Nat} (h : Nw w4 w5 ab rb n l lv wr) (hz : w5.heap.size = w4.heap.size + 3) (hb : Below wr.heap.size wr wc) (h1 : Ints w5.heap.size w2 lv' (l ++ [k])) (h2 : w2.heap[w4.heap.size + 2]? = some (.cells #[lv, .pointer (some ⟨ab, 0, none⟩), .map (some w4.heap.size), .pointer (some ⟨rb, 0, none⟩), .slice (some ⟨w4.heap.size + 1, 0, none⟩) n n] 183 (0, 0))) (h3 : St (fun x => lv.ownBlock = some x) wc w2) : Nw w4 w5 ab rb n (l ++ [k]) lv' (w2.setCell ⟨w4.heap.size + 2, 0, none⟩ lv') := by
 have s1 := St.setCell (S := fun k => k = w4.heap.size + 2) (a := w2) (p := ⟨w4.heap.size + 2, 0, none⟩) lv' rfl
 have hlow := fun k hk => (h.row.lt k hk).1
 refine ⟨?_, zai h1 s1 fun k hk e => ?_, ?_⟩
 ·have := heap_setCell_same w2 (w4.heap.size + 2) 0 _ _ lv' h2
  simpa using this
 ·have := (h1.lt k hk).1; omega
 refine ((h.st.trans (St.of_below (S := fun _ => False) hb) fun _ _ q => q.elim).trans h3 fun k hk e => ?_).trans s1 fun _ _ q => q
 have := hlow k e; omega
end So
namespace So
open Go.RowKit Go.Shelf Go.Maps
open At (St bAl zaa zab)
open Ro (zae)
open Rs (okW)
open Sc (Cmp Rsc zah zaw zbu zbv zak)
theorem ziz {Ad : Nat -> Addr} {n d : Nat} {W : World} {v : Value} (h : Top Ad n W d v []) : v = .nilIface := by
 rcases h with ⟨h, -⟩ | ⟨p, h, -⟩ | ⟨b, vs, -, h, hs⟩
 ·exact h
 ·simp at h
 have e : vs.length = 0 := by simpa using (congrArg List.length h).symm
 have := hs.two
 omega
set_option maxRecDepth 100000 in
theorem zer (Ad : Nat -> Addr) (W : World) (va vb : Value) (cs : List Cmp) (rs : List Rsc) (hE : Env8 W Ad) (hC : zah W va cs) (hQ : zaw W vb rs) (hsC : zbu cs) (hsQ : zbv rs) (hck : zak cs rs = []) (ws : List Nat) (hws : cs.map (fun c => c.wd) = ws.map fun (w : Nat) => (w : Int)) (hok : okW ws) (n : Nat) (hn : n <= 64) :
  Calls Tryz.prog 48 #[.agg #[va, vb], .int .i64 (n : Int)] W fun e W' => ∃ sb, e = .returned (.tuple #[.pointer (some ⟨sb, 0, none⟩), .nilIface]) /\ ∃ c, Sto none W.heap.size W' sb c (zib ws n) /\ c.t = 0 /\ Below W.heap.size W W' := by
 have hmm := @run_makeMap Tryz.prog
 obtain ⟨w1, hw1⟩ : ∃ w1, w1 = W.alloc (.cells #[va, vb] 25) := ⟨_, rfl⟩
 have b1 : Below W.heap.size W w1 := by rw [hw1]; exact bAl _ _
 have r1 : w1.heap[W.heap.size]? = some (.cells #[va, vb] 25 (0, 0)) := by rw [hw1]; exact heap_alloc_new W _
 have CK := hid (Sc.zbl Ad w1 va vb cs rs (hE.later b1) (hC.later b1) (hQ.later b1) hsC hsQ)
 rw [hck] at CK
 obtain ⟨a, cc, rfl, hcap, hlay⟩ := id hC
 obtain ⟨a', c', rfl, -, -⟩ := id hQ
 have x0 : w1.cell? ⟨W.heap.size, 0, none⟩ = some (.slice a cs.length cc) := zaa r1 rfl
 have x1 : w1.cell? ⟨W.heap.size, 1, none⟩ = some (.slice a' rs.length c') := zaa r1 rfl
 have hl16 : cs.length <= 16 := by have := congrArg List.length hws; simp at this; have := hok.1; omega
 have hlw : cs.length = ws.length := by have := congrArg List.length hws; simpa using this
 have HLW := hid hlw
 have hli : (cs.length : Int) <= 16 := by omega
 clear hlw
 have HW1 := hid hw1
 have B1 := hid b1
 have R1 := hid r1
 have HC := hid hC
 have HWS := hid hws
 have HOK := hid hok
 have hni : (n : Int) <= 64 := by omega
 have hn0 : (0 : Int) <= (n : Int) := by omega
 have hn0' : ¬ ((n : Int) < 0) := by omega
 have hse := fun w => zzy w n hn
 have RN := hid fun w => Ro.z9i w n hn
 have AN := hid fun w => At.zer w cs.length hl16
 clear hw1 b1 r1 hC hQ hsC hsQ hck hws hok hE hlay
 go_enter Tryz.func48, Tryz.ntmps48
 go_upto_region 1 with fail
 rw [<- HW1.out]
 go_wp2_with fail
 refine CK.out.mono ?_
 rintro e w2 ⟨v', rfl, ht, hb2⟩
 obtain rfl := ziz ht
 have B2 := hid (B1.out.trans (hb2.mono B1.out.size))
 have R2 := hid (zab hb2 (Nat.le_refl _) R1.out)
 clear ht hb2 CK x0 x1
 go_wp2_with fail
 refine (RN.out w2).mono ?_
 rintro e w3 ⟨rb, S2, rfl, hr3, hb3⟩
 have R3 := hid hr3
 have B23 := hid hb3
 have q3 := zab hb3 (Nat.le_refl _) R2.out
 have x0 : w3.cell? ⟨W.heap.size, 0, none⟩ = some (.slice a cs.length cc) := zaa q3 rfl
 have Q3 := hid q3
 clear hr3 hb3 RN q3
 go_wp2_with fail
 refine (AN.out w3).mono ?_
 rintro e w4 ⟨ab, S3, rfl, ha4, hb4⟩
 have A4 := hid ha4
 have B34 := hid hb4
 have Q4 := hid (zab hb4 (Nat.le_refl _) Q3.out)
 clear ha4 hb4 AN x0
 obtain ⟨w5, hw5⟩ : ∃ w5, w5 = ((w4.alloc (.map #[] 0)).alloc (.cells (zae (List.replicate n (0, 0))).toArray 267)).alloc (.cells #[.slice none 0 0, .pointer (some ⟨ab, 0, none⟩), .map (some w4.heap.size), .pointer (some ⟨rb, 0, none⟩), .slice (some ⟨w4.heap.size + 1, 0, none⟩) n n] 183) := ⟨_, rfl⟩
 have ba := bAl w4 (.map #[] 0)
 have bb := bAl (w4.alloc (.map #[] 0)) (.cells (zae (List.replicate n (0, 0))).toArray 267)
 have bc := bAl ((w4.alloc (.map #[] 0)).alloc (.cells (zae (List.replicate n (0, 0))).toArray 267)) (.cells #[.slice none 0 0, .pointer (some ⟨ab, 0, none⟩), .map (some w4.heap.size), .pointer (some ⟨rb, 0, none⟩), .slice (some ⟨w4.heap.size + 1, 0, none⟩) n n] 183)
 have na := heap_alloc_new (w4.alloc (.map #[] 0)) (.cells (zae (List.replicate n (0, 0))).toArray 267)
 have nb := heap_alloc_new ((w4.alloc (.map #[] 0)).alloc (.cells (zae (List.replicate n (0, 0))).toArray 267)) (.cells #[.slice none 0 0, .pointer (some ⟨ab, 0, none⟩), .map (some w4.heap.size), .pointer (some ⟨rb, 0, none⟩), .slice (some ⟨w4.heap.size + 1, 0, none⟩) n n] 183)
 have z5 : w5.heap.size = w4.heap.size + 3 := by rw [hw5]; simp
 rw [<- hw5] at bc nb
 have S5 : Hid (w5.heap[w4.heap.size + 1]? = some (.cells (zae (List.replicate n (0, 0))).toArray 267 (0, 0))) := by
  have := zab bc (Nat.le_refl _) na
  rw [World.size_alloc] at this
  exact this
 have M5 : Hid (PMap w5 w4.heap.size (fun _ => none)) := ((znc w4).kept (T := fun _ => False) (St.of_below bb) id).kept (T := fun _ => False) (St.of_below bc) id
 have B45 : Hid (Below w4.heap.size w4 w5) := (ba.trans (bb.mono ba.size)).trans (bc.mono (ba.trans (bb.mono ba.size)).size)
 have N5 : Hid (Nw w4 w5 ab rb n [] (.slice none 0 0) w5) := ⟨by rw [World.size_alloc, World.size_alloc] at nb; exact nb, World.ownsRow_nil _ _ _ _, St.of_below (Below.refl _ _)⟩
 have BW5 := hid ((B2.out.trans (B23.out.mono B2.out.size)).trans ((B34.out.trans (B45.out.mono B34.out.size)).mono (B2.out.trans (B23.out.mono B2.out.size)).size))
 have Q5 := hid (zab B45.out (Nat.le_refl _) Q4.out)
 have x5 : w5.cell? ⟨W.heap.size, 0, none⟩ = some (.slice a cs.length cc) := zaa Q5.out rfl
 have HW5 := hid hw5
 clear ba bb bc na nb hw5
 go_upto_region 11 with fail
 rw [<- HW5.out]
 clear hse hmm
 go_wp2_with fail
 go_loopg [12, 47] cs.length (fun gh _ i wr => ∃ k : Nat, k <= cs.length /\ gh = cs.length - k /\ i = .int .i64 (k : Int) /\ ∃ lv, Hid (Nw w4 w5 ab rb n (ws.take k) lv wr))
 case atStart => exact ⟨0, Nat.zero_le _, rfl, rfl, _, N5.out⟩
 case round =>
  obtain ⟨k, hk, rfl, rfl, lv, HN⟩ := hrel
  by_cases hlt : k < cs.length
  ·have hki : (k : Int) < (cs.length : Int) := by omega
   obtain ⟨x, hx⟩ := zal cs k hlt
   obtain ⟨wk, hwk⟩ := zal ws k (by rw [<- HLW.out]; exact hlt)
   have hxw : x.wd = (wk : Int) := by
    have := congrArg (fun l => l[k]?) HWS.out
    simpa [hx, hwk] using this
   obtain ⟨b, o, rfl, hc⟩ : ∃ b o, a = some ⟨b, o, none⟩ /\ ∀ (j : Nat) (x : Cmp), cs[j]? = some x -> W.cell? ⟨b, o + j * 7, none⟩ = some (.string x.s) /\ W.cell? ⟨b, o + j * 7 + 1, none⟩ = some (.int .i64 x.wd) /\ W.cell? ⟨b, o + j * 7 + 2, none⟩ = some (.bool x.rb) /\ W.cell? ⟨b, o + j * 7 + 3, none⟩ = some (.int .i64 x.d0) /\ W.cell? ⟨b, o + j * 7 + 4, none⟩ = some (.int .i64 x.d1) /\ W.cell? ⟨b, o + j * 7 + 5, none⟩ = some (.int .i64 x.d2) /\ W.cell? ⟨b, o + j * 7 + 6, none⟩ = some (.int .i64 x.d3) := by
    obtain ⟨a2, c2, e1, -, e3⟩ := HC.out
    have e2 : a = a2 := by simpa using (Value.slice.inj e1).1
    rcases e3 with h | h
    ·rw [h] at hlt; simp at hlt
    rw [e2]; exact h
   obtain ⟨c0, c1, c2, c3, c4, c5, c6⟩ := hc k x hx
   have hWw : W.heap.size <= w4.heap.size := Nat.le_trans (Nat.le_trans B2.out.size B23.out.size) B34.out.size
   have S := fun {p : Addr} {u : Value} (h : W.cell? p = some u) => zax HN.out.st (At.seen BW5.out (Nat.le_refl _) h) (fun e => by have := World.block_lt_of_cell? W _ h; omega)
   have c0 := S c0
   have c1 := S c1
   have c2 := S c2
   have c3 := S c3
   have c4 := S c4
   have c5 := S c5
   have c6 := S c6
   rw [hxw] at c1
   obtain ⟨w6, hw6⟩ : ∃ w6, w6 = wr.alloc (.cells #[.string x.s, .int .i64 (wk : Int), .bool x.rb, .int .i64 x.d0, .int .i64 x.d1, .int .i64 x.d2, .int .i64 x.d3] 96) := ⟨_, rfl⟩
   have b6 : Below wr.heap.size wr w6 := by rw [hw6]; exact bAl _ _
   have r6 : w6.heap[wr.heap.size]? = some (.cells #[.string x.s, .int .i64 (wk : Int), .bool x.rb, .int .i64 x.d0, .int .i64 x.d1, .int .i64 x.d2, .int .i64 x.d3] 96 (0, 0)) := by rw [hw6]; exact heap_alloc_new wr _
   obtain ⟨l, hl⟩ : ∃ l, l = ws.take k := ⟨_, rfl⟩
   have HT : Hid (ws.take (k + 1) = l ++ [wk]) := by show _ = _; rw [List.take_add_one, hwk, hl]; rfl
   rw [<- hl] at HN
   obtain ⟨oa, oc, rfl⟩ := HN.out.row.slice
   have hl9 : l.length <= 1000 := by rw [hl]; simp; omega
   have ROW := hid (HN.out.row.later b6)
   have BOX := hid (zab b6 (Nat.le_refl _) HN.out.box)
   have y0 : w6.cell? ⟨w4.heap.size + 2, 0, none⟩ = some (.slice oa l.length oc) := zaa BOX.out rfl
   have y1 : w6.cell? ⟨wr.heap.size, 1, none⟩ = some (.int .i64 (wk : Int)) := zaa r6 rfl
   have hne : (Value.slice oa l.length oc).ownBlock ≠ some (w4.heap.size + 2) := fun e => by have := (ROW.out.lt _ e).1; omega
   have hB6 : w5.heap.size <= w6.heap.size := Nat.le_trans HN.out.st.size b6.size
   have htn : ¬ (w4.heap.size + 2 = w6.heap.size) := by omega
   have htw : w4.heap.size + 2 < w6.heap.size := by omega
   have hwn : ¬ (wr.heap.size = w6.heap.size) := by have := (Array.getElem?_eq_some_iff.1 r6).1; omega
   have hwl : wr.heap.size < w6.heap.size := (Array.getElem?_eq_some_iff.1 r6).1
   have B6 := hid b6
   have HW6 := hid hw6
   clear S hc hx hwk hxw hw6 b6 r6 hl
   go_upto_region 14 with fail
   rw [<- HW6.out]
   go_region_law (refine z3y (k := wk) rfl _ _ rfl ROW.out hl9 hB6 BOX.out rfl hne rfl rfl ?_; intro g' cap w7 hg hx7 hf7)
   all_goals
    have NX := hid (HN.out.next z5 B6.out hg.out.1 hg.out.2.1 hg.out.2.2.1)
    clear hx7 hf7
    go_wp2_with fail
    go_roundg (cs.length - (k + 1))
    case measure => omega
    case rel => exact ⟨k + 1, by omega, rfl, by go_num, _, by rw [HT.out]; exact NX.out⟩
  have hki : ¬ ((k : Int) < (cs.length : Int)) := by omega
  have hkl : k = cs.length := by omega
  have hN := HN.out
  have ew : ws.take k = ws := List.take_of_length_le (by rw [hkl, HLW.out]; exact Nat.le_refl _)
  rw [ew] at hN
  have hA := A4.out
  rw [HLW.out] at hA
  have MD := hid (Sto.made (B := W.heap.size) (ws := ws) B2.out.size R3.out hA B34.out B23.out.size (B45.out.trans (hN.st.below (B := w4.heap.size) (fun q hq => by omega) B45.out.size)) hN.box (M5.out.kept hN.st (by omega)) (hN.st.at S5.out (by omega)) (hN.row.lower (by omega)) (by omega) (Nat.le_refl _) (by omega) HOK.out)
  have BB := hid (BW5.out.trans (hN.st.below (B := W.heap.size) (fun q hq => by have := B2.out.size; have := B23.out.size; have := B34.out.size; omega) BW5.out.size))
  clear hN hA ew
  go_wp2_with fail
  obtain ⟨c, e1, e2, -⟩ := MD.out
  exact bodyPost_ret (v := .tuple #[.pointer (some ⟨w4.heap.size + 2, 0, none⟩), .nilIface]) (by simp [results, Tryz.results48, go_sem]) rfl ⟨_, rfl, c, e1, e2, BB.out⟩
end So
namespace Bd
open Go.RowKit Go.Shelf Go.Maps
theorem bAl (W : World) (o : Obj) : Below W.heap.size W (W.alloc o) := (Below.refl _ _).alloc (Nat.le_refl _) _
theorem zaa {W : World} {b j : Nat} {cs : Array Value} {e : TypeId} {u : Value} (h : W.heap[b]? = some (.cells cs e (0, 0))) (hj : cs[j]? = some u) : W.cell? ⟨b, j, none⟩ = some u := by
 rw [cell_of_row _ _ j _ e (0, 0) h]; exact hj
theorem zac {W : World} {b : Nat} {cs : Array Value} {e : TypeId} (h : W.heap[b]? = some (.cells cs e (0, 0))) (j : Nat) : W.frozen? ⟨b, j, none⟩ = false := by
 unfold World.frozen?
 rw [show (⟨b, j, none⟩ : Addr).block = b from rfl, h]
 simp
theorem zab {W W' : World} {B b : Nat} {o : Obj} (hb : Below B W W') (hB : W.heap.size <= B) (h : W.heap[b]? = some o) : W'.heap[b]? = some o := (hb.block b (Nat.lt_of_lt_of_le (Array.getElem?_eq_some_iff.1 h).1 hB)).trans h
theorem seen {B : Nat} {W W' : World} (hb : Below B W W') (hB : W.heap.size <= B) {p : Addr} {u : Value} (h : W.cell? p = some u) : W'.cell? p = some u := (hb.cell (p := p) (Nat.lt_of_lt_of_le (World.block_lt_of_cell? W p h) hB)).trans h
def entO : Option (Int × Int) -> Int × Int
 | none => (0, 0)
 | some e => e
def entD (e : Int × Int) : DataW Unit := .agg [.lit (.int .i64 e.1), .lit (.int .i64 e.2)]
theorem z1y {x y : Int × Int} (h : entD x = entD y) : x = y := by
 unfold entD at h
 simp at h
 exact Prod.ext h.1 h.2
def zfr : Value -> Option (DataW Unit × List MemPlace)
 | .agg a => match a.toList with
  | [.int .i64 i, .int .i64 g] => some (entD (i, g), [])
  | _ => none
 | _ => none
theorem zkg (i g : Int) : zfr (entV i g) = some (entD (i, g), []) := rfl
theorem zpb {v : Value} {y : DataW Unit × List MemPlace} (h : zfr v = some y) : ∃ i g, v = entV i g /\ y = (entD (i, g), []) := by
 unfold zfr at h
 split at h
 ·rename_i a
  split at h
  ·rename_i i g he
   cases h
   refine ⟨i, g, ?_, rfl⟩
   unfold entV
   obtain ⟨l⟩ := a
   simp at he
   rw [he]
  cases h
 cases h
def H1 (D : DataW Unit) (l : Prs) : Prop := (∀ id, I64 id -> Maps.has D (.int .i64 id) = (who l id).isSome /\ D.atKey (.int .i64 id) (entD (0, 0)) = entD (entO (who l id))) /\ Maps.size D = l.length
def H2 (D : DataW Unit) (l : Prs) : Prop := (∀ i g, I64 i -> I64 g -> Maps.has D (kl i g) = (num l (i, g)).isSome /\ D.atKey (kl i g) (.lit (.int .i64 0)) = .lit (.int .i64 ((num l (i, g)).getD 0))) /\ Maps.size D = l.length
def M1 (W : World) (mb : Nat) (l : Prs) : Prop := ∃ D, W.ownsMap Tryz.prog 3 zfr mb (Maps.size D) D /\ H1 D l
def M2 (W : World) (mb : Nat) (l : Prs) : Prop := ∃ D, W.ownsMap Tryz.prog 144 (plainElem Tryz.prog 3) mb (Maps.size D) D /\ H2 D l
theorem zcf {k : TypeId} {R : Value -> Option (DataW Unit × List MemPlace)} {W : World} {mb n : Nat} {D : DataW Unit} (h : W.ownsMap Tryz.prog k R mb n D) : W.ownsMap Tryz.prog k R mb (Maps.size D) D := by
 obtain ⟨es, clock, hb, F, _, rfl⟩ := h
 exact ⟨es, clock, hb, F, by simp [Maps.size, length_sorted], rfl⟩
theorem zcd {W W' : World} {mb : Nat} (h : W.mapTurned W' mb) : At.St (fun k => k = mb) W W' := At.St.zam h.grown fun k e => by simpa using e.symm
section
variable {W W' : World} {mb : Nat} {l : Prs} {n : Int} {t e : TypeId}
theorem M1.lt (h : M1 W mb l) : mb < W.heap.size := by obtain ⟨D, h1, -⟩ := h; exact h1.lt
theorem M2.lt (h : M2 W mb l) : mb < W.heap.size := by obtain ⟨D, h1, -⟩ := h; exact h1.lt
theorem M1.kept {T : Nat -> Prop} (h : M1 W mb l) (hs : At.St T W W') (hn : ¬ T mb) : M1 W' mb l := by
 obtain ⟨D, ⟨es, cl, hb, q⟩, h2⟩ := h
 exact ⟨D, ⟨es, cl, hs.at hb hn, q⟩, h2⟩
theorem M2.kept {T : Nat -> Prop} (h : M2 W mb l) (hs : At.St T W W') (hn : ¬ T mb) : M2 W' mb l := by
 obtain ⟨D, ⟨es, cl, hb, q⟩, h2⟩ := h
 exact ⟨D, ⟨es, cl, hs.at hb hn, q⟩, h2⟩
theorem M1.obj (h : M1 W mb l) : ∃ es cl, W.heap[mb]? = some (.map es cl) := by
 obtain ⟨D, ⟨es, cl, hb, q⟩, h2⟩ := h
 exact ⟨es, cl, hb⟩
theorem M2.obj (h : M2 W mb l) : ∃ es cl, W.heap[mb]? = some (.map es cl) := by
 obtain ⟨D, ⟨es, cl, hb, q⟩, h2⟩ := h
 exact ⟨es, cl, hb⟩
theorem z8p (W : World) : M1 (W.alloc (.map #[] 0)) W.heap.size [] :=
 ⟨.map [], World.ownsMap_made W Tryz.prog 3 zfr, fun _ _ => ⟨rfl, rfl⟩, rfl⟩
theorem z9c (W : World) : M2 (W.alloc (.map #[] 0)) W.heap.size [] :=
 ⟨.map [], World.ownsMap_made W Tryz.prog 144 (plainElem Tryz.prog 3), fun _ _ _ _ => ⟨rfl, rfl⟩, rfl⟩
theorem M1.look (h : M1 W mb l) (ht : Tryz.prog.underlying t = some (.map 3 144)) (id : Int) (hi : I64 id) :
  (Instr.lookup t (.map (some mb)) (.int .i64 id) true).run Tryz.prog W = .ok (.tuple #[.agg #[.int .i64 (entO (who l id)).1, .int .i64 (entO (who l id)).2], .bool (who l id).isSome]) W := by
 obtain ⟨D, h1, hH⟩ := h
 obtain ⟨v, ps, hr, hv⟩ := h1.look_ok zbs ht (zeroE W) (zkg 0 0) (zce id hi)
 obtain ⟨i, g, rfl, e2⟩ := zpb hv
 rw [(hH.1 id hi).2] at e2
 simp only [Prod.mk.injEq] at e2
 have e3 := z1y e2.1
 rw [hr, (hH.1 id hi).1, e3]
 rfl
theorem M2.look (h : M2 W mb l) (ht : Tryz.prog.underlying t = some (.map 144 3)) (i g : Int) (hi : I64 i) (hg : I64 g) :
  (Instr.lookup t (.map (some mb)) (.agg #[.int .i64 i, .int .i64 g]) true).run Tryz.prog W = .ok (.tuple #[.int .i64 ((num l (i, g)).getD 0), .bool (num l (i, g)).isSome]) W := by
 obtain ⟨D, h1, hH⟩ := h
 obtain ⟨v, ps, hr, hv⟩ := h1.look_ok zco ht (zun W) (plainElem_int Tryz.underlying3 (show (Lit.int .i64 0).wf = true by decide)) (zdg i g hi hg)
 obtain ⟨a, rfl, e2, -⟩ := plainElem_int_inv Tryz.underlying3 hv
 rw [(hH.1 i g hi hg).2] at e2
 simp only [Prod.mk.injEq, DataW.lit.injEq, Lit.int.injEq, true_and] at e2
 unfold entV at hr
 rw [hr, (hH.1 i g hi hg).1, e2.1]
theorem M1.store {m : Int} {id i g : Int} (h : M1 W mb l) (hok : okP n l) (hok2 : okP m (ins (id, i, g) l)) (hw : who l id = none) (ht : Tryz.prog.underlying t = some (.map 3 e)) (hid : I64 id) :
  ∃ w', (Instr.mapUpdate t (.map (some mb)) (.int .i64 id) (.agg #[.int .i64 i, .int .i64 g])).run Tryz.prog W = .ok () w' /\ M1 w' mb (ins (id, i, g) l) /\ At.St (fun k => k = mb) W w' := by
 obtain ⟨D, h1, hH⟩ := h
 have hs := hok.few
 obtain ⟨w', hr, h2, h3⟩ := h1.store zbs ht (by unfold maxLen; rw [hH.2]; omega) (zce id hid) (zkg i g)
 have hD := h1.tidy zbs
 refine ⟨w', hr, ⟨_, zcf h2, fun id' hi' => ?_, ?_⟩, zcd h3⟩
 ·rw [hok.z6e hok2 hw]
  by_cases q : id' = id
  ·subst q
   rw [if_pos rfl]
   exact ⟨Maps.has_put_same hD.isMap (zfl _) _, Maps.atKey_put_same hD.isMap (zfl _) _ _⟩
  rw [if_neg q, Maps.has_put_other (zcl q), Maps.atKey_put_other (zcl q)]
  exact hH.1 id' hi'
 rw [Maps.size_put hD, (hH.1 id hid).1, hw, zmm, hH.2]
 simp
theorem M2.store {m : Int} {id i g : Int} (h : M2 W mb l) (hok : okP n l) (hok2 : okP m (ins (id, i, g) l)) (hw : num l (i, g) = none) (ht : Tryz.prog.underlying t = some (.map 144 e)) (hid : I64 id) (hi : I64 i) (hg : I64 g) :
  ∃ w', (Instr.mapUpdate t (.map (some mb)) (.agg #[.int .i64 i, .int .i64 g]) (.int .i64 id)).run Tryz.prog W = .ok () w' /\ M2 w' mb (ins (id, i, g) l) /\ At.St (fun k => k = mb) W w' := by
 obtain ⟨D, h1, hH⟩ := h
 have hs := hok.few
 obtain ⟨w', hr, h2, h3⟩ := h1.store zco ht (by unfold maxLen; rw [hH.2]; omega) (zdg i g hi hg) (plainElem_int Tryz.underlying3 hid)
 have hD := h1.tidy zco
 refine ⟨w', hr, ⟨_, zcf h2, fun i' g' hi' hg' => ?_, ?_⟩, zcd h3⟩
 ·rw [hok.z6x hok2 hw]
  by_cases q : ((i', g') : Int × Int) = (i, g)
  ·rw [if_pos q]
   simp only [Prod.mk.injEq] at q
   obtain ⟨rfl, rfl⟩ := q
   exact ⟨Maps.has_put_same hD.isMap (zst _ _) _, Maps.atKey_put_same hD.isMap (zst _ _) _ _⟩
  have q' : kl i' g' ≠ kl i g := fun e => q (by obtain ⟨rfl, rfl⟩ := znv hi' hg' hi hg e; rfl)
  rw [if_neg q, Maps.has_put_other q', Maps.atKey_put_other q']
  exact hH.1 i' g' hi' hg'
 rw [Maps.size_put hD, (hH.1 i g hi hg).1, hw, zmm, hH.2]
 simp
theorem M1.drop {id : Int} {x : Int × Int} (h : M1 W mb l) (hok : okP n l) (hw : who l id = some x) (ht : Tryz.prog.underlying t = some (.map 3 e)) (hid : I64 id) (ty : TypeId) :
  ∃ w', (Builtin.delete_ #[t, 3] ty #[.map (some mb), .int .i64 id]).run Tryz.prog W = .ok (.tuple #[]) w' /\ M1 w' mb (del id l) /\ At.St (fun k => k = mb) W w' := by
 obtain ⟨D, h1, hH⟩ := h
 obtain ⟨w', hr, h2, h3⟩ := h1.drop zbs ht (zce id hid) ty
 have hD := h1.tidy zbs
 refine ⟨w', hr, ⟨_, zcf h2, fun id' hi' => ?_, ?_⟩, zcd h3⟩
 ·rw [hok.z8m]
  by_cases q : id' = id
  ·subst q
   rw [if_pos rfl]
   exact ⟨Maps.has_del_same, Maps.atKey_del_same _⟩
  rw [if_neg q, Maps.has_del_other (zcl q), Maps.atKey_del_other (zcl q)]
  exact hH.1 id' hi'
 have e1 := Maps.size_del (k := .int .i64 id) hD
 rw [(hH.1 id hid).1, hw, hH.2] at e1
 have e2 := zqj hok hw
 simp at e1
 omega
theorem M2.drop {id i g : Int} (h : M2 W mb l) (hok : okP n l) (hw : who l id = some (i, g)) (ht : Tryz.prog.underlying t = some (.map 144 e)) (hi : I64 i) (hg : I64 g) (ty : TypeId) :
  ∃ w', (Builtin.delete_ #[t, 144] ty #[.map (some mb), .agg #[.int .i64 i, .int .i64 g]]).run Tryz.prog W = .ok (.tuple #[]) w' /\ M2 w' mb (del id l) /\ At.St (fun k => k = mb) W w' := by
 obtain ⟨D, h1, hH⟩ := h
 obtain ⟨w', hr, h2, h3⟩ := h1.drop zco ht (zdg i g hi hg) ty
 have hD := h1.tidy zco
 refine ⟨w', hr, ⟨_, zcf h2, fun i' g' hi' hg' => ?_, ?_⟩, zcd h3⟩
 ·rw [hok.z9l hw]
  by_cases q : ((i', g') : Int × Int) = (i, g)
  ·rw [if_pos q]
   simp only [Prod.mk.injEq] at q
   obtain ⟨rfl, rfl⟩ := q
   exact ⟨Maps.has_del_same, Maps.atKey_del_same _⟩
  have q' : kl i' g' ≠ kl i g := fun e => q (by obtain ⟨rfl, rfl⟩ := znv hi' hg' hi hg e; rfl)
  rw [if_neg q, Maps.has_del_other q', Maps.atKey_del_other q']
  exact hH.1 i' g' hi' hg'
 have e1 := Maps.size_del (k := kl i g) hD
 rw [(hH.1 i g hi hg).1, (hok.num id (i, g)).2 ((hok.who id (i, g)).1 hw), hH.2] at e1
 have e2 := zqj hok hw
 simp at e1
 omega
end
structure Bg (B : Nat) (W : World) (bb ob nb : Nat) (n : Int) (l : Prs) : Prop where
 box : W.heap[bb]? = some (.cells #[.map (some ob), .map (some nb), .int .i64 n] 190 (0, 0))
 m1 : M1 W ob l
 m2 : M2 W nb l
 ok : okP n l
 low : B <= bb /\ B <= ob /\ B <= nb
 ne : ob ≠ nb
def Ft (bb ob nb k : Nat) : Prop := k = bb \/ k = ob \/ k = nb
section
variable {B : Nat} {W W' : World} {bb ob nb : Nat} {n : Int} {l : Prs}
theorem Bg.ne1 (h : Bg B W bb ob nb n l) : bb ≠ ob := fun q => by
 obtain ⟨es, cl, hb⟩ := h.m1.obj
 have := h.box
 rw [q, hb] at this
 cases this
theorem Bg.ne2 (h : Bg B W bb ob nb n l) : bb ≠ nb := fun q => by
 obtain ⟨es, cl, hb⟩ := h.m2.obj
 have := h.box
 rw [q, hb] at this
 cases this
theorem Bg.kept {T : Nat -> Prop} (h : Bg B W bb ob nb n l) (hs : At.St T W W') (hn : ∀ k, Ft bb ob nb k -> ¬ T k) : Bg B W' bb ob nb n l :=
 ⟨hs.at h.box (hn _ (.inl rfl)), h.m1.kept hs (hn _ (.inr (.inl rfl))), h.m2.kept hs (hn _ (.inr (.inr rfl))), h.ok, h.low, h.ne⟩
theorem Bg.later (h : Bg B W bb ob nb n l) (hb : Below W.heap.size W W') : Bg B W' bb ob nb n l := h.kept (T := fun _ => False) (At.St.of_below hb) fun _ _ q => q
theorem Bg.lt (h : Bg B W bb ob nb n l) (k : Nat) (hk : Ft bb ob nb k) : B <= k /\ k < W.heap.size := by
 rcases hk with rfl | rfl | rfl
 ·exact ⟨h.low.1, (Array.getElem?_eq_some_iff.1 h.box).1⟩
 ·exact ⟨h.low.2.1, h.m1.lt⟩
 exact ⟨h.low.2.2, h.m2.lt⟩
theorem Bg.c0 (h : Bg B W bb ob nb n l) : W.cell? ⟨bb, 0, none⟩ = some (.map (some ob)) := zaa h.box rfl
theorem Bg.c1 (h : Bg B W bb ob nb n l) : W.cell? ⟨bb, 1, none⟩ = some (.map (some nb)) := zaa h.box rfl
theorem Bg.c2 (h : Bg B W bb ob nb n l) : W.cell? ⟨bb, 2, none⟩ = some (.int .i64 n) := zaa h.box rfl
theorem Bg.lower {B' : Nat} (h : Bg B W bb ob nb n l) (hB : B' <= B) : Bg B' W bb ob nb n l := ⟨h.box, h.m1, h.m2, h.ok, by have := h.low; omega, h.ne⟩
end
section
variable {Ad : Nat -> Addr} {B : Nat} {W : World} {bb ob nb : Nat} {n : Int} {l : Prs}
theorem und1 : Tryz.prog.underlying 187 = some (.map 3 144) := Tryz.underlying187
theorem und2 : Tryz.prog.underlying 188 = some (.map 144 3) := Tryz.underlying188
def Rd (W : World) (bb nb b : Nat) (i g : Int) (x : Int) (r : Bool) : Prop := W.cell? ⟨bb, 1, none⟩ = some (.map (some nb)) /\ W.cell? ⟨b, 0, none⟩ = some (.int .i64 i) /\ W.cell? ⟨b, 1, none⟩ = some (.int .i64 g) /\ (Instr.lookup 188 (.map (some nb)) (.agg #[.int .i64 i, .int .i64 g]) true).run Tryz.prog W = .ok (.tuple #[.int .i64 x, .bool r]) W
theorem Bg.rd (h : Bg B W bb ob nb n l) {b : Nat} (i g : Int) (hi : I64 i) (hg : I64 g) (hb : W.heap[b]? = some (.cells #[.int .i64 i, .int .i64 g] 144 (0, 0))) : Rd W bb nb b i g ((num l (i, g)).getD 0) (num l (i, g)).isSome :=
 ⟨h.c1, zaa hb rfl, zaa hb rfl, h.m2.look und2 i g hi hg⟩
set_option maxRecDepth 100000 in
theorem z4i (h : Bg B W bb ob nb n l) (i g : Int) (hi : I64 i) (hg : I64 g) (hn : num l (i, g) = none) :
  Calls Tryz.prog 118 #[.pointer (some ⟨bb, 0, none⟩), .agg #[.int .i64 i, .int .i64 g]] W fun e W' => e = .returned .nilIface /\ Below W.heap.size W W' := by
 obtain ⟨w1, hw1⟩ : ∃ w1, w1 = W.alloc (.cells #[.int .i64 i, .int .i64 g] 144) := ⟨_, rfl⟩
 have b1 : Below W.heap.size W w1 := by rw [hw1]; exact bAl _ _
 have r1 : w1.heap[W.heap.size]? = some (.cells #[.int .i64 i, .int .i64 g] 144 (0, 0)) := by rw [hw1]; exact heap_alloc_new W _
 have KK : Hid (∀ W', Below w1.heap.size w1 W' -> W'.cell? ⟨bb, 1, none⟩ = some (.map (some nb)) /\ W'.cell? ⟨W.heap.size, 0, none⟩ = some (.int .i64 i) /\ W'.cell? ⟨W.heap.size, 1, none⟩ = some (.int .i64 g) /\ (Instr.lookup 188 (.map (some nb)) (.agg #[.int .i64 i, .int .i64 g]) true).run Tryz.prog W' = .ok (.tuple #[.int .i64 0, .bool false]) W') := fun W' hb => by
  have := ((h.later b1).later hb).rd i g hi hg (zab hb (Nat.le_refl _) r1)
  rw [hn] at this
  exact this
 have HW1 := hid hw1
 have B1 := hid b1
 clear h hi hg hn hw1 b1 r1
 go_enter Tryz.func118, Tryz.ntmps118
 go_upto_region 1 with fail
 rw [<- HW1.out]
 go_region_held3 (fun W' => W'.cell? ⟨bb, 1, none⟩ = some (.map (some nb)) /\ W'.cell? ⟨W.heap.size, 0, none⟩ = some (.int .i64 i) /\ W'.cell? ⟨W.heap.size, 1, none⟩ = some (.int .i64 g) /\ (Instr.lookup 188 (.map (some nb)) (.agg #[.int .i64 i, .int .i64 g]) true).run Tryz.prog W' = .ok (.tuple #[.int .i64 0, .bool false]) W')
  (first | exact KK.out _ (Below.refl _ _).drew | exact KK.out _ (Below.refl _ _)) (fail)
 go_wp2_with fail
 go_ret
 exact ⟨rfl, by first | exact B1.out.drew | exact B1.out⟩
end
end Bd
end Go.Proofs.YthadfdbkkmmgoaaGreatDoor
