/- A part of the proof. -/
import Derived.Test.YthadfdbkkmmgoaaGreatDoorMai
set_option maxHeartbeats 6400000
namespace Go.Proofs.YthadfdbkkmmgoaaGreatDoor
namespace Sc
open Go.RowKit Go.Shelf
set_option maxRecDepth 100000 in
theorem z0j (W : World) (va vb : Value) (hvb : ∃ a l c, vb = .slice a l c) (cs : List Cmp) (hC : zah W va cs) (hl : cs.length <= 1000) (k : Nat) (x : Cmp) (hx : cs[k]? = some x) (f : Int) :
  Calls Tryz.prog 140 #[.agg #[va, vb], .int .i64 (k : Int), .int .i64 f] W fun e W' => e = .returned (.tuple #[.agg #[.int .i64 (k : Int), .int .i64 x.d0, .int .i64 x.d1, .int .i64 x.d2, .int .i64 x.d3, .int .i64 f], .nilIface]) /\ Below W.heap.size W W' := by
 obtain ⟨a, c, rfl, hcap, hlay⟩ := hC
 obtain ⟨a', l', c', rfl⟩ := hvb
 have hk := (List.getElem?_eq_some_iff.1 hx).1
 have hki : (k : Int) < (cs.length : Int) := by omega
 have hk0 : ¬ ((k : Int) < 0) := by omega
 have hk1 : ¬ ((cs.length : Int) <= (k : Int)) := by omega
 have hli : (cs.length : Int) <= 1000 := by omega
 obtain ⟨b, o, rfl, hc⟩ : ∃ b o, a = some ⟨b, o, none⟩ /\ ∀ (j : Nat) (x : Cmp), cs[j]? = some x -> W.cell? ⟨b, o + j * 7, none⟩ = some (.string x.s) /\ W.cell? ⟨b, o + j * 7 + 1, none⟩ = some (.int .i64 x.wd) /\ W.cell? ⟨b, o + j * 7 + 2, none⟩ = some (.bool x.rb) /\ W.cell? ⟨b, o + j * 7 + 3, none⟩ = some (.int .i64 x.d0) /\ W.cell? ⟨b, o + j * 7 + 4, none⟩ = some (.int .i64 x.d1) /\ W.cell? ⟨b, o + j * 7 + 5, none⟩ = some (.int .i64 x.d2) /\ W.cell? ⟨b, o + j * 7 + 6, none⟩ = some (.int .i64 x.d3) := by
  rcases hlay with h | h
  ·rw [h] at hx; simp at hx
  exact h
 obtain ⟨c0, c1, c2, c3, c4, c5, c6⟩ := hc k x hx
 have hbl : b < W.heap.size := World.block_lt_of_cell? W _ c0
 have hbn : ¬ (b = W.heap.size) := by omega
 have hbn1 : ¬ (b = W.heap.size + 1) := by omega
 clear hc hx c0 c1 c2 hlay
 go_enter Tryz.func140, Tryz.ntmps140
 go_wp2_with fail
 refine bodyPost_ret (v := .tuple #[.agg #[.int .i64 (k : Int), .int .i64 x.d0, .int .i64 x.d1, .int .i64 x.d2, .int .i64 x.d3, .int .i64 f], .nilIface]) (by simp [results, Tryz.results140, go_sem]) rfl ⟨rfl, ?_⟩
 exact ((Below.refl _ _).alloc (Nat.le_refl _) _).alloc (by simp) _
set_option maxRecDepth 100000 in
theorem z8x (Ad : Nat -> Addr) (W : World) (hE : Env8 W Ad) (va vb : Value) (hvb : ∃ a l c, vb = .slice a l c) (cs : List Cmp) (hC : zah W va cs) (hl : cs.length <= 1000) (k : Int) (hk : k < 0 \/ (cs.length : Int) <= k) (f : Int) :
  Calls Tryz.prog 140 #[.agg #[va, vb], .int .i64 k, .int .i64 f] W fun e W' => e = .returned (.tuple #[.agg #[.int .i64 0, .int .i64 0, .int .i64 0, .int .i64 0, .int .i64 0, .int .i64 0], .iface 330 (.pointer (some (Ad 1)))]) /\ Below W.heap.size W W' := by
 obtain ⟨a, c, rfl, hcap, hlay⟩ := hC
 obtain ⟨a', l', c', rfl⟩ := hvb
 have e1 : W.cell? ⟨0, 0, none⟩ = some (.iface 330 (.pointer (some (Ad 1)))) := hE.cell 1 (by decide) (by decide)
 have h0 : 0 < W.heap.size := World.block_lt_of_cell? W _ e1
 have h0n : ¬ (0 = W.heap.size) := by omega
 have h0y : ¬ (0 - 1 = W.heap.size) := by omega
 simp only [Nat.reduceSub] at h0y
 have h0z : ¬ (W.heap = #[]) := by intro h; simp [h] at h0
 have h0w : ¬ (W.heap.size = 0) := by omega
 have h0v : ¬ (0 = W.heap.size) := by omega
 have h0u : 0 < W.heap.size + 1 := by omega
 have h0t : 0 < W.heap.size := by omega
 have h0s : 1 <= W.heap.size := by omega
 have h0r : ∀ o o' : Obj, ((W.alloc o).alloc o').cell? ⟨0, 0, none⟩ = some (.iface 330 (.pointer (some (Ad 1)))) := fun o o' => (World.cell?_alloc_lt _ _ _ (by first | (simp; omega) | simp)).trans ((World.cell?_alloc_lt _ _ _ h0).trans e1)
 have hli : (cs.length : Int) <= 1000 := by omega
 clear hlay hE
 by_cases h1 : k < 0
 ·clear hk
  go_enter Tryz.func140, Tryz.ntmps140
  go_wp2_with fail
  go_region
  all_goals go_wp2_with fail
  all_goals refine bodyPost_ret (v := .tuple #[.agg #[.int .i64 0, .int .i64 0, .int .i64 0, .int .i64 0, .int .i64 0, .int .i64 0], .iface 330 (.pointer (some (Ad 1)))]) (by simp [results, Tryz.results140, go_sem]) rfl ⟨rfl, ?_⟩
  all_goals first | exact ((Below.refl _ _).alloc (Nat.le_refl _) _).alloc (by simp) _ | exact (((Below.refl _ _).alloc (Nat.le_refl _) _).alloc (by simp) _).drew
 have h2 : (cs.length : Int) <= k := by omega
 clear hk
 go_enter Tryz.func140, Tryz.ntmps140
 go_wp2_with fail
 go_region
 all_goals go_wp2_with fail
 all_goals refine bodyPost_ret (v := .tuple #[.agg #[.int .i64 0, .int .i64 0, .int .i64 0, .int .i64 0, .int .i64 0, .int .i64 0], .iface 330 (.pointer (some (Ad 1)))]) (by simp [results, Tryz.results140, go_sem]) rfl ⟨rfl, ?_⟩
 all_goals first | exact ((Below.refl _ _).alloc (Nat.le_refl _) _).alloc (by simp) _ | exact (((Below.refl _ _).alloc (Nat.le_refl _) _).alloc (by simp) _).drew
end Sc
namespace Wo
open Go.RowKit Go.Shelf Go.Maps
open At (St zaa)
open Rs (SD)
open Bd (Prs okP who)
open Sc (Cmp zah)
structure WX where
 sb : Nat
 bb : Nat
 gb : Nat
 kv : Value
 cs : List Cmp
 ns : List ByteArray
structure WP where
 s : SD
 t : Nat
 n : Int
 l : Prs
 gl : List Int
 gn : Nat
 fr : Int
 sd : Int
def zqv (cs : List Cmp) : Int := Sc.zdj cs true (min cs.length 32)
def zao (cs : List Cmp) (c : Int) : Bool := if 0 <= c then (match cs[c.toNat]? with | some x => x.rb | none => false) else false
def wbox (x : WX) (p : WP) : Array Value := #[x.kv, .slice none 0 0, .int .u32 (zqv x.cs), .pointer (some ⟨x.sb, 0, none⟩), .pointer (some ⟨x.bb, 0, none⟩), .pointer (some ⟨x.gb, 0, none⟩), .pointer none, .int .i64 p.fr, .int .i64 p.sd]
structure Wz (B : Nat) (G : Own) (W : World) (wb : Nat) (x : WX) (p : WP) : Prop where
 fin : Fin B G W
 big : B <= W.heap.size
 box : W.heap[wb]? = some (.cells (wbox x p) 122 (0, 0))
 gw : G wb = 5
 kin : zah W x.kv x.cs
 kow : x.cs ≠ [] -> ∀ b o n c, x.kv = .slice (some ⟨b, o, none⟩) n c -> G b = 6
 few : x.cs.length <= 16
 st : Ps B G W x.sb p.s p.t
 bd : Pb B G W x.bb p.n p.l
 gd : Pg B G W x.gb x.ns p.gl p.gn
 fr0 : 0 <= p.fr /\ p.fr <= 1073741824
structure Wd (B : Nat) (G : Own) (W : World) (wb : Nat) (x : WX) (p : WP) : Prop where
 z : Wz B G W wb x p
 lv : zcw p.s p.l
section
variable {B : Nat} {G G' : Own} {W W' : World} {wb : Nat} {x : WX} {p : WP} {Ad : Nat -> Addr} {C : Nat -> Prop}
theorem Wz.ok (h : Wz B G W wb x p) : okP p.n p.l := by
 obtain ⟨ob, nb, h1, -⟩ := h.bd
 exact h1.ok
theorem zel {v : Value} {cs : List Cmp} (h : zah W v cs) (hs : St (fun k => C (G k)) W W') (hn : cs ≠ [] -> ∀ b o n c, v = .slice (some ⟨b, o, none⟩) n c -> ¬ C (G b)) : zah W' v cs := by
 obtain ⟨a, c, h1, h2, h3⟩ := h
 refine ⟨a, c, h1, h2, h3.imp id fun ⟨b, o, e, q⟩ => ⟨b, o, e, fun j x hx => ?_⟩⟩
 have hb := hn (fun q => by rw [q] at hx; simp at hx) b o _ _ (by rw [h1, e])
 have K : ∀ {j : Nat} {u : Value}, W.cell? ⟨b, j, none⟩ = some u -> W'.cell? ⟨b, j, none⟩ = some u := fun {j} {u} hc => by
  rw [<- hc]
  exact World.cell?_of_block (hs.block b (World.block_lt_of_cell? W _ hc) hb)
 obtain ⟨e0, e1, e2, e3, e4, e5, e6⟩ := q j x hx
 exact ⟨K e0, K e1, K e2, K e3, K e4, K e5, K e6⟩
theorem Wz.keep (h : Wz B G W wb x p) (hu : Up C G G' W W') (h5 : ¬ C 5) (h6 : ¬ C 6) : W'.heap[wb]? = some (.cells (wbox x p) 122 (0, 0)) /\ G' wb = 5 /\ zah W' x.kv x.cs /\ (x.cs ≠ [] -> ∀ b o n c, x.kv = .slice (some ⟨b, o, none⟩) n c -> G' b = 6) := by
 refine ⟨(hu.at h.box (by rw [h.gw]; exact h5)).1, ?_, zel h.kin hu.st fun hz b o n c e => by rw [h.kow hz b o n c e]; exact h6, fun hz b o n c e => ?_⟩
 ·rw [hu.old wb (Array.getElem?_eq_some_iff.1 h.box).1, h.gw]
 have := h.fin b (by rw [h.kow hz b o n c e]; decide)
 rw [hu.old b this.2, h.kow hz b o n c e]
theorem Wz.kept (h : Wz B G W wb x p) (hu : Up C G G' W W') (hf : Fin B G' W') (hc : ∀ i, C i -> i = 0 \/ 6 < i) : Wz B G' W' wb x p := by
 have N : ∀ i, 1 <= i -> i <= 6 -> ¬ C i := fun i h1 h2 q => by have := hc i q; omega
 obtain ⟨k1, k2, k3, k4⟩ := h.keep hu (N 5 (by decide) (by decide)) (N 6 (by decide) (by decide))
 exact ⟨hf, Nat.le_trans h.big hu.st.size, k1, k2, k3, k4, h.few, h.st.kept h.fin hu (N 1 (by decide) (by decide)), h.bd.kept h.fin hu (N 2 (by decide) (by decide)), h.gd.kept h.fin hu (N 3 (by decide) (by decide)), h.fr0⟩
theorem Wz.later (h : Wz B G W wb x p) (hb : Below W.heap.size W W') : Wz B G W' wb x p := h.kept (C := fun _ => False) (Up.later h.fin hb) (h.fin.later hb) fun _ q => q.elim
theorem Wd.later (h : Wd B G W wb x p) (hb : Below W.heap.size W W') : Wd B G W' wb x p := ⟨h.z.later hb, h.lv⟩
theorem Wz.beside {T : Nat -> Prop} (h : Wz B G W wb x p) (hs : St T W W') (hd : ∀ k, G k ≠ 0 -> ¬ T k) : Wz B G W' wb x p := by
 have st : St (fun k => G k = 0) W W' := zbi hs fun k _ q => Classical.byContradiction fun e => hd k e q
 exact h.kept (C := (· = 0)) ⟨st, fun _ _ => rfl, fun k hk q => by have := (h.fin k q).2; omega⟩ (fun k q => by have := h.fin k q; have := hs.size; omega) fun i q => .inl q
theorem Wz.store {s' : SD} {t' : Nat} (h : Wz B G W wb x p) (hu : Up (· = 1) G G' W W') (hf : Fin B G' W') (hs : Ps B G' W' x.sb s' t') : Wz B G' W' wb x { p with s := s', t := t' } := by
 obtain ⟨k1, k2, k3, k4⟩ := h.keep hu (by decide) (by decide)
 exact ⟨hf, Nat.le_trans h.big hu.st.size, k1, k2, k3, k4, h.few, hs, h.bd.kept h.fin hu (by decide), h.gd.kept h.fin hu (by decide), h.fr0⟩
theorem Wz.yaz {n' : Int} {l' : Prs} (h : Wz B G W wb x p) (hu : Up (· = 2) G G' W W') (hf : Fin B G' W') (hs : Pb B G' W' x.bb n' l') : Wz B G' W' wb x { p with n := n', l := l' } := by
 obtain ⟨k1, k2, k3, k4⟩ := h.keep hu (by decide) (by decide)
 exact ⟨hf, Nat.le_trans h.big hu.st.size, k1, k2, k3, k4, h.few, h.st.kept h.fin hu (by decide), hs, h.gd.kept h.fin hu (by decide), h.fr0⟩
theorem Wz.own {p' : WP} {j : Nat} {v : Value} (h : Wz B G W wb x p) (e1 : p'.s = p.s) (e2 : p'.t = p.t) (e3 : p'.n = p.n) (e4 : p'.l = p.l) (e5 : p'.gl = p.gl) (e6 : p'.gn = p.gn) (hfr : 0 <= p'.fr /\ p'.fr <= 1073741824)
  (hb : (wbox x p).setIfInBounds j v = wbox x p') : Wz B G (W.setCell ⟨wb, j, none⟩ v) wb x p' /\ Up (· = 5) G G W (W.setCell ⟨wb, j, none⟩ v) := by
 have hs : St (fun k => G k = 5) W (W.setCell ⟨wb, j, none⟩ v) := St.setCell _ h.gw
 have hf : Fin B G (W.setCell ⟨wb, j, none⟩ v) := fun k q => by have := h.fin k q; have := hs.size; omega
 have hu : Up (· = 5) G G W (W.setCell ⟨wb, j, none⟩ v) := ⟨hs, fun _ _ => rfl, fun k hk q => by have := (h.fin k q).2; omega⟩
 refine ⟨⟨hf, Nat.le_trans h.big hs.size, ?_, h.gw, zel (C := (· = 5)) h.kin hs (fun hz b o n c e => by rw [h.kow hz b o n c e]; decide), h.kow, h.few, ?_, ?_, ?_, hfr⟩, hu⟩
 ·rw [heap_setCell_same W wb j _ _ v h.box, hb]
 ·rw [e1, e2]; exact h.st.kept h.fin hu (by decide)
 ·rw [e3, e4]; exact h.bd.kept h.fin hu (by decide)
 rw [e5, e6]; exact h.gd.kept h.fin hu (by decide)
theorem Wz.cell (h : Wz B G W wb x p) {j : Nat} {v : Value} (hj : (wbox x p)[j]? = some v) : W.cell? ⟨wb, j, none⟩ = some v := zaa h.box hj
end
end Wo
namespace Wo
open Go.RowKit Go.Shelf Go.Maps
open At (bAl zaa zab zac wi zdx zcp zlx)
open Bd (who)
open Sc (Cmp)
theorem zrc (cs : List Cmp) : ∀ k, k <= cs.length -> k <= 32 -> ∃ m : Nat, Sc.zdj cs true k = (m : Int) /\ m < 4294967296 /\ ∀ i, m.testBit i = (decide (i < k) && (match cs[i]? with | some x => x.rb | none => false))
 | 0, _, _ => ⟨0, rfl, by decide, fun i => by simp⟩
 | k + 1, h1, h2 => by
  obtain ⟨m, e1, e2, e3⟩ := zrc cs k (by omega) (by omega)
  obtain ⟨x, hx⟩ : ∃ x, cs[k]? = some x := ⟨_, List.getElem?_eq_getElem (by omega)⟩
  rw [Sc.zhf true hx]
  cases hr : x.rb with
  | false =>
   refine ⟨m, by simpa using e1, e2, fun i => ?_⟩
   rw [e3 i]
   by_cases e : i = k
   ·subst e; simp [hx, hr]
   have : decide (i < k + 1) = decide (i < k) := by rw [Bool.eq_iff_iff]; simp; omega
   rw [this]
  | true =>
   refine ⟨wi m k, ?_, At.z2v (n := 32) e2 (by omega), fun i => ?_⟩
   ·simp only [beq_self_eq_true, if_true]
    unfold Sc.orI
    rw [e1, show Sc.bitI (k : Int) = ((2 ^ k : Nat) : Int) from At.zhs k (by omega), zdx m _ e2 (zlx (by omega))]
    rfl
   rw [At.z4m, e3 i]
   by_cases e : k = i
   ·subst e; simp [hx, hr]
   have : decide (i < k + 1) = decide (i < k) := by rw [Bool.eq_iff_iff]; simp; omega
   rw [this, decide_eq_false e, Bool.or_false]
theorem zor (cs : List Cmp) (hl : cs.length <= 16) (c : Int) : (bits .and .u32 (zqv cs) (Sc.bitI c) != 0) = zao cs c := by
 obtain ⟨m, e1, e2, e3⟩ := zrc cs cs.length (Nat.le_refl _) (by omega)
 unfold zqv zao
 rw [Nat.min_eq_left (by omega : cs.length <= 32), e1]
 by_cases h : 0 <= c /\ c < 32
 ·obtain ⟨k, rfl⟩ := Int.eq_ofNat_of_zero_le h.1
  rw [show Sc.bitI (k : Int) = ((2 ^ k : Nat) : Int) from At.zhs k (by omega), zcp m _ e2 (zlx (by omega)), if_pos h.1, Int.toNat_natCast]
  have e : (((m &&& 2 ^ k : Nat) : Int) != 0) = m.testBit k := by
   rw [bne, At.zfc, Bool.eq_iff_iff, <- At.zpv]
   simp
  rw [e, e3 k]
  by_cases hk : k < cs.length
  ·simp [hk]
  rw [List.getElem?_eq_none (by omega)]; simp
 rw [show Sc.bitI c = 0 from At.zsd c h, show (0 : Int) = ((0 : Nat) : Int) from rfl, zcp m 0 e2 (by decide), Nat.and_zero]
 by_cases h0 : 0 <= c
 ·rw [if_pos (by simpa using h0), List.getElem?_eq_none (by omega)]; rfl
 rw [if_neg (by simpa using h0)]; rfl
section
variable {B : Nat} {G G' : Own} {W W' : World} {wb : Nat} {x : WX} {p : WP} {Ad : Nat -> Addr}
theorem znj (h : Wz B G W wb x p) (c : Int) : Calls Tryz.prog 67 #[.pointer (some ⟨wb, 0, none⟩), .int .i64 c] W fun e W' => e = .returned (.bool (zao x.cs c)) /\ W' = W := by
 have c2 := h.cell (j := 2) rfl
 have HC := Sc.zsr (zqv x.cs) c W
 rw [zor x.cs h.few c] at HC
 have HH := hid HC
 clear h HC
 go_enter Tryz.func67, Tryz.ntmps67
 go_wp2_with fail
 refine HH.out.mono ?_
 rintro e w1 ⟨rfl, rfl⟩
 go_wp2_with fail
 go_ret
 exact ⟨rfl, rfl⟩
theorem zwu (h : Wz B G W wb x p) (hE : Env8 W Ad) (id : Int) (hi : Bd.I64 id) (hw : who p.l id = none) : Calls Tryz.prog 77 #[.pointer (some ⟨wb, 0, none⟩), .int .i64 id] W fun e W' => e = .returned (.tuple #[.agg #[.int .i64 0, .int .i64 0], .iface 330 (.pointer (some (Ad 17)))]) /\ Below W.heap.size W W' := by
 obtain ⟨wa, hwa⟩ : ∃ wa, wa = W.alloc (.cells #[.int .i64 0, .int .i64 0] 144) := ⟨_, rfl⟩
 have ba : Below W.heap.size W wa := by rw [hwa]; exact bAl _ _
 have r1 : wa.heap[W.heap.size]? = some (.cells #[.int .i64 0, .int .i64 0] 144 (0, 0)) := by rw [hwa]; exact heap_alloc_new W _
 have ha := h.later ba
 have c4 := ha.cell (j := 4) rfl
 obtain ⟨ob, nb, hb, -⟩ := ha.bd
 have EN := Bd.z0i hb id hi
 rw [hw] at EN
 have HE : Hid (Calls Tryz.prog 120 #[.pointer (some ⟨x.bb, 0, none⟩), .int .i64 id] wa fun e w1 => e = .returned (.tuple #[.agg #[.int .i64 0, .int .i64 0], .bool false]) /\ Env8 w1 Ad /\ w1.heap[W.heap.size]? = some (.cells #[.int .i64 0, .int .i64 0] 144 (0, 0)) /\ Below W.heap.size W w1) := by
  refine hid (EN.mono ?_)
  rintro e w1 ⟨e1, hb⟩
  exact ⟨e1, hE.later (ba.trans (hb.mono ba.size)), zab hb (Nat.le_refl _) r1, ba.trans (hb.mono ba.size)⟩
 have HWA := hid hwa
 have hlt : 2 < W.heap.size := World.block_lt_of_cell? W _ hE.k17
 have n1 : ¬ 2 = W.heap.size := by omega
 have n2 : ¬ W.heap.size = 2 := by omega
 clear h hb EN hE ba r1 ha hwa
 go_enter Tryz.func77, Tryz.ntmps77
 go_upto_region 1 with fail
 rw [<- HWA.out]
 go_wp2_with fail
 refine HE.out.mono ?_
 rintro e w1 ⟨rfl, hE, r1, hb⟩
 obtain ⟨w2, hw2⟩ : ∃ w2, w2 = w1.alloc (.cells #[.int .i64 0, .int .i64 0] 144) := ⟨_, rfl⟩
 have b2 : Below w1.heap.size w1 w2 := by rw [hw2]; exact bAl _ _
 have k17 := (hE.later b2).k17
 have r2 := zab b2 (Nat.le_refl _) r1
 have y0 : w2.cell? ⟨W.heap.size, 0, none⟩ = some (.int .i64 0) := zaa r2 rfl
 have y1 : w2.cell? ⟨W.heap.size, 1, none⟩ = some (.int .i64 0) := zaa r2 rfl
 have f0 := zac r2 0
 have f1 := zac r2 1
 have B2 := hid (hb.trans (b2.mono hb.size))
 obtain ⟨w4, hw4⟩ : ∃ w4, w4 = (w2.setCell ⟨W.heap.size, 0, none⟩ (.int .i64 0)).setCell ⟨W.heap.size, 1, none⟩ (.int .i64 0) := ⟨_, rfl⟩
 have same : Hid (w4 = w2) := by
  rw [hw4]
  exact Bd.z0v r2
 have HW2 := hid hw2
 clear hb HE hE b2 r1 r2 hw2
 go_upto_region 5 with fail
 rw [<- HW2.out]
 go_region
 all_goals
  rw [<- hw4, same.out]
  go_wp2_with fail
  exact bodyPost_ret (v := .tuple #[.agg #[.int .i64 0, .int .i64 0], .iface 330 (.pointer (some (Ad 17)))]) (by simp [results, Tryz.results77, go_sem, y0, y1]) rfl ⟨rfl, B2.out.drew⟩
theorem find_ok (h : Wz B G W wb x p) (id i g : Int) (hi : Bd.I64 id) (hw : who p.l id = some (i, g)) : Calls Tryz.prog 77 #[.pointer (some ⟨wb, 0, none⟩), .int .i64 id] W fun e W' => e = .returned (.tuple #[.agg #[.int .i64 i, .int .i64 g], .nilIface]) /\ Below W.heap.size W W' := by
 obtain ⟨wa, hwa⟩ : ∃ wa, wa = W.alloc (.cells #[.int .i64 0, .int .i64 0] 144) := ⟨_, rfl⟩
 have ba : Below W.heap.size W wa := by rw [hwa]; exact bAl _ _
 have r1 : wa.heap[W.heap.size]? = some (.cells #[.int .i64 0, .int .i64 0] 144 (0, 0)) := by rw [hwa]; exact heap_alloc_new W _
 have ha := h.later ba
 have c4 := ha.cell (j := 4) rfl
 obtain ⟨ob, nb, hb, -⟩ := ha.bd
 have EN := Bd.z0i hb id hi
 rw [hw] at EN
 have HE : Hid (Calls Tryz.prog 120 #[.pointer (some ⟨x.bb, 0, none⟩), .int .i64 id] wa fun e w1 => e = .returned (.tuple #[.agg #[.int .i64 i, .int .i64 g], .bool true]) /\ w1.heap[W.heap.size]? = some (.cells #[.int .i64 0, .int .i64 0] 144 (0, 0)) /\ Below W.heap.size W w1) := by
  refine hid (EN.mono ?_)
  rintro e w1 ⟨e1, hb⟩
  exact ⟨e1, zab hb (Nat.le_refl _) r1, ba.trans (hb.mono ba.size)⟩
 have HWA := hid hwa
 clear h hb EN ba r1 ha hwa
 go_enter Tryz.func77, Tryz.ntmps77
 go_upto_region 1 with fail
 rw [<- HWA.out]
 go_wp2_with fail
 refine HE.out.mono ?_
 rintro e w1 ⟨rfl, r1, hb⟩
 obtain ⟨w2, hw2⟩ : ∃ w2, w2 = w1.alloc (.cells #[.int .i64 i, .int .i64 g] 144) := ⟨_, rfl⟩
 have b2 : Below w1.heap.size w1 w2 := by rw [hw2]; exact bAl _ _
 have r2 := zab b2 (Nat.le_refl _) r1
 have q2 : w2.heap[w1.heap.size]? = some (.cells #[.int .i64 i, .int .i64 g] 144 (0, 0)) := by rw [hw2]; exact heap_alloc_new w1 _
 have v0 : w2.cell? ⟨w1.heap.size, 0, none⟩ = some (.int .i64 i) := zaa q2 rfl
 have v1 : w2.cell? ⟨w1.heap.size, 1, none⟩ = some (.int .i64 g) := zaa q2 rfl
 have y0 : w2.cell? ⟨W.heap.size, 0, none⟩ = some (.int .i64 0) := zaa r2 rfl
 have y1 : w2.cell? ⟨W.heap.size, 1, none⟩ = some (.int .i64 0) := zaa r2 rfl
 have f0 := zac r2 0
 have f1 := zac r2 1
 have hne : ¬ w1.heap.size = W.heap.size := fun e => by
  have := (Array.getElem?_eq_some_iff.1 r1).1
  omega
 have r4 := Bd.zmq r2 i g
 have B4 := hid ((hb.trans (b2.mono hb.size)).trans ((((Below.refl W.heap.size w2).setCell (p := ⟨W.heap.size, 0, none⟩) (Nat.le_refl _) (.int .i64 i)).setCell (p := ⟨W.heap.size, 1, none⟩) (Nat.le_refl _) (.int .i64 g))))
 unfold Bd.put2 at r4
 obtain ⟨w4, hw4⟩ : ∃ w4, w4 = (w2.setCell ⟨W.heap.size, 0, none⟩ (.int .i64 i)).setCell ⟨W.heap.size, 1, none⟩ (.int .i64 g) := ⟨_, rfl⟩
 rw [<- hw4] at r4 B4
 have z0 : w4.cell? ⟨W.heap.size, 0, none⟩ = some (.int .i64 i) := zaa r4 rfl
 have z1 : w4.cell? ⟨W.heap.size, 1, none⟩ = some (.int .i64 g) := zaa r4 rfl
 have HW2 := hid hw2
 clear hb HE b2 r1 r2 hw2 q2 r4
 go_upto_region 6 with fail
 rw [<- HW2.out]
 go_wp2_with fail
 rw [<- hw4]
 exact bodyPost_ret (v := .tuple #[.agg #[.int .i64 i, .int .i64 g], .nilIface]) (by simp [results, Tryz.results77, go_sem, z0, z1]) rfl ⟨rfl, B4.out⟩
def uV (k id c v0 v1 v2 v3 t : Int) (ad : Option Addr) (nn cc : Nat) (n o : Int) : Value := .agg #[.int .i64 k, .int .i64 id, .int .i64 c, .int .i64 v0, .int .i64 v1, .int .i64 v2, .int .i64 v3, .int .i64 t, .slice ad nn cc, .int .i64 n, .int .i64 o]
theorem zwp (hE : Env8 W Ad) (k id c v0 v1 v2 v3 t : Int) (ad : Option Addr) (nn cc : Nat) (n o : Int) :
  Calls Tryz.prog 109 #[.pointer none, uV k id c v0 v1 v2 v3 t ad nn cc n o] W fun e W' => ∃ ev, e = .returned ev /\ Below W.heap.size W W' := by
 unfold uV
 have HW := hid (bAl W (.cells #[.int .i64 k, .int .i64 id, .int .i64 c, .int .i64 v0, .int .i64 v1, .int .i64 v2, .int .i64 v3, .int .i64 t, .slice ad nn cc, .int .i64 n, .int .i64 o] 130))
 have c2 := (hE.later HW.out).k2
 have c2' := hE.k2
 have hlt : 3 < W.heap.size := World.block_lt_of_cell? W _ c2'
 have hne : ¬ 3 = W.heap.size := by omega
 have AC := hid (fun str => At.zep Ad str _ 2 0 (W.alloc (.cells #[.int .i64 k, .int .i64 id, .int .i64 c, .int .i64 v0, .int .i64 v1, .int .i64 v2, .int .i64 v3, .int .i64 t, .slice ad nn cc, .int .i64 n, .int .i64 o] 130)) (At.zck Ad _ 2 (by decide)))
 clear hE c2
 go_enter Tryz.func109, Tryz.ntmps109
 go_wp2_with fail
 refine (AC.out _).mono ?_
 rintro e w1 ⟨t, q, rfl, hv, hb⟩
 have HB := hid (HW.out.trans (hb.mono HW.out.size))
 clear hv hb AC
 go_wp2_with fail
 go_ret
 exact ⟨_, rfl, HB.out⟩
theorem zch (h : Wz B G W wb x p) (hE : Env8 W Ad) (k id c v0 v1 v2 v3 t : Int) (ad : Option Addr) (nn cc : Nat) (n o : Int) :
  Calls Tryz.prog 58 #[.pointer (some ⟨wb, 0, none⟩), uV k id c v0 v1 v2 v3 t ad nn cc n o] W fun e W' => e = .returned (.tuple #[]) /\ Below W.heap.size W W' := by
 obtain ⟨wa, hwa⟩ : ∃ wa, wa = W.alloc (.cells #[.int .i64 k, .int .i64 id, .int .i64 c, .int .i64 v0, .int .i64 v1, .int .i64 v2, .int .i64 v3, .int .i64 t, .slice ad nn cc, .int .i64 n, .int .i64 o] 130) := ⟨_, rfl⟩
 have ba : Below W.heap.size W wa := by rw [hwa]; exact bAl _ _
 have HX : wa.heap[W.heap.size]? = some (.cells #[.int .i64 k, .int .i64 id, .int .i64 c, .int .i64 v0, .int .i64 v1, .int .i64 v2, .int .i64 v3, .int .i64 t, .slice ad nn cc, .int .i64 n, .int .i64 o] 130 (0, 0)) := by rw [hwa]; exact heap_alloc_new W _
 have ha := h.later ba
 have NT : Hid (∀ w1, Below wa.heap.size wa w1 -> Calls Tryz.prog 109 #[.pointer none, uV k id c v0 v1 v2 v3 t ad nn cc n o] w1 fun e w' => ∃ ev, e = .returned ev /\ Below wa.heap.size wa w') := by
  refine hid fun w1 hb1 => (zwp (hE.later (ba.trans (hb1.mono ba.size))) k id c v0 v1 v2 v3 t ad nn cc n o).mono ?_
  rintro e w' ⟨ev, e1, hb⟩
  exact ⟨ev, e1, hb1.trans (hb.mono hb1.size)⟩
 unfold uV at NT ⊢
 have KK : Hid (∀ W', Below wa.heap.size wa W' -> W'.cell? ⟨wb, 6, none⟩ = some (.pointer none) /\ W'.cell? ⟨W.heap.size, 0, none⟩ = some (.int .i64 k) /\ W'.cell? ⟨W.heap.size, 1, none⟩ = some (.int .i64 id) /\ W'.cell? ⟨W.heap.size, 2, none⟩ = some (.int .i64 c) /\ W'.cell? ⟨W.heap.size, 3, none⟩ = some (.int .i64 v0) /\ W'.cell? ⟨W.heap.size, 4, none⟩ = some (.int .i64 v1) /\ W'.cell? ⟨W.heap.size, 5, none⟩ = some (.int .i64 v2) /\ W'.cell? ⟨W.heap.size, 6, none⟩ = some (.int .i64 v3) /\ W'.cell? ⟨W.heap.size, 7, none⟩ = some (.int .i64 t) /\ W'.cell? ⟨W.heap.size, 8, none⟩ = some (.slice ad nn cc) /\ W'.cell? ⟨W.heap.size, 9, none⟩ = some (.int .i64 n) /\ W'.cell? ⟨W.heap.size, 10, none⟩ = some (.int .i64 o)) := fun W' hb => by
  have q := zab hb (Nat.le_refl _) HX
  exact ⟨(ha.later hb).cell (j := 6) rfl, zaa q rfl, zaa q rfl, zaa q rfl, zaa q rfl, zaa q rfl, zaa q rfl, zaa q rfl, zaa q rfl, zaa q rfl, zaa q rfl, zaa q rfl⟩
 have HWA := hid hwa
 have HBA := hid ba
 clear hwa ba ha h hE HX
 go_enter Tryz.func58, Tryz.ntmps58
 go_upto_region 1 with fail
 rw [<- HWA.out]
 go_region_held3 (fun W' => W'.cell? ⟨wb, 6, none⟩ = some (.pointer none) /\ W'.cell? ⟨W.heap.size, 0, none⟩ = some (.int .i64 k) /\ W'.cell? ⟨W.heap.size, 1, none⟩ = some (.int .i64 id) /\ W'.cell? ⟨W.heap.size, 2, none⟩ = some (.int .i64 c) /\ W'.cell? ⟨W.heap.size, 3, none⟩ = some (.int .i64 v0) /\ W'.cell? ⟨W.heap.size, 4, none⟩ = some (.int .i64 v1) /\ W'.cell? ⟨W.heap.size, 5, none⟩ = some (.int .i64 v2) /\ W'.cell? ⟨W.heap.size, 6, none⟩ = some (.int .i64 v3) /\ W'.cell? ⟨W.heap.size, 7, none⟩ = some (.int .i64 t) /\ W'.cell? ⟨W.heap.size, 8, none⟩ = some (.slice ad nn cc) /\ W'.cell? ⟨W.heap.size, 9, none⟩ = some (.int .i64 n) /\ W'.cell? ⟨W.heap.size, 10, none⟩ = some (.int .i64 o))
  (first | exact KK.out _ (by assumption) | exact KK.out _ (Below.refl _ _).drew | exact KK.out _ (Below.refl _ _))
  (first | (go_at_call 109; refine (NT.out _ (Below.refl _ _).drew).mono ?_; rintro e w1 ⟨ev, rfl, hb⟩) | fail)
 have HG := hid (HBA.out.trans (hb.mono HBA.out.size))
 clear hb NT KK
 go_wp2_with fail
 go_end0
 exact ⟨rfl, HG.out⟩
theorem zdb (h : Wz B G W wb x p) (hE : Env8 W Ad) (k id c v0 v1 v2 v3 t : Int) (ad : Option Addr) (nn cc : Nat) (n o : Int) :
  Calls Tryz.prog 143 #[.pointer (some ⟨wb, 0, none⟩), uV k id c v0 v1 v2 v3 t ad nn cc n o] W fun e W' => e = .returned (.tuple #[]) /\ Below W.heap.size W W' := by
 obtain ⟨wa, hwa⟩ : ∃ wa, wa = W.alloc (.cells #[.int .i64 k, .int .i64 id, .int .i64 c, .int .i64 v0, .int .i64 v1, .int .i64 v2, .int .i64 v3, .int .i64 t, .slice ad nn cc, .int .i64 n, .int .i64 o] 130) := ⟨_, rfl⟩
 have ba : Below W.heap.size W wa := by rw [hwa]; exact bAl _ _
 have HX : Hid (wa.heap[W.heap.size]? = some (.cells #[.int .i64 k, .int .i64 id, .int .i64 c, .int .i64 v0, .int .i64 v1, .int .i64 v2, .int .i64 v3, .int .i64 t, .slice ad nn cc, .int .i64 n, .int .i64 o] 130 (0, 0))) := by rw [hwa]; exact heap_alloc_new W _
 have ha := h.later ba
 have RB := hid (znj ha c)
 have NT : Hid (Calls Tryz.prog 58 #[.pointer (some ⟨wb, 0, none⟩), uV k id c v0 v1 v2 v3 t ad nn cc n o] wa fun e w' => e = .returned (.tuple #[]) /\ Below W.heap.size W w') := by
  refine hid ((zch ha (hE.later ba) k id c v0 v1 v2 v3 t ad nn cc n o).mono ?_)
  rintro e w' ⟨e1, hb⟩
  exact ⟨e1, ba.trans (hb.mono ba.size)⟩
 unfold uV at NT ⊢
 have x0 := zaa (j := 0) HX.out rfl
 have x1 := zaa (j := 1) HX.out rfl
 have x2 := zaa (j := 2) HX.out rfl
 have x3 := zaa (j := 3) HX.out rfl
 have x4 := zaa (j := 4) HX.out rfl
 have x5 := zaa (j := 5) HX.out rfl
 have x6 := zaa (j := 6) HX.out rfl
 have x7 := zaa (j := 7) HX.out rfl
 have x8 := zaa (j := 8) HX.out rfl
 have x9 := zaa (j := 9) HX.out rfl
 have x10 := zaa (j := 10) HX.out rfl
 have HST := hid ba
 have HWA := hid hwa
 clear hwa ba ha h hE HX
 generalize zao x.cs c = rb at RB
 go_enter Tryz.func143, Tryz.ntmps143
 go_upto_region 1 with fail
 rw [<- HWA.out]
 go_wp2_with fail
 refine RB.out.mono ?_
 rintro e w1 ⟨rfl, rfl⟩
 cases rb with
 | false =>
  go_wp2_with fail
  go_end0
  exact ⟨rfl, HST.out⟩
 | true =>
  go_wp2_with fail
  refine NT.out.mono ?_
  rintro e w1 ⟨rfl, k1⟩
  have HG := hid k1
  clear NT k1
  go_wp2_with fail
  go_end0
  exact ⟨rfl, HG.out⟩
end
end Wo
namespace Wo
open Go.RowKit Go.Shelf Go.Maps
open At (St)
open Rs (Prt fitP)
open Go.Proofs.YthadfdbkkmmgoaaGreatDoor.So (Er)
open Sc (Cmp)
def Ed (Ad : Nat -> Addr) (w : World) (v : Value) (K n : Nat) : Prop := (K = 0 /\ v = .nilIface) \/ (K ≠ 0 /\ ∃ t q, v = .iface t q /\ ∃ d, At.Err Ad w v K d /\ d <= n)
section
variable {Ad : Nat -> Addr} {w w' : World} {v : Value} {K n m : Nat}
theorem Ed.later (h : Ed Ad w v K n) (hb : Below w.heap.size w w') : Ed Ad w' v K n := h.imp id fun ⟨h0, t, q, e, d, k1, k2⟩ => ⟨h0, t, q, e, d, k1.later hb, k2⟩
theorem Ed.up (h : Ed Ad w v K n) (hn : n <= m := by omega) : Ed Ad w v K m := h.imp id fun ⟨h0, t, q, e, d, k1, k2⟩ => ⟨h0, t, q, e, d, k1, Nat.le_trans k2 hn⟩
theorem Ed.no (Ad : Nat -> Addr) (w : World) (n : Nat) : Ed Ad w .nilIface 0 n := .inl ⟨rfl, rfl⟩
theorem Ed.nil (h : Ed Ad w v 0 n) : v = .nilIface := h.elim (fun q => q.2) fun q => absurd rfl q.1
theorem Ed.ifc (h : Ed Ad w v K n) (h0 : K ≠ 0) : ∃ t q, v = .iface t q := h.elim (fun q => absurd q.1 h0) fun ⟨_, t, q, e, _⟩ => ⟨t, q, e⟩
theorem Ed.err (h : Ed Ad w v K n) (h0 : K ≠ 0) : ∃ d, At.Err Ad w v K d := h.elim (fun q => absurd q.1 h0) fun ⟨_, _, _, _, d, k, _⟩ => ⟨d, k⟩
theorem Ed.leaf (Ad : Nat -> Addr) (w : World) (k : Nat) (hk : 1 <= k /\ k <= 18) : Ed Ad w (.iface 330 (.pointer (some (Ad k)))) k 0 :=
 .inr ⟨by omega, _, _, rfl, 0, At.zck Ad w k hk, Nat.le_refl _⟩
theorem Er.ed {k : Nat} (h : Er Ad w v k n) : Ed Ad w v k n := by
 rcases h with ⟨rfl, rfl⟩ | ⟨h0, t, q, rfl, d, ws, hc⟩
 ·exact Ed.no _ _ _
 exact .inr ⟨h0, t, q, rfl, min d n, ⟨ws, hc⟩, Nat.min_le_right _ _⟩
theorem ycp (s : ByteArray) (h : Ed Ad w v K n) : Calls Tryz.prog 38 #[.string s, v] w fun e w' => ∃ v', e = .returned v' /\ Ed Ad w' v' K (n + 1) /\ Below w.heap.size w w' := by
 rcases h with ⟨rfl, rfl⟩ | ⟨h0, t, q, rfl, d, k1, k2⟩
 ·refine (at_nil s w).mono ?_
  rintro e w' ⟨rfl, rfl⟩
  exact ⟨_, rfl, Ed.no _ _ _, Below.refl _ _⟩
 refine (At.zep Ad s _ K d w k1).mono ?_
 rintro e w' ⟨t', q', rfl, k3, k4⟩
 exact ⟨_, rfl, .inr ⟨h0, _, _, rfl, d + 1, k3, by omega⟩, k4⟩
theorem zia (s : ByteArray) (h : Ed Ad w v K n) (h0 : K ≠ 0) : Calls Tryz.prog 38 #[.string s, v] w fun e w' => ∃ t q, e = .returned (.iface t q) /\ Ed Ad w' (.iface t q) K (n + 1) /\ Below w.heap.size w w' := by
 refine (ycp s h).mono ?_
 rintro e w' ⟨v', rfl, k1, k2⟩
 obtain ⟨t, q, rfl⟩ := k1.ifc h0
 exact ⟨t, q, rfl, k1, k2⟩
end
def Ev (B : Nat) (W : World) (Ad : Nat -> Addr) : Prop := ∃ W0, Env8 W0 Ad /\ W0.heap.size <= B /\ Below W0.heap.size W0 W
theorem Ev.env {B : Nat} {W : World} {Ad : Nat -> Addr} (h : Ev B W Ad) : Env8 W Ad := by
 obtain ⟨W0, h1, h2, h3⟩ := h
 exact h1.later h3
theorem Ev.bel {B : Nat} {W W' : World} {Ad : Nat -> Addr} (h : Ev B W Ad) (hb : Below B W W') : Ev B W' Ad := by
 obtain ⟨W0, h1, h2, h3⟩ := h
 exact ⟨W0, h1, h2, h3.trans (hb.mono h2)⟩
theorem Ev.later {B : Nat} {W W' : World} {Ad : Nat -> Addr} (h : Ev B W Ad) (hb : Below W.heap.size W W') : Ev B W' Ad := by
 obtain ⟨W0, h1, h2, h3⟩ := h
 exact ⟨W0, h1, h2, h3.trans (hb.mono h3.size)⟩
structure AP where
 L : Bgs
 n : Int
 fr : Int
 sd : Int
 gl : List Int
structure WK where
 x : WX
 ws : List Nat
 most : Nat
def zhm (cs : List Cmp) (c : Int) : Option Cmp := if 0 <= c then cs[c.toNat]? else none
def dfP (k : Int) (c : Cmp) (f : Int) : Prt := ⟨k, c.d0, c.d1, c.d2, c.d3, f⟩
structure WK.ok (k : WK) : Prop where
 len : k.x.cs.length = k.ws.length
 wd : ∀ (i : Nat) (c : Cmp), k.x.cs[i]? = some c -> ∀ f, fitP k.ws (dfP (i : Int) c f) = true
structure Wa (B : Nat) (G : Own) (W : World) (wb : Nat) (k : WK) (t : Nat) (a : AP) : Prop where
 ex : ∃ p, Wd B G W wb k.x p /\ p.t <= t /\ p.s.ws = k.ws /\ p.s.r.gens.length = k.most /\ zat p.s p.l = a.L /\ p.n = a.n /\ p.fr = a.fr /\ p.sd = a.sd /\ p.gl = a.gl
 ok : k.ok
def GoA (B : Nat) (G : Own) (W W' : World) (wb : Nat) (k : WK) (t : Nat) (a : AP) : Prop := ∃ G', Up (fun i => 1 <= i /\ i <= 3) G G' W W' /\ Wa B G' W' wb k t a
section
variable {B : Nat} {G G' : Own} {W W' W2 : World} {wb : Nat} {k : WK} {t t' : Nat} {a a' : AP} {Ad : Nat -> Addr}
theorem Wa.later (h : Wa B G W wb k t a) (hb : Below W.heap.size W W') : Wa B G W' wb k t a := by
 obtain ⟨⟨p, h1, h2⟩, h3⟩ := h
 exact ⟨⟨p, h1.later hb, h2⟩, h3⟩
theorem Wa.beside {T : Nat -> Prop} (h : Wa B G W wb k t a) (hs : St T W W') (hd : ∀ k, G k ≠ 0 -> ¬ T k) : Wa B G W' wb k t a := by
 obtain ⟨⟨p, h1, h2⟩, h3⟩ := h
 exact ⟨⟨p, ⟨h1.z.beside hs hd, h1.lv⟩, h2⟩, h3⟩
theorem Wa.older (h : Wa B G W wb k t a) (ht : t <= t') : Wa B G W wb k t' a := by
 obtain ⟨⟨p, h1, h2, h4⟩, h5⟩ := h
 exact ⟨⟨p, h1, by omega, h4⟩, h5⟩
theorem Wa.fin (h : Wa B G W wb k t a) : Fin B G W := by
 obtain ⟨⟨p, h1, -⟩, -⟩ := h
 exact h1.z.fin
theorem Wa.big (h : Wa B G W wb k t a) : B <= W.heap.size := by
 obtain ⟨⟨p, h1, -⟩, -⟩ := h
 exact h1.z.big
theorem GoA.stay (h : Wa B G W wb k t a) (hb : Below W.heap.size W W') : GoA B G W W' wb k t a := ⟨G, Up.later h.fin hb, h.later hb⟩
theorem GoA.bel (h : GoA B G W W' wb k t a) (hf : Fin B G W) (hB : B <= W.heap.size) : Below B W W' := by
 obtain ⟨G', h1, h2⟩ := h
 exact h1.bel hf hB (by decide)
theorem GoA.ev (h : GoA B G W W' wb k t a) (hf : Fin B G W) (hB : B <= W.heap.size) (hE : Ev B W Ad) : Ev B W' Ad := hE.bel (h.bel hf hB)
theorem GoA.later (h : GoA B G W W' wb k t a) (hb : Below W'.heap.size W' W2) : GoA B G W W2 wb k t a := by
 obtain ⟨G', h1, h2⟩ := h
 exact ⟨G', h1.trans (Up.later h2.fin hb), h2.later hb⟩
theorem GoA.after (hf : Fin B G W) (hb : Below W.heap.size W W') (h : GoA B G W' W2 wb k t a) : GoA B G W W2 wb k t a := by
 obtain ⟨G', h1, h2⟩ := h
 exact ⟨G', (Up.later hf hb).trans h1, h2⟩
end
end Wo
namespace Wo
open Go.RowKit Go.Shelf Go.Maps
open At (St bAl zaa zab zac)
open Rs (SD Prt remP insP)
open Go.Proofs.YthadfdbkkmmgoaaGreatDoor.So (Er al entered zbb chkL)
open Bd (Prs who num ins del)
open Sc (Cmp)
open Co (I64)
def AP.get (a : AP) (id comp : Int) : Nat × Prt := match look a.L id with
 | none => (17, Prt.zero)
 | some row => match pick row comp with
  | none => (7, Prt.zero)
  | some q => (0, q)
def AP.insert (k : WK) (a : AP) (id comp : Int) : Nat × AP := match look a.L id with
 | none => (17, a)
 | some row => match zhm k.x.cs comp with
  | none => (1, a)
  | some c => match pick row comp with
   | some _ => (9, a)
   | none => (0, { a with L := setB a.L id (insP row (dfP comp c a.fr)) })
def AP.zbq (a : AP) (id comp : Int) : Nat × AP := match look a.L id with
 | none => (17, a)
 | some row => match pick row comp with
  | none => (7, a)
  | some _ => (0, { a with L := setB a.L id (remP row comp) })
section
variable {B : Nat} {G G' : Own} {W W' : World} {wb : Nat} {k : WK} {x : WX} {p : WP} {t t' : Nat} {a a' : AP} {Ad : Nat -> Addr}
theorem Wd.stand (h : Wd B G W wb x p) {id : Int} {row : List Prt} (hl : look (zat p.s p.l) id = some row) : ∃ i g : Nat, who p.l id = some ((i : Int), (g : Int)) /\ al p.s i g /\ p.s.at i = row := by
 rw [zfx] at hl
 cases hw : who p.l id with
 | none => rw [hw] at hl; simp at hl
 | some e =>
  obtain ⟨i, g, rfl, ha, -⟩ := h.lv.at h.z.ok hw
  rw [hw] at hl
  exact ⟨i, g, rfl, ha, by simpa using hl⟩
theorem Wd.nobody {id : Int} (hl : look (zat p.s p.l) id = none) : who p.l id = none := by
 rw [zfx] at hl
 simpa using hl
theorem zqp (h : Wa B G W wb k t a) (hE : Env8 W Ad) (id : Int) (hi : I64 id) (hl : look a.L id = none) : Calls Tryz.prog 77 #[.pointer (some ⟨wb, 0, none⟩), .int .i64 id] W fun e W' => e = .returned (.tuple #[.agg #[.int .i64 0, .int .i64 0], .iface 330 (.pointer (some (Ad 17)))]) /\ Below W.heap.size W W' := by
 obtain ⟨⟨p, h1, -, -, -, h2, -⟩, -⟩ := h
 rw [<- h2] at hl
 exact zwu h1.z hE id hi (Wd.nobody hl)
structure zka (B : Nat) (G : Own) (W : World) (wb : Nat) (k : WK) (t : Nat) (a : AP) (id : Int) (row : List Prt) (p : WP) (i g : Nat) : Prop where
 d : Wd B G W wb k.x p
 t' : p.t <= t
 ws : p.s.ws = k.ws
 gens : p.s.r.gens.length = k.most
 L : zat p.s p.l = a.L
 n : p.n = a.n
 fr : p.fr = a.fr
 sd : p.sd = a.sd
 gl : p.gl = a.gl
 wh : who p.l id = some ((i : Int), (g : Int))
 al : So.al p.s i g
 at' : p.s.at i = row
theorem Wa.stands (h : Wa B G W wb k t a) {id : Int} {row : List Prt} (hl : look a.L id = some row) : ∃ p i g, zka B G W wb k t a id row p i g := by
 obtain ⟨⟨p, h1, h2, h3, h4, h5, h6⟩, -⟩ := h
 obtain ⟨i, g, q1, q2, q3⟩ := h1.stand (by rw [h5]; exact hl)
 exact ⟨p, i, g, h1, h2, h3, h4, h5, h6.1, h6.2.1, h6.2.2.1, h6.2.2.2, q1, q2, q3⟩
theorem zka.go {id : Int} {row r : List Prt} {i g : Nat} (h : zka B G W wb k t a id row p i g) (hk : k.ok) (hg : Go1 B G W W' k.x.sb (entered p.s i r) p.t) : GoA B G W W' wb k t { a with L := setB a.L id r } := by
 obtain ⟨G', u1, u2, u3⟩ := hg
 have z := h.d.z.store u1 u2 u3
 refine ⟨G', u1.mono (fun i e => by subst e; decide), ⟨_, ⟨z, h.d.lv.entered i r⟩, h.t', h.ws, h.gens, ?_, h.n, h.fr, h.sd, h.gl⟩, hk⟩
 rw [<- h.L]
 exact zkc h.d.lv h.d.z.ok h.wh h.al
end
section
variable {B : Nat} {G G' : Own} {W W' : World} {wb : Nat} {k : WK} {x : WX} {p : WP} {t t' : Nat} {a a' : AP} {Ad : Nat -> Addr}
theorem zdc {cs : List Cmp} {c : Int} {q : Cmp} (h : zhm cs c = some q) : ∃ m : Nat, c = (m : Int) /\ cs[m]? = some q := by
 unfold zhm at h
 split at h
 ·exact ⟨c.toNat, by omega, h⟩
 simp at h
theorem zhc {cs : List Cmp} {c : Int} (h : zhm cs c = none) : c < 0 \/ (cs.length : Int) <= c := by
 unfold zhm at h
 split at h
 ·rw [List.getElem?_eq_none_iff] at h; omega
 omega
theorem Wz.kinds (h : Wz B G W wb x p) : ∃ b o n c, x.kv = .slice b n c /\ n = x.cs.length /\ b = o /\ W.cell? ⟨wb, 0, none⟩ = some (.slice b n c) /\ W.cell? ⟨wb, 1, none⟩ = some (.slice none 0 0) /\ W.cell? ⟨wb, 7, none⟩ = some (.int .i64 p.fr) /\ W.cell? ⟨wb, 3, none⟩ = some (.pointer (some ⟨x.sb, 0, none⟩)) := by
 obtain ⟨b, c, h1, -⟩ := h.kin
 exact ⟨b, b, _, c, h1, rfl, rfl, h1 ▸ h.cell (j := 0) rfl, h.cell (j := 1) rfl, h.cell (j := 7) rfl, h.cell (j := 3) rfl⟩
theorem zdi {W w1 : World} (hb : Below W.heap.size W w1) (o : Obj) : ∃ w2, w2 = w1.alloc o /\ Below W.heap.size W w2 /\ w2.heap[w1.heap.size]? = some o /\ Below w1.heap.size w1 w2 :=
 ⟨_, rfl, hb.trans ((bAl w1 o).mono hb.size), heap_alloc_new w1 o, bAl w1 o⟩
theorem zqr (h : Wa B G W wb k t a) (hE : Ev B W Ad) (id comp : Int) (hi : I64 id) (hl : look a.L id = none) :
  Calls Tryz.prog 98 #[.pointer (some ⟨wb, 0, none⟩), .int .i64 id, .int .i64 comp] W fun e W' => ∃ r, e = .returned r /\ Ed Ad W' r 17 1 /\ Below W.heap.size W W' := by
 have FN := hid (zqp h hE.env id hi hl)
 clear h hE
 go_enter Tryz.func98, Tryz.ntmps98
 go_wp2_with fail
 refine FN.out.mono ?_
 rintro e w1 ⟨rfl, hb⟩
 have HB := hid (hb.trans ((bAl w1 (.cells #[.int .i64 0, .int .i64 0] 144)).mono hb.size))
 clear hb FN
 go_wp2_with fail
 refine (zia _ (Ed.leaf Ad _ 17 (by decide)) (by decide)).mono ?_
 rintro e w2 ⟨tt, qq, rfl, k1, k2⟩
 have HK := hid k1
 have HB2 := hid (HB.out.trans (k2.mono HB.out.size))
 clear k1 k2
 go_wp2_with fail
 go_ret
 exact ⟨_, rfl, HK.out, HB2.out⟩
abbrev zP : Obj := .cells #[.int .i64 0, .int .i64 0, .int .i64 0, .int .i64 0, .int .i64 0, .int .i64 0] 89
def insK (K1 K2 : Nat) : Nat := if K1 = 0 then K2 else K1
def InsR (B : Nat) (G : Own) (W : World) (wb : Nat) (k : WK) (t : Nat) (A' : AP) (K1 K2 : Nat) (W' : World) : Prop := (K1 = 0 /\ K2 = 0 -> GoA B G W W' wb k t A') /\ (K1 ≠ 0 \/ K2 ≠ 0 -> Below W.heap.size W W')
theorem zhg (h : Wa B G W wb k t a) (hE : Ev B W Ad) (id comp : Int) (hi : I64 id) {row : List Prt} {i g : Nat} (s : zka B G W wb k t a id row p i g) (pt : Prt) (er : Value) (K1 K2 : Nat) (A' : AP) (her : ∀ w, Ed Ad w er K1 0)
  (HN0 : ∀ w, Below W.heap.size W w -> Calls Tryz.prog 140 #[.agg #[k.x.kv, .slice none 0 0], .int .i64 comp, .int .i64 p.fr] w fun e w' => e = .returned (.tuple #[.agg #[.int .i64 pt.c, .int .i64 pt.v0, .int .i64 pt.v1, .int .i64 pt.v2, .int .i64 pt.v3, .int .i64 pt.t], er]) /\ Below w.heap.size w w')
  (HI0 : K1 = 0 -> ∀ w, Below W.heap.size W w -> Calls Tryz.prog 142 #[.pointer (some ⟨k.x.sb, 0, none⟩), .agg #[.int .i64 (i : Int), .int .i64 (g : Int)], .agg #[.int .i64 pt.c, .int .i64 pt.v0, .int .i64 pt.v1, .int .i64 pt.v2, .int .i64 pt.v3, .int .i64 pt.t]] w fun e w' => ∃ r, e = .returned r /\ Ed Ad w' r K2 9 /\ (K2 ≠ 0 -> Below w.heap.size w w') /\ (K2 = 0 -> GoA B G w w' wb k t A')) :
  Calls Tryz.prog 98 #[.pointer (some ⟨wb, 0, none⟩), .int .i64 id, .int .i64 comp] W fun e W' => ∃ r, e = .returned r /\ Ed Ad W' r (insK K1 K2) 10 /\ InsR B G W wb k t A' K1 K2 W' := by
 have FN := hid (find_ok s.d.z id i g hi s.wh)
 obtain ⟨kb, -, kn, kc, hkv, -, -, -⟩ := s.d.z.kinds
 have HN : Hid (∀ w, Below W.heap.size W w -> Calls Tryz.prog 140 #[.agg #[.slice kb kn kc, .slice none 0 0], .int .i64 comp, .int .i64 p.fr] w fun e w' => e = .returned (.tuple #[.agg #[.int .i64 pt.c, .int .i64 pt.v0, .int .i64 pt.v1, .int .i64 pt.v2, .int .i64 pt.v3, .int .i64 pt.t], er]) /\ Below w.heap.size w w' /\ Below W.heap.size W w') := hid fun w hb => by
  rw [<- hkv]
  refine (HN0 w hb).mono ?_
  rintro e w' ⟨rfl, q2⟩
  exact ⟨rfl, q2, hb.trans (q2.mono hb.size)⟩
 have HI : Hid (K1 = 0 -> ∀ w, Below W.heap.size W w -> Calls Tryz.prog 142 #[.pointer (some ⟨k.x.sb, 0, none⟩), .agg #[.int .i64 (i : Int), .int .i64 (g : Int)], .agg #[.int .i64 pt.c, .int .i64 pt.v0, .int .i64 pt.v1, .int .i64 pt.v2, .int .i64 pt.v3, .int .i64 pt.t]] w fun e w' => ∃ r, e = .returned r /\ Hid (Ed Ad w' r K2 9) /\ Hid (K2 ≠ 0 -> Below W.heap.size W w') /\ Hid (K2 = 0 -> GoA B G W w' wb k t A') /\ w'.cell? ⟨wb, 3, none⟩ = some (.pointer (some ⟨k.x.sb, 0, none⟩)) /\ ∀ b o, W.heap.size <= b -> w.heap[b]? = some o -> w'.heap[b]? = some o) := hid fun h1 w hb => by
  refine (HI0 h1 w hb).mono ?_
  rintro e w' ⟨r, rfl, q1, q2, q3⟩
  have st : St (fun j => 1 <= G j /\ G j <= 3) w w' := by
   by_cases h2 : K2 = 0
   ·obtain ⟨G', u, -⟩ := q3 h2
    exact u.st
   exact St.of_below (q2 h2)
  refine ⟨r, rfl, q1, fun h2 => hb.trans ((q2 h2).mono hb.size), fun h2 => GoA.after h.fin hb (q3 h2), zaa (st.at (s.d.later hb).z.box (by rw [(s.d.later hb).z.gw]; decide)) rfl, fun b o hB hbo => st.at hbo fun q => ?_⟩
  have := (h.fin b (by omega)).2
  omega
 have HER := hid her
 have HR : Hid (∀ w, GoA B G W w wb k t A' -> Calls Tryz.prog 143 #[.pointer (some ⟨wb, 0, none⟩), uV 4 id comp 0 0 0 0 0 none 0 0 0 0] w fun e W' => e = .returned (.tuple #[]) /\ Below w.heap.size w W') := hid fun w hg => by
  have ev := (hg.ev h.fin h.big hE).env
  obtain ⟨G', u1, ⟨⟨p', z, -⟩, -⟩⟩ := hg
  exact zdb z.z ev 4 id comp 0 0 0 0 0 none 0 0 0 0
 unfold uV at HR
 have KK : Hid (∀ w, Below W.heap.size W w -> (w.cell? ⟨wb, 0, none⟩ = some (.slice kb kn kc) /\ w.cell? ⟨wb, 1, none⟩ = some (.slice none 0 0) /\ w.cell? ⟨wb, 7, none⟩ = some (.int .i64 p.fr)) /\ w.cell? ⟨wb, 3, none⟩ = some (.pointer (some ⟨k.x.sb, 0, none⟩))) := hid fun w hb => ⟨⟨hkv ▸ (s.d.later hb).z.cell (j := 0) rfl, (s.d.later hb).z.cell (j := 1) rfl, (s.d.later hb).z.cell (j := 7) rfl⟩, (s.d.later hb).z.cell (j := 3) rfl⟩
 clear h hE s hkv HN0 HI0 her
 go_enter Tryz.func98, Tryz.ntmps98
 go_wp2_with fail
 refine FN.out.mono ?_
 rintro e w1 ⟨rfl, hb⟩
 obtain ⟨w2, hw2, b2, r2, -⟩ := zdi hb (.cells #[.int .i64 (i : Int), .int .i64 (g : Int)] 144)
 have HW2 := hid hw2
 have R2 := hid r2
 have hb1 := hb.size
 clear hb FN hw2 r2
 go_upto_region 4 with fail
 rw [<- HW2.out]
 have HNN := hid hb1
 generalize hN1 : w1.heap.size = N1 at *
 have b2a := b2.alloc b2.size zP
 have HNA : Hid (∀ w, w = (w2.alloc zP).drew -> Calls Tryz.prog 140 #[.agg #[.slice kb kn kc, .slice none 0 0], .int .i64 comp, .int .i64 p.fr] w fun e w' => e = .returned (.tuple #[.agg #[.int .i64 pt.c, .int .i64 pt.v0, .int .i64 pt.v1, .int .i64 pt.v2, .int .i64 pt.v3, .int .i64 pt.t], er]) /\ Below W.heap.size W w' /\ w'.frozen? ⟨w2.heap.size, 0, none⟩ = false /\ w'.frozen? ⟨w2.heap.size, 1, none⟩ = false /\ w'.frozen? ⟨w2.heap.size, 2, none⟩ = false /\ w'.frozen? ⟨w2.heap.size, 3, none⟩ = false /\ w'.frozen? ⟨w2.heap.size, 4, none⟩ = false /\ w'.frozen? ⟨w2.heap.size, 5, none⟩ = false /\ w'.cell? ⟨w2.heap.size, 0, none⟩ = some (.int .i64 0) /\ w'.cell? ⟨w2.heap.size, 1, none⟩ = some (.int .i64 0) /\ w'.cell? ⟨w2.heap.size, 2, none⟩ = some (.int .i64 0) /\ w'.cell? ⟨w2.heap.size, 3, none⟩ = some (.int .i64 0) /\ w'.cell? ⟨w2.heap.size, 4, none⟩ = some (.int .i64 0) /\ w'.cell? ⟨w2.heap.size, 5, none⟩ = some (.int .i64 0) /\ Hid (w'.heap[w2.heap.size]? = some zP /\ Below w2.heap.size w2 w')) := hid fun w hw => by
  subst hw
  have q0 : Below w2.heap.size w2 (w2.alloc zP).drew := (bAl w2 zP).drew
  refine (HN.out _ b2a.drew).mono ?_
  rintro e w' ⟨rfl, q2, q3⟩
  have z3 : w'.heap[w2.heap.size]? = some zP := zab q2 (Nat.le_refl _) (heap_alloc_new w2 zP)
  exact ⟨rfl, q3, zac z3 0, zac z3 1, zac z3 2, zac z3 3, zac z3 4, zac z3 5, zaa z3 rfl, zaa z3 rfl, zaa z3 rfl, zaa z3 rfl, zaa z3 rfl, zaa z3 rfl, z3, q0.trans (q2.mono q0.size)⟩
 go_cut [8, 9] from 21 to 33 (fun ev pa wx => ∃ (N2 : Nat), ev = er /\ pa = .pointer (some ⟨N2, 0, none⟩) /\ Hid (W.heap.size <= N2 /\ Below W.heap.size W wx /\ wx.heap[N2]? = some (.cells pt.arr 89 (0, 0)) /\ wx.heap[N1]? = some (.cells #[.int .i64 (i : Int), .int .i64 (g : Int)] 144 (0, 0))))
 case first =>
  rename_i J K' hJ hK
  obtain ⟨⟨c0, c1, c7⟩, c3⟩ := KK.out w2 b2
  have b2d := b2.drew
  have b2ad := b2a.drew
  have b2s := b2.size
  go_region_held3 (fun w => w.cell? ⟨wb, 0, none⟩ = some (.slice kb kn kc) /\ w.cell? ⟨wb, 1, none⟩ = some (.slice none 0 0) /\ w.cell? ⟨wb, 7, none⟩ = some (.int .i64 p.fr))
   (first | (refine (KK.out _ ?_).1; with_reducible (repeat' (first | assumption | exact b2s | exact Below.size (by assumption) | refine Below.setCell ?_ ?_ _ | refine Below.alloc ?_ ?_ _ | refine Below.drew ?_))) | fail)
   (first
    | (go_at_call 140; refine (HNA.out _ ?_).mono ?_; (with_reducible rfl); rintro e w3 ⟨rfl, b3, f0, f1, f2, f3, f4, f5, y0, y1, y2, y3, y4, y5, H3⟩)
    | (go_at_call 140; refine (HN.out _ (by assumption)).mono ?_; rintro e w3 ⟨rfl, l3, b3⟩)
    | fail)
  ·clear HN HNA KK HI HR c0 c1 c7 c3
   exact hK _ _ (Met.intro (hJ _ _ ⟨_, _, _, _, _, _, _, _, _, _, _, _, _, _, _, ⟨_, rfl, rfl, b3.size, b3.alloc b3.size _, heap_alloc_new w3 _, zab (bAl w3 _) (Nat.le_refl _) (zab l3 (Nat.le_refl _) R2.out)⟩, rfl⟩))
  obtain ⟨q1, q2⟩ := H3.out
  have S6 := Rs.zjc (q := Prt.zero) (p := pt) q1
  have hlt : N1 < w2.heap.size := (Array.getElem?_eq_some_iff.1 R2.out).1
  have e1 : (Rs.six w3 w2.heap.size pt).heap[N1]? = some (.cells #[.int .i64 (i : Int), .int .i64 (g : Int)] 144 (0, 0)) := ((S6.2 w2.heap.size (Nat.le_refl _)).block N1 hlt).trans (zab q2 (Nat.le_refl _) R2.out)
  clear HN HNA KK HI HR c0 c1 c7 c3 f0 f1 f2 f3 f4 f5 y0 y1 y2 y3 y4 y5
  exact hK _ _ (Met.intro (hJ _ _ ⟨_, _, _, _, _, _, _, _, _, _, _, _, _, _, _, ⟨_, rfl, rfl, b2s, b3.trans ((S6.2 W.heap.size b2s)), S6.1, e1⟩, rfl⟩))
 case rest =>
  rename World => wx
  obtain ⟨N2, hev, rfl, HX⟩ := hcut
  subst hev
  obtain ⟨nx, bx, px, ex⟩ := HX.out
  have BX := hid bx
  by_cases h1 : K1 = 0
  ·have H1 := hid h1
   clear h1
   rw [H1.out] at HER
   obtain rfl := (HER.out wx).nil
   have K4 : Hid (∀ w, Below wx.heap.size wx w -> w.cell? ⟨wb, 3, none⟩ = some (.pointer (some ⟨k.x.sb, 0, none⟩)) /\ w.cell? ⟨N1, 0, none⟩ = some (.int .i64 (i : Int)) /\ w.cell? ⟨N1, 1, none⟩ = some (.int .i64 (g : Int)) /\ w.cell? ⟨N2, 0, none⟩ = some (.int .i64 pt.c) /\ w.cell? ⟨N2, 1, none⟩ = some (.int .i64 pt.v0) /\ w.cell? ⟨N2, 2, none⟩ = some (.int .i64 pt.v1) /\ w.cell? ⟨N2, 3, none⟩ = some (.int .i64 pt.v2) /\ w.cell? ⟨N2, 4, none⟩ = some (.int .i64 pt.v3) /\ w.cell? ⟨N2, 5, none⟩ = some (.int .i64 pt.t)) := hid fun w hb => by
    have q1 := zab hb (Nat.le_refl _) ex
    have q2 := zab hb (Nat.le_refl _) px
    exact ⟨(KK.out w (bx.trans (hb.mono bx.size))).2, zaa q1 rfl, zaa q1 rfl, zaa q2 rfl, zaa q2 rfl, zaa q2 rfl, zaa q2 rfl, zaa q2 rfl, zaa q2 rfl⟩
   have HI1 : Hid (∀ w, Below wx.heap.size wx w -> Calls Tryz.prog 142 #[.pointer (some ⟨k.x.sb, 0, none⟩), .agg #[.int .i64 (i : Int), .int .i64 (g : Int)], .agg #[.int .i64 pt.c, .int .i64 pt.v0, .int .i64 pt.v1, .int .i64 pt.v2, .int .i64 pt.v3, .int .i64 pt.t]] w fun e w' => ∃ r, e = .returned r /\ Hid (Ed Ad w' r K2 9) /\ Hid (K2 ≠ 0 -> Below W.heap.size W w') /\ Hid (K2 = 0 -> GoA B G W w' wb k t A') /\ (w'.cell? ⟨wb, 3, none⟩ = some (.pointer (some ⟨k.x.sb, 0, none⟩)) /\ w'.cell? ⟨N1, 0, none⟩ = some (.int .i64 (i : Int)) /\ w'.cell? ⟨N1, 1, none⟩ = some (.int .i64 (g : Int)) /\ w'.cell? ⟨N2, 0, none⟩ = some (.int .i64 pt.c) /\ w'.cell? ⟨N2, 1, none⟩ = some (.int .i64 pt.v0) /\ w'.cell? ⟨N2, 2, none⟩ = some (.int .i64 pt.v1) /\ w'.cell? ⟨N2, 3, none⟩ = some (.int .i64 pt.v2) /\ w'.cell? ⟨N2, 4, none⟩ = some (.int .i64 pt.v3) /\ w'.cell? ⟨N2, 5, none⟩ = some (.int .i64 pt.t))) := hid fun w hb => by
    refine (HI.out H1.out w (bx.trans (hb.mono bx.size))).mono ?_
    rintro e w' ⟨r, rfl, q1, q2, q3, q4, q5⟩
    have e1 := q5 _ _ HNN.out (zab hb (Nat.le_refl _) ex)
    have e2 := q5 _ _ nx (zab hb (Nat.le_refl _) px)
    exact ⟨r, rfl, q1, q2, q3, q4, zaa e1 rfl, zaa e1 rfl, zaa e2 rfl, zaa e2 rfl, zaa e2 rfl, zaa e2 rfl, zaa e2 rfl, zaa e2 rfl⟩
   have bx0 : Below wx.heap.size wx wx := Below.refl _ _
   have bx1 := bx0.drew
   have bxd := bx.drew
   obtain ⟨k40, k41, k42, k43, k44, k45, k46, k47, k48⟩ := K4.out wx bx0
   clear px ex HX HN HNA KK HI b2 b2a R2 HW2
   go_upto_region 7 with fail
   go_region_held3 (fun w => w.cell? ⟨wb, 3, none⟩ = some (.pointer (some ⟨k.x.sb, 0, none⟩)) /\ w.cell? ⟨N1, 0, none⟩ = some (.int .i64 (i : Int)) /\ w.cell? ⟨N1, 1, none⟩ = some (.int .i64 (g : Int)) /\ w.cell? ⟨N2, 0, none⟩ = some (.int .i64 pt.c) /\ w.cell? ⟨N2, 1, none⟩ = some (.int .i64 pt.v0) /\ w.cell? ⟨N2, 2, none⟩ = some (.int .i64 pt.v1) /\ w.cell? ⟨N2, 3, none⟩ = some (.int .i64 pt.v2) /\ w.cell? ⟨N2, 4, none⟩ = some (.int .i64 pt.v3) /\ w.cell? ⟨N2, 5, none⟩ = some (.int .i64 pt.t))
    (first | (with_reducible assumption) | (refine K4.out _ ?_; with_reducible assumption) | fail)
    (first | (go_at_call 142; refine (HI1.out _ ?_).mono ?_; (with_reducible assumption); rintro e w5 ⟨r, rfl, HE5, HB5, HG5, hS⟩) | fail)
   clear hS k40 k41 k42 k43 k44 k45 k46 k47 k48 K4 HI1 bx bx0 bx1 bxd
   by_cases h2 : K2 = 0
   ·have H2 := hid h2
    clear h2
    have hg := HG5.out H2.out
    have he := HE5.out
    rw [H2.out] at he
    obtain rfl := he.nil
    have NR := hid (HR.out w5 hg)
    have HG := hid hg
    clear hg he HR HE5
    go_wp2_with fail
    refine NR.out.mono ?_
    rintro e w6 ⟨rfl, hb⟩
    have HG6 := hid (HG.out.later hb)
    clear hb NR
    go_wp2_with fail
    go_ret
    exact ⟨_, rfl, by unfold insK; rw [if_pos H1.out, H2.out]; exact Ed.no _ _ _, fun _ => HG6.out, fun q => absurd q (by simp [H1.out, H2.out])⟩
   have H2 := hid h2
   clear h2
   obtain ⟨t5, q5, rfl⟩ := HE5.out.ifc H2.out
   have HB := hid (HB5.out H2.out)
   clear HR HB5 HG5
   go_wp2_with fail
   refine (zia _ HE5.out H2.out).mono ?_
   rintro e w6 ⟨tt, qq, rfl, k1, k2⟩
   have HK := hid k1
   have HB6 := hid (HB.out.trans (k2.mono HB.out.size))
   clear k1 k2
   go_wp2_with fail
   go_ret
   exact ⟨_, rfl, by unfold insK; rw [if_pos H1.out]; exact HK.out, fun q => absurd q.2 H2.out, fun _ => HB6.out⟩
  have H1 := hid h1
  clear h1
  obtain ⟨t5, q5, rfl⟩ := (HER.out wx).ifc H1.out
  clear HI HR HN HNA KK px ex HX b2 b2a R2 HW2
  go_wp2_with fail
  refine (zia _ (HER.out wx) H1.out).mono ?_
  rintro e w6 ⟨tt, qq, rfl, k1, k2⟩
  have HK := hid (Ed.up (m := 10) k1 (by decide))
  have HB6 := hid (BX.out.trans (k2.mono BX.out.size))
  clear k1 k2
  go_wp2_with fail
  go_ret
  exact ⟨_, rfl, by unfold insK; rw [if_neg H1.out]; exact HK.out, fun q => absurd q.1 H1.out, fun _ => HB6.out⟩
theorem zuq (h : Wa B G W wb k t a) (hE : Ev B W Ad) (id comp : Int) (hi : I64 id) {row : List Prt} (hl : look a.L id = some row) (hc : zhm k.x.cs comp = none) :
  Calls Tryz.prog 98 #[.pointer (some ⟨wb, 0, none⟩), .int .i64 id, .int .i64 comp] W fun e W' => ∃ r, e = .returned r /\ Ed Ad W' r 1 10 /\ Below W.heap.size W W' := by
 obtain ⟨p, i, g, s⟩ := h.stands hl
 refine (zhg h hE id comp hi s Prt.zero (.iface 330 (.pointer (some (Ad 1)))) 1 0 a (fun w => Ed.leaf Ad w 1 (by decide)) (fun w hb => ?_) (fun q => absurd q (by decide))).mono ?_
 ·exact Sc.z8x Ad w (hE.env.later hb) k.x.kv (.slice none 0 0) ⟨_, _, _, rfl⟩ k.x.cs (s.d.later hb).z.kin (by have := s.d.z.few; omega) comp (zhc hc) p.fr
 rintro e W' ⟨r, rfl, he, hr⟩
 exact ⟨r, rfl, he, hr.2 (.inl (by decide))⟩
theorem zfa (h : Wa B G W wb k t a) (hE : Ev B W Ad) (id comp : Int) (hi : I64 id) {row : List Prt} (hl : look a.L id = some row) {c : Cmp} (hc : zhm k.x.cs comp = some c) {q : Prt} (hq : pick row comp = some q) :
  Calls Tryz.prog 98 #[.pointer (some ⟨wb, 0, none⟩), .int .i64 id, .int .i64 comp] W fun e W' => ∃ r, e = .returned r /\ Ed Ad W' r 9 10 /\ Below W.heap.size W W' := by
 obtain ⟨p, i, g, s⟩ := h.stands hl
 obtain ⟨m, rfl, hm⟩ := zdc hc
 refine (zhg h hE id m hi s (dfP m c p.fr) .nilIface 0 9 a (fun w => Ed.no _ _ _) (fun w hb => ?_) (fun _ w hb => ?_)).mono ?_
 ·exact Sc.z0j w k.x.kv (.slice none 0 0) ⟨_, _, _, rfl⟩ k.x.cs (s.d.later hb).z.kin (by have := s.d.z.few; omega) m c hm p.fr
 ·refine (zkd (s.d.later hb).z.st (hE.env.later hb) s.al (dfP m c p.fr) q (by rw [s.ws]; exact h.ok.wd m c hm _) (by rw [s.at']; exact (zgg hq).1) (zgg hq).2).mono ?_
  rintro e w' ⟨r, rfl, he, hb2⟩
  exact ⟨r, rfl, Er.ed he, fun _ => hb2, fun q => absurd q (by decide)⟩
 rintro e W' ⟨r, rfl, he, hr⟩
 exact ⟨r, rfl, he, hr.2 (.inr (by decide))⟩
theorem zju (h : Wa B G W wb k t a) (hE : Ev B W Ad) (id comp : Int) (hi : I64 id) {row : List Prt} (hl : look a.L id = some row) {c : Cmp} (hc : zhm k.x.cs comp = some c) (hq : pick row comp = none) :
  Calls Tryz.prog 98 #[.pointer (some ⟨wb, 0, none⟩), .int .i64 id, .int .i64 comp] W fun e W' => e = .returned .nilIface /\ GoA B G W W' wb k t { a with L := setB a.L id (insP row (dfP comp c a.fr)) } := by
 obtain ⟨p, i, g, s⟩ := h.stands hl
 obtain ⟨m, rfl, hm⟩ := zdc hc
 have hfr : I64 p.fr := Bd.zaj (by have := s.d.z.fr0; omega) (by have := s.d.z.fr0; omega)
 refine (zhg h hE id m hi s (dfP m c p.fr) .nilIface 0 0 { a with L := setB a.L id (insP row (dfP m c a.fr)) } (fun w => Ed.no _ _ _) (fun w hb => ?_) (fun _ w hb => ?_)).mono ?_
 ·exact Sc.z0j w k.x.kv (.slice none 0 0) ⟨_, _, _, rfl⟩ k.x.cs (s.d.later hb).z.kin (by have := s.d.z.few; omega) m c hm p.fr
 ·refine (z3c (s.d.later hb).z.st (s.d.later hb).z.fin (hE.env.later hb) s.al (dfP m c p.fr) (by rw [s.ws]; exact h.ok.wd m c hm _) hfr (by rw [s.at']; exact zjy hq)).mono ?_
  rintro e w' ⟨rfl, hg⟩
  have S2 : zka B G w wb k t a id row p i g := ⟨s.d.later hb, s.t', s.ws, s.gens, s.L, s.n, s.fr, s.sd, s.gl, s.wh, s.al, s.at'⟩
  have e2 := S2.go (W' := w') h.ok hg
  rw [s.at', s.fr] at e2
  exact ⟨_, rfl, Ed.no _ _ _, fun q => absurd rfl q, fun _ => e2⟩
 rintro e W' ⟨r, rfl, he, hr⟩
 obtain rfl := he.nil
 exact ⟨rfl, hr.1 ⟨rfl, rfl⟩⟩
end
section
variable {B : Nat} {G G' : Own} {W W' : World} {wb : Nat} {k : WK} {x : WX} {p : WP} {t t' : Nat} {a a' : AP} {Ad : Nat -> Addr}
theorem zph (h : Wa B G W wb k t a) (hE : Ev B W Ad) (id comp : Int) (hi : I64 id) (hl : look a.L id = none) :
  Calls Tryz.prog 99 #[.pointer (some ⟨wb, 0, none⟩), .int .i64 id, .int .i64 comp] W fun e W' => ∃ r, e = .returned r /\ Ed Ad W' r 17 1 /\ Below W.heap.size W W' := by
 have FN := hid (zqp h hE.env id hi hl)
 clear h hE
 go_enter Tryz.func99, Tryz.ntmps99
 go_wp2_with fail
 refine FN.out.mono ?_
 rintro e w1 ⟨rfl, hb⟩
 have HB := hid (hb.trans ((bAl w1 (.cells #[.int .i64 0, .int .i64 0] 144)).mono hb.size))
 clear hb FN
 go_wp2_with fail
 refine (zia _ (Ed.leaf Ad _ 17 (by decide)) (by decide)).mono ?_
 rintro e w2 ⟨tt, qq, rfl, k1, k2⟩
 have HK := hid k1
 have HB2 := hid (HB.out.trans (k2.mono HB.out.size))
 clear k1 k2
 go_wp2_with fail
 go_ret
 exact ⟨_, rfl, HK.out, HB2.out⟩
abbrev sx (w : World) (b : Nat) (p : Prt) : World := (((((w.setCell ⟨b, 0, none⟩ (.int .i64 p.c)).setCell ⟨b, 1, none⟩ (.int .i64 p.v0)).setCell ⟨b, 2, none⟩ (.int .i64 p.v1)).setCell ⟨b, 3, none⟩ (.int .i64 p.v2)).setCell ⟨b, 4, none⟩ (.int .i64 p.v3)).setCell ⟨b, 5, none⟩ (.int .i64 p.t)
theorem z0r {w : World} {b : Nat} (h : w.heap[b]? = some zP) : sx w b Prt.zero = w := by
 have e : ∀ j, j < 6 -> w.setCell ⟨b, j, none⟩ (.int .i64 0) = w := fun j hj => Bd.zbj h (by
  have hj' : j = 0 \/ j = 1 \/ j = 2 \/ j = 3 \/ j = 4 \/ j = 5 := by omega
  rcases hj' with rfl | rfl | rfl | rfl | rfl | rfl <;> rfl)
 show (((((w.setCell ⟨b, 0, none⟩ (.int .i64 0)).setCell ⟨b, 1, none⟩ (.int .i64 0)).setCell ⟨b, 2, none⟩ (.int .i64 0)).setCell ⟨b, 3, none⟩ (.int .i64 0)).setCell ⟨b, 4, none⟩ (.int .i64 0)).setCell ⟨b, 5, none⟩ (.int .i64 0) = w
 rw [e 0 (by decide), e 1 (by decide), e 2 (by decide), e 3 (by decide), e 4 (by decide), e 5 (by decide)]
theorem GoA.blk {w w' w2 : World} {b : Nat} {A' : AP} (hf : Fin B G W) (hbw : Below W.heap.size W w) (h : GoA B G w w' wb k t A') (hs : St (fun j => j = b) w' w2) (h1 : W.heap.size <= b) (h2 : b < w.heap.size) : GoA B G W w2 wb k t A' := by
 obtain ⟨G', u, a⟩ := h
 have gb : G b = 0 := Classical.byContradiction fun e => by have := (hf b e).2; omega
 have gb' : G' b = 0 := (u.old b h2).trans gb
 refine ⟨G', ⟨((St.of_below (S := fun j => 1 <= G j /\ G j <= 3) hbw).trans u.st fun _ _ q => q).trans hs fun j hj e => by omega, fun j hj => u.old j (Nat.lt_of_lt_of_le hj hbw.size), fun j hj q => ?_⟩, a.beside hs fun j hj e => hj (by rw [e]; exact gb')⟩
 by_cases e : j < w.heap.size
 ·rw [u.old j e] at q
  have := (hf j q).2
  omega
 exact u.new j (by omega) q
def OneR (B : Nat) (G : Own) (W : World) (wb : Nat) (k : WK) (t : Nat) (A' : AP) (K : Nat) (W' : World) : Prop := (K = 0 -> GoA B G W W' wb k t A') /\ (K ≠ 0 -> Below W.heap.size W W')
theorem zko (h : Wa B G W wb k t a) (hE : Ev B W Ad) (id comp : Int) (hi : I64 id) {row : List Prt} {i g : Nat} (s : zka B G W wb k t a id row p i g) (pt : Prt) (K : Nat) (A' : AP) (hz : K ≠ 0 -> pt = Prt.zero)
  (HI0 : ∀ w, Below W.heap.size W w -> Calls Tryz.prog 144 #[.pointer (some ⟨k.x.sb, 0, none⟩), .agg #[.int .i64 (i : Int), .int .i64 (g : Int)], .int .i64 comp] w fun e w' => ∃ r, e = .returned (.tuple #[.agg #[.int .i64 pt.c, .int .i64 pt.v0, .int .i64 pt.v1, .int .i64 pt.v2, .int .i64 pt.v3, .int .i64 pt.t], r]) /\ Ed Ad w' r K 10 /\ (K = 0 -> r = .nilIface) /\ (K ≠ 0 -> Below w.heap.size w w') /\ (K = 0 -> GoA B G w w' wb k t A')) :
  Calls Tryz.prog 99 #[.pointer (some ⟨wb, 0, none⟩), .int .i64 id, .int .i64 comp] W fun e W' => ∃ r, e = .returned r /\ Ed Ad W' r K 11 /\ OneR B G W wb k t A' K W' := by
 have FN := hid (find_ok s.d.z id i g hi s.wh)
 /- What a call at w leaves: the answer's part may be laid into a block of its own, ahead or behind. -/
 have HI : Hid (∀ w, Below W.heap.size W w -> Calls Tryz.prog 144 #[.pointer (some ⟨k.x.sb, 0, none⟩), .agg #[.int .i64 (i : Int), .int .i64 (g : Int)], .int .i64 comp] w fun e w' => ∃ r, e = .returned (.tuple #[.agg #[.int .i64 pt.c, .int .i64 pt.v0, .int .i64 pt.v1, .int .i64 pt.v2, .int .i64 pt.v3, .int .i64 pt.t], r]) /\ (Ed Ad w' r K 10 /\ (K = 0 -> r = .nilIface) /\ (K ≠ 0 -> Below w.heap.size w w') /\ (K = 0 -> GoA B G w w' wb k t A')) /\ w'.cell? ⟨wb, 3, none⟩ = some (.pointer (some ⟨k.x.sb, 0, none⟩)) /\ ∀ b o, W.heap.size <= b -> w.heap[b]? = some o -> w'.heap[b]? = some o) := hid fun w hb => by
  refine (HI0 w hb).mono ?_
  rintro e w' ⟨r, rfl, q1, q0, q2, q3⟩
  have st : St (fun j => 1 <= G j /\ G j <= 3) w w' := by
   by_cases h2 : K = 0
   ·obtain ⟨G', u, -⟩ := q3 h2
    exact u.st
   exact St.of_below (q2 h2)
  refine ⟨r, rfl, ⟨q1, q0, q2, q3⟩, zaa (st.at (s.d.later hb).z.box (by rw [(s.d.later hb).z.gw]; decide)) rfl, fun b o hB hbo => st.at hbo fun q => ?_⟩
  have := (h.fin b (by omega)).2
  omega
 have HF := hid h.fin
 have HZ := hid hz
 have HR : Hid (∀ w, GoA B G W w wb k t A' -> Calls Tryz.prog 143 #[.pointer (some ⟨wb, 0, none⟩), uV 5 id pt.c pt.v0 pt.v1 pt.v2 pt.v3 pt.t none 0 0 0 0] w fun e W' => e = .returned (.tuple #[]) /\ Below w.heap.size w W') := hid fun w hg => by
  have ev := (hg.ev h.fin h.big hE).env
  obtain ⟨G', u1, ⟨⟨p', z, -⟩, -⟩⟩ := hg
  exact zdb z.z ev 5 id pt.c pt.v0 pt.v1 pt.v2 pt.v3 pt.t none 0 0 0 0
 unfold uV at HR
 have KK : Hid (∀ w, Below W.heap.size W w -> w.cell? ⟨wb, 3, none⟩ = some (.pointer (some ⟨k.x.sb, 0, none⟩))) := hid fun w hb => (s.d.later hb).z.cell (j := 3) rfl
 clear h hE s HI0 hz
 go_enter Tryz.func99, Tryz.ntmps99
 go_wp2_with fail
 refine FN.out.mono ?_
 rintro e w1 ⟨rfl, hb⟩
 obtain ⟨w2, hw2, b2, r2, -⟩ := zdi hb (.cells #[.int .i64 (i : Int), .int .i64 (g : Int)] 144)
 have HW2 := hid hw2
 have R2 := hid r2
 have HNN := hid hb.size
 clear hb FN hw2 r2
 go_upto_region 4 with fail
 rw [<- HW2.out]
 generalize hN1 : w1.heap.size = N1 at *
 have b2a := b2.alloc b2.size zP
 have b2d := b2.drew
 have b2ad := b2a.drew
 have b2s := b2.size
 have KE : Hid (∀ w, Below w2.heap.size w2 w -> w.cell? ⟨wb, 3, none⟩ = some (.pointer (some ⟨k.x.sb, 0, none⟩)) /\ w.cell? ⟨N1, 0, none⟩ = some (.int .i64 (i : Int)) /\ w.cell? ⟨N1, 1, none⟩ = some (.int .i64 (g : Int))) := hid fun w hb => by
  have q := zab hb (Nat.le_refl _) R2.out
  exact ⟨KK.out w (b2.trans (hb.mono b2.size)), zaa q rfl, zaa q rfl⟩
 have k0 : Below w2.heap.size w2 w2 := Below.refl _ _
 have k0a : Below w2.heap.size w2 (w2.alloc zP) := bAl w2 zP
 have k0d := k0.drew
 have k0ad := k0a.drew
 have HNA : Hid (∀ w, w = (w2.alloc zP).drew -> Calls Tryz.prog 144 #[.pointer (some ⟨k.x.sb, 0, none⟩), .agg #[.int .i64 (i : Int), .int .i64 (g : Int)], .int .i64 comp] w fun e w' => ∃ r, e = .returned (.tuple #[.agg #[.int .i64 pt.c, .int .i64 pt.v0, .int .i64 pt.v1, .int .i64 pt.v2, .int .i64 pt.v3, .int .i64 pt.t], r]) /\ (w'.cell? ⟨wb, 3, none⟩ = some (.pointer (some ⟨k.x.sb, 0, none⟩)) /\ w'.cell? ⟨N1, 0, none⟩ = some (.int .i64 (i : Int)) /\ w'.cell? ⟨N1, 1, none⟩ = some (.int .i64 (g : Int))) /\ w'.frozen? ⟨w2.heap.size, 0, none⟩ = false /\ w'.frozen? ⟨w2.heap.size, 1, none⟩ = false /\ w'.frozen? ⟨w2.heap.size, 2, none⟩ = false /\ w'.frozen? ⟨w2.heap.size, 3, none⟩ = false /\ w'.frozen? ⟨w2.heap.size, 4, none⟩ = false /\ w'.frozen? ⟨w2.heap.size, 5, none⟩ = false /\ w'.cell? ⟨w2.heap.size, 0, none⟩ = some (.int .i64 0) /\ w'.cell? ⟨w2.heap.size, 1, none⟩ = some (.int .i64 0) /\ w'.cell? ⟨w2.heap.size, 2, none⟩ = some (.int .i64 0) /\ w'.cell? ⟨w2.heap.size, 3, none⟩ = some (.int .i64 0) /\ w'.cell? ⟨w2.heap.size, 4, none⟩ = some (.int .i64 0) /\ w'.cell? ⟨w2.heap.size, 5, none⟩ = some (.int .i64 0) /\ Hid (Ed Ad (sx w' w2.heap.size pt) r K 10 /\ OneR B G W wb k t A' K (sx w' w2.heap.size pt)) /\ ((sx w' w2.heap.size pt).cell? ⟨wb, 3, none⟩ = some (.pointer (some ⟨k.x.sb, 0, none⟩)) /\ (sx w' w2.heap.size pt).cell? ⟨N1, 0, none⟩ = some (.int .i64 (i : Int)) /\ (sx w' w2.heap.size pt).cell? ⟨N1, 1, none⟩ = some (.int .i64 (g : Int))) /\ Hid ((sx w' w2.heap.size pt).heap[w2.heap.size]? = some (.cells pt.arr 89 (0, 0)) /\ Below w2.heap.size w' (sx w' w2.heap.size pt))) := hid fun w hw => by
  subst hw
  refine (HI.out _ b2ad).mono ?_
  rintro e w' ⟨r, rfl, q1, q2, q3⟩
  have z3 : w'.heap[w2.heap.size]? = some zP := q3 _ _ b2s (heap_alloc_new w2 zP)
  have ze := q3 _ _ HNN.out (zab k0ad (Nat.le_refl _) R2.out)
  have S6 := Rs.zjc (q := Prt.zero) (p := pt) z3
  refine ⟨r, rfl, ⟨q2, zaa ze rfl, zaa ze rfl⟩, zac z3 0, zac z3 1, zac z3 2, zac z3 3, zac z3 4, zac z3 5, zaa z3 rfl, zaa z3 rfl, zaa z3 rfl, zaa z3 rfl, zaa z3 rfl, zaa z3 rfl, ⟨?_, ?_, ?_⟩, ?_, S6.1, S6.2 _ (Nat.le_refl _)⟩
  ·by_cases h1 : K = 0
   ·obtain rfl := q1.2.1 h1
    rw [h1]
    exact Ed.no _ _ _
   rw [HZ.out h1, z0r z3]
   exact q1.1
  ·intro h1
   refine GoA.blk HF.out b2ad (q1.2.2.2 h1) ?_ b2s (by show w2.heap.size < (w2.alloc zP).heap.size; simp)
   have c := fun (w : World) (j : Nat) (v : Value) => St.setCell (S := fun k => k = w2.heap.size) (a := w) (p := ⟨w2.heap.size, j, none⟩) v rfl
   exact (((((c w' 0 _).trans (c _ 1 _) fun _ _ q => q).trans (c _ 2 _) fun _ _ q => q).trans (c _ 3 _) fun _ _ q => q).trans (c _ 4 _) fun _ _ q => q).trans (c _ 5 _) fun _ _ q => q
  ·intro h1
   rw [HZ.out h1, z0r z3]
   exact b2ad.trans ((q1.2.2.1 h1).mono b2ad.size)
  have hlt : N1 < w2.heap.size := (Array.getElem?_eq_some_iff.1 R2.out).1
  have e1 : (sx w' w2.heap.size pt).heap[N1]? = some (.cells #[.int .i64 (i : Int), .int .i64 (g : Int)] 144 (0, 0)) := ((S6.2 w2.heap.size (Nat.le_refl _)).block N1 hlt).trans ze
  have hwl : wb < w2.heap.size := World.block_lt_of_cell? w2 _ (KE.out w2 k0).1
  exact ⟨((S6.2 w2.heap.size (Nat.le_refl _)).cell (p := ⟨wb, 3, none⟩) hwl).trans q2, zaa e1 rfl, zaa e1 rfl⟩
 have HNB : Hid (∀ w, Below w2.heap.size w2 w -> Calls Tryz.prog 144 #[.pointer (some ⟨k.x.sb, 0, none⟩), .agg #[.int .i64 (i : Int), .int .i64 (g : Int)], .int .i64 comp] w fun e w' => ∃ r, e = .returned (.tuple #[.agg #[.int .i64 pt.c, .int .i64 pt.v0, .int .i64 pt.v1, .int .i64 pt.v2, .int .i64 pt.v3, .int .i64 pt.t], r]) /\ (∀ w3, Below w'.heap.size w' w3 -> w3.cell? ⟨wb, 3, none⟩ = some (.pointer (some ⟨k.x.sb, 0, none⟩)) /\ w3.cell? ⟨N1, 0, none⟩ = some (.int .i64 (i : Int)) /\ w3.cell? ⟨N1, 1, none⟩ = some (.int .i64 (g : Int))) /\ Below w'.heap.size w' w' /\ Hid (Ed Ad w' r K 10 /\ OneR B G W wb k t A' K w')) := hid fun w hb => by
  refine (HI.out _ (b2.trans (hb.mono b2.size))).mono ?_
  rintro e w' ⟨r, rfl, q1, q2, q3⟩
  have ze := q3 _ _ HNN.out (zab hb (Nat.le_refl _) R2.out)
  refine ⟨r, rfl, fun w3 hb3 => ⟨At.seen hb3 (Nat.le_refl _) q2, ?_, ?_⟩, Below.refl _ _, q1.1, fun h1 => GoA.after HF.out (b2.trans (hb.mono b2.size)) (q1.2.2.2 h1), fun h1 => (b2.trans (hb.mono b2.size)).trans ((q1.2.2.1 h1).mono (b2.trans (hb.mono b2.size)).size)⟩
  ·exact zaa (zab hb3 (Nat.le_refl _) ze) rfl
  exact zaa (zab hb3 (Nat.le_refl _) ze) rfl
 go_cut [8, 9] from 20 to 29 (fun ev pa wx => ∃ (N2 : Nat), pa = .pointer (some ⟨N2, 0, none⟩) /\ Hid (wx.heap[N2]? = some (.cells pt.arr 89 (0, 0)) /\ Ed Ad wx ev K 10 /\ OneR B G W wb k t A' K wx))
 case first =>
  rename_i J K' hJ hK
  obtain ⟨c3, ce0, ce1⟩ := KE.out w2 k0
  go_region_held3 (fun w => w.cell? ⟨wb, 3, none⟩ = some (.pointer (some ⟨k.x.sb, 0, none⟩)) /\ w.cell? ⟨N1, 0, none⟩ = some (.int .i64 (i : Int)) /\ w.cell? ⟨N1, 1, none⟩ = some (.int .i64 (g : Int)))
   (first | (with_reducible assumption) | (refine KE.out _ ?_; with_reducible assumption) | (refine hS _ ?_; with_reducible (repeat' (first | assumption | exact Below.size (by assumption) | refine Below.setCell ?_ ?_ _ | refine Below.alloc ?_ ?_ _ | refine Below.drew ?_))) | go_keep | fail)
   (first
    | (go_at_call 144; refine (HNA.out _ ?_).mono ?_; (with_reducible rfl); rintro e w3 ⟨r, rfl, hS3, f0, f1, f2, f3, f4, f5, y0, y1, y2, y3, y4, y5, H3, hS6, Z3⟩)
    | (go_at_call 144; refine (HNB.out _ ?_).mono ?_; (with_reducible assumption); rintro e w3 ⟨r, rfl, hS, hS0, H3⟩)
    | fail)
  ·have e1 := heap_alloc_new w3 (.cells pt.arr 89)
   have b3 := bAl w3 (.cells pt.arr 89)
   have FN : Hid (Ed Ad (w3.alloc (.cells pt.arr 89)) r K 10 /\ OneR B G W wb k t A' K (w3.alloc (.cells pt.arr 89))) := hid ⟨H3.out.1.later b3, fun h1 => (H3.out.2.1 h1).later b3, fun h1 => (H3.out.2.2 h1).trans (b3.mono (H3.out.2.2 h1).size)⟩
   clear HNA HNB HI KK KE HR hS c3 ce0 ce1
   exact hK _ _ (Met.intro (hJ _ _ ⟨_, _, _, _, _, _, _, _, _, _, _, _, ⟨_, rfl, e1, FN.out.1, FN.out.2⟩, rfl⟩))
  clear HNA HNB HI KK KE HR c3 ce0 ce1 f0 f1 f2 f3 f4 f5 y0 y1 y2 y3 y4 y5
  exact hK _ _ (Met.intro (hJ _ _ ⟨_, _, _, _, _, _, _, _, _, _, _, _, ⟨_, rfl, Z3.out.1, H3.out.1, H3.out.2⟩, rfl⟩))
 case rest =>
  rename World => wx
  obtain ⟨N2, rfl, HX⟩ := hcut
  obtain ⟨px, ee, orr⟩ := HX.out
  have HO := hid orr
  have HEE := hid ee
  have p0 := zaa (j := 0) px rfl
  have p1 := zaa (j := 1) px rfl
  have p2 := zaa (j := 2) px rfl
  have p3 := zaa (j := 3) px rfl
  have p4 := zaa (j := 4) px rfl
  have p5 := zaa (j := 5) px rfl
  clear HX px ee orr HNA HNB HI KK KE b2 b2a b2d b2ad k0 k0a k0d k0ad
  by_cases h1 : K = 0
  ·have H1 := hid h1
   clear h1
   have he := HEE.out
   rw [H1.out] at he
   obtain rfl := he.nil
   have NR := hid (HR.out wx (HO.out.1 H1.out))
   clear he HR HEE
   go_wp2_with fail
   refine NR.out.mono ?_
   rintro e w6 ⟨rfl, hb⟩
   have HG6 := hid ((HO.out.1 H1.out).later hb)
   clear hb NR p0 p1 p2 p3 p4 p5
   go_wp2_with fail
   go_ret
   exact ⟨_, rfl, by rw [H1.out]; exact Ed.no _ _ _, fun _ => HG6.out, fun q => absurd H1.out q⟩
  have H1 := hid h1
  clear h1
  obtain ⟨t5, q5, rfl⟩ := HEE.out.ifc H1.out
  have HB := hid (HO.out.2 H1.out)
  clear HR HO p0 p1 p2 p3 p4 p5
  go_wp2_with fail
  refine (zia _ HEE.out H1.out).mono ?_
  rintro e w6 ⟨tt, qq, rfl, k1, k2⟩
  have HK := hid k1
  have HB6 := hid (HB.out.trans (k2.mono HB.out.size))
  clear k1 k2
  go_wp2_with fail
  go_ret
  exact ⟨_, rfl, HK.out, fun q => absurd q H1.out, fun _ => HB6.out⟩
theorem zoz (h : Wa B G W wb k t a) (hE : Ev B W Ad) (id comp : Int) (hi : I64 id) (hic : I64 comp) {row : List Prt} (hl : look a.L id = some row) (hq : pick row comp = none) :
  Calls Tryz.prog 99 #[.pointer (some ⟨wb, 0, none⟩), .int .i64 id, .int .i64 comp] W fun e W' => ∃ r, e = .returned r /\ Ed Ad W' r 7 11 /\ Below W.heap.size W W' := by
 obtain ⟨p, i, g, s⟩ := h.stands hl
 refine (zko h hE id comp hi s Prt.zero 7 a (fun _ => rfl) (fun w hb => ?_)).mono ?_
 ·refine (zmg (s.d.later hb).z.st (hE.env.later hb) s.al comp hic (by rw [s.at']; exact hq)).mono ?_
  rintro e w' ⟨r, rfl, he, hb2⟩
  exact ⟨r, rfl, Er.ed he, fun q => absurd q (by decide), fun _ => hb2, fun q => absurd q (by decide)⟩
 rintro e W' ⟨r, rfl, he, hr⟩
 exact ⟨r, rfl, he, hr.2 (by decide)⟩
theorem zjf (h : Wa B G W wb k t a) (hE : Ev B W Ad) (id comp : Int) (hi : I64 id) {row : List Prt} (hl : look a.L id = some row) {q : Prt} (hq : pick row comp = some q) :
  Calls Tryz.prog 99 #[.pointer (some ⟨wb, 0, none⟩), .int .i64 id, .int .i64 comp] W fun e W' => e = .returned .nilIface /\ GoA B G W W' wb k t { a with L := setB a.L id (remP row comp) } := by
 obtain ⟨p, i, g, s⟩ := h.stands hl
 refine (zko h hE id comp hi s q 0 { a with L := setB a.L id (remP row comp) } (fun q => absurd rfl q) (fun w hb => ?_)).mono ?_
 ·refine (z3h (s.d.later hb).z.st (s.d.later hb).z.fin s.al comp q (by rw [s.at']; exact hq)).mono ?_
  rintro e w' ⟨rfl, hg⟩
  have S2 : zka B G w wb k t a id row p i g := ⟨s.d.later hb, s.t', s.ws, s.gens, s.L, s.n, s.fr, s.sd, s.gl, s.wh, s.al, s.at'⟩
  have e2 := S2.go (W' := w') h.ok hg
  rw [s.at'] at e2
  exact ⟨_, rfl, Ed.no _ _ _, fun _ => rfl, fun q => absurd rfl q, fun _ => e2⟩
 rintro e W' ⟨r, rfl, he, hr⟩
 obtain rfl := he.nil
 exact ⟨rfl, hr.1 rfl⟩
theorem zug (h : Wa B G W wb k t a) (hE : Ev B W Ad) (id : Int) (hi : I64 id) (hl : look a.L id = none) :
  Calls Tryz.prog 141 #[.pointer (some ⟨wb, 0, none⟩), .int .i64 id] W fun e W' => e = .returned (.tuple #[.slice none 0 0, .iface 330 (.pointer (some (Ad 17)))]) /\ Below W.heap.size W W' := by
 have FN := hid (zqp h hE.env id hi hl)
 clear h hE
 go_enter Tryz.func141, Tryz.ntmps141
 go_wp2_with fail
 refine FN.out.mono ?_
 rintro e w1 ⟨rfl, hb⟩
 have HB := hid (hb.trans ((bAl w1 (.cells #[.int .i64 0, .int .i64 0] 144)).mono hb.size))
 clear hb FN
 go_wp2_with fail
 go_ret2
 exact ⟨rfl, HB.out⟩
theorem Wz.cells (h : Wz B G W wb x p) : W.cell? ⟨wb, 3, none⟩ = some (.pointer (some ⟨x.sb, 0, none⟩)) /\ W.cell? ⟨wb, 4, none⟩ = some (.pointer (some ⟨x.bb, 0, none⟩)) /\ W.cell? ⟨wb, 5, none⟩ = some (.pointer (some ⟨x.gb, 0, none⟩)) := ⟨h.cell (j := 3) rfl, h.cell (j := 4) rfl, h.cell (j := 5) rfl⟩
theorem z1o (h : Wa B G W wb k t a) (id : Int) (hi : I64 id) {row : List Prt} (hl : look a.L id = some row) :
  Calls Tryz.prog 141 #[.pointer (some ⟨wb, 0, none⟩), .int .i64 id] W fun e W' => ∃ ad n c, e = .returned (.tuple #[.slice ad n c, .nilIface]) /\ GoA B G W W' wb k t { a with L := delB id a.L } := by
 obtain ⟨p, i, g, s⟩ := h.stands hl
 have FN := hid (find_ok s.d.z id i g hi s.wh)
 have HD := hid fun (w1 : World) (hb : Below W.heap.size W w1) => (by
  obtain ⟨ob, nb, h1, h3⟩ := (s.d.later hb).z.bd
  refine (Bd.z7t h1 id i g hi s.wh).mono ?_
  rintro e w2 ⟨rfl, q1, q2⟩
  obtain ⟨u1, u2, u3⟩ := Pb.go (s.d.later hb).z.fin h3 q1 q2
  exact ⟨rfl, u1.mono fun j e => by subst e; decide, (s.d.later hb).z.yaz u1 u2 u3⟩ : Calls Tryz.prog 161 #[.pointer (some ⟨k.x.bb, 0, none⟩), .int .i64 id] w1 fun e w2 => e = .returned (.tuple #[.agg #[.int .i64 (i : Int), .int .i64 (g : Int)], .nilIface]) /\ Up (fun i => 1 <= i /\ i <= 3) G G w1 w2 /\ Wz B G w2 wb k.x { p with n := p.n, l := del id p.l })
 have HS := hid fun (w2 : World) (hu : Up (fun i => 1 <= i /\ i <= 3) G G W w2) (hz : Wz B G w2 wb k.x { p with n := p.n, l := del id p.l }) => (by
  refine (z0d hz.st hz.fin s.al).mono ?_
  rintro e w3 ⟨v, rfl, q1, G', u1, u2, u3, -⟩
  obtain ⟨ad, n, c, rfl⟩ : ∃ ad n c, v = .slice ad n c := by
   obtain ⟨ad, c, e1⟩ := q1.slice
   exact ⟨ad, _, c, e1⟩
  refine ⟨ad, n, c, rfl, zbi u1.st fun j _ e => by omega, G', hu.trans (u1.mono fun j e => by subst e; decide), ⟨_, ⟨hz.store u1 u2 u3, s.d.lv.del s.d.z.ok s.wh s.al⟩, s.t', s.ws, s.gens, ?_, s.n, s.fr, s.sd, s.gl⟩, h.ok⟩
  rw [<- s.L]
  exact zuk p.s p.l id _ : Calls Tryz.prog 117 #[.pointer (some ⟨k.x.sb, 0, none⟩), .agg #[.int .i64 (i : Int), .int .i64 (g : Int)]] w2 fun e W' => ∃ ad n c, e = .returned (.tuple #[.slice ad n c, .nilIface]) /\ St (fun j => 1 <= G j /\ G j <= 3) w2 W' /\ GoA B G W W' wb k t { a with L := delB id a.L })
 have HZ := hid fun (w1 : World) (hb : Below W.heap.size W w1) => (s.d.later hb).z.cells
 have HF := hid s.d.z.fin
 clear h s hl
 go_enter Tryz.func141, Tryz.ntmps141
 go_wp2_with fail
 refine FN.out.mono ?_
 rintro e w1 ⟨rfl, hb⟩
 obtain ⟨w2, hw2, b2, r2, -⟩ := zdi hb (.cells #[.int .i64 (i : Int), .int .i64 (g : Int)] 144)
 have HW2 := hid hw2
 have R2 := hid r2
 have HNN := hid hb.size
 have SI := hid (HD.out w2 b2)
 have B2 := hid b2
 obtain ⟨-, c4, -⟩ := HZ.out w2 b2
 clear hb FN HD HZ hw2 r2 b2
 go_upto_region 4 with fail
 rw [<- HW2.out]
 generalize hN1 : w1.heap.size = N1 at *
 go_wp2_with fail
 refine SI.out.mono ?_
 rintro e w3 ⟨rfl, q1, q2⟩
 have g1 : G N1 = 0 := Classical.byContradiction fun e => by have := (HF.out N1 e).2; have := HNN.out; omega
 have r3 := (q1.at R2.out (by rw [g1]; decide)).1
 have U3 : Up (fun i => 1 <= i /\ i <= 3) G G W w3 := (Up.later HF.out B2.out).trans q1
 have SD : Hid (∀ w, Below w3.heap.size w3 w -> Calls Tryz.prog 117 #[.pointer (some ⟨k.x.sb, 0, none⟩), .agg #[.int .i64 (i : Int), .int .i64 (g : Int)]] w fun e W' => ∃ ad n c, e = .returned (.tuple #[.slice ad n c, .nilIface]) /\ (W'.cell? ⟨wb, 3, none⟩ = some (.pointer (some ⟨k.x.sb, 0, none⟩)) /\ W'.cell? ⟨N1, 0, none⟩ = some (.int .i64 (i : Int)) /\ W'.cell? ⟨N1, 1, none⟩ = some (.int .i64 (g : Int))) /\ Hid (GoA B G W W' wb k t { a with L := delB id a.L })) := hid fun w hb => by
  have zw := q2.later hb
  have rw' := zab hb (Nat.le_refl _) r3
  refine (HS.out w (U3.trans (Up.later q2.fin hb)) zw).mono ?_
  rintro e w' ⟨ad, n, c, rfl, st, hg⟩
  have e1 := st.at rw' (by rw [g1]; decide)
  exact ⟨ad, n, c, rfl, ⟨zaa (st.at zw.box (by rw [zw.gw]; decide)) rfl, zaa e1 rfl, zaa e1 rfl⟩, hg⟩
 have KE : Hid (∀ w, Below w3.heap.size w3 w -> w.cell? ⟨wb, 3, none⟩ = some (.pointer (some ⟨k.x.sb, 0, none⟩)) /\ w.cell? ⟨N1, 0, none⟩ = some (.int .i64 (i : Int)) /\ w.cell? ⟨N1, 1, none⟩ = some (.int .i64 (g : Int))) := hid fun w hb => by
  have q := zab hb (Nat.le_refl _) r3
  exact ⟨(q2.later hb).cells.1, zaa q rfl, zaa q rfl⟩
 have k0 : Below w3.heap.size w3 w3 := Below.refl _ _
 have k0d := k0.drew
 obtain ⟨c3, ce0, ce1⟩ := KE.out w3 k0
 clear q1 q2 SI HS r3 U3 c4 g1
 go_upto_region 5 with fail
 go_region_held3 (fun w => w.cell? ⟨wb, 3, none⟩ = some (.pointer (some ⟨k.x.sb, 0, none⟩)) /\ w.cell? ⟨N1, 0, none⟩ = some (.int .i64 (i : Int)) /\ w.cell? ⟨N1, 1, none⟩ = some (.int .i64 (g : Int)))
  (first | (with_reducible assumption) | (refine KE.out _ ?_; with_reducible assumption) | fail)
  (first | (go_at_call 117; refine (SD.out _ ?_).mono ?_; (with_reducible assumption); rintro e w4 ⟨ad, n, c, rfl, hS, HG⟩) | fail)
 all_goals
  clear SD KE hS c3 ce0 ce1
  go_wp2_with fail
  go_ret2
  exact ⟨_, _, _, rfl, HG.out⟩
theorem zoc (h : Wa B G W wb k t a) (hE : Ev B W Ad) (id : Int) (hi : I64 id) (hl : look a.L id = none) :
  Calls Tryz.prog 97 #[.pointer (some ⟨wb, 0, none⟩), .int .i64 id] W fun e W' => ∃ r, e = .returned r /\ Ed Ad W' r 17 1 /\ Below W.heap.size W W' := by
 have FN := hid (zug h hE id hi hl)
 clear h hE
 go_enter Tryz.func97, Tryz.ntmps97
 go_wp2_with fail
 refine FN.out.mono ?_
 rintro e w1 ⟨rfl, hb⟩
 have HB := hid hb
 clear hb FN
 go_wp2_with fail
 refine (zia _ (Ed.leaf Ad w1 17 (by decide)) (by decide)).mono ?_
 rintro e w2 ⟨tt, qq, rfl, k1, k2⟩
 have HK := hid k1
 have HB2 := hid (HB.out.trans (k2.mono HB.out.size))
 clear k1 k2
 go_wp2_with fail
 go_ret
 exact ⟨_, rfl, HK.out, HB2.out⟩
theorem zgx (h : Wa B G W wb k t a) (hE : Ev B W Ad) (id : Int) (hi : I64 id) {row : List Prt} (hl : look a.L id = some row) :
  Calls Tryz.prog 97 #[.pointer (some ⟨wb, 0, none⟩), .int .i64 id] W fun e W' => e = .returned .nilIface /\ GoA B G W W' wb k t { a with L := delB id a.L } := by
 have FN := hid (z1o h id hi hl)
 have HR := hid fun (w2 : World) (hg : GoA B G W w2 wb k t { a with L := delB id a.L }) (ad : Option Addr) (n c : Nat) => (by
   have ev := (hg.ev h.fin h.big hE).env
   obtain ⟨G', u1, ⟨⟨p', z, -⟩, -⟩⟩ := hg
   exact zch z.z ev 3 id 0 0 0 0 0 0 ad n c 0 0 : Calls Tryz.prog 58 #[.pointer (some ⟨wb, 0, none⟩), uV 3 id 0 0 0 0 0 0 ad n c 0 0] w2 fun e W' => e = .returned (.tuple #[]) /\ Below w2.heap.size w2 W')
 unfold uV at HR
 clear h hE
 go_enter Tryz.func97, Tryz.ntmps97
 go_wp2_with fail
 refine FN.out.mono ?_
 rintro e w1 ⟨ad, n, c, rfl, hg⟩
 have NR := hid (HR.out w1 hg ad n c)
 have HG := hid hg
 clear hg FN HR
 go_wp2_with fail
 refine NR.out.mono ?_
 rintro e w4 ⟨rfl, hb⟩
 have HG2 := hid (HG.out.later hb)
 clear hb NR
 go_wp2_with fail
 go_ret
 exact ⟨rfl, HG2.out⟩
end
def AP.spawn (k : WK) (a : AP) (l : List Prt) : Nat × AP × Int :=
 if chkL k.ws l ≠ 0 then (chkL k.ws l, a, 0) else if k.most <= a.L.length then (6, a, 0) else (0, { a with L := insB (a.n, zbb l) a.L, n := a.n + 1 }, a.n)
section
variable {B : Nat} {G G' : Own} {W W' : World} {wb : Nat} {k : WK} {x : WX} {p : WP} {t t' : Nat} {a a' : AP} {Ad : Nat -> Addr}
theorem Wz.zmi {G2 : Own} (h : Wz B G W wb x p) (hg : ∀ k, 1 <= G k -> G k <= 6 -> G2 k = G k) (hf : Fin B G2 W) : Wz B G2 W wb x p := by
 have R : ∀ {k i : Nat}, G k = i -> 1 <= i -> i <= 6 -> G2 k = i := fun {k i} e h1 h6 => by rw [hg k (by omega) (by omega), e]
 refine ⟨hf, h.big, h.box, R h.gw (by decide) (by decide), h.kin, fun hz b o n c e => R (h.kow hz b o n c e) (by decide) (by decide), h.few, ?_, ?_, ?_, h.fr0⟩
 ·obtain ⟨c, h1, h2, h3⟩ := h.st
  exact ⟨c, h1, h2, fun k hk => R (h3 k hk) (by decide) (by decide)⟩
 ·obtain ⟨ob, nb, h1, h3⟩ := h.bd
  exact ⟨ob, nb, h1, fun k hk => R (h3 k hk) (by decide) (by decide)⟩
 obtain ⟨mb, v, h1, h3⟩ := h.gd
 exact ⟨mb, v, h1, fun k hk => R (h3 k hk) (by decide) (by decide)⟩
theorem Wa.zmi {G2 : Own} (h : Wa B G W wb k t a) (hg : ∀ k, 1 <= G k -> G k <= 6 -> G2 k = G k) (hf : Fin B G2 W) : Wa B G2 W wb k t a := by
 obtain ⟨⟨p, h1, h2⟩, h3⟩ := h
 exact ⟨⟨p, ⟨h1.z.zmi hg hf, h1.lv⟩, h2⟩, h3⟩
abbrev C7 (q i : Nat) : Prop := (1 <= i /\ i <= 3) \/ i = q
theorem z0c (G : Own) : ∀ n, ∃ q, 7 <= q /\ ∀ k, k < n -> G k < q
 | 0 => ⟨7, Nat.le_refl _, fun k hk => by omega⟩
 | n + 1 => by
  obtain ⟨q, h1, h2⟩ := z0c G n
  refine ⟨q + G n + 1, by omega, fun k hk => ?_⟩
  by_cases e : k = n
  ·subst e; omega
  have := h2 k (by omega); omega
theorem zcw.new {s : SD} {l : Prs} (h : zcw s l) {i : Nat} {f : List Nat} (hf : s.r.free = f ++ [i]) {m : Int} : num l ((i : Int), m) = none := by
 unfold num
 rw [Option.map_eq_none_iff, List.find?_eq_none]
 intro y hy e
 have e2 := eq_of_beq e
 exact h.fresh hf hy (by rw [e2])
theorem z6l (h : Wz B G W wb x p) (i g : Nat) (hi : I64 (i : Int)) (hg : I64 (g : Int)) (hn : num p.l ((i : Int), (g : Int)) = none) (hf : p.n <= 1073741824) {xb yb : Nat} {cur : Value} (hx : W.heap[xb]? = some (.cells #[.pointer (some ⟨wb, 0, none⟩)] 40 (0, 0))) (hx0 : G xb = 0) (hy : W.heap[yb]? = some (.cells #[cur] 3 (0, 0))) {qq : Nat} (hq : 7 <= qq) (hy7 : G yb = qq) :
  Calls Tryz.prog 75 #[.agg #[.int .i64 (i : Int), .int .i64 (g : Int)], .pointer (some ⟨xb, 0, none⟩), .pointer (some ⟨yb, 0, none⟩)] W fun e W' => e = .returned .nilIface /\ Up (C7 qq) G G W W' /\ Wz B G W' wb x { p with n := p.n + 1, l := ins (p.n, (i : Int), (g : Int)) p.l } /\ W'.heap[yb]? = some (.cells #[.int .i64 p.n] 3 (0, 0)) := by
 obtain ⟨wa, hwa, ba, ra, -⟩ := zdi (Below.refl W.heap.size W) (.cells #[.int .i64 (i : Int), .int .i64 (g : Int)] 144)
 have nx : xb ≠ yb := fun e => by
  rw [e, hy] at hx
  simp at hx
 have nw : wb ≠ yb := fun e => by
  have := h.gw
  rw [e, hy7] at this
  omega
 have nN : W.heap.size ≠ yb := fun e => by
  have := (Array.getElem?_eq_some_iff.1 hy).1
  omega
 have HGV : Hid (∀ w1, Below wa.heap.size wa w1 -> Calls Tryz.prog 76 #[.pointer (some ⟨x.bb, 0, none⟩), .agg #[.int .i64 (i : Int), .int .i64 (g : Int)]] w1 fun e w2 => e = .returned (.tuple #[.int .i64 p.n, .nilIface]) /\ w2.cell? ⟨yb, 0, none⟩ = some cur /\ w2.frozen? ⟨yb, 0, none⟩ = false /\ (w2.cell? ⟨xb, 0, none⟩ = some (.pointer (some ⟨wb, 0, none⟩)) /\ w2.cell? ⟨wb, 4, none⟩ = some (.pointer (some ⟨x.bb, 0, none⟩)) /\ w2.cell? ⟨W.heap.size, 0, none⟩ = some (.int .i64 (i : Int)) /\ w2.cell? ⟨W.heap.size, 1, none⟩ = some (.int .i64 (g : Int))) /\ ((w2.setCell ⟨yb, 0, none⟩ (.int .i64 p.n)).cell? ⟨xb, 0, none⟩ = some (.pointer (some ⟨wb, 0, none⟩)) /\ (w2.setCell ⟨yb, 0, none⟩ (.int .i64 p.n)).cell? ⟨wb, 4, none⟩ = some (.pointer (some ⟨x.bb, 0, none⟩)) /\ (w2.setCell ⟨yb, 0, none⟩ (.int .i64 p.n)).cell? ⟨W.heap.size, 0, none⟩ = some (.int .i64 (i : Int)) /\ (w2.setCell ⟨yb, 0, none⟩ (.int .i64 p.n)).cell? ⟨W.heap.size, 1, none⟩ = some (.int .i64 (g : Int))) /\ Hid (Up (C7 qq) G G W (w2.setCell ⟨yb, 0, none⟩ (.int .i64 p.n)) /\ Wz B G (w2.setCell ⟨yb, 0, none⟩ (.int .i64 p.n)) wb x { p with n := p.n + 1, l := ins (p.n, (i : Int), (g : Int)) p.l } /\ (w2.setCell ⟨yb, 0, none⟩ (.int .i64 p.n)).heap[yb]? = some (.cells #[.int .i64 p.n] 3 (0, 0)))) := hid fun w1 hb0 => by
  have hb := ba.trans (hb0.mono ba.size)
  obtain ⟨ob, nb, h1, h3⟩ := (h.later hb).bd
  refine (Bd.z9d h1 i g hi hg hn hf).mono ?_
  rintro e w2 ⟨rfl, q1, q2⟩
  obtain ⟨u1, u2, u3⟩ := Pb.go (h.later hb).fin h3 q1 q2
  have u4 : Up (C7 qq) G G W w2 := (Up.later h.fin hb).trans (u1.mono fun j e => by subst e; exact .inl (by decide))
  have z := (h.later hb).yaz u1 u2 u3
  have y1 : w2.heap[yb]? = some (.cells #[cur] 3 (0, 0)) := (u1.at (zab hb (Nat.le_refl _) hy) (by rw [hy7]; omega)).1
  have x1 : w2.heap[xb]? = some (.cells #[.pointer (some ⟨wb, 0, none⟩)] 40 (0, 0)) := (u1.at (zab hb (Nat.le_refl _) hx) (by rw [hx0]; decide)).1
  have n1 : w2.heap[W.heap.size]? = some (.cells #[.int .i64 (i : Int), .int .i64 (g : Int)] 144 (0, 0)) := (u1.at (zab hb0 (Nat.le_refl _) ra) (by
   have : G W.heap.size = 0 := Classical.byContradiction fun e => by have := (h.fin _ e).2; omega
   rw [this]; decide)).1
  have s1 : St (fun k => G k = qq) w2 (w2.setCell ⟨yb, 0, none⟩ (.int .i64 p.n)) := St.setCell _ hy7
  have s2 : St (fun k => k = yb) w2 (w2.setCell ⟨yb, 0, none⟩ (.int .i64 p.n)) := St.setCell _ rfl
  have f1 : Fin B G (w2.setCell ⟨yb, 0, none⟩ (.int .i64 p.n)) := fun k q => by have := u2 k q; have := s1.size; omega
  have u5 : Up (· = qq) G G w2 (w2.setCell ⟨yb, 0, none⟩ (.int .i64 p.n)) := ⟨s1, fun _ _ => rfl, fun k hk q => by have := (u2 k q).2; omega⟩
  refine ⟨rfl, zaa y1 rfl, zac y1 0, ⟨zaa x1 rfl, z.cells.2.1, zaa n1 rfl, zaa n1 rfl⟩, ⟨zaa (s2.at x1 nx) rfl, zaa (s2.at z.box nw) rfl, zaa (s2.at n1 nN) rfl, zaa (s2.at n1 nN) rfl⟩, u4.trans (u5.mono fun j e => .inr e), z.kept u5 f1 (fun j e => by omega), ?_⟩
  rw [heap_setCell_same w2 yb 0 _ _ _ y1]; rfl
 have KE : Hid (∀ w, Below wa.heap.size wa w -> w.cell? ⟨xb, 0, none⟩ = some (.pointer (some ⟨wb, 0, none⟩)) /\ w.cell? ⟨wb, 4, none⟩ = some (.pointer (some ⟨x.bb, 0, none⟩)) /\ w.cell? ⟨W.heap.size, 0, none⟩ = some (.int .i64 (i : Int)) /\ w.cell? ⟨W.heap.size, 1, none⟩ = some (.int .i64 (g : Int))) := hid fun w hb => by
  have hb2 := ba.trans (hb.mono ba.size)
  have q := zab hb (Nat.le_refl _) ra
  exact ⟨zaa (zab hb2 (Nat.le_refl _) hx) rfl, (h.later hb2).cells.2.1, zaa q rfl, zaa q rfl⟩
 have k0 : Below wa.heap.size wa wa := Below.refl _ _
 have k0d := k0.drew
 obtain ⟨c0, c1, c2, c3⟩ := KE.out wa k0
 have HWA := hid hwa
 clear h hi hg hn hf hx hy hy7 hq hx0 hwa ba ra nx nw nN
 go_enter Tryz.func75, Tryz.ntmps75
 go_upto_region 1 with fail
 rw [<- HWA.out]
 go_region_held3 (fun w => w.cell? ⟨xb, 0, none⟩ = some (.pointer (some ⟨wb, 0, none⟩)) /\ w.cell? ⟨wb, 4, none⟩ = some (.pointer (some ⟨x.bb, 0, none⟩)) /\ w.cell? ⟨W.heap.size, 0, none⟩ = some (.int .i64 (i : Int)) /\ w.cell? ⟨W.heap.size, 1, none⟩ = some (.int .i64 (g : Int)))
  (first | (with_reducible assumption) | (refine KE.out _ ?_; with_reducible assumption) | fail)
  (first | (go_at_call 76; refine (HGV.out _ ?_).mono ?_; (with_reducible assumption); rintro e w2 ⟨rfl, y1, y2, hS1, hS2, HY⟩) | fail)
 all_goals (go_wp2_with fail; go_ret; exact ⟨rfl, HY.out⟩)
end
end Wo
end Go.Proofs.YthadfdbkkmmgoaaGreatDoor
