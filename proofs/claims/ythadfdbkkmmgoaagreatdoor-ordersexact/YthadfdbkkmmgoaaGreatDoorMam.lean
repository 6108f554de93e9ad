/- A part of the proof. -/
import Derived.Test.YthadfdbkkmmgoaaGreatDoorMal
set_option maxHeartbeats 6400000
namespace Go.Proofs.YthadfdbkkmmgoaaGreatDoor
namespace Wo
open Go.RowKit Go.Shelf Go.Maps
open At (St zab)
open Rs (Prt Prts)
open Co (I64)
def NumR (W : World) (v : Value) (xs : List Int) : Prop := ∃ a c, v = .slice a xs.length c /\ ∀ (j : Nat) x, xs[j]? = some x -> ∃ g, a = some ⟨g, 0, none⟩ /\ W.cell? ⟨g, j, none⟩ = some (.int .i64 x)
theorem NumR.later {W W' : World} {v : Value} {xs : List Int} (h : NumR W v xs) (hb : Below W.heap.size W W') : NumR W' v xs := by
 obtain ⟨a, c, h1, h2⟩ := h
 exact ⟨a, c, h1, fun j x hj => by obtain ⟨g, q1, q2⟩ := h2 j x hj; exact ⟨g, q1, At.seen hb (Nat.le_refl _) q2⟩⟩
theorem z1a {N : Nat} {W : World} {v : Value} {xs : List Int} (h : W.ownsRow N 3 1 v xs.length (xs.map encZ)) : NumR W v xs := by
 obtain ⟨a, c, rfl⟩ := zaf h
 refine ⟨a, c, rfl, fun j x hj => ?_⟩
 have hlt := (List.getElem?_eq_some_iff.1 hj).1
 obtain ⟨g, cap', e, h1, h2⟩ := World.ownsRow.form h (by omega)
 have e' : a = some ⟨g, 0, none⟩ /\ c = cap' := by simpa using e
 obtain ⟨rfl, rfl⟩ := e'
 exact ⟨g, rfl, (World.ownsRow.cellAt h j (by omega)).trans (by rw [List.getElem?_map, hj]; rfl)⟩
def NumO (N : Nat) (W : World) (v : Value) (xs : List Int) : Prop := W.ownsRow N 3 1 v xs.length (xs.map encZ)
theorem NumO.num {N : Nat} {W : World} {v : Value} {xs : List Int} (h : NumO N W v xs) : NumR W v xs := z1a h
theorem NumO.lower {N N' : Nat} {W : World} {v : Value} {xs : List Int} (h : NumO N W v xs) (hB : N' <= N) : NumO N' W v xs :=
 ⟨h.1, h.2.elim .inl fun ⟨g, cap, cur, h1, h2, h3⟩ => .inr ⟨g, cap, cur, h1, by omega, h3⟩⟩
theorem NumO.later {N : Nat} {W W' : World} {v : Value} {xs : List Int} (h : NumO N W v xs) (hb : Below W.heap.size W W') : NumO N W' v xs :=
 ⟨h.1, h.2.elim .inl fun ⟨g, cap, cur, h1, h2, h3, h4⟩ => .inr ⟨g, cap, cur, h1, h2, zab hb (Nat.le_refl _) h3, h4⟩⟩
section
variable {B : Nat} {G G' : Own} {W W' : World} {wb : Nat} {k : WK} {t : Nat} {a : AP} {Ad : Nat -> Addr}
theorem Wa.few (h : Wa B G W wb k t a) : a.L.length <= 64 := by
 obtain ⟨⟨p, h1, h2, h3, h4, h5, h6⟩, -⟩ := h
 rw [<- h5]
 unfold zat
 rw [List.length_map, <- h1.lv.cnt]
 have := h1.lv.n64
 unfold Ro.RS.count
 omega
theorem Wa.who (h : Wa B G W wb k t a) {j : Nat} {id : Int} {row : List Prt} (hj : a.L[j]? = some (id, row)) : look a.L id = some row /\ I64 id := by
 obtain ⟨⟨p, h1, h2, h3, h4, h5, h6⟩, -⟩ := h
 rw [<- h5] at hj ⊢
 unfold zat at hj
 rw [List.getElem?_map] at hj
 obtain ⟨x, hx, e⟩ := Option.map_eq_some_iff.1 hj
 obtain ⟨rfl, rfl⟩ : x.1 = id /\ p.s.at x.2.1.toNat = row := by simpa using e
 have hm : (x.1, x.2) ∈ p.l := List.mem_of_getElem? hx
 have hp := h1.z.ok
 refine ⟨?_, ?_⟩
 ·rw [zfx, (hp.who x.1 x.2).2 hm]
  rfl
 have q := hp.low _ hm
 have := hp.next
 exact Bd.zaj (by simp only at q; omega) (by simp only at q; omega)
theorem zux (h : Wa B G W wb k t a) : Calls Tryz.prog 63 #[.pointer (some ⟨k.x.bb, 0, none⟩)] W fun e W' => ∃ v, e = .returned v /\ NumR W' v (a.L.map fun x => x.1) /\ Below W.heap.size W W' := by
 obtain ⟨⟨p, h1, h2, h3, h4, h5, h6⟩, -⟩ := h
 obtain ⟨ob, nb, q1, -⟩ := h1.z.bd
 refine (Bd.zdp q1).mono ?_
 rintro e W' ⟨v, rfl, q2, q3⟩
 refine ⟨v, rfl, ?_, q3⟩
 have e : (a.L.map fun x => x.1) = Bd.ids p.l := by
  rw [<- h5]
  unfold zat Bd.ids
  rw [List.map_map]
  rfl
 rw [e]
 refine z1a (N := W.heap.size) ?_
 have : (Bd.ids p.l).length = p.l.length := by unfold Bd.ids; simp
 rw [this]
 exact q2
set_option maxRecDepth 100000 in
theorem zrl (h : Wa B G W wb k t a) :
  Calls Tryz.prog 28 #[.pointer (some ⟨wb, 0, none⟩)] W fun e W' => ∃ v, e = .returned v /\ (∃ E, Bes W.heap.size W' v E a.L) /\ Below W.heap.size W W' := by
 have LI := hid (zux h)
 have HH := hid h
 have hfew := h.few
 have c4 : W.cell? ⟨wb, 4, none⟩ = some (.pointer (some ⟨k.x.bb, 0, none⟩)) := by
  obtain ⟨⟨p, h1, -⟩, -⟩ := h
  exact h1.z.cell (j := 4) rfl
 clear h
 go_enter Tryz.func28, Tryz.ntmps28
 go_wp2_with fail
 refine LI.out.mono ?_
 rintro e w1 ⟨lv0, rfl, hnum, hb1⟩
 have NR := hid hnum
 obtain ⟨la, lc, rfl, -⟩ := hnum
 have B1 := hid hb1
 have hl : (a.L.map fun x => x.1).length = a.L.length := by simp
 rw [hl]
 have E0 : Hid (Bes w1.heap.size w1 (.slice none 0 0) [] (a.L.take 0)) := hid (by rw [List.take_zero]; exact z6o _ _)
 have hli : (a.L.length : Int) <= 64 := by omega
 clear hb1 LI c4
 go_wp2_with fail
 go_loopg [3, 5, 6, 7, 16] a.L.length (fun gh lv _ _ _ q wr => ∃ (j : Nat) (E : List (Int × Value)), j <= a.L.length /\ gh = a.L.length - j /\ q = .int .i64 (j : Int) /\ Hid (Bes w1.heap.size wr lv E (a.L.take j)) /\ Hid (Below w1.heap.size w1 wr))
 case atStart => exact ⟨0, [], Nat.zero_le _, rfl, rfl, E0.out, Below.refl _ _⟩
 case round =>
  rename World => wr
  obtain ⟨j, E, hj, rfl, rfl, HE, HB⟩ := hrel
  have HBW := hid (B1.out.trans (HB.out.mono B1.out.size))
  by_cases hlt : j < a.L.length
  ·have hji : (j : Int) < (a.L.length : Int) := by omega
   obtain ⟨⟨id, row⟩, hx⟩ := zal a.L j hlt
   obtain ⟨g, rfl, x1⟩ : ∃ g, la = some ⟨g, 0, none⟩ /\ wr.cell? ⟨g, j, none⟩ = some (.int .i64 id) := by
    obtain ⟨a', c', hv, hr⟩ := NR.out.later HB.out
    rw [hl] at hv
    obtain ⟨rfl, rfl⟩ : la = a' /\ lc = c' := by simpa using hv
    exact hr j id (by rw [List.getElem?_map, hx]; rfl)
   obtain ⟨hlk, hi⟩ := HH.out.who hx
   have PT := hid (zxi (HH.out.later HBW.out) id hi hlk)
   have HT : Hid (a.L.take (j + 1) = a.L.take j ++ [(id, row)]) := by
    obtain ⟨hl, e⟩ := List.getElem?_eq_some_iff.1 hx
    rw [<- e]
    exact List.take_succ_eq_append_getElem hl
   clear hx hlk hi
   go_wp2_with fail
   refine PT.out.mono ?_
   rintro e w2 ⟨pv, rfl, hp, hb2⟩
   obtain ⟨pa, pc, rfl⟩ := hp.slice
   have HP := hid hp
   have B2 := hid hb2
   clear hp hb2 PT x1
   have E2 := hid (HE.out.later B2.out)
   have hEl : E.length = j := by rw [E2.out.len, List.length_take]; omega
   obtain ⟨oa, oc, hov⟩ := E2.out.row.slice
   rw [hEl] at hov
   subst hov
   have HEL := hid hEl
   clear hEl
   have hE9 : j <= 1000 := by omega
   have hsz : w1.heap.size <= w2.heap.size := by have := HB.out.size; have := B2.out.size; omega
   go_wp2_with (at_builtin; refine zdh rfl _ _ rfl E2.out.row HEL.out hE9 hsz rfl rfl ?_; intro v4 c4 w4 H4 S4)
   go_roundg (a.L.length - (j + 1))
   case measure => omega
   case rel =>
    have st : St (fun x => (Value.slice oa j oc).ownBlock = some x) w2 w4 := S4.out
    have hown : ∀ x, (Value.slice oa j oc).ownBlock = some x -> w1.heap.size <= x := fun x hx => (World.ownsRow.lt E2.out.row x hx).1
    have free : ∀ {N : Nat} {w : World} {u : Value} {ps : List Prt}, Prts N w u ps -> w2 = w -> ∀ y, u.ownBlock = some y -> ¬ (Value.slice oa j oc).ownBlock = some y := fun {N w u ps} hu e y hy q => by
     subst e
     obtain ⟨c1, q1⟩ := So.zbd hu hy
     obtain ⟨c2, q2⟩ := So.zbd E2.out.row q
     rw [q1] at q2
     simp at q2
    refine ⟨j + 1, E ++ [(id, .slice pa row.length pc)], by omega, rfl, by go_num, ?_, ?_⟩
    ·refine ⟨?_, ?_, fun i id' pv' hi' => ?_, ?_⟩
     ·show BeR _ _ _ _
      exact H4.out
     ·rw [HT.out, List.length_append, List.length_append, E2.out.len]; rfl
     ·have hEl := HEL.out
      rw [HT.out]
      by_cases hlt2 : i < E.length
      ·rw [List.getElem?_append_left hlt2] at hi'
       obtain ⟨ps, q1, q2⟩ := E2.out.at' i id' pv' hi'
       exact ⟨ps, by rw [List.getElem?_append_left (by rw [<- E2.out.len]; exact hlt2)]; exact q1, So.zai q2 st (fun y hy => free q2 rfl y hy)⟩
      rw [List.getElem?_append_right (by omega)] at hi'
      have hi0 : i - E.length = 0 := by
       have := (List.getElem?_eq_some_iff.1 hi').1
       simp at this
       omega
      rw [hi0] at hi'
      obtain ⟨rfl, rfl⟩ : id = id' /\ Value.slice pa row.length pc = pv' := by simpa using hi'
      refine ⟨row, ?_, So.zai (HP.out.lower HB.out.size) st (fun y hy => free HP.out rfl y hy)⟩
      rw [List.getElem?_append_right (by rw [<- E2.out.len]; omega), <- E2.out.len, hi0]
      rfl
     rw [List.pairwise_append]
     refine ⟨E2.out.apart, by simp, fun x hx y hy q hq hq2 => ?_⟩
     simp only [List.mem_singleton] at hy
     subst hy
     obtain ⟨i, hi⟩ := List.getElem?_of_mem hx
     obtain ⟨ps, q1, q2⟩ := HE.out.at' i x.1 x.2 hi
     have l1 := (q2.lt q hq).2
     have l2 := (HP.out.lt q hq2).1
     omega
    refine HB.out.trans ((B2.out.mono HB.out.size).trans ?_)
    exact st.below hown hsz
  have hji : ¬ ((j : Int) < (a.L.length : Int)) := by omega
  obtain rfl : j = a.L.length := by omega
  go_wp2_with fail
  go_ret
  have := HE.out
  rw [List.take_length] at this
  exact ⟨_, rfl, ⟨_, this.lower B1.out.size⟩, HBW.out⟩
end
end Wo
namespace Wo
open Go.RowKit Go.Shelf Go.Maps
open At (St bAl zaa zac)
open Rs (Prt Prts)
open Go.Proofs.YthadfdbkkmmgoaaGreatDoor.So (zcz zmk zdn zeg zfy)
theorem zvm (n : Nat) : (∀ v ∈ (Builtin.zeroCells (Value.cells (.agg #[.int .i64 0, .int .i64 0, .int .i64 0, .int .i64 0, .int .i64 0, .int .i64 0])) n).toList, v.oneCell' = true) /\ (Builtin.zeroCells (Value.cells (.agg #[.int .i64 0, .int .i64 0, .int .i64 0, .int .i64 0, .int .i64 0, .int .i64 0])) n).toList.length = n * 6 := by
 have e : (Value.cells (.agg #[.int .i64 0, .int .i64 0, .int .i64 0, .int .i64 0, .int .i64 0, .int .i64 0])) = #[.int .i64 0, .int .i64 0, .int .i64 0, .int .i64 0, .int .i64 0, .int .i64 0] := rfl
 rw [e]
 unfold Builtin.zeroCells
 refine ⟨fun v hv => ?_, by simp⟩
 simp only [Array.toList_map, List.mem_map] at hv
 obtain ⟨i, -, rfl⟩ := hv
 have : i % 6 < 6 := Nat.mod_lt _ (by decide)
 have h6 : i % 6 = 0 \/ i % 6 = 1 \/ i % 6 = 2 \/ i % 6 = 3 \/ i % 6 = 4 \/ i % 6 = 5 := by omega
 show (#[.int .i64 0, .int .i64 0, .int .i64 0, .int .i64 0, .int .i64 0, .int .i64 0] : Array Value)[i % 6]!.oneCell' = true
 rcases h6 with h | h | h | h | h | h <;> rw [h] <;> rfl
theorem zvl {N : Nat} {W : World} {g n cap : Nat} {l m : List Prt} (h : Prts N W (.slice (some ⟨g, 0, none⟩) n cap) (l ++ m)) (o c q : Nat) (ho : o = l.length * 6) (hq : q = m.length) (hm : m ≠ []) : ∃ w', (∀ ty, (Builtin.clear_ #[84] ty #[.slice (some ⟨g, o, none⟩) q c]).run Tryz.prog W = .ok (.tuple #[]) w') /\ Prts N w' (.slice (some ⟨g, 0, none⟩) l.length cap) l /\ St (fun k => k = g) W w' := by
 subst hq
 obtain ⟨rfl, h1, cur, h2, h3, h4, h5, h6⟩ := zcz h
 have hl : (l ++ m).length = l.length + m.length := by simp
 rw [hl] at h3 h6
 have hz : ∀ w, (zeroValue 89).run Tryz.prog w = .ok (.agg #[.int .i64 0, .int .i64 0, .int .i64 0, .int .i64 0, .int .i64 0, .int .i64 0]) w := by
  intro w
  simp [zeroValue, Tryz.t89]
 have hsz : l.length * 6 + m.length * 6 <= cur.size := by rw [h5]; omega
 obtain ⟨z1, z2⟩ := zvm m.length
 obtain ⟨zs, hzs⟩ : ∃ zs, zs = (Builtin.zeroCells (Value.cells (.agg #[.int .i64 0, .int .i64 0, .int .i64 0, .int .i64 0, .int .i64 0, .int .i64 0])) m.length).toList := ⟨_, rfl⟩
 rw [<- hzs] at z1 z2
 have hst := run_storeCells_cells (P := Tryz.prog) g (l.length * 6) zs 0 W (fun j hj => by
  obtain ⟨u, hu⟩ : ∃ u, cur[l.length * 6 + j]? = some u := ⟨_, Array.getElem?_eq_getElem (by omega)⟩
  rw [Nat.add_zero, zaa h2 hu]; rfl) (fun j hj => zac h2 _) z1
 rw [Nat.add_zero] at hst
 obtain ⟨cs', a1, a2, a3⟩ := zdn zs (l.length * 6) W cur h2
 refine ⟨_, fun ty => ?_, zmk (cur := cs') h1 a1 (by omega) h4 (by rw [a2, h5]) ?_, zeg _ _ _⟩
 ·rw [ho]
  obtain ⟨q, hq⟩ : ∃ q, m.length = q + 1 := ⟨m.length - 1, by have := List.length_pos_iff.2 hm; omega⟩
  rw [hq] at hzs ⊢
  simp [Builtin.clear_, run_underlying Tryz.underlying84, hz, <- hzs, hst]
 rw [a3 _ (Nat.le_refl _)]
 have := congrArg (List.take (l.length * 6)) h6
 rw [List.take_take, Nat.min_eq_left (by omega), zfy, List.take_left' rfl] at this
 exact this
section
variable {B : Nat} {G G' : Own} {W W' : World} {wb : Nat} {k : WK} {t : Nat} {a : AP} {Ad : Nat -> Addr}
theorem zgz (h : Wa B G W wb k t a) (p : Prt) (xb : Nat) (hx : W.cell? ⟨xb, 0, none⟩ = some (.pointer (some ⟨wb, 0, none⟩))) (bb : Bool) (hb : (!zao k.x.cs p.c) = bb) :
  Calls Tryz.prog 66 #[.agg #[.int .i64 p.c, .int .i64 p.v0, .int .i64 p.v1, .int .i64 p.v2, .int .i64 p.v3, .int .i64 p.t], .pointer (some ⟨xb, 0, none⟩)] W fun e W' => e = .returned (.bool bb) /\ Below W.heap.size W W' := by
 subst hb
 obtain ⟨w1, hw1⟩ : ∃ w1, w1 = W.alloc (.cells #[.int .i64 p.c, .int .i64 p.v0, .int .i64 p.v1, .int .i64 p.v2, .int .i64 p.v3, .int .i64 p.t] 89) := ⟨_, rfl⟩
 have b1 : Below W.heap.size W w1 := by rw [hw1]; exact bAl _ _
 have r1 : w1.heap[W.heap.size]? = some (.cells p.arr 89 (0, 0)) := by rw [hw1]; exact heap_alloc_new W _
 have RO : Hid (Calls Tryz.prog 67 #[.pointer (some ⟨wb, 0, none⟩), .int .i64 p.c] w1 fun e W' => e = .returned (.bool (zao k.x.cs p.c)) /\ W' = w1) := hid (by
  obtain ⟨⟨q, h1, -⟩, -⟩ := h.later b1
  exact znj h1.z p.c)
 have y0 : w1.cell? ⟨W.heap.size, 0, none⟩ = some (.int .i64 p.c) := zaa r1 rfl
 have x0 := At.seen b1 (Nat.le_refl _) hx
 have HW1 := hid hw1
 have B1 := hid b1
 clear hw1 b1 r1 hx h
 go_enter Tryz.func66, Tryz.ntmps66
 go_upto_region 1 with fail
 rw [<- HW1.out]
 go_wp2_with fail
 refine RO.out.mono ?_
 rintro e w2 ⟨rfl, rfl⟩
 go_wp2_with fail
 go_ret
 exact ⟨rfl, B1.out⟩
end
end Wo
namespace Wo
open Go.RowKit Go.Shelf Go.Maps
open At (St bAl zaa zab zac)
open Rs (Prt Prts Six)
open Go.Proofs.YthadfdbkkmmgoaaGreatDoor.So (zcz zee zlp sixo zqm)
open Sc (Cmp)
abbrev stays (cs : List Cmp) (p : Prt) : Bool := zao cs p.c
section
variable {B : Nat} {G G' : Own} {W W' : World} {wb : Nat} {k : WK} {t : Nat} {a : AP} {Ad : Nat -> Addr}
set_option maxRecDepth 100000 in
theorem index_none (h : Wa B G W wb k t a) {N : Nat} {v : Value} {l : List Prt} (hp : Prts N W v l) (hn9 : l.length <= 1000) (xb : Nat) (hx : W.cell? ⟨xb, 0, none⟩ = some (.pointer (some ⟨wb, 0, none⟩))) (hs : ∀ x ∈ l, stays k.x.cs x = true) :
  Calls Tryz.prog 113 #[v, .func (.func 66) #[] #[.pointer (some ⟨xb, 0, none⟩)]] W fun e W' => e = .returned (.int .i64 (-1)) /\ Below W.heap.size W W' := by
 have CL : Hid (∀ W', Below W.heap.size W W' -> ∀ (p : Prt) bb, (!zao k.x.cs p.c) = bb -> Calls Tryz.prog 66 #[.agg #[.int .i64 p.c, .int .i64 p.v0, .int .i64 p.v1, .int .i64 p.v2, .int .i64 p.v3, .int .i64 p.t], .pointer (some ⟨xb, 0, none⟩)] W' fun e W2 => e = .returned (.bool bb) /\ Below W.heap.size W W2) := fun W' hb p bb hp =>
  (zgz (h.later hb) p xb (At.seen hb (Nat.le_refl _) hx) bb hp).mono fun e W2 ⟨q1, q2⟩ => ⟨q1, hb.trans (q2.mono hb.size)⟩
 have HP := hid hp
 have HS := hid hs
 obtain ⟨la, lc, rfl⟩ := hp.slice
 have hli : (l.length : Int) <= 1000 := by omega
 clear h hx hs hp
 go_enter Tryz.func113, Tryz.ntmps113
 go_wp2_with fail
 go_loopg [5, 8] (l.length) (fun gh _ i wr => ∃ q : Nat, q <= l.length /\ gh = l.length - q /\ i = .int .i64 (q : Int) /\ Hid (Below W.heap.size W wr))
 case atStart => exact ⟨0, Nat.zero_le _, rfl, rfl, Below.refl _ _⟩
 case round =>
  rename World => wr
  obtain ⟨q, hq, rfl, rfl, HB⟩ := hrel
  by_cases hlt : q < l.length
  ·have hqi : (q : Int) < (l.length : Int) := by omega
   obtain ⟨p, hx2⟩ := zal l q hlt
   obtain ⟨b, o, rfl, six⟩ := ((HP.out.later HB.out).row).at hx2
   obtain ⟨c0, c1, c2, c3, c4, c5⟩ := six
   have hne : (!zao k.x.cs p.c) = false := by rw [show zao k.x.cs p.c = true from HS.out p (List.mem_of_getElem? hx2)]; rfl
   have CC := hid (CL.out _ HB.out p _ hne)
   clear hx2 hne
   go_wp2_with fail
   refine CC.out.mono ?_
   rintro e w2 ⟨rfl, hb⟩
   have HB2 := hid hb
   clear hb CC c0 c1 c2 c3 c4 c5
   go_wp2_with fail
   go_roundg (l.length - (q + 1))
   case measure => omega
   case rel => exact ⟨q + 1, by omega, rfl, by go_num, HB2.out⟩
  have hqi : ¬ (q : Int) < (l.length : Int) := by omega
  go_wp2_with fail
  go_ret
  exact ⟨rfl, HB.out⟩
set_option maxRecDepth 100000 in
theorem zut (h : Wa B G W wb k t a) {N g n cap : Nat} {l m : List Prt} {q : Prt} (hp : Prts N W (.slice (some ⟨g, 0, none⟩) n cap) (l ++ q :: m)) (hn : n = l.length + 1 + m.length) (hn9 : n <= 1000) (xb : Nat) (hx : W.cell? ⟨xb, 0, none⟩ = some (.pointer (some ⟨wb, 0, none⟩))) (hs : ∀ x ∈ l, stays k.x.cs x = true) (hq : stays k.x.cs q = false) :
  Calls Tryz.prog 113 #[.slice (some ⟨g, 0, none⟩) n cap, .func (.func 66) #[] #[.pointer (some ⟨xb, 0, none⟩)]] W fun e W' => e = .returned (.int .i64 (l.length : Int)) /\ Below W.heap.size W W' := by
 have RD : Hid (∀ W', Below W.heap.size W W' -> ∀ j p, (l ++ q :: m)[j]? = some p -> Six W' g (j * 6) p) := fun W' hb j p hj => zee (hp.later hb) hj
 have CL : Hid (∀ W', Below W.heap.size W W' -> ∀ (p : Prt) bb, (!zao k.x.cs p.c) = bb -> Calls Tryz.prog 66 #[.agg #[.int .i64 p.c, .int .i64 p.v0, .int .i64 p.v1, .int .i64 p.v2, .int .i64 p.v3, .int .i64 p.t], .pointer (some ⟨xb, 0, none⟩)] W' fun e W2 => e = .returned (.bool bb) /\ Below W.heap.size W W2) := fun W' hb p bb hp =>
  (zgz (h.later hb) p xb (At.seen hb (Nat.le_refl _) hx) bb hp).mono fun e W2 ⟨q1, q2⟩ => ⟨q1, hb.trans (q2.mono hb.size)⟩
 have HS := hid hs
 have hq' : (!zao k.x.cs q.c) = true := by rw [show zao k.x.cs q.c = false from hq]; rfl
 have HQ := hid hq'
 have A0 : Hid (∀ j, j < l.length -> ∃ p, l[j]? = some p /\ (l ++ q :: m)[j]? = some p) := fun j hj => by
  obtain ⟨p, hp⟩ := zal l j hj
  exact ⟨p, hp, by rw [List.getElem?_append_left hj]; exact hp⟩
 have A1 : Hid ((l ++ q :: m)[l.length]? = some q) := by show _ = _; simp
 generalize l.length = A at *
 generalize m.length = Bn at *
 have hnI : (n : Int) <= 1000 := by omega
 have hAn : (A : Int) < (n : Int) := by omega
 clear h hp hx hs hq hq' hn hn9
 go_enter Tryz.func113, Tryz.ntmps113
 go_wp2_with fail
 go_loopg [5, 8] (A + 1) (fun gh _ i wr => ∃ j : Nat, j <= A /\ gh = A + 1 - j /\ i = .int .i64 (j : Int) /\ Hid (Below W.heap.size W wr))
 case atStart => exact ⟨0, Nat.zero_le _, rfl, rfl, Below.refl _ _⟩
 case round =>
  obtain ⟨j, hj, rfl, rfl, HB⟩ := hrel
  have hji : (j : Int) < (n : Int) := by omega
  by_cases hlt : j < A
  ·obtain ⟨p, hp, hp2⟩ := A0.out j hlt
   obtain ⟨c0, c1, c2, c3, c4, c5⟩ := RD.out _ HB.out j p hp2
   have hne : (!zao k.x.cs p.c) = false := by rw [show zao k.x.cs p.c = true from HS.out p (List.mem_of_getElem? hp)]; rfl
   have CC := hid (CL.out _ HB.out p _ hne)
   clear hp hp2 hne
   go_wp2_with fail
   refine CC.out.mono ?_
   rintro e w2 ⟨rfl, hb⟩
   have HB2 := hid hb
   clear hb CC c0 c1 c2 c3 c4 c5
   go_wp2_with fail
   go_roundg (A + 1 - (j + 1))
   case measure => omega
   case rel => exact ⟨j + 1, by omega, rfl, by go_num, HB2.out⟩
  obtain rfl : j = A := by omega
  obtain ⟨c0, c1, c2, c3, c4, c5⟩ := RD.out _ HB.out j q A1.out
  have CC := hid (CL.out _ HB.out q _ HQ.out)
  go_wp2_with fail
  refine CC.out.mono ?_
  rintro e w2 ⟨rfl, hb⟩
  have HB2 := hid hb
  clear hb CC c0 c1 c2 c3 c4 c5
  go_wp2_with fail
  go_ret
  exact ⟨rfl, HB2.out⟩
end
structure Dl (cs : List Cmp) (N : Nat) (W : World) (g n cap : Nat) (l m : List Prt) (j i0 : Nat) (wr : World) : Prop where
 ex : ∃ M : List Prt, Prts N wr (.slice (some ⟨g, 0, none⟩) n cap) (l ++ (m.take j).filter (stays cs) ++ M ++ m.drop j) /\ ((m.take j).filter (stays cs)).length + M.length = j + 1
 i : i0 = l.length + ((m.take j).filter (stays cs)).length
 st : St (fun k => k = g) W wr
theorem zjl (f : Prt -> Bool) : ∀ l : List Prt, (∀ x ∈ l, f x = true) \/ ∃ a q m, l = a ++ q :: m /\ (∀ x ∈ a, f x = true) /\ f q = false
 | [] => .inl fun x hx => by simp at hx
 | y :: l => by
  cases hy : f y with
  | false => exact .inr ⟨[], y, l, rfl, fun x hx => by simp at hx, hy⟩
  | true =>
   rcases zjl f l with h | ⟨a, q, m, rfl, h1, h2⟩
   ·exact .inl fun x hx => by rcases List.mem_cons.1 hx with rfl | hx; exact hy; exact h x hx
   exact .inr ⟨y :: a, q, m, rfl, fun x hx => by rcases List.mem_cons.1 hx with rfl | hx; exact hy; exact h1 x hx, h2⟩
section
variable {cs : List Cmp} {N g n cap j i0 : Nat} {W wr w' : World} {l m : List Prt} {p : Prt}
theorem Dl.start {q : Prt} (h : Prts N W (.slice (some ⟨g, 0, none⟩) n cap) (l ++ q :: m)) (hb : Below W.heap.size W wr) : Dl cs N W g n cap l m 0 l.length wr :=
 ⟨⟨[q], by simpa using h.later hb, by simp⟩, by simp, St.of_below hb⟩
theorem zbe (hp : m[j]? = some p) : m.take (j + 1) = m.take j ++ [p] /\ m.drop j = p :: m.drop (j + 1) := by
 obtain ⟨hl, rfl⟩ := List.getElem?_eq_some_iff.1 hp
 exact ⟨List.take_succ_eq_append_getElem hl, List.drop_eq_getElem_cons hl⟩
theorem Dl.at (h : Dl cs N W g n cap l m j i0 wr) (hp : m[j]? = some p) : Six wr g ((l.length + 1 + j) * 6) p := by
 obtain ⟨M, h1, h2⟩ := h.ex
 refine zee h1 ?_
 rw [(zbe hp).2, List.getElem?_append_right (by simp; omega)]
 have : l.length + 1 + j - (l ++ (m.take j).filter (stays cs) ++ M).length = 0 := by simp; omega
 rw [this]
 rfl
theorem Dl.go (h : Dl cs N W g n cap l m j i0 wr) (hp : m[j]? = some p) (hs : stays cs p = false) (hb : Below wr.heap.size wr w') : Dl cs N W g n cap l m (j + 1) i0 w' := by
 obtain ⟨M, h1, h2⟩ := h.ex
 obtain ⟨e1, e2⟩ := zbe hp
 have ef : (m.take (j + 1)).filter (stays cs) = (m.take j).filter (stays cs) := by rw [e1, List.filter_append]; simp [hs]
 refine ⟨⟨M ++ [p], ?_, ?_⟩, by rw [ef]; exact h.i, h.st.trans (St.of_below (S := fun _ => False) hb) fun _ _ q => q.elim⟩
 ·rw [ef]
  have := h1.later hb
  rw [e2] at this
  simpa using this
 rw [ef, List.length_append]; simp; omega
theorem Dl.later (h : Dl cs N W g n cap l m j i0 wr) (hb : Below wr.heap.size wr w') : Dl cs N W g n cap l m j i0 w' := by
 obtain ⟨M, h1, h2⟩ := h.ex
 exact ⟨⟨M, h1.later hb, h2⟩, h.i, h.st.trans (St.of_below (S := fun _ => False) hb) fun _ _ q => q.elim⟩
theorem Dl.stay (h : Dl cs N W g n cap l m j i0 wr) (hp : m[j]? = some p) (hs : stays cs p = true) : Dl cs N W g n cap l m (j + 1) (i0 + 1) (sixo wr g (i0 * 6) p) := by
 obtain ⟨M, h1, h2⟩ := h.ex
 obtain ⟨e1, e2⟩ := zbe hp
 have ef : (m.take (j + 1)).filter (stays cs) = (m.take j).filter (stays cs) ++ [p] := by rw [e1, List.filter_append]; simp [hs]
 have hl : ((m.take j).filter (stays cs)).length <= j := Nat.le_trans (List.length_filter_le ..) (by simp; omega)
 cases M with
 | nil => simp at h2; omega
 | cons x M =>
  have h3 := zlp h1 i0 p
  refine ⟨⟨M ++ [p], ?_, ?_⟩, by rw [ef, List.length_append, h.i]; simp; omega, h.st.trans (zqm wr g (i0 * 6) p) fun _ _ q => q⟩
  ·rw [ef]
   have e : (l ++ (m.take j).filter (stays cs) ++ x :: M ++ m.drop j).set i0 p = l ++ ((m.take j).filter (stays cs) ++ [p]) ++ (M ++ [p]) ++ m.drop (j + 1) := by
    rw [e2, h.i, List.append_assoc (l ++ _), List.set_append_right _ _ (by simp)]
    simp
   rw [e] at h3
   exact h3
  rw [ef, List.length_append]; simp at h2 ⊢; omega
theorem Dl.cells (h : Dl cs N W g n cap l m j i0 wr) (hn : n = l.length + 1 + m.length) (hj : j <= m.length) : i0 < n /\ ∃ x, Six wr g (i0 * 6) x /\ ∀ i, wr.frozen? ⟨g, i, none⟩ = false := by
 obtain ⟨M, h1, h2⟩ := h.ex
 have hl : ((m.take j).filter (stays cs)).length <= j := Nat.le_trans (List.length_filter_le ..) (by simp; omega)
 have hi := h.i
 have hlen : (l ++ (m.take j).filter (stays cs) ++ M ++ m.drop j).length = n := by simp; omega
 obtain ⟨x, hx⟩ := zal (l ++ (m.take j).filter (stays cs) ++ M ++ m.drop j) i0 (by omega)
 obtain ⟨-, -, cur, hc, -⟩ := zcz h1
 exact ⟨by omega, x, zee h1 hx, fun i => zac hc i⟩
theorem Dl.end (h : Dl cs N W g n cap l m m.length i0 wr) (hn : n = l.length + 1 + m.length) (c q : Nat) (hq : q = n - i0) : i0 = (l ++ m.filter (stays cs)).length /\ i0 < n /\ ∃ w', (∀ ty, (Builtin.clear_ #[84] ty #[.slice (some ⟨g, i0 * 6, none⟩) q c]).run Tryz.prog wr = .ok (.tuple #[]) w') /\ Prts N w' (.slice (some ⟨g, 0, none⟩) i0 cap) (l ++ m.filter (stays cs)) /\ St (fun k => k = g) W w' := by
 obtain ⟨M, h1, h2⟩ := h.ex
 have hi := h.i
 rw [List.take_length] at h1 h2 hi
 rw [List.drop_length, List.append_nil] at h1
 have hl : (m.filter (stays cs)).length <= m.length := List.length_filter_le ..
 have e : i0 = (l ++ m.filter (stays cs)).length := by rw [hi]; simp
 obtain ⟨w', k1, k2, k3⟩ := zvl h1 (i0 * 6) c q (by rw [e]) (by omega) (fun q => by rw [q] at h2; simp at h2; omega)
 exact ⟨e, by omega, w', k1, by rw [<- e] at k2; exact k2, h.st.trans k3 fun _ _ q => q⟩
end
section
variable {B : Nat} {G G' : Own} {W W' : World} {wb : Nat} {k : WK} {t : Nat} {a : AP} {Ad : Nat -> Addr}
set_option maxRecDepth 100000 in
theorem zpd (h : Wa B G W wb k t a) {N g n cap : Nat} {l m : List Prt} {q : Prt} (hp : Prts N W (.slice (some ⟨g, 0, none⟩) n cap) (l ++ q :: m)) (hn : n = l.length + 1 + m.length) (hn9 : n <= 1000) (xb : Nat) (hx : W.cell? ⟨xb, 0, none⟩ = some (.pointer (some ⟨wb, 0, none⟩))) (hxg : ¬ xb = g) (hg : G g = 0) (hs : ∀ x ∈ l, stays k.x.cs x = true) (hq : stays k.x.cs q = false) :
  Calls Tryz.prog 65 #[.slice (some ⟨g, 0, none⟩) n cap, .func (.func 66) #[] #[.pointer (some ⟨xb, 0, none⟩)]] W fun e W' => e = .returned (.slice (some ⟨g, 0, none⟩) (l ++ m.filter (stays k.x.cs)).length cap) /\ Prts N W' (.slice (some ⟨g, 0, none⟩) (l ++ m.filter (stays k.x.cs)).length cap) (l ++ m.filter (stays k.x.cs)) /\ St (fun k => k = g) W W' := by
 have IX := hid (zut h hp hn hn9 xb hx hs hq)
 have CL : Hid (∀ W', St (fun k => k = g) W W' -> ∀ (p : Prt) bb, (!zao k.x.cs p.c) = bb -> Calls Tryz.prog 66 #[.agg #[.int .i64 p.c, .int .i64 p.v0, .int .i64 p.v1, .int .i64 p.v2, .int .i64 p.v3, .int .i64 p.t], .pointer (some ⟨xb, 0, none⟩)] W' fun e W2 => e = .returned (.bool bb) /\ Below W'.heap.size W' W2) := fun W' hst p bb hp =>
  zgz (h.beside hst fun k hk e => hk (by rw [e]; exact hg)) p xb (So.zax hst hx hxg) bb hp
 have D0 : Hid (∀ wr, Below W.heap.size W wr -> Dl k.x.cs N W g n cap l m 0 l.length wr) := hid fun wr hb => Dl.start hp hb
 have HN := hid hn
 have hcap : (n : Int) <= (cap : Int) := by
  obtain ⟨e, -, cur, -, hc, -⟩ := zcz hp
  omega
 obtain ⟨A, hA⟩ : ∃ A, A = l.length := ⟨_, rfl⟩
 obtain ⟨Bn, hBn⟩ : ∃ Bn, Bn = m.length := ⟨_, rfl⟩
 rw [<- hA] at IX D0
 rw [<- hA, <- hBn] at hn
 have HA := hid hA
 have HBN := hid hBn
 have hnI : (n : Int) <= 1000 := by omega
 have hAn : (A : Int) + 1 + (Bn : Int) = (n : Int) := by omega
 have hA1 : ¬ ((A : Int) = -1) := by omega
 clear h hp hx hs hq hn9 hn hA hBn hg
 go_enter Tryz.func65, Tryz.ntmps65
 go_wp2_with fail
 refine IX.out.mono ?_
 rintro e w1 ⟨rfl, hb1⟩
 have D1 := hid (D0.out w1 hb1)
 clear hb1 IX D0
 go_wp2_with fail
 go_loopg [5, 6, 7] Bn (fun gh i j _ wr => ∃ s i0 j0 : Nat, s <= Bn /\ gh = Bn - s /\ i = .int .i64 (i0 : Int) /\ j = .int .i64 (j0 : Int) /\ Hid (j0 = A + 1 + s) /\ Hid (Dl k.x.cs N W g n cap l m s i0 wr))
 case atStart => exact ⟨0, A, A + 1, Nat.zero_le _, rfl, rfl, by go_num, rfl, D1.out⟩
 case round =>
  obtain ⟨s, i0, j0, hs, rfl, rfl, rfl, HJ, HD⟩ := hrel
  clear D1
  obtain ⟨hi0, x, hx6, hfz⟩ := HD.out.cells HN.out (by rw [<- HBN.out]; exact hs)
  by_cases hlt : s < Bn
  ·have hji : (j0 : Int) < (n : Int) := by have := HJ.out; omega
   have hii : (i0 : Int) < (n : Int) := by omega
   obtain ⟨p, hp⟩ := zal m s (by rw [<- HBN.out]; exact hlt)
   obtain ⟨c0, c1, c2, c3, c4, c5⟩ : Six wr g (j0 * 6) p := by rw [HJ.out, HA.out]; exact HD.out.at hp
   obtain ⟨w2, hw2⟩ : ∃ w2, w2 = wr.alloc (.cells #[.int .i64 p.c, .int .i64 p.v0, .int .i64 p.v1, .int .i64 p.v2, .int .i64 p.v3, .int .i64 p.t] 89) := ⟨_, rfl⟩
   have b2 : Below wr.heap.size wr w2 := by rw [hw2]; exact bAl _ _
   have r2 : w2.heap[wr.heap.size]? = some (.cells p.arr 89 (0, 0)) := by rw [hw2]; exact heap_alloc_new wr _
   have D2 := hid (HD.out.later b2)
   have R2 := hid r2
   have HW2 := hid hw2
   have y0 : w2.cell? ⟨wr.heap.size, 0, none⟩ = some (.int .i64 p.c) := zaa r2 rfl
   have y1 : w2.cell? ⟨wr.heap.size, 1, none⟩ = some (.int .i64 p.v0) := zaa r2 rfl
   have y2 : w2.cell? ⟨wr.heap.size, 2, none⟩ = some (.int .i64 p.v1) := zaa r2 rfl
   have y3 : w2.cell? ⟨wr.heap.size, 3, none⟩ = some (.int .i64 p.v2) := zaa r2 rfl
   have y4 : w2.cell? ⟨wr.heap.size, 4, none⟩ = some (.int .i64 p.v3) := zaa r2 rfl
   have y5 : w2.cell? ⟨wr.heap.size, 5, none⟩ = some (.int .i64 p.t) := zaa r2 rfl
   have HP := hid hp
   clear hw2 b2 r2 hx6 hfz HD
   cases hd : (!zao k.x.cs p.c) with
   | true =>
    have CC := hid (CL.out w2 D2.out.st p _ hd)
    have HD2 := hid hd
    clear hd hp
    go_upto_region 8 with fail
    rw [<- HW2.out]
    go_wp2_with fail
    refine CC.out.mono ?_
    rintro e w3 ⟨rfl, hb3⟩
    have D3 := hid (D2.out.go HP.out (by have := HD2.out; show zao k.x.cs p.c = false; simpa using this) hb3)
    clear hb3 CC c0 c1 c2 c3 c4 c5 y0 y1 y2 y3 y4 y5
    go_wp2_with fail
    go_roundg (Bn - (s + 1))
    case measure => omega
    case rel => exact ⟨s + 1, i0, j0 + 1, by omega, rfl, rfl, by go_num, (by have := HJ.out; show _ = _; omega), D3.out⟩
   | false =>
    have CC := hid (CL.out w2 D2.out.st p _ hd)
    have HD2 := hid hd
    clear hd hp
    go_upto_region 8 with fail
    rw [<- HW2.out]
    go_wp2_with fail
    refine CC.out.mono ?_
    rintro e w3 ⟨rfl, hb3⟩
    have r3 := zab hb3 (Nat.le_refl _) R2.out
    have z0 : w3.cell? ⟨wr.heap.size, 0, none⟩ = some (.int .i64 p.c) := zaa r3 rfl
    have z1 : w3.cell? ⟨wr.heap.size, 1, none⟩ = some (.int .i64 p.v0) := zaa r3 rfl
    have z2 : w3.cell? ⟨wr.heap.size, 2, none⟩ = some (.int .i64 p.v1) := zaa r3 rfl
    have z3 : w3.cell? ⟨wr.heap.size, 3, none⟩ = some (.int .i64 p.v2) := zaa r3 rfl
    have z4 : w3.cell? ⟨wr.heap.size, 4, none⟩ = some (.int .i64 p.v3) := zaa r3 rfl
    have z5 : w3.cell? ⟨wr.heap.size, 5, none⟩ = some (.int .i64 p.t) := zaa r3 rfl
    have D3 := D2.out.later hb3
    obtain ⟨-, x3, ⟨d0, d1, d2, d3, d4, d5⟩, hf3⟩ := D3.cells HN.out (by rw [<- HBN.out]; exact hs)
    have f0 := hf3 (i0 * 6)
    have f1 := hf3 (i0 * 6 + 1)
    have f2 := hf3 (i0 * 6 + 2)
    have f3 := hf3 (i0 * 6 + 3)
    have f4 := hf3 (i0 * 6 + 4)
    have f5 := hf3 (i0 * 6 + 5)
    have D4 := hid (D3.stay HP.out (by have := HD2.out; show zao k.x.cs p.c = true; simpa using this))
    unfold sixo at D4
    clear hb3 CC r3 D3 hf3 c0 c1 c2 c3 c4 c5 y0 y1 y2 y3 y4 y5
    go_wp2_with fail
    go_roundg (Bn - (s + 1))
    case measure => omega
    case rel => exact ⟨s + 1, i0 + 1, j0 + 1, by omega, rfl, by go_num, by go_num, (by have := HJ.out; show _ = _; omega), D4.out⟩
  obtain rfl : s = Bn := by omega
  have hji : ¬ ((j0 : Int) < (n : Int)) := by have := HJ.out; omega
  have hin : (i0 : Int) <= (n : Int) := by omega
  have hD := HD.out
  rw [HBN.out] at hD
  obtain ⟨e1, e2, w5, hcl, P5, S5⟩ := hD.end HN.out (cap - i0) (n - i0) rfl
  have C5 := hid hcl
  have P6 := hid P5
  have S6 := hid S5
  have E1 := hid e1
  have hci : ¬ (cap = i0) := by omega
  have hi9 : (i0 : Int) <= 1000 := by omega
  clear P5 S5 HD hD hx6 hfz e1
  go_wp2_with fail
  go_ret
  have e9 : l.length + (m.filter (stays k.x.cs)).length = i0 := by have := E1.out; rw [List.length_append] at this; omega
  rw [e9]
  exact ⟨rfl, P6.out, S6.out⟩
set_option maxRecDepth 100000 in
theorem zqf (h : Wa B G W wb k t a) {N : Nat} {v : Value} {l : List Prt} (hp : Prts N W v l) (hn9 : l.length <= 1000) (xb : Nat) (hx : W.cell? ⟨xb, 0, none⟩ = some (.pointer (some ⟨wb, 0, none⟩))) (hs : ∀ x ∈ l, stays k.x.cs x = true) :
  Calls Tryz.prog 65 #[v, .func (.func 66) #[] #[.pointer (some ⟨xb, 0, none⟩)]] W fun e W' => e = .returned v /\ Below W.heap.size W W' := by
 have IX := hid (index_none h hp hn9 xb hx hs)
 obtain ⟨la, lc, rfl⟩ := hp.slice
 clear h hp hx hs
 go_enter Tryz.func65, Tryz.ntmps65
 go_wp2_with fail
 refine IX.out.mono ?_
 rintro e w1 ⟨rfl, hb1⟩
 have B1 := hid hb1
 clear hb1 IX
 go_wp2_with fail
 go_ret
 exact ⟨rfl, B1.out⟩
theorem zhp (h : Wa B G W wb k t a) {N : Nat} {v : Value} {l : List Prt} (hp : Prts N W v l) (hn9 : l.length <= 1000) (xb : Nat) (hx : W.cell? ⟨xb, 0, none⟩ = some (.pointer (some ⟨wb, 0, none⟩))) (hg : ∀ g, v.ownBlock = some g -> ¬ xb = g /\ G g = 0) :
  Calls Tryz.prog 65 #[v, .func (.func 66) #[] #[.pointer (some ⟨xb, 0, none⟩)]] W fun e W' => ∃ la n lc, e = .returned (.slice la n lc) /\ Prts N W' (.slice la n lc) (l.filter (stays k.x.cs)) /\ St (fun x => v.ownBlock = some x) W W' /\ ∀ y, (Value.slice la n lc).ownBlock = some y -> v.ownBlock = some y := by
 rcases zjl (stays k.x.cs) l with hs | ⟨l1, q, m, rfl, h1, h2⟩
 ·refine (zqf h hp hn9 xb hx hs).mono ?_
  rintro e W' ⟨rfl, hb⟩
  have hp' := hp.later hb
  obtain ⟨la, lc, rfl⟩ := hp.slice
  exact ⟨la, _, lc, rfl, by rw [List.filter_eq_self.2 hs]; exact hp', St.of_below hb, fun _ q => q⟩
 have hlen : (l1 ++ q :: m).length = l1.length + 1 + m.length := by simp; omega
 obtain ⟨g, cap, rfl⟩ : ∃ g cap, v = .slice (some ⟨g, 0, none⟩) (l1 ++ q :: m).length cap := by
  obtain ⟨g, cap, e, -⟩ := World.ownsRow.form (hp : World.ownsRow _ _ _ _ _ _ _) (by rw [hlen]; omega)
  exact ⟨g, cap, e⟩
 obtain ⟨g1, g2⟩ := hg g rfl
 refine (zpd h hp hlen hn9 xb hx g1 g2 h1 h2).mono ?_
 rintro e W' ⟨rfl, k1, k2⟩
 have e : (l1 ++ q :: m).filter (stays k.x.cs) = l1 ++ m.filter (stays k.x.cs) := by
  rw [List.filter_append, List.filter_cons_of_neg (by rw [h2]; decide), List.filter_eq_self.2 h1]
 rw [e]
 exact ⟨_, _, _, rfl, k1, zbi k2 fun x _ e => by rw [e]; rfl, fun y hy => by simpa [Value.ownBlock] using hy⟩
end
end Wo
namespace Wo
open Go.RowKit Go.Shelf Go.Maps
open At (St bAl zaa zab zac)
open Rs (Prt Prts)
open Sc (Cmp)
def stL (cs : List Cmp) (L : Bgs) : Bgs := L.map fun x => (x.1, x.2.filter (stays cs))
def stM (cs : List Cmp) (L : Bgs) (j : Nat) : Bgs := stL cs (L.take j) ++ L.drop j
theorem z6f (cs : List Cmp) (L : Bgs) (j : Nat) : (stM cs L j).length = L.length := by unfold stM stL; rw [List.length_append, List.length_map, <- List.length_append, List.take_append_drop]
theorem z5a {cs : List Cmp} {L : Bgs} {j : Nat} {x : Int × List Prt} (h : L[j]? = some x) : (stM cs L j)[j]? = some x := by
 have hl := (List.getElem?_eq_some_iff.1 h).1
 unfold stM stL
 rw [List.getElem?_append_right (by simp; omega), List.length_map, List.length_take, Nat.min_eq_left (by omega), Nat.sub_self, List.getElem?_drop]
 exact h
theorem z3j {cs : List Cmp} {L : Bgs} {j : Nat} {id : Int} {row : List Prt} (h : L[j]? = some (id, row)) : (stM cs L j).set j (id, row.filter (stays cs)) = stM cs L (j + 1) := by
 obtain ⟨hl, e⟩ := List.getElem?_eq_some_iff.1 h
 unfold stM stL
 rw [List.set_append_right _ _ (by simp; omega), List.length_map, List.length_take, Nat.min_eq_left (by omega), Nat.sub_self, List.drop_eq_getElem_cons hl, List.set_cons_zero, List.take_succ_eq_append_getElem hl, List.map_append, e]
 simp
theorem z7f (cs : List Cmp) (L : Bgs) : stM cs L L.length = stL cs L := by unfold stM; rw [List.take_length, List.drop_length, List.append_nil]
theorem Bes.put {N : Nat} {W w' : World} {g n c j : Nat} {E : List (Int × Value)} {L : Bgs} {id : Int} {pv pv' : Value} {row row' : List Prt} (h : Bes N W (.slice (some ⟨g, 0, none⟩) n c) E L) (hj : E[j]? = some (id, pv)) (hL : L[j]? = some (id, row)) (hp : Prts N W pv row) (hs : St (fun x => pv.ownBlock = some x) W w') (hp' : Prts N w' pv' row') (ho : ∀ y, pv'.ownBlock = some y -> pv.ownBlock = some y) :
  Bes N (w'.setCell ⟨g, j * 2 + 1, none⟩ pv') (.slice (some ⟨g, 0, none⟩) n c) (E.set j (id, pv')) (L.set j (id, row')) := by
 have hg : ∀ {N2 : Nat} {w : World} {u : Value} {ps : List Prt}, Prts N2 w u ps -> (∃ cur, w.heap[g]? = some (.cells cur 133 (0, 0))) -> ∀ y, u.ownBlock = some y -> y ≠ g := fun {N2 w u ps} hu hc y hy e => by
  obtain ⟨c1, q1⟩ := So.zbd hu hy
  obtain ⟨c2, q2⟩ := hc
  rw [e, q2] at q1
  simp at q1
 obtain ⟨-, -, cur, hcur, -⟩ := h.row.blk
 have hng := fun y hy => hg hp ⟨cur, hcur⟩ y hy
 have hrow : BeR N w' (.slice (some ⟨g, 0, none⟩) n c) E := h.row.kept hs fun y hy q => hng y q (by simpa [Value.ownBlock] using hy.symm)
 have hcur' : w'.heap[g]? = some (.cells cur 133 (0, 0)) := hs.at hcur fun q => hng g q rfl
 have hst : St (fun k => k = g) w' (w'.setCell ⟨g, j * 2 + 1, none⟩ pv') := St.setCell _ rfl
 have hjl := (List.getElem?_eq_some_iff.1 hj).1
 refine ⟨hrow.set hj pv', by rw [List.length_set, List.length_set]; exact h.len, fun i id2 pv2 hi => ?_, ?_⟩
 ·by_cases e : i = j
  ·subst e
   rw [List.getElem?_set_self hjl] at hi
   obtain ⟨rfl, rfl⟩ : id = id2 /\ pv' = pv2 := by simpa using hi
   refine ⟨row', by rw [List.getElem?_set_self (by rw [<- h.len]; exact hjl)], So.zai hp' hst fun y hy => hng y (ho y hy)⟩
  rw [List.getElem?_set_ne (fun q => e q.symm)] at hi
  obtain ⟨ps, q1, q2⟩ := h.at' i id2 pv2 hi
  refine ⟨ps, by rw [List.getElem?_set_ne (fun q => e q.symm)]; exact q1, ?_⟩
  refine So.zai (So.zai q2 hs fun y hy q => ?_) hst fun y hy => hg q2 ⟨cur, hcur⟩ y hy
  obtain ⟨hil, ei⟩ := List.getElem?_eq_some_iff.1 hi
  obtain ⟨hjl, ej⟩ := List.getElem?_eq_some_iff.1 hj
  rcases Nat.lt_or_gt_of_ne e with lt | lt
  ·have := List.pairwise_iff_getElem.1 h.apart i j hil hjl lt
   rw [ei, ej] at this
   exact this y hy q
  have := List.pairwise_iff_getElem.1 h.apart j i hjl hil lt
  rw [ei, ej] at this
  exact this y q hy
 rw [List.pairwise_iff_getElem]
 intro i1 i2 h1 h2 hlt k hk hk2
 rw [List.length_set] at h1 h2
 have A := List.pairwise_iff_getElem.1 h.apart i1 i2 h1 h2 hlt
 obtain ⟨hjl2, ej⟩ := List.getElem?_eq_some_iff.1 hj
 rw [List.getElem_set] at hk hk2
 split at hk
 ·rename_i e1
  split at hk2
  ·omega
  subst e1
  rw [ej] at A
  exact A k (ho k hk) hk2
 split at hk2
 ·rename_i e2
  subst e2
  rw [ej] at A
  exact A k hk (ho k hk2)
 exact A k hk hk2
abbrev put5 (W : World) (b : Nat) (v0 v1 v2 v3 v4 : Value) : World := ((((W.setCell ⟨b, 0, none⟩ v0).setCell ⟨b, 1, none⟩ v1).setCell ⟨b, 2, none⟩ v2).setCell ⟨b, 3, none⟩ v3).setCell ⟨b, 4, none⟩ v4
theorem zly {W : World} {b : Nat} {a0 a1 a2 a3 a4 : Value} {e : TypeId} (h : W.heap[b]? = some (.cells #[a0, a1, a2, a3, a4] e (0, 0))) (v0 v1 v2 v3 v4 : Value) : (put5 W b v0 v1 v2 v3 v4).heap[b]? = some (.cells #[v0, v1, v2, v3, v4] e (0, 0)) := by
 have h1 := heap_setCell_same W b 0 _ e v0 h
 have h2 := heap_setCell_same _ b 1 _ e v1 h1
 have h3 := heap_setCell_same _ b 2 _ e v2 h2
 have h4 := heap_setCell_same _ b 3 _ e v3 h3
 have h5 := heap_setCell_same _ b 4 _ e v4 h4
 simpa using h5
theorem zqg (W : World) (b : Nat) (v0 v1 v2 v3 v4 : Value) : St (fun k => k = b) W (put5 W b v0 v1 v2 v3 v4) := by
 have c := fun (w : World) (j : Nat) (v : Value) => St.setCell (S := fun k => k = b) (a := w) (p := ⟨b, j, none⟩) v rfl
 exact ((((c W 0 _).trans (c _ 1 _) fun _ _ q => q).trans (c _ 2 _) fun _ _ q => q).trans (c _ 3 _) fun _ _ q => q).trans (c _ 4 _) fun _ _ q => q
section
variable {B : Nat} {G G' : Own} {W W' : World} {wb : Nat} {k : WK} {t : Nat} {a : AP} {Ad : Nat -> Addr}
theorem z0x (h : Wa B G W wb k t a) : Calls Tryz.prog 68 #[.pointer (some ⟨k.x.bb, 0, none⟩)] W fun e W' => e = .returned (.int .i64 a.n) /\ W' = W := by
 obtain ⟨⟨p, h1, h2, h3, h4, h5, h6, -⟩, -⟩ := h
 obtain ⟨ob, nb, q1, -⟩ := h1.z.bd
 rw [<- h6]
 exact Bd.zlu q1
theorem z2n (h : Wa B G W wb k t a) : Calls Tryz.prog 69 #[.pointer (some ⟨k.x.gb, 0, none⟩)] W fun e W' => ∃ ra rn rc, e = .returned (.slice ra rn rc) /\ NumO W.heap.size W' (.slice ra rn rc) a.gl /\ Below W.heap.size W W' := by
 obtain ⟨⟨p, h1, h2, h3, h4, h5, h6, h7, h8, h9⟩, -⟩ := h
 obtain ⟨mb, v, q1, -⟩ := h1.z.gd
 rw [<- h9]
 refine (Gs.z5z q1).mono ?_
 rintro e W' ⟨v', rfl, q2, q3⟩
 obtain ⟨ra, rc, rfl⟩ := zaf q2
 exact ⟨ra, _, rc, rfl, q2, q3⟩
theorem Wa.cells (h : Wa B G W wb k t a) : W.cell? ⟨wb, 7, none⟩ = some (.int .i64 a.fr) /\ W.cell? ⟨wb, 4, none⟩ = some (.pointer (some ⟨k.x.bb, 0, none⟩)) /\ W.cell? ⟨wb, 8, none⟩ = some (.int .i64 a.sd) /\ W.cell? ⟨wb, 5, none⟩ = some (.pointer (some ⟨k.x.gb, 0, none⟩)) := by
 obtain ⟨⟨p, h1, h2, h3, h4, h5, h6, h7, h8, h9⟩, -⟩ := h
 rw [<- h7, <- h8]
 exact ⟨h1.z.cell (j := 7) rfl, h1.z.cell (j := 4) rfl, h1.z.cell (j := 8) rfl, h1.z.cell (j := 5) rfl⟩
end
section
variable {B : Nat} {G G' : Own} {W W' : World} {wb : Nat} {k : WK} {t : Nat} {a : AP} {Ad : Nat -> Addr}
def zS : Obj := .cells #[.int .i64 0, .int .i64 0, .int .i64 0, .slice none 0 0, .slice none 0 0] 76
set_option maxRecDepth 100000 in
theorem zxr (h : Wa B G W wb k t a) (hrow : ∀ x ∈ a.L, x.2.length <= 1000) :
  Calls Tryz.prog 30 #[.pointer (some ⟨wb, 0, none⟩)] W fun e W' => ∃ ba bn bc ra rn rc, e = .returned (.agg #[.int .i64 a.fr, .int .i64 a.n, .int .i64 a.sd, .slice ba bn bc, .slice ra rn rc]) /\ (∃ E, Bes W.heap.size W' (.slice ba bn bc) E (stL k.x.cs a.L)) /\ NumO W.heap.size W' (.slice ra rn rc) a.gl /\ Below W.heap.size W W' := by
 obtain ⟨w1, hw1⟩ : ∃ w1, w1 = (W.alloc (.cells #[.pointer (some ⟨wb, 0, none⟩)] 40)).alloc zS := ⟨_, rfl⟩
 obtain ⟨b1, r1, p1⟩ := Rs.zde W #[.pointer (some ⟨wb, 0, none⟩)] #[.int .i64 0, .int .i64 0, .int .i64 0, .slice none 0 0, .slice none 0 0] 40 76
 change Below W.heap.size W ((W.alloc _).alloc zS) at b1
 change ((W.alloc _).alloc zS).heap[W.heap.size]? = _ at r1
 change ((W.alloc _).alloc zS).heap[W.heap.size + 1]? = _ at p1
 rw [<- hw1] at b1 r1 p1
 have hz1 : w1.heap.size = W.heap.size + 2 := by rw [hw1]; simp
 have VW := hid (zrl (h.later b1))
 have x0 : w1.cell? ⟨W.heap.size, 0, none⟩ = some (.pointer (some ⟨wb, 0, none⟩)) := zaa r1 rfl
 have HH := hid (h.later b1)
 have H0 := hid h
 have HROW := hid hrow
 have HFEW := h.few
 have B1 := hid b1
 have R1 := hid r1
 have P1 := hid p1
 have HZ1 := hid hz1
 have HW1 := hid hw1
 clear h b1 r1 p1 hw1 hz1 hrow
 go_enter Tryz.func30, Tryz.ntmps30
 unfold zS at HW1
 go_upto_region 1 with fail
 rw [<- HW1.out]
 go_wp2_with fail
 refine VW.out.mono ?_
 rintro e w2 ⟨bv, rfl, ⟨E0, hE0⟩, hb2⟩
 obtain ⟨ba, bc, rfl⟩ := hE0.slice
 have E0' : Hid (Bes w1.heap.size w2 (.slice ba a.L.length bc) E0 (stM k.x.cs a.L 0)) := hid (by unfold stM stL; rw [List.take_zero, List.map_nil, List.nil_append, List.drop_zero]; exact hE0)
 have B2 := hid hb2
 have hli : (a.L.length : Int) <= 64 := by omega
 clear hE0 hb2 VW x0
 go_wp2_with fail
 go_loopg [4, 5, 13] a.L.length (fun gh _ _ q wr => ∃ (j : Nat) (E : List (Int × Value)), j <= a.L.length /\ gh = a.L.length - j /\ q = .int .i64 (j : Int) /\ Hid (Bes w1.heap.size wr (.slice ba a.L.length bc) E (stM k.x.cs a.L j)) /\ Hid (Below w1.heap.size w1 wr))
 case atStart => exact ⟨0, E0, Nat.zero_le _, rfl, rfl, E0'.out, B2.out⟩
 case round =>
  rename World => wr
  obtain ⟨j, E, hj, rfl, rfl, HE, HB⟩ := hrel
  clear E0'
  have y0 : wr.cell? ⟨W.heap.size, 0, none⟩ = some (.pointer (some ⟨wb, 0, none⟩)) := zaa (zab HB.out (Nat.le_refl _) R1.out) rfl
  by_cases hlt : j < a.L.length
  ·have hji : (j : Int) < (a.L.length : Int) := by omega
   obtain ⟨⟨id, row⟩, hx⟩ := zal a.L j hlt
   have hEl : E.length = a.L.length := by rw [HE.out.len, z6f]
   obtain ⟨⟨id', pv⟩, hE⟩ := zal E j (by omega)
   obtain ⟨ps, hL, hps⟩ := HE.out.at' j id' pv hE
   rw [z5a hx] at hL
   obtain ⟨rfl, rfl⟩ : id = id' /\ row = ps := by simpa using hL
   obtain ⟨g, rfl, d0, d1⟩ := HE.out.row.at hE
   obtain ⟨pa, pc, rfl⟩ := hps.slice
   obtain ⟨-, -, cur, hcur, -⟩ := HE.out.row.blk
   obtain ⟨w3, hw3⟩ : ∃ w3, w3 = wr.alloc (.cells #[.int .i64 id, .slice pa row.length pc] 133) := ⟨_, rfl⟩
   have b3 : Below wr.heap.size wr w3 := by rw [hw3]; exact bAl _ _
   have r3 : w3.heap[wr.heap.size]? = some (.cells #[.int .i64 id, .slice pa row.length pc] 133 (0, 0)) := by rw [hw3]; exact heap_alloc_new wr _
   have hown : ∀ y, (Value.slice pa row.length pc).ownBlock = some y -> w1.heap.size <= y := fun y hy => (hps.lt y hy).1
   have B3 := hid (HB.out.trans (b3.mono HB.out.size))
   have DL := hid (zhp (HH.out.later B3.out) (hps.later b3) (HROW.out _ (List.mem_of_getElem? hx)) W.heap.size (At.seen b3 (Nat.le_refl _) y0) (fun y hy => ⟨by have := hown y hy; have := HZ1.out; omega, Classical.byContradiction fun q => by have := (HH.out.fin y q).2; have := hown y hy; omega⟩))
   have HX := hid hx
   have HEJ := hid hE
   have HPS := hid (hps.later b3)
   have E3 := hid (HE.out.later b3)
   have HOW := hid hown
   have HW3 := hid hw3
   have z0 : w3.cell? ⟨wr.heap.size, 0, none⟩ = some (.int .i64 id) := zaa r3 rfl
   have z1 : w3.cell? ⟨wr.heap.size, 1, none⟩ = some (.slice pa row.length pc) := zaa r3 rfl
   have C3 := hid (zab b3 (Nat.le_refl _) hcur)
   clear hx hE hL hps b3 r3 hw3 hown hEl HE hcur
   go_upto_region 7 with fail
   rw [<- HW3.out]
   go_wp2_with fail
   refine DL.out.mono ?_
   rintro e w4 ⟨da, dn, dc, rfl, hd, hs4, ho4⟩
   have hng : ¬ (Value.slice pa row.length pc).ownBlock = some g := fun q => by
    obtain ⟨c1, q1⟩ := So.zbd HPS.out q
    rw [C3.out] at q1
    simp at q1
   have h4 := hs4.at C3.out hng
   have c4 : w4.cell? ⟨g, j * 2 + 1, none⟩ = some (.slice pa row.length pc) := by
    obtain ⟨g', e', -, q⟩ := (E3.out.row.kept hs4 (fun y hy q => hng (by
     have : g = y := by simpa [Value.ownBlock] using hy
     rw [this]; exact q))).at HEJ.out
    obtain rfl : g = g' := by simpa using e'
    exact q
   have f4 := zac h4 (j * 2 + 1)
   have PT := hid (E3.out.put HEJ.out (z5a HX.out) HPS.out hs4 hd ho4)
   rw [z3j HX.out] at PT
   have B4 : Hid (Below w1.heap.size w1 (w4.setCell ⟨g, j * 2 + 1, none⟩ (.slice da dn dc))) := hid (by
    have s4 := hs4.below (B := w1.heap.size) HOW.out B3.out.size
    have hgl : w1.heap.size <= g := (World.ownsRow.lt E3.out.row g rfl).1
    exact (B3.out.trans s4).setCell hgl _)
   clear hd hs4 ho4 hng h4 DL z0 z1 d0 d1 y0
   go_wp2_with fail
   go_roundg (a.L.length - (j + 1))
   case measure => omega
   case rel => exact ⟨j + 1, _, by omega, rfl, by go_num, PT.out, B4.out⟩
  have hji : ¬ ((j : Int) < (a.L.length : Int)) := by omega
  obtain rfl : j = a.L.length := by omega
  have hE := HE.out
  rw [z7f] at hE
  have E5 := hid hE
  clear hE HE y0
  have P5 := hid (zab HB.out (Nat.le_refl _) P1.out)
  have hwb : wb < W.heap.size := World.block_lt_of_cell? W _ H0.out.cells.1
  have hz := HZ1.out
  have hB1 : w1.heap.size <= wr.heap.size := HB.out.size
  have HSB : Hid (W.heap.size + 1 < wr.heap.size) := hid (by show _ < _; omega)
  have KK : Hid (∀ w, Below (W.heap.size + 1) wr w -> w.cell? ⟨W.heap.size, 0, none⟩ = some (.pointer (some ⟨wb, 0, none⟩)) /\ w.cell? ⟨wb, 7, none⟩ = some (.int .i64 a.fr) /\ w.cell? ⟨wb, 4, none⟩ = some (.pointer (some ⟨k.x.bb, 0, none⟩)) /\ w.cell? ⟨wb, 8, none⟩ = some (.int .i64 a.sd) /\ w.cell? ⟨wb, 5, none⟩ = some (.pointer (some ⟨k.x.gb, 0, none⟩))) := hid fun w hb => by
   obtain ⟨q1, q2, q3, q4⟩ := (HH.out.later HB.out).cells
   have C : ∀ {b j : Nat} {v : Value}, b < W.heap.size + 1 -> wr.cell? ⟨b, j, none⟩ = some v -> w.cell? ⟨b, j, none⟩ = some v := fun {b j v} hl hc => (World.cell?_of_block (hb.block b hl)).trans hc
   exact ⟨C (by omega) (zaa (zab HB.out (Nat.le_refl _) R1.out) rfl), C (by omega) q1, C (by omega) q2, C (by omega) q3, C (by omega) q4⟩
  have NX : Hid (∀ w, Below wr.heap.size wr w -> Calls Tryz.prog 68 #[.pointer (some ⟨k.x.bb, 0, none⟩)] w fun e w' => e = .returned (.int .i64 a.n) /\ w' = w) := hid fun w hb => z0x ((HH.out.later HB.out).later hb)
  have AL : Hid (∀ w, Below wr.heap.size wr w -> Calls Tryz.prog 69 #[.pointer (some ⟨k.x.gb, 0, none⟩)] w fun e w' => ∃ ra rn rc, e = .returned (.slice ra rn rc) /\ Below wr.heap.size wr w' /\ (w'.cell? ⟨W.heap.size, 0, none⟩ = some (.pointer (some ⟨wb, 0, none⟩)) /\ w'.cell? ⟨wb, 7, none⟩ = some (.int .i64 a.fr) /\ w'.cell? ⟨wb, 4, none⟩ = some (.pointer (some ⟨k.x.bb, 0, none⟩)) /\ w'.cell? ⟨wb, 8, none⟩ = some (.int .i64 a.sd) /\ w'.cell? ⟨wb, 5, none⟩ = some (.pointer (some ⟨k.x.gb, 0, none⟩))) ∧
    w'.frozen? ⟨W.heap.size + 1, 0, none⟩ = false /\ w'.frozen? ⟨W.heap.size + 1, 1, none⟩ = false /\ w'.frozen? ⟨W.heap.size + 1, 2, none⟩ = false /\ w'.frozen? ⟨W.heap.size + 1, 3, none⟩ = false /\ w'.frozen? ⟨W.heap.size + 1, 4, none⟩ = false /\ w'.cell? ⟨W.heap.size + 1, 0, none⟩ = some (.int .i64 0) /\ w'.cell? ⟨W.heap.size + 1, 1, none⟩ = some (.int .i64 0) /\ w'.cell? ⟨W.heap.size + 1, 2, none⟩ = some (.int .i64 0) /\ w'.cell? ⟨W.heap.size + 1, 3, none⟩ = some (.slice none 0 0) /\ w'.cell? ⟨W.heap.size + 1, 4, none⟩ = some (.slice none 0 0) ∧
    ((put5 w' (W.heap.size + 1) (.int .i64 a.fr) (.int .i64 a.n) (.int .i64 a.sd) (.slice ba a.L.length bc) (.slice ra rn rc)).cell? ⟨W.heap.size, 0, none⟩ = some (.pointer (some ⟨wb, 0, none⟩)) /\ (put5 w' (W.heap.size + 1) (.int .i64 a.fr) (.int .i64 a.n) (.int .i64 a.sd) (.slice ba a.L.length bc) (.slice ra rn rc)).cell? ⟨wb, 7, none⟩ = some (.int .i64 a.fr) /\ (put5 w' (W.heap.size + 1) (.int .i64 a.fr) (.int .i64 a.n) (.int .i64 a.sd) (.slice ba a.L.length bc) (.slice ra rn rc)).cell? ⟨wb, 4, none⟩ = some (.pointer (some ⟨k.x.bb, 0, none⟩)) /\ (put5 w' (W.heap.size + 1) (.int .i64 a.fr) (.int .i64 a.n) (.int .i64 a.sd) (.slice ba a.L.length bc) (.slice ra rn rc)).cell? ⟨wb, 8, none⟩ = some (.int .i64 a.sd) /\ (put5 w' (W.heap.size + 1) (.int .i64 a.fr) (.int .i64 a.n) (.int .i64 a.sd) (.slice ba a.L.length bc) (.slice ra rn rc)).cell? ⟨wb, 5, none⟩ = some (.pointer (some ⟨k.x.gb, 0, none⟩))) ∧
    (put5 w' (W.heap.size + 1) (.int .i64 a.fr) (.int .i64 a.n) (.int .i64 a.sd) (.slice ba a.L.length bc) (.slice ra rn rc)).cell? ⟨W.heap.size + 1, 0, none⟩ = some (.int .i64 a.fr) /\ (put5 w' (W.heap.size + 1) (.int .i64 a.fr) (.int .i64 a.n) (.int .i64 a.sd) (.slice ba a.L.length bc) (.slice ra rn rc)).cell? ⟨W.heap.size + 1, 1, none⟩ = some (.int .i64 a.n) /\ (put5 w' (W.heap.size + 1) (.int .i64 a.fr) (.int .i64 a.n) (.int .i64 a.sd) (.slice ba a.L.length bc) (.slice ra rn rc)).cell? ⟨W.heap.size + 1, 2, none⟩ = some (.int .i64 a.sd) /\ (put5 w' (W.heap.size + 1) (.int .i64 a.fr) (.int .i64 a.n) (.int .i64 a.sd) (.slice ba a.L.length bc) (.slice ra rn rc)).cell? ⟨W.heap.size + 1, 3, none⟩ = some (.slice ba a.L.length bc) /\ (put5 w' (W.heap.size + 1) (.int .i64 a.fr) (.int .i64 a.n) (.int .i64 a.sd) (.slice ba a.L.length bc) (.slice ra rn rc)).cell? ⟨W.heap.size + 1, 4, none⟩ = some (.slice ra rn rc) ∧
    Hid ((∃ E, Bes W.heap.size (put5 w' (W.heap.size + 1) (.int .i64 a.fr) (.int .i64 a.n) (.int .i64 a.sd) (.slice ba a.L.length bc) (.slice ra rn rc)) (.slice ba a.L.length bc) E (stL k.x.cs a.L)) /\ NumO W.heap.size (put5 w' (W.heap.size + 1) (.int .i64 a.fr) (.int .i64 a.n) (.int .i64 a.sd) (.slice ba a.L.length bc) (.slice ra rn rc)) (.slice ra rn rc) a.gl /\ Below W.heap.size W (put5 w' (W.heap.size + 1) (.int .i64 a.fr) (.int .i64 a.n) (.int .i64 a.sd) (.slice ba a.L.length bc) (.slice ra rn rc)))) := hid fun w hb => by
   refine (z2n ((HH.out.later HB.out).later hb)).mono ?_
   rintro e w' ⟨ra, rn, rc, rfl, q1, q2⟩
   have q3 : Below wr.heap.size wr w' := hb.trans (q2.mono hb.size)
   have q4 := zab q3 (Nat.le_refl _) P5.out
   have st5 := zqg w' (W.heap.size + 1) (.int .i64 a.fr) (.int .i64 a.n) (.int .i64 a.sd) (.slice ba a.L.length bc) (.slice ra rn rc)
   have bl5 := zly q4 (.int .i64 a.fr) (.int .i64 a.n) (.int .i64 a.sd) (.slice ba a.L.length bc) (.slice ra rn rc)
   have q5 : Below (W.heap.size + 1) wr w' := q3.mono (by have := HSB.out; omega)
   have q6 := q5.trans (st5.below (B := W.heap.size + 1) (fun y e => by omega) (by have := q5.size; have := HSB.out; omega))
   have q7 : Below w1.heap.size w1 w' := HB.out.trans (q3.mono HB.out.size)
   refine ⟨ra, rn, rc, rfl, q3, KK.out _ q5, zac q4 0, zac q4 1, zac q4 2, zac q4 3, zac q4 4, zaa q4 rfl, zaa q4 rfl, zaa q4 rfl, zaa q4 rfl, zaa q4 rfl, KK.out _ q6, zaa bl5 rfl, zaa bl5 rfl, zaa bl5 rfl, zaa bl5 rfl, zaa bl5 rfl, ?_, ?_, ?_⟩
   ·have e5 := E5.out.later q3
    refine ⟨E, ⟨e5.row.kept st5 (fun y hy q => by have := (World.ownsRow.lt e5.row y hy).1; omega), e5.len, fun i id pv hi => by obtain ⟨ps, g1, g2⟩ := e5.at' i id pv hi; exact ⟨ps, g1, So.zai g2 st5 fun y hy q => by have := (g2.lt y hy).1; omega⟩, e5.apart⟩ |> fun z => Bes.lower z (by omega)⟩
   ·have ho : NumO w.heap.size (put5 w' (W.heap.size + 1) (.int .i64 a.fr) (.int .i64 a.n) (.int .i64 a.sd) (.slice ba a.L.length bc) (.slice ra rn rc)) (.slice ra rn rc) a.gl := So.zai q1 st5 fun y hy q => by
     have := (World.ownsRow.lt q1 y hy).1
     have := hb.size
     have := HSB.out
     omega
    exact ho.lower (by have := hb.size; omega)
   exact B1.out.trans ((q7.mono B1.out.size).trans (st5.below (B := W.heap.size) (fun y e => by omega) (by have := q7.size; omega)))
  have hmm : W.heap.size + 1 <= wr.heap.size := by have := HSB.out; omega
  obtain ⟨s0, s1, s2, s3, s4⟩ := KK.out wr ((Below.refl wr.heap.size wr).mono hmm)
  have k0 : Below wr.heap.size wr wr := Below.refl _ _
  have k0d := k0.drew
  have sS := KK.out wr.drew (k0d.mono hmm)
  go_upto_region 9 with fail
  go_region_held3 (fun w => w.cell? ⟨W.heap.size, 0, none⟩ = some (.pointer (some ⟨wb, 0, none⟩)) /\ w.cell? ⟨wb, 7, none⟩ = some (.int .i64 a.fr) /\ w.cell? ⟨wb, 4, none⟩ = some (.pointer (some ⟨k.x.bb, 0, none⟩)) /\ w.cell? ⟨wb, 8, none⟩ = some (.int .i64 a.sd) /\ w.cell? ⟨wb, 5, none⟩ = some (.pointer (some ⟨k.x.gb, 0, none⟩)))
   (first | (with_reducible assumption) | fail)
   (first
    | (go_at_call 68; refine (NX.out _ (by with_reducible assumption)).mono ?_; rintro e v1 ⟨rfl, rfl⟩)
    | (go_at_call 69; refine (AL.out _ (by with_reducible assumption)).mono ?_; rintro e v2 ⟨ra, rn, rc, rfl, bb2, hS2, f0, f1, f2, f3, f4, y0, y1, y2, y3, y4, hS5, z0, z1, z2, z3, z4, HFIN⟩)
    | fail)
  all_goals
   clear KK NX AL
   go_wp2_with fail
   obtain ⟨g1, g2, g3⟩ := HFIN.out
   exact bodyPost_ret (v := .agg #[.int .i64 a.fr, .int .i64 a.n, .int .i64 a.sd, .slice ba a.L.length bc, .slice ra rn rc]) (by simp [results, Tryz.results30, go_sem, z0, z1, z2, z3, z4]) rfl ⟨_, _, _, _, _, _, rfl, g1, g2, g3⟩
end
end Wo
namespace Or
open Go.RowKit Go.Shelf Go.Maps
open Wo (WK AP)
set_option maxRecDepth 100000
theorem yce (d f : Int) (w : World) : (Op.equalIn 10000 55 (.agg #[.int .i64 d, .int .i64 f]) (.agg #[.int .i64 d, .int .i64 f])).run Tryz.prog w = .ok true w := by
 have hS : Tryz.prog.underlying 55 = some (.struct (Tryz.prog.fieldsOf 55)) := by kernel_rfl
 have hp : Tryz.prog.stoodInHeld 55 = false := by kernel_rfl
 have h := run_equalIn_agg (P := Tryz.prog) w 9999 55 #[.int .i64 d, .int .i64 f] #[.int .i64 d, .int .i64 f] hS hp
 have u3 := Tryz.underlying3
 have a3 := Tryz.isAgg3
 have z3 := Tryz.sizeOf3
 simp only [Program.fieldsOf, Tryz.underlying55] at h
 rw [show (10000 : Nat) = 9999 + 1 from rfl, h]
 clear h hS hp
 go_simp
end Or
namespace Dw
open Go.RowKit Go.Shelf Go.Maps
open At (St zaa zab)
open Rs (Prt Prts)
open Sc (Cmp zah)
open Wo (Bgs BeR NumO)
def win (S : Nat -> Prop) (W W' : World) : Nat -> Prop := fun j => S j \/ (W.heap.size <= j /\ j < W'.heap.size)
theorem zbr {S : Nat -> Prop} {W W' : World} {j : Nat} (h : S j) : win S W W' j := .inl h
def PS (S : Nat -> Prop) (W : World) (v : Value) (l : List Prt) : Prop := Prts 0 W v l /\ ∀ y, v.ownBlock = some y -> S y
structure RB (S : Nat -> Prop) (W : World) (v : Value) (L : Bgs) : Prop where
 ex : ∃ E : List (Int × Value), BeR 0 W v E /\ E.length = L.length /\ ∀ (j : Nat) id pv, E[j]? = some (id, pv) -> ∃ ps, L[j]? = some (id, ps) /\ PS S W pv ps
 own : ∀ y, v.ownBlock = some y -> S y
def NS (S : Nat -> Prop) (W : World) (v : Value) (l : List Int) : Prop := NumO 0 W v l /\ ∀ y, v.ownBlock = some y -> S y
section
variable {S S' T : Nat -> Prop} {W W' : World} {v : Value} {L : Bgs} {l : List Prt} {xs : List Int}
theorem PS.kept (h : PS S W v l) (hs : St T W W') (hT : ∀ y, S y -> ¬ T y) : PS S W' v l := ⟨So.zai h.1 hs fun y hy => hT y (h.2 y hy), h.2⟩
theorem PS.mono (h : PS S W v l) (hS : ∀ y, S y -> S' y) : PS S' W v l := ⟨h.1, fun y hy => hS y (h.2 y hy)⟩
theorem PS.later (h : PS S W v l) (hb : Below W.heap.size W W') : PS S W' v l := ⟨h.1.later hb, h.2⟩
theorem PS.new {N : Nat} (h : Prts N W' v l) (hN : W.heap.size <= N) : PS (win S W W') W' v l := ⟨h.lower (Nat.zero_le _), fun y hy => .inr (by have := h.lt y hy; omega)⟩
theorem NS.kept (h : NS S W v xs) (hs : St T W W') (hT : ∀ y, S y -> ¬ T y) : NS S W' v xs := ⟨So.zai h.1 hs fun y hy => hT y (h.2 y hy), h.2⟩
theorem NS.mono (h : NS S W v xs) (hS : ∀ y, S y -> S' y) : NS S' W v xs := ⟨h.1, fun y hy => hS y (h.2 y hy)⟩
theorem RB.kept (h : RB S W v L) (hs : St T W W') (hT : ∀ y, S y -> ¬ T y) : RB S W' v L := by
 obtain ⟨⟨E, h1, h2, h3⟩, h4⟩ := h
 exact ⟨⟨E, h1.kept hs fun y hy => hT y (h4 y hy), h2, fun j id pv hj => by obtain ⟨ps, q1, q2⟩ := h3 j id pv hj; exact ⟨ps, q1, q2.kept hs hT⟩⟩, h4⟩
theorem RB.mono (h : RB S W v L) (hS : ∀ y, S y -> S' y) : RB S' W v L := by
 obtain ⟨⟨E, h1, h2, h3⟩, h4⟩ := h
 exact ⟨⟨E, h1, h2, fun j id pv hj => by obtain ⟨ps, q1, q2⟩ := h3 j id pv hj; exact ⟨ps, q1, q2.mono hS⟩⟩, fun y hy => hS y (h4 y hy)⟩
theorem RB.later (h : RB S W v L) (hb : Below W.heap.size W W') : RB S W' v L := by
 obtain ⟨⟨E, h1, h2, h3⟩, h4⟩ := h
 exact ⟨⟨E, h1.later hb, h2, fun j id pv hj => by obtain ⟨ps, q1, q2⟩ := h3 j id pv hj; exact ⟨ps, q1, q2.later hb⟩⟩, h4⟩
theorem RB.slice (h : RB S W v L) : ∃ a c, v = .slice a L.length c := by
 obtain ⟨⟨E, h1, h2, h3⟩, h4⟩ := h
 obtain ⟨a, c, e⟩ := h1.slice
 exact ⟨a, c, by rw [e, h2]⟩
theorem RB.nil (S : Nat -> Prop) (W : World) : RB S W (.slice none 0 0) [] := ⟨⟨[], World.ownsRow_nil _ _ _ _, rfl, fun j id pv hj => by simp at hj⟩, fun y hy => by simp [Value.ownBlock] at hy⟩
theorem RB.at {a : Option Addr} {n c : Nat} (h : RB S W (.slice a n c) L) {j : Nat} {id : Int} {ps : List Prt} (hj : L[j]? = some (id, ps)) : ∃ g pv, a = some ⟨g, 0, none⟩ /\ W.cell? ⟨g, j * 2, none⟩ = some (.int .i64 id) /\ W.cell? ⟨g, j * 2 + 1, none⟩ = some pv /\ PS S W pv ps := by
 obtain ⟨⟨E, h1, h2, h3⟩, h4⟩ := h
 have hlt := (List.getElem?_eq_some_iff.1 hj).1
 obtain ⟨⟨id', pv⟩, hE⟩ := zal E j (by omega)
 obtain ⟨ps', q1, q2⟩ := h3 j id' pv hE
 obtain ⟨rfl, rfl⟩ : id = id' /\ ps = ps' := by rw [hj] at q1; simpa using q1
 obtain ⟨g, e, c0, c1⟩ := h1.at hE
 exact ⟨g, pv, e, c0, c1, q2⟩
end
structure DW where
 cs : List Cmp
 most : Nat
 L : Bgs
 fr : Int
 n : Int
 sd : Int
 gl : List Int
def dbox (va vb lv gv : Value) (x : DW) : Array Value := #[va, vb, .int .i64 (x.most : Int), lv, .int .i64 x.fr, .int .i64 x.n, .int .i64 x.sd, gv, .slice none 0 0, .bool false]
structure Dm (Z : World) (S : Nat -> Prop) (W : World) (b : Nat) (va vb lv gv : Value) (x : DW) : Prop where
 box : W.heap[b]? = some (.cells (dbox va vb lv gv x) 71 (0, 0))
 inb : S b
 fin : ∀ y, S y -> Z.heap.size <= y /\ y < W.heap.size
 kin : zah Z va x.cs
 bel : Below Z.heap.size Z W
 few : x.cs.length <= 16
 be : RB S W lv x.L
 gd : NS S W gv x.gl
 l64 : x.L.length <= 64
section
variable {Z : World} {S S' T : Nat -> Prop} {W W' : World} {b : Nat} {va vb lv gv : Value} {x : DW}
theorem Dm.cell (h : Dm Z S W b va vb lv gv x) {j : Nat} {v : Value} (hj : (dbox va vb lv gv x)[j]? = some v) : W.cell? ⟨b, j, none⟩ = some v := zaa h.box hj
theorem Dm.cmp (h : Dm Z S W b va vb lv gv x) : zah W va x.cs := h.kin.later h.bel
theorem Dm.later (h : Dm Z S W b va vb lv gv x) (hb : Below W.heap.size W W') : Dm Z S W' b va vb lv gv x :=
 ⟨zab hb (Nat.le_refl _) h.box, h.inb, fun y hy => ⟨(h.fin y hy).1, Nat.lt_of_lt_of_le (h.fin y hy).2 hb.size⟩, h.kin, h.bel.trans (hb.mono h.bel.size), h.few, h.be.later hb, ⟨h.gd.1.later hb, h.gd.2⟩, h.l64⟩
theorem Dm.more (h : Dm Z S W b va vb lv gv x) (hS : ∀ y, S y -> S' y) (hf : ∀ y, S' y -> Z.heap.size <= y /\ y < W.heap.size) : Dm Z S' W b va vb lv gv x :=
 ⟨h.box, hS _ h.inb, hf, h.kin, h.bel, h.few, h.be.mono hS, h.gd.mono hS, h.l64⟩
theorem Dm.grown (h : Dm Z S W b va vb lv gv x) (hb : Below W.heap.size W W') : Dm Z (win S W W') W' b va vb lv gv x :=
 (h.later hb).more (fun _ => zbr) fun y hy => by
  rcases hy with q | q
  ·exact (h.later hb).fin y q
  have := h.bel.size
  omega
theorem Dm.kept (h : Dm Z S W b va vb lv gv x) (hs : St T W W') (hT : ∀ y, S y -> ¬ T y) (hz : ∀ y, T y -> Z.heap.size <= y) : Dm Z S W' b va vb lv gv x :=
 ⟨hs.at h.box (hT b h.inb), h.inb, fun y hy => ⟨(h.fin y hy).1, Nat.lt_of_lt_of_le (h.fin y hy).2 hs.size⟩, h.kin, h.bel.trans (hs.below hz h.bel.size), h.few, h.be.kept hs hT, h.gd.kept hs hT, h.l64⟩
theorem Dm.own {x' : DW} {lv' gv' : Value} {j : Nat} {v : Value} (h : Dm Z S W b va vb lv gv x) (hb : (dbox va vb lv gv x).setIfInBounds j v = dbox va vb lv' gv' x') (e1 : x'.cs = x.cs) (hl : RB S (W.setCell ⟨b, j, none⟩ v) lv' x'.L) (hg : NS S (W.setCell ⟨b, j, none⟩ v) gv' x'.gl) (h64 : x'.L.length <= 64) :
  Dm Z S (W.setCell ⟨b, j, none⟩ v) b va vb lv' gv' x' /\ St (fun y => y = b) W (W.setCell ⟨b, j, none⟩ v) := by
 have st : St (fun y => y = b) W (W.setCell ⟨b, j, none⟩ v) := St.setCell _ rfl
 refine ⟨⟨by rw [heap_setCell_same W b j _ _ v h.box, hb], h.inb, fun y hy => ⟨(h.fin y hy).1, Nat.lt_of_lt_of_le (h.fin y hy).2 st.size⟩, by rw [e1]; exact h.kin, h.bel.trans (st.below (fun y e => by rw [e]; exact (h.fin b h.inb).1) h.bel.size), by rw [e1]; exact h.few, hl, hg, h64⟩, st⟩
theorem Dm.rows {j : Nat} {v : Value} (h : Dm Z S W b va vb lv gv x) {lv' : Value} {L' : Bgs} (hl : RB S W lv' L') : RB S (W.setCell ⟨b, j, none⟩ v) lv' L' := by
 have st : St (fun y => y = b) W (W.setCell ⟨b, j, none⟩ v) := St.setCell _ rfl
 obtain ⟨⟨E, h1, h2, h3⟩, h4⟩ := hl
 have nb : ∀ {ty : TypeId} {c : Array Value}, W.heap[b]? = some (.cells c ty (0, 0)) -> ty = 71 := fun {ty c} q => by rw [h.box] at q; simpa using (congrArg (fun o => match o with | some (.cells _ t _) => t | _ => ty) q).symm
 refine ⟨⟨E, h1.kept st fun y hy e => ?_, h2, fun j id pv hj => ?_⟩, h4⟩
 ·obtain ⟨c, q⟩ := So.zbd h1 hy
  rw [e] at q
  exact absurd (nb q) (by decide)
 obtain ⟨ps, q1, q2⟩ := h3 j id pv hj
 refine ⟨ps, q1, So.zai q2.1 st fun y hy e => ?_, q2.2⟩
 obtain ⟨c, q⟩ := So.zbd q2.1 hy
 rw [e] at q
 exact absurd (nb q) (by decide)
theorem Dm.nums {j : Nat} {v : Value} (h : Dm Z S W b va vb lv gv x) : NS S (W.setCell ⟨b, j, none⟩ v) gv x.gl := by
 have st : St (fun y => y = b) W (W.setCell ⟨b, j, none⟩ v) := St.setCell _ rfl
 refine ⟨So.zai h.gd.1 st fun y hy e => ?_, h.gd.2⟩
 obtain ⟨c, q⟩ := So.zbd h.gd.1 hy
 rw [e, h.box] at q
 simp at q
def plc (L : Bgs) (id : Int) : Nat := L.findIdx fun x => x.1 == id
def plcI (L : Bgs) (id : Int) : Int := if plc L id < L.length then (plc L id : Int) else -1
theorem z8w {L : Bgs} {id : Int} {k : Nat} {p : Int × List Prt} (hk : k <= plc L id) (hp : L[k]? = some p) (hc : p.1 = id) : plc L id = k := by
 obtain ⟨hl, rfl⟩ := List.getElem?_eq_some_iff.1 hp
 refine Nat.le_antisymm (Nat.le_of_not_lt fun q => ?_) hk
 have := List.not_of_lt_findIdx q
 simp [hc] at this
theorem z2w {L : Bgs} {id : Int} {k : Nat} {p : Int × List Prt} (hk : k <= plc L id) (hp : L[k]? = some p) (hc : ¬ p.1 = id) : k + 1 <= plc L id := by
 obtain ⟨hl, rfl⟩ := List.getElem?_eq_some_iff.1 hp
 refine Nat.lt_of_le_of_ne hk fun e => ?_
 have hlt : L.findIdx (fun x => x.1 == id) < L.length := by show plc L id < _; omega
 have := List.findIdx_getElem (w := hlt)
 simp only [beq_iff_eq] at this
 have e' : L.findIdx (fun x => x.1 == id) = k := e.symm
 simp only [e'] at this
 exact hc this
set_option maxRecDepth 100000 in
theorem zhv (h : Dm Z S W b va vb lv gv x) (id : Int) :
  Calls Tryz.prog 102 #[.pointer (some ⟨b, 0, none⟩), .int .i64 id] W fun e W' => e = .returned (.int .i64 (plcI x.L id)) /\ W' = W := by
 have H := hid h
 obtain ⟨a, c, rfl⟩ := h.be.slice
 have hli : (x.L.length : Int) <= 64 := by have := h.l64; omega
 have c3 : W.cell? ⟨b, 3, none⟩ = some (.slice a x.L.length c) := h.cell (j := 3) rfl
 clear h
 go_enter Tryz.func102, Tryz.ntmps102
 go_wp2_with fail
 go_loopg [5] x.L.length (fun gh i wr => ∃ k : Nat, k <= x.L.length /\ gh = x.L.length - k /\ i = .int .i64 (k : Int) /\ Hid (k <= plc x.L id) /\ wr = W)
 case atStart => exact ⟨0, Nat.zero_le _, rfl, rfl, Nat.zero_le _, rfl⟩
 case round =>
  obtain ⟨k, hk, rfl, rfl, HK, rfl⟩ := hrel
  by_cases hlt : k < x.L.length
  ·have hki : (k : Int) < (x.L.length : Int) := by omega
   obtain ⟨⟨i2, ps⟩, hp⟩ := zal x.L k hlt
   obtain ⟨g, pv, rfl, d0, -, -⟩ := H.out.be.at hp
   by_cases hc : i2 = id
   ·have E : Hid (plcI x.L id = (k : Int)) := hid (by unfold plcI; rw [z8w HK.out hp hc, if_pos hlt])
    have hcb : (i2 == id) = true := by simp [hc]
    clear hp hc
    go_wp2_with fail
    go_ret
    exact ⟨by rw [E.out]; rfl, rfl⟩
   have HK2 := hid (z2w HK.out hp hc)
   have hcb : (i2 == id) = false := by simp [hc]
   clear hp hc
   go_wp2_with fail
   go_roundg (x.L.length - (k + 1))
   case measure => omega
   case rel => exact ⟨k + 1, by omega, rfl, by go_num, HK2.out, rfl⟩
  have hki : ¬ ((k : Int) < (x.L.length : Int)) := by omega
  have E : Hid (plcI x.L id = -1) := hid (by
   unfold plcI
   have := HK.out
   rw [if_neg (by omega)])
  go_wp2_with fail
  go_ret
  exact ⟨by rw [E.out]; rfl, rfl⟩
end
end Dw
namespace Dw
open Go.RowKit Go.Shelf Go.Maps
open At (bAl)
open Wo (BeR beC zjg zyh)
section
variable {Z : World} {S S' T : Nat -> Prop} {W W' : World} {b : Nat} {va vb lv gv : Value} {x : DW}
theorem zdb (h : Dm Z S W b va vb lv gv x) (c : Int) :
  Calls Tryz.prog 70 #[.pointer (some ⟨b, 0, none⟩), .int .i64 c] W fun e W' => e = .returned (.bool (Wo.zao x.cs c)) /\ W' = W := by
 obtain ⟨ka, kc, e, -, hr⟩ := h.cmp
 subst e
 have c0 : W.cell? ⟨b, 0, none⟩ = some (.slice ka x.cs.length kc) := h.cell (j := 0) rfl
 have hli : (x.cs.length : Int) <= 16 := by have := h.few; omega
 clear h
 by_cases h0 : 0 <= c
 ·obtain ⟨k, rfl⟩ := Int.eq_ofNat_of_zero_le h0
  by_cases h1 : k < x.cs.length
  ·have h1i : (k : Int) < (x.cs.length : Int) := by omega
   obtain ⟨q, hq⟩ := zal x.cs k h1
   obtain ⟨kb, ko, rfl, c2⟩ : ∃ kb ko, ka = some ⟨kb, ko, none⟩ /\ W.cell? ⟨kb, ko + k * 7 + 2, none⟩ = some (.bool q.rb) := by
    rcases hr with hr | ⟨kb, ko, e, hr⟩
    ·rw [hr] at h1; simp at h1
    exact ⟨kb, ko, e, (hr k q hq).2.2.1⟩
   have E : Hid (Wo.zao x.cs (k : Int) = q.rb) := hid (by unfold Wo.zao; rw [if_pos (by omega), Int.toNat_natCast, hq])
   clear hr hq h0
   go_enter Tryz.func70, Tryz.ntmps70
   go_wp2_with fail
   go_ret
   exact ⟨by rw [E.out]; rfl, rfl⟩
  have h1i : ¬ (k : Int) < (x.cs.length : Int) := by omega
  have E : Hid (Wo.zao x.cs (k : Int) = false) := hid (by unfold Wo.zao; rw [if_pos (by omega), Int.toNat_natCast, List.getElem?_eq_none (by omega)])
  clear hr h0
  go_enter Tryz.func70, Tryz.ntmps70
  go_wp2_with fail
  go_ret
  exact ⟨by rw [E.out]; rfl, rfl⟩
 have E : Hid (Wo.zao x.cs c = false) := hid (by unfold Wo.zao; rw [if_neg h0])
 clear hr
 go_enter Tryz.func70, Tryz.ntmps70
 go_wp2_with fail
 go_ret
 exact ⟨by rw [E.out]; rfl, rfl⟩
theorem zch (h : Dm Z S W b va vb lv gv x) (k id c v0 v1 v2 v3 t : Int) (ad : Option Addr) (nn cc : Nat) (n o : Int) :
  Calls Tryz.prog 59 #[.pointer (some ⟨b, 0, none⟩), .agg #[.int .i64 k, .int .i64 id, .int .i64 c, .int .i64 v0, .int .i64 v1, .int .i64 v2, .int .i64 v3, .int .i64 t, .slice ad nn cc, .int .i64 n, .int .i64 o]] W fun e W' => e = .returned (.tuple #[]) /\ Below W.heap.size W W' := by
 obtain ⟨wa, hwa⟩ : ∃ wa, wa = W.alloc (.cells #[.int .i64 k, .int .i64 id, .int .i64 c, .int .i64 v0, .int .i64 v1, .int .i64 v2, .int .i64 v3, .int .i64 t, .slice ad nn cc, .int .i64 n, .int .i64 o] 130) := ⟨_, rfl⟩
 have ba : Below W.heap.size W wa := by rw [hwa]; exact bAl _ _
 have c9 : wa.cell? ⟨b, 9, none⟩ = some (.bool false) := (h.later ba).cell (j := 9) rfl
 have HWA := hid hwa
 have BA := hid ba
 clear h hwa ba
 go_enter Tryz.func59, Tryz.ntmps59
 go_upto_region 1 with fail
 rw [<- HWA.out]
 go_wp2_with fail
 go_end0
 exact ⟨rfl, BA.out⟩
end
theorem z5v (E F : List (Int × Value)) : beC (E ++ F) = beC E ++ beC F := by unfold beC; rw [List.flatMap_append]
theorem zdu (w : World) {ops : Array Oper} {rest : List Oper} {o : Oper} {a : Act} {Q : Exit -> Act -> World -> Prop} (hgd : o.guard = none) (s x : Operand)
  (ho : o.op = .call { callee := .builtin .append, args := #[s, x], argTypes := #[67, 67] })
  (base : Nat) (v : Value) (E : List (Int × Value)) (hs : a.eval s = v) (hown : BeR base w v E)
  (g off m c : Nat) (F : List (Int × Value)) (hm : F.length = m) (hx : a.eval x = .slice (some ⟨g, off, none⟩) m c) (hrow : ∀ (j : Nat) u, (beC F)[j]? = some u -> w.cell? ⟨g, off + j, none⟩ = some u) (hone : ∀ p ∈ F, p.2.oneCell' = true) (nn : Nat) (hnn : E.length + m = nn) (hlen : nn <= 5000) (hbase : base <= w.heap.size)
  (h : ∀ a' c' w', Hid (BeR base w' (.slice a' nn c') (E ++ F)) -> Hid (Below base w w') -> wpList Tryz.prog ops Q rest (a.put o.dst (.slice a' nn c')) w') :
  wpList Tryz.prog ops Q (o :: rest) a w := by
 subst hm
 subst hnn
 obtain ⟨i0, hi, hz0, hz1, hz2⟩ := info_parts zyh
 refine wpList_append_own_at w hgd s x 67 ho base 133 i0 (.agg #[.int .i64 0, .slice none 0 0]) 2 32 Tryz.underlying67 hi hz0 hz1 hz2 rfl (by decide) v E.length (beC E) hs hown ⟨g, off, none⟩ F.length c (beC F) hx (zjg F) (fun j u hu => by
  rw [Co.zhr]
  exact hrow j u hu) (fun u hu => by
   obtain ⟨p, hp, q⟩ := List.mem_flatMap.1 hu
   simp [Wo.beA] at q
   rcases q with rfl | rfl
   ·rfl
   exact hone p hp) (by simp [maxLen]; omega) (by omega) hbase ?_
 intro v' w' hown' hgrow _ _
 rw [<- z5v] at hown'
 have e : E.length + F.length = (E ++ F).length := by simp
 have hown2 : BeR base w' v' (E ++ F) := by
  show World.ownsRow _ _ _ _ _ _ _
  rw [<- e]
  exact hown'
 obtain ⟨a', c', ev⟩ := hown2.slice
 rw [<- e] at ev
 subst ev
 exact h a' c' w' hown2 ((Below.refl _ _).grown hgrow hbase (fun k hk => zcn hown hk))
end Dw
namespace Dw
open Go.RowKit Go.Shelf Go.Maps
open At (St bAl zac)
open Rs (Prt)
open Wo (Bgs BeR beC zjg)
theorem zqn (W : World) : BeR W.heap.size (W.alloc (.cells #[] 133)) (.slice (some ⟨W.heap.size, 0, none⟩) 0 0) [] :=
 World.ownsRow_lit (base := W.heap.size) (e := 133) (size := 2) W #[] 0 (Nat.le_refl _) (Nat.zero_le _) rfl
theorem zsh {N : Nat} {W : World} {g n c : Nat} {E : List (Int × Value)} (h : BeR N W (.slice (some ⟨g, 0, none⟩) n c) E) (j : Nat) (u : Value) (hj : (beC E)[j]? = some u) : W.cell? ⟨g, j, none⟩ = some u := by
 have hl := (List.getElem?_eq_some_iff.1 hj).1
 rw [zjg] at hl
 obtain ⟨rfl, -⟩ := h.blk
 exact (World.ownsRow.cellAt h j (by omega)).trans hj
theorem zsa : ∀ (E : List (Int × Value)) (i : Nat), beC (E.take i) = (beC E).take (i * 2)
 | [], i => by simp [beC]
 | x :: E, 0 => by simp [beC]
 | x :: E, i + 1 => by rw [List.take_succ_cons, Wo.zcu, Wo.zcu, zsa E i, show (i + 1) * 2 = i * 2 + 1 + 1 by omega]; simp
theorem zry : ∀ (E : List (Int × Value)) (i : Nat), beC (E.drop i) = (beC E).drop (i * 2)
 | [], i => by simp [beC]
 | x :: E, 0 => by simp [beC]
 | x :: E, i + 1 => by rw [List.drop_succ_cons, Wo.zcu, zry E i, show (i + 1) * 2 = i * 2 + 1 + 1 by omega]; simp
section
variable {Z : World} {S S' T : Nat -> Prop} {W W' : World} {b : Nat} {va vb lv gv : Value} {x : DW}
theorem RB.erase {E : List (Int × Value)} {L : Bgs} {v' : Value} {i : Nat} (h2 : E.length = L.length) (h3 : ∀ (j : Nat) id pv, E[j]? = some (id, pv) -> ∃ ps, L[j]? = some (id, ps) /\ PS S W' pv ps) (h1 : BeR 0 W' v' (E.eraseIdx i)) (h4 : ∀ y, v'.ownBlock = some y -> S y) : RB S W' v' (L.eraseIdx i) := by
 refine ⟨⟨_, h1, by rw [List.length_eraseIdx, List.length_eraseIdx, h2], fun j id pv hj => ?_⟩, h4⟩
 rw [List.getElem?_eraseIdx] at hj ⊢
 by_cases e : j < i
 ·rw [if_pos e] at hj ⊢; exact h3 j id pv hj
 rw [if_neg e] at hj ⊢; exact h3 (j + 1) id pv hj
theorem RB.set {E : List (Int × Value)} {L : Bgs} {v' pv' : Value} {i : Nat} {id : Int} {pv : Value} {ps' : List Prt} (h2 : E.length = L.length) (h3 : ∀ (j : Nat) id pv, E[j]? = some (id, pv) -> ∃ ps, L[j]? = some (id, ps) /\ PS S W' pv ps) (hi : E[i]? = some (id, pv)) (hp : PS S W' pv' ps') (h1 : BeR 0 W' v' (E.set i (id, pv'))) (h4 : ∀ y, v'.ownBlock = some y -> S y) : RB S W' v' (L.set i (id, ps')) := by
 refine ⟨⟨_, h1, by rw [List.length_set, List.length_set, h2], fun j id2 pv2 hj => ?_⟩, h4⟩
 have hil := (List.getElem?_eq_some_iff.1 hi).1
 by_cases e : j = i
 ·subst e
  rw [List.getElem?_set_self hil] at hj
  obtain ⟨rfl, rfl⟩ : id = id2 /\ pv' = pv2 := by simpa using hj
  exact ⟨ps', by rw [List.getElem?_set_self (by omega)], hp⟩
 rw [List.getElem?_set_ne (fun q => e q.symm)] at hj ⊢
 exact h3 j id2 pv2 hj
set_option maxRecDepth 100000 in
theorem z1s (h : Dm Z S W b va vb lv gv x) (i : Nat) (hi : i < x.L.length) :
  Calls Tryz.prog 103 #[.pointer (some ⟨b, 0, none⟩), .int .i64 (i : Int)] W fun e W' => e = .returned (.tuple #[]) /\ (∃ lv', Dm Z (win S W W') W' b va vb lv' gv { x with L := x.L.eraseIdx i }) /\ St (fun y => y = b) W W' := by
 have H := hid h
 obtain ⟨⟨E, e1, e2, e3⟩, e4⟩ := h.be
 have h64 := h.l64
 obtain ⟨g, c, rfl⟩ : ∃ g c, lv = .slice (some ⟨g, 0, none⟩) x.L.length c := by
  obtain ⟨g, c, e, -⟩ := World.ownsRow.form (e1 : World.ownsRow _ _ _ _ _ _ _) (by omega)
  exact ⟨g, c, by rw [e, e2]⟩
 obtain ⟨hn, -, cur, hcur, hcap, -⟩ := e1.blk
 have CL := hid (zsh e1)
 have b1 := bAl W (.cells #[] 133)
 have c3 : (W.alloc (.cells #[] 133)).cell? ⟨b, 3, none⟩ = some (.slice (some ⟨g, 0, none⟩) x.L.length c) := (h.later b1).cell (j := 3) rfl
 have c30 : W.cell? ⟨b, 3, none⟩ = some (.slice (some ⟨g, 0, none⟩) x.L.length c) := h.cell (j := 3) rfl
 have LI := hid (zqn W)
 have hii : (i : Int) < (x.L.length : Int) := by omega
 have hnc : (x.L.length : Int) <= (c : Int) := by omega
 have hli : (x.L.length : Int) <= 64 := by omega
 have E2 := hid e2
 have ONE : Hid (∀ p ∈ E, p.2.oneCell' = true) := hid fun p hp => by
  obtain ⟨j, hj⟩ := List.getElem?_of_mem hp
  obtain ⟨ps, -, q, -⟩ := e3 j p.1 p.2 hj
  obtain ⟨a', c', e⟩ := q.slice
  rw [e]; rfl
 have hm1 : (E.take i).length = i := by rw [List.length_take]; omega
 have hrow1 : ∀ (j : Nat) u, (beC (E.take i))[j]? = some u -> (W.alloc (.cells #[] 133)).cell? ⟨g, 0 + j, none⟩ = some u := fun j u hj => by
  rw [zsa] at hj
  rw [Nat.zero_add]
  refine At.seen b1 (Nat.le_refl _) (CL.out j u ?_)
  have hl := (List.getElem?_eq_some_iff.1 hj).1
  rw [List.length_take] at hl
  rw [List.getElem?_take_of_lt (by omega)] at hj
  exact hj
 have hone1 : ∀ p ∈ E.take i, p.2.oneCell' = true := fun p hp => ONE.out p (List.mem_of_mem_take hp)
 have hlen1 : i <= 5000 := by omega
 have hz1 : W.heap.size <= (W.alloc (.cells #[] 133)).heap.size := by simp
 have HM1 := hid hm1
 have HR1 := hid hrow1
 have HO1 := hid hone1
 have HL1 := hid hlen1
 have B1 := hid b1
 have DR : Hid (∀ v' c' w3, BeR W.heap.size w3 (.slice v' (x.L.length - 1) c') (E.eraseIdx i) -> Below W.heap.size W w3 -> Dm Z (win S W (w3.setCell ⟨b, 3, none⟩ (.slice v' (x.L.length - 1) c'))) (w3.setCell ⟨b, 3, none⟩ (.slice v' (x.L.length - 1) c')) b va vb (.slice v' (x.L.length - 1) c') gv { x with L := x.L.eraseIdx i } /\ St (fun y => y = b) W (w3.setCell ⟨b, 3, none⟩ (.slice v' (x.L.length - 1) c'))) := hid fun v' c' w3 hw hb => by
  have D3 := H.out.grown hb
  have hrb : RB (win S W w3) w3 (.slice v' (x.L.length - 1) c') (x.L.eraseIdx i) := RB.erase e2 (fun j id pv hj => by
   obtain ⟨ps, q1, q2⟩ := e3 j id pv hj
   exact ⟨ps, q1, (q2.later hb).mono fun _ => zbr⟩) ⟨hw.1, hw.2.elim .inl fun ⟨g, cap, cur, h1, h2, h3⟩ => .inr ⟨g, cap, cur, h1, Nat.zero_le _, h3⟩⟩ (fun y hy => .inr (World.ownsRow.lt hw y hy))
  obtain ⟨q1, q2⟩ := D3.own (x' := { x with L := x.L.eraseIdx i }) (lv' := .slice v' (x.L.length - 1) c') (gv' := gv) (j := 3) (v := .slice v' (x.L.length - 1) c') rfl rfl (D3.rows hrb) D3.nums (by show (x.L.eraseIdx i).length <= 64; have := List.length_eraseIdx_le x.L i; omega)
  have es : (w3.setCell ⟨b, 3, none⟩ (.slice v' (x.L.length - 1) c')).heap.size = w3.heap.size := by simp
  refine ⟨?_, (St.of_below (S := fun y => y = b) hb).trans q2 fun _ _ q => q⟩
  unfold win at q1 ⊢
  rw [es]
  exact q1
 have f3 := hid fun (w : World) (hb : Below W.heap.size W w) => zac (H.out.later hb).box 3
 have C3 := hid fun (w : World) (hb : Below W.heap.size W w) => (H.out.later hb).cell (j := 3) rfl
 clear h e1 e2 e3 e4 hcur b1 hm1 hrow1 hone1 hlen1 H hn hcap
 by_cases hci : c = i + 1
 ·have hn1 : x.L.length = i + 1 := by omega
  subst hci
  have E2n : Hid (E.length = i + 1) := hid (E2.out.trans hn1)
  have C3n : Hid (∀ w, Below W.heap.size W w -> w.cell? ⟨b, 3, none⟩ = some (.slice (some ⟨g, 0, none⟩) (i + 1) (i + 1))) := hid fun w hb => by
   have q := C3.out w hb
   change w.cell? _ = some (.slice (some ⟨g, 0, none⟩) x.L.length (i + 1)) at q
   rw [hn1] at q
   exact q
  rw [hn1] at DR c3 c30
  clear C3 E2
  clear hn1 hii hnc hli hi h64
  have hi500 : i <= 5000 := HL1.out
  have hii : (i : Int) <= 5000 := by omega
  go_enter Tryz.func103, Tryz.ntmps103
  go_upto_region 1 with (at_builtin; refine zdu _ rfl (.tmp 5) (.tmp 11) rfl W.heap.size _ [] rfl LI.out g 0 i (i + 1) (E.take i) HM1.out rfl HR1.out HO1.out i (Nat.zero_add i) HL1.out hz1 ?_; intro a1 c1 w2 HW2 HB2)
  have hw2 : BeR W.heap.size w2 (.slice a1 i c1) (E.take i) := by have := HW2.out; simpa using this
  have b2 := B1.out.trans HB2.out
  have HB := hid b2
  have c32 : w2.cell? ⟨b, 3, none⟩ = some (.slice (some ⟨g, 0, none⟩) (i + 1) (i + 1)) := C3n.out w2 b2
  have f32 := f3.out w2 b2
  have HI : Hid (i <= 5000) := hid hi500
  have HER : Hid (E.take i = E.eraseIdx i) := hid (by
   rw [List.eraseIdx_eq_take_drop_succ, List.drop_eq_nil_of_le (by rw [E2n.out]; exact Nat.le_refl _), List.append_nil])
  have hz2 : W.heap.size <= w2.heap.size := b2.size
  have HX2 := hid hw2
  clear HW2 HB2 hw2 c3 c30 b2
  go_wp2_with (at_builtin; refine zdu _ rfl (.tmp 14) (.tmp 21) rfl W.heap.size _ (E.take i) rfl HX2.out g 0 0 0 [] rfl rfl (fun j u hj => by simp [Wo.beC] at hj) (fun p hp => by simp at hp) i HM1.out HI.out hz2 ?_; intro a2 c2 w3 HW3 HB3; have c33 : w3.cell? ⟨b, 3, none⟩ = some (.slice (some ⟨g, 0, none⟩) (i + 1) (i + 1)) := C3n.out w3 (HB.out.trans HB3.out); have f33 : w3.frozen? ⟨b, 3, none⟩ = false := f3.out w3 (HB.out.trans HB3.out))
  have HB3' := hid (HB.out.trans HB3.out)
  have HW3' : Hid (BeR W.heap.size w3 (.slice a2 (i + 1 - 1) c2) (E.eraseIdx i)) := hid (by
   have := HW3.out
   rw [List.append_nil, HER.out] at this
   exact this)
  have FIN := hid (DR.out a2 c2 w3 HW3'.out HB3'.out)
  go_end0
  exact ⟨rfl, ⟨_, FIN.out.1⟩, FIN.out.2⟩
 have hci' : ¬ (c : Int) = (i : Int) + 1 := by omega
 go_enter Tryz.func103, Tryz.ntmps103
 go_upto_region 1 with (at_builtin; refine zdu _ rfl (.tmp 5) (.tmp 11) rfl W.heap.size _ [] rfl LI.out g 0 i c (E.take i) HM1.out rfl HR1.out HO1.out i (Nat.zero_add i) HL1.out hz1 ?_; intro a1 c1 w2 HW2 HB2)
 have hw2 : BeR W.heap.size w2 (.slice a1 i c1) (E.take i) := by have := HW2.out; simpa using this
 have b2 := B1.out.trans HB2.out
 have HB := hid b2
 have c32 : w2.cell? ⟨b, 3, none⟩ = some (.slice (some ⟨g, 0, none⟩) x.L.length c) := C3.out w2 b2
 have f32 := f3.out w2 b2
 have HM2 : Hid ((E.drop (i + 1)).length = x.L.length - (i + 1)) := hid (by rw [List.length_drop, E2.out])
 have HR2 : Hid (∀ (j : Nat) u, (beC (E.drop (i + 1)))[j]? = some u -> w2.cell? ⟨g, (i + 1) * 2 + j, none⟩ = some u) := hid fun j u hj => by
  rw [zry, List.getElem?_drop] at hj
  exact At.seen b2 (Nat.le_refl _) (CL.out _ u hj)
 have HO2 : Hid (∀ p ∈ E.drop (i + 1), p.2.oneCell' = true) := hid fun p hp => ONE.out p (List.mem_of_mem_drop hp)
 have HL2 : Hid (x.L.length - 1 <= 5000) := hid (by show _ <= _; omega)
 have hz2 : W.heap.size <= w2.heap.size := b2.size
 have HX2 := hid hw2
 have HSUM : Hid ((E.take i).length + (x.L.length - (i + 1)) = x.L.length - 1) := hid (by rw [HM1.out]; omega)
 clear HW2 HB2 hw2 c3 c30 b2
 go_wp2_with (at_builtin; refine zdu _ rfl (.tmp 14) (.tmp 21) rfl W.heap.size _ (E.take i) rfl HX2.out g ((i + 1) * 2) (x.L.length - (i + 1)) (c - (i + 1)) (E.drop (i + 1)) HM2.out rfl HR2.out HO2.out (x.L.length - 1) HSUM.out HL2.out hz2 ?_; intro a2 c2 w3 HW3 HB3; have c33 : w3.cell? ⟨b, 3, none⟩ = some (.slice (some ⟨g, 0, none⟩) x.L.length c) := C3.out w3 (HB.out.trans HB3.out); have f33 : w3.frozen? ⟨b, 3, none⟩ = false := f3.out w3 (HB.out.trans HB3.out))
 have HB3' := hid (HB.out.trans HB3.out)
 have HW3' : Hid (BeR W.heap.size w3 (.slice a2 (x.L.length - 1) c2) (E.eraseIdx i)) := hid (by
  have := HW3.out
  rw [<- List.eraseIdx_eq_take_drop_succ] at this
  exact this)
 have FIN := hid (DR.out a2 c2 w3 HW3'.out HB3'.out)
 go_end0
 exact ⟨rfl, ⟨_, FIN.out.1⟩, FIN.out.2⟩
end
end Dw
namespace Dw
open Go.RowKit Go.Shelf Go.Maps
open At (St bAl zac)
open Rs (Prt)
open Wo (BeR beC)
section
variable {Z : World} {S S' T : Nat -> Prop} {W W' : World} {b : Nat} {va vb lv gv : Value} {x : DW}
set_option maxRecDepth 100000 in
theorem zyw (h : Dm Z S W b va vb lv gv x) (i : Nat) (id : Int) (ps ps' : List Prt) (hi : x.L[i]? = some (id, ps)) (pv' : Value) (hp : PS S W pv' ps') :
  Calls Tryz.prog 105 #[.pointer (some ⟨b, 0, none⟩), .int .i64 (i : Int), pv'] W fun e W' => e = .returned (.tuple #[]) /\ (∃ lv', Dm Z (win S W W') W' b va vb lv' gv { x with L := x.L.set i (id, ps') }) /\ St (fun y => y = b) W W' := by
 have H := hid h
 obtain ⟨⟨E, e1, e2, e3⟩, e4⟩ := h.be
 have h64 := h.l64
 have hil : i < x.L.length := (List.getElem?_eq_some_iff.1 hi).1
 obtain ⟨g, c, rfl⟩ : ∃ g c, lv = .slice (some ⟨g, 0, none⟩) x.L.length c := by
  obtain ⟨g, c, e, -⟩ := World.ownsRow.form (e1 : World.ownsRow _ _ _ _ _ _ _) (by omega)
  exact ⟨g, c, by rw [e, e2]⟩
 obtain ⟨⟨id', pv⟩, hE⟩ := zal E i (by omega)
 obtain ⟨rfl, -⟩ : id = id' /\ True := by
  obtain ⟨ps2, q1, -⟩ := e3 i id' pv hE
  rw [hi] at q1
  exact ⟨by simpa using congrArg (fun o => o.map (·.1)) q1, trivial⟩
 obtain ⟨pa, pc, rfl⟩ := hp.1.slice
 have CL := hid (zsh e1)
 have b1 := bAl W (.cells #[] 133)
 have c3 : (W.alloc (.cells #[] 133)).cell? ⟨b, 3, none⟩ = some (.slice (some ⟨g, 0, none⟩) x.L.length c) := (h.later b1).cell (j := 3) rfl
 have LI := hid (zqn W)
 have hii : (i : Int) < (x.L.length : Int) := by omega
 have hli : (x.L.length : Int) <= 64 := by omega
 have E2 := hid e2
 have HE := hid hE
 have HO1 : Hid (∀ p ∈ E, p.2.oneCell' = true) := hid fun p hp => by
  obtain ⟨j, hj⟩ := List.getElem?_of_mem hp
  obtain ⟨ps, -, q, -⟩ := e3 j p.1 p.2 hj
  obtain ⟨a', c', e⟩ := q.slice
  rw [e]; rfl
 have HR1 : Hid (∀ (j : Nat) u, (beC E)[j]? = some u -> (W.alloc (.cells #[] 133)).cell? ⟨g, 0 + j, none⟩ = some u) := hid fun j u hj => by
  rw [Nat.zero_add]
  exact At.seen b1 (Nat.le_refl _) (CL.out j u hj)
 have hz1 : W.heap.size <= (W.alloc (.cells #[] 133)).heap.size := by simp
 have HL1 : Hid (x.L.length <= 5000) := hid (by show _ <= _; omega)
 have B1 := hid b1
 have DR : Hid (∀ a' c' w3, BeR W.heap.size w3 (.slice a' x.L.length c') (E.set i (id, .slice pa ps'.length pc)) -> Below W.heap.size W w3 -> Dm Z (win S W (w3.setCell ⟨b, 3, none⟩ (.slice a' x.L.length c'))) (w3.setCell ⟨b, 3, none⟩ (.slice a' x.L.length c')) b va vb (.slice a' x.L.length c') gv { x with L := x.L.set i (id, ps') } /\ St (fun y => y = b) W (w3.setCell ⟨b, 3, none⟩ (.slice a' x.L.length c'))) := hid fun v' c' w3 hw hb => by
  have D3 := H.out.grown hb
  have hrb : RB (win S W w3) w3 (.slice v' x.L.length c') (x.L.set i (id, ps')) := RB.set e2 (fun j id pv hj => by
   obtain ⟨ps, q1, q2⟩ := e3 j id pv hj
   exact ⟨ps, q1, (q2.later hb).mono fun _ => zbr⟩) HE.out ((hp.later hb).mono fun _ => zbr) ⟨hw.1, hw.2.elim .inl fun ⟨g, cap, cur, h1, h2, h3⟩ => .inr ⟨g, cap, cur, h1, Nat.zero_le _, h3⟩⟩ (fun y hy => .inr (World.ownsRow.lt hw y hy))
  obtain ⟨q1, q2⟩ := D3.own (x' := { x with L := x.L.set i (id, ps') }) (lv' := .slice v' x.L.length c') (gv' := gv) (j := 3) (v := .slice v' x.L.length c') rfl rfl (D3.rows hrb) D3.nums (by show (x.L.set i (id, ps')).length <= 64; rw [List.length_set]; omega)
  have es : (w3.setCell ⟨b, 3, none⟩ (.slice v' x.L.length c')).heap.size = w3.heap.size := by simp
  refine ⟨?_, (St.of_below (S := fun y => y = b) hb).trans q2 fun _ _ q => q⟩
  unfold win at q1 ⊢
  rw [es]
  exact q1
 have f3 := hid fun (w : World) (hb : Below W.heap.size W w) => zac (H.out.later hb).box 3
 have C3 : Hid (∀ w, Below W.heap.size W w -> w.cell? ⟨b, 3, none⟩ = some (.slice (some ⟨g, 0, none⟩) x.L.length c)) := hid fun w hb => (H.out.later hb).cell (j := 3) rfl
 have hzn : ([] : List (Int × Value)).length + x.L.length = x.L.length := by simp
 have HZN := hid hzn
 clear h e1 e2 e3 e4 b1 H hi hp hzn hE
 go_enter Tryz.func105, Tryz.ntmps105
 go_upto_region 1 with (at_builtin; refine zdu _ rfl (.tmp 7) (.tmp 11) rfl W.heap.size _ [] rfl LI.out g 0 x.L.length c E E2.out rfl HR1.out HO1.out x.L.length HZN.out HL1.out hz1 ?_; intro a1 c1 w2 HW2 HB2)
 have hw2 : BeR W.heap.size w2 (.slice a1 x.L.length c1) E := by have := HW2.out; simpa using this
 have b2 := B1.out.trans HB2.out
 obtain ⟨g1, rfl, d0, d1⟩ := hw2.at HE.out
 obtain ⟨-, hgl, cur, hcur, hcap, -⟩ := hw2.blk
 have f1 := zac hcur (i * 2 + 1)
 have w3o := hw2.set HE.out (.slice pa ps'.length pc)
 have b3 : Below W.heap.size W (w2.setCell ⟨g1, i * 2 + 1, none⟩ (.slice pa ps'.length pc)) := b2.setCell hgl _
 have c33 := C3.out _ b3
 have f33 := f3.out _ b3
 have hcap1 : x.L.length <= c1 := by rw [<- E2.out]; exact hcap
 have FIN := hid (DR.out _ _ _ w3o b3)
 clear HW2 HB2 hw2 b2 hcur w3o b3 c3 hgl hcap
 go_wp2_with fail
 go_end0
 exact ⟨rfl, ⟨_, FIN.out.1⟩, FIN.out.2⟩
end
end Dw
end Go.Proofs.YthadfdbkkmmgoaaGreatDoor
