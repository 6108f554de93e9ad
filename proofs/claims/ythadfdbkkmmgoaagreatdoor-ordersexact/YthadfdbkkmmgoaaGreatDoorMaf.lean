/- A part of the proof. -/
import Derived.Shelf.Strings.Builder1
import Derived.Shelf.Strings.Builder2
import Derived.Shelf.Strings.OnBuilder
import Derived.Shelf.Strconv.Itoa0
import Derived.Shelf.Strconv.Itoa1
import Derived.Shelf.Strconv.Itoa3
import Derived.Test.YthadfdbkkmmgoaaGreatDoorProg
import Derived.OneCell
import Derived.Laws.IdiomStrings
import Derived.Lib.Strings
import Derived.Lib.ItoaNum
import Derived.Test.YthadfdbkkmmgoaaGreatDoorMae
set_option maxHeartbeats 2000000
namespace Go.Proofs.YthadfdbkkmmgoaaGreatDoor.So
open Go.RowKit Go.Shelf Go.Maps
open Co (Pt Nums nzB zmb zpy zpk zfp)
open At (bAl zaa Err zep zck)
open Rs (Prt SD fitP)
theorem zoj (x : Int) (W : World) : Calls Tryz.prog 187 #[.int .i64 x] W fun e W' => e = .returned (.bool (!(x == 0))) /\ W' = W := by
 go_enter Tryz.func187, Tryz.ntmps187
 go_wp2
 go_ret
 exact ⟨rfl, rfl⟩
set_option maxRecDepth 100000 in
theorem zjo (W : World) (b o c : Nat) (xs : List Int) (hn : xs.length <= 4) (hm : Nums W b o xs) :
  Calls Tryz.prog 159 #[.slice (some ⟨b, o, none⟩) xs.length c, .func (.func 187) #[] #[]] W fun e W' => ∃ r : Int, e = .returned (.int .i64 r) /\ decide (0 <= r) = xs.any nzB /\ W' = W := by
 have HM := hid hm
 clear hm
 have NZ := hid zoj
 have hni : (xs.length : Int) <= 4 := by omega
 go_enter Tryz.func159, Tryz.ntmps159
 go_wp2_with fail
 go_loop [5, 8] (fun _ i => ∃ k : Nat, k <= xs.length /\ i = .int .i64 (k : Int) /\ Hid ((xs.take k).any nzB = false)) (fun _ i => xs.length - (intOf i).toNat)
 case atStart => exact ⟨0, Nat.zero_le _, rfl, rfl⟩
 case round =>
  obtain ⟨k, hk, rfl, HA⟩ := hrel
  by_cases hlt : k < xs.length
  ·have hki : (k : Int) < (xs.length : Int) := by omega
   obtain ⟨x, hx⟩ := zal xs k hlt
   have c0 := HM.out k x hx
   have AN := hid (zmb hx)
   have AH := hid (zpy hx)
   clear hx
   by_cases h0 : x = 0
   ·have e0 : (x == 0) = true := by simp [h0]
    have E : Hid ((xs.take (k + 1)).any nzB = false) := by show _ = _; rw [AN.out, HA.out]; simp [nzB, e0]
    clear h0 AH
    go_wp2_with fail
    refine (NZ.out _ _).mono ?_
    rintro e w1 ⟨rfl, rfl⟩
    go_wp2_with fail
    go_round
    case rel => exact ⟨k + 1, by omega, by go_num, E.out⟩
    case measure => simp [intOf]; omega
   have e0 : (x == 0) = false := by simp [h0]
   have E : Hid (xs.any nzB = true) := AH.out (by simp [nzB, e0])
   clear h0 AH
   go_wp2_with fail
   refine (NZ.out _ _).mono ?_
   rintro e w1 ⟨rfl, rfl⟩
   go_wp2_with fail
   go_ret
   exact ⟨_, rfl, by rw [E.out]; simp, rfl⟩
  have hki : ¬ ((k : Int) < (xs.length : Int)) := by omega
  have E : Hid (xs.any nzB = false) := by
   have := HA.out
   rw [List.take_of_length_le (by omega)] at this
   exact this
  go_wp2_with fail
  go_ret
  exact ⟨_, rfl, by rw [E.out]; simp, rfl⟩
theorem zbp (W : World) (b o c : Nat) (xs : List Int) (hn : xs.length <= 4) (hm : Nums W b o xs) :
  Calls Tryz.prog 130 #[.slice (some ⟨b, o, none⟩) xs.length c, .func (.func 187) #[] #[]] W fun e W' => e = .returned (.bool (xs.any nzB)) /\ W' = W := by
 have IX := hid (zjo W b o c xs hn hm)
 clear hm
 go_enter Tryz.func130, Tryz.ntmps130
 go_wp2_with fail
 refine IX.out.mono ?_
 rintro e w1 ⟨r, rfl, hr, rfl⟩
 have HR := hid hr
 clear hr IX
 go_wp2_with fail
 go_ret
 exact ⟨by rw [<- HR.out]; rfl, rfl⟩
theorem z2f {ws : List Nat} {p : Prt} {c w : Nat} (hc : p.c = (c : Int)) (hw : ws[c]? = some w) : fitP ws p = (pt p).fitB w := by rw [Rs.zsk hc hw]; rfl
set_option maxRecDepth 100000 in
theorem zvw (Ad : Nat -> Addr) {ex : Option Nat} {B : Nat} {W : World} {sb : Nat} {c : CV} {s : SD} (h : Sto ex B W sb c s) (hE : Env8 W Ad) (p : Prt) (hc : p.c < 0 \/ (s.ws.length : Int) <= p.c) :
  Calls Tryz.prog 170 #[.pointer (some ⟨sb, 0, none⟩), .agg #[.int .i64 p.c, .int .i64 p.v0, .int .i64 p.v1, .int .i64 p.v2, .int .i64 p.v3, .int .i64 p.t]] W fun e W' => ∃ t q, e = .returned (.iface t q) /\ Err Ad W' (.iface t q) 1 1 /\ Below W.heap.size W W' := by
 obtain ⟨W1, hW1⟩ : ∃ W1, W1 = W.alloc (.cells p.arr 89) := ⟨_, rfl⟩
 have BA : Hid (Below W.heap.size W W1) := by rw [hW1]; exact bAl _ _
 have x1 := e1 (hE.later BA.out)
 have q0 := (h.later BA.out).c0
 obtain ⟨wa, wc, hwv⟩ := h.wd.slice
 rw [hwv] at q0
 have hh : W1.heap[W.heap.size]? = some (.cells p.arr 89 (0, 0)) := by rw [hW1]; exact heap_alloc_new W (.cells p.arr 89)
 have d0 : W1.cell? ⟨W.heap.size, 0, none⟩ = some (.int .i64 p.c) := zaa hh rfl
 have AC := hid (fun s m => zep Ad s _ 1 0 (W1.drewN m) (zck Ad _ 1 (by decide)))
 have HW1 := hid hW1
 have hsl : (s.ws.length : Int) <= 16 := by have := h.okw.1; omega
 unfold Prt.arr at HW1
 clear hE h hW1 hwv hh
 by_cases h0 : p.c < 0
 ·have g0 : decide (p.c < 0) = true := by simpa using h0
  clear hc
  go_enter Tryz.func170, Tryz.ntmps170
  go_wp2_with fail
  rw [<- HW1.out]
  go_quiet (fail)
  go_wp2_with fail
  refine (AC.out _ _).mono ?_
  rintro e w2 ⟨t, q, rfl, hv, hb⟩
  have HV := hid hv
  have HB := hid (BA.out.trans ((At.zad W1 nq).trans (hb.mono (At.zad W1 nq).size) |>.mono BA.out.size))
  clear hv hb AC
  go_wp2_with fail
  go_ret
  exact ⟨t, q, rfl, HV.out, HB.out⟩
 have h1 : (s.ws.length : Int) <= p.c := by omega
 have g0 : decide (p.c < 0) = false := by simpa using h0
 have g1 : decide ((s.ws.length : Int) <= p.c) = true := by simpa using h1
 clear hc
 go_enter Tryz.func170, Tryz.ntmps170
 go_wp2_with fail
 rw [<- HW1.out]
 go_quiet (fail)
 go_wp2_with fail
 refine (AC.out _ _).mono ?_
 rintro e w2 ⟨t, q, rfl, hv, hb⟩
 have HV := hid hv
 have HB := hid (BA.out.trans ((At.zad W1 nq).trans (hb.mono (At.zad W1 nq).size) |>.mono BA.out.size))
 clear hv hb AC
 go_wp2_with fail
 go_ret
 exact ⟨t, q, rfl, HV.out, HB.out⟩
set_option maxRecDepth 100000 in
theorem z1h (Ad : Nat -> Addr) {ex : Option Nat} {B : Nat} {W : World} {sb : Nat} {c : CV} {s : SD} (h : Sto ex B W sb c s) (hE : Env8 W Ad) (p : Prt) {cc : Nat} (hc : p.c = (cc : Int)) (hcl : cc < s.ws.length) :
  Calls Tryz.prog 170 #[.pointer (some ⟨sb, 0, none⟩), .agg #[.int .i64 p.c, .int .i64 p.v0, .int .i64 p.v1, .int .i64 p.v2, .int .i64 p.v3, .int .i64 p.t]] W fun e W' => ∃ v, e = .returned v /\ (if fitP s.ws p then v = .nilIface else ∃ t q, v = .iface t q /\ Err Ad W' (.iface t q) 1 1) /\ Below W.heap.size W W' := by
 obtain ⟨w, hw⟩ := zal s.ws cc hcl
 have hw14 := h.okw.2 w (List.mem_of_getElem? hw)
 rw [z2f hc hw]
 obtain ⟨W1, hW1⟩ : ∃ W1, W1 = W.alloc (.cells p.arr 89) := ⟨_, rfl⟩
 have BA : Hid (Below W.heap.size W W1) := by rw [hW1]; exact bAl _ _
 have x1 := e1 (hE.later BA.out)
 have q0 := (h.later BA.out).c0
 have hwd := (h.later BA.out).wd
 obtain ⟨wa, wc, hwv⟩ := hwd.slice
 rw [hwv] at q0 hwd
 obtain ⟨wg, rfl, -, -⟩ := hwd.some (by omega)
 have q1 := hwd.cell hw
 have hh : W1.heap[W.heap.size]? = some (.cells ((pt p).arr p.c) 89 (0, 0)) := by rw [hW1]; exact heap_alloc_new W (.cells p.arr 89)
 have d0 : W1.cell? ⟨W.heap.size, 0, none⟩ = some (.int .i64 (cc : Int)) := by rw [<- hc]; exact zaa hh rfl
 have AC := hid (fun s m => zep Ad s _ 1 0 (W1.drewN m) (zck Ad _ 1 (by decide)))
 have HW1 := hid hW1
 have hsl : (s.ws.length : Int) <= 16 := by have := h.okw.1; omega
 have g0 : decide ((cc : Int) < 0) = false := by simp
 have g1 : decide ((s.ws.length : Int) <= (cc : Int)) = false := by simp; omega
 have hci : (cc : Int) < (s.ws.length : Int) := by omega
 have hci0 : ¬ ((s.ws.length : Int) <= (cc : Int)) := by omega
 unfold Prt.arr at HW1
 have hfx : (pt p).fitB 4 = true := Co.fit4 _
 have hn := zfp hh w
 obtain ⟨so, sl, hso⟩ : ∃ so sl : Nat, (w = 4 /\ so = 1 /\ sl = 0) \/ (w < 4 /\ so = 1 + w /\ sl = 4 - w) := by
  by_cases h4 : w = 4
  ·exact ⟨1, 0, .inl ⟨h4, rfl, rfl⟩⟩
  exact ⟨1 + w, 4 - w, .inr ⟨by omega, rfl, rfl⟩⟩
 have CO : Hid (∀ W', Below W1.heap.size W1 W' -> Calls Tryz.prog 130 #[.slice (some ⟨W.heap.size, so, none⟩) sl sl, .func (.func 187) #[] #[]] W' fun e W'' => e = .returned (.bool (!(pt p).fitB w)) /\ W'' = W') := fun W' hb => by
  rcases hso with ⟨rfl, rfl, rfl⟩ | ⟨h4, rfl, rfl⟩
  ·rw [hfx]
   exact zbp W' W.heap.size 1 0 [] (by simp) (by intro j x hx; simp at hx)
  have := zbp W' W.heap.size (1 + w) (4 - w) ((pt p).cs.drop w) (by simp [Pt.cs]) (by
   intro j x hx
   exact At.seen hb (Nat.le_refl _) (hn j x hx))
  rw [zpk, show ((pt p).cs.drop w).length = 4 - w by simp [Pt.cs]] at this
  exact this
 obtain ⟨fb, hfb⟩ : ∃ fb, fb = (pt p).fitB w := ⟨_, rfl⟩
 rw [<- hfb] at CO ⊢
 rw [hc] at HW1 ⊢
 have KK : Hid (∀ m, (W1.drewN m).cell? ⟨sb, 0, none⟩ = some (.slice (some ⟨wg, 0, none⟩) s.ws.length wc) /\ (W1.drewN m).cell? ⟨wg, cc, none⟩ = some (.int .i64 (w : Int)) /\ (W1.drewN m).cell? ⟨W.heap.size, 0, none⟩ = some (.int .i64 (cc : Int)) /\ (W1.drewN m).cell? ⟨0, 0, none⟩ = some (.iface 330 (.pointer (some (Ad 1))))) := fun m =>
  have b := At.zad W1 m
  ⟨At.seen b (Nat.le_refl _) q0, At.seen b (Nat.le_refl _) q1, At.seen b (Nat.le_refl _) d0, At.seen b (Nat.le_refl _) x1⟩
 have hw4 : (w : Int) <= 4 := by omega
 clear h hE hW1 hh hw hwv hwd hc hfx hn hfb
 go_enter Tryz.func170, Tryz.ntmps170
 go_wp2_with fail
 rw [<- HW1.out]
 go_quiet (fail)
 obtain ⟨W2, hW2⟩ : ∃ W2, W2 = W1.drewN nq := ⟨_, rfl⟩
 have b2 : Below W1.heap.size W1 W2 := by rw [hW2]; exact At.zad _ _
 obtain ⟨k0, k1, k2, k3⟩ := KK.out nq
 rw [<- hW2] at k0 k1 k2 k3
 have CO2 : Hid (∀ m, Calls Tryz.prog 130 #[.slice (some ⟨W.heap.size, so, none⟩) sl sl, .func (.func 187) #[] #[]] (W2.drewN m) fun e W'' => e = .returned (.bool (!fb)) /\ W'' = W2.drewN m) := fun m => CO.out _ (b2.trans ((At.zad W2 m).mono b2.size))
 have AC2 : Hid (∀ str m, Calls Tryz.prog 38 #[.string str, .iface 330 (.pointer (some (Ad 1)))] (W2.drewN m) fun e w' => ∃ t q, e = .returned (.iface t q) /\ Err Ad w' (.iface t q) 1 1 /\ Below W.heap.size W w') := fun str m =>
  (zep Ad str _ 1 0 (W2.drewN m) (zck Ad _ 1 (by decide))).mono fun e w' ⟨t, q, q1, q2, q3⟩ => by
   have b3 : Below W.heap.size W (W2.drewN m) := BA.out.trans ((b2.trans ((At.zad W2 m).mono b2.size)).mono BA.out.size)
   exact ⟨t, q, q1, q2, b3.trans (q3.mono b3.size)⟩
 have B3 : Hid (∀ m, Below W.heap.size W (W2.drewN m)) := fun m => BA.out.trans ((b2.trans ((At.zad W2 m).mono b2.size)).mono BA.out.size)
 have K3 : Hid (∀ m, (W2.drewN m).cell? ⟨0, 0, none⟩ = some (.iface 330 (.pointer (some (Ad 1))))) := fun m => At.seen (At.zad W2 m) (Nat.le_refl _) k3
 rw [<- hW2]
 clear hW2 b2 KK CO AC q0 q1 d0 x1 BA
 rcases hso with ⟨rfl, rfl, rfl⟩ | ⟨h4, rfl, rfl⟩
 ·go_wp2_with fail
  go_quiet ((go_at_call 130; exact Calls.quiet_of_same (CO2.out _)))
  have k4 := K3.out nq
  cases fb
  ·go_wp2_with fail
   refine (AC2.out _ _).mono ?_
   rintro e w2 ⟨t, q, rfl, hv, hb⟩
   have HV := hid hv
   have HB := hid hb
   clear hv hb
   go_wp2_with fail
   go_ret
   exact ⟨_, rfl, ⟨t, q, rfl, HV.out⟩, HB.out⟩
  go_wp2_with fail
  go_ret
  exact ⟨_, rfl, rfl, B3.out _⟩
 have hn4 : ¬ (4 = w) := by omega
 have hz4 : ¬ (w = 4) := by omega
 go_wp2_with fail
 go_quiet ((go_at_call 130; exact Calls.quiet_of_same (CO2.out _)))
 have k4 := K3.out nq
 cases fb
 ·go_wp2_with fail
  refine (AC2.out _ _).mono ?_
  rintro e w2 ⟨t, q, rfl, hv, hb⟩
  have HV := hid hv
  have HB := hid hb
  clear hv hb
  go_wp2_with fail
  go_ret
  exact ⟨_, rfl, ⟨t, q, rfl, HV.out⟩, HB.out⟩
 go_wp2_with fail
 go_ret
 exact ⟨_, rfl, rfl, B3.out _⟩
end Go.Proofs.YthadfdbkkmmgoaaGreatDoor.So
namespace Go.Proofs.YthadfdbkkmmgoaaGreatDoor
open Go.RowKit Go.Shelf Go.Extern.Stop Go.Stop Go.Extern
structure Sev (Ad : Nat -> Addr) (n₀ : Nat) (W : World) (d b : Nat) (vs : List (Value × (List ByteArray × Nat))) : Prop where
 lay : ∃ g c, b < n₀ /\ g < n₀ /\ W.cell? ⟨b, 0, none⟩ = some (.slice (some ⟨g, 0, none⟩) vs.length c) /\ ∀ (j : Nat) x, vs[j]? = some x -> W.cell? ⟨g, j, none⟩ = some x.1
 two : 2 <= vs.length
 few : vs.length <= 1000
 each : ∀ x ∈ vs, Chn Ad n₀ W d x.1 x.2
def Top (Ad : Nat -> Addr) (n₀ : Nat) (W : World) (d : Nat) (v : Value) (ls : List (List ByteArray × Nat)) : Prop :=
 (v = .nilIface /\ ls = []) \/ (∃ p, ls = [p] /\ Chn Ad n₀ W d v p) \/ ∃ b vs, v = .iface 235 (.pointer (some ⟨b, 0, none⟩)) /\ ls = vs.map Prod.snd /\ Sev Ad n₀ W d b vs
section
variable {Ad : Nat -> Addr} {n₀ : Nat} {W : World} {d : Nat}
theorem Top.empty : Top Ad n₀ W d .nilIface [] := .inl ⟨rfl, rfl⟩
theorem Top.one (v : Value) (p : List ByteArray × Nat) (h : Chn Ad n₀ W d v p) : Top Ad n₀ W d v [p] := .inr (.inl ⟨p, rfl, h⟩)
theorem Top.many (b : Nat) (vs : List (Value × (List ByteArray × Nat))) (h : Sev Ad n₀ W d b vs) : Top Ad n₀ W d (.iface 235 (.pointer (some ⟨b, 0, none⟩))) (vs.map Prod.snd) := .inr (.inr ⟨b, vs, rfl, rfl, h⟩)
theorem Top.ways {motive : ∀ (v : Value) (ls : List (List ByteArray × Nat)), Top Ad n₀ W d v ls -> Prop} (empty : motive .nilIface [] Top.empty) (one : ∀ v p (h : Chn Ad n₀ W d v p), motive v [p] (Top.one v p h))
  (many : ∀ b vs (h : Sev Ad n₀ W d b vs), motive (.iface 235 (.pointer (some ⟨b, 0, none⟩))) (vs.map Prod.snd) (Top.many b vs h)) {v : Value} {ls : List (List ByteArray × Nat)} (h : Top Ad n₀ W d v ls) : motive v ls h := by
 rcases h with ⟨rfl, rfl⟩ | ⟨p, rfl, h⟩ | ⟨b, vs, rfl, rfl, h⟩
 ·exact empty
 ·exact one v p h
 exact many b vs h
end
theorem Chn.one {Ad : Nat -> Addr} {n₀ d : Nat} {W : World} {v : Value} {p : List ByteArray × Nat} (h : Chn Ad n₀ W d v p) : v.oneCell' = true := by
 obtain ⟨t, q, rfl, _⟩ := h.1.shape
 rfl
theorem Top.tr {Ad : Nat -> Addr} {n₀ d : Nat} {W : World} {v : Value} {ls : List (List ByteArray × Nat)} (h : Top Ad n₀ W d v ls) : Tr Ad n₀ W d v ls := by
 cases h using Top.ways with
 | empty => exact .empty d
 | one v p h => exact h.tr
 | many b vs h =>
  obtain ⟨⟨g, c, h1, h2, h3, h4⟩, h5, h6, h7⟩ := h
  have := Tr.many (Ad := Ad) (n₀ := n₀) (W := W) d b g c (vs.map fun x => (x.1, [x.2])) h1 h2 (by simp; omega) (by simpa using h6) (by simpa using h3)
   (fun j x hx => by
    simp only [List.getElem?_map, Option.map_eq_some_iff] at hx
    obtain ⟨y, hy, rfl⟩ := hx
    exact h4 j y hy)
   (fun x hx => by
    obtain ⟨y, hy, rfl⟩ := List.mem_map.1 hx
    exact (h7 y hy).one)
   (fun x hx => by
    obtain ⟨y, hy, rfl⟩ := List.mem_map.1 hx
    exact (h7 y hy).tr)
  have e : ((vs.map fun x => (x.1, [x.2])).map Prod.snd).flatten = vs.map Prod.snd := by
   clear this h3 h4 h5 h6 h7
   induction vs with
   | nil => rfl
   | cons x t ih => simpa using ih
  rw [e] at this
  exact this
end Go.Proofs.YthadfdbkkmmgoaaGreatDoor
namespace Go.Proofs.YthadfdbkkmmgoaaGreatDoor
open Go.RowKit Go.Shelf
theorem zts (v : Value) (xT : TypeId) (w : World) : (Instr.typeAssert (.iface 159 v) xT 235 true).run Tryz.prog w = .ok (.tuple #[.pointer none, .bool false]) w := by kernel_rfl
theorem ycn (t : TypeId) (q : Value) (ht : t = 330 \/ t = 159) (xT : TypeId) (w : World) : (Instr.typeAssert (.iface t q) xT 235 true).run Tryz.prog w = .ok (.tuple #[.pointer none, .bool false]) w := by
 rcases ht with rfl | rfl
 ·exact znx q xT w
 exact zts q xT w
def Errs (B : Nat) (W : World) (v : Value) (us : List Value) : Prop := ∃ a c, v = .slice a us.length c /\ (us = [] \/ ∃ g, g < B /\ a = some ⟨g, 0, none⟩ /\ ∀ (j : Nat) x, us[j]? = some x -> W.cell? ⟨g, j, none⟩ = some x)
theorem Errs.later {B : Nat} {W W' : World} {v : Value} {us : List Value} (h : Errs B W v us) (hb : Below B W W') : Errs B W' v us := by
 obtain ⟨a, c, h1, h2⟩ := h
 refine ⟨a, c, h1, h2.imp id ?_⟩
 rintro ⟨g, h0, h3, h4⟩
 exact ⟨g, h0, h3, fun j x hx => (hb.cell (p := ⟨g, j, none⟩) h0).trans (h4 j x hx)⟩
theorem z4d {W : World} {B : Nat} {v : Value} {us : List Value} (h : W.ownsRow B 31 1 v us.length us) : Errs W.heap.size W v us := by
 obtain ⟨ga, gc, rfl⟩ := zaf h
 refine ⟨ga, gc, rfl, ?_⟩
 by_cases h0 : 0 < us.length
 ·obtain ⟨g, rfl, _, h1⟩ := zdo h h0
  exact .inr ⟨g, h1, rfl, fun j x hx => by rw [h.cellAt j (by have := (List.getElem?_eq_some_iff.1 hx).1; omega)]; exact hx⟩
 exact .inl (List.eq_nil_of_length_eq_zero (by omega))
theorem zmp (w : World) (x : Value) : ∀ (j : Nat) u, [x][j]? = some u -> (w.alloc (.cells #[x] 31)).cell? ⟨w.heap.size, j, none⟩ = some u := by
 intro j u hu
 cases j with
 | zero => simp at hu; subst hu; exact zbz w x 31
 | succ j => simp at hu
def Flt (B : Nat) (W : World) (u : Value) (vs : List Value) : Prop :=
 (u = .nilIface /\ vs = []) \/ (∃ t q, u = .iface t q /\ (t = 330 \/ t = 159) /\ vs = [u]) ∨
 ∃ b ev, u = .iface 235 (.pointer (some ⟨b, 0, none⟩)) /\ b < B /\ W.cell? ⟨b, 0, none⟩ = some ev /\ Errs B W ev vs /\ vs.length <= 1000 /\ ∀ v ∈ vs, ∃ t q, v = .iface t q /\ (t = 330 \/ t = 159)
theorem Flt.later {B : Nat} {W W' : World} {u : Value} {vs : List Value} (h : Flt B W u vs) (hb : Below B W W') : Flt B W' u vs := by
 rcases h with h | h | ⟨b, ev, h1, h2, h3, h4, h5⟩
 ·exact .inl h
 ·exact .inr (.inl h)
 exact .inr (.inr ⟨b, ev, h1, h2, (hb.cell (p := ⟨b, 0, none⟩) h2).trans h3, h4.later hb, h5⟩)
def z5o : Prop := ∀ (fv ev : Value) (xs us : List Value) (B : Nat) (w : World), B <= w.heap.size -> w.ownsRow B 31 1 fv xs.length xs -> Errs B w ev us -> (∀ u ∈ us, ∃ t q, u = .iface t q /\ (t = 330 \/ t = 159)) -> xs.length + us.length <= 3000 →
  Calls Tryz.prog 132 #[fv, ev] w fun e w' => ∃ v', e = .returned v' /\ w'.ownsRow B 31 1 v' (xs ++ us).length (xs ++ us) /\ Below B w w'
theorem yck (v : Value) (xT : TypeId) (w : World) : (Instr.typeAssert (.iface 235 v) xT 235 true).run Tryz.prog w = .ok (.tuple #[v, .bool true]) w := by kernel_rfl
set_option maxRecDepth 100000 in
theorem zny (fv ev : Value) (xs : List Value) (us : List (Value × List Value)) (B : Nat) (w : World) (hB : B <= w.heap.size) (ho : w.ownsRow B 31 1 fv xs.length xs) (he : Errs B w ev (us.map Prod.fst)) (hu : ∀ u ∈ us, Flt B w u.1 u.2) (hx : xs.length + ((us.map Prod.snd).flatten).length <= 3000) (hx2 : us.length <= 3000)
  (hF : (∃ u ∈ us, ∃ b, u.1 = .iface 235 (.pointer (some ⟨b, 0, none⟩))) -> z5o) :
  Calls Tryz.prog 132 #[fv, ev] w fun e w' => ∃ v', e = .returned v' /\ w'.ownsRow B 31 1 v' (xs ++ (us.map Prod.snd).flatten).length (xs ++ (us.map Prod.snd).flatten) /\ Below B w w' := by
 obtain ⟨fa, fc, rfl⟩ := zaf ho
 have HO := hid ho
 obtain ⟨ea, ec, rfl, -⟩ := id he
 rw [List.length_map] at he ⊢
 have HEr := hid he
 have HU := hid hu
 have HF := hid hF
 have HX := hid hx
 have hui : (us.length : Int) <= 3000 := by omega
 clear ho he hu hF hx
 go_enter Tryz.func132, Tryz.ntmps132
 go_wp2_with fail
 go_loopw [0, 6, 7, 8, 9, 12] (fun f _ _ _ _ i wr => ∃ (k : Nat) (ga : Option Addr) (gc : Nat) (y : List Value), k <= us.length /\ i = .int .i64 k /\ f = .slice ga y.length gc /\ y = xs ++ ((us.take k).map Prod.snd).flatten /\ wr.ownsRow B 31 1 (.slice ga y.length gc) y.length y /\ Below B w wr) (fun _ _ _ _ _ i _ => us.length - (intOf i).toNat)
 case atStart => exact ⟨0, fa, fc, xs, Nat.zero_le _, rfl, rfl, by simp, HO.out, Below.refl _ _⟩
 case round =>
  obtain ⟨k, ga, gc, y, hk, rfl, rfl, hy, ho, hb⟩ := hrel
  have HY := hid hy
  have HOy := hid ho
  have HB := hid hb
  clear hy ho hb HO
  by_cases hlt : k < us.length
  ·obtain ⟨x, hxk⟩ := zal us k hlt
   have HT := hid (zbe hxk)
   have HM := hid (List.mem_of_getElem? hxk)
   obtain ⟨g, hgB, rfl, hcells⟩ : ∃ g, g < B /\ ea = some ⟨g, 0, none⟩ /\ ∀ (j : Nat) z, (us.map Prod.fst)[j]? = some z -> wr.cell? ⟨g, j, none⟩ = some z := by
    obtain ⟨a, c, h1, h2⟩ := HEr.out.later HB.out
    rcases h2 with h2 | ⟨g, h3, h4, h5⟩
    ·rw [List.map_eq_nil_iff] at h2; rw [h2] at hlt; simp at hlt
    simp only [Value.slice.injEq] at h1; rw [h1.1]; exact ⟨g, h3, h4, h5⟩
   have c1 : wr.cell? ⟨g, k, none⟩ = some x.1 := hcells k x.1 (by simp [hxk])
   have hyl : y.length + x.2.length <= 3000 := by
    have h1 := HX.out
    have h2 := (zhi HT.out id (x.2.map id) (List.prefix_refl _)).length_le
    have h3 : y.length = xs.length + (((us.take k).map Prod.snd).flatten).length := by rw [HY.out, List.length_append]
    simp only [List.length_append, List.map_id_fun, id_eq] at h2
    omega
   have HN : Hid (xs ++ ((us.take (k + 1)).map Prod.snd).flatten = y ++ x.2) := by show _ = _; rw [HT.out, HY.out]; simp
   have hsz : B <= wr.heap.size := Nat.le_trans hB HB.out.size
   clear hxk hcells
   rcases (HU.out x HM.out).later HB.out with ⟨hxn, hv⟩ | ⟨t, q, hxe, ht, hv⟩ | ⟨b, sv, hxe, hbB, hcb, her, hvl, hvs⟩
   ·rw [hxn] at c1
    have R : Hid (y = xs ++ ((us.take (k + 1)).map Prod.snd).flatten) := by show _ = _; rw [HN.out, hv]; simp
    go_wp2_with fail
    go_roundw
    case rel => exact ⟨k + 1, ga, gc, y, by omega, by go_num, rfl, R.out, HOy.out, HB.out⟩
    case measure => simp [intOf]; omega
   ·rw [hxe] at c1
    have nS := ycn t q ht
    have R : Hid (y ++ [.iface t q] = xs ++ ((us.take (k + 1)).map Prod.snd).flatten) := by show _ = _; rw [HN.out, hv, hxe]
    have hy1 : y.length + 1 <= 5000 := by rw [hv] at hyl; simp at hyl; omega
    clear ht hv hxe
    go_wp2_with (at_builtin; refine ziq _ rfl (.tmp 17) (.tmp 19) rfl B _ y rfl ?_ wr.heap.size 1 [.iface t q] rfl ?_ ?_ ?_ ?_ ?_; exact HOy.out.alloc _; exact zmp wr _; intro u hu; simp at hu; subst hu; rfl; exact hy1; exact Nat.le_trans hsz (by simp); intro g1 c2 y1 w2 h2 o2 b2)
    go_roundw
    case rel => exact ⟨k + 1, g1, c2, y1, by omega, by go_num, rfl, by rw [h2.out, R.out], o2.out, (HB.out.alloc hsz _).trans b2.out⟩
    case measure => simp [intOf]; omega
   rw [hxe] at c1
   have yS := yck
   have R : Hid (y ++ x.2 = xs ++ ((us.take (k + 1)).map Prod.snd).flatten) := HN.out.symm
   have C := hid (HF.out ⟨x, HM.out, b, hxe⟩ (.slice ga y.length gc) sv y x.2 B wr hsz HOy.out her hvs hyl)
   clear her hvs hxe
   go_wp2_with fail
   refine C.out.mono ?_
   rintro e w2 ⟨v2, rfl, o2, b2⟩
   obtain ⟨g2, c2, rfl⟩ := zaf o2
   have O2 := hid o2
   have B2 := hid (HB.out.trans b2)
   clear o2 b2
   generalize hyx : y ++ x.2 = yx at *
   go_wp2_with fail
   go_roundw
   case rel => exact ⟨k + 1, g2, c2, yx, by omega, by go_num, rfl, R.out, O2.out, B2.out⟩
   case measure => simp [intOf]; omega
  have e : Hid (y = xs ++ (us.map Prod.snd).flatten) := by show _ = _; rw [HY.out, List.take_of_length_le (by omega)]
  go_wp2_with fail
  go_ret
  have h := HOy.out
  exact ⟨_, rfl, by rw [<- e.out]; exact h, HB.out⟩
theorem zqu : ∀ us : List Value, ((us.map fun u => (u, [u])).map Prod.snd).flatten = us
 | [] => rfl
 | u :: us => by simpa using zqu us
theorem z5c : ∀ us : List Value, (us.map fun u => (u, [u])).map Prod.fst = us
 | [] => rfl
 | u :: us => by simpa using z5c us
theorem zvn : z5o := by
 intro fv ev xs us B w hB ho he hu hx
 have h := zny fv ev xs (us.map fun u => (u, [u])) B w hB ho (by rw [z5c us]; exact he) (fun u hu' => by
  obtain ⟨v, hv, rfl⟩ := List.mem_map.1 hu'
  obtain ⟨t, q, e, ht⟩ := hu v hv
  exact .inr (.inl ⟨t, q, e, ht, rfl⟩)) (by
   have : ((us.map fun u => (u, [u])).map Prod.snd).flatten = us := zqu us
   rw [this]; exact hx) (by simp; omega) (by
  rintro ⟨u, hu', b, hb⟩
  obtain ⟨v, hv, rfl⟩ := List.mem_map.1 hu'
  obtain ⟨t, q, e, ht⟩ := hu v hv
  simp only at hb
  rw [e] at hb
  cases hb
  rcases ht with h | h <;> cases h)
 rw [show ((us.map fun u => (u, [u])).map Prod.snd).flatten = us from zqu us] at h
 exact h
theorem z8v {Ad : Nat -> Addr} {B d : Nat} {W : World} {u : Value} {ls : List (List ByteArray × Nat)} (h : Top Ad B W d u ls) : ∃ vs : List (Value × (List ByteArray × Nat)), Flt B W u (vs.map Prod.fst) /\ ls = vs.map Prod.snd /\ ∀ x ∈ vs, Chn Ad B W d x.1 x.2 := by
 cases h using Top.ways with
 | empty => exact ⟨[], .inl ⟨rfl, rfl⟩, rfl, by simp⟩
 | one v p h =>
  obtain ⟨t, q, e, ht⟩ := h.1.shape
  exact ⟨[(u, p)], .inr (.inl ⟨t, q, e, ht, rfl⟩), rfl, by simpa using h⟩
 | many b vs h =>
  obtain ⟨⟨g, c, h1, h2, h3, h4⟩, h5, h6, h7⟩ := h
  refine ⟨vs, .inr (.inr ⟨b, _, rfl, h1, h3, ⟨_, c, by simp, .inr ⟨g, h2, rfl, fun j x hx => ?_⟩⟩, by simpa using h6, fun v hv => ?_⟩), rfl, h7⟩
  ·simp only [List.getElem?_map, Option.map_eq_some_iff] at hx
   obtain ⟨y, hy, rfl⟩ := hx
   exact h4 j y hy
  obtain ⟨y, hy, rfl⟩ := List.mem_map.1 hv
  exact (h7 y hy).1.shape
theorem zsp {Ad : Nat -> Addr} {B d : Nat} {W : World} : ∀ us : List (Value × List (List ByteArray × Nat)), (∀ u ∈ us, Top Ad B W d u.1 u.2) →
  ∃ zs : List (Value × List (Value × (List ByteArray × Nat))), zs.map Prod.fst = us.map Prod.fst /\ (us.map Prod.snd).flatten = ((zs.map Prod.snd).flatten).map Prod.snd /\ (∀ z ∈ zs, Flt B W z.1 (z.2.map Prod.fst)) /\ ∀ x ∈ (zs.map Prod.snd).flatten, Chn Ad B W d x.1 x.2
 | [], _ => ⟨[], rfl, rfl, by simp, by simp⟩
 | u :: us, h => by
  obtain ⟨vs, h1, h2, h3⟩ := z8v (h u (by simp))
  obtain ⟨zs, e1, e2, e3, e4⟩ := zsp us (fun x hx => h x (by simp [hx]))
  refine ⟨(u.1, vs) :: zs, by simp [e1], by simp [e2, h2], ?_, ?_⟩
  ·intro z hz
   rcases List.mem_cons.1 hz with rfl | hz
   ·exact h1
   exact e3 z hz
  intro x hx
  simp only [List.map_cons, List.flatten_cons, List.mem_append] at hx
  rcases hx with hx | hx
  ·exact h3 x hx
  exact e4 x hx
theorem zms : ∀ zs : List (Value × List (Value × (List ByteArray × Nat))), ((zs.map fun z => (z.1, z.2.map Prod.fst)).map Prod.snd).flatten = ((zs.map Prod.snd).flatten).map Prod.fst
 | [] => rfl
 | z :: zs => by simpa using zms zs
theorem z6u : ∀ zs : List (Value × List (Value × (List ByteArray × Nat))), (zs.map fun z => (z.1, z.2.map Prod.fst)).map Prod.fst = zs.map Prod.fst
 | [] => rfl
 | z :: zs => by simp
set_option maxRecDepth 100000 in
theorem z8f (Ad : Nat -> Addr) (d : Nat) (ev : Value) (us : List (Value × List (List ByteArray × Nat))) (w : World) (he : Errs w.heap.size w ev (us.map Prod.fst)) (hT : ∀ u ∈ us, Top Ad w.heap.size w d u.1 u.2) (hn : us.length <= 1000) (hl : (us.map Prod.snd).flatten.length <= 1000) :
  Calls Tryz.prog 85 #[ev] w fun e w' => ∃ v', e = .returned v' /\ Top Ad w'.heap.size w' d v' (us.map Prod.snd).flatten /\ Below w.heap.size w w' := by
 obtain ⟨zs, e1, e2, e3, e4⟩ := zsp us hT
 have hzl : zs.length = us.length := by have := congrArg List.length e1; simpa using this
 rw [e2] at hl ⊢
 have FC := zny (.slice none 0 0) ev [] (zs.map fun z => (z.1, z.2.map Prod.fst)) w.heap.size w (Nat.le_refl _) (World.ownsRow_nil _ _ _ _) (by rw [z6u, e1]; exact he)
  (fun u hu => by obtain ⟨z, hz, rfl⟩ := List.mem_map.1 hu; exact e3 z hz) (by rw [zms, List.length_map]; rw [List.length_map] at hl; simp only [List.length_nil]; omega) (by simp; omega) (fun _ => zvn)
 rw [zms, List.nil_append] at FC
 have HF := hid FC
 have H4 := hid e4
 obtain ⟨ts, hts⟩ : ∃ ts, ts = (zs.map Prod.snd).flatten := ⟨_, rfl⟩
 rw [<- hts] at HF H4 hl ⊢
 rw [List.length_map] at hl
 clear FC e1 e2 e3 e4 hts hT he hzl hn
 rcases ts with _ | ⟨x, _ | ⟨y, r⟩⟩
 ·go_enter Tryz.func85, Tryz.ntmps85
  go_wp2_with fail
  refine HF.out.mono ?_
  rintro e w1 ⟨v1, rfl, ho, hb⟩
  rw [List.length_map] at ho
  obtain ⟨ga, gc, rfl⟩ := zaf ho
  have O1 := hid ho
  have B1 := hid hb
  have C1 := hid (fun x hx => (H4.out x hx).move hb hb.size)
  clear ho hb HF H4
  go_wp2_with fail
  go_ret
  exact ⟨_, rfl, .empty, B1.out⟩
 ·go_enter Tryz.func85, Tryz.ntmps85
  go_wp2_with fail
  refine HF.out.mono ?_
  rintro e w1 ⟨v1, rfl, ho, hb⟩
  rw [List.length_map] at ho
  obtain ⟨ga, gc, rfl⟩ := zaf ho
  have O1 := hid ho
  have B1 := hid hb
  have C1 := hid (fun x hx => (H4.out x hx).move hb hb.size)
  clear ho hb HF H4
  obtain ⟨g, rfl, hg⟩ := zdo O1.out (by simp)
  have c1 : w1.cell? ⟨g, 0, none⟩ = some x.1 := by rw [O1.out.cellAt 0 (by simp)]; rfl
  go_wp2_with fail
  go_ret
  exact ⟨_, rfl, .one _ x.2 (C1.out x (by simp)), B1.out⟩
 obtain ⟨ts, hts⟩ : ∃ ts, ts = x :: y :: r := ⟨_, rfl⟩
 have h2 : 2 <= ts.length := by rw [hts]; simp
 rw [<- hts] at HF H4 hl ⊢
 clear hts
 have hli : (ts.length : Int) <= 1000 := by omega
 have h2i : (2 : Int) <= ts.length := by omega
 have z0 : ((ts.length : Int) == 0) = false := beq_eq_false_iff_ne.2 (by omega)
 have z1 : ((ts.length : Int) == 1) = false := beq_eq_false_iff_ne.2 (by omega)
 go_enter Tryz.func85, Tryz.ntmps85
 go_wp2_with fail
 refine HF.out.mono ?_
 rintro e w1 ⟨v1, rfl, ho, hb⟩
 rw [List.length_map] at ho
 obtain ⟨ga, gc, rfl⟩ := zaf ho
 have O1 := hid ho
 have B1 := hid hb
 have C1 := hid (fun x hx => (H4.out x hx).move hb hb.size)
 clear ho hb HF H4
 obtain ⟨g, rfl, hg⟩ := zdo O1.out (by omega)
 have BA := hid (show Below w1.heap.size w1 (w1.alloc (.cells #[.slice (some ⟨g, 0, none⟩) ts.length gc] 237)) from (Below.refl _ _).alloc (Nat.le_refl _) _)
 have R : Hid (Top Ad (w1.alloc (.cells #[.slice (some ⟨g, 0, none⟩) ts.length gc] 237)).heap.size (w1.alloc (.cells #[.slice (some ⟨g, 0, none⟩) ts.length gc] 237)) d (.iface 235 (.pointer (some ⟨w1.heap.size, 0, none⟩))) (ts.map Prod.snd)) := by
  refine .many w1.heap.size ts ⟨⟨g, gc, by simp, by simp; omega, zbz w1 _ _, fun j x hx => ?_⟩, h2, by omega, fun x hx => (C1.out x hx).move BA.out BA.out.size⟩
  have hj := (List.getElem?_eq_some_iff.1 hx).1
  rw [BA.out.cell (p := ⟨g, j, none⟩) hg.2, O1.out.cellAt j (by omega)]
  simp [hx]
 go_wp2_with fail
 go_ret
 exact ⟨_, rfl, R.out, B1.out.trans (BA.out.mono B1.out.size)⟩
attribute [local go_sem] Oper.semAt_some
theorem Turn.frozen {P : Obj -> Prop} {B : Nat} {w w' : World} (h : Turn P B w w') {p : Addr} {x : Value} (hc : w.cell? p = some x) (hp : p.block < B) : w'.frozen? p = w.frozen? p := by
 have hlt := World.block_lt_of_cell? w p hc
 have hb := h.block p.block _ (Array.getElem?_eq_getElem hlt) (.inl hp)
 exact World.frozen?_of_block (w := w) (hb.trans (Array.getElem?_eq_getElem hlt).symm)
theorem z3b (w : World) (x : Value) (e : TypeId) : (w.alloc (.cells #[x] e)).frozen? ⟨w.heap.size, 0, none⟩ = false := by
 have h := heap_alloc_new w (.cells #[x] e)
 unfold World.frozen?; rw [show (⟨w.heap.size, 0, none⟩ : Addr).block = w.heap.size from rfl, h]; rfl
def HasI (At : Nat -> Addr) (n₀ : Nat) (w : World) (r t : Nat) (a : Addr) (s : List Lf) (W : World) : Prop :=
 ((∀ x ∈ s, At x.k ≠ a) /\ W.cell? ⟨r, 0, none⟩ = some (.bool false) /\ W.frozen? ⟨r, 0, none⟩ = false /\ W.cell? ⟨t, 0, none⟩ = some (.iface 330 (.pointer (some a)))) /\ Below n₀ w W
def HasX (At : Nat -> Addr) (n₀ : Nat) (w : World) (r : Nat) (a : Addr) (c : Code) (s : List Lf) (W : World) : Prop :=
 (c = .ret /\ (∃ x ∈ s, At x.k = a) /\ W.cell? ⟨r, 0, none⟩ = some (.bool true)) /\ Below n₀ w W
theorem HasI.turn {At : Nat -> Addr} {n₀ : Nat} {w : World} {r t B : Nat} {a : Addr} {P : Obj -> Prop} (hr : r < B) (ht : t < B) (hw : n₀ <= B) (h0 : n₀ <= w.heap.size) (s : List Lf) (A A' : World) (h : HasI At n₀ w r t a s A) (h1 : Turn P B A A') : HasI At n₀ w r t a s A' := by
 obtain ⟨⟨h2, h3, h4, h5⟩, h6⟩ := h
 exact ⟨⟨h2, h1.cell h3 hr, (h1.frozen h3 hr).trans h4, h1.cell h5 ht⟩, h6.trans ((h1.mono (fun _ h => h) hw).below (Nat.le_trans h0 h6.size))⟩
theorem HasX.turn {At : Nat -> Addr} {n₀ : Nat} {w : World} {r B : Nat} {a : Addr} {P : Obj -> Prop} (hr : r < B) (hw : n₀ <= B) (h0 : n₀ <= w.heap.size) (c : Code) (s : List Lf) (A A' : World) (h : HasX At n₀ w r a c s A) (h1 : Turn P B A A') : HasX At n₀ w r a c s A' := by
 obtain ⟨⟨h2, h3, h4⟩, h6⟩ := h
 exact ⟨⟨h2, h3, h1.cell h4 hr⟩, h6.trans ((h1.mono (fun _ h => h) hw).below (Nat.le_trans h0 h6.size))⟩
theorem z2j (o : Obj) (h : Odd o) : ¬ zsg o := by
 rintro ⟨cur, rfl | rfl⟩ <;> cases h
set_option maxRecDepth 100000 in
theorem z5p (Ad At : Nat -> Addr) (v : Value) (ls : List (List ByteArray × Nat)) (d : Nat) (w : World) (hE : Env w Ad) (hAt : ∀ j, 1 <= j -> j <= 18 -> SenK w (At j)) (hT : Tr At w.heap.size w d v ls) (hd : d <= 1000) (k : Nat) (hk : k < 18) :
  Calls Tryz.prog 51 #[v, .int .i64 ((k : Int) + 1)] w fun e w' => e = .returned (.bool (decide (∃ p ∈ ls, At p.2 = Ad (k + 1)))) /\ Below w.heap.size w w' := by
 have HAT := hid hAt
 clear hAt
 have HV := hid hT.isIface
 have HT := hid hT
 have HE := hid hE
 have b1 : Below w.heap.size w (w.alloc (.cells #[.bool false] 4)) := (Below.refl _ _).alloc (Nat.le_refl _) _
 have E1 := hid (hE.later b1)
 have BB := hid b1
 clear hT hE b1
 refine callsIn_wide (n := 5) |>.1 ?_
 refine callsIn_of_wp_marks Tryz.func51 rfl trivial ?_ rfl
 simp only [Tryz.ntmps51, List.size_toArray, List.length_cons, List.length_nil, Nat.reduceAdd, Nat.reduceSub, Array.replicate_succ, Array.replicate_zero, List.push_toArray, List.append_toArray, List.nil_append, List.cons_append]
 gi_wp2_with fail
 refine ⟨trivial, ?_⟩
 refine (callsIn_wide.2 (z6k _ Ad E1.out k hk)).mono ?_
 rintro e w2 ⟨rfl, hb2⟩
 have B2 := hid (show Below (w.heap.size + 1) (w.alloc (.cells #[.bool false] 4)) w2 by simpa using hb2)
 clear hb2
 gi_wp2_with fail
 refine ⟨trivial, ?_⟩
 refine (callsIn_wide.2 (zxp v HV.out _)).mono ?_
 rintro e w' ⟨rfl, rfl⟩
 gi_wp2_with fail
 obtain ⟨wl, hwl⟩ : ∃ wl, wl = (w2.alloc (.cells #[.iface 330 (.pointer (some (Ad (k + 1))))] 31)).alloc (.cells #[v] 31) := ⟨_, rfl⟩
 rw [<- hwl]
 have hs2 : w.heap.size + 1 <= w2.heap.size := by have := B2.out.size; simpa using this
 have hsz : wl.heap.size = w2.heap.size + 1 + 1 := by rw [hwl]; simp
 have hl2 : Below w2.heap.size w2 wl := by rw [hwl]; exact ((Below.refl _ _).alloc (Nat.le_refl _) _).alloc (by simp) _
 have hb0 : Below w.heap.size w wl := (BB.out.trans (B2.out.mono (by omega))).trans (hl2.mono (by omega))
 have c0 : wl.cell? ⟨w.heap.size, 0, none⟩ = some (.bool false) := (hl2.cell (p := ⟨w.heap.size, 0, none⟩) (by show w.heap.size < _; omega)).trans ((B2.out.cell (p := ⟨w.heap.size, 0, none⟩) (by show w.heap.size < _; omega)).trans (zbz w _ _))
 have f0 : wl.frozen? ⟨w.heap.size, 0, none⟩ = false := (hl2.frozen (p := ⟨w.heap.size, 0, none⟩) (by show w.heap.size < _; omega)).trans ((B2.out.frozen (p := ⟨w.heap.size, 0, none⟩) (by show w.heap.size < _; omega)).trans (z3b w _ _))
 have c1 : wl.cell? ⟨w2.heap.size, 0, none⟩ = some (.iface 330 (.pointer (some (Ad (k + 1))))) := by
  rw [hwl]
  exact (((Below.refl (w2.heap.size + 1) _).alloc (by simp) _).cell (p := ⟨w2.heap.size, 0, none⟩) (by show w2.heap.size < _; omega)).trans (zbz w2 _ _)
 have c2 : wl.cell? ⟨w2.heap.size + 1, 0, none⟩ = some v := by
  rw [hwl]
  have := zbz (w2.alloc (.cells #[.iface 330 (.pointer (some (Ad (k + 1))))] 31)) v 31
  rw [World.size_alloc] at this
  exact this
 refine zwf (P := Tryz.prog) rfl (by decide) (gf := 135) (lb := #[.pointer (some ⟨w2.heap.size + 1, 0, none⟩)]) rfl trivial (enters_of Tryz.func135 (by kernel_rfl) rfl)
  (encs At) (fun _ => rfl) isRow zpg (Handed wl.heap.size ls) (HasI At w.heap.size wl w.heap.size w2.heap.size (Ad (k + 1))) (HasX At w.heap.size wl w.heap.size (Ad (k + 1))) (Kp w.heap.size)
  (fun xs => xs.map Lf.pair = ls) (fun xs => xs.map Lf.pair <+: ls)
  ?hR (HasI.turn (by omega) (by omega) (by omega) (by omega)) (HasX.turn (by omega) (by omega) (by omega)) ⟨⟨by simp, c0, f0, c1⟩, Below.refl _ _⟩ w.heap.size ?hBi ?hBx ?hKt ?hKb
  (zyp At w.heap.size (w2.heap.size + 1) d w wl v ls _ _ HT.out hd hb0 (by omega) (by omega) c2)
  (fun x => { tmps := #[v, .int .i64 ((k : Int) + 1), undef, undef, .pointer (some ⟨w.heap.size, 0, none⟩), .pointer (some ⟨w2.heap.size, 0, none⟩), undef, .iface 330 (.pointer (some (At x.k))), .int .i64 ((k : Int) + 1), .iface 330 (.pointer (some (Ad (k + 1)))), .iface 330 (.pointer (some (Ad (k + 1)))), .bool false, v, .func (.func 135) #[] #[.pointer (some ⟨w2.heap.size + 1, 0, none⟩)], x.tv, .iface 330 (.pointer (some (At x.k))), undef, undef, undef], defers := [] }) ?assign ?body ?done ?stop
 case hR =>
  rintro s x A B ⟨h1, h2⟩ ht
  exact ⟨zas h1 fun g cur _ hg => ht.block g _ hg (.inr fun h => by cases h), h2⟩
 case hBi => exact fun s A h => h.2
 case hBx => exact fun c s A h => h.2
 case hKt => exact fun h1 h2 => h1.trans h2
 case hKb => exact fun h => h.mono z2j (by omega)
 case assign =>
  intro l x W K hK
  simp only [encs]
  gi_wp2
  exact hK
 case body =>
  rintro l pre x W hl ⟨⟨hp, hc, hf, ht⟩, hB⟩ ⟨htr, hx1, hx2, -⟩
  have hEW := HE.out.later (hb0.trans hB)
  have C := hid (yag (At x.k) (Ad (k + 1)) W ((HAT.out _ hx1 hx2).below (hb0.trans hB) (HAT.out _ hx1 hx2).lt) (hEW.sen _ (by omega) (by omega)))
  have hsW : w.heap.size < W.heap.size := World.block_lt_of_cell? W _ hc
  by_cases he : At x.k = Ad (k + 1)
  ·rw [decide_eq_true he] at C
   have HQ := hid he
   clear he
   gi_wp2_with fail
   refine ⟨trivial, ?_⟩
   refine (CallsIn.inRound l (callsIn_wide.2 C.out)).mono ?_
   rintro e w' ⟨rfl, rfl⟩
   gi_wp2_with fail
   have cs : (W.setCell ⟨w.heap.size, 0, none⟩ (.bool true)).cell? ⟨w.heap.size, 0, none⟩ = some (.bool true) := World.cell?_setCell_same' _ _ _ (by rw [hc]; rfl)
   exact ⟨(KeepsOthers.setCell _ _ _).trans (KeepsOthers.alloc _ _), ⟨rfl, ⟨x, by simp, HQ.out⟩, (((Below.refl (w.heap.size + 1) _).alloc (by simp; omega) _).cell (p := ⟨w.heap.size, 0, none⟩) (by show w.heap.size < _; omega)).trans cs⟩, (hB.setCell (p := ⟨w.heap.size, 0, none⟩) (Nat.le_refl _) _).alloc (by simp; omega) _⟩
  rw [decide_eq_false he] at C
  have bb : Below W.heap.size W (W.alloc (.cells #[.bool false] 4)) := (Below.refl _ _).alloc (Nat.le_refl _) _
  gi_wp2_with fail
  refine ⟨trivial, ?_⟩
  refine (CallsIn.inRound l (callsIn_wide.2 C.out)).mono ?_
  rintro e w' ⟨rfl, rfl⟩
  gi_wp2_with fail
  refine ⟨KeepsOthers.alloc _ _, Turn.alloc _ _ _ _, ⟨fun y hy => (List.mem_append.1 hy).elim (hp y) (fun e => by simp at e; subst e; exact he), (bb.cell (p := ⟨w.heap.size, 0, none⟩) hsW).trans hc, (bb.frozen (p := ⟨w.heap.size, 0, none⟩) hsW).trans hf, (bb.cell (p := ⟨w2.heap.size, 0, none⟩) (World.block_lt_of_cell? W _ ht)).trans ht⟩, hB.alloc (by omega) _⟩
 case done =>
  rintro D ys W hD hS ⟨⟨hne, hc, hf, _⟩, hB⟩ hK
  have hdec : decide (∃ p ∈ ls, At p.2 = Ad (k + 1)) = false := by
   simp only [decide_eq_false_iff_not]
   rw [<- hS]
   rintro ⟨p, hp, e⟩
   obtain ⟨x, hx, rfl⟩ := List.mem_map.1 hp
   exact hne x hx e
  gi_wp2
  have hK' := (KeepsOthers.setCell W ⟨w.heap.size, 0, none⟩ (.bool false)).same D _ hK rfl
  refine ⟨by simp, .inl ⟨_, _, rfl, run_takeDeferred hK', ?_⟩⟩
  have hc5 := cell_kept (World.cell?_setCell_same' W ⟨w.heap.size, 0, none⟩ (.bool false) (by rw [hc]; rfl)) (grownBy_putObj' _ D (.deferred none)) (fun r e => by cases e; exact ⟨_, hK', rfl⟩)
  refine ⟨.bool false, ?_, by rw [hdec], (hb0.trans (hB.setCell (p := ⟨w.heap.size, 0, none⟩) (Nat.le_refl _) _)).trans ((Turn.put (P := Odd) _ (show w.heap.size <= D by omega) hK' rfl).below (Nat.le_trans hb0.size (Nat.le_trans hB.size (by simp))))⟩
  simp [results, Tryz.f51, go_sem, hc5]
 case stop =>
  rintro D c pre W hD hS ⟨⟨rfl, ⟨x, hx, he⟩, hc⟩, hB⟩ hK
  have hdec : decide (∃ p ∈ ls, At p.2 = Ad (k + 1)) = true := by
   simp only [decide_eq_true_eq]
   exact ⟨x.pair, hS.subset (List.mem_map.2 ⟨x, hx, rfl⟩), he⟩
  gi_wp2
  refine ⟨by simp, .inl ⟨_, _, rfl, run_takeDeferred hK, ?_⟩⟩
  have hc5 := cell_kept hc (grownBy_putObj' _ D (.deferred none)) (fun r e => by cases e; exact ⟨_, hK, rfl⟩)
  refine ⟨.bool true, ?_, by rw [hdec], (hb0.trans hB).trans ((Turn.put (P := Odd) _ (show w.heap.size <= D by omega) hK rfl).below (Nat.le_trans hb0.size hB.size))⟩
  simp [results, Tryz.f51, go_sem, hc5]
theorem Tr.range {Ad : Nat -> Addr} {n₀ : Nat} {W : World} {d : Nat} {v : Value} {ls : List (List ByteArray × Nat)} (h : Tr Ad n₀ W d v ls) : ∀ p ∈ ls, 1 <= p.2 /\ p.2 <= 18 := by
 induction h using Tr.ind with
 | empty d => simp
 | leaf d k hk => simpa using hk
 | zlq d b s inner ls hbn c0 c1 hi ih =>
  intro p hp
  obtain ⟨q, hq, rfl⟩ := List.mem_map.1 hp
  exact ih q hq
 | many d b g c vs hbn hgn h0 hn cb cg one hi ih =>
  intro p hp
  obtain ⟨l, hl, hp⟩ := List.mem_flatten.1 hp
  obtain ⟨x, hx, rfl⟩ := List.mem_map.1 hl
  exact ih x hx p hp
theorem z7s (Ad : Nat -> Addr) (v : Value) (ls : List (List ByteArray × Nat)) (d : Nat) (w : World) (hE : Env w Ad) (hT : Tr Ad w.heap.size w d v ls) (hd : d <= 1000) (k : Nat) (hk : k < 18) :
  Calls Tryz.prog 51 #[v, .int .i64 ((k : Int) + 1)] w fun e w' => e = .returned (.bool (decide (k + 1 ∈ ls.map Prod.snd))) /\ Below w.heap.size w w' := by
 have h := z5p Ad Ad v ls d w hE hE.sen hT hd k hk
 have e : decide (∃ p ∈ ls, Ad p.2 = Ad (k + 1)) = decide (k + 1 ∈ ls.map Prod.snd) := by
  apply decide_eq_decide.2
  constructor
  ·rintro ⟨p, hp, hq⟩
   have hr := hT.range p hp
   exact List.mem_map.2 ⟨p, hp, hE.inj _ _ hr.1 hr.2 (by omega) (by omega) hq⟩
  intro hm
  obtain ⟨p, hp, hq⟩ := List.mem_map.1 hm
  exact ⟨p, hp, by rw [hq]⟩
 rw [e] at h
 exact h
def zfm (ns : List Nat) : Nat -> Nat -> Nat
 | 0, k => k
 | f + 1, k => if k + 1 ∈ ns then k else zfm ns f (k + 1)
def numOf (ns : List Nat) : Int := if zfm ns 18 0 < 18 then (zfm ns 18 0 : Int) + 1 else -1
theorem zpw {ns : List Nat} {k : Nat} (hk : k < 18) : zfm ns (18 - k) k = if k + 1 ∈ ns then k else zfm ns (18 - (k + 1)) (k + 1) := by
 rw [show 18 - k = (18 - (k + 1)) + 1 by omega]; rfl
set_option maxRecDepth 100000 in
theorem zpz (Ad : Nat -> Addr) (v : Value) (ls : List (List ByteArray × Nat)) (d : Nat) (w : World) (hE : Env w Ad) (hT : Tr Ad w.heap.size w d v ls) (hd : d <= 1000) (hv : ∃ t p, v = .iface t p) :
  Calls Tryz.prog 14 #[v] w fun e w' => e = .returned (.int .i64 (numOf (ls.map Prod.snd))) /\ Below w.heap.size w w' := by
 obtain ⟨t, p, rfl⟩ := hv
 have HE := hid hE
 have HT := hid hT
 clear hE hT
 go_enter Tryz.func14, Tryz.ntmps14
 go_wp2_with fail
 go_loopw [3] (fun i wr => ∃ k : Nat, k <= 18 /\ i = .int .i64 ((k : Int) + 1) /\ zfm (ls.map Prod.snd) 18 0 = zfm (ls.map Prod.snd) (18 - k) k /\ Below w.heap.size w wr) (fun i _ => 20 - (intOf i).toNat)
 case atStart => exact ⟨0, by omega, rfl, rfl, Below.refl _ _⟩
 case round =>
  obtain ⟨k, hk, rfl, hf, hb⟩ := hrel
  have HF := hid hf
  have HB := hid hb
  clear hf hb
  by_cases hlt : k < 18
  ·have hki : (k : Int) < 18 := by omega
   have C := hid (z7s Ad (.iface t p) ls d wr (HE.out.later HB.out) (Tr.later HT.out HB.out) hd k hlt)
   have ST := hid (zpw (ns := ls.map Prod.snd) hlt)
   by_cases hm : k + 1 ∈ ls.map Prod.snd
   ·rw [decide_eq_true hm] at C
    have R : Hid (numOf (ls.map Prod.snd) = (k : Int) + 1) := by
     show numOf _ = _
     unfold numOf
     rw [HF.out, ST.out, if_pos hm, if_pos hlt]
    clear hm ST
    go_wp2_with fail
    refine C.out.mono ?_
    rintro e w3 ⟨rfl, hb3⟩
    have B3 := hid (HB.out.trans (hb3.mono HB.out.size))
    clear hb3
    go_wp2_with fail
    go_ret
    exact ⟨by rw [R.out]; rfl, B3.out⟩
   rw [decide_eq_false hm] at C
   have R : Hid (zfm (ls.map Prod.snd) 18 0 = zfm (ls.map Prod.snd) (18 - (k + 1)) (k + 1)) := by
    show zfm _ _ _ = _
    rw [HF.out, ST.out, if_neg hm]
   clear hm ST
   go_wp2_with fail
   refine C.out.mono ?_
   rintro e w3 ⟨rfl, hb3⟩
   have B3 := hid (HB.out.trans (hb3.mono HB.out.size))
   clear hb3
   go_wp2_with fail
   go_roundw
   case rel => exact ⟨k + 1, by omega, by congr 1, R.out, B3.out⟩
   case measure => simp [intOf]; omega
  have hki : ¬ (k : Int) < 18 := by omega
  have R : Hid (numOf (ls.map Prod.snd) = -1) := by
   show numOf _ = _
   unfold numOf
   rw [HF.out, show 18 - k = 0 by omega]
   show (if k < 18 then (k : Int) + 1 else -1) = -1
   rw [if_neg hlt]
  go_wp2_with fail
  go_ret
  exact ⟨by rw [R.out]; rfl, HB.out⟩
theorem zuy (w : World) : Calls Tryz.prog 14 #[.nilIface] w fun e w' => e = .returned (.int .i64 0) /\ w' = w := by
 go_enter Tryz.func14, Tryz.ntmps14
 go_wp2
 go_ret
 exact ⟨rfl, rfl⟩
end Go.Proofs.YthadfdbkkmmgoaaGreatDoor
namespace Go.Proofs
open Go.Shelf
open Go.RowKit in
open Go.RowKit in
def Tryz.zps : Go.Shelf.Ren := ⟨fun | 171 => 127 | 243 => 158 | 246 => 175 | 283 => 192 | 284 => 193 | 285 => 194 | 286 => 195 | 129 => 186 | 317 => 204 | 318 => 205 | 319 => 206 | 320 => 207 | 337 => 210 | 338 => 211 | n => n, fun | 3 => 3 | 9 => 9 | 2 => 2 | 4 => 4 | 171 => 313 | 0 => 0 | 53 => 309 | 37 => 277 | 5 => 5 | 173 => 315 | 212 => 324 | 51 => 45 | 20 => 20 | 213 => 325 | 46 => 39 | 232 => 328 | 233 => 329 | n => n, fun | 17 => 18 | 18 => 19 | 19 => 20 | n => n⟩
theorem Tryz.z6j : Go.Proofs.Lays.n171 Tryz.prog Tryz.zps := {
 mixed := by kernel_rfl
 f129 := Tryz.func186.trans (congrArg some (by kernel_rfl))
 f171 := Tryz.func127.trans (congrArg some (by kernel_rfl))
 f243 := Tryz.func158.trans (congrArg some (by kernel_rfl))
 f246 := Tryz.func175.trans (congrArg some (by kernel_rfl))
 f283 := Tryz.func192.trans (congrArg some (by kernel_rfl))
 f284 := Tryz.func193.trans (congrArg some (by kernel_rfl))
 f285 := Tryz.func194.trans (congrArg some (by kernel_rfl))
 f286 := Tryz.func195.trans (congrArg some (by kernel_rfl))
 f317 := Tryz.func204.trans (congrArg some (by kernel_rfl))
 f318 := Tryz.func205.trans (congrArg some (by kernel_rfl))
 f319 := Tryz.func206.trans (congrArg some (by kernel_rfl))
 f320 := Tryz.func207.trans (congrArg some (by kernel_rfl))
 f337 := Tryz.func210.trans (congrArg some (by kernel_rfl))
 f338 := Tryz.func211.trans (congrArg some (by kernel_rfl))
 t0 := Tryz.underlying0
 a0 := Tryz.isAgg0
 z0 := Tryz.sizeOf0
 v0 := Tryz.zeroValue0
 t2 := Tryz.underlying2
 a2 := Tryz.isAgg2
 z2 := Tryz.sizeOf2
 v2 := Tryz.zeroValue2
 t3 := Tryz.underlying3
 a3 := Tryz.isAgg3
 z3 := Tryz.sizeOf3
 v3 := Tryz.zeroValue3
 t4 := Tryz.underlying4
 a4 := Tryz.isAgg4
 z4 := Tryz.sizeOf4
 v4 := Tryz.zeroValue4
 t5 := Tryz.underlying5
 a5 := Tryz.isAgg5
 z5 := Tryz.sizeOf5
 v5 := Tryz.zeroValue5
 t9 := Tryz.underlying9
 a9 := Tryz.isAgg9
 z9 := Tryz.sizeOf9
 v9 := Tryz.zeroValue9
 t20 := Tryz.underlying20
 a20 := Tryz.isAgg20
 z20 := Tryz.sizeOf20
 v20 := Tryz.zeroValue20
 t37 := Tryz.underlying277
 a37 := Tryz.isAgg277
 z37 := Tryz.sizeOf277
 v37 := Tryz.zeroValue277
 t46 := Tryz.underlying39
 a46 := Tryz.isAgg39
 z46 := Tryz.sizeOf39
 v46 := Tryz.zeroValue39
 t51 := Tryz.underlying45
 a51 := Tryz.isAgg45
 z51 := Tryz.sizeOf45
 v51 := Tryz.zeroValue45
 t53 := Tryz.underlying309
 a53 := Tryz.isAgg309
 z53 := Tryz.sizeOf309
 v53 := Tryz.zeroValue309
 t171 := Tryz.underlying313
 a171 := Tryz.isAgg313
 z171 := Tryz.sizeOf313
 v171 := Tryz.zeroValue313
 t173 := Tryz.underlying315
 a173 := Tryz.isAgg315
 z173 := Tryz.sizeOf315
 v173 := Tryz.zeroValue315
 t212 := Tryz.underlying324
 a212 := Tryz.isAgg324
 z212 := Tryz.sizeOf324
 v212 := Tryz.zeroValue324
 t213 := Tryz.underlying325
 a213 := Tryz.isAgg325
 z213 := Tryz.sizeOf325
 t232 := Tryz.underlying328
 a232 := Tryz.isAgg328
 z232 := Tryz.sizeOf328
 v232 := Tryz.zeroValue328
 t233 := Tryz.underlying329
 a233 := Tryz.isAgg329
 z233 := Tryz.sizeOf329
 v233 := Tryz.zeroValue329
 g17 := by kernel_rfl
 g18 := by kernel_rfl
 g19 := by kernel_rfl }
open Go.RowKit Go.Sort Go.Lib in
theorem Tryz.strconv_Itoa_small (i : Nat) (hi : i < 100) (w : World) :
  Calls Tryz.prog 127 #[.int .i64 i] w fun e w' => e = .returned (.string ⟨(Lib.decDigits i).toArray⟩) /\ w' = w := Any.strconv_Itoa_small Tryz.z6j i hi w
end Go.Proofs
namespace Go.Proofs.YthadfdbkkmmgoaaGreatDoor
open Go.RowKit Go.Shelf
attribute [local go_sem] Oper.semAt_some
def zef (ws : List ByteArray) : ByteArray := ⟨(Lib.join (ws.map (·.data.toList)) [47]).toArray⟩
def zds (ls : List (List ByteArray × Nat)) : List Value := ls.flatMap fun p => [.string (zef p.1), .int .i64 (p.2 : Int)]
theorem zxw : ∀ k, k < 18 -> numOf [k + 1] = (k : Int) + 1 := by decide
end Go.Proofs.YthadfdbkkmmgoaaGreatDoor
namespace Go.Proofs.YthadfdbkkmmgoaaGreatDoor.Sc
open Go.RowKit Go.Shelf
theorem zhx (w : World) {ops : Array Oper} {rest : List Oper} {o : Oper} {a : Act} {Q : Exit -> Act -> World -> Prop} (hgd : o.guard = none) (s x : Operand)
  (ho : o.op = .call { callee := .builtin .append, args := #[s, x], argTypes := #[154, 154] })
  (base : Nat) (v : Value) (xs : List Value) (hs : a.eval s = v) (hown : w.ownsRow base 31 1 v xs.length xs)
  (g c : Nat) (l : List Value) (hx : a.eval x = .slice (some ⟨g, 0, none⟩) l.length c) (hrow : ∀ (j : Nat) u, l[j]? = some u -> w.cell? ⟨g, j, none⟩ = some u) (h1 : ∀ u ∈ l, u.oneCell' = true) (hlen : xs.length + l.length <= 5000) (hbase : base <= w.heap.size)
  (h : ∀ ga gc (y : List Value) w', Hid (y = xs ++ l) -> Hid (w'.ownsRow base 31 1 (.slice ga y.length gc) y.length y) -> Hid (w.grownBy w' v.ownBlock) -> Hid (Below base w w') -> wpList Tryz.prog ops Q rest (a.put o.dst (.slice ga y.length gc)) w') :
  wpList Tryz.prog ops Q (o :: rest) a w := by
 obtain ⟨i0, hi, hz0, hz1, hz2⟩ := info_parts Tryz.zqi
 refine wpList_append_own_at w hgd s x 154 ho base 31 i0 .nilIface 1 16 Tryz.underlying154 hi hz0 hz1 hz2 rfl (by decide) v xs.length xs hs hown ⟨g, 0, none⟩ l.length c l hx (by simp) (fun j u hu => by rw [zbx]; exact hrow j u hu) h1 (by simp [maxLen]; omega) (by omega) hbase ?_
 intro v' w' hown' hgrow _ _
 have e : xs.length + l.length = (xs ++ l).length := by simp
 rw [e] at hown'
 obtain ⟨ga, gc, rfl⟩ := zaf hown'
 exact h ga gc (xs ++ l) w' rfl hown' hgrow ((Below.refl _ _).grown hgrow hbase (fun k hk => zcn hown hk))
def zhz (w : World) (g : Nat) : Prop := ∀ s, w.cell? ⟨g, 0, none⟩ ≠ some (.string s)
theorem _root_.Go.Proofs.YthadfdbkkmmgoaaGreatDoor.Ch.grown {Ad : Nat -> Addr} {n₀ k g : Nat} {W W' : World} (hg : W.grownBy W' (some g)) (hn : n₀ <= W.heap.size) (hr : zhz W g) : ∀ {us : List ByteArray} {v : Value}, Ch Ad n₀ W k us v -> Ch Ad n₀ W' k us v
 | [], _, h => h
 | s :: us, _, ⟨b, inner, hv, hb, c0, c1, hi⟩ => by
  have hne : b ≠ g := fun e => hr s (by rw [<- e]; exact c0)
  have hbl := hg.block b (by omega) (fun e => hne (by simpa using e))
  exact ⟨b, inner, hv, hb, (World.cell?_of_block (w := W) (a := ⟨b, 0, none⟩) hbl).trans c0, (World.cell?_of_block (w := W) (a := ⟨b, 1, none⟩) hbl).trans c1, Ch.grown hg hn hr hi⟩
def One (Ad : Nat -> Addr) (n₀ : Nat) (W : World) (v : Value) (ls : List (List ByteArray × Nat)) : Prop := (v = .nilIface /\ ls = []) \/ ∃ p, ls = [p] /\ Chn Ad n₀ W 3 v p
theorem One.top {Ad : Nat -> Addr} {n₀ : Nat} {W : World} {v : Value} {ls : List (List ByteArray × Nat)} (h : One Ad n₀ W v ls) : Top Ad n₀ W 3 v ls := by
 rcases h with ⟨rfl, rfl⟩ | ⟨p, rfl, h⟩
 ·exact .empty
 exact .one _ _ h
theorem One.move {Ad : Nat -> Addr} {n₀ n₁ : Nat} {W W' : World} {v : Value} {ls : List (List ByteArray × Nat)} (h : One Ad n₀ W v ls) (hb : Below n₀ W W') (hn : n₀ <= n₁) : One Ad n₁ W' v ls := by
 rcases h with h | ⟨p, h1, h2⟩
 ·exact .inl h
 exact .inr ⟨p, h1, h2.move hb hn⟩
theorem One.grown {Ad : Nat -> Addr} {n₀ g : Nat} {W W' : World} {v : Value} {ls : List (List ByteArray × Nat)} (h : One Ad n₀ W v ls) (hg : W.grownBy W' (some g)) (hn : n₀ <= W.heap.size) (hr : zhz W g) : One Ad W'.heap.size W' v ls := by
 rcases h with h | ⟨p, h1, h2⟩
 ·exact .inl h
 exact .inr ⟨p, h1, ((h2.1.grown hg hn hr).wider (Nat.le_trans hn hg.size)), h2.2⟩
theorem One.cell {Ad : Nat -> Addr} {n₀ : Nat} {W : World} {v : Value} {ls : List (List ByteArray × Nat)} (h : One Ad n₀ W v ls) : v.oneCell' = true /\ ∀ s, v ≠ .string s := by
 rcases h with ⟨rfl, -⟩ | ⟨p, -, h⟩
 ·exact ⟨rfl, by simp⟩
 obtain ⟨t, q, rfl, -⟩ := h.1.shape
 exact ⟨rfl, by simp⟩
theorem zrs {w w' : World} {B n z : Nat} {e : TypeId} {v : Value} {xs : List Value} (h : w.ownsRow B e z v n xs) (hb : Below w.heap.size w w') : w'.ownsRow B e z v n xs := by
 refine ⟨h.1, ?_⟩
 rcases h.2 with h1 | ⟨g, cap, cur, h1, h2, h3, h4⟩
 ·exact .inl h1
 exact .inr ⟨g, cap, cur, h1, h2, (hb.block g (Array.getElem?_eq_some_iff.1 h3).1).trans h3, h4⟩
theorem Below.seen {B : Nat} {w w' : World} {p : Addr} {v : Value} (hb : Below B w w') (hB : w.heap.size <= B) (h : w.cell? p = some v) : w'.cell? p = some v :=
 (hb.cell (p := p) (Nat.lt_of_lt_of_le (World.block_lt_of_cell? w p h) hB)).trans h
def lowB (c : UInt8) : Bool := 97 <= c && c <= 122
def isNm (s : ByteArray) : Bool := decide (1 <= s.size) && decide (s.size <= 8) && s.data.toList.all lowB
theorem zng (s : ByteArray) (h : s.size = 0) : isNm s = false := by simp [isNm, h]
theorem zes (s : ByteArray) (h : 8 < s.size) : isNm s = false := by simp [isNm]; omega
theorem zew (s : ByteArray) (k : Nat) (h : k < s.size) : s.data.toList.take (k + 1) = s.data.toList.take k ++ [s[k]] := by
 rw [List.take_succ_eq_append_getElem (by simpa using h)]; rfl
theorem zwg (c : UInt8) : lowB c = decide (97 <= (c.toNat : Int) /\ (c.toNat : Int) <= 122) := by
 unfold lowB
 rw [Bool.eq_iff_iff]; simp [UInt8.le_iff_toNat_le]; omega
theorem ztb (s : ByteArray) (k : Nat) (h : k < s.size) (hb : lowB s[k] = false) : isNm s = false := by
 have : s.data.toList.all lowB = false := List.all_eq_false.2 ⟨s[k], Array.getElem_mem_toList h, by rw [hb]; exact Bool.false_ne_true⟩
 unfold isNm
 rw [this]; simp
theorem zsw (s : ByteArray) (h1 : 1 <= s.size) (h2 : s.size <= 8) (h : (s.data.toList.take s.size).all lowB = true) : isNm s = true := by
 have e : s.data.toList.take s.size = s.data.toList := List.take_of_length_le (by rw [Array.length_toList]; exact Nat.le_refl _)
 rw [e] at h
 unfold isNm
 rw [h]
 simp only [Bool.and_true, Bool.and_eq_true, decide_eq_true_eq]
 exact ⟨h1, h2⟩
theorem zik (s : ByteArray) (k : Nat) (h : k < s.size) : (s.data.toList.take (k + 1)).all lowB = ((s.data.toList.take k).all lowB && lowB s[k]) := by
 rw [zew s k h, List.all_append]; simp
set_option maxRecDepth 100000 in
theorem zmn (s : ByteArray) (w : World) (hs : s.size <= 1000) : Calls Tryz.prog 43 #[.string s] w fun e w' => e = .returned (.bool (isNm s)) /\ w' = w := by
 have hsi : (s.size : Int) <= 1000 := by omega
 by_cases h0 : s.size = 0
 ·have R := hid (zng s h0)
  have q : (s.size : Int) < 1 := by omega
  clear h0
  go_enter Tryz.func43, Tryz.ntmps43
  go_wp2
  go_ret
  exact ⟨by rw [R.out]; rfl, rfl⟩
 by_cases h8 : 8 < s.size
 ·have R := hid (zes s h8)
  have q : ¬ ((s.size : Int) < 1) := by omega
  have q8 : (8 : Int) < (s.size : Int) := by omega
  clear h0
  go_enter Tryz.func43, Tryz.ntmps43
  go_wp2
  go_ret
  exact ⟨by rw [R.out]; rfl, rfl⟩
 have q : ¬ ((s.size : Int) < 1) := by omega
 have q8 : ¬ ((8 : Int) < (s.size : Int)) := by omega
 go_enter Tryz.func43, Tryz.ntmps43
 go_wp2
 go_loop [3] (fun i => ∃ k : Nat, k <= s.size /\ i = .int .i64 (k : Int) /\ Hid ((s.data.toList.take k).all lowB = true)) (fun i => s.size - (intOf i).toNat)
 case atStart => exact ⟨0, Nat.zero_le _, rfl, rfl⟩
 case round =>
  obtain ⟨k, hk, rfl, HA⟩ := hrel
  by_cases hlt : k < s.size
  ·have AN := hid (zik s k hlt)
   have LI := zwg s[k]
   by_cases hb : lowB s[k] = true
   ·have hb' : 97 <= (s[k].toNat : Int) /\ (s[k].toNat : Int) <= 122 := by rw [LI] at hb; simpa using hb
    obtain ⟨hb1, hb2⟩ := hb'
    have R : Hid ((s.data.toList.take (k + 1)).all lowB = true) := by show _ = _; rw [AN.out, HA.out, hb]; rfl
    clear LI hb
    go_wp2
    go_round
    case rel => exact ⟨k + 1, by omega, by go_num, R.out⟩
    case measure => simp [intOf]; omega
   have hbf : lowB s[k] = false := by simpa using hb
   have R := hid (ztb s k hlt hbf)
   have hb' : ¬ (97 <= (s[k].toNat : Int) /\ (s[k].toNat : Int) <= 122) := by rw [LI] at hb; simpa using hb
   clear LI hb hbf
   by_cases hc : (s[k].toNat : Int) < 97
   ·go_wp2
    go_ret
    exact ⟨by rw [R.out]; rfl, rfl⟩
   have hd : (122 : Int) < (s[k].toNat : Int) := by omega
   go_wp2
   go_ret
   exact ⟨by rw [R.out]; rfl, rfl⟩
  have R : Hid (isNm s = true) := zsw s (by omega) (by omega) (by rw [<- HA.out, show k = s.size by omega])
  go_wp2
  go_ret
  exact ⟨by rw [R.out]; rfl, rfl⟩
theorem zul (w : World) (s : ByteArray) (cap e : Nat) (fr : Nat × Nat) (k : Nat) (hk : k < s.size) : (w.drew.alloc (.cells (bytesRow s cap) e fr)).cell? ⟨w.heap.size, k, none⟩ = some (.int .u8 (s[k].toNat : Int)) := by
 have h : (w.drew.alloc (.cells (bytesRow s cap) e fr)).heap[w.heap.size]? = some (.cells (bytesRow s cap) e fr) := heap_alloc_new w.drew _
 rw [cell_of_row _ _ k _ e fr h]
 exact bytesRow_at s cap k hk
set_option maxRecDepth 100000 in
theorem zoe (s : ByteArray) (w : World) (hs : s.size <= 1000) : Calls Tryz.prog 128 #[.string s] w fun e w' => e = .returned (.bool (isNm s)) /\ Below w.heap.size w w' := by
 have hsi : (s.size : Int) <= 1000 := by omega
 by_cases h0 : s.toList = []
 ·have R : Hid (isNm s = false) := zng s (by rw [Lib.size_eq, <- Lib.toList_data, h0]; rfl)
  go_enter Tryz.func128, Tryz.ntmps128
  go_wp2_with fail
  go_ret
  exact ⟨by rw [R.out]; rfl, Below.refl _ _⟩
 have h1 : 1 <= s.size := by
  rcases Nat.eq_zero_or_pos s.size with h | h
  ·exfalso; apply h0; apply List.eq_nil_of_length_eq_zero; rw [Lib.toList_data, <- Lib.size_eq]; exact h
  exact h
 have hie : s.toList.isEmpty = false := by simpa using h0
 by_cases h8 : 8 < s.size
 ·have q8 : (8 : Int) < (s.size : Int) := by omega
  have R := hid (zes s h8)
  go_enter Tryz.func128, Tryz.ntmps128
  go_wp2_with fail
  go_ret
  exact ⟨by rw [R.out]; rfl, Below.refl _ _⟩
 have q8 : ¬ ((8 : Int) < (s.size : Int)) := by omega
 have hcv := run_bytes_of_string (P := Tryz.prog) w 9 277 5 s Tryz.underlying9 Tryz.underlying277 Tryz.underlying5
 have BC := hid (zul w s (grownCap w s.size 0 5) 5 ((bytesRow s (grownCap w s.size 0 5)).size, (bytesRow s (grownCap w s.size 0 5)).size + 1))
 have BB : Hid (Below w.heap.size w (w.drew.alloc (.cells (bytesRow s (grownCap w s.size 0 5)) 5 ((bytesRow s (grownCap w s.size 0 5)).size, (bytesRow s (grownCap w s.size 0 5)).size + 1)))) := (Below.refl _ _).drew.alloc (Nat.le_refl _) _
 generalize w.drew.alloc (.cells (bytesRow s (grownCap w s.size 0 5)) 5 ((bytesRow s (grownCap w s.size 0 5)).size, (bytesRow s (grownCap w s.size 0 5)).size + 1)) = w2 at *
 generalize grownCap w s.size 0 5 = cap at *
 go_enter Tryz.func128, Tryz.ntmps128
 go_wp2_with fail
 go_loop [4, 15] (fun _ i => ∃ k : Nat, k <= s.size /\ i = .int .i64 (k : Int) /\ Hid ((s.data.toList.take k).all lowB = true)) (fun _ i => s.size - (intOf i).toNat)
 case atStart => exact ⟨0, Nat.zero_le _, rfl, rfl⟩
 case round =>
  obtain ⟨k, hk, rfl, HA⟩ := hrel
  by_cases hlt : k < s.size
  ·have AN := hid (zik s k hlt)
   have LI := zwg s[k]
   have hki : (k : Int) < (s.size : Int) := by omega
   have hc := BC.out k hlt
   by_cases hb : lowB s[k] = true
   ·have hb' : 97 <= (s[k].toNat : Int) /\ (s[k].toNat : Int) <= 122 := by rw [LI] at hb; simpa using hb
    have R : Hid ((s.data.toList.take (k + 1)).all lowB = true) := by show _ = _; rw [AN.out, HA.out, hb]; rfl
    clear LI hb AN
    generalize (s[k].toNat : Int) = x at *
    obtain ⟨hb1, hb2⟩ := hb'
    go_wp2_with fail
    go_round
    case rel => exact ⟨k + 1, by omega, by go_num, R.out⟩
    case measure => simp [intOf]; omega
   have hbf : lowB s[k] = false := by simpa using hb
   have R := hid (ztb s k hlt hbf)
   have hb' : ¬ (97 <= (s[k].toNat : Int) /\ (s[k].toNat : Int) <= 122) := by rw [LI] at hb; simpa using hb
   clear LI hb hbf AN
   generalize (s[k].toNat : Int) = x at *
   by_cases hc : x < 97
   ·go_wp2_with fail
    go_ret
    exact ⟨by rw [R.out]; rfl, BB.out⟩
   have hd : (122 : Int) < x := by omega
   go_wp2_with fail
   go_ret
   exact ⟨by rw [R.out]; rfl, BB.out⟩
  have R : Hid (isNm s = true) := zsw s (by omega) (by omega) (by rw [<- HA.out, show k = s.size by omega])
  have hki : ¬ ((k : Int) < (s.size : Int)) := by omega
  go_wp2_with fail
  go_ret
  exact ⟨by rw [R.out]; rfl, BB.out⟩
set_option maxRecDepth 100000 in
theorem zjr (s : ByteArray) (w : World) : Calls Tryz.prog 43 #[.string s] w fun e w' => e = .returned (.bool (isNm s)) /\ w' = w := by
 by_cases h8 : 8 < s.size
 ·have R := hid (zes s h8)
  have q : ¬ ((s.size : Int) < 1) := by omega
  have q8 : (8 : Int) < (s.size : Int) := by omega
  go_enter Tryz.func43, Tryz.ntmps43
  go_wp2
  go_ret
  exact ⟨by rw [R.out]; rfl, rfl⟩
 exact zmn s w (by omega)
set_option maxRecDepth 100000 in
theorem zkt (s : ByteArray) (w : World) : Calls Tryz.prog 128 #[.string s] w fun e w' => e = .returned (.bool (isNm s)) /\ Below w.heap.size w w' := by
 by_cases h8 : 8 < s.size
 ·have h0 : ¬ s.toList = [] := fun h => by
   have : s.size = 0 := by rw [Lib.size_eq, <- Lib.toList_data, h]; rfl
   omega
  have hie : s.toList.isEmpty = false := by simpa using h0
  have q8 : (8 : Int) < (s.size : Int) := by omega
  have R := hid (zes s h8)
  go_enter Tryz.func128, Tryz.ntmps128
  go_wp2_with fail
  go_ret
  exact ⟨by rw [R.out]; rfl, Below.refl _ _⟩
 exact zoe s w (by omega)
end Go.Proofs.YthadfdbkkmmgoaaGreatDoor.Sc
namespace Go.Proofs.YthadfdbkkmmgoaaGreatDoor.Sc
open Go.RowKit Go.Shelf Go.Maps
theorem zks : Keyed Tryz.prog 9 := string_keyed Tryz.underlying9
theorem z5b (w : World) : (zeroValue 230).run Tryz.prog w = .ok (.agg #[]) w := by kernel_rfl
def litS (s : ByteArray) : Lit := .string s.data.toList
def SetN (acc : List ByteArray) : DataW Unit := Maps.setOf (.agg []) (acc.map litS)
theorem z4f (acc : List ByteArray) : ∀ x ∈ acc.map litS, WideAt.IsKeyLit x := by
 intro x hx
 obtain ⟨s, -, rfl⟩ := List.mem_map.1 hx
 exact trivial
def memB (acc : List ByteArray) (s : ByteArray) : Bool := acc.any fun x => x.data.toList == s.data.toList
theorem zfj (acc : List ByteArray) (s : ByteArray) : memB acc s = true ↔ s ∈ acc := by
 unfold memB
 rw [List.any_eq_true]
 constructor
 ·rintro ⟨x, hx, h⟩
  have : x = s := ByteArray.ext (Array.toList_inj.1 (by simpa using h))
  exact this ▸ hx
 intro h
 exact ⟨s, h, by simp⟩
theorem zqx (acc : List ByteArray) (s : ByteArray) : Maps.has (SetN acc) (litS s) = memB acc s := by
 unfold SetN memB
 rw [Maps.has_setOf _ _ _ (z4f acc), List.any_map]
 rfl
theorem z1b (acc : List ByteArray) (s : ByteArray) : SetN (acc ++ [s]) = (SetN acc).put (litS s) (.agg []) := by
 unfold SetN
 rw [List.map_append]
 exact Maps.setOf_snoc _ _ _
def MapN (W : World) (mb n : Nat) (acc : List ByteArray) : Prop := W.ownsMap Tryz.prog 9 (unitElem (H := Unit)) mb n (SetN acc)
def nErr (acc : List ByteArray) (s : ByteArray) : List Nat := if isNm s then (if memB acc s then [9] else []) else [10]
def zej (acc : List ByteArray) (s : ByteArray) : List ByteArray := if isNm s && !memB acc s then acc ++ [s] else acc
def errV (Ad : Nat -> Addr) : List Nat -> Value
 | [] => .nilIface
 | k :: _ => .iface 330 (.pointer (some (Ad k)))
theorem zby {W W' : World} (h : Below W.heap.size W W') (row : Option Nat) : W.grownBy W' row := ⟨h.os, h.tape, h.output, h.size, fun k hk _ => h.block k hk⟩
theorem MapN.later {W W' : World} {mb n : Nat} {acc : List ByteArray} (h : MapN W mb n acc) (hb : Below W.heap.size W W') : MapN W' mb n acc := World.ownsMap.kept h (zby hb none) (by simp)
theorem zvh (Ad : Nat -> Addr) (W : World) (hE : Env8 W Ad) (mb n : Nat) (acc : List ByteArray) (hm : MapN W mb n acc) (hn : n <= 1000) (s : ByteArray) (hs : s.size <= 1000) :
  Calls Tryz.prog 82 #[.map (some mb), .string s] W fun e W' => e = .returned (errV Ad (nErr acc s)) /\ MapN W' mb (n + 1) (zej acc s) /\ W.grownBy W' (some mb) := by
 have IC := hid (zkt s W)
 have HM := hid hm
 have HE := hid hE
 have hkey : keyOf Tryz.prog 9 (.string s) = some (litS s) := WideMaps.keyOf_string_mk Tryz.underlying9 (by unfold maxLen; omega)
 have HK := hid hkey
 clear hm hE hkey
 by_cases hi : isNm s = true
 ·rw [hi] at IC
  go_enter Tryz.func82, Tryz.ntmps82
  go_wp2_with fail
  refine IC.out.mono ?_
  rintro e w1 ⟨rfl, hb1⟩
  have B1 := hid hb1
  have M1 := hid (HM.out.later hb1)
  have e9 : w1.cell? ⟨6, 0, none⟩ = some (.iface 330 (.pointer (some (Ad 9)))) := (HE.out.later hb1).cell 9 (by decide) (by decide)
  clear hb1 IC
  by_cases hmem : memB acc s = true
  ·have R : Hid (errV Ad (nErr acc s) = .iface 330 (.pointer (some (Ad 9)))) := by show _ = _; simp [nErr, hi, hmem, errV]
   have R2 : Hid (zej acc s = acc) := by show _ = _; simp [zej, hmem]
   have hh : Maps.has (SetN acc) (litS s) = true := by rw [zqx]; exact hmem
   have h3 : 6 < w1.heap.size := World.block_lt_of_cell? w1 _ e9
   have h3n : ¬ (6 = w1.heap.size) := by omega
   clear hmem hi
   go_wp2_with (at_lookup; refine wpList_lookup_own_unit _ rfl _ _ 152 rfl 9 230 zks Tryz.underlying152 (z5b _) mb n (SetN acc) rfl M1.out _ _ rfl HK.out ?_; rw [hh])
   go_ret
   refine ⟨by rw [R.out]; rfl, ?_, ?_⟩
   ·rw [R2.out]
    exact (World.ownsMap.alloc M1.out _).mono (Nat.le_succ _)
   exact (zby B1.out _).trans (World.grownBy_alloc _ _ _)
  have hmf : memB acc s = false := by simpa using hmem
  have R : Hid (errV Ad (nErr acc s) = .nilIface) := by show _ = _; simp [nErr, hi, hmf, errV]
  have R2 : Hid (zej acc s = acc ++ [s]) := by show _ = _; simp [zej, hi, hmf]
  have hh : Maps.has (SetN acc) (litS s) = false := by rw [zqx]; exact hmf
  have MA := hid (World.ownsMap.alloc M1.out (.cells #[] 230))
  clear hmem hi hmf e9
  go_wp2_with (first | (at_lookup; refine wpList_lookup_own_unit _ rfl _ _ 152 rfl 9 230 zks Tryz.underlying152 (z5b _) mb n (SetN acc) rfl M1.out _ _ rfl HK.out ?_; rw [hh]) | (at_mapUpdate; refine wpList_mapUpdate_own _ rfl _ _ _ 152 rfl 9 230 zks Tryz.underlying152 (unitElem (H := Unit)) mb n (SetN acc) rfl MA.out (by unfold maxLen; omega) _ _ _ rfl rfl HK.out (.agg []) [] unitElem_mk ?_; intro w2 hown2 hg2))
  go_ret
  refine ⟨by rw [R.out]; rfl, ?_, ?_⟩
  ·rw [R2.out]
   show World.ownsMap _ _ _ _ _ _ _
   rw [z1b]
   exact hown2
  exact ((zby B1.out _).trans (World.grownBy_alloc _ _ _)).trans hg2
 have hif : isNm s = false := by simpa using hi
 rw [hif] at IC
 have R : Hid (errV Ad (nErr acc s) = .iface 330 (.pointer (some (Ad 10)))) := by show _ = _; simp [nErr, hif, errV]
 have R2 : Hid (zej acc s = acc) := by show _ = _; simp [zej, hif]
 clear hi hif
 go_enter Tryz.func82, Tryz.ntmps82
 go_wp2_with fail
 refine IC.out.mono ?_
 rintro e w1 ⟨rfl, hb1⟩
 have B1 := hid hb1
 have M1 := hid (HM.out.later hb1)
 have e10 : w1.cell? ⟨5, 0, none⟩ = some (.iface 330 (.pointer (some (Ad 10)))) := (HE.out.later hb1).cell 10 (by decide) (by decide)
 clear hb1 IC
 go_wp2_with fail
 go_ret
 exact ⟨by rw [R.out]; rfl, by rw [R2.out]; exact M1.out.mono (Nat.le_succ _), zby B1.out _⟩
theorem zrz (Ad : Nat -> Addr) (W : World) (hE : Env8 W Ad) (mb n : Nat) (acc : List ByteArray) (hm : MapN W mb n acc) (hn : n <= 1000) (s : ByteArray) :
  Calls Tryz.prog 82 #[.map (some mb), .string s] W fun e W' => e = .returned (errV Ad (nErr acc s)) /\ MapN W' mb (n + 1) (zej acc s) /\ W.grownBy W' (some mb) := by
 by_cases h8 : 8 < s.size
 ·have IC := hid (zkt s W)
  have HM := hid hm
  have HE := hid hE
  have hif : isNm s = false := zes s h8
  rw [hif] at IC
  have R : Hid (errV Ad (nErr acc s) = .iface 330 (.pointer (some (Ad 10)))) := by show _ = _; simp [nErr, hif, errV]
  have R2 : Hid (zej acc s = acc) := by show _ = _; simp [zej, hif]
  clear hif hm hE h8
  go_enter Tryz.func82, Tryz.ntmps82
  go_wp2_with fail
  refine IC.out.mono ?_
  rintro e w1 ⟨rfl, hb1⟩
  have B1 := hid hb1
  have M1 := hid (HM.out.later hb1)
  have e10 : w1.cell? ⟨5, 0, none⟩ = some (.iface 330 (.pointer (some (Ad 10)))) := (HE.out.later hb1).cell 10 (by decide) (by decide)
  clear hb1 IC
  go_wp2_with fail
  go_ret
  exact ⟨by rw [R.out]; rfl, by rw [R2.out]; exact M1.out.mono (Nat.le_succ _), zby B1.out _⟩
 exact zvh Ad W hE mb n acc hm hn s (by omega)
end Go.Proofs.YthadfdbkkmmgoaaGreatDoor.Sc
namespace Go.Proofs.YthadfdbkkmmgoaaGreatDoor.Sc
open Go.RowKit Go.Shelf
def dig (i : Nat) : ByteArray := ⟨(Lib.decDigits i).toArray⟩
theorem zmc (i : Nat) (hi : i < 100) (w : World) : Calls Tryz.prog 127 #[.int .i64 (i : Int)] w fun e w' => e = .returned (.string (dig i)) /\ w' = w := Tryz.strconv_Itoa_small i hi w
theorem zsl (Ad : Nat -> Addr) (n₀ k : Nat) (W : World) (hk : 1 <= k /\ k <= 18) : Chn Ad n₀ W 0 (.iface 330 (.pointer (some (Ad k)))) ([], k) := ⟨rfl, hk.1, hk.2, Nat.le_refl _⟩
theorem zwh (Ad : Nat -> Addr) (W : World) (l p : ByteArray) (i : Nat) (hi : i < 100) (ns : List Nat) (hl : ns.length <= 1) (hn : ∀ k ∈ ns, 1 <= k /\ k <= 18) :
  Calls Tryz.prog 81 #[.string l, .int .i64 (i : Int), .string p, errV Ad ns] W fun e W' => ∃ v', e = .returned v' /\ One Ad W'.heap.size W' v' (ns.map fun k => ([l, dig i, p], k)) /\ Below W.heap.size W W' := by
 have IT := hid (zmc i hi W)
 match ns, hl, hn with
 | [], _, _ =>
  have A0 := hid (at_nil p W)
  have A1 := hid (at_nil (dig i) W)
  have A2 := hid (at_nil l W)
  unfold errV
  go_enter Tryz.func81, Tryz.ntmps81
  go_wp2_with fail
  refine IT.out.mono ?_
  rintro e w1 ⟨rfl, rfl⟩
  go_wp2_with fail
  refine A0.out.mono ?_
  rintro e w2 ⟨rfl, rfl⟩
  go_wp2_with fail
  refine A1.out.mono ?_
  rintro e w3 ⟨rfl, rfl⟩
  go_wp2_with fail
  refine A2.out.mono ?_
  rintro e w4 ⟨rfl, rfl⟩
  go_wp2_with fail
  go_ret
  exact ⟨_, rfl, .inl ⟨rfl, rfl⟩, Below.refl _ _⟩
 | [k], _, hn =>
  have hk := hn k (by simp)
  have A0 := hid (zgt Ad p 0 _ _ W (zsl Ad W.heap.size k W hk))
  clear hn hk
  unfold errV
  go_enter Tryz.func81, Tryz.ntmps81
  go_wp2_with fail
  refine IT.out.mono ?_
  rintro e w1 ⟨rfl, rfl⟩
  go_wp2_with fail
  refine A0.out.mono ?_
  rintro e w2 ⟨v2, rfl, h2, b2⟩
  have A1 := hid (zgt Ad (dig i) _ _ _ w2 h2)
  have B2 := hid b2
  clear h2 b2 A0
  go_wp2_with fail
  refine A1.out.mono ?_
  rintro e w3 ⟨v3, rfl, h3, b3⟩
  have A2 := hid (zgt Ad l _ _ _ w3 h3)
  have B3 := hid (B2.out.trans (b3.mono B2.out.size))
  clear h3 b3 A1 B2
  go_wp2_with fail
  refine A2.out.mono ?_
  rintro e w4 ⟨v4, rfl, h4, b4⟩
  have H4 := hid h4
  have B4 := hid (B3.out.trans (b4.mono B3.out.size))
  clear h4 b4 A2 B3
  go_wp2_with fail
  go_ret
  exact ⟨_, rfl, .inr ⟨_, rfl, H4.out⟩, B4.out⟩
 | _ :: _ :: _, h, _ => simp at h
theorem ziw (Ad : Nat -> Addr) (W : World) (hE : Env8 W Ad) (l : ByteArray) (n m : Int) :
  Calls Tryz.prog 80 #[.string l, .int .i64 n, .int .i64 m] W fun e W' => ∃ v', e = .returned v' /\ One Ad W'.heap.size W' v' (if m < n then [([l], 4)] else []) /\ Below W.heap.size W W' := by
 have e4 : W.cell? ⟨4, 0, none⟩ = some (.iface 330 (.pointer (some (Ad 4)))) := hE.cell 4 (by decide) (by decide)
 clear hE
 by_cases h : m < n
 ·have A0 := hid (zgt Ad l 0 _ _ W (zsl Ad W.heap.size 4 W (by decide)))
  rw [if_pos h]
  go_enter Tryz.func80, Tryz.ntmps80
  go_wp2_with fail
  refine A0.out.mono ?_
  rintro e w2 ⟨v2, rfl, h2, b2⟩
  have H2 := hid h2
  have B2 := hid b2
  clear h2 b2
  go_wp2_with fail
  go_ret
  exact ⟨_, rfl, .inr ⟨_, rfl, ⟨H2.out.1, H2.out.2.1, H2.out.2.2.1, by simp⟩⟩, B2.out⟩
 rw [if_neg h]
 go_enter Tryz.func80, Tryz.ntmps80
 go_wp2_with fail
 go_ret
 exact ⟨_, rfl, .inl ⟨rfl, rfl⟩, Below.refl _ _⟩
structure Cmp where
 s : ByteArray
 wd : Int
 rb : Bool
 d0 : Int
 d1 : Int
 d2 : Int
 d3 : Int
def Cmp.val (c : Cmp) : Value := .agg #[.string c.s, .int .i64 c.wd, .bool c.rb, .int .i64 c.d0, .int .i64 c.d1, .int .i64 c.d2, .int .i64 c.d3]
def wOk (c : Cmp) : Bool := decide (1 <= c.wd) && decide (c.wd <= 4)
theorem zzo (c : Cmp) (h : ¬ (1 <= c.wd /\ c.wd <= 4)) : wOk c = false := by
 unfold wOk
 by_cases h1 : 1 <= c.wd
 ·have h2 : ¬ c.wd <= 4 := fun h2 => h ⟨h1, h2⟩
  simp [h2]
 simp [h1]
theorem zmd (c : Cmp) (h : 1 <= c.wd /\ c.wd <= 4) : wOk c = true := by
 unfold wOk
 simp [h.1, h.2]
theorem zih (W : World) (c : Cmp) : Calls Tryz.prog 129 #[c.val] W fun e W' => e = .returned (.bool (wOk c)) /\ Below W.heap.size W W' := by
 by_cases h : 1 <= c.wd /\ c.wd <= 4
 ·rw [zmd c h]
  obtain ⟨s, wd, rb, d0, d1, d2, d3⟩ := c
  obtain ⟨h1, h2⟩ := h
  simp only [] at h1 h2
  unfold Cmp.val
  go_enter Tryz.func129, Tryz.ntmps129
  go_wp2_with fail
  go_ret
  exact ⟨rfl, (Below.refl _ _).alloc (Nat.le_refl _) _⟩
 rw [zzo c h]
 obtain ⟨s, wd, rb, d0, d1, d2, d3⟩ := c
 simp only [] at h
 unfold Cmp.val
 by_cases h1 : 1 <= wd
 ·have h2 : ¬ wd <= 4 := fun h2 => h ⟨h1, h2⟩
  clear h
  go_enter Tryz.func129, Tryz.ntmps129
  go_wp2_with fail
  go_ret
  exact ⟨rfl, (Below.refl _ _).alloc (Nat.le_refl _) _⟩
 clear h
 go_enter Tryz.func129, Tryz.ntmps129
 go_wp2_with fail
 go_ret
 exact ⟨rfl, (Below.refl _ _).alloc (Nat.le_refl _) _⟩
def wErr (c : Cmp) : List Nat := if wOk c then [] else [1]
theorem z0w (Ad : Nat -> Addr) (W : World) (hE : Env8 W Ad) (c : Cmp) : Calls Tryz.prog 83 #[c.val] W fun e W' => e = .returned (errV Ad (wErr c)) /\ Below W.heap.size W W' := by
 have HE := hid hE
 clear hE
 have FC := hid (fun W' => zih W' c)
 cases hw : wOk c with
 | true =>
  rw [show errV Ad (wErr c) = .nilIface by simp [wErr, hw, errV]]
  rw [hw] at FC
  clear hw
  obtain ⟨s, wd, rb, d0, d1, d2, d3⟩ := c
  unfold Cmp.val at FC ⊢
  have BA : Hid (Below W.heap.size W (W.alloc (.cells #[.string s, .int .i64 wd, .bool rb, .int .i64 d0, .int .i64 d1, .int .i64 d2, .int .i64 d3] 96))) := (Below.refl _ _).alloc (Nat.le_refl _) _
  go_enter Tryz.func83, Tryz.ntmps83
  go_wp2_with fail
  refine (FC.out _).mono ?_
  rintro e w1 ⟨rfl, hb1⟩
  have B1 := hid (BA.out.trans (hb1.mono BA.out.size))
  clear hb1 FC
  go_wp2_with fail
  go_ret
  exact ⟨rfl, B1.out⟩
 | false =>
  rw [show errV Ad (wErr c) = .iface 330 (.pointer (some (Ad 1))) by simp [wErr, hw, errV]]
  rw [hw] at FC
  clear hw
  obtain ⟨s, wd, rb, d0, d1, d2, d3⟩ := c
  unfold Cmp.val at FC ⊢
  have BA : Hid (Below W.heap.size W (W.alloc (.cells #[.string s, .int .i64 wd, .bool rb, .int .i64 d0, .int .i64 d1, .int .i64 d2, .int .i64 d3] 96))) := (Below.refl _ _).alloc (Nat.le_refl _) _
  go_enter Tryz.func83, Tryz.ntmps83
  go_wp2_with fail
  refine (FC.out _).mono ?_
  rintro e w1 ⟨rfl, hb1⟩
  have B1 := hid (BA.out.trans (hb1.mono BA.out.size))
  have e1 : w1.cell? ⟨0, 0, none⟩ = some (.iface 330 (.pointer (some (Ad 1)))) := (HE.out.later B1.out).cell 1 (by decide) (by decide)
  clear hb1 FC
  go_wp2_with fail
  go_ret
  exact ⟨rfl, B1.out⟩
theorem zoj (n : Int) (W : World) : Calls Tryz.prog 131 #[.int .i64 n] W fun e W' => e = .returned (.bool (n != 0)) /\ W' = W := by
 go_enter Tryz.func131, Tryz.ntmps131
 go_wp2_with fail
 go_ret
 exact ⟨rfl, rfl⟩
def z5n (W : World) (v : Value) (ds : List Int) : Prop := ∃ a c, v = .slice a ds.length c /\ (ds = [] \/ ∃ b o, a = some ⟨b, o, none⟩ /\ ∀ (j : Nat) x, ds[j]? = some x -> W.cell? ⟨b, o + j, none⟩ = some (.int .i64 x))
def nzB (n : Int) : Bool := n != 0
set_option maxRecDepth 100000 in
theorem z7j (W : World) (v : Value) (ds : List Int) (h : z5n W v ds) (hl : ds.length <= 1000) :
  Calls Tryz.prog 159 #[v, .func (.func 131) #[] #[]] W fun e W' => (∃ i : Int, e = .returned (.int .i64 i) /\ decide (0 <= i) = ds.any nzB) /\ W' = W := by
 obtain ⟨a, c, rfl, h1⟩ := h
 have H1 := hid h1
 have hli : (ds.length : Int) <= 1000 := by omega
 clear h1
 go_enter Tryz.func159, Tryz.ntmps159
 go_wp2_with fail
 go_loop [5, 8] (fun _ i => ∃ k : Nat, k <= ds.length /\ i = .int .i64 (k : Int) /\ Hid ((ds.take k).any nzB = false)) (fun _ i => ds.length - (intOf i).toNat)
 case atStart => exact ⟨0, Nat.zero_le _, rfl, rfl⟩
 case round =>
  obtain ⟨k, hk, rfl, HN⟩ := hrel
  by_cases hlt : k < ds.length
  ·have hki : (k : Int) < (ds.length : Int) := by omega
   obtain ⟨x, hx⟩ := zal ds k hlt
   obtain ⟨b, o, rfl, hc⟩ : ∃ b o, a = some ⟨b, o, none⟩ /\ ∀ (j : Nat) x, ds[j]? = some x -> W.cell? ⟨b, o + j, none⟩ = some (.int .i64 x) := by
    rcases H1.out with h | h
    ·rw [h] at hlt; simp at hlt
    exact h
   have c0 := hc k x hx
   have HX := hid hx
   have TN := hid (zbe hx)
   have NZ := hid (zoj x W)
   clear hc hx
   go_wp2_with fail
   refine NZ.out.mono ?_
   rintro e w1 ⟨rfl, rfl⟩
   by_cases hz : x = 0
   ·have q : (x != 0) = false := by simp [hz]
    have R : Hid ((ds.take (k + 1)).any nzB = false) := by show _ = _; rw [TN.out, List.any_append, HN.out]; simp [nzB, hz]
    rw [q]
    clear q hz NZ
    go_wp2_with fail
    go_round
    case rel => exact ⟨k + 1, by omega, by go_num, R.out⟩
    case measure => simp [intOf]; omega
   have q : (x != 0) = true := by simp [hz]
   have R : Hid (ds.any nzB = true) := List.any_eq_true.2 ⟨x, List.mem_of_getElem? HX.out, by simp [nzB, hz]⟩
   rw [q]
   clear q hz NZ
   go_wp2_with fail
   go_ret
   exact ⟨⟨(k : Int), rfl, by rw [R.out]; simp⟩, rfl⟩
  have hki : ¬ ((k : Int) < (ds.length : Int)) := by omega
  have R : Hid (ds.any nzB = false) := by show _ = _; rw [<- HN.out, List.take_of_length_le (by omega)]
  go_wp2_with fail
  go_ret
  exact ⟨⟨-1, rfl, by rw [R.out]; rfl⟩, rfl⟩
theorem zbp (W : World) (v : Value) (ds : List Int) (h : z5n W v ds) (hl : ds.length <= 1000) :
  Calls Tryz.prog 130 #[v, .func (.func 131) #[] #[]] W fun e W' => e = .returned (.bool (ds.any nzB)) /\ W' = W := by
 have IC := hid (z7j W v ds h hl)
 obtain ⟨a, c, rfl, -⟩ := h
 go_enter Tryz.func130, Tryz.ntmps130
 go_wp2_with fail
 refine IC.out.mono ?_
 rintro e w1 ⟨⟨i, rfl, hi⟩, rfl⟩
 have HI := hid hi
 clear hi IC
 go_wp2_with fail
 go_ret
 exact ⟨by rw [<- HI.out]; rfl, rfl⟩
def behind (c : Cmp) : List Int := [c.d0, c.d1, c.d2, c.d3].drop c.wd.toNat
def dErr (c : Cmp) : List Nat := if wOk c && (behind c).any nzB then [1] else []
theorem zqq (Ad : Nat -> Addr) (W : World) (hE : Env8 W Ad) (c : Cmp) : Calls Tryz.prog 84 #[c.val] W fun e W' => e = .returned (errV Ad (dErr c)) /\ Below W.heap.size W W' := by
 have HE := hid hE
 clear hE
 have FC := hid (fun W' => zih W' c)
 by_cases hw : 1 <= c.wd /\ c.wd <= 4
 ·have hwt := zmd c hw
  rw [hwt] at FC
  have BA : Hid (Below W.heap.size W (W.alloc (.cells #[.string c.s, .int .i64 c.wd, .bool c.rb, .int .i64 c.d0, .int .i64 c.d1, .int .i64 c.d2, .int .i64 c.d3] 96))) := (Below.refl _ _).alloc (Nat.le_refl _) _
  have CC : Hid (∀ (W' : World) (v : Value), Below (W.heap.size + 1) (W.alloc (.cells #[.string c.s, .int .i64 c.wd, .bool c.rb, .int .i64 c.d0, .int .i64 c.d1, .int .i64 c.d2, .int .i64 c.d3] 96)) W' -> (∃ a cc, v = .slice a (behind c).length cc /\ ((behind c) = [] \/ a = some ⟨W.heap.size, 3 + c.wd.toNat, none⟩)) →
    Calls Tryz.prog 130 #[v, .func (.func 131) #[] #[]] W' fun e W'' => e = .returned (.bool ((behind c).any nzB)) /\ W'' = W') := by
   intro W' v hb ⟨a, cc, hv, ha⟩
   refine zbp W' v (behind c) ⟨a, cc, hv, ha.imp id fun ha => ⟨W.heap.size, 3 + c.wd.toNat, ha, fun j x hx => ?_⟩⟩ (by simp [behind]; omega)
   unfold behind at hx
   rw [List.getElem?_drop] at hx
   rw [hb.cell (p := ⟨W.heap.size, 3 + c.wd.toNat + j, none⟩) (by simp), cell_of_row _ _ _ _ 96 (0, 0) (heap_alloc_new W _)]
   rw [show 3 + c.wd.toNat + j = 3 + (c.wd.toNat + j) by omega]
   generalize c.wd.toNat + j = m at *
   match m, hx with
   | 0, hx => simpa using hx
   | 1, hx => simpa using hx
   | 2, hx => simpa using hx
   | 3, hx => simpa using hx
   | m + 4, hx => simp at hx
  have hcase : c.wd = 1 \/ c.wd = 2 \/ c.wd = 3 \/ c.wd = 4 := by omega
  cases ha : (behind c).any nzB with
  | false =>
   rw [show errV Ad (dErr c) = .nilIface by simp [dErr, hwt, ha, errV]]
   rw [ha] at CC
   clear hwt ha hw
   obtain ⟨s, wd, rb, d0, d1, d2, d3⟩ := c
   simp only [] at hcase
   unfold Cmp.val at FC ⊢
   rcases hcase with rfl | rfl | rfl | rfl
   all_goals
    go_enter Tryz.func84, Tryz.ntmps84
    go_wp2_with fail
    refine (FC.out _).mono ?_
    rintro e w1 ⟨rfl, hb1⟩
    have B1 := hid (BA.out.trans (hb1.mono BA.out.size))
    have hc1 : w1.cell? ⟨W.heap.size, 1, none⟩ = _ := (hb1.cell (p := ⟨W.heap.size, 1, none⟩) (by simp)).trans (by rw [cell_of_row _ _ _ _ 96 (0, 0) (heap_alloc_new W _)])
    have CD := hid (CC.out w1)
    have HB1 := hid hb1
    clear hb1 FC CC
    go_wp2_with fail
    refine (CD.out _ (by simpa using HB1.out) ⟨_, _, rfl, by first | exact .inr rfl | exact .inl rfl⟩).mono ?_
    rintro e w2 ⟨rfl, rfl⟩
    clear CD
    go_wp2_with fail
    go_ret
    exact ⟨rfl, B1.out⟩
  | true =>
   rw [show errV Ad (dErr c) = .iface 330 (.pointer (some (Ad 1))) by simp [dErr, hwt, ha, errV]]
   rw [ha] at CC
   clear hwt ha hw
   obtain ⟨s, wd, rb, d0, d1, d2, d3⟩ := c
   simp only [] at hcase
   unfold Cmp.val at FC ⊢
   rcases hcase with rfl | rfl | rfl | rfl
   all_goals
    go_enter Tryz.func84, Tryz.ntmps84
    go_wp2_with fail
    refine (FC.out _).mono ?_
    rintro e w1 ⟨rfl, hb1⟩
    have B1 := hid (BA.out.trans (hb1.mono BA.out.size))
    have hc1 : w1.cell? ⟨W.heap.size, 1, none⟩ = _ := (hb1.cell (p := ⟨W.heap.size, 1, none⟩) (by simp)).trans (by rw [cell_of_row _ _ _ _ 96 (0, 0) (heap_alloc_new W _)])
    have e1 : w1.cell? ⟨0, 0, none⟩ = some (.iface 330 (.pointer (some (Ad 1)))) := (HE.out.later B1.out).cell 1 (by decide) (by decide)
    have CD := hid (CC.out w1)
    have HB1 := hid hb1
    clear hb1 FC CC
    go_wp2_with fail
    refine (CD.out _ (by simpa using HB1.out) ⟨_, _, rfl, by first | exact .inr rfl | exact .inl rfl⟩).mono ?_
    rintro e w2 ⟨rfl, rfl⟩
    clear CD
    go_wp2_with fail
    go_ret
    exact ⟨rfl, B1.out⟩
 have hwf := zzo c hw
 rw [hwf] at FC
 rw [show errV Ad (dErr c) = .nilIface by simp [dErr, hwf, errV]]
 obtain ⟨s, wd, rb, d0, d1, d2, d3⟩ := c
 unfold Cmp.val at FC ⊢
 have BA : Hid (Below W.heap.size W (W.alloc (.cells #[.string s, .int .i64 wd, .bool rb, .int .i64 d0, .int .i64 d1, .int .i64 d2, .int .i64 d3] 96))) := (Below.refl _ _).alloc (Nat.le_refl _) _
 clear hw hwf
 go_enter Tryz.func84, Tryz.ntmps84
 go_wp2_with fail
 refine (FC.out _).mono ?_
 rintro e w1 ⟨rfl, hb1⟩
 have B1 := hid (BA.out.trans (hb1.mono BA.out.size))
 clear hb1 FC
 go_wp2_with fail
 go_ret
 exact ⟨rfl, B1.out⟩
end Go.Proofs.YthadfdbkkmmgoaaGreatDoor.Sc
