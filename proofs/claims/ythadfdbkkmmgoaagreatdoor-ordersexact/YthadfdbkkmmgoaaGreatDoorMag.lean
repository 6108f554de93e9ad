/- A part of the proof. -/
import Derived.Laws.IdiomCopy
import Derived.Test.YthadfdbkkmmgoaaGreatDoorMaf
set_option maxHeartbeats 6400000
namespace Go.Proofs.YthadfdbkkmmgoaaGreatDoor
namespace So
open Go.RowKit Go.Shelf Go.Maps
open At (zaa Err zep zck wi)
open Rs (Prt SD fitP PRow mskP)
def Er (Ad : Nat -> Addr) (W : World) (v : Value) (k : Nat) (n : Nat := 9) : Prop := (k = 0 /\ v = .nilIface) \/ (k ≠ 0 /\ ∃ t q, v = .iface t q /\ ∃ d, Err Ad W (.iface t q) k (min d n))
theorem Er.later {Ad : Nat -> Addr} {W W' : World} {v : Value} {k n : Nat} (h : Er Ad W v k n) (hb : Below W.heap.size W W') : Er Ad W' v k n :=
 h.imp id fun ⟨h0, t, q, e, d, hd⟩ => ⟨h0, t, q, e, d, hd.later hb⟩
theorem Er.none (Ad : Nat -> Addr) (W : World) {n : Nat} : Er Ad W .nilIface 0 n := .inl ⟨rfl, rfl⟩
theorem Er.leaf (Ad : Nat -> Addr) (W : World) (k : Nat) (hk : 1 <= k /\ k <= 18) {n : Nat} : Er Ad W (.iface 330 (.pointer (some (Ad k)))) k n := .inr ⟨by omega, _, _, rfl, 0, by rw [Nat.zero_min]; exact zck Ad W k hk⟩
theorem Er.of {Ad : Nat -> Addr} {W : World} {t : TypeId} {q : Value} {k d n : Nat} (h0 : k ≠ 0) (h : Err Ad W (.iface t q) k d) (hn : d <= n := by omega) : Er Ad W (.iface t q) k n := .inr ⟨h0, t, q, rfl, d, by rw [Nat.min_eq_left hn]; exact h⟩
theorem z7u (Ad : Nat -> Addr) (s : ByteArray) (v : Value) (k : Nat) (w : World) {n m : Nat} (h : Er Ad w v k n) (hm : n + 1 <= m := by omega) :
  Calls Tryz.prog 38 #[.string s, v] w fun e w' => ∃ v', e = .returned v' /\ Er Ad w' v' k m /\ Below w.heap.size w w' := by
 rcases h with ⟨rfl, rfl⟩ | ⟨h0, t, q, rfl, d, hd⟩
 ·exact (at_nil s w).mono fun e w' ⟨q1, q2⟩ => ⟨_, q1, .inl ⟨rfl, rfl⟩, by rw [q2]; exact Below.refl _ _⟩
 exact (zep Ad s _ k _ w hd).mono fun e w' ⟨t, q, q1, q2, q3⟩ => ⟨_, q1, Er.of h0 q2, q3⟩
theorem zbl (Ad : Nat -> Addr) {ex : Option Nat} {B : Nat} {W : World} {sb : Nat} {c : CV} {s : SD} (h : Sto ex B W sb c s) (hE : Env8 W Ad) (p : Prt) :
  Calls Tryz.prog 170 #[.pointer (some ⟨sb, 0, none⟩), .agg #[.int .i64 p.c, .int .i64 p.v0, .int .i64 p.v1, .int .i64 p.v2, .int .i64 p.v3, .int .i64 p.t]] W fun e W' => ∃ v, e = .returned v /\ Er Ad W' v (if fitP s.ws p then 0 else 1) 1 /\ Below W.heap.size W W' := by
 by_cases hc : p.c < 0 \/ (s.ws.length : Int) <= p.c
 ·rw [Rs.zqb hc]
  exact (zvw Ad h hE p hc).mono fun e W' ⟨t, q, q1, q2, q3⟩ => ⟨_, q1, Er.of (by decide) q2, q3⟩
 refine (z1h Ad h hE p (cc := p.c.toNat) (by omega) (by omega)).mono fun e W' ⟨v, q1, q2, q3⟩ => ⟨v, q1, ?_, q3⟩
 cases hf : fitP s.ws p
 ·rw [hf] at q2
  obtain ⟨t, q, rfl, q4⟩ := q2
  exact Er.of (by decide) q4
 rw [hf] at q2
 exact .inl ⟨rfl, q2⟩
def chkL (ws : List Nat) (l : List Prt) : Nat := if l.all (fitP ws) then (if l.Pairwise (fun x y => x.c ≠ y.c) then 0 else 9) else 1
theorem zxc {ws : List Nat} {l : List Prt} {p : Prt} (hp : p ∈ l) (hf : fitP ws p = false) : chkL ws l = 1 := by
 unfold chkL
 rw [if_neg]
 intro h
 rw [List.all_eq_true.1 h p hp] at hf
 cases hf
theorem yay {ws : List Nat} {l : List Prt} (h : chkL ws l = 0) : (∀ p ∈ l, fitP ws p = true) /\ Apart l := by
 unfold chkL at h
 split at h
 ·rename_i h1
  split at h
  ·rename_i h2
   exact ⟨List.all_eq_true.1 h1, h2⟩
  cases h
 cases h
theorem zew {l : List Prt} {k : Nat} {p : Prt} (hp : l[k]? = some p) : l.take (k + 1) = l.take k ++ [p] := by
 obtain ⟨hl, rfl⟩ := List.getElem?_eq_some_iff.1 hp
 exact List.take_succ_eq_append_getElem hl
theorem ztg {l : List Prt} {k : Nat} {p : Prt} {c : Nat} (hp : l[k]? = some p) (hc : p.c = (c : Int)) (hpos : Pos l) (h : Apart (l.take k)) (hb : (mskP (l.take k)).testBit c = false) : Apart (l.take (k + 1)) := by
 rw [zew hp, Apart, List.pairwise_append]
 refine ⟨h, by simp, fun a ha b hb' e => ?_⟩
 simp at hb'
 subst hb'
 have := (zcx (fun x hx => hpos x (List.mem_of_mem_take hx)) c).2 ⟨a, ha, by rw [e, hc]⟩
 rw [this] at hb
 cases hb
theorem zwn {l : List Prt} {k : Nat} {p : Prt} {c : Nat} (hp : l[k]? = some p) (hc : p.c = (c : Int)) (hpos : Pos l) (hb : (mskP (l.take k)).testBit c = true) : ¬ Apart l := fun h => by
 obtain ⟨a, ha, e⟩ := (zcx (fun x hx => hpos x (List.mem_of_mem_take hx)) c).1 hb
 have h2 : Apart (l.take (k + 1)) := h.sublist (List.take_sublist _ _)
 rw [zew hp, Apart, List.pairwise_append] at h2
 exact h2.2.2 a ha p (by simp) (by rw [e, hc])
set_option maxRecDepth 100000 in
theorem zhw (Ad : Nat -> Addr) {ex : Option Nat} {B : Nat} {W : World} {sb : Nat} {c : CV} {s : SD} (h : Sto ex B W sb c s) (hE : Env8 W Ad) {v : Value} {l : List Prt} (hv : PRow W v l) (hl : l.length <= 90) :
  Calls Tryz.prog 151 #[.pointer (some ⟨sb, 0, none⟩), v] W fun e W' => ∃ r, e = .returned r /\ Er Ad W' r (chkL s.ws l) 2 /\ Below W.heap.size W W' := by
 obtain ⟨va, vc, rfl, -⟩ := id hv
 have hli : (l.length : Int) <= 90 := by omega
 have H := hid h
 have HE := hid hE
 have HV := hid hv
 have hw16 := h.okw.1
 clear h hE hv
 go_enter Tryz.func151, Tryz.ntmps151
 go_wp2_with fail
 go_loopg [5, 6, 7, 13] l.length (fun gh _ _ _ q wr => ∃ k : Nat, k <= l.length /\ gh = l.length - k /\ q = .int .i64 (k : Int) /\ Hid (∀ p ∈ l.take k, fitP s.ws p = true) /\ Hid (Below W.heap.size W wr))
 case atStart => exact ⟨0, Nat.zero_le _, rfl, rfl, (show ∀ p ∈ l.take 0, fitP s.ws p = true from fun p hp => by simp at hp), Below.refl _ _⟩
 case round =>
  obtain ⟨k, hk, rfl, rfl, HF, HB⟩ := hrel
  by_cases hlt : k < l.length
  ·have hki : (k : Int) < (l.length : Int) := by omega
   obtain ⟨p, hp⟩ := zal l k hlt
   obtain ⟨b, o, rfl, d0, d1, d2, d3, d4, d5⟩ := (HV.out.later HB.out).at hp
   obtain ⟨w3, hw3⟩ : ∃ w3, w3 = wr.alloc (.cells #[.int .i64 p.c, .int .i64 p.v0, .int .i64 p.v1, .int .i64 p.v2, .int .i64 p.v3, .int .i64 p.t] 89) := ⟨_, rfl⟩
   have b3 : Below W.heap.size W w3 := by rw [hw3]; exact HB.out.alloc HB.out.size _
   have y : w3.heap[wr.heap.size]? = some (.cells p.arr 89 (0, 0)) := by rw [hw3]; exact heap_alloc_new wr _
   have y0 := zaa y (j := 0) rfl
   have y1 := zaa y (j := 1) rfl
   have y2 := zaa y (j := 2) rfl
   have y3 := zaa y (j := 3) rfl
   have y4 := zaa y (j := 4) rfl
   have y5 := zaa y (j := 5) rfl
   have CK := hid (zbl Ad (H.out.later b3) (HE.out.later b3) p)
   have HW3 := hid hw3
   have B3 := hid b3
   have HP := hid hp
   clear hw3 b3 y hp
   cases hf : fitP s.ws p
   ·rw [hf] at CK
    have HU := hid (zxc (List.mem_of_getElem? HP.out) hf)
    go_upto_region 4 with fail
    rw [<- HW3.out]
    go_wp2_with fail
    refine CK.out.mono ?_
    rintro e w4 ⟨v4, rfl, q1, q2⟩
    rcases q1 with ⟨q1, -⟩ | ⟨-, t, q, rfl, d, hd⟩
    ·cases q1
    have IT := hid (Sc.zmc k (by omega) w4)
    have AC := hid (zep Ad (Sc.dig k) _ 1 _ w4 hd)
    have B4 := hid (B3.out.trans (q2.mono B3.out.size))
    clear q2 hd CK y0 y1 y2 y3 y4 y5
    go_wp2_with fail
    refine IT.out.mono ?_
    rintro e w5 ⟨rfl, rfl⟩
    go_wp2_with fail
    refine AC.out.mono ?_
    rintro e w6 ⟨t6, q6, rfl, hv6, hb6⟩
    have V6 := hid hv6
    have B6 := hid (B4.out.trans (hb6.mono B4.out.size))
    clear hv6 hb6 IT AC
    go_wp2_with fail
    go_ret
    exact ⟨_, rfl, by rw [HU.out]; exact Er.of (by decide) V6.out, B6.out⟩
   rw [hf] at CK
   have HF' : Hid (∀ p ∈ l.take (k + 1), fitP s.ws p = true) := fun x hx => by
    rw [zew HP.out] at hx
    rcases List.mem_append.1 hx with hx | hx
    ·exact HF.out x hx
    simp at hx; rw [hx]; exact hf
   go_upto_region 4 with fail
   rw [<- HW3.out]
   go_wp2_with fail
   refine CK.out.mono ?_
   rintro e w4 ⟨v4, rfl, q1, q2⟩
   rcases q1 with ⟨-, rfl⟩ | ⟨q1, -⟩
   ·have B4 := hid (B3.out.trans (q2.mono B3.out.size))
    clear q2 CK y0 y1 y2 y3 y4 y5
    go_wp2_with fail
    go_roundg (l.length - (k + 1))
    case measure => omega
    case rel => exact ⟨k + 1, by omega, rfl, by go_num, HF'.out, B4.out⟩
   simp at q1
  have hki : ¬ ((k : Int) < (l.length : Int)) := by omega
  obtain rfl : k = l.length := by omega
  have hall := HF.out
  rw [List.take_length] at hall
  have HALL := hid hall
  have HPOS : Hid (∀ p ∈ l, 0 <= p.c /\ p.c < 16) := fun p hp => by have := Rs.zeq (hall p hp); omega
  rename World => wo
  clear hall HF
  go_wp2_with fail
  go_loopg [8, 9, 10, 30] l.length (fun gh sv _ _ q wr => ∃ k m : Nat, k <= l.length /\ gh = l.length - k /\ q = .int .i64 (k : Int) /\ sv = .int .u32 (m : Int) /\ Hid (m = mskP (l.take k)) /\ Hid (m < 65536) /\ Hid (Apart (l.take k)) /\ Hid (Below W.heap.size W wr))
  case atStart => exact ⟨0, 0, Nat.zero_le _, rfl, rfl, rfl, rfl, (show (0 : Nat) < 65536 by decide), (show Apart (l.take 0) by simp [Apart]), HB.out⟩
  case round =>
   obtain ⟨k, m, hk, rfl, rfl, rfl, HM, HM6, HAP, HB2⟩ := hrel
   by_cases hlt : k < l.length
   ·have hki : (k : Int) < (l.length : Int) := by omega
    obtain ⟨p, hp⟩ := zal l k hlt
    obtain ⟨b, o, rfl, d0, d1, d2, d3, d4, d5⟩ := (HV.out.later HB2.out).at hp
    have hpos := HPOS.out p (List.mem_of_getElem? hp)
    obtain ⟨cc, hc⟩ : ∃ cc : Nat, p.c = (cc : Int) := ⟨p.c.toNat, by omega⟩
    have hc16 : cc < 16 := by omega
    have HP := hid hp
    have HC := hid hc
    have HS := hid (fun w => At.zgb m cc (by have := HM6.out; omega) (by omega) w)
    have hb' : Below W.heap.size W (wr.alloc (.cells #[.int .i64 (cc : Int), .int .i64 p.v0, .int .i64 p.v1, .int .i64 p.v2, .int .i64 p.v3, .int .i64 p.t] 89)) := HB2.out.alloc HB2.out.size _
    cases ht : m.testBit cc
    ·have WI := hid (fun w => At.zzu m cc (by have := HM6.out; omega) (by omega) w)
     have HN : Hid (wi m cc = mskP (l.take (k + 1))) := by show _ = _; rw [zsb hp hc, <- HM.out]
     have HN6 : Hid (wi m cc < 65536) := At.z2v (n := 16) HM6.out hc16
     have HA' : Hid (Apart (l.take (k + 1))) := ztg hp hc (fun x hx => (HPOS.out x hx).1) HAP.out (by rw [<- HM.out]; exact ht)
     have HB' := hid hb'
     rw [ht] at HS
     generalize wi m cc = m2 at *
     clear hp hpos ht HM HM6 hb'
     go_wp2_with (first
      | (go_at_call 94; refine (HS.out _).mono ?_; rintro e w2 ⟨rfl, rfl⟩)
      | (go_at_call 133; refine (WI.out _).mono ?_; rintro e w2 ⟨rfl, rfl⟩))
     go_roundg (l.length - (k + 1))
     case measure => omega
     case rel => exact ⟨k + 1, m2, by omega, rfl, by go_num, rfl, HN.out, HN6.out, HA'.out, HB'.out⟩
    rw [ht] at HS
    have HU : Hid (chkL s.ws l = 9) := by
     show chkL s.ws l = 9
     unfold chkL
     rw [if_pos (List.all_eq_true.2 HALL.out), if_neg]
     exact zwn hp hc (fun x hx => (HPOS.out x hx).1) (by rw [<- HM.out]; exact ht)
    obtain ⟨w3, hw3⟩ : ∃ w3, w3 = wr.alloc (.cells #[.int .i64 (cc : Int), .int .i64 p.v0, .int .i64 p.v1, .int .i64 p.v2, .int .i64 p.v3, .int .i64 p.t] 89) := ⟨_, rfl⟩
    have y : w3.heap[wr.heap.size]? = some (.cells #[.int .i64 (cc : Int), .int .i64 p.v0, .int .i64 p.v1, .int .i64 p.v2, .int .i64 p.v3, .int .i64 p.t] 89 (0, 0)) := by rw [hw3]; exact heap_alloc_new wr _
    have y0 := zaa y (j := 0) rfl
    rw [<- hw3] at hb'
    have B3 := hid hb'
    have HW3 := hid hw3
    have IT := hid (Sc.zmc k (by omega))
    have KE : Hid (∀ W', Below w3.heap.size w3 W' -> W'.cell? ⟨6, 0, none⟩ = some (.iface 330 (.pointer (some (Ad 9))))) := fun W' hb => e9 ((HE.out.later B3.out).later hb)
    have AC : Hid (∀ W', Calls Tryz.prog 38 #[.string (Sc.dig k), .iface 330 (.pointer (some (Ad 9)))] W' fun e w' => ∃ t q, e = .returned (.iface t q) /\ Err Ad w' (.iface t q) 9 1 /\ Below W'.heap.size W' w') := fun W' => zep Ad (Sc.dig k) _ 9 0 W' (zck Ad _ 9 (by decide))
    clear hp hpos ht HM HM6 hb' y hw3
    go_upto_region 12 with fail
    rw [<- HW3.out]
    go_wp2_with (go_at_call 94; refine (HS.out _).mono ?_; rintro e w2 ⟨rfl, hq⟩; obtain rfl := hq.symm)
    go_region_held3 (fun W' => W'.cell? ⟨6, 0, none⟩ = some (.iface 330 (.pointer (some (Ad 9)))))
     (first | exact KE.out _ (Below.refl _ _).drew | exact KE.out _ (Below.refl _ _) | exact KE.out _ B6.out)
     (first
      | (go_at_call 127; refine (IT.out _).mono ?_; rintro e w5 ⟨rfl, rfl⟩)
      | (go_at_call 38; refine (AC.out _).mono ?_; rintro e w6 ⟨t6, q6, rfl, hv6, hb6⟩; have V6 := hid hv6; have B6 : Hid (Below w3.heap.size w3 w6) := (by first | exact (Below.refl _ _).drew.trans hb6 | exact (Below.refl _ _).drew.drew.trans hb6 | exact hb6); clear hv6 hb6))
    have B7 : Hid (Below W.heap.size W w6) := B3.out.trans (B6.out.mono B3.out.size)
    clear B6 KE AC IT
    go_wp2_with fail
    go_ret
    exact ⟨_, rfl, by rw [HU.out]; exact Er.of (by decide) V6.out, B7.out⟩
   have hki : ¬ ((k : Int) < (l.length : Int)) := by omega
   obtain rfl : k = l.length := by omega
   have HU : Hid (chkL s.ws l = 0) := by
    show chkL s.ws l = 0
    have := HAP.out
    rw [List.take_length] at this
    unfold chkL
    rw [if_pos (List.all_eq_true.2 HALL.out)]
    exact if_pos this
   go_wp2_with fail
   go_ret
   exact ⟨_, rfl, by rw [HU.out]; exact Er.none _ _, HB2.out⟩
end So
namespace So
open Go.RowKit Go.Shelf Go.Maps
open Co (I64)
open Rs (Prt SD insP insr zeh zfw)
theorem zgm (p : Prt) : ∀ l : List Prt, (insr p l).Perm (p :: l)
 | [] => by simp [insr]
 | x :: l => by
  unfold insr
  split
  ·exact List.Perm.refl _
  exact ((zgm p l).cons x).trans (List.Perm.swap p x l)
def zbb (l : List Prt) : List Prt := l.foldl insP []
theorem zxo (l : List Prt) (p : Prt) : zbb (l ++ [p]) = insP (zbb l) p := by unfold zbb; rw [List.foldl_append]; rfl
theorem zoh : ∀ (l acc : List Prt), (l.foldl insP acc).Perm (acc ++ l)
 | [], acc => by simp
 | p :: l, acc => by
  rw [List.foldl_cons]
  refine (zoh l _).trans ?_
  rw [zeh]
  refine ((zgm p acc).append_right l).trans ?_
  exact List.perm_middle.symm
theorem zdy (l : List Prt) : l.Perm (zbb l) := by
 have := zoh l []
 simpa [zbb] using this.symm
theorem zjx : ∀ (l acc : List Prt), acc.Pairwise (fun x y => x.c < y.c) -> Apart (acc ++ l) -> (l.foldl insP acc).Pairwise (fun x y => x.c < y.c)
 | [], acc, h, _ => h
 | p :: l, acc, h, ha => by
  rw [List.foldl_cons]
  have hp : ∀ x ∈ acc, x.c ≠ p.c := fun x hx => by
   rw [Apart, List.pairwise_append] at ha
   exact ha.2.2 x hx p (by simp)
  refine zjx l _ ?_ ?_
  ·rw [zeh]; exact zfw h hp
  rw [zeh]
  exact zfi ha (List.perm_middle.trans (((zgm p acc).append_right l).symm))
theorem zzx {ws : List Nat} {l : List Prt} (h : chkL ws l = 0) (ht : ∀ p ∈ l, I64 p.t) : okE ws (zbb l) := by
 obtain ⟨h1, h2⟩ := yay h
 refine ⟨⟨zjx l [] (by simp) (by simpa using h2), fun x hx => ?_⟩, fun x hx => ?_⟩
 ·exact Rs.zeq (h1 x ((zdy l).mem_iff.2 hx))
 have := (zdy l).mem_iff.2 hx
 exact ⟨h1 x this, ht x this⟩
end So
namespace So
open Go.RowKit Go.Shelf Go.Maps
open Co (I64)
open At (St bAl zaa zab zac)
open Ro (z1c)
open Rs (Prt SD PRow)
theorem z3v {W : World} {k : Nat} (h : W.heap[k]? = some (.cells #[.int .i64 0, .int .i64 0] 144 (0, 0))) (a b : Value) : ((W.setCell ⟨k, 0, none⟩ a).setCell ⟨k, 1, none⟩ b).heap[k]? = some (.cells #[a, b] 144 (0, 0)) :=
 heap_setCell_same _ k 1 _ 144 b (heap_setCell_same W k 0 _ 144 a h)
theorem ybb (W : World) (k : Nat) (a b : Value) : St (fun x => x = k) W ((W.setCell ⟨k, 0, none⟩ a).setCell ⟨k, 1, none⟩ b) :=
 (St.setCell (S := fun x => x = k) (p := ⟨k, 0, none⟩) a rfl).trans (St.setCell (S := fun x => x = k) (p := ⟨k, 1, none⟩) b rfl) fun _ _ q => q
theorem z3i {Ad : Nat -> Addr} {W : World} {t : TypeId} {q : Value} {b : ByteArray} {k : Nat} (h0 : k ≠ 0) (h : z1c Ad W (.iface t q) b k) : Er Ad W (.iface t q) k 1 := Er.of h0 (d := 1) ⟨[b], h⟩
theorem Er.zero {Ad : Nat -> Addr} {W : World} {v : Value} {n : Nat} (h : Er Ad W v 0 n) : v = .nilIface := h.elim (fun q => q.2) fun q => absurd rfl q.1
theorem z5f {S : Nat -> Prop} {a b : World} (h : Ro.St S a b) : St S a b := ⟨h.os, h.tape, h.output, h.size, h.block⟩
set_option maxRecDepth 100000 in
theorem zvt (Ad : Nat -> Addr) {B : Nat} {W : World} {sb : Nat} {c : CV} {s : SD} (h : Sto none B W sb c s) (hE : Env8 W Ad) {v : Value} {l : List Prt} (hv : PRow W v l) (hl : l.length <= 90) (hc : chkL s.ws l = 0) (hf : s.r.free = []) :
  Calls Tryz.prog 116 #[.pointer (some ⟨sb, 0, none⟩), v] W fun e W' => ∃ r, e = .returned (.tuple #[.agg #[.int .i64 0, .int .i64 0], r]) /\ Er Ad W' r 6 /\ Below W.heap.size W W' := by
 obtain ⟨w1, hw1⟩ : ∃ w1, w1 = W.alloc (.cells #[.int .i64 0, .int .i64 0] 144) := ⟨_, rfl⟩
 have b1 : Below W.heap.size W w1 := by rw [hw1]; exact bAl _ _
 have r1 : w1.heap[W.heap.size]? = some (.cells #[.int .i64 0, .int .i64 0] 144 (0, 0)) := by rw [hw1]; exact heap_alloc_new W _
 have CK := hid (zhw Ad (h.later b1) (hE.later b1) (hv.later b1) hl)
 rw [hc] at CK
 have H1 := hid (h.later b1)
 have HE := hid (hE.later b1)
 have HW1 := hid hw1
 have B1 := hid b1
 have R1 := hid r1
 clear hw1 b1 hE r1 h hv
 go_enter Tryz.func116, Tryz.ntmps116
 go_upto_region 1 with fail
 rw [<- HW1.out]
 go_wp2_with fail
 refine CK.out.mono ?_
 rintro e w2 ⟨r, rfl, q1, q2⟩
 obtain rfl := q1.zero
 have H2 := hid (H1.out.later q2)
 have c3 := H2.out.c3
 have TK := hid (Ro.z1w Ad H2.out.rol (Env8.four (HE.out.later q2)) hf)
 have B2 := hid (B1.out.trans (q2.mono B1.out.size))
 have R2 := hid (zab q2 (Nat.le_refl _) R1.out)
 clear q2 CK R1 hf
 go_wp2_with fail
 refine TK.out.mono ?_
 rintro e w3 ⟨b, rfl, hbb, hv3, hb3⟩
 obtain ⟨w4, hw4⟩ : ∃ w4, w4 = w3.alloc (.cells #[.int .i64 0, .int .i64 0] 144) := ⟨_, rfl⟩
 have b4 : Below w3.heap.size w3 w4 := by rw [hw4]; exact bAl _ _
 have AC := hid (fun str => z7u Ad str _ 6 w4 (m := 9) ((z3i (by decide) hv3).later b4))
 have B4 := hid ((B2.out.trans (hb3.mono B2.out.size)).trans (b4.mono (Nat.le_trans B2.out.size hb3.size)))
 have R4 := hid (zab b4 (Nat.le_refl _) (zab hb3 (Nat.le_refl _) R2.out))
 have HW4 := hid hw4
 clear hv3 hb3 b4 hw4 TK c3
 go_upto_region 7 with fail
 rw [<- HW4.out]
 go_wp2_with fail
 refine (AC.out _).mono ?_
 rintro e w5 ⟨r5, rfl, hv5, hb5⟩
 have HV := hid hv5
 have B5 := hid (B4.out.trans (hb5.mono B4.out.size))
 have R5 := hid (zab hb5 (Nat.le_refl _) R4.out)
 have d0 := zaa R5.out (j := 0) rfl
 have d1 := zaa R5.out (j := 1) rfl
 have f0 := zac R5.out 0
 have f1 := zac R5.out 1
 clear hv5 hb5 AC R4 B4
 go_wp2_with fail
 have hsame : (w5.setCell ⟨W.heap.size, 0, none⟩ (.int .i64 0)).setCell ⟨W.heap.size, 1, none⟩ (.int .i64 0) = w5 := by
  rw [Co.zbj R5.out rfl, Co.zbj R5.out rfl]
 rw [hsame]
 exact bodyPost_ret (v := .tuple #[.agg #[.int .i64 0, .int .i64 0], r5]) (by simp [results, Tryz.results116, go_sem, d0, d1]) rfl ⟨_, rfl, HV.out, B5.out⟩
set_option maxRecDepth 100000 in
theorem zml (Ad : Nat -> Addr) {B : Nat} {W : World} {sb : Nat} {c : CV} {s : SD} (h : Sto none B W sb c s) (hE : Env8 W Ad) {v : Value} {l : List Prt} (hv : zbg (fun k => c.f k ≠ (0, 0, 0)) W v l) (hl : l.length <= 90) (hc : chkL s.ws l = 0) (hti : ∀ p ∈ l, I64 p.t) {f : List Nat} {i : Nat} (hf : s.r.free = f ++ [i]) (ht : c.t <= 1000) :
  Calls Tryz.prog 116 #[.pointer (some ⟨sb, 0, none⟩), v] W fun e W' => e = .returned (.tuple #[.agg #[.int .i64 (i : Int), .int .i64 ((s.r.gens.getD i 0 + 1 : Nat) : Int)], .nilIface]) /\ ∃ c', Sto none B W' sb c' (entered { s with r := s.r.took i } i (zbb l)) /\ c'.t = c.t + 1 /\ Gw c c' W W' := by
 obtain ⟨w1, hw1⟩ : ∃ w1, w1 = W.alloc (.cells #[.int .i64 0, .int .i64 0] 144) := ⟨_, rfl⟩
 have b1 : Below W.heap.size W w1 := by rw [hw1]; exact bAl _ _
 have r1 : w1.heap[W.heap.size]? = some (.cells #[.int .i64 0, .int .i64 0] 144 (0, 0)) := by rw [hw1]; exact heap_alloc_new W _
 have CK := hid (zhw Ad (h.later b1) (hE.later b1) (hv.row.later b1) hl)
 rw [hc] at CK
 have H := hid h
 have HW1 := hid hw1
 have B1 := hid b1
 have R1 := hid r1
 have HV := hid hv.more
 have HF := hid hf
 have HO := hid (zzx hc hti)
 clear hw1 b1 hE r1 h hv hf hc hti
 go_enter Tryz.func116, Tryz.ntmps116
 go_upto_region 1 with fail
 rw [<- HW1.out]
 go_wp2_with fail
 refine CK.out.mono ?_
 rintro e w2 ⟨r, rfl, q1, q2⟩
 obtain rfl := q1.zero
 have B2 := hid (B1.out.trans (q2.mono B1.out.size))
 have H2 := hid (H.out.later B2.out)
 have c3 := H2.out.c3
 have TK := hid (Ro.z3t H2.out.rol HF.out ht)
 have R2 := hid (zab q2 (Nat.le_refl _) R1.out)
 clear q2 CK R1
 go_wp2_with fail
 refine TK.out.mono ?_
 rintro e w3 ⟨rfl, hr3, hs3⟩
 have hs3' := z5f hs3
 obtain ⟨f3, h3, g3⟩ := H2.out.roll hr3 hs3' (fun k hk => .inl hk) (H2.out.lk.take H.out.rol.ok HF.out) (by have := H.out.small; omega)
 obtain ⟨gn, hgn⟩ : ∃ gn : Nat, gn = s.r.gens.getD i 0 + 1 := ⟨_, rfl⟩
 have hgi : ((s.r.gens.getD i 0 : Nat) : Int) + 1 = (gn : Int) := by rw [hgn]; simp
 rw [hgi]
 have G3 := (Gw.of_below (c := c) B2.out).trans g3
 have hal : al { s with r := s.r.took i } i gn := (zfv H.out.rol.ok HF.out i gn).2 (.inl ⟨rfl, hgn⟩)
 have O3 : Hid (f3 W.heap.size = (0, 0, 0)) := Classical.byContradiction fun q => by
  rcases g3.new _ q with q | q
  ·have := (H.out.lt _ q).2; omega
  have := (Array.getElem?_eq_some_iff.1 R2.out).1; omega
 have x3 : w3.heap[W.heap.size]? = some (.cells #[.int .i64 0, .int .i64 0] 144 (0, 0)) := g3.st.at R2.out fun q => by have := (H.out.lt _ q).2; omega
 have v3 := (HV.out.kept (T := fun _ => False) (St.of_below B2.out) fun _ q => q.elim).kept g3.st fun k q => .inl q
 obtain ⟨w4, hw4⟩ : ∃ w4, w4 = w3.alloc (.cells #[.int .i64 (i : Int), .int .i64 (gn : Int)] 144) := ⟨_, rfl⟩
 have b4 : Below w3.heap.size w3 w4 := by rw [hw4]; exact bAl _ _
 have r4 : w4.heap[w3.heap.size]? = some (.cells #[.int .i64 (i : Int), .int .i64 (gn : Int)] 144 (0, 0)) := by rw [hw4]; exact heap_alloc_new w3 _
 have EN := hid (ziy (h3.later b4) hal ((v3.kept (T := fun _ => False) (St.of_below b4) fun _ q => q.elim).mono fun k q => G3.new k q) (zdy l) HO.out)
 have H3 := hid h3
 have GG3 := hid (G3.trans (Gw.of_below b4))
 have X4 := hid (zab b4 (Nat.le_refl _) x3)
 have R4 := hid r4
 have HW4 := hid hw4
 have HGN := hid hgn
 have y0 := zaa r4 (j := 0) rfl
 have y1 := zaa r4 (j := 1) rfl
 have hW3 : W.heap.size < w3.heap.size := (Array.getElem?_eq_some_iff.1 x3).1
 clear hr3 hs3 hs3' h3 g3 hgn hgi G3 hal x3 v3 b4 r4 hw4 TK c3 R2
 go_upto_region 7 with fail
 rw [<- HW4.out]
 go_wp2_with fail
 refine EN.out.mono ?_
 rintro e w5 ⟨rfl, c5, h5, t5, g5⟩
 have G5 := hid (GG3.out.trans g5)
 have H5 := hid h5
 have T5 := hid t5
 have x5 : w5.heap[W.heap.size]? = some (.cells #[.int .i64 0, .int .i64 0] 144 (0, 0)) := g5.st.at X4.out fun q => q O3.out
 have r5 : w5.heap[w3.heap.size]? = some (.cells #[.int .i64 (i : Int), .int .i64 (gn : Int)] 144 (0, 0)) := g5.st.at R4.out fun q => by have := (H3.out.lt _ q).2; omega
 have X5 := hid x5
 have z0 := zaa r5 (j := 0) rfl
 have z1 := zaa r5 (j := 1) rfl
 have d0 := zaa x5 (j := 0) rfl
 have d1 := zaa x5 (j := 1) rfl
 have f0 := zac x5 0
 have f1 := zac x5 1
 have hne : ¬ (w3.heap.size = W.heap.size) := by omega
 have PS := hid (ybb w5 W.heap.size (.int .i64 (i : Int)) (.int .i64 (gn : Int)))
 have PB := hid (z3v x5 (.int .i64 (i : Int)) (.int .i64 (gn : Int)))
 have O5 : Hid (c5.f W.heap.size = (0, 0, 0)) := Classical.byContradiction fun q => by
  rcases g5.new _ q with q | q
  ·exact q O3.out
  have := (Array.getElem?_eq_some_iff.1 X4.out).1; omega
 clear h5 t5 g5 x5 r5 EN
 go_wp2_with fail
 obtain ⟨w6, hw6⟩ : ∃ w6, w6 = (w5.setCell ⟨W.heap.size, 0, none⟩ (.int .i64 (i : Int))).setCell ⟨W.heap.size, 1, none⟩ (.int .i64 (gn : Int)) := ⟨_, rfl⟩
 rw [<- hw6] at PS PB ⊢
 have t0 := zaa PB.out (j := 0) rfl
 have t1 := zaa PB.out (j := 1) rfl
 have hk : ∀ k, c5.f k ≠ (0, 0, 0) -> ¬ k = W.heap.size := fun k q e => q (by rw [e]; exact O5.out)
 refine bodyPost_ret (v := .tuple #[.agg #[.int .i64 (i : Int), .int .i64 (gn : Int)], .nilIface]) (by simp [results, Tryz.results116, go_sem, t0, t1]) rfl ⟨by rw [HGN.out], c5, H5.out.keep PS.out hk, T5.out, ?_⟩
 refine ⟨G5.out.st.trans PS.out fun k hk' e => ?_, G5.out.new⟩
 omega
end So
namespace So
open Go.RowKit Go.Shelf Go.Maps
open Co (I64 Pt zaj)
open At (St bAl zaa zab lst zbc)
open Rs (SD Prts)
section
variable {ex : Option Nat} {B : Nat} {W : World} {sb : Nat} {c : CV} {s : SD}
theorem zvc (h : Sto ex B W sb c s) : Calls Tryz.prog 61 #[.pointer (some ⟨sb, 0, none⟩)] W fun e W' => e = .returned (.int .i64 (s.r.count : Int)) /\ W' = W := by
 have c3 := h.c3
 have CN := hid (Ro.zxm h.rol)
 clear h
 go_enter Tryz.func61, Tryz.ntmps61
 go_wp2_with fail
 refine CN.out.mono ?_
 rintro e w1 ⟨rfl, rfl⟩
 go_wp2_with fail
 go_ret
 exact ⟨rfl, rfl⟩
end
theorem z1l : ∀ args w, (callFunc 123 args).run Tryz.prog w = .ok (.enter 123 args) w := enters_of Tryz.func123 (by kernel_rfl) rfl
section
variable {B : Nat} {W : World} {sb : Nat} {c : CV} {s : SD}
theorem Sto.ztp {ex : Option Nat} (h : Sto ex B W sb c s) {i g n j m : Nat} {own : List (Nat × Nat)} {y : Nat × Nat} (A : At1 c s i g n j m own y) : Tb B W c.f n (c.tv n) m s.ws own (rowsOf s own) := by
 obtain ⟨m', q1, q2⟩ := h.tabs n own A.tab
 rw [A.set] at q1
 obtain rfl : m = m' := by simpa using q1
 exact q2
theorem Sto.m16 {ex : Option Nat} (h : Sto ex B W sb c s) {i g n j m : Nat} {own : List (Nat × Nat)} {y : Nat × Nat} (A : At1 c s i g n j m own y) : m < 65536 := by
 have := h.atl.ok.u16 (List.mem_of_getElem? A.set)
 exact this
theorem reading {f : Nat -> Nat × Nat × Nat} {n : Nat} {x : TV} {m : Nat} {ws : List Nat} {own : List (Nat × Nat)} {rows : Nat -> List Pt} (h : Tb B W f n x m ws own rows) (hm : m < 65536) (j xb : Nat) (hj : j < own.length) (hrows : ∀ c, m.testBit c = true -> (rows c).length = own.length) (hlt : ∀ k, f k ≠ (0, 0, 0) -> k < W.heap.size)
  (hx : W.heap[xb]? = some (.cells #[.int .i64 (j : Int)] 3 (0, 0))) :
  Calls Tryz.prog 122 #[.pointer (some ⟨x.tb, 0, none⟩), .func (.func 123) #[] #[.pointer (some ⟨xb, 0, none⟩)]] W fun e W' => ∃ v, e = .returned v /\ Prts W.heap.size W' v ((lst 32 m).map fun c => mk c ((rows c).getD j Pt.zero)) /\ Below W.heap.size W W' := by
 have hc16 : ∀ c, m.testBit c = true -> c < 16 := fun c hc => Nat.lt_of_not_le fun q => by
  rw [At.zfq (n := 16) hm q] at hc
  cases hc
 refine (zsn 123 #[.pointer (some ⟨xb, 0, none⟩)] z1l x.tb x.cm m x.cb (fun c => mk c ((rows c).getD j Pt.zero)) (fun _ w => Tb B w f n x m ws own rows /\ w.heap[xb]? = some (.cells #[.int .i64 (j : Int)] 3 (0, 0)) /\ Below W.heap.size W w) hm ⟨h, hx, Below.refl _ _⟩ h.c0 ?_ ?_ ?_ ?_).mono fun e W' ⟨v, q1, q2, q3, q4⟩ => ⟨v, q1, q2, q3.2.2⟩
 ·rintro k w w' ⟨k1, k2, k3⟩ hb
  exact ⟨k1.later hb, zab hb (Nat.le_refl _) k2, k3.trans (hb.mono k3.size)⟩
 ·rintro k w ⟨k1, k2, k3⟩
  refine ⟨k1.c2, fun c hc => ?_⟩
  have := k1.look (c : Int) (zaj (by omega) (by have := hc16 c hc; omega))
  rw [zjq] at this
  unfold zcv at this
  rw [if_pos hc] at this
  exact this
 ·rintro k w w' lv q ⟨k1, k2, k3⟩ hw hp hs
  have hlv : ∀ y, lv.ownBlock = some y -> W.heap.size <= y := fun y hy => (hp.lt y hy).1
  have hxl := (Array.getElem?_eq_some_iff.1 hx).1
  refine ⟨k1.move hs (fun y hy e => ?_) fun _ _ _ => Iff.rfl, hs.at k2 fun e => ?_, k3.trans (hs.below hlv hw)⟩
  ·have := hlv y e
   have := hlt y (zan hy).1
   omega
  have := hlv _ e; omega
 rintro k c w hc ⟨k1, k2, k3⟩ hw
 have hcb := ((zbc m c 32).1 (List.mem_of_getElem? hc)).2
 obtain ⟨wd, q1, q2⟩ := k1.col c hcb
 have hl := hrows c hcb
 obtain ⟨p, hp⟩ := zal (rows c) j (by omega)
 have ep : (rows c).getD j Pt.zero = p := by rw [List.getD_eq_getElem?_getD, hp]; rfl
 refine (z2l q2 j p hp xb (zaa k2 rfl)).mono ?_
 rintro e w' ⟨rfl, hb⟩
 exact ⟨by rw [ep, z5d], ⟨k1.later hb, zab hb (Nat.le_refl _) k2, k3.trans (hb.mono k3.size)⟩, St.of_below hb⟩
set_option maxRecDepth 100000 in
theorem z1f {i g : Nat} (h : Sto none B W sb c s) (ha : al s i g) : Calls Tryz.prog 78 #[.pointer (some ⟨sb, 0, none⟩), .agg #[.int .i64 (i : Int), .int .i64 (g : Int)]] W fun e W' => ∃ v, e = .returned (.tuple #[v, .nilIface]) /\ Prts W.heap.size W' v (s.at i) /\ Below W.heap.size W W' := by
 obtain ⟨n, j, m, own, y, A⟩ := h.stands ha (by simp)
 obtain ⟨w1, hw1⟩ : ∃ w1, w1 = W.alloc (.cells #[.int .i64 (i : Int), .int .i64 (g : Int)] 144) := ⟨_, rfl⟩
 have b1 : Below W.heap.size W w1 := by rw [hw1]; exact bAl _ _
 have r1 : w1.heap[W.heap.size]? = some (.cells #[.int .i64 (i : Int), .int .i64 (g : Int)] 144 (0, 0)) := by rw [hw1]; exact heap_alloc_new W _
 have d0 := zaa r1 (j := 0) rfl
 have d1 := zaa r1 (j := 1) rfl
 have h1 := h.later b1
 have FD := hid (zfd h1 ha A)
 have TB := hid (h1.ztp A)
 have HW1 := hid hw1
 have B1 := hid b1
 have AA := hid A
 have H := hid h
 have hm16 := h.m16 A
 obtain ⟨x, hx⟩ : ∃ x, x = c.tv n := ⟨_, rfl⟩
 rw [<- hx] at FD TB
 clear hw1 b1 r1 h h1 ha A hx
 go_enter Tryz.func78, Tryz.ntmps78
 go_upto_region 1 with fail
 rw [<- HW1.out]
 go_wp2_with fail
 refine FD.out.mono ?_
 rintro e w2 ⟨rfl, hb⟩
 obtain ⟨w3, hw3⟩ : ∃ w3, w3 = w2.alloc (.cells #[.int .i64 (j : Int)] 3) := ⟨_, rfl⟩
 have b3 : Below w2.heap.size w2 w3 := by rw [hw3]; exact bAl _ _
 have r3 : w3.heap[w2.heap.size]? = some (.cells #[.int .i64 (j : Int)] 3 (0, 0)) := by rw [hw3]; exact heap_alloc_new w2 _
 have B3 := hid ((B1.out.trans (hb.mono B1.out.size)).trans (b3.mono (Nat.le_trans B1.out.size hb.size)))
 have hj := (List.getElem?_eq_some_iff.1 AA.out.here).1
 have RD := hid (reading ((TB.out.later hb).later b3) hm16 j w2.heap.size hj (fun q _ => by unfold rowsOf; simp) (fun k hk => Nat.lt_of_lt_of_le (H.out.lt k hk).2 B3.out.size) r3)
 rw [AA.out.msk, zkp AA.out.ok H.out.okw.1 AA.out.here] at RD
 have HW3 := hid hw3
 clear hb FD b3 hw3 r3
 go_upto_region 2 with fail
 rw [<- HW3.out]
 go_wp2_with fail
 refine RD.out.mono ?_
 rintro e w4 ⟨v, rfl, hv, hb⟩
 have HV := hid (hv.lower B3.out.size)
 have B4 := hid (B3.out.trans (hb.mono B3.out.size))
 clear hv hb RD
 go_wp2_with fail
 exact bodyPost_ret (v := .tuple #[v, .nilIface]) (by simp [results, Tryz.results78, go_sem]) rfl ⟨_, rfl, HV.out, B4.out⟩
set_option maxRecDepth 100000 in
theorem zgx {i g : Nat} (h : Sto none B W sb c s) (ha : al s i g) : Calls Tryz.prog 117 #[.pointer (some ⟨sb, 0, none⟩), .agg #[.int .i64 (i : Int), .int .i64 (g : Int)]] W fun e W' => ∃ v, e = .returned (.tuple #[v, .nilIface]) /\ Prts W.heap.size W' v (s.at i) /\ ∃ c', Sto none B W' sb c' { s with r := s.r.freed i } /\ c'.t = c.t /\ Gw c c' W W' /\ ∀ k, v.ownBlock = some k -> c'.f k = (0, 0, 0) := by
 obtain ⟨n, j, m, own, y, A⟩ := h.stands ha (by simp)
 obtain ⟨w1, hw1⟩ : ∃ w1, w1 = W.alloc (.cells #[.int .i64 (i : Int), .int .i64 (g : Int)] 144) := ⟨_, rfl⟩
 have b1 : Below W.heap.size W w1 := by rw [hw1]; exact bAl _ _
 have r1 : w1.heap[W.heap.size]? = some (.cells #[.int .i64 (i : Int), .int .i64 (g : Int)] 144 (0, 0)) := by rw [hw1]; exact heap_alloc_new W _
 have d0 := zaa r1 (j := 0) rfl
 have d1 := zaa r1 (j := 1) rfl
 have h1 := h.later b1
 have FD := hid (zfd h1 ha A)
 have HW1 := hid hw1
 have B1 := hid b1
 have R1 := hid r1
 have H := hid h
 have H1 := hid h1
 have HA := hid ha
 have hgI : I64 (g : Int) := by
  have hg := (zgv s i g).1 ha
  have ho := h.rol.old g (List.mem_of_getElem? hg.2)
  have := h.small
  exact zaj (by omega) (by omega)
 have hiI : I64 (i : Int) := by have := ziv ha; have := h.rol.small; exact zaj (by omega) (by omega)
 have HGI := hid hgI
 have HII := hid hiI
 clear hw1 b1 r1 h h1 ha A hgI hiI
 go_enter Tryz.func117, Tryz.ntmps117
 go_upto_region 1 with fail
 rw [<- HW1.out]
 go_wp2_with fail
 refine FD.out.mono ?_
 rintro e w2 ⟨rfl, hb⟩
 have B2 := hid (B1.out.trans (hb.mono B1.out.size))
 have r2 := zab hb (Nat.le_refl _) R1.out
 have x0 := zaa r2 (j := 0) rfl
 have x1 := zaa r2 (j := 1) rfl
 have R2 := hid r2
 have LV := hid (zmz (H1.out.later hb) HA.out)
 clear hb FD r2 d0 d1
 go_wp2_with fail
 refine LV.out.mono ?_
 rintro e w3 ⟨v, rfl, hv, c3, h3, t3, g3, n3⟩
 have H3 := hid h3
 have T3 := hid t3
 have G3 := hid ((Gw.of_below B2.out).trans g3)
 have hWl : W.heap.size < w2.heap.size := (Array.getElem?_eq_some_iff.1 R2.out).1
 have V3 := hid (hv.lower B2.out.size)
 have r3 : w3.heap[W.heap.size]? = some (.cells #[.int .i64 (i : Int), .int .i64 (g : Int)] 144 (0, 0)) := g3.st.at R2.out fun q => by have := (H.out.lt _ q).2; omega
 have VN : Hid (∀ k, v.ownBlock = some k -> ¬ c3.f k ≠ (0, 0, 0)) := fun k hk q => by
  have e1 := (hv.lt k hk).1
  have e2 := (H.out.lt k (n3 k q)).2
  omega
 have R3 := hid r3
 have KK : Hid (∀ W', Below w3.heap.size w3 W' -> W'.cell? ⟨sb, 3, none⟩ = some (.pointer (some ⟨c3.rb, 0, none⟩)) /\ W'.cell? ⟨W.heap.size, 0, none⟩ = some (.int .i64 (i : Int)) /\ W'.cell? ⟨W.heap.size, 1, none⟩ = some (.int .i64 (g : Int))) := fun W' hb =>
  ⟨(H3.out.later hb).c3, zaa (zab hb (Nat.le_refl _) R3.out) rfl, zaa (zab hb (Nat.le_refl _) R3.out) rfl⟩
 have O3 : Hid (¬ c3.f W.heap.size ≠ (0, 0, 0)) := fun q => by have := (H.out.lt _ (n3 _ q)).2; omega
 have FR : Hid (∀ W', Below w3.heap.size w3 W' -> Calls Tryz.prog 155 #[.pointer (some ⟨c3.rb, 0, none⟩), .agg #[.int .i64 (i : Int), .int .i64 (g : Int)]] W' fun e W2 => e = .returned .nilIface /\ (∃ c', Sto none B W2 sb c' { s with r := s.r.freed i } /\ c'.t = c.t /\ Gw c c' W W2 /\ ∀ k, v.ownBlock = some k -> c'.f k = (0, 0, 0)) /\ Prts W.heap.size W2 v (s.at i) /\ W2.cell? ⟨sb, 3, none⟩ = some (.pointer (some ⟨c3.rb, 0, none⟩)) /\ W2.cell? ⟨W.heap.size, 0, none⟩ = some (.int .i64 (i : Int)) /\ W2.cell? ⟨W.heap.size, 1, none⟩ = some (.int .i64 (g : Int))) := fun W' hb => by
  have h' := H3.out.later hb
  refine (Ro.z1i h'.rol i (g : Int) HII.out HGI.out HA.out).mono ?_
  rintro e W2 ⟨rfl, S', q1, q2, q3⟩
  have q2' := z5f q2
  obtain ⟨f', k1, k2⟩ := h'.roll q1 q2' q3 (h'.lk.free HA.out) h'.small
  have g' := (G3.out.trans (Gw.of_below hb)).trans k2
  have r' := k2.st.at (zab hb (Nat.le_refl _) R3.out) O3.out
  refine ⟨rfl, ⟨_, k1, T3.out, g', fun k hk => Classical.byContradiction fun q => (k2.new k q).elim (VN.out k hk) fun q' => by have := (V3.out.lt k hk).2; have := hb.size; omega⟩, (V3.out.later hb).kept k2.st VN.out, k1.c3, zaa r' rfl, zaa r' rfl⟩
 clear hv h3 t3 g3 n3 r3 LV x0 x1
 go_wp2_with fail
 go_region_held3 (fun W' => W'.cell? ⟨sb, 3, none⟩ = some (.pointer (some ⟨c3.rb, 0, none⟩)) /\ W'.cell? ⟨W.heap.size, 0, none⟩ = some (.int .i64 (i : Int)) /\ W'.cell? ⟨W.heap.size, 1, none⟩ = some (.int .i64 (g : Int))) (first | exact KK.out _ (Below.refl _ _).drew | exact KK.out _ (Below.refl _ _) | exact K4.out)
  ((go_at_call 155; refine (FR.out _ (by first | exact (Below.refl _ _).drew | exact Below.refl _ _)).mono ?_; rintro e w4 ⟨rfl, hc4, hv4, hk4⟩; have K4 := hid hk4; have C4 := hid hc4; have V4 := hid hv4; clear hk4 hc4 hv4))
 clear K4 KK FR
 go_wp2_with fail
 exact bodyPost_ret (v := .tuple #[v, .nilIface]) (by simp [results, Tryz.results117, go_sem]) rfl ⟨_, rfl, V4.out, C4.out⟩
end
end So
namespace So
open Go.RowKit Go.Shelf Go.Maps
open Co (Pt Col CS lies zca zcs put6)
open At (bAl zab)
section
variable {B : Nat} {W : World} {rb : Nat} {s : CS} {S : Nat -> Prop}
set_option maxRecDepth 100000 in
theorem z3x (h : Col B W rb s S) (n : Nat) (p : Pt) (hp : s.rows[n]? = some p) :
  Calls Tryz.prog 126 #[.pointer (some ⟨rb, 0, none⟩), .int .i64 (n : Int)] W fun e W' => e = .returned (.tuple #[p.val s.comp, .nilIface]) /\ Below W.heap.size W W' := by
 obtain ⟨W1, hW1⟩ : ∃ W1, W1 = W.alloc (.cells #[.int .i64 0, .int .i64 0, .int .i64 0, .int .i64 0, .int .i64 0, .int .i64 0] 89) := ⟨_, rfl⟩
 have b1 : Below W.heap.size W W1 := by rw [hW1]; exact bAl _ _
 have r1 : W1.heap[W.heap.size]? = some (.cells (Pt.zero.arr 0) 89 (0, 0)) := by rw [hW1]; exact heap_alloc_new W _
 have TK := hid (Co.zxj (h.later b1) n p hp)
 have HW1 := hid hW1
 have B1 := hid b1
 have R1 := hid r1
 unfold Pt.val at TK ⊢
 generalize s.comp = cm at *
 clear h hp b1 hW1 r1
 go_enter Tryz.func126, Tryz.ntmps126
 go_upto_region 1 with fail
 rw [<- HW1.out]
 go_wp2_with fail
 refine TK.out.mono ?_
 rintro e w2 ⟨rfl, hb⟩
 have B2 := hid (B1.out.trans (hb.mono B1.out.size))
 have r2 : w2.heap[W.heap.size]? = some (.cells (Pt.zero.arr 0) 89 (0, 0)) := zab hb (Nat.le_refl _) R1.out
 have R2 := hid r2
 obtain ⟨x0, x1, x2, x3, x4, x5, f0, f1, f2, f3, f4, f5⟩ := lies r2
 clear hb r2 TK
 go_wp2_with fail
 have PB := zca R2.out rfl cm p
 have PS := zcs w2 W.heap.size cm p
 unfold put6 at PB PS
 obtain ⟨d0, d1, d2, d3, d4, d5, -, -, -, -, -, -⟩ := lies PB
 generalize (((((w2.setCell ⟨W.heap.size, 0, none⟩ (.int .i64 cm)).setCell ⟨W.heap.size, 1, none⟩ (.int .i64 p.a)).setCell ⟨W.heap.size, 2, none⟩ (.int .i64 p.b)).setCell ⟨W.heap.size, 3, none⟩ (.int .i64 p.c)).setCell ⟨W.heap.size, 4, none⟩ (.int .i64 p.d)).setCell ⟨W.heap.size, 5, none⟩ (.int .i64 p.t) = w3 at *
 exact bodyPost_ret (v := .tuple #[.agg #[.int .i64 cm, .int .i64 p.a, .int .i64 p.b, .int .i64 p.c, .int .i64 p.d, .int .i64 p.t], .nilIface]) (by simp [results, Tryz.results126, go_sem, d0, d1, d2, d3, d4, d5]) rfl ⟨rfl, B2.out.trans (PS.below (B := W.heap.size) (fun k hk => by omega) B2.out.size)⟩
end
end So
namespace So
open Go.RowKit Go.Shelf Go.Maps
open Co (I64 Pt zaj lies zca zcs put6)
open At (St bAl zaa zab)
open Rs (SD)
def pw (W : World) (i g : Int) : World := (W.alloc (.cells #[.int .i64 i, .int .i64 g] 144)).alloc (.cells #[.int .i64 0, .int .i64 0, .int .i64 0, .int .i64 0, .int .i64 0, .int .i64 0] 89)
theorem zgo (W : World) (i g : Int) : Below W.heap.size W (pw W i g) /\ (pw W i g).heap[W.heap.size]? = some (.cells #[.int .i64 i, .int .i64 g] 144 (0, 0)) /\ (pw W i g).heap[W.heap.size + 1]? = some (.cells (Pt.zero.arr 0) 89 (0, 0)) /\ (pw W i g).heap.size = W.heap.size + 2 := by
 obtain ⟨a, b, c⟩ := Rs.zde W #[.int .i64 i, .int .i64 g] #[.int .i64 0, .int .i64 0, .int .i64 0, .int .i64 0, .int .i64 0, .int .i64 0] 144 89
 exact ⟨a, b, c, by unfold pw; simp⟩
section
variable {Ad : Nat -> Addr} {W : World}
set_option maxRecDepth 100000 in
theorem zwk {ex : Option Nat} {B : Nat} {sb : Nat} {c : CV} {s : SD} {i g n j m : Nat} {own : List (Nat × Nat)} {y : Nat × Nat} (h : Sto ex B W sb c s) (hE : Env8 W Ad) (ha : al s i g) (A : At1 c s i g n j m own y) (comp : Int) (hc : I64 comp) (hno : lk (zcv m (c.tv n).cb) comp = none) (fv : Value) :
  Calls Tryz.prog 125 #[.pointer (some ⟨sb, 0, none⟩), .agg #[.int .i64 (i : Int), .int .i64 (g : Int)], .int .i64 comp, fv] W fun e W' => e = .returned (.tuple #[.agg #[.int .i64 0, .int .i64 0, .int .i64 0, .int .i64 0, .int .i64 0, .int .i64 0], .iface 330 (.pointer (some (Ad 7)))]) /\ Below W.heap.size W W' := by
 obtain ⟨b1, r1, p1, z1⟩ := zgo W (i : Int) (g : Int)
 obtain ⟨w1, hw1⟩ : ∃ w1, w1 = pw W (i : Int) (g : Int) := ⟨_, rfl⟩
 rw [<- hw1] at b1 r1 p1 z1
 have d0 := zaa r1 (j := 0) rfl
 have d1 := zaa r1 (j := 1) rfl
 have h1 := h.later b1
 have FD := hid (zfd h1 ha A)
 have TB := hid (h1.ztp A)
 have HE := hid (hE.later b1)
 have HW1 := hid hw1
 have B1 := hid b1
 have P1 := hid p1
 unfold pw at HW1
 obtain ⟨x, hx⟩ : ∃ x, x = c.tv n := ⟨_, rfl⟩
 rw [<- hx] at FD TB hno
 have HC := hid hc
 have HNO := hid hno
 clear hw1 b1 r1 h h1 p1 z1 hE ha A hc hx hno
 go_enter Tryz.func125, Tryz.ntmps125
 go_upto_region 1 with fail
 rw [<- HW1.out]
 go_wp2_with fail
 refine FD.out.mono ?_
 rintro e w2 ⟨rfl, hb⟩
 have T2 := TB.out.later hb
 have t2 := T2.c2
 have LK := T2.look_ok comp HC.out
 rw [HNO.out] at LK
 change (Instr.lookup 269 (.map (some x.cm)) (.int .i64 comp) true).run Tryz.prog w2 = .ok (.tuple #[.pointer none, .bool false]) w2 at LK
 have B2 := hid (B1.out.trans (hb.mono B1.out.size))
 have r2 := zab hb (Nat.le_refl _) P1.out
 have R2 := hid r2
 obtain ⟨x0, x1, x2, x3, x4, x5, f0, f1, f2, f3, f4, f5⟩ := lies r2
 have c7 := e7 (HE.out.later hb)
 have HZ : Hid (put6 w2 (W.heap.size + 1) 0 Pt.zero = w2) := Co.zje r2
 unfold put6 at HZ
 have hz : (((((w2.setCell ⟨W.heap.size + 1, 0, none⟩ (.int .i64 0)).setCell ⟨W.heap.size + 1, 1, none⟩ (.int .i64 0)).setCell ⟨W.heap.size + 1, 2, none⟩ (.int .i64 0)).setCell ⟨W.heap.size + 1, 3, none⟩ (.int .i64 0)).setCell ⟨W.heap.size + 1, 4, none⟩ (.int .i64 0)).setCell ⟨W.heap.size + 1, 5, none⟩ (.int .i64 0) = w2 := HZ.out
 have K7 : Hid (w2.cell? ⟨9, 0, none⟩ = some (.iface 330 (.pointer (some (Ad 7))))) := c7
 clear hb FD r2 T2
 go_wp2_with fail
 go_region_held3 (fun W' => W'.cell? ⟨9, 0, none⟩ = some (.iface 330 (.pointer (some (Ad 7))))) (first | exact K7.out | (refine Eq.trans (congrArg (fun W' => World.cell? W' _) ?_) K7.out; exact hz)) (fail)
 have y0 : w2.drew.cell? ⟨W.heap.size + 1, 0, none⟩ = _ := x0
 have y1 : w2.drew.cell? ⟨W.heap.size + 1, 1, none⟩ = _ := x1
 have y2 : w2.drew.cell? ⟨W.heap.size + 1, 2, none⟩ = _ := x2
 have y3 : w2.drew.cell? ⟨W.heap.size + 1, 3, none⟩ = _ := x3
 have y4 : w2.drew.cell? ⟨W.heap.size + 1, 4, none⟩ = _ := x4
 have y5 : w2.drew.cell? ⟨W.heap.size + 1, 5, none⟩ = _ := x5
 clear hz x0 x1 x2 x3 x4 x5 f0 f1 f2 f3 f4 f5
 go_wp2_with fail
 exact bodyPost_ret (v := .tuple #[.agg #[.int .i64 0, .int .i64 0, .int .i64 0, .int .i64 0, .int .i64 0, .int .i64 0], .iface 330 (.pointer (some (Ad 7)))]) (by simp [results, Tryz.results125, go_sem, y0, y1, y2, y3, y4, y5, Pt.zero]) rfl ⟨rfl, B2.out.drew⟩
set_option maxRecDepth 100000 in
theorem z7e {ex : Option Nat} {B : Nat} {sb : Nat} {c : CV} {s : SD} {i g n j m : Nat} {own : List (Nat × Nat)} {y : Nat × Nat} (h : Sto ex B W sb c s) (ha : al s i g) (A : At1 c s i g n j m own y) (cc : Nat) (hc16 : cc < 16) (hbit : m.testBit cc = true) (fk : Nat) (lb : Array Value) (eg : ∀ args w, (callFunc fk args).run Tryz.prog w = .ok (.enter fk args) w) (p : Pt) (Q : World -> Prop)
  (hQ : ∀ w w', Q w -> St (fun k => k = W.heap.size + 1) w w' -> Q w')
  (HC : ∀ W', Below W.heap.size W W' -> W.heap.size + 2 <= W'.heap.size -> Calls Tryz.prog fk (#[.pointer (some ⟨(c.tv n).cb cc, 0, none⟩), .int .i64 (j : Int)] ++ lb) W' fun e W2 => e = .returned (.tuple #[p.val (cc : Int), .nilIface]) /\ Q W2 /\ St (fun k => k < W.heap.size) W' W2) :
  Calls Tryz.prog 125 #[.pointer (some ⟨sb, 0, none⟩), .agg #[.int .i64 (i : Int), .int .i64 (g : Int)], .int .i64 (cc : Int), .func (.func fk) #[] lb] W fun e W' => e = .returned (.tuple #[p.val (cc : Int), .nilIface]) /\ Q W' := by
 obtain ⟨b1, r1, p1, z1⟩ := zgo W (i : Int) (g : Int)
 obtain ⟨w1, hw1⟩ : ∃ w1, w1 = pw W (i : Int) (g : Int) := ⟨_, rfl⟩
 rw [<- hw1] at b1 r1 p1 z1
 have d0 := zaa r1 (j := 0) rfl
 have d1 := zaa r1 (j := 1) rfl
 have h1 := h.later b1
 have FD := hid (zfd h1 ha A)
 have TB := hid (h1.ztp A)
 have HW1 := hid hw1
 have B1 := hid b1
 have P1 := hid p1
 unfold pw at HW1
 obtain ⟨x, hx⟩ : ∃ x, x = c.tv n := ⟨_, rfl⟩
 rw [<- hx] at FD TB HC
 have HCC := hid HC
 have HQ := hid hQ
 have LE : lk (zcv m x.cb) (cc : Int) = some (x.cb cc) := by rw [zjq]; unfold zcv; rw [if_pos hbit]
 have HLE := hid LE
 unfold Pt.val at HCC ⊢
 clear hw1 b1 r1 h h1 p1 ha A hx hbit LE HC hQ
 go_enter Tryz.func125, Tryz.ntmps125
 go_upto_region 1 with fail
 rw [<- HW1.out]
 go_wp2_with fail
 refine FD.out.mono ?_
 rintro e w2 ⟨rfl, hb⟩
 have T2 := TB.out.later hb
 have t2 := T2.c2
 have LK := T2.look_ok (cc : Int) (zaj (by omega) (by omega))
 rw [HLE.out] at LK
 change (Instr.lookup 269 (.map (some x.cm)) (.int .i64 (cc : Int)) true).run Tryz.prog w2 = .ok (.tuple #[.pointer (some ⟨x.cb cc, 0, none⟩), .bool true]) w2 at LK
 have B2 := hid (B1.out.trans (hb.mono B1.out.size))
 have CL := hid (HCC.out w2 B2.out (by have := hb.size; omega))
 have r2 := zab hb (Nat.le_refl _) P1.out
 have R2 := hid r2
 clear hb FD r2 T2 HCC
 go_wp2_with fail
 refine CL.out.mono ?_
 rintro e w3 ⟨rfl, q3, s3⟩
 have r3 := s3.at R2.out (by omega)
 have R3 := hid r3
 have Q3 := hid q3
 obtain ⟨x0, x1, x2, x3, x4, x5, f0, f1, f2, f3, f4, f5⟩ := lies r3
 clear q3 s3 CL r3 LK t2
 go_wp2_with fail
 have PB := zca R3.out rfl (cc : Int) p
 have PS := zqd (zcs w3 (W.heap.size + 1) (cc : Int) p)
 unfold put6 at PB PS
 obtain ⟨d0, d1, d2, d3, d4, d5, -, -, -, -, -, -⟩ := lies PB
 generalize (((((w3.setCell ⟨W.heap.size + 1, 0, none⟩ (.int .i64 (cc : Int))).setCell ⟨W.heap.size + 1, 1, none⟩ (.int .i64 p.a)).setCell ⟨W.heap.size + 1, 2, none⟩ (.int .i64 p.b)).setCell ⟨W.heap.size + 1, 3, none⟩ (.int .i64 p.c)).setCell ⟨W.heap.size + 1, 4, none⟩ (.int .i64 p.d)).setCell ⟨W.heap.size + 1, 5, none⟩ (.int .i64 p.t) = w4 at *
 exact bodyPost_ret (v := .tuple #[.agg #[.int .i64 (cc : Int), .int .i64 p.a, .int .i64 p.b, .int .i64 p.c, .int .i64 p.d, .int .i64 p.t], .nilIface]) (by simp [results, Tryz.results125, go_sem, d0, d1, d2, d3, d4, d5]) rfl ⟨rfl, HQ.out _ _ Q3.out PS⟩
end
structure Kept (RB : Nat) (Q : World -> Prop) : Prop where
 later : ∀ w w', Q w -> Below w.heap.size w w' -> Q w'
 st : ∀ w w', Q w -> St (fun k => k = RB) w w' -> Q w'
theorem ych {w w' : World} {b cb : Nat} {a0 a1 a2 a3 a4 a5 : Value} (h : w.cell? ⟨b, 0, none⟩ = some a0 /\ w.cell? ⟨b, 1, none⟩ = some a1 /\ w.cell? ⟨b, 2, none⟩ = some a2 /\ w.cell? ⟨b, 3, none⟩ = some a3 /\ w.cell? ⟨b, 4, none⟩ = some a4 /\ w.cell? ⟨b, 5, none⟩ = some a5) (hs : St (fun k => k = cb) w w') (hn : ¬ b = cb) :
  w'.cell? ⟨b, 0, none⟩ = some a0 /\ w'.cell? ⟨b, 1, none⟩ = some a1 /\ w'.cell? ⟨b, 2, none⟩ = some a2 /\ w'.cell? ⟨b, 3, none⟩ = some a3 /\ w'.cell? ⟨b, 4, none⟩ = some a4 /\ w'.cell? ⟨b, 5, none⟩ = some a5 :=
 ⟨zax hs h.1 hn, zax hs h.2.1 hn, zax hs h.2.2.1 hn, zax hs h.2.2.2.1 hn, zax hs h.2.2.2.2.1 hn, zax hs h.2.2.2.2.2 hn⟩
theorem yao {Ad : Nat -> Addr} {w : World} {b k n : Nat} {r : Value} {cm : Int} {u : Pt} (hb : w.heap[b]? = some (.cells (Pt.zero.arr 0) 89 (0, 0))) (hz : k = 0 \/ (u = Pt.zero /\ cm = 0)) (h : Er Ad w r k n) : Er Ad (put6 w b cm u) r k n := by
 rcases hz with rfl | ⟨rfl, rfl⟩
 ·exact .inl ⟨rfl, h.zero⟩
 rw [Co.zje hb]; exact h
section
variable {Ad : Nat -> Addr} {W : World} {Q : World -> Prop}
set_option maxRecDepth 100000 in
theorem zrq {rv : Value} {i g comp cm : Int} {u : Pt} {k : Nat} (hQ : Kept (W.heap.size + 1) Q) (hz : k = 0 \/ (u = Pt.zero /\ cm = 0))
  (HP : Calls Tryz.prog 125 #[rv, .agg #[.int .i64 i, .int .i64 g], .int .i64 comp, .func (.func 126) #[] #[]] (pw W i g) fun e W2 => ∃ r, e = .returned (.tuple #[u.val cm, r]) /\ Er Ad W2 r k 2 /\ Q W2 /\ W2.heap[W.heap.size + 1]? = some (.cells (Pt.zero.arr 0) 89 (0, 0))) :
  Calls Tryz.prog 79 #[rv, .agg #[.int .i64 i, .int .i64 g], .int .i64 comp] W fun e W' => ∃ r, e = .returned (.tuple #[u.val cm, r]) /\ Er Ad W' r k /\ Q W' := by
 obtain ⟨b1, r1, p1, z1⟩ := zgo W i g
 obtain ⟨w1, hw1⟩ : ∃ w1, w1 = pw W i g := ⟨_, rfl⟩
 rw [<- hw1] at b1 r1 p1 z1 HP
 have d0 := zaa r1 (j := 0) rfl
 have d1 := zaa r1 (j := 1) rfl
 have PC := hid HP
 have HW1 := hid hw1
 have HQ := hid hQ
 have HZ := hid hz
 unfold pw at HW1
 unfold Pt.val at PC ⊢
 clear hw1 b1 r1 p1 HP hQ hz z1
 go_enter Tryz.func79, Tryz.ntmps79
 go_upto_region 1 with fail
 rw [<- HW1.out]
 go_wp2_with fail
 refine PC.out.mono ?_
 rintro e w2 ⟨r, rfl, hr, hq, hp⟩
 obtain ⟨w3, hw3⟩ : ∃ w3, w3 = w2.alloc (.cells #[.int .i64 cm, .int .i64 u.a, .int .i64 u.b, .int .i64 u.c, .int .i64 u.d, .int .i64 u.t] 89) := ⟨_, rfl⟩
 have b3 : Below w2.heap.size w2 w3 := by rw [hw3]; exact bAl _ _
 have v3 : w3.heap[w2.heap.size]? = some (.cells (u.arr cm) 89 (0, 0)) := by rw [hw3]; exact heap_alloc_new w2 _
 have HW3 := hid hw3
 have R3 := hid (hr.later b3)
 have Q3 := hid (HQ.out.later _ _ hq b3)
 have P3 := hid (zab b3 (Nat.le_refl _) hp)
 have V3 := hid v3
 have hne : W.heap.size + 1 < w2.heap.size := (Array.getElem?_eq_some_iff.1 hp).1
 have KK : Hid (∀ W', Below w3.heap.size w3 W' -> W'.cell? ⟨w2.heap.size, 0, none⟩ = some (.int .i64 cm) /\ W'.cell? ⟨w2.heap.size, 1, none⟩ = some (.int .i64 u.a) /\ W'.cell? ⟨w2.heap.size, 2, none⟩ = some (.int .i64 u.b) /\ W'.cell? ⟨w2.heap.size, 3, none⟩ = some (.int .i64 u.c) /\ W'.cell? ⟨w2.heap.size, 4, none⟩ = some (.int .i64 u.d) /\ W'.cell? ⟨w2.heap.size, 5, none⟩ = some (.int .i64 u.t)) := fun W' hb => by
  have q := zab hb (Nat.le_refl _) V3.out
  exact ⟨zaa q rfl, zaa q rfl, zaa q rfl, zaa q rfl, zaa q rfl, zaa q rfl⟩
 have AC : Hid (∀ str W', Below w3.heap.size w3 W' -> Calls Tryz.prog 38 #[.string str, r] W' fun e w' => ∃ v', e = .returned v' /\ Er Ad w' v' k /\ Below w3.heap.size w3 w') := fun str W' hb => (z7u Ad str r k W' (m := 9) (R3.out.later hb)).mono fun e w' ⟨v', q1, q2, q3⟩ => ⟨v', q1, q2, hb.trans (q3.mono hb.size)⟩
 clear hr hq hp b3 v3 hw3 PC
 go_upto_region 2 with fail
 rw [<- HW3.out]
 go_region_held3 (fun W' => W'.cell? ⟨w2.heap.size, 0, none⟩ = some (.int .i64 cm) /\ W'.cell? ⟨w2.heap.size, 1, none⟩ = some (.int .i64 u.a) /\ W'.cell? ⟨w2.heap.size, 2, none⟩ = some (.int .i64 u.b) /\ W'.cell? ⟨w2.heap.size, 3, none⟩ = some (.int .i64 u.c) /\ W'.cell? ⟨w2.heap.size, 4, none⟩ = some (.int .i64 u.d) /\ W'.cell? ⟨w2.heap.size, 5, none⟩ = some (.int .i64 u.t))
  (first | ((conv in (World.setCell _ _ _) => skip); exact K5.out) | exact KK.out _ B4.out | exact KK.out _ (Below.refl _ _).drew | exact KK.out _ (Below.refl _ _))
  ((go_at_call 38; refine (AC.out _ _ (by first | exact (Below.refl _ _).drew | exact Below.refl _ _)).mono ?_; rintro e w4 ⟨r4, rfl, hr4, hb4⟩; have B4 := hid hb4; have R4 := hid hr4; have P4 := hid (zab hb4 (Nat.le_refl _) P3.out); obtain ⟨x0, x1, x2, x3, x4, x5, f0, f1, f2, f3, f4, f5⟩ := lies P4.out; have PS := hid (zqd (zcs w4 (W.heap.size + 1) cm u)); have K5 := hid (ych (KK.out _ hb4) PS.out (by omega)); unfold put6 at PS K5; clear hr4 hb4))
 have RN := hid (yao P4.out HZ.out R4.out)
 have PB := zca P4.out rfl cm u
 have QN := hid (HQ.out.st _ _ (HQ.out.later _ _ Q3.out B4.out) (zqd (zcs w4 (W.heap.size + 1) cm u)))
 unfold put6 at PB RN QN
 obtain ⟨d0, d1, d2, d3, d4, d5, -, -, -, -, -, -⟩ := lies PB
 clear K5 KK AC PS x0 x1 x2 x3 x4 x5 f0 f1 f2 f3 f4 f5
 generalize (((((w4.setCell ⟨W.heap.size + 1, 0, none⟩ (.int .i64 cm)).setCell ⟨W.heap.size + 1, 1, none⟩ (.int .i64 u.a)).setCell ⟨W.heap.size + 1, 2, none⟩ (.int .i64 u.b)).setCell ⟨W.heap.size + 1, 3, none⟩ (.int .i64 u.c)).setCell ⟨W.heap.size + 1, 4, none⟩ (.int .i64 u.d)).setCell ⟨W.heap.size + 1, 5, none⟩ (.int .i64 u.t) = w5 at *
 go_wp2_with fail
 exact bodyPost_ret (v := .tuple #[.agg #[.int .i64 cm, .int .i64 u.a, .int .i64 u.b, .int .i64 u.c, .int .i64 u.d, .int .i64 u.t], r4]) (by simp [results, Tryz.results79, go_sem, d0, d1, d2, d3, d4, d5]) rfl ⟨_, rfl, RN.out, QN.out⟩
end
end So
namespace So
open Go.RowKit Go.Shelf Go.Maps
open At (zaa zab)
open Rs (Prt SD fitP)
def ew (W : World) (i g : Int) (p : Prt) : World := (W.alloc (.cells #[.int .i64 i, .int .i64 g] 144)).alloc (.cells #[.int .i64 p.c, .int .i64 p.v0, .int .i64 p.v1, .int .i64 p.v2, .int .i64 p.v3, .int .i64 p.t] 89)
theorem zlo (W : World) (i g : Int) (p : Prt) : Below W.heap.size W (ew W i g p) /\ (ew W i g p).heap[W.heap.size]? = some (.cells #[.int .i64 i, .int .i64 g] 144 (0, 0)) /\ (ew W i g p).heap[W.heap.size + 1]? = some (.cells p.arr 89 (0, 0)) /\ (ew W i g p).heap.size = W.heap.size + 2 := by
 obtain ⟨a, b, c⟩ := Rs.zde W #[.int .i64 i, .int .i64 g] #[.int .i64 p.c, .int .i64 p.v0, .int .i64 p.v1, .int .i64 p.v2, .int .i64 p.v3, .int .i64 p.t] 144 89
 exact ⟨a, b, c, by unfold ew; simp⟩
section
variable {Ad : Nat -> Addr} {W : World}
set_option maxRecDepth 100000 in
theorem zgn {ex : Option Nat} {B : Nat} {sb : Nat} {c : CV} {s : SD} {i g n j m : Nat} {own : List (Nat × Nat)} {y : Nat × Nat} (h : Sto ex B W sb c s) (hE : Env8 W Ad) (ha : al s i g) (A : At1 c s i g n j m own y) (p : Prt) :
  Calls Tryz.prog 162 #[.pointer (some ⟨sb, 0, none⟩), .agg #[.int .i64 (i : Int), .int .i64 (g : Int)], .agg #[.int .i64 p.c, .int .i64 p.v0, .int .i64 p.v1, .int .i64 p.v2, .int .i64 p.v3, .int .i64 p.t]] W fun e W' => ∃ r, e = .returned (.tuple #[if fitP s.ws p then .pointer (some ⟨(c.tv n).tb, 0, none⟩) else .pointer none, r]) /\ Er Ad W' r (if fitP s.ws p then 0 else 1) 1 /\ Below W.heap.size W W' := by
 obtain ⟨b1, r1, p1, z1⟩ := zlo W (i : Int) (g : Int) p
 obtain ⟨w1, hw1⟩ : ∃ w1, w1 = ew W (i : Int) (g : Int) p := ⟨_, rfl⟩
 rw [<- hw1] at b1 r1 p1 z1
 have d0 := zaa r1 (j := 0) rfl
 have d1 := zaa r1 (j := 1) rfl
 have h1 := h.later b1
 have FD := hid (zfd h1 ha A)
 have H1 := hid h1
 have HE := hid (hE.later b1)
 have HW1 := hid hw1
 have B1 := hid b1
 have P1 := hid p1
 unfold ew at HW1
 obtain ⟨x, hx⟩ : ∃ x, x = c.tv n := ⟨_, rfl⟩
 rw [<- hx] at FD ⊢
 obtain ⟨fb, hfb⟩ : ∃ fb, fb = fitP s.ws p := ⟨_, rfl⟩
 rw [<- hfb]
 have HFB := hid hfb
 clear hw1 b1 r1 h h1 p1 z1 hE ha A hx hfb
 go_enter Tryz.func162, Tryz.ntmps162
 go_upto_region 1 with fail
 rw [<- HW1.out]
 go_wp2_with fail
 refine FD.out.mono ?_
 rintro e w2 ⟨rfl, hb⟩
 have B2 := hid (B1.out.trans (hb.mono B1.out.size))
 have p2 := zab hb (Nat.le_refl _) P1.out
 have y0 := zaa p2 (j := 0) rfl
 have y1 := zaa p2 (j := 1) rfl
 have y2 := zaa p2 (j := 2) rfl
 have y3 := zaa p2 (j := 3) rfl
 have y4 := zaa p2 (j := 4) rfl
 have y5 := zaa p2 (j := 5) rfl
 have CK := hid (zbl Ad (H1.out.later hb) (HE.out.later hb) p)
 rw [<- HFB.out] at CK
 clear hb FD p2
 go_wp2_with fail
 refine CK.out.mono ?_
 rintro e w3 ⟨r, rfl, hr, hb⟩
 have B3 := hid (B2.out.trans (hb.mono B2.out.size))
 have HR := hid hr
 cases fb
 ·rcases hr with ⟨q, -⟩ | ⟨-, t, q, rfl, d, hd⟩
  ·cases q
  clear hb CK y0 y1 y2 y3 y4 y5 hd
  go_wp2_with fail
  exact bodyPost_ret (v := .tuple #[.pointer none, .iface t q]) (by simp [results, Tryz.results162, go_sem]) rfl ⟨_, rfl, HR.out, B3.out⟩
 obtain rfl := hr.zero
 clear hb CK y0 y1 y2 y3 y4 y5 hr
 go_wp2_with fail
 exact bodyPost_ret (v := .tuple #[.pointer (some ⟨x.tb, 0, none⟩), .nilIface]) (by simp [results, Tryz.results162, go_sem]) rfl ⟨_, rfl, HR.out, B3.out⟩
end
end So
namespace So
open Go.RowKit Go.Shelf Go.Maps
open At (zaa zab zep zck)
open Rs (Prt SD fitP)
section
variable {Ad : Nat -> Addr} {W : World}
set_option maxRecDepth 100000 in
theorem zfa {B : Nat} {sb : Nat} {c : CV} {s : SD} {i g n j m : Nat} {own : List (Nat × Nat)} {y : Nat × Nat} (h : Sto none B W sb c s) (hE : Env8 W Ad) (ha : al s i g) (A : At1 c s i g n j m own y) (p : Prt) (hf : fitP s.ws p = true) {cc : Nat} (hc : p.c = (cc : Int)) (hc16 : cc < 16) (hbit : m.testBit cc = true) :
  Calls Tryz.prog 142 #[.pointer (some ⟨sb, 0, none⟩), .agg #[.int .i64 (i : Int), .int .i64 (g : Int)], .agg #[.int .i64 p.c, .int .i64 p.v0, .int .i64 p.v1, .int .i64 p.v2, .int .i64 p.v3, .int .i64 p.t]] W fun e W' => ∃ r, e = .returned r /\ Er Ad W' r 9 /\ Below W.heap.size W W' := by
 obtain ⟨b1, r1, p1, z1⟩ := zlo W (i : Int) (g : Int) p
 obtain ⟨w1, hw1⟩ : ∃ w1, w1 = ew W (i : Int) (g : Int) p := ⟨_, rfl⟩
 rw [<- hw1] at b1 r1 p1 z1
 have d0 := zaa r1 (j := 0) rfl
 have d1 := zaa r1 (j := 1) rfl
 have y0 : w1.cell? ⟨W.heap.size + 1, 0, none⟩ = some (.int .i64 (cc : Int)) := by rw [<- hc]; exact zaa p1 rfl
 have y1 := zaa p1 (j := 1) rfl
 have y2 := zaa p1 (j := 2) rfl
 have y3 := zaa p1 (j := 3) rfl
 have y4 := zaa p1 (j := 4) rfl
 have y5 := zaa p1 (j := 5) rfl
 have h1 := h.later b1
 have FD := hid (zgn h1 (hE.later b1) ha A p)
 rw [hf] at FD
 have TB := hid (h1.ztp A)
 have HE := hid (hE.later b1)
 have hm16 := h.m16 A
 have HW1 := hid hw1
 have B1 := hid b1
 have P1 := hid p1
 unfold ew at HW1
 obtain ⟨x, hx⟩ : ∃ x, x = c.tv n := ⟨_, rfl⟩
 rw [<- hx] at FD TB
 have SH := hid (fun w => At.zgb m cc (by omega) (by omega) w)
 rw [hbit] at SH
 rw [hc] at FD HW1 ⊢
 have HC := hid hc
 change Hid (Calls Tryz.prog 162 #[.pointer (some ⟨sb, 0, none⟩), .agg #[.int .i64 (i : Int), .int .i64 (g : Int)], .agg #[.int .i64 (cc : Int), .int .i64 p.v0, .int .i64 p.v1, .int .i64 p.v2, .int .i64 p.v3, .int .i64 p.t]] w1 fun e W' => ∃ r, e = .returned (.tuple #[.pointer (some ⟨x.tb, 0, none⟩), r]) /\ Er Ad W' r 0 1 /\ Below w1.heap.size w1 W') at FD
 clear hw1 b1 r1 h h1 p1 z1 hE ha A hx hbit hc hf
 go_enter Tryz.func142, Tryz.ntmps142
 go_upto_region 1 with fail
 rw [<- HW1.out]
 go_wp2_with fail
 refine FD.out.mono ?_
 rintro e w2 ⟨r, rfl, hr, hb⟩
 obtain rfl := hr.zero
 have T2 := hid (TB.out.later hb)
 have P2 := hid (zab hb (Nat.le_refl _) P1.out)
 have E2 := hid (HE.out.later hb)
 have B2 := hid (B1.out.trans (hb.mono B1.out.size))
 have KK : Hid (∀ q, (w2.drewN q).cell? ⟨x.tb, 0, none⟩ = some (.int .u32 (m : Int)) /\ (w2.drewN q).cell? ⟨W.heap.size + 1, 0, none⟩ = some (.int .i64 (cc : Int))) := fun q => by
  have b := At.zad w2 q
  refine ⟨(T2.out.later b).c0, ?_⟩
  have := zaa (zab b (Nat.le_refl _) P2.out) (j := 0) rfl
  rw [<- HC.out]; exact this
 clear hb FD hr y0 y1 y2 y3 y4 y5 d0 d1
 go_wp2_with fail
 go_region_held3 (fun W' => W'.cell? ⟨x.tb, 0, none⟩ = some (.int .u32 (m : Int)) /\ W'.cell? ⟨W.heap.size + 1, 0, none⟩ = some (.int .i64 (cc : Int))) (first | exact KK.out 1 | exact KK.out 0 | exact KK.out 2)
  ((go_at_call 94; refine (SH.out _).mono ?_; rintro e w3 ⟨rfl, hq⟩; obtain rfl := hq.symm))
 have c9 := e9 (E2.out.later (Below.refl _ _).drew)
 have AC := hid (fun str => zep Ad str _ 9 0 w2.drew (zck Ad _ 9 (by decide)))
 clear KK
 go_wp2_with fail
 refine (AC.out _).mono ?_
 rintro e w4 ⟨t, q, rfl, hv, hb⟩
 have HV := hid hv
 have B4 := hid (B2.out.drew.trans (hb.mono B2.out.size))
 clear hv hb AC
 go_wp2_with fail
 go_ret
 exact ⟨_, rfl, Er.of (by decide) HV.out, B4.out⟩
end
end So
namespace So
open Go.RowKit Go.Shelf Go.Maps
open Co (I64 lies)
open At (St bAl zaa zab)
open Rs (Prt SD fitP Prts insP zeh zbh zfs zmv)
theorem zru {ops : Array Oper} {o : Oper} {a : Act} {K : Act -> World -> Prop} {Q : Exit -> Act -> World -> Prop} {E : Prop} (hgd : o.guard = none) (s x : Operand)
  (ho : o.op = .call { callee := .builtin .append, args := #[s, x], argTypes := #[84, 84] }) {B pb : Nat} {wc : World} {v : Value} {l : List Prt} {p : Prt} (hown : Prts B wc v l) (hl : l.length <= 1000) (hB : B <= wc.heap.size) (hpb : wc.heap[pb]? = some (.cells p.arr 89 (0, 0)))
  (hs : a.eval s = v) (hx : a.eval x = .slice (some ⟨pb, 0, none⟩) 1 1)
  (h : ∀ v' w2, Hid (Prts B w2 v' (l ++ [p])) -> Hid (St (fun x => v.ownBlock = some x) wc w2) -> Hid (v'.ownBlock = v.ownBlock \/ ∃ k, v'.ownBlock = some k /\ wc.heap.size <= k) -> K (a.put o.dst v') w2) :
  if Region.wanted o (yielded ops a.tmps) = true then Oper.wp Tryz.prog o a wc K Q else E := by
 obtain ⟨i0, hi, hz0, hz1, hz2⟩ := info_parts zmv
 refine step_append_lies _ hgd s x 84 ho B 89 i0 (.agg #[.int .i64 0, .int .i64 0, .int .i64 0, .int .i64 0, .int .i64 0, .int .i64 0]) 6 48 Tryz.underlying84 hi hz0 hz1 hz2 rfl (by decide) v l.length (zbh l) hs hown ⟨pb, 0, none⟩ 1 1 p.arr.toList hx rfl (fun j u hu => by
  rw [zbx]
  exact zaa hpb (by simpa using hu)) (by intro u hu; simp [Prt.arr] at hu; rcases hu with rfl | rfl | rfl | rfl | rfl | rfl <;> rfl) (by decide) (by unfold maxLen; omega) (by omega) hB wc.heap.size rfl ?_
 intro g' cap w2 ow hg hat hlt
 refine h _ w2 ?_ (St.zam (S := fun x => v.ownBlock = some x) hg fun k e => e) ?_
 ·show World.ownsRow _ _ _ _ _ _ _
  rw [zfs, List.length_append]
  exact ow
 rcases hat with h1 | h1
 ·exact .inl (by rw [h1]; rfl)
 exact .inr ⟨g', rfl, by omega⟩
theorem zrd {S : Nat -> Prop} {B : Nat} {W : World} {v : Value} {l : List Prt} (h : Prts B W v l) (hn : ∀ k, v.ownBlock = some k -> ¬ S k) : zbg S W v l := by
 obtain ⟨a, c, h1, h2⟩ := h.row
 refine ⟨a, c, h1, h2.imp id fun ⟨b, o, q1, q2⟩ => ⟨b, o, q1, hn b (by rw [h1, q1]; rfl), q2⟩⟩
theorem zmw (l : List Prt) (p : Prt) : (l ++ [p]).Perm (insP l p) := by
 rw [zeh]
 exact (List.perm_append_singleton p l).trans (zgm p l).symm
theorem z6g {ws : List Nat} {l : List Prt} {p : Prt} (h : okE ws l) (hf : fitP ws p = true) (ht : I64 p.t) (hno : ∀ x ∈ l, x.c ≠ p.c) : okE ws (insP l p) := by
 refine ⟨h.1.ins hf hno, fun x hx => ?_⟩
 rcases List.mem_append.1 ((zmw l p).mem_iff.2 hx) with hx | hx
 ·exact h.2 x hx
 simp at hx; subst hx; exact ⟨hf, ht⟩
structure Lv (B : Nat) (W : World) (sb : Nat) (c : CV) (s : SD) (i N : Nat) (v : Value) (c3 : CV) (w : World) : Prop where
 sto : Sto (some i) B w sb c3 s
 t : c3.t = c.t
 gw : Gw c c3 W w
 parts : Prts N w v (s.at i)
 out : ∀ k, v.ownBlock = some k -> c3.f k = (0, 0, 0)
 low : ∀ k, c3.f k ≠ (0, 0, 0) -> k < W.heap.size
theorem Lv.later {B : Nat} {W : World} {sb : Nat} {c : CV} {s : SD} {i N : Nat} {v : Value} {c3 : CV} {w w' : World} (h : Lv B W sb c s i N v c3 w) (hb : Below w.heap.size w w') : Lv B W sb c s i N v c3 w' :=
 ⟨h.sto.later hb, h.t, h.gw.trans (Gw.of_below hb), h.parts.later hb, h.out, h.low⟩
theorem zrf {B : Nat} {W W' : World} {sb : Nat} {c : CV} {s : SD} {i g N : Nat} (h : Sto none B W sb c s) (ha : al s i g) (hb : Below W.heap.size W W') (hN : N <= W'.heap.size) (hW : W.heap.size <= N) :
  Calls Tryz.prog 154 #[.pointer (some ⟨sb, 0, none⟩), .agg #[.int .i64 (i : Int), .int .i64 (g : Int)]] W' fun e W2 => ∃ v c3, e = .returned v /\ Lv B W sb c s i N v c3 W2 /\ St (fun k => k < W.heap.size) W' W2 := by
 refine (zmz (h.later hb) ha).mono ?_
 rintro e W2 ⟨v, rfl, hv, c3, h3, t3, g3, n3⟩
 have hlow : ∀ k, c3.f k ≠ (0, 0, 0) -> k < W.heap.size := fun k q => (h.lt k (n3 k q)).2
 refine ⟨v, c3, rfl, ⟨h3, t3, (Gw.of_below hb).trans g3, hv.lower hN, fun k hk => Classical.byContradiction fun q => ?_, hlow⟩, ⟨g3.st.os, g3.st.tape, g3.st.output, g3.st.size, fun k hk hn => g3.st.block k hk fun q => hn (h.lt k q).2⟩⟩
 have e1 := (hv.lt k hk).1
 have e2 := hlow k q
 omega
def Ird (W : World) (i g : Nat) (p : Prt) (W' : World) : Prop := W'.cell? ⟨W.heap.size, 0, none⟩ = some (.int .i64 (i : Int)) /\ W'.cell? ⟨W.heap.size, 1, none⟩ = some (.int .i64 (g : Int)) /\ W'.cell? ⟨W.heap.size + 1, 0, none⟩ = some (.int .i64 p.c) /\ W'.cell? ⟨W.heap.size + 1, 1, none⟩ = some (.int .i64 p.v0) /\ W'.cell? ⟨W.heap.size + 1, 2, none⟩ = some (.int .i64 p.v1) /\ W'.cell? ⟨W.heap.size + 1, 3, none⟩ = some (.int .i64 p.v2) /\ W'.cell? ⟨W.heap.size + 1, 4, none⟩ = some (.int .i64 p.v3) /\ W'.cell? ⟨W.heap.size + 1, 5, none⟩ = some (.int .i64 p.t)
theorem ird {W W' : World} {i g : Nat} {p : Prt} (h1 : W'.heap[W.heap.size]? = some (.cells #[.int .i64 (i : Int), .int .i64 (g : Int)] 144 (0, 0))) (h2 : W'.heap[W.heap.size + 1]? = some (.cells p.arr 89 (0, 0))) : Ird W i g p W' :=
 ⟨zaa h1 rfl, zaa h1 rfl, zaa h2 rfl, zaa h2 rfl, zaa h2 rfl, zaa h2 rfl, zaa h2 rfl, zaa h2 rfl⟩
def Ib (W : World) (i g : Nat) (p : Prt) (w : World) : Prop := w.heap[W.heap.size]? = some (.cells #[.int .i64 (i : Int), .int .i64 (g : Int)] 144 (0, 0)) /\ w.heap[W.heap.size + 1]? = some (.cells p.arr 89 (0, 0))
theorem Ib.read {W w W' : World} {i g : Nat} {p : Prt} (h : Ib W i g p w) (hb : Below w.heap.size w W') : Ird W i g p W' := ird (zab hb (Nat.le_refl _) h.1) (zab hb (Nat.le_refl _) h.2)
theorem Ib.kept {W a b : World} {i g : Nat} {p : Prt} (h : Ib W i g p a) {S : Nat -> Prop} (hs : St S a b) (h0 : ¬ S W.heap.size) (h1 : ¬ S (W.heap.size + 1)) : Ib W i g p b := ⟨hs.at h.1 h0, hs.at h.2 h1⟩
theorem z0p {B : Nat} {W w3 W' : World} {sb : Nat} {c : CV} {s : SD} {i g : Nat} {p : Prt} (h : Sto none B W sb c s) (ha : al s i g) (hb3 : Below W.heap.size W w3) (hz : W.heap.size + 2 <= w3.heap.size) (h1 : Ib W i g p w3) (hb : Below w3.heap.size w3 W') :
  Calls Tryz.prog 154 #[.pointer (some ⟨sb, 0, none⟩), .agg #[.int .i64 (i : Int), .int .i64 (g : Int)]] W' fun e W2 => ∃ v c3, e = .returned v /\ Hid (Lv B W sb c s i (W.heap.size + 2) v c3 W2) /\ Hid (∀ k q, W.heap.size <= k -> W'.heap[k]? = some q -> W2.heap[k]? = some q) /\ Hid (Ib W i g p W2) /\ Hid (∀ W3, Below W2.heap.size W2 W3 -> Ird W i g p W3) := by
 refine (zrf h ha (hb3.trans (hb.mono hb3.size)) (Nat.le_trans hz hb.size) (by omega)).mono ?_
 rintro e W2 ⟨v, c3, rfl, q1, q2⟩
 have e1 := (h1.kept (S := fun _ => False) (St.of_below hb) id id).kept q2 (by omega) (by omega)
 exact ⟨v, c3, rfl, q1, fun k q hk hq => q2.at hq (by omega), e1, fun W3 hb3 => e1.read hb3⟩
theorem zqy {ops : Array Oper} {o : Oper} {a : Act} {K : Act -> World -> Prop} {Q : Exit -> Act -> World -> Prop} {E : Prop} (hgd : o.guard = none) (x y : Operand)
  (ho : o.op = .call { callee := .builtin .append, args := #[x, y], argTypes := #[84, 84] }) {B pb : Nat} {W wc : World} {sb : Nat} {c c3 : CV} {s : SD} {i g : Nat} {v : Value} {p : Prt} (L : Lv B W sb c s i (W.heap.size + 2) v c3 wc) (ib : Ib W i g p wc) (hal : al s i g) (OK : okE s.ws (insP (s.at i) p)) (hl : (s.at i).length <= 1000) (hpb : wc.heap[pb]? = some (.cells p.arr 89 (0, 0)))
  (hs : a.eval x = v) (hx : a.eval y = .slice (some ⟨pb, 0, none⟩) 1 1)
  (h : ∀ v' w2, Hid (∀ W', Below w2.heap.size w2 W' -> Ird W i g p W') -> Hid (∀ W', Below w2.heap.size w2 W' -> Calls Tryz.prog 153 #[.pointer (some ⟨sb, 0, none⟩), .agg #[.int .i64 (i : Int), .int .i64 (g : Int)], v'] W' fun e W2 => e = .returned (.tuple #[]) /\ Hid (∃ c', Sto none B W2 sb c' (entered s i (insP (s.at i) p)) /\ c'.t = c.t /\ Gw c c' W W2) /\ Hid (Ird W i g p W2)) -> K (a.put o.dst v') w2) :
  if Region.wanted o (yielded ops a.tmps) = true then Oper.wp Tryz.prog o a wc K Q else E := by
 have hz1 := (Array.getElem?_eq_some_iff.1 ib.2).1
 refine zru hgd x y ho L.parts hl (by omega) hpb hs hx fun v' w2 q1 q2 q3 => ?_
 have hvn : ∀ k, v.ownBlock = some k -> W.heap.size + 2 <= k := fun k hk => (L.parts.lt k hk).1
 have ib2 := ib.kept q2.out (fun q => by have := hvn _ q; omega) (fun q => by have := hvn _ q; omega)
 have st2 := L.sto.keep q2.out fun k hk q => hk (L.out k q)
 have g2 : Gw c c3 W w2 := ⟨L.gw.st.trans q2.out fun k hk q => by have := hvn _ q; omega, L.gw.new⟩
 have o2 : ∀ k, v'.ownBlock = some k -> c3.f k = (0, 0, 0) := fun k hk => by
  rcases q3.out with q | ⟨k', q, hk'⟩
  ·exact L.out k (q ▸ hk)
  exact Classical.byContradiction fun hn => by
   have e1 := L.low k hn
   rw [q] at hk
   obtain rfl := Option.some.inj hk
   omega
 refine h v' w2 (fun W' hb => ib2.read hb) fun W' hb => ?_
 refine (ziy (st2.later hb) hal (zrd (q1.out.later hb) fun k hk q => q (o2 k hk)) (zmw _ _) OK).mono ?_
 rintro e W3 ⟨rfl, c', e1, e2, e3⟩
 have hn0 : ∀ k, W.heap.size <= k -> ¬ c3.f k ≠ (0, 0, 0) := fun k hk q => by have := L.low k q; omega
 exact ⟨rfl, ⟨c', e1, e2.trans L.t, (g2.trans (Gw.of_below hb)).trans e3⟩, ((ib2.kept (S := fun _ => False) (St.of_below hb) id id).kept e3.st (hn0 _ (Nat.le_refl _)) (hn0 _ (by omega))).read (Below.refl _ _)⟩
set_option maxRecDepth 100000 in
theorem zju (Ad : Nat -> Addr) {B : Nat} {W : World} {sb : Nat} {c : CV} {s : SD} {i g n j m : Nat} {own : List (Nat × Nat)} {y : Nat × Nat} (h : Sto none B W sb c s) (hE : Env8 W Ad) (ha : al s i g) (A : At1 c s i g n j m own y) (p : Prt) (hf : fitP s.ws p = true) (ht : I64 p.t) {cc : Nat} (hc : p.c = (cc : Int)) (hc16 : cc < 16) (hbit : m.testBit cc = false) :
  Calls Tryz.prog 142 #[.pointer (some ⟨sb, 0, none⟩), .agg #[.int .i64 (i : Int), .int .i64 (g : Int)], .agg #[.int .i64 p.c, .int .i64 p.v0, .int .i64 p.v1, .int .i64 p.v2, .int .i64 p.v3, .int .i64 p.t]] W fun e W' => e = .returned .nilIface /\ ∃ c', Sto none B W' sb c' (entered s i (insP (s.at i) p)) /\ c'.t = c.t /\ Gw c c' W W' := by
 obtain ⟨b1, r1, p1, z1⟩ := zlo W (i : Int) (g : Int) p
 obtain ⟨w1, hw1⟩ : ∃ w1, w1 = ew W (i : Int) (g : Int) p := ⟨_, rfl⟩
 rw [<- hw1] at b1 r1 p1 z1
 have d0 := zaa r1 (j := 0) rfl
 have d1 := zaa r1 (j := 1) rfl
 have y0 : w1.cell? ⟨W.heap.size + 1, 0, none⟩ = some (.int .i64 p.c) := zaa p1 rfl
 have y1 : w1.cell? ⟨W.heap.size + 1, 1, none⟩ = some (.int .i64 p.v0) := zaa p1 rfl
 have y2 : w1.cell? ⟨W.heap.size + 1, 2, none⟩ = some (.int .i64 p.v1) := zaa p1 rfl
 have y3 : w1.cell? ⟨W.heap.size + 1, 3, none⟩ = some (.int .i64 p.v2) := zaa p1 rfl
 have y4 : w1.cell? ⟨W.heap.size + 1, 4, none⟩ = some (.int .i64 p.v3) := zaa p1 rfl
 have y5 : w1.cell? ⟨W.heap.size + 1, 5, none⟩ = some (.int .i64 p.t) := zaa p1 rfl
 have h1 := h.later b1
 have FD := hid (zgn h1 (hE.later b1) ha A p)
 rw [hf] at FD
 have TB := hid (h1.ztp A)
 have hm16 := h.m16 A
 have HW1 := hid hw1
 have B1 := hid b1
 have P1 := hid p1
 have R1 := hid r1
 unfold ew at HW1
 obtain ⟨x, hx⟩ : ∃ x, x = c.tv n := ⟨_, rfl⟩
 rw [<- hx] at FD TB
 have SH : Hid (∀ w, Calls Tryz.prog 94 #[.int .u32 (m : Int), .int .i64 p.c] w fun e w' => e = .returned (.bool false) /\ w' = w) := fun w => by
  have := At.zgb m cc (by omega) (by omega) w
  rw [hbit, <- hc] at this
  exact this
 change Hid (Calls Tryz.prog 162 #[.pointer (some ⟨sb, 0, none⟩), .agg #[.int .i64 (i : Int), .int .i64 (g : Int)], .agg #[.int .i64 p.c, .int .i64 p.v0, .int .i64 p.v1, .int .i64 p.v2, .int .i64 p.v3, .int .i64 p.t]] w1 fun e W' => ∃ r, e = .returned (.tuple #[.pointer (some ⟨x.tb, 0, none⟩), r]) /\ Er Ad W' r 0 1 /\ Below w1.heap.size w1 W') at FD
 have hno : ∀ q ∈ s.at i, q.c ≠ p.c := fun q hq e => by
  have := (zcx (zex A.ok.1) cc).2 ⟨q, hq, by rw [e, hc]⟩
  rw [<- A.msk, hbit] at this
  cases this
 have OK := hid (z6g A.ok hf ht hno)
 have hlen : (s.at i).length <= 1000 := by have := Rs.zmo A.ok.1 h.okw.1; omega
 have H := hid h
 have HA := hid ha
 clear hw1 b1 r1 h h1 p1 hE ha A hx hbit hf ht hno hc hc16
 go_enter Tryz.func142, Tryz.ntmps142
 go_upto_region 1 with fail
 rw [<- HW1.out]
 go_wp2_with fail
 refine FD.out.mono ?_
 rintro e w2 ⟨r, rfl, hr, hb⟩
 obtain rfl := hr.zero
 have T2 := hid (TB.out.later hb)
 have P2 := hid (zab hb (Nat.le_refl _) P1.out)
 have R2 := hid (zab hb (Nat.le_refl _) R1.out)
 have B2 := hid (B1.out.trans (hb.mono B1.out.size))
 have hz2 : W.heap.size + 2 <= w2.heap.size := by have := hb.size; omega
 have K4 : Hid (∀ q, (w2.drewN q).cell? ⟨x.tb, 0, none⟩ = some (.int .u32 (m : Int)) /\ (w2.drewN q).cell? ⟨W.heap.size + 1, 0, none⟩ = some (.int .i64 p.c)) := fun q => by
  have b := At.zad w2 q
  exact ⟨(T2.out.later b).c0, zaa (zab b (Nat.le_refl _) P2.out) rfl⟩
 clear hb FD hr y0 y1 y2 y3 y4 y5 d0 d1
 go_wp2_with fail
 go_region_held3 (fun W' => W'.cell? ⟨x.tb, 0, none⟩ = some (.int .u32 (m : Int)) /\ W'.cell? ⟨W.heap.size + 1, 0, none⟩ = some (.int .i64 p.c)) (first | exact K4.out 1 | exact K4.out 0 | exact K4.out 2)
  ((go_at_call 94; refine (SH.out _).mono ?_; rintro e w3 ⟨rfl, hq⟩; obtain rfl := hq.symm))
 obtain ⟨w3, hw3⟩ : ∃ w3, w3 = w2.drew := ⟨_, rfl⟩
 have b23 : Below w2.heap.size w2 w3 := by rw [hw3]; exact (Below.refl _ _).drew
 rw [<- hw3]
 have B3 := hid (B2.out.trans (b23.mono B2.out.size))
 have P3 := hid (zab b23 (Nat.le_refl _) P2.out)
 have R3 := hid (zab b23 (Nat.le_refl _) R2.out)
 have hz3 : W.heap.size + 2 <= w3.heap.size := Nat.le_trans hz2 b23.size
 have KK : Hid (∀ W', Below w3.heap.size w3 W' -> Ird W i g p W') := fun W' hb => ird (zab hb (Nat.le_refl _) R3.out) (zab hb (Nat.le_refl _) P3.out)
 have LV := hid fun W' (hb : Below w3.heap.size w3 W') => z0p H.out HA.out B3.out hz3 ⟨R3.out, P3.out⟩ hb
 clear hw3 b23 K4 SH P2 R2 T2 TB
 unfold Ird at KK LV
 go_wp2_with fail
 go_region_held3 (fun W' => W'.cell? ⟨W.heap.size, 0, none⟩ = some (.int .i64 (i : Int)) /\ W'.cell? ⟨W.heap.size, 1, none⟩ = some (.int .i64 (g : Int)) /\ W'.cell? ⟨W.heap.size + 1, 0, none⟩ = some (.int .i64 p.c) /\ W'.cell? ⟨W.heap.size + 1, 1, none⟩ = some (.int .i64 p.v0) /\ W'.cell? ⟨W.heap.size + 1, 2, none⟩ = some (.int .i64 p.v1) /\ W'.cell? ⟨W.heap.size + 1, 3, none⟩ = some (.int .i64 p.v2) /\ W'.cell? ⟨W.heap.size + 1, 4, none⟩ = some (.int .i64 p.v3) /\ W'.cell? ⟨W.heap.size + 1, 5, none⟩ = some (.int .i64 p.t))
  (first | exact KK.out _ (Below.refl _ _).drew | exact K4.out _ (Below.refl _ _) | exact K4.out _ (bAl _ _) | exact KK.out _ ((bAl _ _).drew) | exact KK.out _ ((Below.refl _ _).drew.alloc (by simp) _) | exact K5.out _ (Below.refl _ _) | exact K5.out _ (Below.refl _ _).drew | exact K6.out)
  (first
   | (go_at_call 154; refine (LV.out _ (by first | exact (Below.refl _ _).drew | exact Below.refl _ _ | exact ((Below.refl _ _).drew.alloc (by simp) _))).mono ?_; rintro e w4 ⟨v, c3, rfl, L4, S4, I4, K4⟩)
   | (refine zqy rfl _ _ rfl (L4.out.later (bAl _ _)) (I4.out.kept (St.of_below (S := fun _ => False) (bAl _ _)) id id) HA.out OK.out hlen (heap_alloc_new _ _) rfl rfl ?_; unfold Ird; intro v5 w5 K5 E5)
   | (refine zqy rfl _ _ rfl L4.out I4.out HA.out OK.out hlen (S4.out _ _ ?_ (heap_alloc_new _ _)) rfl rfl ?_; (show W.heap.size <= w3.heap.size; omega); unfold Ird; intro v5 w5 K5 E5)
   | (go_at_call 153; refine (E5.out _ (by first | exact Below.refl _ _ | exact (Below.refl _ _).drew)).mono ?_; rintro e w6 ⟨rfl, R6, K6⟩)
   | fail)
 all_goals
  go_wp2_with fail
  first
  | (go_ret; exact ⟨rfl, R6.out⟩)
  | exact bodyPost_ret (v := .nilIface) (by simp [results, Tryz.results142, go_sem]) rfl ⟨rfl, R6.out⟩
end So
namespace So
open Go.RowKit Go.Shelf Go.Maps
open Co (I64 Pt)
open At (St bAl zab)
open Rs (Prt SD mskP okL)
theorem zqk : ∀ args w, (callFunc 126 args).run Tryz.prog w = .ok (.enter 126 args) w := enters_of Tryz.func126 (by kernel_rfl) rfl
theorem z2e {s : SD} {own : List (Nat × Nat)} {i g j : Nat} (hj : own[j]? = some (i, g)) (hok : okL s.ws (s.at i)) {p : Prt} (hp : p ∈ s.at i) {cc : Nat} (hc : p.c = (cc : Int)) : (rowsOf s own cc)[j]? = some (pt p) := by
 unfold rowsOf
 rw [List.getElem?_map, hj, Option.map_some, zfh (zdz hok) hp hc]
theorem z6p {s : SD} {i m : Nat} (hm : m = mskP (s.at i)) (hok : okL s.ws (s.at i)) {p : Prt} (hp : p ∈ s.at i) {cc : Nat} (hc : p.c = (cc : Int)) : m.testBit cc = true := by
 rw [hm]; exact (zcx (zex hok) cc).2 ⟨p, hp, hc⟩
theorem yad {s : SD} {i m : Nat} (hm : m = mskP (s.at i)) (hok : okL s.ws (s.at i)) {comp : Int} (hno : ∀ p ∈ s.at i, p.c ≠ comp) (cb : Nat -> Nat) : lk (zcv m cb) comp = none := by
 unfold lk
 split
 ·rename_i h0
  unfold zcv
  refine if_neg fun q => ?_
  rw [hm] at q
  obtain ⟨p, hp, e⟩ := (zcx (zex hok) comp.toNat).1 q
  exact hno p hp (by omega)
 rfl
theorem zkm (W : World) (RB : Nat) (hR : W.heap.size <= RB) : Kept RB (fun w => Below W.heap.size W w) :=
 ⟨fun w w' h hb => h.trans (hb.mono h.size), fun w w' h hs => h.trans (hs.below (B := W.heap.size) (fun k hk => by omega) h.size)⟩
section
variable {Ad : Nat -> Addr} {W : World}
theorem z3f {B : Nat} {sb : Nat} {c : CV} {s : SD} {i g : Nat} (h : Sto none B W sb c s) (hE : Env8 W Ad) (ha : al s i g) (comp : Int) (hc : I64 comp) (hno : ∀ p ∈ s.at i, p.c ≠ comp) :
  Calls Tryz.prog 79 #[.pointer (some ⟨sb, 0, none⟩), .agg #[.int .i64 (i : Int), .int .i64 (g : Int)], .int .i64 comp] W fun e W' => ∃ r, e = .returned (.tuple #[Pt.zero.val 0, r]) /\ Er Ad W' r 7 /\ Below W.heap.size W W' := by
 obtain ⟨b1, r1, p1, z1⟩ := zgo W (i : Int) (g : Int)
 obtain ⟨n, j, m, own, y, A⟩ := h.stands ha (by simp)
 refine zrq (zkm W _ (by omega)) (.inr ⟨rfl, rfl⟩) ?_
 refine (zwk (h.later b1) (hE.later b1) ha A comp hc (yad A.msk A.ok.1 hno _) _).mono ?_
 rintro e w ⟨rfl, hb⟩
 exact ⟨_, rfl, Er.leaf Ad w 7 (by omega), b1.trans (hb.mono b1.size), zab hb (Nat.le_refl _) p1⟩
theorem zsm {B : Nat} {sb : Nat} {c : CV} {s : SD} {i g : Nat} (h : Sto none B W sb c s) (ha : al s i g) (p : Prt) (hp : p ∈ s.at i) :
  Calls Tryz.prog 79 #[.pointer (some ⟨sb, 0, none⟩), .agg #[.int .i64 (i : Int), .int .i64 (g : Int)], .int .i64 p.c] W fun e W' => e = .returned (.tuple #[p.val, .nilIface]) /\ Below W.heap.size W W' := by
 obtain ⟨b1, r1, p1, z1⟩ := zgo W (i : Int) (g : Int)
 obtain ⟨n, j, m, own, y, A⟩ := h.stands ha (by simp)
 obtain ⟨cc, hcc⟩ : ∃ cc : Nat, p.c = (cc : Int) := ⟨p.c.toNat, by have := zex A.ok.1 p hp; omega⟩
 have hc16 : cc < 16 := by have := (A.ok.1.2 p hp).2; have := h.okw.1; omega
 have hbit := z6p A.msk A.ok.1 hp hcc
 have G := zrq (Ad := fun _ => ⟨0, 0, none⟩) (W := W) (rv := .pointer (some ⟨sb, 0, none⟩)) (i := (i : Int)) (g := (g : Int)) (comp := p.c) (cm := p.c) (u := pt p) (k := 0) (zkm W _ (by omega)) (.inl rfl) (by
  rw [hcc]
  refine (z7e (h.later b1) ha A cc hc16 hbit 126 #[] zqk (pt p) (fun w => Below (pw W (i : Int) (g : Int)).heap.size (pw W (i : Int) (g : Int)) w) (fun w w' q hs => q.trans (hs.below (B := (pw W (i : Int) (g : Int)).heap.size) (fun k hk => by omega) q.size)) fun W' hb _ => ?_).mono ?_
  ·obtain ⟨w, hw, hcol⟩ := (((h.later b1).later hb).ztp A).col cc hbit
   refine (z3x hcol j (pt p) (z2e A.here A.ok.1 hp hcc)).mono ?_
   rintro e W2 ⟨rfl, q⟩
   exact ⟨rfl, hb.trans (q.mono hb.size), St.of_below q⟩
  rintro e w ⟨rfl, q⟩
  exact ⟨_, rfl, Er.none _ w, b1.trans (q.mono b1.size), zab q (Nat.le_refl _) p1⟩)
 refine G.mono ?_
 rintro e w ⟨r, rfl, q1, q2⟩
 obtain rfl := q1.zero
 exact ⟨rfl, q2⟩
end
theorem zpj {W w : World} {n : Nat} (hb : Below W.heap.size W w) (hn : w.heap.size = W.heap.size + n) (cs : Array Value) (t : TypeId) : Below W.heap.size W (w.alloc (.cells cs t)) /\ (w.alloc (.cells cs t)).heap.size = W.heap.size + (n + 1) /\ (w.alloc (.cells cs t)).heap[W.heap.size + n]? = some (.cells cs t (0, 0)) := by
 refine ⟨hb.trans ((bAl _ _).mono hb.size), by simp [hn]; omega, ?_⟩
 rw [<- hn]; exact heap_alloc_new w _
end So
namespace So
open Go.RowKit Go.Shelf Go.Maps
open Rs (Prt SD remP)
theorem z8a {ws : List Nat} {l : List Prt} (h : okE ws l) (comp : Int) : okE ws (remP l comp) := ⟨h.1.rem comp, fun x hx => h.2 x (List.mem_filter.1 hx).1⟩
end So
namespace So
open Go.RowKit Go.Shelf Go.Maps
open Co (lies)
open At (St bAl zaa zac)
open Rs (Prt Prts PRow zbh Six)
theorem zsj (W : World) (p : Prt) (xb : Nat) (comp : Int) (hx : W.cell? ⟨xb, 0, none⟩ = some (.int .i64 comp)) (bb : Bool) (hb : (p.c == comp) = bb) :
  Calls Tryz.prog 163 #[.agg #[.int .i64 p.c, .int .i64 p.v0, .int .i64 p.v1, .int .i64 p.v2, .int .i64 p.v3, .int .i64 p.t], .pointer (some ⟨xb, 0, none⟩)] W fun e W' => e = .returned (.bool bb) /\ Below W.heap.size W W' := by
 obtain ⟨w1, hw1⟩ : ∃ w1, w1 = W.alloc (.cells #[.int .i64 p.c, .int .i64 p.v0, .int .i64 p.v1, .int .i64 p.v2, .int .i64 p.v3, .int .i64 p.t] 89) := ⟨_, rfl⟩
 have b1 : Below W.heap.size W w1 := by rw [hw1]; exact bAl _ _
 have r1 : w1.heap[W.heap.size]? = some (.cells p.arr 89 (0, 0)) := by rw [hw1]; exact heap_alloc_new W _
 have y0 : w1.cell? ⟨W.heap.size, 0, none⟩ = some (.int .i64 p.c) := zaa r1 rfl
 have x0 := At.seen b1 (Nat.le_refl _) hx
 have HW1 := hid hw1
 have B1 := hid b1
 clear hw1 b1 r1 hx
 go_enter Tryz.func163, Tryz.ntmps163
 go_upto_region 1 with fail
 rw [<- HW1.out]
 go_wp2_with fail
 go_ret
 exact ⟨rfl, B1.out⟩
theorem zee {N : Nat} {W : World} {g n cap : Nat} {l : List Prt} (h : Prts N W (.slice (some ⟨g, 0, none⟩) n cap) l) {j : Nat} {p : Prt} (hj : l[j]? = some p) : Six W g (j * 6) p := by
 obtain ⟨a, c, e, hr⟩ := h.row
 obtain ⟨b, o, e1, e2⟩ := (e ▸ h.row : PRow W (.slice a l.length c) l).at hj
 have e3 : (some ⟨g, 0, none⟩ : Option Addr) = a := by simpa using congrArg (fun v => match v with | .slice x _ _ => x | _ => none) e
 rw [e1] at e3
 obtain ⟨rfl, rfl⟩ : g = b /\ 0 = o := by simpa using e3
 rw [Nat.zero_add] at e2
 exact e2
set_option maxRecDepth 100000 in
theorem zvq {N : Nat} {W : World} {g n cap : Nat} {a b : List Prt} {q : Prt} (h : Prts N W (.slice (some ⟨g, 0, none⟩) n cap) (a ++ q :: b)) (hn : n = a.length + 1 + b.length) (hn9 : n <= 1000) (xb : Nat) (comp : Int) (hx : W.cell? ⟨xb, 0, none⟩ = some (.int .i64 comp)) (ha : ∀ x ∈ a, x.c ≠ comp) (hq : q.c = comp) :
  Calls Tryz.prog 113 #[.slice (some ⟨g, 0, none⟩) n cap, .func (.func 163) #[] #[.pointer (some ⟨xb, 0, none⟩)]] W fun e W' => e = .returned (.int .i64 (a.length : Int)) /\ Below W.heap.size W W' := by
 have RD : Hid (∀ W', Below W.heap.size W W' -> ∀ j p, (a ++ q :: b)[j]? = some p -> Six W' g (j * 6) p) := fun W' hb j p hj => zee (h.later hb) hj
 have CL : Hid (∀ W', Below W.heap.size W W' -> ∀ (p : Prt) bb, (p.c == comp) = bb -> Calls Tryz.prog 163 #[.agg #[.int .i64 p.c, .int .i64 p.v0, .int .i64 p.v1, .int .i64 p.v2, .int .i64 p.v3, .int .i64 p.t], .pointer (some ⟨xb, 0, none⟩)] W' fun e W2 => e = .returned (.bool bb) /\ Below W.heap.size W W2) := fun W' hb p bb hp =>
  (zsj W' p xb comp (At.seen hb (Nat.le_refl _) hx) bb hp).mono fun e W2 ⟨q1, q2⟩ => ⟨q1, hb.trans (q2.mono hb.size)⟩
 have HA := hid ha
 have hq' : (q.c == comp) = true := by simp [hq]
 have HQ := hid hq'
 have A0 : Hid (∀ k, k < a.length -> ∃ p, a[k]? = some p /\ (a ++ q :: b)[k]? = some p) := fun k hk => by
  obtain ⟨p, hp⟩ := zal a k hk
  exact ⟨p, hp, by rw [List.getElem?_append_left hk]; exact hp⟩
 have A1 : Hid ((a ++ q :: b)[a.length]? = some q) := by show _ = _; simp
 generalize a.length = A at *
 generalize b.length = Bn at *
 have hnI : (n : Int) <= 1000 := by omega
 have hAn : (A : Int) < (n : Int) := by omega
 clear h hx ha hq hq' hn hn9
 go_enter Tryz.func113, Tryz.ntmps113
 go_wp2_with fail
 go_loopg [5, 8] (A + 1) (fun gh _ i wr => ∃ k : Nat, k <= A /\ gh = A + 1 - k /\ i = .int .i64 (k : Int) /\ Hid (Below W.heap.size W wr))
 case atStart => exact ⟨0, Nat.zero_le _, rfl, rfl, Below.refl _ _⟩
 case round =>
  obtain ⟨k, hk, rfl, rfl, HB⟩ := hrel
  have hki : (k : Int) < (n : Int) := by omega
  by_cases hlt : k < A
  ·obtain ⟨p, hp, hp2⟩ := A0.out k hlt
   obtain ⟨c0, c1, c2, c3, c4, c5⟩ := RD.out _ HB.out k p hp2
   have hne : (p.c == comp) = false := by simp [HA.out p (List.mem_of_getElem? hp)]
   have CC := hid (CL.out _ HB.out p _ hne)
   clear hp hp2 hne
   go_wp2_with fail
   refine CC.out.mono ?_
   rintro e w2 ⟨rfl, hb⟩
   have HB2 := hid hb
   clear hb CC c0 c1 c2 c3 c4 c5
   go_wp2_with fail
   go_roundg (A + 1 - (k + 1))
   case measure => omega
   case rel => exact ⟨k + 1, by omega, rfl, by go_num, HB2.out⟩
  obtain rfl : k = A := by omega
  obtain ⟨c0, c1, c2, c3, c4, c5⟩ := RD.out _ HB.out k q A1.out
  have CC := hid (CL.out _ HB.out q _ HQ.out)
  go_wp2_with fail
  refine CC.out.mono ?_
  rintro e w2 ⟨rfl, hb⟩
  have HB2 := hid hb
  clear hb CC c0 c1 c2 c3 c4 c5
  go_wp2_with fail
  go_ret
  exact ⟨rfl, HB2.out⟩
def sixo (w : World) (b o : Nat) (p : Prt) : World := (((((w.setCell ⟨b, o, none⟩ (.int .i64 p.c)).setCell ⟨b, o + 1, none⟩ (.int .i64 p.v0)).setCell ⟨b, o + 2, none⟩ (.int .i64 p.v1)).setCell ⟨b, o + 3, none⟩ (.int .i64 p.v2)).setCell ⟨b, o + 4, none⟩ (.int .i64 p.v3)).setCell ⟨b, o + 5, none⟩ (.int .i64 p.t)
def zof (l : List Value) (o : Nat) (p : Prt) : List Value := (((((l.set o (.int .i64 p.c)).set (o + 1) (.int .i64 p.v0)).set (o + 2) (.int .i64 p.v1)).set (o + 3) (.int .i64 p.v2)).set (o + 4) (.int .i64 p.v3)).set (o + 5) (.int .i64 p.t)
theorem zcr (x : Prt) (l : List Prt) : zbh (x :: l) = .int .i64 x.c :: .int .i64 x.v0 :: .int .i64 x.v1 :: .int .i64 x.v2 :: .int .i64 x.v3 :: .int .i64 x.t :: zbh l := by simp [zbh, Prt.arr]
theorem zvo (l : List Prt) (k : Nat) (p : Prt) : zof (zbh l) (k * 6) p = zbh (l.set k p) := by
 unfold zof
 induction l generalizing k with
 | nil => simp [zbh]
 | cons x l ih =>
  cases k with
  | zero => rw [List.set_cons_zero, zcr, zcr]; simp
  | succ k =>
   rw [List.set_cons_succ, zcr, zcr, <- ih, show (k + 1) * 6 = k * 6 + 1 + 1 + 1 + 1 + 1 + 1 by omega]
   simp
theorem zfy (l : List Prt) (k : Nat) : (zbh l).take (k * 6) = zbh (l.take k) := by
 induction l generalizing k with
 | nil => simp [zbh]
 | cons x l ih =>
  cases k with
  | zero => simp [zbh]
  | succ k => rw [List.take_succ_cons, zcr, zcr, <- ih, show (k + 1) * 6 = k * 6 + 1 + 1 + 1 + 1 + 1 + 1 by omega]; simp
theorem zvp (l : List Value) (o n : Nat) (p : Prt) : (zof l o p).take n = zof (l.take n) o p := by
 unfold zof
 rw [List.take_set, List.take_set, List.take_set, List.take_set, List.take_set, List.take_set]
theorem z4h {w : World} {b o : Nat} {cs : Array Value} {e : TypeId} (h : w.heap[b]? = some (.cells cs e (0, 0))) (p : Prt) : ∃ cs', (sixo w b o p).heap[b]? = some (.cells cs' e (0, 0)) /\ cs'.toList = zof cs.toList o p := by
 have h1 := heap_setCell_same w b o _ e (.int .i64 p.c) h
 have h2 := heap_setCell_same _ b (o + 1) _ e (.int .i64 p.v0) h1
 have h3 := heap_setCell_same _ b (o + 2) _ e (.int .i64 p.v1) h2
 have h4 := heap_setCell_same _ b (o + 3) _ e (.int .i64 p.v2) h3
 have h5 := heap_setCell_same _ b (o + 4) _ e (.int .i64 p.v3) h4
 have h6 := heap_setCell_same _ b (o + 5) _ e (.int .i64 p.t) h5
 exact ⟨_, h6, by simp [zof]⟩
theorem zqm (w : World) (b o : Nat) (p : Prt) : St (fun k => k = b) w (sixo w b o p) := by
 have c := fun (w : World) (j : Nat) (v : Value) => St.setCell (S := fun k => k = b) (a := w) (p := ⟨b, j, none⟩) v rfl
 exact (((((c w o _).trans (c _ (o + 1) _) fun _ _ q => q).trans (c _ (o + 2) _) fun _ _ q => q).trans (c _ (o + 3) _) fun _ _ q => q).trans (c _ (o + 4) _) fun _ _ q => q).trans (c _ (o + 5) _) fun _ _ q => q
theorem zcz {N : Nat} {W : World} {g n cap : Nat} {l : List Prt} (h : Prts N W (.slice (some ⟨g, 0, none⟩) n cap) l) : n = l.length /\ N <= g /\ ∃ cur, W.heap[g]? = some (.cells cur 89 (0, 0)) /\ l.length <= cap /\ cap <= maxLen /\ cur.size = cap * 6 /\ cur.toList.take (l.length * 6) = zbh l := by
 obtain ⟨-, h | ⟨g', cap', cur, e, h1, h2, h3, h4, h5, h6⟩⟩ := (h : World.ownsRow _ _ _ _ _ _ _)
 ·simp at h
 obtain ⟨rfl, rfl, rfl⟩ : g = g' /\ n = l.length /\ cap = cap' := by simpa using e
 exact ⟨rfl, h1, cur, h2, h3, h4, h5, h6⟩
theorem zmk {N : Nat} {W : World} {g cap : Nat} {l : List Prt} {cur : Array Value} (h1 : N <= g) (h2 : W.heap[g]? = some (.cells cur 89 (0, 0))) (h3 : l.length <= cap) (h4 : cap <= maxLen) (h5 : cur.size = cap * 6) (h6 : cur.toList.take (l.length * 6) = zbh l) : Prts N W (.slice (some ⟨g, 0, none⟩) l.length cap) l := by
 refine ⟨?_, .inr ⟨g, cap, cur, rfl, h1, h2, h3, h4, h5, h6⟩⟩
 have hcl : cur.toList.length = cap * 6 := by simpa using h5
 show (zbh l).length = l.length * 6
 rw [<- h6, List.length_take, hcl]
 have : l.length * 6 <= cap * 6 := Nat.mul_le_mul_right 6 h3
 omega
theorem zlp {N : Nat} {W : World} {g n cap : Nat} {l : List Prt} (h : Prts N W (.slice (some ⟨g, 0, none⟩) n cap) l) (k : Nat) (p : Prt) : Prts N (sixo W g (k * 6) p) (.slice (some ⟨g, 0, none⟩) n cap) (l.set k p) := by
 obtain ⟨rfl, h1, cur, h2, h3, h4, h5, h6⟩ := zcz h
 obtain ⟨cs', e1, e2⟩ := z4h (o := k * 6) h2 p
 have e3 : cs'.size = cap * 6 := by rw [<- h5, <- Array.length_toList, e2]; simp [zof]
 have := zmk (l := l.set k p) h1 e1 (by rw [List.length_set]; exact h3) h4 e3 (by rw [List.length_set, e2, zvp, h6, zvo])
 rw [List.length_set] at this
 exact this
theorem zdn {b : Nat} {e : TypeId} : ∀ (vs : List Value) (o : Nat) (w : World) (cs : Array Value), w.heap[b]? = some (.cells cs e (0, 0)) -> ∃ cs', (w.setCells b o vs).heap[b]? = some (.cells cs' e (0, 0)) /\ cs'.size = cs.size /\ ∀ m, m <= o -> cs'.toList.take m = cs.toList.take m
 | [], _, _, cs, h => ⟨cs, h, rfl, fun _ _ => rfl⟩
 | v :: r, o, w, cs, h => by
  have h1 := heap_setCell_same w b o _ e v h
  obtain ⟨cs', a1, a2, a3⟩ := zdn r (o + 1) _ _ h1
  refine ⟨cs', a1, by rw [a2]; simp, fun m hm => ?_⟩
  rw [a3 m (by omega), Array.toList_setIfInBounds, List.take_set]
  exact List.set_eq_of_length_le (by rw [List.length_take]; omega)
theorem zeg {b : Nat} : ∀ (vs : List Value) (o : Nat) (w : World), St (fun k => k = b) w (w.setCells b o vs)
 | [], _, _ => St.of_below (Below.refl _ _)
 | v :: r, o, _ => (St.setCell (S := fun k => k = b) (p := ⟨b, o, none⟩) v rfl).trans (zeg r (o + 1) _) fun _ _ q => q
theorem zuj {N : Nat} {W : World} {g n cap : Nat} {l : List Prt} {x : Prt} (h : Prts N W (.slice (some ⟨g, 0, none⟩) n cap) (l ++ [x])) (o c : Nat) (ho : o = l.length * 6) : ∃ w', (∀ ty, (Builtin.clear_ #[84] ty #[.slice (some ⟨g, o, none⟩) 1 c]).run Tryz.prog W = .ok (.tuple #[]) w') /\ Prts N w' (.slice (some ⟨g, 0, none⟩) l.length cap) l /\ St (fun k => k = g) W w' := by
 obtain ⟨rfl, h1, cur, h2, h3, h4, h5, h6⟩ := zcz h
 have hl : (l ++ [x]).length = l.length + 1 := by simp
 rw [hl] at h3 h6
 have hz : ∀ w, (zeroValue 89).run Tryz.prog w = .ok (.agg #[.int .i64 0, .int .i64 0, .int .i64 0, .int .i64 0, .int .i64 0, .int .i64 0]) w := by
  intro w
  simp [zeroValue, Tryz.t89]
 have hsz : l.length * 6 + 6 <= cur.size := by rw [h5]; omega
 have hst := run_storeCells_cells (P := Tryz.prog) g (l.length * 6) [.int .i64 0, .int .i64 0, .int .i64 0, .int .i64 0, .int .i64 0, .int .i64 0] 0 W (fun j hj => by
  obtain ⟨u, hu⟩ : ∃ u, cur[l.length * 6 + j]? = some u := ⟨_, Array.getElem?_eq_getElem (by simp at hj; omega)⟩
  rw [Nat.add_zero, zaa h2 hu]; rfl) (fun j hj => zac h2 _) (by simp [Value.oneCell'])
 rw [Nat.add_zero] at hst
 obtain ⟨cs', a1, a2, a3⟩ := zdn [.int .i64 0, .int .i64 0, .int .i64 0, .int .i64 0, .int .i64 0, .int .i64 0] (l.length * 6) W cur h2
 refine ⟨_, fun ty => ?_, zmk (cur := cs') h1 a1 (by omega) h4 (by rw [a2, h5]) ?_, zeg _ _ _⟩
 ·rw [ho]
  have e : (Builtin.zeroCells (Value.cells (.agg #[.int .i64 0, .int .i64 0, .int .i64 0, .int .i64 0, .int .i64 0, .int .i64 0])) 1).toList = [.int .i64 0, .int .i64 0, .int .i64 0, .int .i64 0, .int .i64 0, .int .i64 0] := by
   simp [Builtin.zeroCells, Value.cells]
   rfl
  simp [Builtin.clear_, run_underlying Tryz.underlying84, hz, e, hst]
 rw [a3 _ (Nat.le_refl _)]
 have := congrArg (List.take (l.length * 6)) h6
 rw [List.take_take, Nat.min_eq_left (by omega), zfy, List.take_left' rfl] at this
 exact this
end So
end Go.Proofs.YthadfdbkkmmgoaaGreatDoor
