/- Texts in one. -/
import Derived.Laws.IdiomCopy
import Derived.Shelf.SlGeneric
import Derived.Shelf.SlSortCmp.WholeK
import Derived.Shelf.SlLaysF0
import Derived.Ground.SlsfProg
import Derived.Test.YtoafpfheopgdkaaGreatDoorProg
import Derived.Test.YtoafpfheopgdkaaGreatDoorMag
namespace Go.Proofs.YtoafpfheopgdkaaGreatDoor.So
open Go.RowKit Go.Shelf Go.Maps
open Go.Proofs.YtoafpfheopgdkaaGreatDoor.Co (I64 Pt Col CS I64_mid)
open Go.Proofs.YtoafpfheopgdkaaGreatDoor.At (St bAl cell_blk blk_seen blk_free Ints Err at_err err_leaf wi)
open Go.Proofs.YtoafpfheopgdkaaGreatDoor.Rs (Prt SD okW fitP PRow mskP Six)
/-- An error, by its number; 0: none. -/
def Er (Ad : Nat → Addr) (W : World) (v : Value) (k : Nat) : Prop := (k = 0 ∧ v = .nilIface) ∨ (k ≠ 0 ∧ ∃ t q, v = .iface t q ∧ ∃ d, Err Ad W (.iface t q) k d)
theorem Er.later {Ad : Nat → Addr} {W W' : World} {v : Value} {k : Nat} (h : Er Ad W v k) (hb : Below W.heap.size W W') : Er Ad W' v k :=
  h.imp id fun ⟨h0, t, q, e, d, hd⟩ => ⟨h0, t, q, e, d, hd.later hb⟩
theorem Er.none (Ad : Nat → Addr) (W : World) : Er Ad W .nilIface 0 := .inl ⟨rfl, rfl⟩
theorem Er.leaf (Ad : Nat → Addr) (W : World) (k : Nat) (hk : 1 ≤ k ∧ k ≤ 18) : Er Ad W (.iface 262 (.pointer (some (Ad k)))) k := .inr ⟨by omega, _, _, rfl, 0, err_leaf Ad W k hk⟩
theorem Er.of {Ad : Nat → Addr} {W : World} {t : TypeId} {q : Value} {k d : Nat} (h0 : k ≠ 0) (h : Err Ad W (.iface t q) k d) : Er Ad W (.iface t q) k := .inr ⟨h0, t, q, rfl, d, h⟩
theorem at_er (Ad : Nat → Addr) (s : ByteArray) (v : Value) (k : Nat) (w : World) (h : Er Ad w v k) :
    Calls Tryz.prog 33 #[.string s, v] w fun e w' => ∃ v', e = .returned v' ∧ Er Ad w' v' k ∧ Below w.heap.size w w' := by
  rcases h with ⟨rfl, rfl⟩ | ⟨h0, t, q, rfl, d, hd⟩
  · exact (at_nil s w).mono fun e w' ⟨q1, q2⟩ => ⟨_, q1, .inl ⟨rfl, rfl⟩, by rw [q2]; exact Below.refl _ _⟩
  · exact (at_err Ad s _ k d w hd).mono fun e w' ⟨t, q, q1, q2, q3⟩ => ⟨_, q1, Er.of h0 q2, q3⟩
theorem check_any (Ad : Nat → Addr) {ex : Option Nat} {B : Nat} {W : World} {sb : Nat} {c : CV} {s : SD} (h : Sto ex B W sb c s) (hE : Env8 W Ad) (p : Prt) :
    Calls Tryz.prog 67 #[.pointer (some ⟨sb, 0, none⟩), .agg #[.int .i64 p.c, .int .i64 p.v0, .int .i64 p.v1, .int .i64 p.v2, .int .i64 p.v3, .int .i64 p.t]] W fun e W' => ∃ v, e = .returned v ∧ Er Ad W' v (if fitP s.ws p then 0 else 1) ∧ Below W.heap.size W W' := by
  by_cases hc : p.c < 0 ∨ (s.ws.length : Int) ≤ p.c
  · rw [Rs.fit_out hc]
    exact (check_out Ad h hE p hc).mono fun e W' ⟨t, q, q1, q2, q3⟩ => ⟨_, q1, Er.of (by decide) q2, q3⟩
  · refine (check_in Ad h hE p (cc := p.c.toNat) (by omega) (by omega)).mono fun e W' ⟨v, q1, q2, q3⟩ => ⟨v, q1, ?_, q3⟩
    cases hf : fitP s.ws p
    · rw [hf] at q2
      obtain ⟨t, q, rfl, q4⟩ := q2
      exact Er.of (by decide) q4
    · rw [hf] at q2
      exact .inl ⟨rfl, q2⟩
/-- What is wrong with parts. -/
def chkL (ws : List Nat) (l : List Prt) : Nat := if l.all (fitP ws) then (if l.Pairwise (fun x y => x.c ≠ y.c) then 0 else 9) else 1
theorem chk_unfit {ws : List Nat} {l : List Prt} {p : Prt} (hp : p ∈ l) (hf : fitP ws p = false) : chkL ws l = 1 := by
  unfold chkL
  rw [if_neg]
  intro h
  rw [List.all_eq_true.1 h p hp] at hf
  cases hf
theorem chk_ok {ws : List Nat} {l : List Prt} (h : chkL ws l = 0) : (∀ p ∈ l, fitP ws p = true) ∧ Apart l := by
  unfold chkL at h
  split at h
  · rename_i h1
    split at h
    · rename_i h2
      exact ⟨List.all_eq_true.1 h1, h2⟩
    · cases h
  · cases h
theorem take_snoc {l : List Prt} {k : Nat} {p : Prt} (hp : l[k]? = some p) : l.take (k + 1) = l.take k ++ [p] := by
  obtain ⟨hl, rfl⟩ := List.getElem?_eq_some_iff.1 hp
  exact List.take_succ_eq_append_getElem hl
theorem apart_snoc {l : List Prt} {k : Nat} {p : Prt} {c : Nat} (hp : l[k]? = some p) (hc : p.c = (c : Int)) (hpos : Pos l) (h : Apart (l.take k)) (hb : (mskP (l.take k)).testBit c = false) : Apart (l.take (k + 1)) := by
  rw [take_snoc hp, Apart, List.pairwise_append]
  refine ⟨h, by simp, fun a ha b hb' e => ?_⟩
  simp at hb'
  subst hb'
  have := (msk_mem (fun x hx => hpos x (List.mem_of_mem_take hx)) c).2 ⟨a, ha, by rw [e, hc]⟩
  rw [this] at hb
  cases hb
theorem not_apart {l : List Prt} {k : Nat} {p : Prt} {c : Nat} (hp : l[k]? = some p) (hc : p.c = (c : Int)) (hpos : Pos l) (hb : (mskP (l.take k)).testBit c = true) : ¬ Apart l := fun h => by
  obtain ⟨a, ha, e⟩ := (msk_mem (fun x hx => hpos x (List.mem_of_mem_take hx)) c).1 hb
  have h2 : Apart (l.take (k + 1)) := h.sublist (List.take_sublist _ _)
  rw [take_snoc hp, Apart, List.pairwise_append] at h2
  exact h2.2.2 a ha p (by simp) (by rw [e, hc])
set_option maxHeartbeats 6400000 in
set_option maxRecDepth 100000 in
theorem checkAll_any (Ad : Nat → Addr) {ex : Option Nat} {B : Nat} {W : World} {sb : Nat} {c : CV} {s : SD} (h : Sto ex B W sb c s) (hE : Env8 W Ad) {v : Value} {l : List Prt} (hv : PRow W v l) (hl : l.length ≤ 90) :
    Calls Tryz.prog 35 #[.pointer (some ⟨sb, 0, none⟩), v] W fun e W' => ∃ r, e = .returned r ∧ Er Ad W' r (chkL s.ws l) ∧ Below W.heap.size W W' := by
  obtain ⟨va, vc, rfl, -⟩ := id hv
  have hli : (l.length : Int) ≤ 90 := by omega
  have H := hid h
  have HE := hid hE
  have HV := hid hv
  have hw16 := h.okw.1
  clear h hE hv
  go_enter Tryz.func35, Tryz.ntmps35
  go_wp2_with fail
  go_loopg [5, 6, 7, 13] l.length (fun gh _ _ _ q wr => ∃ k : Nat, k ≤ l.length ∧ gh = l.length - k ∧ q = .int .i64 (k : Int) ∧ Hid (∀ p ∈ l.take k, fitP s.ws p = true) ∧ Hid (Below W.heap.size W wr))
  case atStart => exact ⟨0, Nat.zero_le _, rfl, rfl, (show ∀ p ∈ l.take 0, fitP s.ws p = true from fun p hp => by simp at hp), Below.refl _ _⟩
  case round =>
    obtain ⟨k, hk, rfl, rfl, HF, HB⟩ := hrel
    by_cases hlt : k < l.length
    · have hki : (k : Int) < (l.length : Int) := by omega
      obtain ⟨p, hp⟩ := at_lt l k hlt
      obtain ⟨b, o, rfl, d0, d1, d2, d3, d4, d5⟩ := (HV.out.later HB.out).at hp
      obtain ⟨w3, hw3⟩ : ∃ w3, w3 = wr.alloc (.cells #[.int .i64 p.c, .int .i64 p.v0, .int .i64 p.v1, .int .i64 p.v2, .int .i64 p.v3, .int .i64 p.t] 71) := ⟨_, rfl⟩
      have b3 : Below W.heap.size W w3 := by rw [hw3]; exact HB.out.alloc HB.out.size _
      have y : w3.heap[wr.heap.size]? = some (.cells p.arr 71 (0, 0)) := by rw [hw3]; exact heap_alloc_new wr _
      have y0 := cell_blk y (j := 0) rfl
      have y1 := cell_blk y (j := 1) rfl
      have y2 := cell_blk y (j := 2) rfl
      have y3 := cell_blk y (j := 3) rfl
      have y4 := cell_blk y (j := 4) rfl
      have y5 := cell_blk y (j := 5) rfl
      have CK := hid (check_any Ad (H.out.later b3) (HE.out.later b3) p)
      have HW3 := hid hw3
      have B3 := hid b3
      have HP := hid hp
      clear hw3 b3 y hp
      cases hf : fitP s.ws p
      · rw [hf] at CK
        have HU := hid (chk_unfit (List.mem_of_getElem? HP.out) hf)
        go_upto_region 4 with fail
        rw [← HW3.out]
        go_wp2_with fail
        refine CK.out.mono ?_
        rintro e w4 ⟨v4, rfl, q1, q2⟩
        rcases q1 with ⟨q1, -⟩ | ⟨-, t, q, rfl, d, hd⟩
        · cases q1
        have IT := hid (Sc.itoa_any k (by omega) w4)
        have AC := hid (at_err Ad (Sc.dig k) _ 1 d w4 hd)
        have B4 := hid (B3.out.trans (q2.mono B3.out.size))
        clear q2 hd CK y0 y1 y2 y3 y4 y5
        go_wp2_with fail
        refine IT.out.mono ?_
        rintro e w5 ⟨rfl, rfl⟩
        go_wp2_with fail
        refine AC.out.mono ?_
        rintro e w6 ⟨t6, q6, rfl, hv6, hb6⟩
        have V6 := hid hv6
        have B6 := hid (B4.out.trans (hb6.mono B4.out.size))
        clear hv6 hb6 IT AC
        go_wp2_with fail
        go_ret
        exact ⟨_, rfl, by rw [HU.out]; exact Er.of (by decide) V6.out, B6.out⟩
      · rw [hf] at CK
        have HF' : Hid (∀ p ∈ l.take (k + 1), fitP s.ws p = true) := fun x hx => by
          rw [take_snoc HP.out] at hx
          rcases List.mem_append.1 hx with hx | hx
          · exact HF.out x hx
          · simp at hx; rw [hx]; exact hf
        go_upto_region 4 with fail
        rw [← HW3.out]
        go_wp2_with fail
        refine CK.out.mono ?_
        rintro e w4 ⟨v4, rfl, q1, q2⟩
        rcases q1 with ⟨-, rfl⟩ | ⟨q1, -⟩
        · have B4 := hid (B3.out.trans (q2.mono B3.out.size))
          clear q2 CK y0 y1 y2 y3 y4 y5
          go_wp2_with fail
          go_roundg (l.length - (k + 1))
          case measure => omega
          case rel => exact ⟨k + 1, by omega, rfl, by go_num, HF'.out, B4.out⟩
        · simp at q1
    · have hki : ¬ ((k : Int) < (l.length : Int)) := by omega
      obtain rfl : k = l.length := by omega
      have hall := HF.out
      rw [List.take_length] at hall
      have HALL := hid hall
      have HPOS : Hid (∀ p ∈ l, 0 ≤ p.c ∧ p.c < 16) := fun p hp => by have := Rs.fit_range (hall p hp); omega
      rename World => wo
      clear hall HF
      go_wp2_with fail
      go_loopg [8, 9, 10, 30] l.length (fun gh sv _ _ q wr => ∃ k m : Nat, k ≤ l.length ∧ gh = l.length - k ∧ q = .int .i64 (k : Int) ∧ sv = .int .u32 (m : Int) ∧ Hid (m = mskP (l.take k)) ∧ Hid (m < 65536) ∧ Hid (Apart (l.take k)) ∧ Hid (Below W.heap.size W wr))
      case atStart => exact ⟨0, 0, Nat.zero_le _, rfl, rfl, rfl, rfl, (show (0 : Nat) < 65536 by decide), (show Apart (l.take 0) by simp [Apart]), HB.out⟩
      case round =>
        obtain ⟨k, m, hk, rfl, rfl, rfl, HM, HM6, HAP, HB2⟩ := hrel
        by_cases hlt : k < l.length
        · have hki : (k : Int) < (l.length : Int) := by omega
          obtain ⟨p, hp⟩ := at_lt l k hlt
          obtain ⟨b, o, rfl, d0, d1, d2, d3, d4, d5⟩ := (HV.out.later HB2.out).at hp
          have hpos := HPOS.out p (List.mem_of_getElem? hp)
          obtain ⟨cc, hc⟩ : ∃ cc : Nat, p.c = (cc : Int) := ⟨p.c.toNat, by omega⟩
          have hc16 : cc < 16 := by omega
          have HP := hid hp
          have HC := hid hc
          have HS := hid (fun w => At.sethas_in m cc (by have := HM6.out; omega) (by omega) w)
          have hb' : Below W.heap.size W (wr.alloc (.cells #[.int .i64 (cc : Int), .int .i64 p.v0, .int .i64 p.v1, .int .i64 p.v2, .int .i64 p.v3, .int .i64 p.t] 71)) := HB2.out.alloc HB2.out.size _
          cases ht : m.testBit cc
          · have WI := hid (fun w => At.with_in m cc (by have := HM6.out; omega) (by omega) w)
            have HN : Hid (wi m cc = mskP (l.take (k + 1))) := by show _ = _; rw [msk_next hp hc, ← HM.out]
            have HN6 : Hid (wi m cc < 65536) := At.wi_lt (n := 16) HM6.out hc16
            have HA' : Hid (Apart (l.take (k + 1))) := apart_snoc hp hc (fun x hx => (HPOS.out x hx).1) HAP.out (by rw [← HM.out]; exact ht)
            have HB' := hid hb'
            rw [ht] at HS
            generalize wi m cc = m2 at *
            clear hp hpos ht HM HM6 hb'
            go_wp2_with (first
              | (go_at_call 69; refine (HS.out _).mono ?_; rintro e w2 ⟨rfl, rfl⟩)
              | (go_at_call 70; refine (WI.out _).mono ?_; rintro e w2 ⟨rfl, rfl⟩))
            go_roundg (l.length - (k + 1))
            case measure => omega
            case rel => exact ⟨k + 1, m2, by omega, rfl, by go_num, rfl, HN.out, HN6.out, HA'.out, HB'.out⟩
          · rw [ht] at HS
            have HU : Hid (chkL s.ws l = 9) := by
              show chkL s.ws l = 9
              unfold chkL
              rw [if_pos (List.all_eq_true.2 HALL.out), if_neg]
              exact not_apart hp hc (fun x hx => (HPOS.out x hx).1) (by rw [← HM.out]; exact ht)
            obtain ⟨w3, hw3⟩ : ∃ w3, w3 = wr.alloc (.cells #[.int .i64 (cc : Int), .int .i64 p.v0, .int .i64 p.v1, .int .i64 p.v2, .int .i64 p.v3, .int .i64 p.t] 71) := ⟨_, rfl⟩
            have y : w3.heap[wr.heap.size]? = some (.cells #[.int .i64 (cc : Int), .int .i64 p.v0, .int .i64 p.v1, .int .i64 p.v2, .int .i64 p.v3, .int .i64 p.t] 71 (0, 0)) := by rw [hw3]; exact heap_alloc_new wr _
            have y0 := cell_blk y (j := 0) rfl
            rw [← hw3] at hb'
            have B3 := hid hb'
            have HW3 := hid hw3
            have IT := hid (Sc.itoa_any k (by omega))
            have KE : Hid (∀ W', Below w3.heap.size w3 W' → W'.cell? ⟨2, 0, none⟩ = some (.iface 262 (.pointer (some (Ad 9))))) := fun W' hb => e9 ((HE.out.later B3.out).later hb)
            have AC : Hid (∀ W', Calls Tryz.prog 33 #[.string (Sc.dig k), .iface 262 (.pointer (some (Ad 9)))] W' fun e w' => ∃ t q, e = .returned (.iface t q) ∧ Err Ad w' (.iface t q) 9 1 ∧ Below W'.heap.size W' w') := fun W' => at_err Ad (Sc.dig k) _ 9 0 W' (err_leaf Ad _ 9 (by decide))
            clear hp hpos ht HM HM6 hb' y hw3
            go_upto_region 12 with fail
            rw [← HW3.out]
            go_wp2_with (go_at_call 69; refine (HS.out _).mono ?_; rintro e w2 ⟨rfl, hq⟩; obtain rfl := hq.symm)
            go_region_held3 (fun W' => W'.cell? ⟨2, 0, none⟩ = some (.iface 262 (.pointer (some (Ad 9)))))
              (first | exact KE.out _ (Below.refl _ _).drew | exact KE.out _ (Below.refl _ _) | exact KE.out _ B6.out)
              (first
                | (go_at_call 68; refine (IT.out _).mono ?_; rintro e w5 ⟨rfl, rfl⟩)
                | (go_at_call 33; refine (AC.out _).mono ?_; rintro e w6 ⟨t6, q6, rfl, hv6, hb6⟩; have V6 := hid hv6; have B6 : Hid (Below w3.heap.size w3 w6) := (by first | exact (Below.refl _ _).drew.trans hb6 | exact (Below.refl _ _).drew.drew.trans hb6 | exact hb6); clear hv6 hb6))
            have B7 : Hid (Below W.heap.size W w6) := B3.out.trans (B6.out.mono B3.out.size)
            clear B6 KE AC IT
            go_wp2_with fail
            go_ret
            exact ⟨_, rfl, by rw [HU.out]; exact Er.of (by decide) V6.out, B7.out⟩
        · have hki : ¬ ((k : Int) < (l.length : Int)) := by omega
          obtain rfl : k = l.length := by omega
          have HU : Hid (chkL s.ws l = 0) := by
            show chkL s.ws l = 0
            have := HAP.out
            rw [List.take_length] at this
            unfold chkL
            rw [if_pos (List.all_eq_true.2 HALL.out)]
            exact if_pos this
          go_wp2_with fail
          go_ret
          exact ⟨_, rfl, by rw [HU.out]; exact Er.none _ _, HB2.out⟩
end Go.Proofs.YtoafpfheopgdkaaGreatDoor.So
namespace Go.Proofs.YtoafpfheopgdkaaGreatDoor.So
open Go.RowKit Go.Shelf Go.Maps
open Go.Proofs.YtoafpfheopgdkaaGreatDoor.Co (I64 Pt Col CS I64_mid)
open Go.Proofs.YtoafpfheopgdkaaGreatDoor.At (St bAl cell_blk blk_seen blk_free Ints Err at_err err_leaf wi add)
open Go.Proofs.YtoafpfheopgdkaaGreatDoor.Ro (RS)
open Go.Proofs.YtoafpfheopgdkaaGreatDoor.Rs (Prt SD okL okW fitP PRow mskP Six insP insr insP_rec mem_insr insr_sorted remP Prts)
theorem insr_perm (p : Prt) : ∀ l : List Prt, (insr p l).Perm (p :: l)
  | [] => by simp [insr]
  | x :: l => by
    unfold insr
    split
    · exact List.Perm.refl _
    · exact ((insr_perm p l).cons x).trans (List.Perm.swap p x l)
/-- Parts by rising components. -/
def sortP (l : List Prt) : List Prt := l.foldl insP []
theorem sort_snoc (l : List Prt) (p : Prt) : sortP (l ++ [p]) = insP (sortP l) p := by unfold sortP; rw [List.foldl_append]; rfl
theorem fold_perm : ∀ (l acc : List Prt), (l.foldl insP acc).Perm (acc ++ l)
  | [], acc => by simp
  | p :: l, acc => by
    rw [List.foldl_cons]
    refine (fold_perm l _).trans ?_
    rw [insP_rec]
    refine ((insr_perm p acc).append_right l).trans ?_
    exact List.perm_middle.symm
theorem sort_perm (l : List Prt) : l.Perm (sortP l) := by
  have := fold_perm l []
  simpa [sortP] using this.symm
theorem fold_sorted : ∀ (l acc : List Prt), acc.Pairwise (fun x y => x.c < y.c) → Apart (acc ++ l) → (l.foldl insP acc).Pairwise (fun x y => x.c < y.c)
  | [], acc, h, _ => h
  | p :: l, acc, h, ha => by
    rw [List.foldl_cons]
    have hp : ∀ x ∈ acc, x.c ≠ p.c := fun x hx => by
      rw [Apart, List.pairwise_append] at ha
      exact ha.2.2 x hx p (by simp)
    refine fold_sorted l _ ?_ ?_
    · rw [insP_rec]; exact insr_sorted h hp
    · rw [insP_rec]
      exact apart_perm ha (List.perm_middle.trans (((insr_perm p acc).append_right l).symm))
theorem sort_ok {ws : List Nat} {l : List Prt} (h : chkL ws l = 0) (ht : ∀ p ∈ l, I64 p.t) : okE ws (sortP l) := by
  obtain ⟨h1, h2⟩ := chk_ok h
  refine ⟨⟨fold_sorted l [] (by simp) (by simpa using h2), fun x hx => ?_⟩, fun x hx => ?_⟩
  · exact Rs.fit_range (h1 x ((sort_perm l).mem_iff.2 hx))
  · have := (sort_perm l).mem_iff.2 hx
    exact ⟨h1 x this, ht x this⟩
/-- A store whose blocks are S. -/
def Str (B : Nat) (W : World) (sb t : Nat) (s : SD) (S : Nat → Prop) : Prop := ∃ c, Sto none B W sb c s ∧ c.t = t ∧ ∀ k, S k ↔ c.f k ≠ (0, 0, 0)
/-- What a call that changes a store leaves. -/
def Goes (B sb t : Nat) (s : SD) (S : Nat → Prop) (W W' : World) : Prop := ∃ S', Str B W' sb t s S' ∧ St S W W' ∧ ∀ k, S' k → S k ∨ W.heap.size ≤ k
section
variable {B : Nat} {W W' : World} {sb t : Nat} {s s' : SD} {S : Nat → Prop}
theorem Str.kept {T : Nat → Prop} (h : Str B W sb t s S) (hs : St T W W') (hd : ∀ k, S k → ¬ T k) : Str B W' sb t s S := by
  obtain ⟨c, h1, h2, h3⟩ := h
  exact ⟨c, h1.keep hs fun k hk => hd k ((h3 k).2 hk), h2, h3⟩
theorem Str.later (h : Str B W sb t s S) (hb : Below W.heap.size W W') : Str B W' sb t s S := h.kept (T := fun _ => False) (St.of_below hb) fun _ _ q => q
theorem Str.lt (h : Str B W sb t s S) (k : Nat) (hk : S k) : B ≤ k ∧ k < W.heap.size := by
  obtain ⟨c, h1, h2, h3⟩ := h
  exact h1.lt k ((h3 k).1 hk)
theorem Str.big (h : Str B W sb t s S) : B ≤ W.heap.size := by obtain ⟨c, h1, h2, h3⟩ := h; exact h1.big
theorem Str.below (h : Str B W sb t s S) (hs : St S W W') : Below B W W' := hs.below (fun k hk => (h.lt k hk).1) h.big
theorem Goes.of {c c' : CV} {t' : Nat} (hS : ∀ k, S k ↔ c.f k ≠ (0, 0, 0)) (h : Sto none B W' sb c' s') (ht : c'.t = t') (hg : Gw c c' W W') : Goes B sb t' s' S W W' :=
  ⟨_, ⟨c', h, ht, fun _ => Iff.rfl⟩, ⟨hg.st.os, hg.st.tape, hg.st.output, hg.st.size, fun k hk hn => hg.st.block k hk fun q => hn ((hS k).2 q)⟩, fun k hk => (hg.new k hk).imp (hS k).2 id⟩
theorem Goes.stay (h : Str B W sb t s S) (hb : Below W.heap.size W W') : Goes B sb t s S W W' := ⟨S, h.later hb, St.of_below hb, fun _ q => .inl q⟩
theorem Goes.after {W0 : World} (hb : Below W0.heap.size W0 W) (h : Goes B sb t s S W W') : Goes B sb t s S W0 W' := by
  obtain ⟨S', h1, h2, h3⟩ := h
  exact ⟨S', h1, (St.of_below hb).trans h2 fun _ _ q => q, fun k hk => (h3 k hk).imp id fun q => Nat.le_trans hb.size q⟩
end
theorem hid_row {S : Nat → Prop} {W : World} {v : Value} {l : List Prt} (h : PRow W v l) (hS : ∀ k, S k → W.heap.size ≤ k) : PRowOut S W v l := by
  obtain ⟨a, c, h1, h2⟩ := h
  refine ⟨a, c, h1, ?_⟩
  rcases l with _ | ⟨p, l⟩
  · exact .inl rfl
  · rcases h2 with h2 | ⟨b, o, q1, q3⟩
    · cases h2
    · refine .inr ⟨b, o, q1, fun q => ?_, q3⟩
      have e1 : b < W.heap.size := World.block_lt_of_cell? W _ (q3 0 p rfl).c0
      have e2 := hS b q
      omega
end Go.Proofs.YtoafpfheopgdkaaGreatDoor.So
namespace Go.Proofs.YtoafpfheopgdkaaGreatDoor.So
open Go.RowKit Go.Shelf Go.Maps
open Go.Proofs.YtoafpfheopgdkaaGreatDoor.Co (I64 Pt Col CS I64_mid)
open Go.Proofs.YtoafpfheopgdkaaGreatDoor.At (St bAl cell_blk blk_seen blk_free Ints Err at_err err_leaf wi add)
open Go.Proofs.YtoafpfheopgdkaaGreatDoor.Ro (RS ErrAt)
open Go.Proofs.YtoafpfheopgdkaaGreatDoor.Rs (Prt SD okL okW fitP PRow mskP Six Prts)
def bSpawn : ByteArray := ⟨#[115, 112, 97, 119, 110]⟩
theorem zero_ent {W : World} {k : Nat} (h : W.heap[k]? = some (.cells #[.int .i64 0, .int .i64 0] 58 (0, 0))) (a b : Value) : ((W.setCell ⟨k, 0, none⟩ a).setCell ⟨k, 1, none⟩ b).heap[k]? = some (.cells #[a, b] 58 (0, 0)) :=
  heap_setCell_same _ k 1 _ 58 b (heap_setCell_same W k 0 _ 58 a h)
theorem two_st (W : World) (k : Nat) (a b : Value) : St (fun x => x = k) W ((W.setCell ⟨k, 0, none⟩ a).setCell ⟨k, 1, none⟩ b) :=
  (St.setCell (S := fun x => x = k) (p := ⟨k, 0, none⟩) a rfl).trans (St.setCell (S := fun x => x = k) (p := ⟨k, 1, none⟩) b rfl) fun _ _ q => q
theorem errat_er {Ad : Nat → Addr} {W : World} {t : TypeId} {q : Value} {b : ByteArray} {k : Nat} (h0 : k ≠ 0) (h : ErrAt Ad W (.iface t q) b k) : Er Ad W (.iface t q) k := .inr ⟨h0, t, q, rfl, 1, [b], h⟩
theorem Er.zero {Ad : Nat → Addr} {W : World} {v : Value} (h : Er Ad W v 0) : v = .nilIface := h.elim (fun q => q.2) fun q => absurd rfl q.1
theorem ro_st' {S : Nat → Prop} {a b : World} (h : Ro.St S a b) : St S a b := ⟨h.os, h.tape, h.output, h.size, h.block⟩
set_option maxHeartbeats 1600000 in
set_option maxRecDepth 100000 in
theorem spawn_nil (Ad : Nat → Addr) (W : World) (hE : Env8 W Ad) (v : Value) :
    Calls Tryz.prog 18 #[.pointer none, v] W fun e W' => ∃ r, e = .returned (.tuple #[.agg #[.int .i64 0, .int .i64 0], r]) ∧ Er Ad W' r 2 ∧ Below W.heap.size W W' := by
  obtain ⟨w1, hw1⟩ : ∃ w1, w1 = W.alloc (.cells #[.int .i64 0, .int .i64 0] 58) := ⟨_, rfl⟩
  have b1 : Below W.heap.size W w1 := by rw [hw1]; exact bAl _ _
  have r1 : w1.heap[W.heap.size]? = some (.cells #[.int .i64 0, .int .i64 0] 58 (0, 0)) := by rw [hw1]; exact heap_alloc_new W _
  have c2 := e2 (hE.later b1)
  have AC := hid (fun str => at_err Ad str _ 2 0 w1 (err_leaf Ad _ 2 (by decide)))
  have HW1 := hid hw1
  have B1 := hid b1
  have R1 := hid r1
  clear hw1 b1 hE r1
  go_enter Tryz.func18, Tryz.ntmps18
  go_upto_region 1 with fail
  rw [← HW1.out]
  go_wp2_with fail
  refine (AC.out _).mono ?_
  rintro e w2 ⟨t, q, rfl, hv, hb⟩
  have HV := hid hv
  have B2 := hid (B1.out.trans (hb.mono B1.out.size))
  have R2 := hid (blk_seen hb (Nat.le_refl _) R1.out)
  have d0 := cell_blk R2.out (j := 0) rfl
  have d1 := cell_blk R2.out (j := 1) rfl
  have f0 := blk_free R2.out 0
  have f1 := blk_free R2.out 1
  have PS := hid (two_st w2 W.heap.size (.int .i64 0) (.int .i64 0))
  have PB := hid (zero_ent R2.out (.int .i64 0) (.int .i64 0))
  clear hv hb AC
  go_wp2_with fail
  have hsame : (w2.setCell ⟨W.heap.size, 0, none⟩ (.int .i64 0)).setCell ⟨W.heap.size, 1, none⟩ (.int .i64 0) = w2 := by
    rw [Co.set_same R2.out rfl, Co.set_same R2.out rfl]
  rw [hsame]
  exact bodyPost_ret (v := .tuple #[.agg #[.int .i64 0, .int .i64 0], .iface t q]) (by simp [results, Tryz.results18, go_sem, d0, d1]) rfl ⟨_, rfl, Er.of (by decide) HV.out, B2.out⟩
set_option maxHeartbeats 1600000 in
set_option maxRecDepth 100000 in
theorem spawn_bad (Ad : Nat → Addr) {B : Nat} {W : World} {sb : Nat} {c : CV} {s : SD} (h : Sto none B W sb c s) (hE : Env8 W Ad) {v : Value} {l : List Prt} (hv : PRow W v l) (hl : l.length ≤ 90) (hc : chkL s.ws l ≠ 0) :
    Calls Tryz.prog 18 #[.pointer (some ⟨sb, 0, none⟩), v] W fun e W' => ∃ r, e = .returned (.tuple #[.agg #[.int .i64 0, .int .i64 0], r]) ∧ Er Ad W' r (chkL s.ws l) ∧ Below W.heap.size W W' := by
  obtain ⟨w1, hw1⟩ : ∃ w1, w1 = W.alloc (.cells #[.int .i64 0, .int .i64 0] 58) := ⟨_, rfl⟩
  have b1 : Below W.heap.size W w1 := by rw [hw1]; exact bAl _ _
  have r1 : w1.heap[W.heap.size]? = some (.cells #[.int .i64 0, .int .i64 0] 58 (0, 0)) := by rw [hw1]; exact heap_alloc_new W _
  have CK := hid (checkAll_any Ad (h.later b1) (hE.later b1) (hv.later b1) hl)
  have HW1 := hid hw1
  have B1 := hid b1
  have R1 := hid r1
  generalize chkL s.ws l = k at *
  clear hw1 b1 hE r1 h hv
  go_enter Tryz.func18, Tryz.ntmps18
  go_upto_region 1 with fail
  rw [← HW1.out]
  go_wp2_with fail
  refine CK.out.mono ?_
  rintro e w2 ⟨r, rfl, q1, q2⟩
  rcases q1 with ⟨q1, -⟩ | ⟨-, t, q, rfl, d, hd⟩
  · exact absurd q1 hc
  have AC := hid (fun str => at_err Ad str _ k d w2 hd)
  have B2 := hid (B1.out.trans (q2.mono B1.out.size))
  have R2 := hid (blk_seen q2 (Nat.le_refl _) R1.out)
  clear q2 hd CK R1
  go_wp2_with fail
  refine (AC.out _).mono ?_
  rintro e w3 ⟨t3, q3, rfl, hv3, hb3⟩
  have HV := hid hv3
  have B3 := hid (B2.out.trans (hb3.mono B2.out.size))
  have R3 := hid (blk_seen hb3 (Nat.le_refl _) R2.out)
  have d0 := cell_blk R3.out (j := 0) rfl
  have d1 := cell_blk R3.out (j := 1) rfl
  have f0 := blk_free R3.out 0
  have f1 := blk_free R3.out 1
  clear hv3 hb3 AC R2 B2
  go_wp2_with fail
  have hsame : (w3.setCell ⟨W.heap.size, 0, none⟩ (.int .i64 0)).setCell ⟨W.heap.size, 1, none⟩ (.int .i64 0) = w3 := by
    rw [Co.set_same R3.out rfl, Co.set_same R3.out rfl]
  rw [hsame]
  exact bodyPost_ret (v := .tuple #[.agg #[.int .i64 0, .int .i64 0], .iface t3 q3]) (by simp [results, Tryz.results18, go_sem, d0, d1]) rfl ⟨_, rfl, Er.of hc HV.out, B3.out⟩
set_option maxHeartbeats 1600000 in
set_option maxRecDepth 100000 in
theorem spawn_full (Ad : Nat → Addr) {B : Nat} {W : World} {sb : Nat} {c : CV} {s : SD} (h : Sto none B W sb c s) (hE : Env8 W Ad) {v : Value} {l : List Prt} (hv : PRow W v l) (hl : l.length ≤ 90) (hc : chkL s.ws l = 0) (hf : s.r.free = []) :
    Calls Tryz.prog 18 #[.pointer (some ⟨sb, 0, none⟩), v] W fun e W' => ∃ r, e = .returned (.tuple #[.agg #[.int .i64 0, .int .i64 0], r]) ∧ Er Ad W' r 6 ∧ Below W.heap.size W W' := by
  obtain ⟨w1, hw1⟩ : ∃ w1, w1 = W.alloc (.cells #[.int .i64 0, .int .i64 0] 58) := ⟨_, rfl⟩
  have b1 : Below W.heap.size W w1 := by rw [hw1]; exact bAl _ _
  have r1 : w1.heap[W.heap.size]? = some (.cells #[.int .i64 0, .int .i64 0] 58 (0, 0)) := by rw [hw1]; exact heap_alloc_new W _
  have CK := hid (checkAll_any Ad (h.later b1) (hE.later b1) (hv.later b1) hl)
  rw [hc] at CK
  have H1 := hid (h.later b1)
  have HE := hid (hE.later b1)
  have HW1 := hid hw1
  have B1 := hid b1
  have R1 := hid r1
  clear hw1 b1 hE r1 h hv
  go_enter Tryz.func18, Tryz.ntmps18
  go_upto_region 1 with fail
  rw [← HW1.out]
  go_wp2_with fail
  refine CK.out.mono ?_
  rintro e w2 ⟨r, rfl, q1, q2⟩
  obtain rfl := q1.zero
  have H2 := hid (H1.out.later q2)
  have c3 := H2.out.c3
  have TK := hid (Ro.rol_full Ad H2.out.rol (Env8.four (HE.out.later q2)) hf)
  have B2 := hid (B1.out.trans (q2.mono B1.out.size))
  have R2 := hid (blk_seen q2 (Nat.le_refl _) R1.out)
  clear q2 CK R1 hf
  go_wp2_with fail
  refine TK.out.mono ?_
  rintro e w3 ⟨b, rfl, hbb, hv3, hb3⟩
  obtain ⟨w4, hw4⟩ : ∃ w4, w4 = w3.alloc (.cells #[.int .i64 0, .int .i64 0] 58) := ⟨_, rfl⟩
  have b4 : Below w3.heap.size w3 w4 := by rw [hw4]; exact bAl _ _
  have AC := hid (fun str => at_er Ad str _ 6 w4 ((errat_er (by decide) hv3).later b4))
  have B4 := hid ((B2.out.trans (hb3.mono B2.out.size)).trans (b4.mono (Nat.le_trans B2.out.size hb3.size)))
  have R4 := hid (blk_seen b4 (Nat.le_refl _) (blk_seen hb3 (Nat.le_refl _) R2.out))
  have HW4 := hid hw4
  clear hv3 hb3 b4 hw4 TK c3
  go_upto_region 7 with fail
  rw [← HW4.out]
  go_wp2_with fail
  refine (AC.out _).mono ?_
  rintro e w5 ⟨r5, rfl, hv5, hb5⟩
  have HV := hid hv5
  have B5 := hid (B4.out.trans (hb5.mono B4.out.size))
  have R5 := hid (blk_seen hb5 (Nat.le_refl _) R4.out)
  have d0 := cell_blk R5.out (j := 0) rfl
  have d1 := cell_blk R5.out (j := 1) rfl
  have f0 := blk_free R5.out 0
  have f1 := blk_free R5.out 1
  clear hv5 hb5 AC R4 B4
  go_wp2_with fail
  have hsame : (w5.setCell ⟨W.heap.size, 0, none⟩ (.int .i64 0)).setCell ⟨W.heap.size, 1, none⟩ (.int .i64 0) = w5 := by
    rw [Co.set_same R5.out rfl, Co.set_same R5.out rfl]
  rw [hsame]
  exact bodyPost_ret (v := .tuple #[.agg #[.int .i64 0, .int .i64 0], r5]) (by simp [results, Tryz.results18, go_sem, d0, d1]) rfl ⟨_, rfl, HV.out, B5.out⟩
set_option maxHeartbeats 3200000 in
set_option maxRecDepth 100000 in
theorem spawn_ok (Ad : Nat → Addr) {B : Nat} {W : World} {sb : Nat} {c : CV} {s : SD} (h : Sto none B W sb c s) (hE : Env8 W Ad) {v : Value} {l : List Prt} (hv : PRowOut (fun k => c.f k ≠ (0, 0, 0)) W v l) (hl : l.length ≤ 90) (hc : chkL s.ws l = 0) (hti : ∀ p ∈ l, I64 p.t) {f : List Nat} {i : Nat} (hf : s.r.free = f ++ [i]) (ht : c.t ≤ 1000) :
    Calls Tryz.prog 18 #[.pointer (some ⟨sb, 0, none⟩), v] W fun e W' => e = .returned (.tuple #[.agg #[.int .i64 (i : Int), .int .i64 ((s.r.gens.getD i 0 + 1 : Nat) : Int)], .nilIface]) ∧ ∃ c', Sto none B W' sb c' (entered { s with r := s.r.took i } i (sortP l)) ∧ c'.t = c.t + 1 ∧ Gw c c' W W' := by
  obtain ⟨w1, hw1⟩ : ∃ w1, w1 = W.alloc (.cells #[.int .i64 0, .int .i64 0] 58) := ⟨_, rfl⟩
  have b1 : Below W.heap.size W w1 := by rw [hw1]; exact bAl _ _
  have r1 : w1.heap[W.heap.size]? = some (.cells #[.int .i64 0, .int .i64 0] 58 (0, 0)) := by rw [hw1]; exact heap_alloc_new W _
  have CK := hid (checkAll_any Ad (h.later b1) (hE.later b1) (hv.row.later b1) hl)
  rw [hc] at CK
  have H := hid h
  have HW1 := hid hw1
  have B1 := hid b1
  have R1 := hid r1
  have HV := hid hv.more
  have HF := hid hf
  have HO := hid (sort_ok hc hti)
  clear hw1 b1 hE r1 h hv hf hc hti
  go_enter Tryz.func18, Tryz.ntmps18
  go_upto_region 1 with fail
  rw [← HW1.out]
  go_wp2_with fail
  refine CK.out.mono ?_
  rintro e w2 ⟨r, rfl, q1, q2⟩
  obtain rfl := q1.zero
  have B2 := hid (B1.out.trans (q2.mono B1.out.size))
  have H2 := hid (H.out.later B2.out)
  have c3 := H2.out.c3
  have TK := hid (Ro.rol_take H2.out.rol HF.out ht)
  have R2 := hid (blk_seen q2 (Nat.le_refl _) R1.out)
  clear q2 CK R1
  go_wp2_with fail
  refine TK.out.mono ?_
  rintro e w3 ⟨rfl, hr3, hs3⟩
  have hs3' := ro_st' hs3
  obtain ⟨f3, h3, g3⟩ := H2.out.roll hr3 hs3' (fun k hk => .inl hk) (H2.out.lk.take H.out.rol.ok HF.out) (by have := H.out.small; omega)
  obtain ⟨gn, hgn⟩ : ∃ gn : Nat, gn = s.r.gens.getD i 0 + 1 := ⟨_, rfl⟩
  have hgi : ((s.r.gens.getD i 0 : Nat) : Int) + 1 = (gn : Int) := by rw [hgn]; simp
  rw [hgi]
  have G3 := (Gw.of_below (c := c) B2.out).trans g3
  have hal : al { s with r := s.r.took i } i gn := (al_took H.out.rol.ok HF.out i gn).2 (.inl ⟨rfl, hgn⟩)
  have O3 : Hid (f3 W.heap.size = (0, 0, 0)) := Classical.byContradiction fun q => by
    rcases g3.new _ q with q | q
    · have := (H.out.lt _ q).2; omega
    · have := (Array.getElem?_eq_some_iff.1 R2.out).1; omega
  have x3 : w3.heap[W.heap.size]? = some (.cells #[.int .i64 0, .int .i64 0] 58 (0, 0)) := g3.st.at R2.out fun q => by have := (H.out.lt _ q).2; omega
  have v3 := (HV.out.kept (T := fun _ => False) (St.of_below B2.out) fun _ q => q.elim).kept g3.st fun k q => .inl q
  obtain ⟨w4, hw4⟩ : ∃ w4, w4 = w3.alloc (.cells #[.int .i64 (i : Int), .int .i64 (gn : Int)] 58) := ⟨_, rfl⟩
  have b4 : Below w3.heap.size w3 w4 := by rw [hw4]; exact bAl _ _
  have r4 : w4.heap[w3.heap.size]? = some (.cells #[.int .i64 (i : Int), .int .i64 (gn : Int)] 58 (0, 0)) := by rw [hw4]; exact heap_alloc_new w3 _
  have EN := hid (enter_any (h3.later b4) hal ((v3.kept (T := fun _ => False) (St.of_below b4) fun _ q => q.elim).mono fun k q => G3.new k q) (sort_perm l) HO.out)
  have H3 := hid h3
  have GG3 := hid (G3.trans (Gw.of_below b4))
  have X4 := hid (blk_seen b4 (Nat.le_refl _) x3)
  have R4 := hid r4
  have HW4 := hid hw4
  have HGN := hid hgn
  have y0 := cell_blk r4 (j := 0) rfl
  have y1 := cell_blk r4 (j := 1) rfl
  have hW3 : W.heap.size < w3.heap.size := (Array.getElem?_eq_some_iff.1 x3).1
  clear hr3 hs3 hs3' h3 g3 hgn hgi G3 hal x3 v3 b4 r4 hw4 TK c3 R2
  go_upto_region 7 with fail
  rw [← HW4.out]
  go_wp2_with fail
  refine EN.out.mono ?_
  rintro e w5 ⟨rfl, c5, h5, t5, g5⟩
  have G5 := hid (GG3.out.trans g5)
  have H5 := hid h5
  have T5 := hid t5
  have x5 : w5.heap[W.heap.size]? = some (.cells #[.int .i64 0, .int .i64 0] 58 (0, 0)) := g5.st.at X4.out fun q => q O3.out
  have r5 : w5.heap[w3.heap.size]? = some (.cells #[.int .i64 (i : Int), .int .i64 (gn : Int)] 58 (0, 0)) := g5.st.at R4.out fun q => by have := (H3.out.lt _ q).2; omega
  have X5 := hid x5
  have z0 := cell_blk r5 (j := 0) rfl
  have z1 := cell_blk r5 (j := 1) rfl
  have d0 := cell_blk x5 (j := 0) rfl
  have d1 := cell_blk x5 (j := 1) rfl
  have f0 := blk_free x5 0
  have f1 := blk_free x5 1
  have hne : ¬ (w3.heap.size = W.heap.size) := by omega
  have PS := hid (two_st w5 W.heap.size (.int .i64 (i : Int)) (.int .i64 (gn : Int)))
  have PB := hid (zero_ent x5 (.int .i64 (i : Int)) (.int .i64 (gn : Int)))
  have O5 : Hid (c5.f W.heap.size = (0, 0, 0)) := Classical.byContradiction fun q => by
    rcases g5.new _ q with q | q
    · exact q O3.out
    · have := (Array.getElem?_eq_some_iff.1 X4.out).1; omega
  clear h5 t5 g5 x5 r5 EN
  go_wp2_with fail
  obtain ⟨w6, hw6⟩ : ∃ w6, w6 = (w5.setCell ⟨W.heap.size, 0, none⟩ (.int .i64 (i : Int))).setCell ⟨W.heap.size, 1, none⟩ (.int .i64 (gn : Int)) := ⟨_, rfl⟩
  rw [← hw6] at PS PB ⊢
  have t0 := cell_blk PB.out (j := 0) rfl
  have t1 := cell_blk PB.out (j := 1) rfl
  have hk : ∀ k, c5.f k ≠ (0, 0, 0) → ¬ k = W.heap.size := fun k q e => q (by rw [e]; exact O5.out)
  refine bodyPost_ret (v := .tuple #[.agg #[.int .i64 (i : Int), .int .i64 (gn : Int)], .nilIface]) (by simp [results, Tryz.results18, go_sem, t0, t1]) rfl ⟨by rw [HGN.out], c5, H5.out.keep PS.out hk, T5.out, ?_⟩
  refine ⟨G5.out.st.trans PS.out fun k hk' e => ?_, G5.out.new⟩
  omega
end Go.Proofs.YtoafpfheopgdkaaGreatDoor.So
namespace Go.Proofs.YtoafpfheopgdkaaGreatDoor.So
open Go.RowKit Go.Shelf Go.Maps
open Go.Proofs.YtoafpfheopgdkaaGreatDoor.Co (I64 Pt Col CS I64_mid)
open Go.Proofs.YtoafpfheopgdkaaGreatDoor.At (St bAl cell_blk blk_seen blk_free Ints Err at_err err_leaf wi add lst lst_mem)
open Go.Proofs.YtoafpfheopgdkaaGreatDoor.Ro (RS ErrAt)
open Go.Proofs.YtoafpfheopgdkaaGreatDoor.Rs (Prt SD okL okW fitP PRow mskP Six Prts)
section
variable {ex : Option Nat} {B : Nat} {W : World} {sb : Nat} {c : CV} {s : SD}
end
/-- find tells that there is nothing. -/
def NoFind (Ad : Nat → Addr) (W : World) (rv : Value) (i g : Int) (k : Nat) : Prop := ∀ W', Below W.heap.size W W' → Calls Tryz.prog 55 #[rv, .agg #[.int .i64 i, .int .i64 g]] W' fun e W2 => e = .returned (.tuple #[.pointer none, .int .i64 0, .iface 262 (.pointer (some (Ad k)))]) ∧ Below W'.heap.size W' W2
theorem nofind_nil (Ad : Nat → Addr) (W : World) (hE : Env8 W Ad) (i g : Int) : NoFind Ad W (.pointer none) i g 2 := fun W' hb => find_nil Ad W' (hE.later hb) i g
theorem nofind_dead (Ad : Nat → Addr) {ex : Option Nat} {B : Nat} {W : World} {sb : Nat} {c : CV} {s : SD} (h : Sto ex B W sb c s) (hE : Env8 W Ad) (i g : Int) (hi : I64 i) (hg : I64 g) (ha : s.r.aliveB i g = false) : NoFind Ad W (.pointer (some ⟨sb, 0, none⟩)) i g 17 := fun _ hb => find_dead Ad (h.later hb) (hE.later hb) i g hi hg ha
theorem NoFind.later {Ad : Nat → Addr} {W W' : World} {rv : Value} {i g : Int} {k : Nat} (h : NoFind Ad W rv i g k) (hb : Below W.heap.size W W') : NoFind Ad W' rv i g k := fun W2 hb2 => h W2 (hb.trans (hb2.mono hb.size))
section
variable {Ad : Nat → Addr} {W : World} {rv : Value} {i g : Int} {k : Nat}
set_option maxHeartbeats 1600000 in
set_option maxRecDepth 100000 in
theorem parts_err (h : NoFind Ad W rv i g k) (hk : 1 ≤ k ∧ k ≤ 18) : Calls Tryz.prog 28 #[rv, .agg #[.int .i64 i, .int .i64 g]] W fun e W' => ∃ r, e = .returned (.tuple #[.slice none 0 0, r]) ∧ Er Ad W' r k ∧ Below W.heap.size W W' := by
  obtain ⟨w1, hw1⟩ : ∃ w1, w1 = W.alloc (.cells #[.int .i64 i, .int .i64 g] 58) := ⟨_, rfl⟩
  have b1 : Below W.heap.size W w1 := by rw [hw1]; exact bAl _ _
  have r1 : w1.heap[W.heap.size]? = some (.cells #[.int .i64 i, .int .i64 g] 58 (0, 0)) := by rw [hw1]; exact heap_alloc_new W _
  have d0 := cell_blk r1 (j := 0) rfl
  have d1 := cell_blk r1 (j := 1) rfl
  have FD := hid (h w1 b1)
  have HW1 := hid hw1
  have B1 := hid b1
  clear hw1 b1 r1 h
  go_enter Tryz.func28, Tryz.ntmps28
  go_upto_region 1 with fail
  rw [← HW1.out]
  go_wp2_with fail
  refine FD.out.mono ?_
  rintro e w2 ⟨rfl, hb⟩
  obtain ⟨w3, hw3⟩ : ∃ w3, w3 = w2.alloc (.cells #[.int .i64 0] 3) := ⟨_, rfl⟩
  have b3 : Below w2.heap.size w2 w3 := by rw [hw3]; exact bAl _ _
  have AC := hid (fun str => at_err Ad str _ k 0 w3 (err_leaf Ad _ k hk))
  have B3 := hid ((B1.out.trans (hb.mono B1.out.size)).trans (b3.mono (Nat.le_trans B1.out.size hb.size)))
  have HW3 := hid hw3
  clear hb FD b3 hw3
  go_upto_region 2 with fail
  rw [← HW3.out]
  go_wp2_with fail
  refine (AC.out _).mono ?_
  rintro e w4 ⟨t, q, rfl, hv, hb⟩
  have HV := hid hv
  have B4 := hid (B3.out.trans (hb.mono B3.out.size))
  clear hv hb AC
  go_wp2_with fail
  exact bodyPost_ret (v := .tuple #[.slice none 0 0, .iface t q]) (by simp [results, Tryz.results28, go_sem]) rfl ⟨_, rfl, Er.of (by omega) HV.out, B4.out⟩
end
end Go.Proofs.YtoafpfheopgdkaaGreatDoor.So
namespace Go.Proofs.YtoafpfheopgdkaaGreatDoor.So
open Go.RowKit Go.Shelf Go.Maps
open Go.Proofs.YtoafpfheopgdkaaGreatDoor.Co (I64 Pt Col CS I64_mid)
open Go.Proofs.YtoafpfheopgdkaaGreatDoor.At (St bAl cell_blk blk_seen blk_free Ints Err at_err err_leaf wi add lst lst_mem)
open Go.Proofs.YtoafpfheopgdkaaGreatDoor.Ro (RS ErrAt)
open Go.Proofs.YtoafpfheopgdkaaGreatDoor.Rs (Prt SD okL okW fitP PRow mskP Six Prts)
theorem enters97 : ∀ args w, (callFunc 57 args).run Tryz.prog w = .ok (.enter 57 args) w := enters_of Tryz.func57 (by kernel_rfl) rfl
section
variable {B : Nat} {W : World} {sb : Nat} {c : CV} {s : SD}
/-- The table in which one stands. -/
theorem Sto.tabOf {ex : Option Nat} (h : Sto ex B W sb c s) {i g n j m : Nat} {own : List (Nat × Nat)} {y : Nat × Nat} (A : At1 c s i g n j m own y) : Tb B W c.f n (c.tv n) m s.ws own (rowsOf s own) := by
  obtain ⟨m', q1, q2⟩ := h.tabs n own A.tab
  rw [A.set] at q1
  obtain rfl : m = m' := by simpa using q1
  exact q2
theorem Sto.m16 {ex : Option Nat} (h : Sto ex B W sb c s) {i g n j m : Nat} {own : List (Nat × Nat)} {y : Nat × Nat} (A : At1 c s i g n j m own y) : m < 65536 := by
  have := h.atl.ok.u16 (List.mem_of_getElem? A.set)
  exact this
theorem reading {f : Nat → Nat × Nat × Nat} {n : Nat} {x : TV} {m : Nat} {ws : List Nat} {own : List (Nat × Nat)} {rows : Nat → List Pt} (h : Tb B W f n x m ws own rows) (hm : m < 65536) (j xb : Nat) (hj : j < own.length) (hrows : ∀ c, m.testBit c = true → (rows c).length = own.length) (hlt : ∀ k, f k ≠ (0, 0, 0) → k < W.heap.size)
    (hx : W.heap[xb]? = some (.cells #[.int .i64 (j : Int)] 3 (0, 0))) :
    Calls Tryz.prog 56 #[.pointer (some ⟨x.tb, 0, none⟩), .func (.func 57) #[] #[.pointer (some ⟨xb, 0, none⟩)]] W fun e W' => ∃ v, e = .returned v ∧ Prts W.heap.size W' v ((lst 32 m).map fun c => mk c ((rows c).getD j Pt.zero)) ∧ Below W.heap.size W W' := by
  have hc16 : ∀ c, m.testBit c = true → c < 16 := fun c hc => Nat.lt_of_not_le fun q => by
    rw [At.bit_out (n := 16) hm q] at hc
    cases hc
  refine (each_any 57 #[.pointer (some ⟨xb, 0, none⟩)] enters97 x.tb x.cm m x.cb (fun c => mk c ((rows c).getD j Pt.zero)) (fun _ w => Tb B w f n x m ws own rows ∧ w.heap[xb]? = some (.cells #[.int .i64 (j : Int)] 3 (0, 0)) ∧ Below W.heap.size W w) hm ⟨h, hx, Below.refl _ _⟩ h.c0 ?_ ?_ ?_ ?_).mono fun e W' ⟨v, q1, q2, q3, q4⟩ => ⟨v, q1, q2, q3.2.2⟩
  · rintro k w w' ⟨k1, k2, k3⟩ hb
    exact ⟨k1.later hb, blk_seen hb (Nat.le_refl _) k2, k3.trans (hb.mono k3.size)⟩
  · rintro k w ⟨k1, k2, k3⟩
    refine ⟨k1.c2, fun c hc => ?_⟩
    have := k1.look (c : Int) (I64_mid (by omega) (by have := hc16 c hc; omega))
    rw [lk_nat] at this
    unfold colMap at this
    rw [if_pos hc] at this
    exact this
  · rintro k w w' lv q ⟨k1, k2, k3⟩ hw hp hs
    have hlv : ∀ y, lv.ownBlock = some y → W.heap.size ≤ y := fun y hy => (hp.lt y hy).1
    have hxl := (Array.getElem?_eq_some_iff.1 hx).1
    refine ⟨k1.move hs (fun y hy e => ?_) fun _ _ _ => Iff.rfl, hs.at k2 fun e => ?_, k3.trans (hs.below hlv hw)⟩
    · have := hlv y e
      have := hlt y (cls_ne hy).1
      omega
    · have := hlv _ e; omega
  · rintro k c w hc ⟨k1, k2, k3⟩ hw
    have hcb := ((lst_mem m c 32).1 (List.mem_of_getElem? hc)).2
    obtain ⟨wd, q1, q2⟩ := k1.col c hcb
    have hl := hrows c hcb
    obtain ⟨p, hp⟩ := at_lt (rows c) j (by omega)
    have ep : (rows c).getD j Pt.zero = p := by rw [List.getD_eq_getElem?_getD, hp]; rfl
    refine (row1_any q2 j p hp xb (cell_blk k2 rfl)).mono ?_
    rintro e w' ⟨rfl, hb⟩
    exact ⟨by rw [ep, mk_val], ⟨k1.later hb, blk_seen hb (Nat.le_refl _) k2, k3.trans (hb.mono k3.size)⟩, St.of_below hb⟩
set_option maxHeartbeats 1600000 in
set_option maxRecDepth 100000 in
theorem parts_ok {i g : Nat} (h : Sto none B W sb c s) (ha : al s i g) : Calls Tryz.prog 28 #[.pointer (some ⟨sb, 0, none⟩), .agg #[.int .i64 (i : Int), .int .i64 (g : Int)]] W fun e W' => ∃ v, e = .returned (.tuple #[v, .nilIface]) ∧ Prts W.heap.size W' v (s.at i) ∧ Below W.heap.size W W' := by
  obtain ⟨n, j, m, own, y, A⟩ := h.stands ha (by simp)
  obtain ⟨w1, hw1⟩ : ∃ w1, w1 = W.alloc (.cells #[.int .i64 (i : Int), .int .i64 (g : Int)] 58) := ⟨_, rfl⟩
  have b1 : Below W.heap.size W w1 := by rw [hw1]; exact bAl _ _
  have r1 : w1.heap[W.heap.size]? = some (.cells #[.int .i64 (i : Int), .int .i64 (g : Int)] 58 (0, 0)) := by rw [hw1]; exact heap_alloc_new W _
  have d0 := cell_blk r1 (j := 0) rfl
  have d1 := cell_blk r1 (j := 1) rfl
  have h1 := h.later b1
  have FD := hid (find_some h1 ha A)
  have TB := hid (h1.tabOf A)
  have HW1 := hid hw1
  have B1 := hid b1
  have AA := hid A
  have H := hid h
  have hm16 := h.m16 A
  obtain ⟨x, hx⟩ : ∃ x, x = c.tv n := ⟨_, rfl⟩
  rw [← hx] at FD TB
  clear hw1 b1 r1 h h1 ha A hx
  go_enter Tryz.func28, Tryz.ntmps28
  go_upto_region 1 with fail
  rw [← HW1.out]
  go_wp2_with fail
  refine FD.out.mono ?_
  rintro e w2 ⟨rfl, hb⟩
  obtain ⟨w3, hw3⟩ : ∃ w3, w3 = w2.alloc (.cells #[.int .i64 (j : Int)] 3) := ⟨_, rfl⟩
  have b3 : Below w2.heap.size w2 w3 := by rw [hw3]; exact bAl _ _
  have r3 : w3.heap[w2.heap.size]? = some (.cells #[.int .i64 (j : Int)] 3 (0, 0)) := by rw [hw3]; exact heap_alloc_new w2 _
  have B3 := hid ((B1.out.trans (hb.mono B1.out.size)).trans (b3.mono (Nat.le_trans B1.out.size hb.size)))
  have hj := (List.getElem?_eq_some_iff.1 AA.out.here).1
  have RD := hid (reading ((TB.out.later hb).later b3) hm16 j w2.heap.size hj (fun q _ => by unfold rowsOf; simp) (fun k hk => Nat.lt_of_lt_of_le (H.out.lt k hk).2 B3.out.size) r3)
  rw [AA.out.msk, parts_left AA.out.ok H.out.okw.1 AA.out.here] at RD
  have HW3 := hid hw3
  clear hb FD b3 hw3 r3
  go_upto_region 2 with fail
  rw [← HW3.out]
  go_wp2_with fail
  refine RD.out.mono ?_
  rintro e w4 ⟨v, rfl, hv, hb⟩
  have HV := hid (hv.lower B3.out.size)
  have B4 := hid (B3.out.trans (hb.mono B3.out.size))
  clear hv hb RD
  go_wp2_with fail
  exact bodyPost_ret (v := .tuple #[v, .nilIface]) (by simp [results, Tryz.results28, go_sem]) rfl ⟨_, rfl, HV.out, B4.out⟩
end
end Go.Proofs.YtoafpfheopgdkaaGreatDoor.So
namespace Go.Proofs.YtoafpfheopgdkaaGreatDoor.So
open Go.RowKit Go.Shelf Go.Maps
open Go.Proofs.YtoafpfheopgdkaaGreatDoor.Co (I64 Pt Col CS I64_mid lies put6_blk put6_st put6)
open Go.Proofs.YtoafpfheopgdkaaGreatDoor.At (St bAl cell_blk blk_seen blk_free)
section
variable {B : Nat} {W : World} {rb : Nat} {s : CS} {S : Nat → Prop}
end
end Go.Proofs.YtoafpfheopgdkaaGreatDoor.So
namespace Go.Proofs.YtoafpfheopgdkaaGreatDoor.So
open Go.RowKit Go.Shelf Go.Maps
open Go.Proofs.YtoafpfheopgdkaaGreatDoor.Co (I64 Pt Col CS I64_mid lies put6_blk put6_st put6)
open Go.Proofs.YtoafpfheopgdkaaGreatDoor.At (St bAl cell_blk blk_seen blk_free Ints Err at_err err_leaf)
open Go.Proofs.YtoafpfheopgdkaaGreatDoor.Rs (Prt SD mskP)
/-- The world in which part begins. -/
def pw (W : World) (i g : Int) : World := (W.alloc (.cells #[.int .i64 i, .int .i64 g] 58)).alloc (.cells #[.int .i64 0, .int .i64 0, .int .i64 0, .int .i64 0, .int .i64 0, .int .i64 0] 71)
theorem pw_facts (W : World) (i g : Int) : Below W.heap.size W (pw W i g) ∧ (pw W i g).heap[W.heap.size]? = some (.cells #[.int .i64 i, .int .i64 g] 58 (0, 0)) ∧ (pw W i g).heap[W.heap.size + 1]? = some (.cells (Pt.zero.arr 0) 71 (0, 0)) ∧ (pw W i g).heap.size = W.heap.size + 2 := by
  obtain ⟨a, b, c⟩ := Rs.two_blk W #[.int .i64 i, .int .i64 g] #[.int .i64 0, .int .i64 0, .int .i64 0, .int .i64 0, .int .i64 0, .int .i64 0] 58 71
  exact ⟨a, b, c, by unfold pw; simp⟩
section
variable {Ad : Nat → Addr} {W : World}
end
end Go.Proofs.YtoafpfheopgdkaaGreatDoor.So
namespace Go.Proofs.YtoafpfheopgdkaaGreatDoor.So
open Go.RowKit Go.Shelf Go.Maps
open Go.Proofs.YtoafpfheopgdkaaGreatDoor.Co (I64 Pt Col CS I64_mid lies put6_blk put6_st put6)
open Go.Proofs.YtoafpfheopgdkaaGreatDoor.At (St bAl cell_blk blk_seen blk_free Ints Err at_err err_leaf)
open Go.Proofs.YtoafpfheopgdkaaGreatDoor.Rs (Prt SD mskP)
/-- What is kept while the answer is laid. -/
structure Kept (RB : Nat) (Q : World → Prop) : Prop where
  later : ∀ w w', Q w → Below w.heap.size w w' → Q w'
  st : ∀ w w', Q w → St (fun k => k = RB) w w' → Q w'
theorem keep6 {w w' : World} {b cb : Nat} {a0 a1 a2 a3 a4 a5 : Value} (h : w.cell? ⟨b, 0, none⟩ = some a0 ∧ w.cell? ⟨b, 1, none⟩ = some a1 ∧ w.cell? ⟨b, 2, none⟩ = some a2 ∧ w.cell? ⟨b, 3, none⟩ = some a3 ∧ w.cell? ⟨b, 4, none⟩ = some a4 ∧ w.cell? ⟨b, 5, none⟩ = some a5) (hs : St (fun k => k = cb) w w') (hn : ¬ b = cb) :
    w'.cell? ⟨b, 0, none⟩ = some a0 ∧ w'.cell? ⟨b, 1, none⟩ = some a1 ∧ w'.cell? ⟨b, 2, none⟩ = some a2 ∧ w'.cell? ⟨b, 3, none⟩ = some a3 ∧ w'.cell? ⟨b, 4, none⟩ = some a4 ∧ w'.cell? ⟨b, 5, none⟩ = some a5 :=
  ⟨st_cell hs h.1 hn, st_cell hs h.2.1 hn, st_cell hs h.2.2.1 hn, st_cell hs h.2.2.2.1 hn, st_cell hs h.2.2.2.2.1 hn, st_cell hs h.2.2.2.2.2 hn⟩
theorem er_put {Ad : Nat → Addr} {w : World} {b k : Nat} {r : Value} {cm : Int} {u : Pt} (hb : w.heap[b]? = some (.cells (Pt.zero.arr 0) 71 (0, 0))) (hz : k = 0 ∨ (u = Pt.zero ∧ cm = 0)) (h : Er Ad w r k) : Er Ad (put6 w b cm u) r k := by
  rcases hz with rfl | ⟨rfl, rfl⟩
  · exact .inl ⟨rfl, h.zero⟩
  · rw [Co.put6_same hb]; exact h
section
variable {Ad : Nat → Addr} {W : World} {Q : World → Prop}
end
end Go.Proofs.YtoafpfheopgdkaaGreatDoor.So
namespace Go.Proofs.YtoafpfheopgdkaaGreatDoor.So
open Go.RowKit Go.Shelf Go.Maps
open Go.Proofs.YtoafpfheopgdkaaGreatDoor.Co (I64 Pt Col CS I64_mid lies put6_blk put6_st put6)
open Go.Proofs.YtoafpfheopgdkaaGreatDoor.At (St bAl cell_blk blk_seen blk_free Ints Err at_err err_leaf)
open Go.Proofs.YtoafpfheopgdkaaGreatDoor.Rs (Prt SD mskP fitP)
/-- An entity and a part as variables. -/
def ew (W : World) (i g : Int) (p : Prt) : World := (W.alloc (.cells #[.int .i64 i, .int .i64 g] 58)).alloc (.cells #[.int .i64 p.c, .int .i64 p.v0, .int .i64 p.v1, .int .i64 p.v2, .int .i64 p.v3, .int .i64 p.t] 71)
theorem ew_facts (W : World) (i g : Int) (p : Prt) : Below W.heap.size W (ew W i g p) ∧ (ew W i g p).heap[W.heap.size]? = some (.cells #[.int .i64 i, .int .i64 g] 58 (0, 0)) ∧ (ew W i g p).heap[W.heap.size + 1]? = some (.cells p.arr 71 (0, 0)) ∧ (ew W i g p).heap.size = W.heap.size + 2 := by
  obtain ⟨a, b, c⟩ := Rs.two_blk W #[.int .i64 i, .int .i64 g] #[.int .i64 p.c, .int .i64 p.v0, .int .i64 p.v1, .int .i64 p.v2, .int .i64 p.v3, .int .i64 p.t] 58 71
  exact ⟨a, b, c, by unfold ew; simp⟩
section
variable {Ad : Nat → Addr} {W : World}
end
end Go.Proofs.YtoafpfheopgdkaaGreatDoor.So
namespace Go.Proofs.YtoafpfheopgdkaaGreatDoor.So
open Go.RowKit Go.Shelf Go.Maps
open Go.Proofs.YtoafpfheopgdkaaGreatDoor.Co (I64 Pt Col CS I64_mid lies put6_blk put6_st put6)
open Go.Proofs.YtoafpfheopgdkaaGreatDoor.At (St bAl cell_blk blk_seen blk_free Ints Err at_err err_leaf)
open Go.Proofs.YtoafpfheopgdkaaGreatDoor.Rs (Prt SD mskP fitP Prts PRow insP insP_rec insr okL pCells pCells_snoc infoPart)
section
variable {Ad : Nat → Addr} {W : World}
end
end Go.Proofs.YtoafpfheopgdkaaGreatDoor.So
namespace Go.Proofs.YtoafpfheopgdkaaGreatDoor.So
open Go.RowKit Go.Shelf Go.Maps
open Go.Proofs.YtoafpfheopgdkaaGreatDoor.Co (I64 Pt Col CS I64_mid lies put6_blk put6_st put6)
open Go.Proofs.YtoafpfheopgdkaaGreatDoor.At (St bAl cell_blk blk_seen blk_free Ints Err at_err err_leaf)
open Go.Proofs.YtoafpfheopgdkaaGreatDoor.Rs (Prt SD mskP fitP Prts PRow insP insP_rec insr okL pCells pCells_snoc infoPart Six)
/-- append of one part, wherever it lies. -/
theorem step_prt {ops : Array Oper} {o : Oper} {a : Act} {K : Act → World → Prop} {Q : Exit → Act → World → Prop} {E : Prop} (hgd : o.guard = none) (s x : Operand)
    (ho : o.op = .call { callee := .builtin .append, args := #[s, x], argTypes := #[37, 37] }) {B pb : Nat} {wc : World} {v : Value} {l : List Prt} {p : Prt} (hown : Prts B wc v l) (hl : l.length ≤ 1000) (hB : B ≤ wc.heap.size) (hpb : wc.heap[pb]? = some (.cells p.arr 71 (0, 0)))
    (hs : a.eval s = v) (hx : a.eval x = .slice (some ⟨pb, 0, none⟩) 1 1)
    (h : ∀ v' w2, Hid (Prts B w2 v' (l ++ [p])) → Hid (St (fun x => v.ownBlock = some x) wc w2) → Hid (v'.ownBlock = v.ownBlock ∨ ∃ k, v'.ownBlock = some k ∧ wc.heap.size ≤ k) → K (a.put o.dst v') w2) :
    if Region.wanted o (yielded ops a.tmps) = true then Oper.wp Tryz.prog o a wc K Q else E := by
  obtain ⟨i0, hi, hz0, hz1, hz2⟩ := info_parts infoPart
  refine step_append_lies _ hgd s x 37 ho B 71 i0 (.agg #[.int .i64 0, .int .i64 0, .int .i64 0, .int .i64 0, .int .i64 0, .int .i64 0]) 6 48 Tryz.underlying37 hi hz0 hz1 hz2 rfl (by decide) v l.length (pCells l) hs hown ⟨pb, 0, none⟩ 1 1 p.arr.toList hx rfl (fun j u hu => by
    rw [add_at]
    exact cell_blk hpb (by simpa using hu)) (by intro u hu; simp [Prt.arr] at hu; rcases hu with rfl | rfl | rfl | rfl | rfl | rfl <;> rfl) (by decide) (by unfold maxLen; omega) (by omega) hB wc.heap.size rfl ?_
  intro g' cap w2 ow hg hat hlt
  refine h _ w2 ?_ (St.of_grown (S := fun x => v.ownBlock = some x) hg fun k e => e) ?_
  · show World.ownsRow _ _ _ _ _ _ _
    rw [pCells_snoc, List.length_append]
    exact ow
  · rcases hat with h1 | h1
    · exact .inl (by rw [h1]; rfl)
    · exact .inr ⟨g', rfl, by omega⟩
theorem prow_out {S : Nat → Prop} {B : Nat} {W : World} {v : Value} {l : List Prt} (h : Prts B W v l) (hn : ∀ k, v.ownBlock = some k → ¬ S k) : PRowOut S W v l := by
  obtain ⟨a, c, h1, h2⟩ := h.row
  refine ⟨a, c, h1, h2.imp id fun ⟨b, o, q1, q2⟩ => ⟨b, o, q1, hn b (by rw [h1, q1]; rfl), q2⟩⟩
theorem insP_perm (l : List Prt) (p : Prt) : (l ++ [p]).Perm (insP l p) := by
  rw [insP_rec]
  exact (List.perm_append_singleton p l).trans (insr_perm p l).symm
theorem okE_ins {ws : List Nat} {l : List Prt} {p : Prt} (h : okE ws l) (hf : fitP ws p = true) (ht : I64 p.t) (hno : ∀ x ∈ l, x.c ≠ p.c) : okE ws (insP l p) := by
  refine ⟨h.1.ins hf hno, fun x hx => ?_⟩
  rcases List.mem_append.1 ((insP_perm l p).mem_iff.2 hx) with hx | hx
  · exact h.2 x hx
  · simp at hx; subst hx; exact ⟨hf, ht⟩
/-- What leave left. -/
structure Lv (B : Nat) (W : World) (sb : Nat) (c : CV) (s : SD) (i N : Nat) (v : Value) (c3 : CV) (w : World) : Prop where
  sto : Sto (some i) B w sb c3 s
  t : c3.t = c.t
  gw : Gw c c3 W w
  parts : Prts N w v (s.at i)
  out : ∀ k, v.ownBlock = some k → c3.f k = (0, 0, 0)
  low : ∀ k, c3.f k ≠ (0, 0, 0) → k < W.heap.size
theorem Lv.later {B : Nat} {W : World} {sb : Nat} {c : CV} {s : SD} {i N : Nat} {v : Value} {c3 : CV} {w w' : World} (h : Lv B W sb c s i N v c3 w) (hb : Below w.heap.size w w') : Lv B W sb c s i N v c3 w' :=
  ⟨h.sto.later hb, h.t, h.gw.trans (Gw.of_below hb), h.parts.later hb, h.out, h.low⟩
end Go.Proofs.YtoafpfheopgdkaaGreatDoor.So
namespace Go.Proofs.YtoafpfheopgdkaaGreatDoor.So
open Go.RowKit Go.Shelf Go.Maps
open Go.Proofs.YtoafpfheopgdkaaGreatDoor.Co (I64 Pt Col CS I64_mid lies put6_blk put6_st put6)
open Go.Proofs.YtoafpfheopgdkaaGreatDoor.At (St bAl cell_blk blk_seen blk_free Ints Err at_err err_leaf)
open Go.Proofs.YtoafpfheopgdkaaGreatDoor.Rs (Prt SD mskP fitP Prts PRow insP insP_rec insr okL pCells pCells_snoc infoPart Six)
/-- The cells that Insert reads. -/
def Ird (W : World) (i g : Nat) (p : Prt) (W' : World) : Prop := W'.cell? ⟨W.heap.size, 0, none⟩ = some (.int .i64 (i : Int)) ∧ W'.cell? ⟨W.heap.size, 1, none⟩ = some (.int .i64 (g : Int)) ∧ W'.cell? ⟨W.heap.size + 1, 0, none⟩ = some (.int .i64 p.c) ∧ W'.cell? ⟨W.heap.size + 1, 1, none⟩ = some (.int .i64 p.v0) ∧ W'.cell? ⟨W.heap.size + 1, 2, none⟩ = some (.int .i64 p.v1) ∧ W'.cell? ⟨W.heap.size + 1, 3, none⟩ = some (.int .i64 p.v2) ∧ W'.cell? ⟨W.heap.size + 1, 4, none⟩ = some (.int .i64 p.v3) ∧ W'.cell? ⟨W.heap.size + 1, 5, none⟩ = some (.int .i64 p.t)
theorem ird {W W' : World} {i g : Nat} {p : Prt} (h1 : W'.heap[W.heap.size]? = some (.cells #[.int .i64 (i : Int), .int .i64 (g : Int)] 58 (0, 0))) (h2 : W'.heap[W.heap.size + 1]? = some (.cells p.arr 71 (0, 0))) : Ird W i g p W' :=
  ⟨cell_blk h1 rfl, cell_blk h1 rfl, cell_blk h2 rfl, cell_blk h2 rfl, cell_blk h2 rfl, cell_blk h2 rfl, cell_blk h2 rfl, cell_blk h2 rfl⟩
/-- The two blocks that Insert reads. -/
def Ib (W : World) (i g : Nat) (p : Prt) (w : World) : Prop := w.heap[W.heap.size]? = some (.cells #[.int .i64 (i : Int), .int .i64 (g : Int)] 58 (0, 0)) ∧ w.heap[W.heap.size + 1]? = some (.cells p.arr 71 (0, 0))
theorem Ib.read {W w W' : World} {i g : Nat} {p : Prt} (h : Ib W i g p w) (hb : Below w.heap.size w W') : Ird W i g p W' := ird (blk_seen hb (Nat.le_refl _) h.1) (blk_seen hb (Nat.le_refl _) h.2)
theorem Ib.kept {W a b : World} {i g : Nat} {p : Prt} (h : Ib W i g p a) {S : Nat → Prop} (hs : St S a b) (h0 : ¬ S W.heap.size) (h1 : ¬ S (W.heap.size + 1)) : Ib W i g p b := ⟨hs.at h.1 h0, hs.at h.2 h1⟩
/-- append of the new part to what leave gave. -/
theorem step_ins {ops : Array Oper} {o : Oper} {a : Act} {K : Act → World → Prop} {Q : Exit → Act → World → Prop} {E : Prop} (hgd : o.guard = none) (x y : Operand)
    (ho : o.op = .call { callee := .builtin .append, args := #[x, y], argTypes := #[37, 37] }) {B pb : Nat} {W wc : World} {sb : Nat} {c c3 : CV} {s : SD} {i g : Nat} {v : Value} {p : Prt} (L : Lv B W sb c s i (W.heap.size + 2) v c3 wc) (ib : Ib W i g p wc) (hal : al s i g) (OK : okE s.ws (insP (s.at i) p)) (hl : (s.at i).length ≤ 1000) (hpb : wc.heap[pb]? = some (.cells p.arr 71 (0, 0)))
    (hs : a.eval x = v) (hx : a.eval y = .slice (some ⟨pb, 0, none⟩) 1 1)
    (h : ∀ v' w2, Hid (∀ W', Below w2.heap.size w2 W' → Ird W i g p W') → Hid (∀ W', Below w2.heap.size w2 W' → Calls Tryz.prog 37 #[.pointer (some ⟨sb, 0, none⟩), .agg #[.int .i64 (i : Int), .int .i64 (g : Int)], v'] W' fun e W2 => e = .returned (.tuple #[]) ∧ Hid (∃ c', Sto none B W2 sb c' (entered s i (insP (s.at i) p)) ∧ c'.t = c.t ∧ Gw c c' W W2) ∧ Hid (Ird W i g p W2)) → K (a.put o.dst v') w2) :
    if Region.wanted o (yielded ops a.tmps) = true then Oper.wp Tryz.prog o a wc K Q else E := by
  have hz1 := (Array.getElem?_eq_some_iff.1 ib.2).1
  refine step_prt hgd x y ho L.parts hl (by omega) hpb hs hx fun v' w2 q1 q2 q3 => ?_
  have hvn : ∀ k, v.ownBlock = some k → W.heap.size + 2 ≤ k := fun k hk => (L.parts.lt k hk).1
  have ib2 := ib.kept q2.out (fun q => by have := hvn _ q; omega) (fun q => by have := hvn _ q; omega)
  have st2 := L.sto.keep q2.out fun k hk q => hk (L.out k q)
  have g2 : Gw c c3 W w2 := ⟨L.gw.st.trans q2.out fun k hk q => by have := hvn _ q; omega, L.gw.new⟩
  have o2 : ∀ k, v'.ownBlock = some k → c3.f k = (0, 0, 0) := fun k hk => by
    rcases q3.out with q | ⟨k', q, hk'⟩
    · exact L.out k (q ▸ hk)
    · exact Classical.byContradiction fun hn => by
        have e1 := L.low k hn
        rw [q] at hk
        obtain rfl := Option.some.inj hk
        omega
  refine h v' w2 (fun W' hb => ib2.read hb) fun W' hb => ?_
  refine (enter_any (st2.later hb) hal (prow_out (q1.out.later hb) fun k hk q => q (o2 k hk)) (insP_perm _ _) OK).mono ?_
  rintro e W3 ⟨rfl, c', e1, e2, e3⟩
  have hn0 : ∀ k, W.heap.size ≤ k → ¬ c3.f k ≠ (0, 0, 0) := fun k hk q => by have := L.low k q; omega
  exact ⟨rfl, ⟨c', e1, e2.trans L.t, (g2.trans (Gw.of_below hb)).trans e3⟩, ((ib2.kept (S := fun _ => False) (St.of_below hb) id id).kept e3.st (hn0 _ (Nat.le_refl _)) (hn0 _ (by omega))).read (Below.refl _ _)⟩
end Go.Proofs.YtoafpfheopgdkaaGreatDoor.So
namespace Go.Proofs.YtoafpfheopgdkaaGreatDoor.So
open Go.RowKit Go.Shelf Go.Maps
open Go.Proofs.YtoafpfheopgdkaaGreatDoor.Co (I64 Pt Col CS I64_mid lies put6_blk put6_st put6)
open Go.Proofs.YtoafpfheopgdkaaGreatDoor.At (St bAl cell_blk blk_seen blk_free Ints Err at_err err_leaf)
open Go.Proofs.YtoafpfheopgdkaaGreatDoor.Rs (Prt SD mskP okL)
/-- A part that an entity has stands in its row. -/
theorem row_here {s : SD} {own : List (Nat × Nat)} {i g j : Nat} (hj : own[j]? = some (i, g)) (hok : okL s.ws (s.at i)) {p : Prt} (hp : p ∈ s.at i) {cc : Nat} (hc : p.c = (cc : Int)) : (rowsOf s own cc)[j]? = some (pt p) := by
  unfold rowsOf
  rw [List.getElem?_map, hj, Option.map_some, ptAt_mem (okL_apart hok) hp hc]
theorem has_bit {s : SD} {i m : Nat} (hm : m = mskP (s.at i)) (hok : okL s.ws (s.at i)) {p : Prt} (hp : p ∈ s.at i) {cc : Nat} (hc : p.c = (cc : Int)) : m.testBit cc = true := by
  rw [hm]; exact (msk_mem (okL_pos hok) cc).2 ⟨p, hp, hc⟩
theorem no_bit {s : SD} {i m : Nat} (hm : m = mskP (s.at i)) (hok : okL s.ws (s.at i)) {comp : Int} (hno : ∀ p ∈ s.at i, p.c ≠ comp) (cb : Nat → Nat) : lk (colMap m cb) comp = none := by
  unfold lk
  split
  · rename_i h0
    unfold colMap
    refine if_neg fun q => ?_
    rw [hm] at q
    obtain ⟨p, hp, e⟩ := (msk_mem (okL_pos hok) comp.toNat).1 q
    exact hno p hp (by omega)
  · rfl
theorem kept_below (W : World) (RB : Nat) (hR : W.heap.size ≤ RB) : Kept RB (fun w => Below W.heap.size W w) :=
  ⟨fun w w' h hb => h.trans (hb.mono h.size), fun w w' h hs => h.trans (hs.below (B := W.heap.size) (fun k hk => by omega) h.size)⟩
section
variable {Ad : Nat → Addr} {W : World}
end
end Go.Proofs.YtoafpfheopgdkaaGreatDoor.So
namespace Go.Proofs.YtoafpfheopgdkaaGreatDoor.So
open Go.RowKit Go.Shelf Go.Maps
open Go.Proofs.YtoafpfheopgdkaaGreatDoor.Co (I64 Pt Col CS I64_mid lies put6_blk put6_st put6)
open Go.Proofs.YtoafpfheopgdkaaGreatDoor.At (St bAl cell_blk blk_seen blk_free Ints Err at_err err_leaf)
open Go.Proofs.YtoafpfheopgdkaaGreatDoor.Rs (Prt SD mskP okL)
theorem al_step {W w : World} {n : Nat} (hb : Below W.heap.size W w) (hn : w.heap.size = W.heap.size + n) (cs : Array Value) (t : TypeId) : Below W.heap.size W (w.alloc (.cells cs t)) ∧ (w.alloc (.cells cs t)).heap.size = W.heap.size + (n + 1) ∧ (w.alloc (.cells cs t)).heap[W.heap.size + n]? = some (.cells cs t (0, 0)) := by
  refine ⟨hb.trans ((bAl _ _).mono hb.size), by simp [hn]; omega, ?_⟩
  rw [← hn]; exact heap_alloc_new w _
/-- The world in which Put begins. -/
def xw (W : World) (i g : Int) (p : Prt) : World := (ew W i g p).alloc (.cells #[.int .i64 0, .int .i64 0, .int .i64 0, .int .i64 0, .int .i64 0, .int .i64 0] 71)
theorem xw_facts (W : World) (i g : Int) (p : Prt) : Below W.heap.size W (xw W i g p) ∧ (xw W i g p).heap[W.heap.size]? = some (.cells #[.int .i64 i, .int .i64 g] 58 (0, 0)) ∧ (xw W i g p).heap[W.heap.size + 1]? = some (.cells p.arr 71 (0, 0)) ∧ (xw W i g p).heap[W.heap.size + 2]? = some (.cells (Pt.zero.arr 0) 71 (0, 0)) ∧ (xw W i g p).heap.size = W.heap.size + 3 := by
  obtain ⟨b1, r1, p1, z1⟩ := ew_facts W i g p
  obtain ⟨a1, a2, a3⟩ := al_step b1 z1 #[.int .i64 0, .int .i64 0, .int .i64 0, .int .i64 0, .int .i64 0, .int .i64 0] 71
  exact ⟨a1, blk_seen (bAl _ _) (Nat.le_refl _) r1, blk_seen (bAl _ _) (Nat.le_refl _) p1, a3, a2⟩
/-- The world in which Set begins. -/
def sw (W : World) (i g cell value frame : Int) : World := ((((W.alloc (.cells #[.int .i64 i, .int .i64 g] 58)).alloc (.cells #[.int .i64 cell] 3)).alloc (.cells #[.int .i64 value] 3)).alloc (.cells #[.int .i64 frame] 3)).alloc (.cells #[.int .i64 0, .int .i64 0, .int .i64 0, .int .i64 0, .int .i64 0, .int .i64 0] 71)
theorem sw_facts (W : World) (i g cell value frame : Int) : Below W.heap.size W (sw W i g cell value frame) ∧ (sw W i g cell value frame).heap[W.heap.size]? = some (.cells #[.int .i64 i, .int .i64 g] 58 (0, 0)) ∧ (sw W i g cell value frame).heap[W.heap.size + 1]? = some (.cells #[.int .i64 cell] 3 (0, 0)) ∧ (sw W i g cell value frame).heap[W.heap.size + 2]? = some (.cells #[.int .i64 value] 3 (0, 0)) ∧ (sw W i g cell value frame).heap[W.heap.size + 3]? = some (.cells #[.int .i64 frame] 3 (0, 0)) ∧ (sw W i g cell value frame).heap[W.heap.size + 4]? = some (.cells (Pt.zero.arr 0) 71 (0, 0)) ∧ (sw W i g cell value frame).heap.size = W.heap.size + 5 := by
  obtain ⟨a1, a2, a3⟩ := al_step (n := 0) (Below.refl W.heap.size W) rfl #[.int .i64 i, .int .i64 g] 58
  obtain ⟨b1, b2, b3⟩ := al_step a1 a2 #[.int .i64 cell] 3
  obtain ⟨c1, c2, c3⟩ := al_step b1 b2 #[.int .i64 value] 3
  obtain ⟨d1, d2, d3⟩ := al_step c1 c2 #[.int .i64 frame] 3
  obtain ⟨e1, e2, e3⟩ := al_step d1 d2 #[.int .i64 0, .int .i64 0, .int .i64 0, .int .i64 0, .int .i64 0, .int .i64 0] 71
  have K : ∀ {w : World} {k : Nat} {o : Obj} (q : Obj), w.heap[k]? = some o → (w.alloc q).heap[k]? = some o := fun q h => blk_seen (bAl _ _) (Nat.le_refl _) h
  exact ⟨e1, K _ (K _ (K _ (K _ a3))), K _ (K _ (K _ b3)), K _ (K _ c3), K _ d3, e3, e2⟩
section
variable {Ad : Nat → Addr} {W : World} {Q : World → Prop}
end
end Go.Proofs.YtoafpfheopgdkaaGreatDoor.So
namespace Go.Proofs.YtoafpfheopgdkaaGreatDoor.So
open Go.RowKit Go.Shelf Go.Maps
open Go.Proofs.YtoafpfheopgdkaaGreatDoor.Co (I64 Pt Col CS I64_mid lies put6_blk put6_st put6)
open Go.Proofs.YtoafpfheopgdkaaGreatDoor.At (St bAl cell_blk blk_seen blk_free Ints Err at_err err_leaf)
open Go.Proofs.YtoafpfheopgdkaaGreatDoor.Rs (Prt SD mskP okL)
section
variable {Ad : Nat → Addr} {W : World} {Q : World → Prop}
end
end Go.Proofs.YtoafpfheopgdkaaGreatDoor.So
namespace Go.Proofs.YtoafpfheopgdkaaGreatDoor.So
open Go.RowKit Go.Shelf Go.Maps
open Go.Proofs.YtoafpfheopgdkaaGreatDoor.Co (I64 Pt Col CS I64_mid lies put6_blk put6_st put6)
open Go.Proofs.YtoafpfheopgdkaaGreatDoor.At (St bAl cell_blk blk_seen blk_free Ints Err at_err err_leaf)
open Go.Proofs.YtoafpfheopgdkaaGreatDoor.Rs (Prt SD mskP okL fitP insP insP_rec mem_insr remP remP_no)
/-- A row with another part in the place of one. -/
def putP (l : List Prt) (p : Prt) : List Prt := insP (remP l p.c) p
theorem mem_putP {l : List Prt} {p x : Prt} : x ∈ putP l p ↔ x = p ∨ (x ∈ l ∧ x.c ≠ p.c) := by
  unfold putP
  rw [insP_rec, mem_insr, remP, List.mem_filter]
  simp
theorem okE_rem {ws : List Nat} {l : List Prt} (h : okE ws l) (comp : Int) : okE ws (remP l comp) := ⟨h.1.rem comp, fun x hx => h.2 x (List.mem_filter.1 hx).1⟩
theorem okE_put {ws : List Nat} {l : List Prt} {p : Prt} (h : okE ws l) (hf : fitP ws p = true) (ht : I64 p.t) : okE ws (putP l p) := okE_ins (okE_rem h p.c) hf ht (remP_no l p.c)
theorem msk_putP {ws : List Nat} {l : List Prt} {p q : Prt} (h : okE ws l) (hf : fitP ws p = true) (ht : I64 p.t) (hq : q ∈ l) (hc : q.c = p.c) : mskP (putP l p) = mskP l := by
  refine eq_bits fun i => Bool.eq_iff_iff.2 ?_
  rw [msk_mem (okL_pos (okE_put h hf ht).1), msk_mem (okL_pos h.1)]
  constructor
  · rintro ⟨x, hx, e⟩
    rcases mem_putP.1 hx with rfl | ⟨hx, -⟩
    · exact ⟨q, hq, hc.trans e⟩
    · exact ⟨x, hx, e⟩
  · rintro ⟨x, hx, e⟩
    by_cases k : x.c = p.c
    · exact ⟨p, mem_putP.2 (.inl rfl), k ▸ e⟩
    · exact ⟨x, mem_putP.2 (.inr ⟨hx, k⟩), e⟩
theorem ptAt_put {ws : List Nat} {l : List Prt} {p : Prt} (h : okE ws l) (hf : fitP ws p = true) (ht : I64 p.t) {cc : Nat} (hc : p.c = (cc : Int)) (q : Nat) : ptAt (putP l p) q = if q = cc then pt p else ptAt l q := by
  have ho := okE_put h hf ht
  by_cases e : q = cc
  · rw [if_pos e, ptAt_mem (okL_apart ho.1) (mem_putP.2 (.inl rfl)) (by rw [hc, e])]
  · rw [if_neg e]
    by_cases k : ∃ x ∈ l, x.c = (q : Int)
    · obtain ⟨x, hx, ex⟩ := k
      rw [ptAt_mem (okL_apart ho.1) (mem_putP.2 (.inr ⟨hx, by omega⟩)) ex, ptAt_mem (okL_apart h.1) hx ex]
    · unfold ptAt
      rw [find_none (l := l) fun x hx ex => k ⟨x, hx, ex⟩, find_none fun x hx ex => ?_]
      rcases mem_putP.1 hx with rfl | ⟨hx, -⟩
      · omega
      · exact k ⟨x, hx, ex⟩
section
variable {B : Nat} {W W' : World} {sb : Nat} {c : CV} {s : SD} {i g n j m : Nat} {own : List (Nat × Nat)} {y : Nat × Nat}
theorem Sto.turn (h : Sto none B W sb c s) (A : At1 c s i g n j m own y) (hi : i < s.p.length) {p : Prt} (hf : fitP s.ws p = true) (ht : I64 p.t) {q : Prt} (hq : q ∈ s.at i) (hqc : q.c = p.c) {cc w : Nat} (hc : p.c = (cc : Int)) (hw : s.ws[cc]? = some w)
    (hcol : Col B W' ((c.tv n).cb cc) ⟨(cc : Int), w, (rowsOf s own cc).set j (pt p)⟩ (fun k => c.f k = (5, n, cc))) (hs : St (fun k => c.f k = (5, n, cc)) W W') :
    ∃ c', Sto none B W' sb c' (rowed s i (putP (s.at i) p)) ∧ c'.t = c.t ∧ c'.f = c.f ∧ Gw c c' W W' := by
  have X := h.out A.tab A.set
  have T := X.tb.colsame hw hcol hs
  obtain ⟨X1, G1⟩ := X.retab (f' := c.f) (ov' := (c.tv n).ov) T (Rec.refl _ _ (fun k hk => (h.lt k hk).2) hs.size) ⟨hs.os, hs.tape, hs.output, hs.size, fun k hk hn => hs.block k hk fun q => hn (.inr ⟨cc, q⟩)⟩
  have hme : ∀ e : Nat × Nat, e ∈ own → ∀ k, own[k]? = some e → e.1 = i → k = j := fun e _ k hk ei => by
    obtain ⟨a, b⟩ := e
    change a = i at ei
    subst ei
    exact (h.lk.one A.tab A.tab hk A.here).2
  have hat : ∀ (k q : Nat), q ≠ cc → ptAt ((rowed s i (putP (s.at i) p)).at k) q = ptAt (s.at k) q := fun k q hne => by
    by_cases e : k = i
    · rw [e, at_rowed _ hi, ptAt_put A.ok hf ht hc, if_neg hne]
    · rw [at_rowed_other _ e]
  have hlk : Lk none (tput c.tab n (some own)) c.seat (rowed s i (putP (s.at i) p)) := by
    have e : tput c.tab n (some own) = c.tab := by
      funext k
      unfold tput
      by_cases e : k = n
      · rw [if_pos e, e, A.tab]
      · rw [if_neg e]
    rw [e]
    exact h.lk.put hi (msk_putP A.ok hf ht hq hqc) (okE_put A.ok hf ht)
  refine ⟨_, X1.back (W' := W') (s' := rowed s i (putP (s.at i) p)) (seat' := c.seat) X1.seats (St.of_below (Below.refl _ _)) rfl rfl rfl rfl (by show (s.p.set i _).length = 64; rw [List.length_set]; exact h.n2) hlk (fun q hq => ?_) (fun n' own' hne hn' q => ?_), rfl, rfl, ⟨G1.st, G1.new⟩⟩
  · by_cases e : q = cc
    · rw [if_pos e, e]
      unfold rowsOf
      refine List.ext_getElem? fun k => ?_
      rw [List.getElem?_map, List.getElem?_set, List.length_map, List.getElem?_map]
      by_cases ek : j = k
      · subst ek
        have hj := (List.getElem?_eq_some_iff.1 A.here).1
        rw [if_pos rfl, if_pos hj, A.here, Option.map_some, at_rowed _ hi, ptAt_put A.ok hf ht hc, if_pos rfl]
      · rw [if_neg ek]
        cases ho : own[k]? with
        | none => rfl
        | some e =>
          rw [Option.map_some, Option.map_some, at_rowed_other _ fun q => ek (hme e (List.mem_of_getElem? ho) k ho q).symm]
    · rw [if_neg e]
      exact List.map_congr_left fun a _ => hat _ _ e
  · refine List.map_congr_left fun a ha => ?_
    obtain ⟨k, hk⟩ := List.getElem?_of_mem ha
    rw [at_rowed_other _ fun e => hne ?_]
    obtain ⟨a1, a2⟩ := a
    change a1 = i at e
    subst e
    exact (h.lk.one hn' A.tab hk A.here).1
end
end Go.Proofs.YtoafpfheopgdkaaGreatDoor.So
namespace Go.Proofs.YtoafpfheopgdkaaGreatDoor.So
open Go.RowKit Go.Shelf Go.Maps
open Go.Proofs.YtoafpfheopgdkaaGreatDoor.Co (I64 Pt Col CS I64_mid lies put6_blk put6_st put6)
open Go.Proofs.YtoafpfheopgdkaaGreatDoor.At (St bAl cell_blk blk_seen blk_free Ints Err at_err err_leaf)
open Go.Proofs.YtoafpfheopgdkaaGreatDoor.Rs (Prt SD mskP okL fitP insP remP)
/-- The store behind a change of one part. -/
def Tn (B : Nat) (W : World) (sb : Nat) (c : CV) (s' : SD) (w : World) : Prop := ∃ c', Sto none B w sb c' s' ∧ c'.t = c.t ∧ c'.f = c.f ∧ Gw c c' W w
theorem Tn.later {B : Nat} {W w w' : World} {sb : Nat} {c : CV} {s' : SD} (h : Tn B W sb c s' w) (hb : Below w.heap.size w w') : Tn B W sb c s' w' := by
  obtain ⟨c', e1, e2, e3, e4⟩ := h
  exact ⟨c', e1.later hb, e2, e3, e4.trans (Gw.of_below hb)⟩
theorem Tn.st {B : Nat} {W w w' : World} {sb : Nat} {c : CV} {s' : SD} (h : Tn B W sb c s' w) (hlt : ∀ k, c.f k ≠ (0, 0, 0) → k < W.heap.size) {RB : Nat} (hR : W.heap.size ≤ RB) (hs : St (fun k => k = RB) w w') : Tn B W sb c s' w' := by
  obtain ⟨c', e1, e2, e3, e4⟩ := h
  refine ⟨c', e1.keep hs fun k hk e => ?_, e2, e3, ⟨e4.st.trans hs fun k hk e => ?_, e4.new⟩⟩
  · rw [e3] at hk; have := hlt k hk; omega
  · omega
theorem Tn.kept {B : Nat} {W : World} {sb : Nat} {c : CV} {s' : SD} (hlt : ∀ k, c.f k ≠ (0, 0, 0) → k < W.heap.size) {RB : Nat} (hR : W.heap.size ≤ RB) : Kept RB (Tn B W sb c s') := ⟨fun _ _ h hb => h.later hb, fun _ _ h hs => h.st hlt hR hs⟩
theorem Sto.room {ex : Option Nat} {B : Nat} {W : World} {sb : Nat} {c : CV} {s : SD} (h : Sto ex B W sb c s) {i g : Nat} (ha : al s i g) : i < s.p.length := by
  have := al_lt ha
  have := h.rol.small
  rw [h.n2]; omega
section
variable {Ad : Nat → Addr} {B : Nat} {W : World} {sb : Nat} {c : CV} {s : SD} {i g : Nat}
/-- The change of one part, in the column. -/
theorem Sto.turned (h : Sto none B W sb c s) {n j m : Nat} {own : List (Nat × Nat)} {y : Nat × Nat} (A : At1 c s i g n j m own y) (ha : al s i g) {p q : Prt} (hf : fitP s.ws p = true) (ht : I64 p.t) (hq : q ∈ s.at i) (hqc : q.c = p.c) {cc w : Nat} (hc : p.c = (cc : Int)) (hw : s.ws[cc]? = some w) {W0 W2 W3 : World} (hb : Below W.heap.size W W2)
    (hcol : Col B W3 ((c.tv n).cb cc) ⟨(cc : Int), w, (rowsOf s own cc).set j (pt p)⟩ (fun k => c.f k = (5, n, cc))) (hs : Co.St (fun k => c.f k = (5, n, cc)) W2 W3) (h0 : W.heap.size ≤ W0.heap.size) {zb : Nat} (hz : W.heap.size ≤ zb) {o : Obj} (hzo : W2.heap[zb]? = some o) :
    (Tn B W sb c (rowed s i (putP (s.at i) p)) W3 ∧ W3.heap[zb]? = some o) ∧ St (fun k => k < W0.heap.size) W2 W3 := by
  have hs' := st_co hs
  have hlt : ∀ k, c.f k = (5, n, cc) → k < W.heap.size := fun k hk => (h.lt k (by rw [hk]; simp)).2
  obtain ⟨c', e1, e2, e3, e4⟩ := (h.later hb).turn A (h.room ha) hf ht hq hqc hc hw hcol hs'
  refine ⟨⟨⟨c', e1, e2, e3, (Gw.of_below hb).trans e4⟩, hs'.at hzo fun k => ?_⟩, ⟨hs'.os, hs'.tape, hs'.output, hs'.size, fun k hk hn => hs'.block k hk fun q => hn ?_⟩⟩
  · have := hlt _ k; omega
  · have := hlt _ q; omega
end
end Go.Proofs.YtoafpfheopgdkaaGreatDoor.So
namespace Go.Proofs.YtoafpfheopgdkaaGreatDoor.So
open Go.RowKit Go.Shelf Go.Maps
open Go.Proofs.YtoafpfheopgdkaaGreatDoor.Co (I64 Pt Col CS I64_mid lies put6_blk put6_st put6)
open Go.Proofs.YtoafpfheopgdkaaGreatDoor.At (St bAl cell_blk blk_seen blk_free Ints Err at_err err_leaf)
open Go.Proofs.YtoafpfheopgdkaaGreatDoor.Rs (Prt SD mskP okL fitP insP remP)
/-- A part with one cell another one. -/
def setQ (q : Prt) (j : Nat) (x f : Int) : Prt := ⟨q.c, ((pt q).put j x f).a, ((pt q).put j x f).b, ((pt q).put j x f).c, ((pt q).put j x f).d, ((pt q).put j x f).t⟩
theorem pt_setQ (q : Prt) (j : Nat) (x f : Int) : pt (setQ q j x f) = (pt q).put j x f := rfl
theorem put_t (p : Pt) (j : Nat) (x f : Int) : (p.put j x f).t = f := by
  unfold Pt.put
  split <;> rfl
section
variable {Ad : Nat → Addr} {B : Nat} {W : World} {sb : Nat} {c : CV} {s : SD} {i g : Nat}
end
end Go.Proofs.YtoafpfheopgdkaaGreatDoor.So
namespace Go.Proofs.YtoafpfheopgdkaaGreatDoor.So
open Go.RowKit Go.Shelf Go.Maps
open Go.Proofs.YtoafpfheopgdkaaGreatDoor.Co (I64 Pt Col CS I64_mid lies)
open Go.Proofs.YtoafpfheopgdkaaGreatDoor.At (St bAl cell_blk blk_seen blk_free)
open Go.Proofs.YtoafpfheopgdkaaGreatDoor.Rs (Prt SD Prts PRow pCells pCells_snoc pCells_at Six)
theorem prow_six {N : Nat} {W : World} {g n cap : Nat} {l : List Prt} (h : Prts N W (.slice (some ⟨g, 0, none⟩) n cap) l) {j : Nat} {p : Prt} (hj : l[j]? = some p) : Six W g (j * 6) p := by
  obtain ⟨a, c, e, hr⟩ := h.row
  obtain ⟨b, o, e1, e2⟩ := (e ▸ h.row : PRow W (.slice a l.length c) l).at hj
  have e3 : (some ⟨g, 0, none⟩ : Option Addr) = a := by simpa using congrArg (fun v => match v with | .slice x _ _ => x | _ => none) e
  rw [e1] at e3
  obtain ⟨rfl, rfl⟩ : g = b ∧ 0 = o := by simpa using e3
  rw [Nat.zero_add] at e2
  exact e2
end Go.Proofs.YtoafpfheopgdkaaGreatDoor.So
namespace Go.Proofs.YtoafpfheopgdkaaGreatDoor.So
open Go.RowKit Go.Shelf Go.Maps
open Go.Proofs.YtoafpfheopgdkaaGreatDoor.Co (I64 Pt Col CS I64_mid lies)
open Go.Proofs.YtoafpfheopgdkaaGreatDoor.At (St bAl cell_blk blk_seen blk_free)
open Go.Proofs.YtoafpfheopgdkaaGreatDoor.Rs (Prt SD Prts PRow pCells pCells_snoc pCells_at Six)
/-- A row of six cells set anew. -/
def sixo (w : World) (b o : Nat) (p : Prt) : World := (((((w.setCell ⟨b, o, none⟩ (.int .i64 p.c)).setCell ⟨b, o + 1, none⟩ (.int .i64 p.v0)).setCell ⟨b, o + 2, none⟩ (.int .i64 p.v1)).setCell ⟨b, o + 3, none⟩ (.int .i64 p.v2)).setCell ⟨b, o + 4, none⟩ (.int .i64 p.v3)).setCell ⟨b, o + 5, none⟩ (.int .i64 p.t)
def lset6 (l : List Value) (o : Nat) (p : Prt) : List Value := (((((l.set o (.int .i64 p.c)).set (o + 1) (.int .i64 p.v0)).set (o + 2) (.int .i64 p.v1)).set (o + 3) (.int .i64 p.v2)).set (o + 4) (.int .i64 p.v3)).set (o + 5) (.int .i64 p.t)
theorem pCells_cons (x : Prt) (l : List Prt) : pCells (x :: l) = .int .i64 x.c :: .int .i64 x.v0 :: .int .i64 x.v1 :: .int .i64 x.v2 :: .int .i64 x.v3 :: .int .i64 x.t :: pCells l := by simp [pCells, Prt.arr]
theorem pCells_set (l : List Prt) (k : Nat) (p : Prt) : lset6 (pCells l) (k * 6) p = pCells (l.set k p) := by
  unfold lset6
  induction l generalizing k with
  | nil => simp [pCells]
  | cons x l ih =>
    cases k with
    | zero => rw [List.set_cons_zero, pCells_cons, pCells_cons]; simp
    | succ k =>
      rw [List.set_cons_succ, pCells_cons, pCells_cons, ← ih, show (k + 1) * 6 = k * 6 + 1 + 1 + 1 + 1 + 1 + 1 by omega]
      simp
theorem pCells_take (l : List Prt) (k : Nat) : (pCells l).take (k * 6) = pCells (l.take k) := by
  induction l generalizing k with
  | nil => simp [pCells]
  | cons x l ih =>
    cases k with
    | zero => simp [pCells]
    | succ k => rw [List.take_succ_cons, pCells_cons, pCells_cons, ← ih, show (k + 1) * 6 = k * 6 + 1 + 1 + 1 + 1 + 1 + 1 by omega]; simp
theorem lset6_take (l : List Value) (o n : Nat) (p : Prt) : (lset6 l o p).take n = lset6 (l.take n) o p := by
  unfold lset6
  rw [List.take_set, List.take_set, List.take_set, List.take_set, List.take_set, List.take_set]
theorem sixo_blk {w : World} {b o : Nat} {cs : Array Value} {e : TypeId} (h : w.heap[b]? = some (.cells cs e (0, 0))) (p : Prt) : ∃ cs', (sixo w b o p).heap[b]? = some (.cells cs' e (0, 0)) ∧ cs'.toList = lset6 cs.toList o p := by
  have h1 := heap_setCell_same w b o _ e (.int .i64 p.c) h
  have h2 := heap_setCell_same _ b (o + 1) _ e (.int .i64 p.v0) h1
  have h3 := heap_setCell_same _ b (o + 2) _ e (.int .i64 p.v1) h2
  have h4 := heap_setCell_same _ b (o + 3) _ e (.int .i64 p.v2) h3
  have h5 := heap_setCell_same _ b (o + 4) _ e (.int .i64 p.v3) h4
  have h6 := heap_setCell_same _ b (o + 5) _ e (.int .i64 p.t) h5
  exact ⟨_, h6, by simp [lset6]⟩
theorem sixo_st (w : World) (b o : Nat) (p : Prt) : St (fun k => k = b) w (sixo w b o p) := by
  have c := fun (w : World) (j : Nat) (v : Value) => St.setCell (S := fun k => k = b) (a := w) (p := ⟨b, j, none⟩) v rfl
  exact (((((c w o _).trans (c _ (o + 1) _) fun _ _ q => q).trans (c _ (o + 2) _) fun _ _ q => q).trans (c _ (o + 3) _) fun _ _ q => q).trans (c _ (o + 4) _) fun _ _ q => q).trans (c _ (o + 5) _) fun _ _ q => q
/-- Where a row that is not empty lies. -/
theorem prts_blk {N : Nat} {W : World} {g n cap : Nat} {l : List Prt} (h : Prts N W (.slice (some ⟨g, 0, none⟩) n cap) l) : n = l.length ∧ N ≤ g ∧ ∃ cur, W.heap[g]? = some (.cells cur 71 (0, 0)) ∧ l.length ≤ cap ∧ cap ≤ maxLen ∧ cur.size = cap * 6 ∧ cur.toList.take (l.length * 6) = pCells l := by
  obtain ⟨-, h | ⟨g', cap', cur, e, h1, h2, h3, h4, h5, h6⟩⟩ := (h : World.ownsRow _ _ _ _ _ _ _)
  · simp at h
  · obtain ⟨rfl, rfl, rfl⟩ : g = g' ∧ n = l.length ∧ cap = cap' := by simpa using e
    exact ⟨rfl, h1, cur, h2, h3, h4, h5, h6⟩
theorem prts_of {N : Nat} {W : World} {g cap : Nat} {l : List Prt} {cur : Array Value} (h1 : N ≤ g) (h2 : W.heap[g]? = some (.cells cur 71 (0, 0))) (h3 : l.length ≤ cap) (h4 : cap ≤ maxLen) (h5 : cur.size = cap * 6) (h6 : cur.toList.take (l.length * 6) = pCells l) : Prts N W (.slice (some ⟨g, 0, none⟩) l.length cap) l := by
  refine ⟨?_, .inr ⟨g, cap, cur, rfl, h1, h2, h3, h4, h5, h6⟩⟩
  have hcl : cur.toList.length = cap * 6 := by simpa using h5
  show (pCells l).length = l.length * 6
  rw [← h6, List.length_take, hcl]
  have : l.length * 6 ≤ cap * 6 := Nat.mul_le_mul_right 6 h3
  omega
theorem prts_set {N : Nat} {W : World} {g n cap : Nat} {l : List Prt} (h : Prts N W (.slice (some ⟨g, 0, none⟩) n cap) l) (k : Nat) (p : Prt) : Prts N (sixo W g (k * 6) p) (.slice (some ⟨g, 0, none⟩) n cap) (l.set k p) := by
  obtain ⟨rfl, h1, cur, h2, h3, h4, h5, h6⟩ := prts_blk h
  obtain ⟨cs', e1, e2⟩ := sixo_blk (o := k * 6) h2 p
  have e3 : cs'.size = cap * 6 := by rw [← h5, ← Array.length_toList, e2]; simp [lset6]
  have := prts_of (l := l.set k p) h1 e1 (by rw [List.length_set]; exact h3) h4 e3 (by rw [List.length_set, e2, lset6_take, h6, pCells_set])
  rw [List.length_set] at this
  exact this
theorem setCells_blk {b : Nat} {e : TypeId} : ∀ (vs : List Value) (o : Nat) (w : World) (cs : Array Value), w.heap[b]? = some (.cells cs e (0, 0)) → ∃ cs', (w.setCells b o vs).heap[b]? = some (.cells cs' e (0, 0)) ∧ cs'.size = cs.size ∧ ∀ m, m ≤ o → cs'.toList.take m = cs.toList.take m
  | [], _, _, cs, h => ⟨cs, h, rfl, fun _ _ => rfl⟩
  | v :: r, o, w, cs, h => by
    have h1 := heap_setCell_same w b o _ e v h
    obtain ⟨cs', a1, a2, a3⟩ := setCells_blk r (o + 1) _ _ h1
    refine ⟨cs', a1, by rw [a2]; simp, fun m hm => ?_⟩
    rw [a3 m (by omega), Array.toList_setIfInBounds, List.take_set]
    exact List.set_eq_of_length_le (by rw [List.length_take]; omega)
theorem setCells_st {b : Nat} : ∀ (vs : List Value) (o : Nat) (w : World), St (fun k => k = b) w (w.setCells b o vs)
  | [], _, _ => St.of_below (Below.refl _ _)
  | v :: r, o, _ => (St.setCell (S := fun k => k = b) (p := ⟨b, o, none⟩) v rfl).trans (setCells_st r (o + 1) _) fun _ _ q => q
/-- clear of the last row. -/
theorem clear_last {N : Nat} {W : World} {g n cap : Nat} {l : List Prt} {x : Prt} (h : Prts N W (.slice (some ⟨g, 0, none⟩) n cap) (l ++ [x])) (o c : Nat) (ho : o = l.length * 6) : ∃ w', (∀ ty, (Builtin.clear_ #[37] ty #[.slice (some ⟨g, o, none⟩) 1 c]).run Tryz.prog W = .ok (.tuple #[]) w') ∧ Prts N w' (.slice (some ⟨g, 0, none⟩) l.length cap) l ∧ St (fun k => k = g) W w' := by
  obtain ⟨rfl, h1, cur, h2, h3, h4, h5, h6⟩ := prts_blk h
  have hl : (l ++ [x]).length = l.length + 1 := by simp
  rw [hl] at h3 h6
  have hz : ∀ w, (zeroValue 71).run Tryz.prog w = .ok (.agg #[.int .i64 0, .int .i64 0, .int .i64 0, .int .i64 0, .int .i64 0, .int .i64 0]) w := by
    intro w
    simp [zeroValue, Tryz.t71]
  have hsz : l.length * 6 + 6 ≤ cur.size := by rw [h5]; omega
  have hst := run_storeCells_cells (P := Tryz.prog) g (l.length * 6) [.int .i64 0, .int .i64 0, .int .i64 0, .int .i64 0, .int .i64 0, .int .i64 0] 0 W (fun j hj => by
    obtain ⟨u, hu⟩ : ∃ u, cur[l.length * 6 + j]? = some u := ⟨_, Array.getElem?_eq_getElem (by simp at hj; omega)⟩
    rw [Nat.add_zero, cell_blk h2 hu]; rfl) (fun j hj => blk_free h2 _) (by simp [Value.oneCell'])
  rw [Nat.add_zero] at hst
  obtain ⟨cs', a1, a2, a3⟩ := setCells_blk [.int .i64 0, .int .i64 0, .int .i64 0, .int .i64 0, .int .i64 0, .int .i64 0] (l.length * 6) W cur h2
  refine ⟨_, fun ty => ?_, prts_of (cur := cs') h1 a1 (by omega) h4 (by rw [a2, h5]) ?_, setCells_st _ _ _⟩
  · rw [ho]
    have e : (Builtin.zeroCells (Value.cells (.agg #[.int .i64 0, .int .i64 0, .int .i64 0, .int .i64 0, .int .i64 0, .int .i64 0])) 1).toList = [.int .i64 0, .int .i64 0, .int .i64 0, .int .i64 0, .int .i64 0, .int .i64 0] := by
      simp [Builtin.zeroCells, Value.cells]
      rfl
    simp [Builtin.clear_, run_underlying Tryz.underlying37, hz, e, hst]
  · rw [a3 _ (Nat.le_refl _)]
    have := congrArg (List.take (l.length * 6)) h6
    rw [List.take_take, Nat.min_eq_left (by omega), pCells_take, List.take_left' rfl] at this
    exact this
end Go.Proofs.YtoafpfheopgdkaaGreatDoor.So
namespace Go.Proofs.YtoafpfheopgdkaaGreatDoor.So
open Go.RowKit Go.Shelf Go.Maps
open Go.Proofs.YtoafpfheopgdkaaGreatDoor.Co (I64 Pt Col CS I64_mid lies)
open Go.Proofs.YtoafpfheopgdkaaGreatDoor.At (St bAl cell_blk blk_seen blk_free)
open Go.Proofs.YtoafpfheopgdkaaGreatDoor.Rs (Prt SD Prts PRow pCells Six)
/-- The rows while one part goes. -/
def gone (a b : List Prt) (q : Prt) (k : Nat) : List Prt := a ++ b.take k ++ (q :: b).drop k
theorem gone_len (a b : List Prt) (q : Prt) (k : Nat) (hk : k ≤ b.length) : (gone a b q k).length = a.length + 1 + b.length := by simp [gone]; omega
theorem gone_at (a b : List Prt) (q p : Prt) (k : Nat) (hp : b[k]? = some p) : (gone a b q k)[a.length + 1 + k]? = some p := by
  have hk := (List.getElem?_eq_some_iff.1 hp).1
  unfold gone
  rw [List.getElem?_append_right (by simp; omega), List.getElem?_drop]
  simp
  rw [Nat.min_eq_left (by omega), show k + (a.length + 1 + k - (a.length + k)) = k + 1 by omega, List.getElem?_cons_succ]
  exact hp
theorem gone_next (a b : List Prt) (q p : Prt) (k : Nat) (hp : b[k]? = some p) : (gone a b q k).set (a.length + k) p = gone a b q (k + 1) := by
  have hk := (List.getElem?_eq_some_iff.1 hp).1
  unfold gone
  rw [List.set_append_right _ _ (by simp; omega)]
  simp only [List.length_append, List.length_take, Nat.min_eq_left (Nat.le_of_lt hk), Nat.sub_self]
  rw [show (q :: b).drop k = ((q :: b)[k]'(by simp; omega)) :: (q :: b).drop (k + 1) from List.drop_eq_getElem_cons (by simp; omega), List.set_cons_zero, List.take_add_one, hp]
  simp
theorem gone_end (a b : List Prt) (q : Prt) : ∃ x, gone a b q b.length = (a ++ b) ++ [x] := by
  refine ⟨((q :: b)[b.length]'(by simp)), ?_⟩
  unfold gone
  rw [List.take_of_length_le (Nat.le_refl _)]
  congr 1
  rw [List.drop_eq_getElem_cons (by simp)]
  simp
end Go.Proofs.YtoafpfheopgdkaaGreatDoor.So
namespace Go.Proofs.YtoafpfheopgdkaaGreatDoor.So
open Go.RowKit Go.Shelf Go.Maps
open Go.Proofs.YtoafpfheopgdkaaGreatDoor.Co (I64 Pt Col CS I64_mid lies put6_blk put6_st put6)
open Go.Proofs.YtoafpfheopgdkaaGreatDoor.At (St bAl cell_blk blk_seen blk_free)
open Go.Proofs.YtoafpfheopgdkaaGreatDoor.Rs (Prt SD Prts PRow okL remP)
/-- The world in which Remove begins. -/
def yw (W : World) (i g comp : Int) : World := ((W.alloc (.cells #[.int .i64 i, .int .i64 g] 58)).alloc (.cells #[.int .i64 comp] 3)).alloc (.cells #[.int .i64 0, .int .i64 0, .int .i64 0, .int .i64 0, .int .i64 0, .int .i64 0] 71)
theorem yw_facts (W : World) (i g comp : Int) : Below W.heap.size W (yw W i g comp) ∧ (yw W i g comp).heap[W.heap.size]? = some (.cells #[.int .i64 i, .int .i64 g] 58 (0, 0)) ∧ (yw W i g comp).heap[W.heap.size + 1]? = some (.cells #[.int .i64 comp] 3 (0, 0)) ∧ (yw W i g comp).heap[W.heap.size + 2]? = some (.cells (Pt.zero.arr 0) 71 (0, 0)) ∧ (yw W i g comp).heap.size = W.heap.size + 3 := by
  obtain ⟨a1, a2, a3⟩ := al_step (n := 0) (Below.refl W.heap.size W) rfl #[.int .i64 i, .int .i64 g] 58
  obtain ⟨b1, b2, b3⟩ := al_step a1 a2 #[.int .i64 comp] 3
  obtain ⟨e1, e2, e3⟩ := al_step b1 b2 #[.int .i64 0, .int .i64 0, .int .i64 0, .int .i64 0, .int .i64 0, .int .i64 0] 71
  have K : ∀ {w : World} {k : Nat} {o : Obj} (q : Obj), w.heap[k]? = some o → (w.alloc q).heap[k]? = some o := fun q h => blk_seen (bAl _ _) (Nat.le_refl _) h
  exact ⟨e1, K _ (K _ a3), K _ b3, e3, e2⟩
/-- What lay behind W lies there still. -/
def Kp (W w3 w : World) : Prop := w3.heap.size ≤ w.heap.size ∧ ∀ k o, W.heap.size ≤ k → w3.heap[k]? = some o → w.heap[k]? = some o
theorem Kp.later {W w3 w w' : World} (h : Kp W w3 w) (hb : Below w.heap.size w w') : Kp W w3 w' := ⟨Nat.le_trans h.1 hb.size, fun k o hk ho => blk_seen hb (Nat.le_refl _) (h.2 k o hk ho)⟩
theorem Kp.st {W w3 w w' : World} (h : Kp W w3 w) {S : Nat → Prop} (hs : St S w w') (hS : ∀ k, W.heap.size ≤ k → k < w3.heap.size → ¬ S k) : Kp W w3 w' := ⟨Nat.le_trans h.1 hs.size, fun k o hk ho => hs.at (h.2 k o hk ho) (hS k hk (Array.getElem?_eq_some_iff.1 ho).1)⟩
theorem prts_form {N : Nat} {W : World} {v : Value} {l : List Prt} (h : Prts N W v l) (hl : l ≠ []) : ∃ g n cap, v = .slice (some ⟨g, 0, none⟩) n cap ∧ n = l.length := by
  obtain ⟨-, ⟨-, h0⟩ | ⟨g, cap, cur, e, -⟩⟩ := (h : World.ownsRow _ _ _ _ _ _ _)
  · exact absurd (List.length_eq_zero_iff.1 h0) hl
  · exact ⟨g, _, cap, e, rfl⟩
theorem rem_split {l : List Prt} (h : Apart l) {q : Prt} (hq : q ∈ l) : ∃ a b, l = a ++ q :: b ∧ (∀ x ∈ a, x.c ≠ q.c) ∧ (∀ x ∈ b, x.c ≠ q.c) ∧ remP l q.c = a ++ b := by
  obtain ⟨a, b, rfl⟩ := List.append_of_mem hq
  have h' := List.pairwise_append.1 h
  have ha : ∀ x ∈ a, x.c ≠ q.c := fun x hx => h'.2.2 x hx q (by simp)
  have hb : ∀ x ∈ b, x.c ≠ q.c := fun x hx e => (List.pairwise_cons.1 h'.2.1).1 x hx e.symm
  refine ⟨a, b, rfl, ha, hb, ?_⟩
  unfold remP
  rw [List.filter_append, List.filter_cons]
  have ea : a.filter (fun x => !(x.c == q.c)) = a := List.filter_eq_self.2 fun x hx => by simp [ha x hx]
  have eb : b.filter (fun x => !(x.c == q.c)) = b := List.filter_eq_self.2 fun x hx => by simp [hb x hx]
  rw [ea, eb]
  simp
/-- The cells that Remove reads. -/
def Erd (W : World) (i g : Nat) (W' : World) : Prop := W'.cell? ⟨W.heap.size, 0, none⟩ = some (.int .i64 (i : Int)) ∧ W'.cell? ⟨W.heap.size, 1, none⟩ = some (.int .i64 (g : Int))
end Go.Proofs.YtoafpfheopgdkaaGreatDoor.So
namespace Go.Proofs.YtoafpfheopgdkaaGreatDoor.So
open Go.RowKit Go.Shelf Go.Maps
open Go.Proofs.YtoafpfheopgdkaaGreatDoor.Co (I64 Pt Col CS I64_mid lies put6_blk put6_st put6)
open Go.Proofs.YtoafpfheopgdkaaGreatDoor.At (St bAl cell_blk blk_seen blk_free)
open Go.Proofs.YtoafpfheopgdkaaGreatDoor.Rs (Prt SD Prts PRow okL remP)
section
variable {Ad : Nat → Addr} {W : World}
end
end Go.Proofs.YtoafpfheopgdkaaGreatDoor.So
namespace Go.Proofs
open Go.Shelf
def Tryz.sortEnt_ren : Go.Shelf.Ren := ⟨fun | 6 => 83 | 15 => 60 | 14 => 113 | 28 => 97 | 29 => 98 | 20 => 128 | 21 => 129 | 22 => 130 | 23 => 131 | 24 => 132 | 25 => 133 | 26 => 134 | 27 => 135 | 46 => 144 | 47 => 116 | 48 => 117 | 49 => 145 | 50 => 146 | 57 => 151 | n => n, fun | 22 => 76 | 24 => 58 | 25 => 188 | 3 => 3 | 39 => 138 | 0 => 0 | 53 => 23 | 55 => 203 | 4 => 4 | 46 => 195 | 45 => 194 | 50 => 40 | 5 => 5 | 9 => 9 | 66 => 216 | 70 => 220 | 76 => 233 | 77 => 234 | n => n, fun | n => n⟩
theorem Tryz.sortEnt : Go.Proofs.SlLaysF0.n6 Tryz.prog Tryz.sortEnt_ren := {
  mixed := by kernel_rfl
  f6 := ⟨Tryz.f83.name, by decide, Tryz.func83.trans (congrArg some (by kernel_rfl))⟩
  f14 := ⟨Tryz.f113.name, by decide, Tryz.func113.trans (congrArg some (by kernel_rfl))⟩
  f15 := Tryz.func60.trans (congrArg some (by kernel_rfl))
  f20 := ⟨Tryz.f128.name, by decide, Tryz.func128.trans (congrArg some (by kernel_rfl))⟩
  f21 := ⟨Tryz.f129.name, by decide, Tryz.func129.trans (congrArg some (by kernel_rfl))⟩
  f22 := ⟨Tryz.f130.name, by decide, Tryz.func130.trans (congrArg some (by kernel_rfl))⟩
  f23 := ⟨Tryz.f131.name, by decide, Tryz.func131.trans (congrArg some (by kernel_rfl))⟩
  f24 := ⟨Tryz.f132.name, by decide, Tryz.func132.trans (congrArg some (by kernel_rfl))⟩
  f25 := ⟨Tryz.f133.name, by decide, Tryz.func133.trans (congrArg some (by kernel_rfl))⟩
  f26 := ⟨Tryz.f134.name, by decide, Tryz.func134.trans (congrArg some (by kernel_rfl))⟩
  f27 := ⟨Tryz.f135.name, by decide, Tryz.func135.trans (congrArg some (by kernel_rfl))⟩
  f28 := Tryz.func97.trans (congrArg some (by kernel_rfl))
  f29 := Tryz.func98.trans (congrArg some (by kernel_rfl))
  f46 := ⟨Tryz.f144.name, by decide, Tryz.func144.trans (congrArg some (by kernel_rfl))⟩
  f47 := Tryz.func116.trans (congrArg some (by kernel_rfl))
  f48 := Tryz.func117.trans (congrArg some (by kernel_rfl))
  f49 := ⟨Tryz.f145.name, by decide, Tryz.func145.trans (congrArg some (by kernel_rfl))⟩
  f50 := ⟨Tryz.f146.name, by decide, Tryz.func146.trans (congrArg some (by kernel_rfl))⟩
  f57 := ⟨Tryz.f151.name, by decide, Tryz.func151.trans (congrArg some (by kernel_rfl))⟩
  t0 := Tryz.underlying0
  a0 := Tryz.isAgg0
  z0 := Tryz.sizeOf0
  v0 := Tryz.zeroValue0
  t3 := Tryz.underlying3
  a3 := Tryz.isAgg3
  z3 := Tryz.sizeOf3
  v3 := Tryz.zeroValue3
  t4 := Tryz.underlying4
  a4 := Tryz.isAgg4
  z4 := Tryz.sizeOf4
  v4 := Tryz.zeroValue4
  t5 := Tryz.underlying5
  a5 := Tryz.isAgg5
  z5 := Tryz.sizeOf5
  v5 := Tryz.zeroValue5
  t9 := Tryz.underlying9
  a9 := Tryz.isAgg9
  z9 := Tryz.sizeOf9
  v9 := Tryz.zeroValue9
  t22 := Tryz.underlying76
  a22 := Tryz.isAgg76
  z22 := Tryz.sizeOf76
  v22 := Tryz.zeroValue76
  t25 := Tryz.underlying188
  a25 := Tryz.isAgg188
  z25 := Tryz.sizeOf188
  v25 := Tryz.zeroValue188
  t39 := Tryz.underlying138
  a39 := Tryz.isAgg138
  z39 := Tryz.sizeOf138
  v39 := Tryz.zeroValue138
  t45 := Tryz.underlying194
  a45 := Tryz.isAgg194
  z45 := Tryz.sizeOf194
  v45 := Tryz.zeroValue194
  t46 := Tryz.underlying195
  a46 := Tryz.isAgg195
  z46 := Tryz.sizeOf195
  v46 := Tryz.zeroValue195
  t50 := Tryz.underlying40
  a50 := Tryz.isAgg40
  z50 := Tryz.sizeOf40
  v50 := Tryz.zeroValue40
  t53 := Tryz.underlying23
  a53 := Tryz.isAgg23
  z53 := Tryz.sizeOf23
  v53 := Tryz.zeroValue23
  t55 := Tryz.underlying203
  a55 := Tryz.isAgg203
  z55 := Tryz.sizeOf203
  v55 := Tryz.zeroValue203
  t66 := Tryz.underlying216
  a66 := Tryz.isAgg216
  z66 := Tryz.sizeOf216
  v66 := Tryz.zeroValue216
  t70 := Tryz.underlying220
  a70 := Tryz.isAgg220
  z70 := Tryz.sizeOf220
  v70 := Tryz.zeroValue220
  t76 := Tryz.underlying233
  a76 := Tryz.isAgg233
  z76 := Tryz.sizeOf233
  v76 := Tryz.zeroValue233
  t77 := Tryz.underlying234
  a77 := Tryz.isAgg234
  z77 := Tryz.sizeOf234
  v77 := Tryz.zeroValue234 }
end Go.Proofs
namespace Go.Proofs.YtoafpfheopgdkaaGreatDoor.So
open Go.RowKit Go.Shelf Go.Maps
open Go.Proofs.YtoafpfheopgdkaaGreatDoor.Co (I64 I64_mid)
open Go.Proofs.YtoafpfheopgdkaaGreatDoor.At (St bAl cell_blk blk_seen blk_free)
open Go.Proofs.YtoafpfheopgdkaaGreatDoor.Ro (Ents entCells entCells_len)
def encE (x : Nat × Nat) : List Value := [.int .i64 (x.1 : Int), .int .i64 (x.2 : Int)]
def cmpE (x y : Nat × Nat) : Int := if x.1 < y.1 then -1 else if y.1 < x.1 then 1 else 0
theorem ltE (x y : Nat × Nat) : ltOf cmpE x y = decide (x.1 < y.1) := by
  unfold ltOf cmpE
  by_cases h1 : x.1 < y.1
  · simp [h1]
  · by_cases h2 : y.1 < x.1 <;> simp [h1, h2]
theorem swoE : Sort.SWO (ltOf cmpE) :=
  ⟨fun x => by rw [ltE]; simp, fun x y z h1 h2 => by rw [ltE] at *; simp at *; omega, fun x y z h1 h2 => by rw [ltE] at *; simp at *; omega⟩
set_option maxHeartbeats 800000 in
theorem nan_any (x : Int) (W : World) : Calls Tryz.prog 114 #[.int .i64 x] W fun e W' => e = .returned (.bool false) ∧ W' = W := by
  go_enter Tryz.func114, Tryz.ntmps114
  go_wp2_with fail
  go_ret
  exact ⟨by simp, rfl⟩
set_option maxHeartbeats 1600000 in
set_option maxRecDepth 100000 in
theorem compare_any (x y : Nat × Nat) (W : World) : Calls Tryz.prog 85 #[.int .i64 (x.1 : Int), .int .i64 (y.1 : Int)] W fun e W' => e = .returned (.int .i64 (cmpE x y)) ∧ W' = W := by
  have NN := hid nan_any
  obtain ⟨r, hr⟩ : ∃ r, r = cmpE x y := ⟨_, rfl⟩
  rw [← hr]
  unfold cmpE at hr
  obtain ⟨a, ha⟩ : ∃ a, a = x.1 := ⟨_, rfl⟩
  obtain ⟨b, hb⟩ : ∃ b, b = y.1 := ⟨_, rfl⟩
  rw [← ha, ← hb] at hr ⊢
  clear ha hb
  by_cases h1 : a < b
  · have h1' : (a : Int) < (b : Int) := by omega
    rw [if_pos h1] at hr
    subst hr
    clear h1
    go_enter Tryz.func85, Tryz.ntmps85
    go_wp2_with (go_at_call 114; refine (NN.out _ _).mono ?_; rintro e w' ⟨rfl, hq⟩; obtain rfl := hq.symm)
    go_ret
    exact ⟨rfl, rfl⟩
  · have h1' : ¬ ((a : Int) < (b : Int)) := by omega
    rw [if_neg h1] at hr
    by_cases h2 : b < a
    · have h2' : (b : Int) < (a : Int) := by omega
      rw [if_pos h2] at hr
      subst hr
      clear h1 h2
      go_enter Tryz.func85, Tryz.ntmps85
      go_wp2_with (go_at_call 114; refine (NN.out _ _).mono ?_; rintro e w' ⟨rfl, hq⟩; obtain rfl := hq.symm)
      go_ret
      exact ⟨rfl, rfl⟩
    · have h2' : ¬ ((b : Int) < (a : Int)) := by omega
      rw [if_neg h2] at hr
      subst hr
      clear h1 h2
      go_enter Tryz.func85, Tryz.ntmps85
      go_wp2_with (go_at_call 114; refine (NN.out _ _).mono ?_; rintro e w' ⟨rfl, hq⟩; obtain rfl := hq.symm)
      go_ret
      exact ⟨rfl, rfl⟩
set_option maxHeartbeats 1600000 in
set_option maxRecDepth 100000 in
theorem gather1_any (x y : Nat × Nat) (W : World) : Calls Tryz.prog 84 #[.agg #[.int .i64 (x.1 : Int), .int .i64 (x.2 : Int)], .agg #[.int .i64 (y.1 : Int), .int .i64 (y.2 : Int)]] W fun e w' => e = .returned (.int .i64 (cmpE x y)) ∧ ∃ q os', w' = Sort.grow (W.drewN q) os' := by
  have CC := hid (compare_any x y)
  generalize cmpE x y = r at CC ⊢
  go_enter Tryz.func84, Tryz.ntmps84
  go_wp2_with (go_at_call 85; refine (CC.out _).mono ?_; rintro e w' ⟨rfl, hq⟩; obtain rfl := hq.symm)
  go_ret
  exact ⟨rfl, 0, _, by rw [Sort.alloc_eq_grow, Sort.alloc_eq_grow, Sort.grow_grow]; rfl⟩
theorem enters_gather1 : ∀ args w, (callFunc 84 args).run Tryz.prog w = .ok (.enter 84 args) w := enters_of Tryz.func84 (by kernel_rfl) rfl
end Go.Proofs.YtoafpfheopgdkaaGreatDoor.So
namespace Go.Proofs.YtoafpfheopgdkaaGreatDoor.So
open Go.RowKit Go.Shelf Go.Maps
open Go.Proofs.YtoafpfheopgdkaaGreatDoor.Co (I64 I64_mid)
open Go.Proofs.YtoafpfheopgdkaaGreatDoor.At (St bAl cell_blk blk_seen blk_free)
open Go.Proofs.YtoafpfheopgdkaaGreatDoor.Ro (Ents entCells entCells_len)
theorem flat_at (l : List (Nat × Nat)) (t : Nat) (ht : t < l.length * 2) : (entCells l)[t]? = some (Sort.flatK encE 2 l.toArray)[t]! := by
  rw [Sort.get_flatK encE 2 l.toArray t (by simpa using ht)]
  have hj : t / 2 < l.length := by omega
  obtain ⟨p, hp⟩ := at_lt l (t / 2) hj
  obtain ⟨e0, e1⟩ := ent_at hp
  have hg : l.toArray[t / 2]! = p := by
    rw [getElem!_pos l.toArray (t / 2) (by simpa using hj)]
    obtain ⟨h, e⟩ := List.getElem?_eq_some_iff.1 hp
    simpa using e
  rw [hg]
  obtain ⟨j, hj2⟩ : ∃ j, j = t / 2 := ⟨_, rfl⟩
  rw [← hj2] at e0 e1
  rcases Nat.mod_two_eq_zero_or_one t with h | h
  · rw [h, show t = j * 2 by omega, e0]; rfl
  · rw [h, show t = j * 2 + 1 by omega, e1]; rfl
theorem ents_blk {N : Nat} {W : World} {g n cap : Nat} {l : List (Nat × Nat)} (h : Ents N W (.slice (some ⟨g, 0, none⟩) n cap) l) : n = l.length ∧ N ≤ g ∧ ∃ cur, W.heap[g]? = some (.cells cur 58 (0, 0)) ∧ l.length ≤ cap ∧ cap ≤ maxLen ∧ cur.size = cap * 2 ∧ cur.toList.take (l.length * 2) = entCells l := by
  obtain ⟨-, h | ⟨g', cap', cur, e, h1, h2, h3, h4, h5, h6⟩⟩ := (h : World.ownsRow _ _ _ _ _ _ _)
  · simp at h
  · obtain ⟨rfl, rfl, rfl⟩ : g = g' ∧ n = l.length ∧ cap = cap' := by simpa using e
    exact ⟨rfl, h1, cur, h2, h3, h4, h5, h6⟩
theorem sort_ents {N : Nat} {W : World} {g n cap : Nat} {l : List (Nat × Nat)} (h : Ents N W (.slice (some ⟨g, 0, none⟩) n cap) l) (hl : l.length ≤ 1000) :
    Calls Tryz.prog 83 #[.slice (some ⟨g, 0, none⟩) n cap, .func (.func 84) #[] #[]] W fun e W' => e = .returned (.tuple #[]) ∧ ∃ l', l'.Perm l ∧ l'.Pairwise (fun x y => x.1 ≤ y.1) ∧ Ents N W' (.slice (some ⟨g, 0, none⟩) n cap) l' ∧ St (fun k => k = g) W W' := by
  obtain ⟨rfl, h1, cur, h2, h3, h4, h5, h6⟩ := ents_blk h
  have hg : g < W.heap.size := (Array.getElem?_eq_some_iff.1 h2).1
  have hle : l.length * 2 ≤ cur.size := by rw [h5]; exact Nat.mul_le_mul_right 2 h3
  have hH : Sort.HoldsK encE 2 W g 0 l.toArray := by
    intro t ht
    have ht' : t < l.length * 2 := by simpa using ht
    rw [Nat.zero_add]
    refine ⟨?_, blk_free h2 t⟩
    have := flat_at l t ht'
    rw [← h6, List.getElem?_take_of_lt ht'] at this
    exact cell_blk h2 (by rw [← Array.getElem?_toList]; exact this)
  have hcmp : CmpLays Tryz.prog 84 #[] encE 2 cmpE g 0 l.toArray.size W := fun _ _ _ _ x y => gather1_any x y _
  have hcon := AnyQ.slices_SortFunc Tryz.sortEnt 2 Tryz.isAgg58 Tryz.sizeOf58 encE (fun _ => rfl) (fun x v hv => by simp [encE] at hv; rcases hv with rfl | rfl <;> rfl) cmpE swoE 84 #[] g 0 cap l.toArray W enters_gather1 hcmp hH hg (by simp; omega)
  have hcon' : Calls Tryz.prog 83 #[.slice (some ⟨g, 0, none⟩) l.length cap, .func (.func 84) #[] #[]] W _ := hcon
  refine hcon'.mono ?_
  rintro e W' ⟨rfl, d', m, os, hp, hs, rfl⟩
  have hsz : d'.size = l.length := by simpa using hp.1
  have hperm : d'.toList.Perm l := by
    have := hp.2.2
    simp at this
    rwa [List.take_of_length_le (by simp [hsz])] at this
  have hdl : d'.toList.length = l.length := by simpa using hsz
  refine ⟨rfl, d'.toList, hperm, ?_, ?_, ?_⟩
  · rw [List.pairwise_iff_getElem]
    intro i j hi hj hij
    have q := hs i j (Nat.zero_le _) hij (by simp; omega)
    rw [ltE] at q
    simp at q hi hj
    rw [getElem!_pos d' i hi, getElem!_pos d' j hj] at q
    simpa using q
  · have hb : (sortWorldK encE 2 W g 0 m d' os).heap[g]? = some (.cells (Sort.putCells id 0 (Sort.flatK encE 2 d') cur) 58 (0, 0)) := by
      unfold sortWorldK
      rw [Sort.heap_grow_old _ _ (by unfold Sort.putRowK; simpa using hg)]
      simp [Sort.putRowK, Sort.putRow, Sort.mapBlock, Sort.ahead, Array.getElem?_modify, h2, Sort.onCells]
    refine ⟨?_, .inr ⟨g, cap, _, by rw [hdl], h1, hb, by omega, h4, by simp [Sort.putCells, h5], ?_⟩⟩
    · rw [entCells_len]
    · refine List.ext_getElem? fun t => ?_
      by_cases ht : t < d'.toList.length * 2
      · rw [List.getElem?_take_of_lt ht, flat_at _ _ ht, Array.getElem?_toList]
        have : t < cur.size := by omega
        simp only [Sort.putCells, Array.getElem?_mapIdx]
        rw [Array.getElem?_eq_getElem this]
        simp at ht
        simp [ht]
      · rw [List.getElem?_take_eq_none (by omega), List.getElem?_eq_none (by rw [entCells_len]; omega)]
  · refine ⟨rfl, rfl, rfl, ?_, fun k hk hn => ?_⟩
    · unfold sortWorldK Sort.putRowK; simp [Sort.ahead]
    · unfold sortWorldK
      rw [Sort.heap_grow_old _ _ (by unfold Sort.putRowK; simpa using hk)]
      have : g ≠ k := fun e => hn e.symm
      simp [Sort.putRowK, Sort.putRow, Sort.mapBlock, Sort.ahead, Array.getElem?_modify, this]
end Go.Proofs.YtoafpfheopgdkaaGreatDoor.So
