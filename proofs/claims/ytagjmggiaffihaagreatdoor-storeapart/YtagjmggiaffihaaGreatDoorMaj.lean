/- Texts in one. -/
import Derived.Test.YtagjmggiaffihaaGreatDoorMai
namespace Go.Proofs.YtagjmggiaffihaaGreatDoor.So
open Go.RowKit Go.Shelf Go.Maps
open Go.Proofs.YtagjmggiaffihaaGreatDoor.Co (I64 Pt Col CS I64_mid)
open Go.Proofs.YtagjmggiaffihaaGreatDoor.At (St bAl cell_blk blk_seen blk_free Ints Err at_err err_leaf wi)
open Go.Proofs.YtagjmggiaffihaaGreatDoor.Rs (Prt SD okW fitP PRow mskP Six)
/-- An error, by its number; 0: none. -/
def Er (Ad : Nat → Addr) (W : World) (v : Value) (k : Nat) : Prop := (k = 0 ∧ v = .nilIface) ∨ (k ≠ 0 ∧ ∃ t q, v = .iface t q ∧ ∃ d, Err Ad W (.iface t q) k d)
theorem Er.later {Ad : Nat → Addr} {W W' : World} {v : Value} {k : Nat} (h : Er Ad W v k) (hb : Below W.heap.size W W') : Er Ad W' v k :=
  h.imp id fun ⟨h0, t, q, e, d, hd⟩ => ⟨h0, t, q, e, d, hd.later hb⟩
theorem Er.none (Ad : Nat → Addr) (W : World) : Er Ad W .nilIface 0 := .inl ⟨rfl, rfl⟩
theorem Er.leaf (Ad : Nat → Addr) (W : World) (k : Nat) (hk : 1 ≤ k ∧ k ≤ 18) : Er Ad W (.iface 278 (.pointer (some (Ad k)))) k := .inr ⟨by omega, _, _, rfl, 0, err_leaf Ad W k hk⟩
theorem Er.of {Ad : Nat → Addr} {W : World} {t : TypeId} {q : Value} {k d : Nat} (h0 : k ≠ 0) (h : Err Ad W (.iface t q) k d) : Er Ad W (.iface t q) k := .inr ⟨h0, t, q, rfl, d, h⟩
theorem at_er (Ad : Nat → Addr) (s : ByteArray) (v : Value) (k : Nat) (w : World) (h : Er Ad w v k) :
    Calls Tryz.prog 63 #[.string s, v] w fun e w' => ∃ v', e = .returned v' ∧ Er Ad w' v' k ∧ Below w.heap.size w w' := by
  rcases h with ⟨rfl, rfl⟩ | ⟨h0, t, q, rfl, d, hd⟩
  · exact (at_nil s w).mono fun e w' ⟨q1, q2⟩ => ⟨_, q1, .inl ⟨rfl, rfl⟩, by rw [q2]; exact Below.refl _ _⟩
  · exact (at_err Ad s _ k d w hd).mono fun e w' ⟨t, q, q1, q2, q3⟩ => ⟨_, q1, Er.of h0 q2, q3⟩
theorem check_any (Ad : Nat → Addr) {ex : Option Nat} {B : Nat} {W : World} {sb : Nat} {c : CV} {s : SD} (h : Sto ex B W sb c s) (hE : Env8 W Ad) (p : Prt) :
    Calls Tryz.prog 112 #[.pointer (some ⟨sb, 0, none⟩), .agg #[.int .i64 p.c, .int .i64 p.v0, .int .i64 p.v1, .int .i64 p.v2, .int .i64 p.v3, .int .i64 p.t]] W fun e W' => ∃ v, e = .returned v ∧ Er Ad W' v (if fitP s.ws p then 0 else 1) ∧ Below W.heap.size W W' := by
  by_cases hc : p.c < 0 ∨ (s.ws.length : Int) ≤ p.c
  · rw [Rs.fit_out hc]
    exact (check_out Ad h hE p hc).mono fun e W' ⟨t, q, q1, q2, q3⟩ => ⟨_, q1, Er.of (by decide) q2, q3⟩
  · refine (check_in Ad h hE p (cc := p.c.toNat) (by omega) (by omega)).mono fun e W' ⟨v, q1, q2, q3⟩ => ⟨v, q1, ?_, q3⟩
    cases hf : fitP s.ws p
    · rw [hf] at q2
      obtain ⟨t, q, rfl, q4⟩ := q2
      exact Er.of (by decide) q4
    · rw [hf] at q2
      exact .inl ⟨rfl, q2⟩
/-- What is wrong with parts. -/
def chkL (ws : List Nat) (l : List Prt) : Nat := if l.all (fitP ws) then (if l.Pairwise (fun x y => x.c ≠ y.c) then 0 else 9) else 1
theorem chk_unfit {ws : List Nat} {l : List Prt} {p : Prt} (hp : p ∈ l) (hf : fitP ws p = false) : chkL ws l = 1 := by
  unfold chkL
  rw [if_neg]
  intro h
  rw [List.all_eq_true.1 h p hp] at hf
  cases hf
theorem chk_ok {ws : List Nat} {l : List Prt} (h : chkL ws l = 0) : (∀ p ∈ l, fitP ws p = true) ∧ Apart l := by
  unfold chkL at h
  split at h
  · rename_i h1
    split at h
    · rename_i h2
      exact ⟨List.all_eq_true.1 h1, h2⟩
    · cases h
  · cases h
theorem take_snoc {l : List Prt} {k : Nat} {p : Prt} (hp : l[k]? = some p) : l.take (k + 1) = l.take k ++ [p] := by
  obtain ⟨hl, rfl⟩ := List.getElem?_eq_some_iff.1 hp
  exact List.take_succ_eq_append_getElem hl
theorem apart_snoc {l : List Prt} {k : Nat} {p : Prt} {c : Nat} (hp : l[k]? = some p) (hc : p.c = (c : Int)) (hpos : Pos l) (h : Apart (l.take k)) (hb : (mskP (l.take k)).testBit c = false) : Apart (l.take (k + 1)) := by
  rw [take_snoc hp, Apart, List.pairwise_append]
  refine ⟨h, by simp, fun a ha b hb' e => ?_⟩
  simp at hb'
  subst hb'
  have := (msk_mem (fun x hx => hpos x (List.mem_of_mem_take hx)) c).2 ⟨a, ha, by rw [e, hc]⟩
  rw [this] at hb
  cases hb
theorem not_apart {l : List Prt} {k : Nat} {p : Prt} {c : Nat} (hp : l[k]? = some p) (hc : p.c = (c : Int)) (hpos : Pos l) (hb : (mskP (l.take k)).testBit c = true) : ¬ Apart l := fun h => by
  obtain ⟨a, ha, e⟩ := (msk_mem (fun x hx => hpos x (List.mem_of_mem_take hx)) c).1 hb
  have h2 : Apart (l.take (k + 1)) := h.sublist (List.take_sublist _ _)
  rw [take_snoc hp, Apart, List.pairwise_append] at h2
  exact h2.2.2 a ha p (by simp) (by rw [e, hc])
set_option maxHeartbeats 6400000 in
set_option maxRecDepth 100000 in
theorem checkAll_any (Ad : Nat → Addr) {ex : Option Nat} {B : Nat} {W : World} {sb : Nat} {c : CV} {s : SD} (h : Sto ex B W sb c s) (hE : Env8 W Ad) {v : Value} {l : List Prt} (hv : PRow W v l) (hl : l.length ≤ 90) :
    Calls Tryz.prog 64 #[.pointer (some ⟨sb, 0, none⟩), v] W fun e W' => ∃ r, e = .returned r ∧ Er Ad W' r (chkL s.ws l) ∧ Below W.heap.size W W' := by
  obtain ⟨va, vc, rfl, -⟩ := id hv
  have hli : (l.length : Int) ≤ 90 := by omega
  have H := hid h
  have HE := hid hE
  have HV := hid hv
  have hw16 := h.okw.1
  clear h hE hv
  go_enter Tryz.func64, Tryz.ntmps64
  go_wp2_with fail
  go_loopg [5, 6, 7, 13] l.length (fun gh _ _ _ q wr => ∃ k : Nat, k ≤ l.length ∧ gh = l.length - k ∧ q = .int .i64 (k : Int) ∧ Hid (∀ p ∈ l.take k, fitP s.ws p = true) ∧ Hid (Below W.heap.size W wr))
  case atStart => exact ⟨0, Nat.zero_le _, rfl, rfl, (show ∀ p ∈ l.take 0, fitP s.ws p = true from fun p hp => by simp at hp), Below.refl _ _⟩
  case round =>
    obtain ⟨k, hk, rfl, rfl, HF, HB⟩ := hrel
    by_cases hlt : k < l.length
    · have hki : (k : Int) < (l.length : Int) := by omega
      obtain ⟨p, hp⟩ := at_lt l k hlt
      obtain ⟨b, o, rfl, d0, d1, d2, d3, d4, d5⟩ := (HV.out.later HB.out).at hp
      obtain ⟨w3, hw3⟩ : ∃ w3, w3 = wr.alloc (.cells #[.int .i64 p.c, .int .i64 p.v0, .int .i64 p.v1, .int .i64 p.v2, .int .i64 p.v3, .int .i64 p.t] 47) := ⟨_, rfl⟩
      have b3 : Below W.heap.size W w3 := by rw [hw3]; exact HB.out.alloc HB.out.size _
      have y : w3.heap[wr.heap.size]? = some (.cells p.arr 47 (0, 0)) := by rw [hw3]; exact heap_alloc_new wr _
      have y0 := cell_blk y (j := 0) rfl
      have y1 := cell_blk y (j := 1) rfl
      have y2 := cell_blk y (j := 2) rfl
      have y3 := cell_blk y (j := 3) rfl
      have y4 := cell_blk y (j := 4) rfl
      have y5 := cell_blk y (j := 5) rfl
      have CK := hid (check_any Ad (H.out.later b3) (HE.out.later b3) p)
      have HW3 := hid hw3
      have B3 := hid b3
      have HP := hid hp
      clear hw3 b3 y hp
      cases hf : fitP s.ws p
      · rw [hf] at CK
        have HU := hid (chk_unfit (List.mem_of_getElem? HP.out) hf)
        go_upto_region 4 with fail
        rw [← HW3.out]
        go_wp2_with fail
        refine CK.out.mono ?_
        rintro e w4 ⟨v4, rfl, q1, q2⟩
        rcases q1 with ⟨q1, -⟩ | ⟨-, t, q, rfl, d, hd⟩
        · cases q1
        have IT := hid (Sc.itoa_any k (by omega) w4)
        have AC := hid (at_err Ad (Sc.dig k) _ 1 d w4 hd)
        have B4 := hid (B3.out.trans (q2.mono B3.out.size))
        clear q2 hd CK y0 y1 y2 y3 y4 y5
        go_wp2_with fail
        refine IT.out.mono ?_
        rintro e w5 ⟨rfl, rfl⟩
        go_wp2_with fail
        refine AC.out.mono ?_
        rintro e w6 ⟨t6, q6, rfl, hv6, hb6⟩
        have V6 := hid hv6
        have B6 := hid (B4.out.trans (hb6.mono B4.out.size))
        clear hv6 hb6 IT AC
        go_wp2_with fail
        go_ret
        exact ⟨_, rfl, by rw [HU.out]; exact Er.of (by decide) V6.out, B6.out⟩
      · rw [hf] at CK
        have HF' : Hid (∀ p ∈ l.take (k + 1), fitP s.ws p = true) := fun x hx => by
          rw [take_snoc HP.out] at hx
          rcases List.mem_append.1 hx with hx | hx
          · exact HF.out x hx
          · simp at hx; rw [hx]; exact hf
        go_upto_region 4 with fail
        rw [← HW3.out]
        go_wp2_with fail
        refine CK.out.mono ?_
        rintro e w4 ⟨v4, rfl, q1, q2⟩
        rcases q1 with ⟨-, rfl⟩ | ⟨q1, -⟩
        · have B4 := hid (B3.out.trans (q2.mono B3.out.size))
          clear q2 CK y0 y1 y2 y3 y4 y5
          go_wp2_with fail
          go_roundg (l.length - (k + 1))
          case measure => omega
          case rel => exact ⟨k + 1, by omega, rfl, by go_num, HF'.out, B4.out⟩
        · simp at q1
    · have hki : ¬ ((k : Int) < (l.length : Int)) := by omega
      obtain rfl : k = l.length := by omega
      have hall := HF.out
      rw [List.take_length] at hall
      have HALL := hid hall
      have HPOS : Hid (∀ p ∈ l, 0 ≤ p.c ∧ p.c < 16) := fun p hp => by have := Rs.fit_range (hall p hp); omega
      rename World => wo
      clear hall HF
      go_wp2_with fail
      go_loopg [8, 9, 10, 30] l.length (fun gh sv _ _ q wr => ∃ k m : Nat, k ≤ l.length ∧ gh = l.length - k ∧ q = .int .i64 (k : Int) ∧ sv = .int .u32 (m : Int) ∧ Hid (m = mskP (l.take k)) ∧ Hid (m < 65536) ∧ Hid (Apart (l.take k)) ∧ Hid (Below W.heap.size W wr))
      case atStart => exact ⟨0, 0, Nat.zero_le _, rfl, rfl, rfl, rfl, (show (0 : Nat) < 65536 by decide), (show Apart (l.take 0) by simp [Apart]), HB.out⟩
      case round =>
        obtain ⟨k, m, hk, rfl, rfl, rfl, HM, HM6, HAP, HB2⟩ := hrel
        by_cases hlt : k < l.length
        · have hki : (k : Int) < (l.length : Int) := by omega
          obtain ⟨p, hp⟩ := at_lt l k hlt
          obtain ⟨b, o, rfl, d0, d1, d2, d3, d4, d5⟩ := (HV.out.later HB2.out).at hp
          have hpos := HPOS.out p (List.mem_of_getElem? hp)
          obtain ⟨cc, hc⟩ : ∃ cc : Nat, p.c = (cc : Int) := ⟨p.c.toNat, by omega⟩
          have hc16 : cc < 16 := by omega
          have HP := hid hp
          have HC := hid hc
          have HS := hid (fun w => At.sethas_in m cc (by have := HM6.out; omega) (by omega) w)
          have hb' : Below W.heap.size W (wr.alloc (.cells #[.int .i64 (cc : Int), .int .i64 p.v0, .int .i64 p.v1, .int .i64 p.v2, .int .i64 p.v3, .int .i64 p.t] 47)) := HB2.out.alloc HB2.out.size _
          cases ht : m.testBit cc
          · have WI := hid (fun w => At.with_in m cc (by have := HM6.out; omega) (by omega) w)
            have HN : Hid (wi m cc = mskP (l.take (k + 1))) := by show _ = _; rw [msk_next hp hc, ← HM.out]
            have HN6 : Hid (wi m cc < 65536) := At.wi_lt (n := 16) HM6.out hc16
            have HA' : Hid (Apart (l.take (k + 1))) := apart_snoc hp hc (fun x hx => (HPOS.out x hx).1) HAP.out (by rw [← HM.out]; exact ht)
            have HB' := hid hb'
            rw [ht] at HS
            generalize wi m cc = m2 at *
            clear hp hpos ht HM HM6 hb'
            go_wp2_with (first
              | (go_at_call 47; refine (HS.out _).mono ?_; rintro e w2 ⟨rfl, rfl⟩)
              | (go_at_call 49; refine (WI.out _).mono ?_; rintro e w2 ⟨rfl, rfl⟩))
            go_roundg (l.length - (k + 1))
            case measure => omega
            case rel => exact ⟨k + 1, m2, by omega, rfl, by go_num, rfl, HN.out, HN6.out, HA'.out, HB'.out⟩
          · rw [ht] at HS
            have HU : Hid (chkL s.ws l = 9) := by
              show chkL s.ws l = 9
              unfold chkL
              rw [if_pos (List.all_eq_true.2 HALL.out), if_neg]
              exact not_apart hp hc (fun x hx => (HPOS.out x hx).1) (by rw [← HM.out]; exact ht)
            obtain ⟨w3, hw3⟩ : ∃ w3, w3 = wr.alloc (.cells #[.int .i64 (cc : Int), .int .i64 p.v0, .int .i64 p.v1, .int .i64 p.v2, .int .i64 p.v3, .int .i64 p.t] 47) := ⟨_, rfl⟩
            have y : w3.heap[wr.heap.size]? = some (.cells #[.int .i64 (cc : Int), .int .i64 p.v0, .int .i64 p.v1, .int .i64 p.v2, .int .i64 p.v3, .int .i64 p.t] 47 (0, 0)) := by rw [hw3]; exact heap_alloc_new wr _
            have y0 := cell_blk y (j := 0) rfl
            rw [← hw3] at hb'
            have B3 := hid hb'
            have HW3 := hid hw3
            have IT := hid (Sc.itoa_any k (by omega))
            have KE : Hid (∀ W', Below w3.heap.size w3 W' → W'.cell? ⟨1, 0, none⟩ = some (.iface 278 (.pointer (some (Ad 9))))) := fun W' hb => e9 ((HE.out.later B3.out).later hb)
            have AC : Hid (∀ W', Calls Tryz.prog 63 #[.string (Sc.dig k), .iface 278 (.pointer (some (Ad 9)))] W' fun e w' => ∃ t q, e = .returned (.iface t q) ∧ Err Ad w' (.iface t q) 9 1 ∧ Below W'.heap.size W' w') := fun W' => at_err Ad (Sc.dig k) _ 9 0 W' (err_leaf Ad _ 9 (by decide))
            clear hp hpos ht HM HM6 hb' y hw3
            go_upto_region 12 with fail
            rw [← HW3.out]
            go_wp2_with (go_at_call 47; refine (HS.out _).mono ?_; rintro e w2 ⟨rfl, hq⟩; obtain rfl := hq.symm)
            go_region_held3 (fun W' => W'.cell? ⟨1, 0, none⟩ = some (.iface 278 (.pointer (some (Ad 9)))))
              (first | exact KE.out _ (Below.refl _ _).drew | exact KE.out _ (Below.refl _ _) | exact KE.out _ B6.out)
              (first
                | (go_at_call 113; refine (IT.out _).mono ?_; rintro e w5 ⟨rfl, rfl⟩)
                | (go_at_call 63; refine (AC.out _).mono ?_; rintro e w6 ⟨t6, q6, rfl, hv6, hb6⟩; have V6 := hid hv6; have B6 : Hid (Below w3.heap.size w3 w6) := (by first | exact (Below.refl _ _).drew.trans hb6 | exact (Below.refl _ _).drew.drew.trans hb6 | exact hb6); clear hv6 hb6))
            have B7 : Hid (Below W.heap.size W w6) := B3.out.trans (B6.out.mono B3.out.size)
            clear B6 KE AC IT
            go_wp2_with fail
            go_ret
            exact ⟨_, rfl, by rw [HU.out]; exact Er.of (by decide) V6.out, B7.out⟩
        · have hki : ¬ ((k : Int) < (l.length : Int)) := by omega
          obtain rfl : k = l.length := by omega
          have HU : Hid (chkL s.ws l = 0) := by
            show chkL s.ws l = 0
            have := HAP.out
            rw [List.take_length] at this
            unfold chkL
            rw [if_pos (List.all_eq_true.2 HALL.out)]
            exact if_pos this
          go_wp2_with fail
          go_ret
          exact ⟨_, rfl, by rw [HU.out]; exact Er.none _ _, HB2.out⟩
end Go.Proofs.YtagjmggiaffihaaGreatDoor.So
namespace Go.Proofs.YtagjmggiaffihaaGreatDoor.So
open Go.RowKit Go.Shelf Go.Maps
open Go.Proofs.YtagjmggiaffihaaGreatDoor.Co (I64 Pt Col CS I64_mid)
open Go.Proofs.YtagjmggiaffihaaGreatDoor.At (St bAl cell_blk blk_seen blk_free Ints Err at_err err_leaf wi add)
open Go.Proofs.YtagjmggiaffihaaGreatDoor.Ro (RS)
open Go.Proofs.YtagjmggiaffihaaGreatDoor.Rs (Prt SD okL okW fitP PRow mskP Six insP insr insP_rec mem_insr insr_sorted remP Prts)
theorem insr_perm (p : Prt) : ∀ l : List Prt, (insr p l).Perm (p :: l)
  | [] => by simp [insr]
  | x :: l => by
    unfold insr
    split
    · exact List.Perm.refl _
    · exact ((insr_perm p l).cons x).trans (List.Perm.swap p x l)
/-- Parts by rising components. -/
def sortP (l : List Prt) : List Prt := l.foldl insP []
theorem sort_snoc (l : List Prt) (p : Prt) : sortP (l ++ [p]) = insP (sortP l) p := by unfold sortP; rw [List.foldl_append]; rfl
theorem fold_perm : ∀ (l acc : List Prt), (l.foldl insP acc).Perm (acc ++ l)
  | [], acc => by simp
  | p :: l, acc => by
    rw [List.foldl_cons]
    refine (fold_perm l _).trans ?_
    rw [insP_rec]
    refine ((insr_perm p acc).append_right l).trans ?_
    exact List.perm_middle.symm
theorem sort_perm (l : List Prt) : l.Perm (sortP l) := by
  have := fold_perm l []
  simpa [sortP] using this.symm
theorem fold_sorted : ∀ (l acc : List Prt), acc.Pairwise (fun x y => x.c < y.c) → Apart (acc ++ l) → (l.foldl insP acc).Pairwise (fun x y => x.c < y.c)
  | [], acc, h, _ => h
  | p :: l, acc, h, ha => by
    rw [List.foldl_cons]
    have hp : ∀ x ∈ acc, x.c ≠ p.c := fun x hx => by
      rw [Apart, List.pairwise_append] at ha
      exact ha.2.2 x hx p (by simp)
    refine fold_sorted l _ ?_ ?_
    · rw [insP_rec]; exact insr_sorted h hp
    · rw [insP_rec]
      exact apart_perm ha (List.perm_middle.trans (((insr_perm p acc).append_right l).symm))
theorem sort_ok {ws : List Nat} {l : List Prt} (h : chkL ws l = 0) (ht : ∀ p ∈ l, I64 p.t) : okE ws (sortP l) := by
  obtain ⟨h1, h2⟩ := chk_ok h
  refine ⟨⟨fold_sorted l [] (by simp) (by simpa using h2), fun x hx => ?_⟩, fun x hx => ?_⟩
  · exact Rs.fit_range (h1 x ((sort_perm l).mem_iff.2 hx))
  · have := (sort_perm l).mem_iff.2 hx
    exact ⟨h1 x this, ht x this⟩
/-- A store whose blocks are S. -/
def Str (B : Nat) (W : World) (sb t : Nat) (s : SD) (S : Nat → Prop) : Prop := ∃ c, Sto none B W sb c s ∧ c.t = t ∧ ∀ k, S k ↔ c.f k ≠ (0, 0, 0)
/-- What a call that changes a store leaves. -/
def Goes (B sb t : Nat) (s : SD) (S : Nat → Prop) (W W' : World) : Prop := ∃ S', Str B W' sb t s S' ∧ St S W W' ∧ ∀ k, S' k → S k ∨ W.heap.size ≤ k
section
variable {B : Nat} {W W' : World} {sb t : Nat} {s s' : SD} {S : Nat → Prop}
theorem Str.kept {T : Nat → Prop} (h : Str B W sb t s S) (hs : St T W W') (hd : ∀ k, S k → ¬ T k) : Str B W' sb t s S := by
  obtain ⟨c, h1, h2, h3⟩ := h
  exact ⟨c, h1.keep hs fun k hk => hd k ((h3 k).2 hk), h2, h3⟩
theorem Str.later (h : Str B W sb t s S) (hb : Below W.heap.size W W') : Str B W' sb t s S := h.kept (T := fun _ => False) (St.of_below hb) fun _ _ q => q
theorem Str.lt (h : Str B W sb t s S) (k : Nat) (hk : S k) : B ≤ k ∧ k < W.heap.size := by
  obtain ⟨c, h1, h2, h3⟩ := h
  exact h1.lt k ((h3 k).1 hk)
theorem Str.big (h : Str B W sb t s S) : B ≤ W.heap.size := by obtain ⟨c, h1, h2, h3⟩ := h; exact h1.big
theorem Str.below (h : Str B W sb t s S) (hs : St S W W') : Below B W W' := hs.below (fun k hk => (h.lt k hk).1) h.big
theorem Goes.of {c c' : CV} {t' : Nat} (hS : ∀ k, S k ↔ c.f k ≠ (0, 0, 0)) (h : Sto none B W' sb c' s') (ht : c'.t = t') (hg : Gw c c' W W') : Goes B sb t' s' S W W' :=
  ⟨_, ⟨c', h, ht, fun _ => Iff.rfl⟩, ⟨hg.st.os, hg.st.tape, hg.st.output, hg.st.size, fun k hk hn => hg.st.block k hk fun q => hn ((hS k).2 q)⟩, fun k hk => (hg.new k hk).imp (hS k).2 id⟩
theorem Goes.stay (h : Str B W sb t s S) (hb : Below W.heap.size W W') : Goes B sb t s S W W' := ⟨S, h.later hb, St.of_below hb, fun _ q => .inl q⟩
theorem Goes.after {W0 : World} (hb : Below W0.heap.size W0 W) (h : Goes B sb t s S W W') : Goes B sb t s S W0 W' := by
  obtain ⟨S', h1, h2, h3⟩ := h
  exact ⟨S', h1, (St.of_below hb).trans h2 fun _ _ q => q, fun k hk => (h3 k hk).imp id fun q => Nat.le_trans hb.size q⟩
end
theorem hid_row {S : Nat → Prop} {W : World} {v : Value} {l : List Prt} (h : PRow W v l) (hS : ∀ k, S k → W.heap.size ≤ k) : PRowOut S W v l := by
  obtain ⟨a, c, h1, h2⟩ := h
  refine ⟨a, c, h1, ?_⟩
  rcases l with _ | ⟨p, l⟩
  · exact .inl rfl
  · rcases h2 with h2 | ⟨b, o, q1, q3⟩
    · cases h2
    · refine .inr ⟨b, o, q1, fun q => ?_, q3⟩
      have e1 : b < W.heap.size := World.block_lt_of_cell? W _ (q3 0 p rfl).c0
      have e2 := hS b q
      omega
end Go.Proofs.YtagjmggiaffihaaGreatDoor.So
namespace Go.Proofs.YtagjmggiaffihaaGreatDoor.So
open Go.RowKit Go.Shelf Go.Maps
open Go.Proofs.YtagjmggiaffihaaGreatDoor.Co (I64 Pt Col CS I64_mid)
open Go.Proofs.YtagjmggiaffihaaGreatDoor.At (St bAl cell_blk blk_seen blk_free Ints Err at_err err_leaf wi add)
open Go.Proofs.YtagjmggiaffihaaGreatDoor.Ro (RS ErrAt)
open Go.Proofs.YtagjmggiaffihaaGreatDoor.Rs (Prt SD okL okW fitP PRow mskP Six Prts)
def bSpawn : ByteArray := ⟨#[115, 112, 97, 119, 110]⟩
theorem zero_ent {W : World} {k : Nat} (h : W.heap[k]? = some (.cells #[.int .i64 0, .int .i64 0] 43 (0, 0))) (a b : Value) : ((W.setCell ⟨k, 0, none⟩ a).setCell ⟨k, 1, none⟩ b).heap[k]? = some (.cells #[a, b] 43 (0, 0)) :=
  heap_setCell_same _ k 1 _ 43 b (heap_setCell_same W k 0 _ 43 a h)
theorem two_st (W : World) (k : Nat) (a b : Value) : St (fun x => x = k) W ((W.setCell ⟨k, 0, none⟩ a).setCell ⟨k, 1, none⟩ b) :=
  (St.setCell (S := fun x => x = k) (p := ⟨k, 0, none⟩) a rfl).trans (St.setCell (S := fun x => x = k) (p := ⟨k, 1, none⟩) b rfl) fun _ _ q => q
theorem errat_er {Ad : Nat → Addr} {W : World} {t : TypeId} {q : Value} {b : ByteArray} {k : Nat} (h0 : k ≠ 0) (h : ErrAt Ad W (.iface t q) b k) : Er Ad W (.iface t q) k := .inr ⟨h0, t, q, rfl, 1, [b], h⟩
theorem Er.zero {Ad : Nat → Addr} {W : World} {v : Value} (h : Er Ad W v 0) : v = .nilIface := h.elim (fun q => q.2) fun q => absurd rfl q.1
theorem ro_st' {S : Nat → Prop} {a b : World} (h : Ro.St S a b) : St S a b := ⟨h.os, h.tape, h.output, h.size, h.block⟩
set_option maxHeartbeats 1600000 in
set_option maxRecDepth 100000 in
theorem spawn_nil (Ad : Nat → Addr) (W : World) (hE : Env8 W Ad) (v : Value) :
    Calls Tryz.prog 16 #[.pointer none, v] W fun e W' => ∃ r, e = .returned (.tuple #[.agg #[.int .i64 0, .int .i64 0], r]) ∧ Er Ad W' r 2 ∧ Below W.heap.size W W' := by
  obtain ⟨w1, hw1⟩ : ∃ w1, w1 = W.alloc (.cells #[.int .i64 0, .int .i64 0] 43) := ⟨_, rfl⟩
  have b1 : Below W.heap.size W w1 := by rw [hw1]; exact bAl _ _
  have r1 : w1.heap[W.heap.size]? = some (.cells #[.int .i64 0, .int .i64 0] 43 (0, 0)) := by rw [hw1]; exact heap_alloc_new W _
  have c2 := e2 (hE.later b1)
  have AC := hid (fun str => at_err Ad str _ 2 0 w1 (err_leaf Ad _ 2 (by decide)))
  have HW1 := hid hw1
  have B1 := hid b1
  have R1 := hid r1
  clear hw1 b1 hE r1
  go_enter Tryz.func16, Tryz.ntmps16
  go_upto_region 1 with fail
  rw [← HW1.out]
  go_wp2_with fail
  refine (AC.out _).mono ?_
  rintro e w2 ⟨t, q, rfl, hv, hb⟩
  have HV := hid hv
  have B2 := hid (B1.out.trans (hb.mono B1.out.size))
  have R2 := hid (blk_seen hb (Nat.le_refl _) R1.out)
  have d0 := cell_blk R2.out (j := 0) rfl
  have d1 := cell_blk R2.out (j := 1) rfl
  have f0 := blk_free R2.out 0
  have f1 := blk_free R2.out 1
  have PS := hid (two_st w2 W.heap.size (.int .i64 0) (.int .i64 0))
  have PB := hid (zero_ent R2.out (.int .i64 0) (.int .i64 0))
  clear hv hb AC
  go_wp2_with fail
  have hsame : (w2.setCell ⟨W.heap.size, 0, none⟩ (.int .i64 0)).setCell ⟨W.heap.size, 1, none⟩ (.int .i64 0) = w2 := by
    rw [Co.set_same R2.out rfl, Co.set_same R2.out rfl]
  rw [hsame]
  exact bodyPost_ret (v := .tuple #[.agg #[.int .i64 0, .int .i64 0], .iface t q]) (by simp [results, Tryz.results16, go_sem, d0, d1]) rfl ⟨_, rfl, Er.of (by decide) HV.out, B2.out⟩
set_option maxHeartbeats 1600000 in
set_option maxRecDepth 100000 in
theorem spawn_bad (Ad : Nat → Addr) {B : Nat} {W : World} {sb : Nat} {c : CV} {s : SD} (h : Sto none B W sb c s) (hE : Env8 W Ad) {v : Value} {l : List Prt} (hv : PRow W v l) (hl : l.length ≤ 90) (hc : chkL s.ws l ≠ 0) :
    Calls Tryz.prog 16 #[.pointer (some ⟨sb, 0, none⟩), v] W fun e W' => ∃ r, e = .returned (.tuple #[.agg #[.int .i64 0, .int .i64 0], r]) ∧ Er Ad W' r (chkL s.ws l) ∧ Below W.heap.size W W' := by
  obtain ⟨w1, hw1⟩ : ∃ w1, w1 = W.alloc (.cells #[.int .i64 0, .int .i64 0] 43) := ⟨_, rfl⟩
  have b1 : Below W.heap.size W w1 := by rw [hw1]; exact bAl _ _
  have r1 : w1.heap[W.heap.size]? = some (.cells #[.int .i64 0, .int .i64 0] 43 (0, 0)) := by rw [hw1]; exact heap_alloc_new W _
  have CK := hid (checkAll_any Ad (h.later b1) (hE.later b1) (hv.later b1) hl)
  have HW1 := hid hw1
  have B1 := hid b1
  have R1 := hid r1
  generalize chkL s.ws l = k at *
  clear hw1 b1 hE r1 h hv
  go_enter Tryz.func16, Tryz.ntmps16
  go_upto_region 1 with fail
  rw [← HW1.out]
  go_wp2_with fail
  refine CK.out.mono ?_
  rintro e w2 ⟨r, rfl, q1, q2⟩
  rcases q1 with ⟨q1, -⟩ | ⟨-, t, q, rfl, d, hd⟩
  · exact absurd q1 hc
  have AC := hid (fun str => at_err Ad str _ k d w2 hd)
  have B2 := hid (B1.out.trans (q2.mono B1.out.size))
  have R2 := hid (blk_seen q2 (Nat.le_refl _) R1.out)
  clear q2 hd CK R1
  go_wp2_with fail
  refine (AC.out _).mono ?_
  rintro e w3 ⟨t3, q3, rfl, hv3, hb3⟩
  have HV := hid hv3
  have B3 := hid (B2.out.trans (hb3.mono B2.out.size))
  have R3 := hid (blk_seen hb3 (Nat.le_refl _) R2.out)
  have d0 := cell_blk R3.out (j := 0) rfl
  have d1 := cell_blk R3.out (j := 1) rfl
  have f0 := blk_free R3.out 0
  have f1 := blk_free R3.out 1
  clear hv3 hb3 AC R2 B2
  go_wp2_with fail
  have hsame : (w3.setCell ⟨W.heap.size, 0, none⟩ (.int .i64 0)).setCell ⟨W.heap.size, 1, none⟩ (.int .i64 0) = w3 := by
    rw [Co.set_same R3.out rfl, Co.set_same R3.out rfl]
  rw [hsame]
  exact bodyPost_ret (v := .tuple #[.agg #[.int .i64 0, .int .i64 0], .iface t3 q3]) (by simp [results, Tryz.results16, go_sem, d0, d1]) rfl ⟨_, rfl, Er.of hc HV.out, B3.out⟩
set_option maxHeartbeats 1600000 in
set_option maxRecDepth 100000 in
theorem spawn_full (Ad : Nat → Addr) {B : Nat} {W : World} {sb : Nat} {c : CV} {s : SD} (h : Sto none B W sb c s) (hE : Env8 W Ad) {v : Value} {l : List Prt} (hv : PRow W v l) (hl : l.length ≤ 90) (hc : chkL s.ws l = 0) (hf : s.r.free = []) :
    Calls Tryz.prog 16 #[.pointer (some ⟨sb, 0, none⟩), v] W fun e W' => ∃ r, e = .returned (.tuple #[.agg #[.int .i64 0, .int .i64 0], r]) ∧ Er Ad W' r 6 ∧ Below W.heap.size W W' := by
  obtain ⟨w1, hw1⟩ : ∃ w1, w1 = W.alloc (.cells #[.int .i64 0, .int .i64 0] 43) := ⟨_, rfl⟩
  have b1 : Below W.heap.size W w1 := by rw [hw1]; exact bAl _ _
  have r1 : w1.heap[W.heap.size]? = some (.cells #[.int .i64 0, .int .i64 0] 43 (0, 0)) := by rw [hw1]; exact heap_alloc_new W _
  have CK := hid (checkAll_any Ad (h.later b1) (hE.later b1) (hv.later b1) hl)
  rw [hc] at CK
  have H1 := hid (h.later b1)
  have HE := hid (hE.later b1)
  have HW1 := hid hw1
  have B1 := hid b1
  have R1 := hid r1
  clear hw1 b1 hE r1 h hv
  go_enter Tryz.func16, Tryz.ntmps16
  go_upto_region 1 with fail
  rw [← HW1.out]
  go_wp2_with fail
  refine CK.out.mono ?_
  rintro e w2 ⟨r, rfl, q1, q2⟩
  obtain rfl := q1.zero
  have H2 := hid (H1.out.later q2)
  have c3 := H2.out.c3
  have TK := hid (Ro.rol_full Ad H2.out.rol (Env8.four (HE.out.later q2)) hf)
  have B2 := hid (B1.out.trans (q2.mono B1.out.size))
  have R2 := hid (blk_seen q2 (Nat.le_refl _) R1.out)
  clear q2 CK R1 hf
  go_wp2_with fail
  refine TK.out.mono ?_
  rintro e w3 ⟨b, rfl, hbb, hv3, hb3⟩
  obtain ⟨w4, hw4⟩ : ∃ w4, w4 = w3.alloc (.cells #[.int .i64 0, .int .i64 0] 43) := ⟨_, rfl⟩
  have b4 : Below w3.heap.size w3 w4 := by rw [hw4]; exact bAl _ _
  have AC := hid (fun str => at_er Ad str _ 6 w4 ((errat_er (by decide) hv3).later b4))
  have B4 := hid ((B2.out.trans (hb3.mono B2.out.size)).trans (b4.mono (Nat.le_trans B2.out.size hb3.size)))
  have R4 := hid (blk_seen b4 (Nat.le_refl _) (blk_seen hb3 (Nat.le_refl _) R2.out))
  have HW4 := hid hw4
  clear hv3 hb3 b4 hw4 TK c3
  go_upto_region 7 with fail
  rw [← HW4.out]
  go_wp2_with fail
  refine (AC.out _).mono ?_
  rintro e w5 ⟨r5, rfl, hv5, hb5⟩
  have HV := hid hv5
  have B5 := hid (B4.out.trans (hb5.mono B4.out.size))
  have R5 := hid (blk_seen hb5 (Nat.le_refl _) R4.out)
  have d0 := cell_blk R5.out (j := 0) rfl
  have d1 := cell_blk R5.out (j := 1) rfl
  have f0 := blk_free R5.out 0
  have f1 := blk_free R5.out 1
  clear hv5 hb5 AC R4 B4
  go_wp2_with fail
  have hsame : (w5.setCell ⟨W.heap.size, 0, none⟩ (.int .i64 0)).setCell ⟨W.heap.size, 1, none⟩ (.int .i64 0) = w5 := by
    rw [Co.set_same R5.out rfl, Co.set_same R5.out rfl]
  rw [hsame]
  exact bodyPost_ret (v := .tuple #[.agg #[.int .i64 0, .int .i64 0], r5]) (by simp [results, Tryz.results16, go_sem, d0, d1]) rfl ⟨_, rfl, HV.out, B5.out⟩
set_option maxHeartbeats 3200000 in
set_option maxRecDepth 100000 in
theorem spawn_ok (Ad : Nat → Addr) {B : Nat} {W : World} {sb : Nat} {c : CV} {s : SD} (h : Sto none B W sb c s) (hE : Env8 W Ad) {v : Value} {l : List Prt} (hv : PRowOut (fun k => c.f k ≠ (0, 0, 0)) W v l) (hl : l.length ≤ 90) (hc : chkL s.ws l = 0) (hti : ∀ p ∈ l, I64 p.t) {f : List Nat} {i : Nat} (hf : s.r.free = f ++ [i]) (ht : c.t ≤ 1000) :
    Calls Tryz.prog 16 #[.pointer (some ⟨sb, 0, none⟩), v] W fun e W' => e = .returned (.tuple #[.agg #[.int .i64 (i : Int), .int .i64 ((s.r.gens.getD i 0 + 1 : Nat) : Int)], .nilIface]) ∧ ∃ c', Sto none B W' sb c' (entered { s with r := s.r.took i } i (sortP l)) ∧ c'.t = c.t + 1 ∧ Gw c c' W W' := by
  obtain ⟨w1, hw1⟩ : ∃ w1, w1 = W.alloc (.cells #[.int .i64 0, .int .i64 0] 43) := ⟨_, rfl⟩
  have b1 : Below W.heap.size W w1 := by rw [hw1]; exact bAl _ _
  have r1 : w1.heap[W.heap.size]? = some (.cells #[.int .i64 0, .int .i64 0] 43 (0, 0)) := by rw [hw1]; exact heap_alloc_new W _
  have CK := hid (checkAll_any Ad (h.later b1) (hE.later b1) (hv.row.later b1) hl)
  rw [hc] at CK
  have H := hid h
  have HW1 := hid hw1
  have B1 := hid b1
  have R1 := hid r1
  have HV := hid hv.more
  have HF := hid hf
  have HO := hid (sort_ok hc hti)
  clear hw1 b1 hE r1 h hv hf hc hti
  go_enter Tryz.func16, Tryz.ntmps16
  go_upto_region 1 with fail
  rw [← HW1.out]
  go_wp2_with fail
  refine CK.out.mono ?_
  rintro e w2 ⟨r, rfl, q1, q2⟩
  obtain rfl := q1.zero
  have B2 := hid (B1.out.trans (q2.mono B1.out.size))
  have H2 := hid (H.out.later B2.out)
  have c3 := H2.out.c3
  have TK := hid (Ro.rol_take H2.out.rol HF.out ht)
  have R2 := hid (blk_seen q2 (Nat.le_refl _) R1.out)
  clear q2 CK R1
  go_wp2_with fail
  refine TK.out.mono ?_
  rintro e w3 ⟨rfl, hr3, hs3⟩
  have hs3' := ro_st' hs3
  obtain ⟨f3, h3, g3⟩ := H2.out.roll hr3 hs3' (fun k hk => .inl hk) (H2.out.lk.take H.out.rol.ok HF.out) (by have := H.out.small; omega)
  obtain ⟨gn, hgn⟩ : ∃ gn : Nat, gn = s.r.gens.getD i 0 + 1 := ⟨_, rfl⟩
  have hgi : ((s.r.gens.getD i 0 : Nat) : Int) + 1 = (gn : Int) := by rw [hgn]; simp
  rw [hgi]
  have G3 := (Gw.of_below (c := c) B2.out).trans g3
  have hal : al { s with r := s.r.took i } i gn := (al_took H.out.rol.ok HF.out i gn).2 (.inl ⟨rfl, hgn⟩)
  have O3 : Hid (f3 W.heap.size = (0, 0, 0)) := Classical.byContradiction fun q => by
    rcases g3.new _ q with q | q
    · have := (H.out.lt _ q).2; omega
    · have := (Array.getElem?_eq_some_iff.1 R2.out).1; omega
  have x3 : w3.heap[W.heap.size]? = some (.cells #[.int .i64 0, .int .i64 0] 43 (0, 0)) := g3.st.at R2.out fun q => by have := (H.out.lt _ q).2; omega
  have v3 := (HV.out.kept (T := fun _ => False) (St.of_below B2.out) fun _ q => q.elim).kept g3.st fun k q => .inl q
  obtain ⟨w4, hw4⟩ : ∃ w4, w4 = w3.alloc (.cells #[.int .i64 (i : Int), .int .i64 (gn : Int)] 43) := ⟨_, rfl⟩
  have b4 : Below w3.heap.size w3 w4 := by rw [hw4]; exact bAl _ _
  have r4 : w4.heap[w3.heap.size]? = some (.cells #[.int .i64 (i : Int), .int .i64 (gn : Int)] 43 (0, 0)) := by rw [hw4]; exact heap_alloc_new w3 _
  have EN := hid (enter_any (h3.later b4) hal ((v3.kept (T := fun _ => False) (St.of_below b4) fun _ q => q.elim).mono fun k q => G3.new k q) (sort_perm l) HO.out)
  have H3 := hid h3
  have GG3 := hid (G3.trans (Gw.of_below b4))
  have X4 := hid (blk_seen b4 (Nat.le_refl _) x3)
  have R4 := hid r4
  have HW4 := hid hw4
  have HGN := hid hgn
  have y0 := cell_blk r4 (j := 0) rfl
  have y1 := cell_blk r4 (j := 1) rfl
  have hW3 : W.heap.size < w3.heap.size := (Array.getElem?_eq_some_iff.1 x3).1
  clear hr3 hs3 hs3' h3 g3 hgn hgi G3 hal x3 v3 b4 r4 hw4 TK c3 R2
  go_upto_region 7 with fail
  rw [← HW4.out]
  go_wp2_with fail
  refine EN.out.mono ?_
  rintro e w5 ⟨rfl, c5, h5, t5, g5⟩
  have G5 := hid (GG3.out.trans g5)
  have H5 := hid h5
  have T5 := hid t5
  have x5 : w5.heap[W.heap.size]? = some (.cells #[.int .i64 0, .int .i64 0] 43 (0, 0)) := g5.st.at X4.out fun q => q O3.out
  have r5 : w5.heap[w3.heap.size]? = some (.cells #[.int .i64 (i : Int), .int .i64 (gn : Int)] 43 (0, 0)) := g5.st.at R4.out fun q => by have := (H3.out.lt _ q).2; omega
  have X5 := hid x5
  have z0 := cell_blk r5 (j := 0) rfl
  have z1 := cell_blk r5 (j := 1) rfl
  have d0 := cell_blk x5 (j := 0) rfl
  have d1 := cell_blk x5 (j := 1) rfl
  have f0 := blk_free x5 0
  have f1 := blk_free x5 1
  have hne : ¬ (w3.heap.size = W.heap.size) := by omega
  have PS := hid (two_st w5 W.heap.size (.int .i64 (i : Int)) (.int .i64 (gn : Int)))
  have PB := hid (zero_ent x5 (.int .i64 (i : Int)) (.int .i64 (gn : Int)))
  have O5 : Hid (c5.f W.heap.size = (0, 0, 0)) := Classical.byContradiction fun q => by
    rcases g5.new _ q with q | q
    · exact q O3.out
    · have := (Array.getElem?_eq_some_iff.1 X4.out).1; omega
  clear h5 t5 g5 x5 r5 EN
  go_wp2_with fail
  obtain ⟨w6, hw6⟩ : ∃ w6, w6 = (w5.setCell ⟨W.heap.size, 0, none⟩ (.int .i64 (i : Int))).setCell ⟨W.heap.size, 1, none⟩ (.int .i64 (gn : Int)) := ⟨_, rfl⟩
  rw [← hw6] at PS PB ⊢
  have t0 := cell_blk PB.out (j := 0) rfl
  have t1 := cell_blk PB.out (j := 1) rfl
  have hk : ∀ k, c5.f k ≠ (0, 0, 0) → ¬ k = W.heap.size := fun k q e => q (by rw [e]; exact O5.out)
  refine bodyPost_ret (v := .tuple #[.agg #[.int .i64 (i : Int), .int .i64 (gn : Int)], .nilIface]) (by simp [results, Tryz.results16, go_sem, t0, t1]) rfl ⟨by rw [HGN.out], c5, H5.out.keep PS.out hk, T5.out, ?_⟩
  refine ⟨G5.out.st.trans PS.out fun k hk' e => ?_, G5.out.new⟩
  omega
end Go.Proofs.YtagjmggiaffihaaGreatDoor.So
namespace Go.Proofs.YtagjmggiaffihaaGreatDoor.So
open Go.RowKit Go.Shelf Go.Maps
open Go.Proofs.YtagjmggiaffihaaGreatDoor.Co (I64 Pt Col CS I64_mid)
open Go.Proofs.YtagjmggiaffihaaGreatDoor.At (St bAl cell_blk blk_seen blk_free Ints Err at_err err_leaf wi add lst lst_mem)
open Go.Proofs.YtagjmggiaffihaaGreatDoor.Ro (RS ErrAt)
open Go.Proofs.YtagjmggiaffihaaGreatDoor.Rs (Prt SD okL okW fitP PRow mskP Six Prts)
section
variable {ex : Option Nat} {B : Nat} {W : World} {sb : Nat} {c : CV} {s : SD}
set_option maxHeartbeats 800000 in
theorem scount_any (h : Sto ex B W sb c s) : Calls Tryz.prog 35 #[.pointer (some ⟨sb, 0, none⟩)] W fun e W' => e = .returned (.int .i64 (s.r.count : Int)) ∧ W' = W := by
  have c3 := h.c3
  have CN := hid (Ro.rol_count h.rol)
  clear h
  go_enter Tryz.func35, Tryz.ntmps35
  go_wp2_with fail
  refine CN.out.mono ?_
  rintro e w1 ⟨rfl, rfl⟩
  go_wp2_with fail
  go_ret
  exact ⟨rfl, rfl⟩
set_option maxHeartbeats 800000 in
theorem atl_len {rb : Nat} {a : At.AS} {S : Nat → Prop} (h : At.Atl B W rb a S) : Calls Tryz.prog 92 #[.pointer (some ⟨rb, 0, none⟩)] W fun e W' => e = .returned (.int .i64 (a.l.length : Int)) ∧ W' = W := by
  obtain ⟨ga, gc, c1⟩ := h.c1
  clear h
  go_enter Tryz.func92, Tryz.ntmps92
  go_wp2_with fail
  go_ret
  exact ⟨rfl, rfl⟩
set_option maxHeartbeats 800000 in
theorem tables_any (h : Sto ex B W sb c s) : Calls Tryz.prog 37 #[.pointer (some ⟨sb, 0, none⟩)] W fun e W' => e = .returned (.int .i64 (s.sets.length : Int)) ∧ W' = W := by
  have c1 := h.c1
  have CN := hid (atl_len h.atl)
  clear h
  go_enter Tryz.func37, Tryz.ntmps37
  go_wp2_with fail
  refine CN.out.mono ?_
  rintro e w1 ⟨rfl, rfl⟩
  go_wp2_with fail
  go_ret
  exact ⟨rfl, rfl⟩
set_option maxHeartbeats 1600000 in
set_option maxRecDepth 100000 in
theorem alive_any (h : Sto ex B W sb c s) (i g : Int) (hi : I64 i) (hg : I64 g) : Calls Tryz.prog 40 #[.pointer (some ⟨sb, 0, none⟩), .agg #[.int .i64 i, .int .i64 g]] W fun e W' => e = .returned (.bool (s.r.aliveB i g)) ∧ Below W.heap.size W W' := by
  obtain ⟨w1, hw1⟩ : ∃ w1, w1 = W.alloc (.cells #[.int .i64 i, .int .i64 g] 43) := ⟨_, rfl⟩
  have b1 : Below W.heap.size W w1 := by rw [hw1]; exact bAl _ _
  have r1 : w1.heap[W.heap.size]? = some (.cells #[.int .i64 i, .int .i64 g] 43 (0, 0)) := by rw [hw1]; exact heap_alloc_new W _
  have KK : Hid (∀ W', Below w1.heap.size w1 W' → W'.cell? ⟨sb, 3, none⟩ = some (.pointer (some ⟨c.rb, 0, none⟩)) ∧ W'.cell? ⟨W.heap.size, 0, none⟩ = some (.int .i64 i) ∧ W'.cell? ⟨W.heap.size, 1, none⟩ = some (.int .i64 g)) := fun W' hb =>
    ⟨((h.later b1).later hb).c3, cell_blk (blk_seen hb (Nat.le_refl _) r1) rfl, cell_blk (blk_seen hb (Nat.le_refl _) r1) rfl⟩
  have AL : Hid (∀ W', Below w1.heap.size w1 W' → Calls Tryz.prog 95 #[.pointer (some ⟨c.rb, 0, none⟩), .agg #[.int .i64 i, .int .i64 g]] W' fun e W2 => e = .returned (.bool (s.r.aliveB i g)) ∧ Below w1.heap.size w1 W2) := fun W' hb =>
    (Ro.rol_alive ((h.later b1).later hb).rol i g hi hg).mono fun e W2 ⟨q1, q2⟩ => ⟨q1, hb.trans (q2.mono hb.size)⟩
  have HW1 := hid hw1
  have B1 := hid b1
  generalize s.r.aliveB i g = ab at *
  clear hw1 b1 r1 h hi hg
  go_enter Tryz.func40, Tryz.ntmps40
  go_upto_region 1 with fail
  rw [← HW1.out]
  go_region_held3 (fun W' => W'.cell? ⟨sb, 3, none⟩ = some (.pointer (some ⟨c.rb, 0, none⟩)) ∧ W'.cell? ⟨W.heap.size, 0, none⟩ = some (.int .i64 i) ∧ W'.cell? ⟨W.heap.size, 1, none⟩ = some (.int .i64 g)) (first | exact KK.out _ (Below.refl _ _).drew | exact KK.out _ (Below.refl _ _) | exact KK.out _ B2.out)
    ((go_at_call 95; refine (AL.out _ (by first | exact (Below.refl _ _).drew | exact Below.refl _ _)).mono ?_; rintro e w2 ⟨rfl, hb2⟩; have B2 := hid hb2; clear hb2))
  have B3 := hid (B1.out.trans (B2.out.mono B1.out.size))
  clear B2 KK AL
  go_wp2_with fail
  go_ret
  exact ⟨rfl, B3.out⟩
end
/-- find tells that there is nothing. -/
def NoFind (Ad : Nat → Addr) (W : World) (rv : Value) (i g : Int) (k : Nat) : Prop := ∀ W', Below W.heap.size W W' → Calls Tryz.prog 72 #[rv, .agg #[.int .i64 i, .int .i64 g]] W' fun e W2 => e = .returned (.tuple #[.pointer none, .int .i64 0, .iface 278 (.pointer (some (Ad k)))]) ∧ Below W'.heap.size W' W2
theorem nofind_nil (Ad : Nat → Addr) (W : World) (hE : Env8 W Ad) (i g : Int) : NoFind Ad W (.pointer none) i g 2 := fun W' hb => find_nil Ad W' (hE.later hb) i g
theorem nofind_dead (Ad : Nat → Addr) {ex : Option Nat} {B : Nat} {W : World} {sb : Nat} {c : CV} {s : SD} (h : Sto ex B W sb c s) (hE : Env8 W Ad) (i g : Int) (hi : I64 i) (hg : I64 g) (ha : s.r.aliveB i g = false) : NoFind Ad W (.pointer (some ⟨sb, 0, none⟩)) i g 17 := fun _ hb => find_dead Ad (h.later hb) (hE.later hb) i g hi hg ha
theorem NoFind.later {Ad : Nat → Addr} {W W' : World} {rv : Value} {i g : Int} {k : Nat} (h : NoFind Ad W rv i g k) (hb : Below W.heap.size W W') : NoFind Ad W' rv i g k := fun W2 hb2 => h W2 (hb.trans (hb2.mono hb.size))
section
variable {Ad : Nat → Addr} {W : World} {rv : Value} {i g : Int} {k : Nat}
set_option maxHeartbeats 1600000 in
set_option maxRecDepth 100000 in
theorem mask_err (h : NoFind Ad W rv i g k) (hk : 1 ≤ k ∧ k ≤ 18) : Calls Tryz.prog 43 #[rv, .agg #[.int .i64 i, .int .i64 g]] W fun e W' => ∃ r, e = .returned (.tuple #[.int .u32 0, r]) ∧ Er Ad W' r k ∧ Below W.heap.size W W' := by
  obtain ⟨w1, hw1⟩ : ∃ w1, w1 = W.alloc (.cells #[.int .i64 i, .int .i64 g] 43) := ⟨_, rfl⟩
  have b1 : Below W.heap.size W w1 := by rw [hw1]; exact bAl _ _
  have r1 : w1.heap[W.heap.size]? = some (.cells #[.int .i64 i, .int .i64 g] 43 (0, 0)) := by rw [hw1]; exact heap_alloc_new W _
  have d0 := cell_blk r1 (j := 0) rfl
  have d1 := cell_blk r1 (j := 1) rfl
  have FD := hid (h w1 b1)
  have HW1 := hid hw1
  have B1 := hid b1
  clear hw1 b1 r1 h
  go_enter Tryz.func43, Tryz.ntmps43
  go_upto_region 1 with fail
  rw [← HW1.out]
  go_wp2_with fail
  refine FD.out.mono ?_
  rintro e w2 ⟨rfl, hb⟩
  have AC := hid (fun str => at_err Ad str _ k 0 w2 (err_leaf Ad _ k hk))
  have B2 := hid (B1.out.trans (hb.mono B1.out.size))
  clear hb FD
  go_wp2_with fail
  refine (AC.out _).mono ?_
  rintro e w3 ⟨t, q, rfl, hv, hb⟩
  have HV := hid hv
  have B3 := hid (B2.out.trans (hb.mono B2.out.size))
  clear hv hb AC
  go_wp2_with fail
  exact bodyPost_ret (v := .tuple #[.int .u32 0, .iface t q]) (by simp [results, Tryz.results43, go_sem]) rfl ⟨_, rfl, Er.of (by omega) HV.out, B3.out⟩
set_option maxHeartbeats 1600000 in
set_option maxRecDepth 100000 in
theorem parts_err (h : NoFind Ad W rv i g k) (hk : 1 ≤ k ∧ k ≤ 18) : Calls Tryz.prog 42 #[rv, .agg #[.int .i64 i, .int .i64 g]] W fun e W' => ∃ r, e = .returned (.tuple #[.slice none 0 0, r]) ∧ Er Ad W' r k ∧ Below W.heap.size W W' := by
  obtain ⟨w1, hw1⟩ : ∃ w1, w1 = W.alloc (.cells #[.int .i64 i, .int .i64 g] 43) := ⟨_, rfl⟩
  have b1 : Below W.heap.size W w1 := by rw [hw1]; exact bAl _ _
  have r1 : w1.heap[W.heap.size]? = some (.cells #[.int .i64 i, .int .i64 g] 43 (0, 0)) := by rw [hw1]; exact heap_alloc_new W _
  have d0 := cell_blk r1 (j := 0) rfl
  have d1 := cell_blk r1 (j := 1) rfl
  have FD := hid (h w1 b1)
  have HW1 := hid hw1
  have B1 := hid b1
  clear hw1 b1 r1 h
  go_enter Tryz.func42, Tryz.ntmps42
  go_upto_region 1 with fail
  rw [← HW1.out]
  go_wp2_with fail
  refine FD.out.mono ?_
  rintro e w2 ⟨rfl, hb⟩
  obtain ⟨w3, hw3⟩ : ∃ w3, w3 = w2.alloc (.cells #[.int .i64 0] 3) := ⟨_, rfl⟩
  have b3 : Below w2.heap.size w2 w3 := by rw [hw3]; exact bAl _ _
  have AC := hid (fun str => at_err Ad str _ k 0 w3 (err_leaf Ad _ k hk))
  have B3 := hid ((B1.out.trans (hb.mono B1.out.size)).trans (b3.mono (Nat.le_trans B1.out.size hb.size)))
  have HW3 := hid hw3
  clear hb FD b3 hw3
  go_upto_region 2 with fail
  rw [← HW3.out]
  go_wp2_with fail
  refine (AC.out _).mono ?_
  rintro e w4 ⟨t, q, rfl, hv, hb⟩
  have HV := hid hv
  have B4 := hid (B3.out.trans (hb.mono B3.out.size))
  clear hv hb AC
  go_wp2_with fail
  exact bodyPost_ret (v := .tuple #[.slice none 0 0, .iface t q]) (by simp [results, Tryz.results42, go_sem]) rfl ⟨_, rfl, Er.of (by omega) HV.out, B4.out⟩
set_option maxHeartbeats 1600000 in
set_option maxRecDepth 100000 in
theorem despawn_err (h : NoFind Ad W rv i g k) (hk : 1 ≤ k ∧ k ≤ 18) : Calls Tryz.prog 18 #[rv, .agg #[.int .i64 i, .int .i64 g]] W fun e W' => ∃ r, e = .returned (.tuple #[.slice none 0 0, r]) ∧ Er Ad W' r k ∧ Below W.heap.size W W' := by
  obtain ⟨w1, hw1⟩ : ∃ w1, w1 = W.alloc (.cells #[.int .i64 i, .int .i64 g] 43) := ⟨_, rfl⟩
  have b1 : Below W.heap.size W w1 := by rw [hw1]; exact bAl _ _
  have r1 : w1.heap[W.heap.size]? = some (.cells #[.int .i64 i, .int .i64 g] 43 (0, 0)) := by rw [hw1]; exact heap_alloc_new W _
  have d0 := cell_blk r1 (j := 0) rfl
  have d1 := cell_blk r1 (j := 1) rfl
  have FD := hid (h w1 b1)
  have HW1 := hid hw1
  have B1 := hid b1
  clear hw1 b1 r1 h
  go_enter Tryz.func18, Tryz.ntmps18
  go_upto_region 1 with fail
  rw [← HW1.out]
  go_wp2_with fail
  refine FD.out.mono ?_
  rintro e w2 ⟨rfl, hb⟩
  have AC := hid (fun str => at_err Ad str _ k 0 w2 (err_leaf Ad _ k hk))
  have B2 := hid (B1.out.trans (hb.mono B1.out.size))
  clear hb FD
  go_wp2_with fail
  refine (AC.out _).mono ?_
  rintro e w3 ⟨t, q, rfl, hv, hb⟩
  have HV := hid hv
  have B3 := hid (B2.out.trans (hb.mono B2.out.size))
  clear hv hb AC
  go_wp2_with fail
  exact bodyPost_ret (v := .tuple #[.slice none 0 0, .iface t q]) (by simp [results, Tryz.results18, go_sem]) rfl ⟨_, rfl, Er.of (by omega) HV.out, B3.out⟩
end
end Go.Proofs.YtagjmggiaffihaaGreatDoor.So
namespace Go.Proofs.YtagjmggiaffihaaGreatDoor.So
open Go.RowKit Go.Shelf Go.Maps
open Go.Proofs.YtagjmggiaffihaaGreatDoor.Co (I64 Pt Col CS I64_mid)
open Go.Proofs.YtagjmggiaffihaaGreatDoor.At (St bAl cell_blk blk_seen blk_free Ints Err at_err err_leaf wi add lst lst_mem)
open Go.Proofs.YtagjmggiaffihaaGreatDoor.Ro (RS ErrAt)
open Go.Proofs.YtagjmggiaffihaaGreatDoor.Rs (Prt SD okL okW fitP PRow mskP Six Prts)
theorem enters97 : ∀ args w, (callFunc 97 args).run Tryz.prog w = .ok (.enter 97 args) w := enters_of Tryz.func97 (by kernel_rfl) rfl
section
variable {B : Nat} {W : World} {sb : Nat} {c : CV} {s : SD}
/-- The table in which one stands. -/
theorem Sto.tabOf {ex : Option Nat} (h : Sto ex B W sb c s) {i g n j m : Nat} {own : List (Nat × Nat)} {y : Nat × Nat} (A : At1 c s i g n j m own y) : Tb B W c.f n (c.tv n) m s.ws own (rowsOf s own) := by
  obtain ⟨m', q1, q2⟩ := h.tabs n own A.tab
  rw [A.set] at q1
  obtain rfl : m = m' := by simpa using q1
  exact q2
theorem Sto.m16 {ex : Option Nat} (h : Sto ex B W sb c s) {i g n j m : Nat} {own : List (Nat × Nat)} {y : Nat × Nat} (A : At1 c s i g n j m own y) : m < 65536 := by
  have := h.atl.ok.u16 (List.mem_of_getElem? A.set)
  exact this
set_option maxHeartbeats 1600000 in
set_option maxRecDepth 100000 in
theorem mask_ok {i g : Nat} (h : Sto none B W sb c s) (ha : al s i g) : Calls Tryz.prog 43 #[.pointer (some ⟨sb, 0, none⟩), .agg #[.int .i64 (i : Int), .int .i64 (g : Int)]] W fun e W' => e = .returned (.tuple #[.int .u32 (mskP (s.at i) : Int), .nilIface]) ∧ Below W.heap.size W W' := by
  obtain ⟨n, j, m, own, y, A⟩ := h.stands ha (by simp)
  obtain ⟨w1, hw1⟩ : ∃ w1, w1 = W.alloc (.cells #[.int .i64 (i : Int), .int .i64 (g : Int)] 43) := ⟨_, rfl⟩
  have b1 : Below W.heap.size W w1 := by rw [hw1]; exact bAl _ _
  have r1 : w1.heap[W.heap.size]? = some (.cells #[.int .i64 (i : Int), .int .i64 (g : Int)] 43 (0, 0)) := by rw [hw1]; exact heap_alloc_new W _
  have d0 := cell_blk r1 (j := 0) rfl
  have d1 := cell_blk r1 (j := 1) rfl
  have h1 := h.later b1
  have FD := hid (find_some h1 ha A)
  have TB := hid (h1.tabOf A)
  have HW1 := hid hw1
  have B1 := hid b1
  have HM := hid A.msk
  rw [← A.msk]
  obtain ⟨x, hx⟩ : ∃ x, x = c.tv n := ⟨_, rfl⟩
  rw [← hx] at FD TB
  clear hw1 b1 r1 h h1 ha A hx
  go_enter Tryz.func43, Tryz.ntmps43
  go_upto_region 1 with fail
  rw [← HW1.out]
  go_wp2_with fail
  refine FD.out.mono ?_
  rintro e w2 ⟨rfl, hb⟩
  have t0 := (TB.out.later hb).c0
  have B2 := hid (B1.out.trans (hb.mono B1.out.size))
  clear hb FD
  go_wp2_with fail
  exact bodyPost_ret (v := .tuple #[.int .u32 (m : Int), .nilIface]) (by simp [results, Tryz.results43, go_sem]) rfl ⟨rfl, B2.out⟩
theorem reading {f : Nat → Nat × Nat × Nat} {n : Nat} {x : TV} {m : Nat} {ws : List Nat} {own : List (Nat × Nat)} {rows : Nat → List Pt} (h : Tb B W f n x m ws own rows) (hm : m < 65536) (j xb : Nat) (hj : j < own.length) (hrows : ∀ c, m.testBit c = true → (rows c).length = own.length) (hlt : ∀ k, f k ≠ (0, 0, 0) → k < W.heap.size)
    (hx : W.heap[xb]? = some (.cells #[.int .i64 (j : Int)] 3 (0, 0))) :
    Calls Tryz.prog 96 #[.pointer (some ⟨x.tb, 0, none⟩), .func (.func 97) #[] #[.pointer (some ⟨xb, 0, none⟩)]] W fun e W' => ∃ v, e = .returned v ∧ Prts W.heap.size W' v ((lst 32 m).map fun c => mk c ((rows c).getD j Pt.zero)) ∧ Below W.heap.size W W' := by
  have hc16 : ∀ c, m.testBit c = true → c < 16 := fun c hc => Nat.lt_of_not_le fun q => by
    rw [At.bit_out (n := 16) hm q] at hc
    cases hc
  refine (each_any 97 #[.pointer (some ⟨xb, 0, none⟩)] enters97 x.tb x.cm m x.cb (fun c => mk c ((rows c).getD j Pt.zero)) (fun _ w => Tb B w f n x m ws own rows ∧ w.heap[xb]? = some (.cells #[.int .i64 (j : Int)] 3 (0, 0)) ∧ Below W.heap.size W w) hm ⟨h, hx, Below.refl _ _⟩ h.c0 ?_ ?_ ?_ ?_).mono fun e W' ⟨v, q1, q2, q3, q4⟩ => ⟨v, q1, q2, q3.2.2⟩
  · rintro k w w' ⟨k1, k2, k3⟩ hb
    exact ⟨k1.later hb, blk_seen hb (Nat.le_refl _) k2, k3.trans (hb.mono k3.size)⟩
  · rintro k w ⟨k1, k2, k3⟩
    refine ⟨k1.c2, fun c hc => ?_⟩
    have := k1.look (c : Int) (I64_mid (by omega) (by have := hc16 c hc; omega))
    rw [lk_nat] at this
    unfold colMap at this
    rw [if_pos hc] at this
    exact this
  · rintro k w w' lv q ⟨k1, k2, k3⟩ hw hp hs
    have hlv : ∀ y, lv.ownBlock = some y → W.heap.size ≤ y := fun y hy => (hp.lt y hy).1
    have hxl := (Array.getElem?_eq_some_iff.1 hx).1
    refine ⟨k1.move hs (fun y hy e => ?_) fun _ _ _ => Iff.rfl, hs.at k2 fun e => ?_, k3.trans (hs.below hlv hw)⟩
    · have := hlv y e
      have := hlt y (cls_ne hy).1
      omega
    · have := hlv _ e; omega
  · rintro k c w hc ⟨k1, k2, k3⟩ hw
    have hcb := ((lst_mem m c 32).1 (List.mem_of_getElem? hc)).2
    obtain ⟨wd, q1, q2⟩ := k1.col c hcb
    have hl := hrows c hcb
    obtain ⟨p, hp⟩ := at_lt (rows c) j (by omega)
    have ep : (rows c).getD j Pt.zero = p := by rw [List.getD_eq_getElem?_getD, hp]; rfl
    refine (row1_any q2 j p hp xb (cell_blk k2 rfl)).mono ?_
    rintro e w' ⟨rfl, hb⟩
    exact ⟨by rw [ep, mk_val], ⟨k1.later hb, blk_seen hb (Nat.le_refl _) k2, k3.trans (hb.mono k3.size)⟩, St.of_below hb⟩
set_option maxHeartbeats 1600000 in
set_option maxRecDepth 100000 in
theorem parts_ok {i g : Nat} (h : Sto none B W sb c s) (ha : al s i g) : Calls Tryz.prog 42 #[.pointer (some ⟨sb, 0, none⟩), .agg #[.int .i64 (i : Int), .int .i64 (g : Int)]] W fun e W' => ∃ v, e = .returned (.tuple #[v, .nilIface]) ∧ Prts W.heap.size W' v (s.at i) ∧ Below W.heap.size W W' := by
  obtain ⟨n, j, m, own, y, A⟩ := h.stands ha (by simp)
  obtain ⟨w1, hw1⟩ : ∃ w1, w1 = W.alloc (.cells #[.int .i64 (i : Int), .int .i64 (g : Int)] 43) := ⟨_, rfl⟩
  have b1 : Below W.heap.size W w1 := by rw [hw1]; exact bAl _ _
  have r1 : w1.heap[W.heap.size]? = some (.cells #[.int .i64 (i : Int), .int .i64 (g : Int)] 43 (0, 0)) := by rw [hw1]; exact heap_alloc_new W _
  have d0 := cell_blk r1 (j := 0) rfl
  have d1 := cell_blk r1 (j := 1) rfl
  have h1 := h.later b1
  have FD := hid (find_some h1 ha A)
  have TB := hid (h1.tabOf A)
  have HW1 := hid hw1
  have B1 := hid b1
  have AA := hid A
  have H := hid h
  have hm16 := h.m16 A
  obtain ⟨x, hx⟩ : ∃ x, x = c.tv n := ⟨_, rfl⟩
  rw [← hx] at FD TB
  clear hw1 b1 r1 h h1 ha A hx
  go_enter Tryz.func42, Tryz.ntmps42
  go_upto_region 1 with fail
  rw [← HW1.out]
  go_wp2_with fail
  refine FD.out.mono ?_
  rintro e w2 ⟨rfl, hb⟩
  obtain ⟨w3, hw3⟩ : ∃ w3, w3 = w2.alloc (.cells #[.int .i64 (j : Int)] 3) := ⟨_, rfl⟩
  have b3 : Below w2.heap.size w2 w3 := by rw [hw3]; exact bAl _ _
  have r3 : w3.heap[w2.heap.size]? = some (.cells #[.int .i64 (j : Int)] 3 (0, 0)) := by rw [hw3]; exact heap_alloc_new w2 _
  have B3 := hid ((B1.out.trans (hb.mono B1.out.size)).trans (b3.mono (Nat.le_trans B1.out.size hb.size)))
  have hj := (List.getElem?_eq_some_iff.1 AA.out.here).1
  have RD := hid (reading ((TB.out.later hb).later b3) hm16 j w2.heap.size hj (fun q _ => by unfold rowsOf; simp) (fun k hk => Nat.lt_of_lt_of_le (H.out.lt k hk).2 B3.out.size) r3)
  rw [AA.out.msk, parts_left AA.out.ok H.out.okw.1 AA.out.here] at RD
  have HW3 := hid hw3
  clear hb FD b3 hw3 r3
  go_upto_region 2 with fail
  rw [← HW3.out]
  go_wp2_with fail
  refine RD.out.mono ?_
  rintro e w4 ⟨v, rfl, hv, hb⟩
  have HV := hid (hv.lower B3.out.size)
  have B4 := hid (B3.out.trans (hb.mono B3.out.size))
  clear hv hb RD
  go_wp2_with fail
  exact bodyPost_ret (v := .tuple #[v, .nilIface]) (by simp [results, Tryz.results42, go_sem]) rfl ⟨_, rfl, HV.out, B4.out⟩
set_option maxHeartbeats 3200000 in
set_option maxRecDepth 100000 in
theorem despawn_ok {i g : Nat} (h : Sto none B W sb c s) (ha : al s i g) : Calls Tryz.prog 18 #[.pointer (some ⟨sb, 0, none⟩), .agg #[.int .i64 (i : Int), .int .i64 (g : Int)]] W fun e W' => ∃ v, e = .returned (.tuple #[v, .nilIface]) ∧ Prts W.heap.size W' v (s.at i) ∧ ∃ c', Sto none B W' sb c' { s with r := s.r.freed i } ∧ c'.t = c.t ∧ Gw c c' W W' ∧ ∀ k, v.ownBlock = some k → c'.f k = (0, 0, 0) := by
  obtain ⟨n, j, m, own, y, A⟩ := h.stands ha (by simp)
  obtain ⟨w1, hw1⟩ : ∃ w1, w1 = W.alloc (.cells #[.int .i64 (i : Int), .int .i64 (g : Int)] 43) := ⟨_, rfl⟩
  have b1 : Below W.heap.size W w1 := by rw [hw1]; exact bAl _ _
  have r1 : w1.heap[W.heap.size]? = some (.cells #[.int .i64 (i : Int), .int .i64 (g : Int)] 43 (0, 0)) := by rw [hw1]; exact heap_alloc_new W _
  have d0 := cell_blk r1 (j := 0) rfl
  have d1 := cell_blk r1 (j := 1) rfl
  have h1 := h.later b1
  have FD := hid (find_some h1 ha A)
  have HW1 := hid hw1
  have B1 := hid b1
  have R1 := hid r1
  have H := hid h
  have H1 := hid h1
  have HA := hid ha
  have hgI : I64 (g : Int) := by
    have hg := (al_iff s i g).1 ha
    have ho := h.rol.old g (List.mem_of_getElem? hg.2)
    have := h.small
    exact I64_mid (by omega) (by omega)
  have hiI : I64 (i : Int) := by have := al_lt ha; have := h.rol.small; exact I64_mid (by omega) (by omega)
  have HGI := hid hgI
  have HII := hid hiI
  clear hw1 b1 r1 h h1 ha A hgI hiI
  go_enter Tryz.func18, Tryz.ntmps18
  go_upto_region 1 with fail
  rw [← HW1.out]
  go_wp2_with fail
  refine FD.out.mono ?_
  rintro e w2 ⟨rfl, hb⟩
  have B2 := hid (B1.out.trans (hb.mono B1.out.size))
  have r2 := blk_seen hb (Nat.le_refl _) R1.out
  have x0 := cell_blk r2 (j := 0) rfl
  have x1 := cell_blk r2 (j := 1) rfl
  have R2 := hid r2
  have LV := hid (leave_any (H1.out.later hb) HA.out)
  clear hb FD r2 d0 d1
  go_wp2_with fail
  refine LV.out.mono ?_
  rintro e w3 ⟨v, rfl, hv, c3, h3, t3, g3, n3⟩
  have H3 := hid h3
  have T3 := hid t3
  have G3 := hid ((Gw.of_below B2.out).trans g3)
  have hWl : W.heap.size < w2.heap.size := (Array.getElem?_eq_some_iff.1 R2.out).1
  have V3 := hid (hv.lower B2.out.size)
  have r3 : w3.heap[W.heap.size]? = some (.cells #[.int .i64 (i : Int), .int .i64 (g : Int)] 43 (0, 0)) := g3.st.at R2.out fun q => by have := (H.out.lt _ q).2; omega
  have VN : Hid (∀ k, v.ownBlock = some k → ¬ c3.f k ≠ (0, 0, 0)) := fun k hk q => by
    have e1 := (hv.lt k hk).1
    have e2 := (H.out.lt k (n3 k q)).2
    omega
  have R3 := hid r3
  have KK : Hid (∀ W', Below w3.heap.size w3 W' → W'.cell? ⟨sb, 3, none⟩ = some (.pointer (some ⟨c3.rb, 0, none⟩)) ∧ W'.cell? ⟨W.heap.size, 0, none⟩ = some (.int .i64 (i : Int)) ∧ W'.cell? ⟨W.heap.size, 1, none⟩ = some (.int .i64 (g : Int))) := fun W' hb =>
    ⟨(H3.out.later hb).c3, cell_blk (blk_seen hb (Nat.le_refl _) R3.out) rfl, cell_blk (blk_seen hb (Nat.le_refl _) R3.out) rfl⟩
  have O3 : Hid (¬ c3.f W.heap.size ≠ (0, 0, 0)) := fun q => by have := (H.out.lt _ (n3 _ q)).2; omega
  have FR : Hid (∀ W', Below w3.heap.size w3 W' → Calls Tryz.prog 74 #[.pointer (some ⟨c3.rb, 0, none⟩), .agg #[.int .i64 (i : Int), .int .i64 (g : Int)]] W' fun e W2 => e = .returned .nilIface ∧ (∃ c', Sto none B W2 sb c' { s with r := s.r.freed i } ∧ c'.t = c.t ∧ Gw c c' W W2 ∧ ∀ k, v.ownBlock = some k → c'.f k = (0, 0, 0)) ∧ Prts W.heap.size W2 v (s.at i) ∧ W2.cell? ⟨sb, 3, none⟩ = some (.pointer (some ⟨c3.rb, 0, none⟩)) ∧ W2.cell? ⟨W.heap.size, 0, none⟩ = some (.int .i64 (i : Int)) ∧ W2.cell? ⟨W.heap.size, 1, none⟩ = some (.int .i64 (g : Int))) := fun W' hb => by
    have h' := H3.out.later hb
    refine (Ro.rol_free h'.rol i (g : Int) HII.out HGI.out HA.out).mono ?_
    rintro e W2 ⟨rfl, S', q1, q2, q3⟩
    have q2' := ro_st' q2
    obtain ⟨f', k1, k2⟩ := h'.roll q1 q2' q3 (h'.lk.free HA.out) h'.small
    have g' := (G3.out.trans (Gw.of_below hb)).trans k2
    have r' := k2.st.at (blk_seen hb (Nat.le_refl _) R3.out) O3.out
    refine ⟨rfl, ⟨_, k1, T3.out, g', fun k hk => Classical.byContradiction fun q => (k2.new k q).elim (VN.out k hk) fun q' => by have := (V3.out.lt k hk).2; have := hb.size; omega⟩, (V3.out.later hb).kept k2.st VN.out, k1.c3, cell_blk r' rfl, cell_blk r' rfl⟩
  clear hv h3 t3 g3 n3 r3 LV x0 x1
  go_wp2_with fail
  go_region_held3 (fun W' => W'.cell? ⟨sb, 3, none⟩ = some (.pointer (some ⟨c3.rb, 0, none⟩)) ∧ W'.cell? ⟨W.heap.size, 0, none⟩ = some (.int .i64 (i : Int)) ∧ W'.cell? ⟨W.heap.size, 1, none⟩ = some (.int .i64 (g : Int))) (first | exact KK.out _ (Below.refl _ _).drew | exact KK.out _ (Below.refl _ _) | exact K4.out)
    ((go_at_call 74; refine (FR.out _ (by first | exact (Below.refl _ _).drew | exact Below.refl _ _)).mono ?_; rintro e w4 ⟨rfl, hc4, hv4, hk4⟩; have K4 := hid hk4; have C4 := hid hc4; have V4 := hid hv4; clear hk4 hc4 hv4))
  clear K4 KK FR
  go_wp2_with fail
  exact bodyPost_ret (v := .tuple #[v, .nilIface]) (by simp [results, Tryz.results18, go_sem]) rfl ⟨_, rfl, V4.out, C4.out⟩
end
end Go.Proofs.YtagjmggiaffihaaGreatDoor.So
namespace Go.Proofs.YtagjmggiaffihaaGreatDoor.So
open Go.RowKit Go.Shelf Go.Maps
open Go.Proofs.YtagjmggiaffihaaGreatDoor.Co (I64 Pt Col CS I64_mid lies put6_blk put6_st put6)
open Go.Proofs.YtagjmggiaffihaaGreatDoor.At (St bAl cell_blk blk_seen blk_free)
section
variable {B : Nat} {W : World} {rb : Nat} {s : CS} {S : Nat → Prop}
set_option maxHeartbeats 1600000 in
set_option maxRecDepth 100000 in
theorem get1_any (h : Col B W rb s S) (n : Nat) (p : Pt) (hp : s.rows[n]? = some p) :
    Calls Tryz.prog 93 #[.pointer (some ⟨rb, 0, none⟩), .int .i64 (n : Int)] W fun e W' => e = .returned (.tuple #[p.val s.comp, .nilIface]) ∧ Below W.heap.size W W' := by
  obtain ⟨W1, hW1⟩ : ∃ W1, W1 = W.alloc (.cells #[.int .i64 0, .int .i64 0, .int .i64 0, .int .i64 0, .int .i64 0, .int .i64 0] 47) := ⟨_, rfl⟩
  have b1 : Below W.heap.size W W1 := by rw [hW1]; exact bAl _ _
  have r1 : W1.heap[W.heap.size]? = some (.cells (Pt.zero.arr 0) 47 (0, 0)) := by rw [hW1]; exact heap_alloc_new W _
  have TK := hid (Co.col_row (h.later b1) n p hp)
  have HW1 := hid hW1
  have B1 := hid b1
  have R1 := hid r1
  unfold Pt.val at TK ⊢
  generalize s.comp = cm at *
  clear h hp b1 hW1 r1
  go_enter Tryz.func93, Tryz.ntmps93
  go_upto_region 1 with fail
  rw [← HW1.out]
  go_wp2_with fail
  refine TK.out.mono ?_
  rintro e w2 ⟨rfl, hb⟩
  have B2 := hid (B1.out.trans (hb.mono B1.out.size))
  have r2 : w2.heap[W.heap.size]? = some (.cells (Pt.zero.arr 0) 47 (0, 0)) := blk_seen hb (Nat.le_refl _) R1.out
  have R2 := hid r2
  obtain ⟨x0, x1, x2, x3, x4, x5, f0, f1, f2, f3, f4, f5⟩ := lies r2
  clear hb r2 TK
  go_wp2_with fail
  have PB := put6_blk R2.out rfl cm p
  have PS := put6_st w2 W.heap.size cm p
  unfold put6 at PB PS
  obtain ⟨d0, d1, d2, d3, d4, d5, -, -, -, -, -, -⟩ := lies PB
  generalize (((((w2.setCell ⟨W.heap.size, 0, none⟩ (.int .i64 cm)).setCell ⟨W.heap.size, 1, none⟩ (.int .i64 p.a)).setCell ⟨W.heap.size, 2, none⟩ (.int .i64 p.b)).setCell ⟨W.heap.size, 3, none⟩ (.int .i64 p.c)).setCell ⟨W.heap.size, 4, none⟩ (.int .i64 p.d)).setCell ⟨W.heap.size, 5, none⟩ (.int .i64 p.t) = w3 at *
  exact bodyPost_ret (v := .tuple #[.agg #[.int .i64 cm, .int .i64 p.a, .int .i64 p.b, .int .i64 p.c, .int .i64 p.d, .int .i64 p.t], .nilIface]) (by simp [results, Tryz.results93, go_sem, d0, d1, d2, d3, d4, d5]) rfl ⟨rfl, B2.out.trans (PS.below (B := W.heap.size) (fun k hk => by omega) B2.out.size)⟩
set_option maxHeartbeats 1600000 in
set_option maxRecDepth 100000 in
theorem put1_any (h : Col B W rb s S) (n : Nat) (p : Pt) (hp : s.rows[n]? = some p) (u : Pt) (hf : u.fitB s.w = true) (hu : I64 u.t) (xb : Nat) (hx : W.heap[xb]? = some (.cells (u.arr s.comp) 47 (0, 0))) :
    Calls Tryz.prog 81 #[.pointer (some ⟨rb, 0, none⟩), .int .i64 (n : Int), .pointer (some ⟨xb, 0, none⟩)] W fun e W' => e = .returned (.tuple #[p.val s.comp, .nilIface]) ∧ Col B W' rb (s.turned n u) S ∧ Co.St S W W' := by
  obtain ⟨W1, hW1⟩ : ∃ W1, W1 = W.alloc (.cells #[.int .i64 0, .int .i64 0, .int .i64 0, .int .i64 0, .int .i64 0, .int .i64 0] 47) := ⟨_, rfl⟩
  have b1 : Below W.heap.size W W1 := by rw [hW1]; exact bAl _ _
  have r1 : W1.heap[W.heap.size]? = some (.cells (Pt.zero.arr 0) 47 (0, 0)) := by rw [hW1]; exact heap_alloc_new W _
  have u1 := blk_seen b1 (Nat.le_refl _) hx
  have z0 := cell_blk u1 (j := 0) rfl
  have z1 := cell_blk u1 (j := 1) rfl
  have z2 := cell_blk u1 (j := 2) rfl
  have z3 := cell_blk u1 (j := 3) rfl
  have z4 := cell_blk u1 (j := 4) rfl
  have z5 := cell_blk u1 (j := 5) rfl
  have TK := hid (Co.col_put (h.later b1) n p hp u hf hu)
  have HLT := hid (fun k hk => (h.lt k hk).2)
  have HW1 := hid hW1
  have B1 := hid b1
  have R1 := hid r1
  unfold Pt.val at TK ⊢
  generalize s.comp = cm at *
  clear h hp hf hu hx b1 hW1 r1 u1
  go_enter Tryz.func81, Tryz.ntmps81
  go_upto_region 1 with fail
  rw [← HW1.out]
  go_wp2_with fail
  refine TK.out.mono ?_
  rintro e w2 ⟨rfl, hc, hs⟩
  have C2 := hid hc
  have S2 := hid hs
  have r2 : w2.heap[W.heap.size]? = some (.cells (Pt.zero.arr 0) 47 (0, 0)) := hs.at R1.out fun q => by have := HLT.out _ q; omega
  have R2 := hid r2
  obtain ⟨x0, x1, x2, x3, x4, x5, f0, f1, f2, f3, f4, f5⟩ := lies r2
  clear hc hs r2 TK z0 z1 z2 z3 z4 z5
  go_wp2_with fail
  have PB := put6_blk R2.out rfl cm p
  have PS := put6_st w2 W.heap.size cm p
  unfold put6 at PB PS
  obtain ⟨d0, d1, d2, d3, d4, d5, -, -, -, -, -, -⟩ := lies PB
  generalize (((((w2.setCell ⟨W.heap.size, 0, none⟩ (.int .i64 cm)).setCell ⟨W.heap.size, 1, none⟩ (.int .i64 p.a)).setCell ⟨W.heap.size, 2, none⟩ (.int .i64 p.b)).setCell ⟨W.heap.size, 3, none⟩ (.int .i64 p.c)).setCell ⟨W.heap.size, 4, none⟩ (.int .i64 p.d)).setCell ⟨W.heap.size, 5, none⟩ (.int .i64 p.t) = w3 at *
  refine bodyPost_ret (v := .tuple #[.agg #[.int .i64 cm, .int .i64 p.a, .int .i64 p.b, .int .i64 p.c, .int .i64 p.d, .int .i64 p.t], .nilIface]) (by simp [results, Tryz.results81, go_sem, d0, d1, d2, d3, d4, d5]) rfl ⟨rfl, C2.out.kept PS fun k hk e => ?_, ?_⟩
  · have := HLT.out k hk; omega
  · exact ((Co.St.of_below (S := S) B1.out).trans S2.out fun _ _ q => q).trans PS fun k hk e => by omega
set_option maxHeartbeats 1600000 in
set_option maxRecDepth 100000 in
theorem set1_any (h : Col B W rb s S) (n : Nat) (p : Pt) (hp : s.rows[n]? = some p) (j : Nat) (hj : j < s.w) (value frame : Int) (hfr : I64 frame) (xa xb xc : Nat) (ha : W.cell? ⟨xa, 0, none⟩ = some (.int .i64 (j : Int))) (hx : W.cell? ⟨xb, 0, none⟩ = some (.int .i64 value)) (hc' : W.cell? ⟨xc, 0, none⟩ = some (.int .i64 frame)) :
    Calls Tryz.prog 83 #[.pointer (some ⟨rb, 0, none⟩), .int .i64 (n : Int), .pointer (some ⟨xa, 0, none⟩), .pointer (some ⟨xb, 0, none⟩), .pointer (some ⟨xc, 0, none⟩)] W fun e W' => e = .returned (.tuple #[p.val s.comp, .nilIface]) ∧ Col B W' rb (s.turned n (p.put j value frame)) S ∧ Co.St S W W' := by
  obtain ⟨W1, hW1⟩ : ∃ W1, W1 = W.alloc (.cells #[.int .i64 0, .int .i64 0, .int .i64 0, .int .i64 0, .int .i64 0, .int .i64 0] 47) := ⟨_, rfl⟩
  have b1 : Below W.heap.size W W1 := by rw [hW1]; exact bAl _ _
  have r1 : W1.heap[W.heap.size]? = some (.cells (Pt.zero.arr 0) 47 (0, 0)) := by rw [hW1]; exact heap_alloc_new W _
  have z0 := At.seen b1 (Nat.le_refl _) ha
  have z1 := At.seen b1 (Nat.le_refl _) hx
  have z2 := At.seen b1 (Nat.le_refl _) hc'
  have TK := hid (Co.col_set (h.later b1) n p hp j hj value frame hfr)
  have HLT := hid (fun k hk => (h.lt k hk).2)
  have HW1 := hid hW1
  have B1 := hid b1
  have R1 := hid r1
  unfold Pt.val at TK ⊢
  generalize s.comp = cm at *
  clear h hp hj hfr hx ha hc' b1 hW1 r1
  go_enter Tryz.func83, Tryz.ntmps83
  go_upto_region 1 with fail
  rw [← HW1.out]
  go_wp2_with fail
  refine TK.out.mono ?_
  rintro e w2 ⟨rfl, hc, hs⟩
  have C2 := hid hc
  have S2 := hid hs
  have r2 : w2.heap[W.heap.size]? = some (.cells (Pt.zero.arr 0) 47 (0, 0)) := hs.at R1.out fun q => by have := HLT.out _ q; omega
  have R2 := hid r2
  obtain ⟨x0, x1, x2, x3, x4, x5, f0, f1, f2, f3, f4, f5⟩ := lies r2
  clear hc hs r2 TK z0 z1 z2
  go_wp2_with fail
  have PB := put6_blk R2.out rfl cm p
  have PS := put6_st w2 W.heap.size cm p
  unfold put6 at PB PS
  obtain ⟨d0, d1, d2, d3, d4, d5, -, -, -, -, -, -⟩ := lies PB
  generalize (((((w2.setCell ⟨W.heap.size, 0, none⟩ (.int .i64 cm)).setCell ⟨W.heap.size, 1, none⟩ (.int .i64 p.a)).setCell ⟨W.heap.size, 2, none⟩ (.int .i64 p.b)).setCell ⟨W.heap.size, 3, none⟩ (.int .i64 p.c)).setCell ⟨W.heap.size, 4, none⟩ (.int .i64 p.d)).setCell ⟨W.heap.size, 5, none⟩ (.int .i64 p.t) = w3 at *
  refine bodyPost_ret (v := .tuple #[.agg #[.int .i64 cm, .int .i64 p.a, .int .i64 p.b, .int .i64 p.c, .int .i64 p.d, .int .i64 p.t], .nilIface]) (by simp [results, Tryz.results83, go_sem, d0, d1, d2, d3, d4, d5]) rfl ⟨rfl, C2.out.kept PS fun k hk e => ?_, ?_⟩
  · have := HLT.out k hk; omega
  · exact ((Co.St.of_below (S := S) B1.out).trans S2.out fun _ _ q => q).trans PS fun k hk e => by omega
set_option maxHeartbeats 1600000 in
set_option maxRecDepth 100000 in
theorem set1_bad (Ad : Nat → Addr) (h : Col B W rb s S) (hE : Env8 W Ad) (n : Nat) (p : Pt) (hp : s.rows[n]? = some p) (cell value frame : Int) (hcell : cell < 0 ∨ (s.w : Int) ≤ cell) (xa xb xc : Nat) (ha : W.cell? ⟨xa, 0, none⟩ = some (.int .i64 cell)) (hx : W.cell? ⟨xb, 0, none⟩ = some (.int .i64 value)) (hc' : W.cell? ⟨xc, 0, none⟩ = some (.int .i64 frame)) :
    Calls Tryz.prog 83 #[.pointer (some ⟨rb, 0, none⟩), .int .i64 (n : Int), .pointer (some ⟨xa, 0, none⟩), .pointer (some ⟨xb, 0, none⟩), .pointer (some ⟨xc, 0, none⟩)] W fun e W' => ∃ t q, e = .returned (.tuple #[.agg #[.int .i64 0, .int .i64 0, .int .i64 0, .int .i64 0, .int .i64 0, .int .i64 0], .iface t q]) ∧ Co.Err Ad W' (.iface t q) 1 2 ∧ Below W.heap.size W W' := by
  obtain ⟨W1, hW1⟩ : ∃ W1, W1 = W.alloc (.cells #[.int .i64 0, .int .i64 0, .int .i64 0, .int .i64 0, .int .i64 0, .int .i64 0] 47) := ⟨_, rfl⟩
  have b1 : Below W.heap.size W W1 := by rw [hW1]; exact bAl _ _
  have r1 : W1.heap[W.heap.size]? = some (.cells (Pt.zero.arr 0) 47 (0, 0)) := by rw [hW1]; exact heap_alloc_new W _
  have z0 := At.seen b1 (Nat.le_refl _) ha
  have z1 := At.seen b1 (Nat.le_refl _) hx
  have z2 := At.seen b1 (Nat.le_refl _) hc'
  have TK := hid (Co.col_setcell Ad (h.later b1) (Env8.three (hE.later b1)) n p hp cell value frame hcell)
  have HW1 := hid hW1
  have B1 := hid b1
  have R1 := hid r1
  clear h hp hcell hx ha hc' b1 hW1 r1 hE
  go_enter Tryz.func83, Tryz.ntmps83
  go_upto_region 1 with fail
  rw [← HW1.out]
  go_wp2_with fail
  refine TK.out.mono ?_
  rintro e w2 ⟨t, q, rfl, hv, hb⟩
  have HV := hid hv
  have B2 := hid (B1.out.trans (hb.mono B1.out.size))
  have r2 := blk_seen hb (Nat.le_refl _) R1.out
  have R2 := hid r2
  obtain ⟨x0, x1, x2, x3, x4, x5, f0, f1, f2, f3, f4, f5⟩ := lies r2
  have HZ : Hid (put6 w2 W.heap.size 0 Pt.zero = w2) := Co.put6_same r2
  unfold put6 at HZ
  clear hv hb r2 TK z0 z1 z2
  go_wp2_with fail
  rw [show (((((w2.setCell ⟨W.heap.size, 0, none⟩ (.int .i64 0)).setCell ⟨W.heap.size, 1, none⟩ (.int .i64 0)).setCell ⟨W.heap.size, 2, none⟩ (.int .i64 0)).setCell ⟨W.heap.size, 3, none⟩ (.int .i64 0)).setCell ⟨W.heap.size, 4, none⟩ (.int .i64 0)).setCell ⟨W.heap.size, 5, none⟩ (.int .i64 0) = w2 from HZ.out]
  exact bodyPost_ret (v := .tuple #[.agg #[.int .i64 0, .int .i64 0, .int .i64 0, .int .i64 0, .int .i64 0, .int .i64 0], .iface t q]) (by simp [results, Tryz.results83, go_sem, x0, x1, x2, x3, x4, x5, Pt.zero]) rfl ⟨t, q, rfl, HV.out, B2.out⟩
end
end Go.Proofs.YtagjmggiaffihaaGreatDoor.So
namespace Go.Proofs.YtagjmggiaffihaaGreatDoor.So
open Go.RowKit Go.Shelf Go.Maps
open Go.Proofs.YtagjmggiaffihaaGreatDoor.Co (I64 Pt Col CS I64_mid lies put6_blk put6_st put6)
open Go.Proofs.YtagjmggiaffihaaGreatDoor.At (St bAl cell_blk blk_seen blk_free Ints Err at_err err_leaf)
open Go.Proofs.YtagjmggiaffihaaGreatDoor.Rs (Prt SD mskP)
/-- The world in which part begins. -/
def pw (W : World) (i g : Int) : World := (W.alloc (.cells #[.int .i64 i, .int .i64 g] 43)).alloc (.cells #[.int .i64 0, .int .i64 0, .int .i64 0, .int .i64 0, .int .i64 0, .int .i64 0] 47)
theorem pw_facts (W : World) (i g : Int) : Below W.heap.size W (pw W i g) ∧ (pw W i g).heap[W.heap.size]? = some (.cells #[.int .i64 i, .int .i64 g] 43 (0, 0)) ∧ (pw W i g).heap[W.heap.size + 1]? = some (.cells (Pt.zero.arr 0) 47 (0, 0)) ∧ (pw W i g).heap.size = W.heap.size + 2 := by
  obtain ⟨a, b, c⟩ := Rs.two_blk W #[.int .i64 i, .int .i64 g] #[.int .i64 0, .int .i64 0, .int .i64 0, .int .i64 0, .int .i64 0, .int .i64 0] 43 47
  exact ⟨a, b, c, by unfold pw; simp⟩
section
variable {Ad : Nat → Addr} {W : World}
set_option maxHeartbeats 1600000 in
set_option maxRecDepth 100000 in
theorem part_err {rv : Value} {i g : Int} {k : Nat} (h : NoFind Ad W rv i g k) (comp : Int) (fv : Value) :
    Calls Tryz.prog 80 #[rv, .agg #[.int .i64 i, .int .i64 g], .int .i64 comp, fv] W fun e W' => e = .returned (.tuple #[.agg #[.int .i64 0, .int .i64 0, .int .i64 0, .int .i64 0, .int .i64 0, .int .i64 0], .iface 278 (.pointer (some (Ad k)))]) ∧ Below W.heap.size W W' := by
  obtain ⟨b1, r1, p1, z1⟩ := pw_facts W i g
  obtain ⟨w1, hw1⟩ : ∃ w1, w1 = pw W i g := ⟨_, rfl⟩
  rw [← hw1] at b1 r1 p1 z1
  have d0 := cell_blk r1 (j := 0) rfl
  have d1 := cell_blk r1 (j := 1) rfl
  have FD := hid (h w1 b1)
  have HW1 := hid hw1
  have B1 := hid b1
  have P1 := hid p1
  unfold pw at HW1
  clear hw1 b1 r1 h p1 z1
  go_enter Tryz.func80, Tryz.ntmps80
  go_upto_region 1 with fail
  rw [← HW1.out]
  go_wp2_with fail
  refine FD.out.mono ?_
  rintro e w2 ⟨rfl, hb⟩
  have B2 := hid (B1.out.trans (hb.mono B1.out.size))
  have r2 := blk_seen hb (Nat.le_refl _) P1.out
  obtain ⟨x0, x1, x2, x3, x4, x5, f0, f1, f2, f3, f4, f5⟩ := lies r2
  have HZ : Hid (put6 w2 (W.heap.size + 1) 0 Pt.zero = w2) := Co.put6_same r2
  unfold put6 at HZ
  clear hb FD r2
  go_wp2_with fail
  rw [show (((((w2.setCell ⟨W.heap.size + 1, 0, none⟩ (.int .i64 0)).setCell ⟨W.heap.size + 1, 1, none⟩ (.int .i64 0)).setCell ⟨W.heap.size + 1, 2, none⟩ (.int .i64 0)).setCell ⟨W.heap.size + 1, 3, none⟩ (.int .i64 0)).setCell ⟨W.heap.size + 1, 4, none⟩ (.int .i64 0)).setCell ⟨W.heap.size + 1, 5, none⟩ (.int .i64 0) = w2 from HZ.out]
  exact bodyPost_ret (v := .tuple #[.agg #[.int .i64 0, .int .i64 0, .int .i64 0, .int .i64 0, .int .i64 0, .int .i64 0], .iface 278 (.pointer (some (Ad k)))]) (by simp [results, Tryz.results80, go_sem, x0, x1, x2, x3, x4, x5, Pt.zero]) rfl ⟨rfl, B2.out⟩
set_option maxHeartbeats 1600000 in
set_option maxRecDepth 100000 in
theorem part_none {ex : Option Nat} {B : Nat} {sb : Nat} {c : CV} {s : SD} {i g n j m : Nat} {own : List (Nat × Nat)} {y : Nat × Nat} (h : Sto ex B W sb c s) (hE : Env8 W Ad) (ha : al s i g) (A : At1 c s i g n j m own y) (comp : Int) (hc : I64 comp) (hno : lk (colMap m (c.tv n).cb) comp = none) (fv : Value) :
    Calls Tryz.prog 80 #[.pointer (some ⟨sb, 0, none⟩), .agg #[.int .i64 (i : Int), .int .i64 (g : Int)], .int .i64 comp, fv] W fun e W' => e = .returned (.tuple #[.agg #[.int .i64 0, .int .i64 0, .int .i64 0, .int .i64 0, .int .i64 0, .int .i64 0], .iface 278 (.pointer (some (Ad 7)))]) ∧ Below W.heap.size W W' := by
  obtain ⟨b1, r1, p1, z1⟩ := pw_facts W (i : Int) (g : Int)
  obtain ⟨w1, hw1⟩ : ∃ w1, w1 = pw W (i : Int) (g : Int) := ⟨_, rfl⟩
  rw [← hw1] at b1 r1 p1 z1
  have d0 := cell_blk r1 (j := 0) rfl
  have d1 := cell_blk r1 (j := 1) rfl
  have h1 := h.later b1
  have FD := hid (find_some h1 ha A)
  have TB := hid (h1.tabOf A)
  have HE := hid (hE.later b1)
  have HW1 := hid hw1
  have B1 := hid b1
  have P1 := hid p1
  unfold pw at HW1
  obtain ⟨x, hx⟩ : ∃ x, x = c.tv n := ⟨_, rfl⟩
  rw [← hx] at FD TB hno
  have HC := hid hc
  have HNO := hid hno
  clear hw1 b1 r1 h h1 p1 z1 hE ha A hc hx hno
  go_enter Tryz.func80, Tryz.ntmps80
  go_upto_region 1 with fail
  rw [← HW1.out]
  go_wp2_with fail
  refine FD.out.mono ?_
  rintro e w2 ⟨rfl, hb⟩
  have T2 := TB.out.later hb
  have t2 := T2.c2
  have LK := T2.look_ok comp HC.out
  rw [HNO.out] at LK
  change (Instr.lookup 150 (.map (some x.cm)) (.int .i64 comp) true).run Tryz.prog w2 = .ok (.tuple #[.pointer none, .bool false]) w2 at LK
  have B2 := hid (B1.out.trans (hb.mono B1.out.size))
  have r2 := blk_seen hb (Nat.le_refl _) P1.out
  have R2 := hid r2
  obtain ⟨x0, x1, x2, x3, x4, x5, f0, f1, f2, f3, f4, f5⟩ := lies r2
  have c7 := e7 (HE.out.later hb)
  have HZ : Hid (put6 w2 (W.heap.size + 1) 0 Pt.zero = w2) := Co.put6_same r2
  unfold put6 at HZ
  have hz : (((((w2.setCell ⟨W.heap.size + 1, 0, none⟩ (.int .i64 0)).setCell ⟨W.heap.size + 1, 1, none⟩ (.int .i64 0)).setCell ⟨W.heap.size + 1, 2, none⟩ (.int .i64 0)).setCell ⟨W.heap.size + 1, 3, none⟩ (.int .i64 0)).setCell ⟨W.heap.size + 1, 4, none⟩ (.int .i64 0)).setCell ⟨W.heap.size + 1, 5, none⟩ (.int .i64 0) = w2 := HZ.out
  have K7 : Hid (w2.cell? ⟨2, 0, none⟩ = some (.iface 278 (.pointer (some (Ad 7))))) := c7
  clear hb FD r2 T2
  go_wp2_with fail
  go_region_held3 (fun W' => W'.cell? ⟨2, 0, none⟩ = some (.iface 278 (.pointer (some (Ad 7))))) (first | exact K7.out | (refine Eq.trans (congrArg (fun W' => World.cell? W' _) ?_) K7.out; exact hz)) (fail)
  have y0 : w2.drew.cell? ⟨W.heap.size + 1, 0, none⟩ = _ := x0
  have y1 : w2.drew.cell? ⟨W.heap.size + 1, 1, none⟩ = _ := x1
  have y2 : w2.drew.cell? ⟨W.heap.size + 1, 2, none⟩ = _ := x2
  have y3 : w2.drew.cell? ⟨W.heap.size + 1, 3, none⟩ = _ := x3
  have y4 : w2.drew.cell? ⟨W.heap.size + 1, 4, none⟩ = _ := x4
  have y5 : w2.drew.cell? ⟨W.heap.size + 1, 5, none⟩ = _ := x5
  clear hz x0 x1 x2 x3 x4 x5 f0 f1 f2 f3 f4 f5
  go_wp2_with fail
  exact bodyPost_ret (v := .tuple #[.agg #[.int .i64 0, .int .i64 0, .int .i64 0, .int .i64 0, .int .i64 0, .int .i64 0], .iface 278 (.pointer (some (Ad 7)))]) (by simp [results, Tryz.results80, go_sem, y0, y1, y2, y3, y4, y5, Pt.zero]) rfl ⟨rfl, B2.out.drew⟩
set_option maxHeartbeats 1600000 in
set_option maxRecDepth 100000 in
theorem part_ok {ex : Option Nat} {B : Nat} {sb : Nat} {c : CV} {s : SD} {i g n j m : Nat} {own : List (Nat × Nat)} {y : Nat × Nat} (h : Sto ex B W sb c s) (ha : al s i g) (A : At1 c s i g n j m own y) (cc : Nat) (hc16 : cc < 16) (hbit : m.testBit cc = true) (fk : Nat) (lb : Array Value) (eg : ∀ args w, (callFunc fk args).run Tryz.prog w = .ok (.enter fk args) w) (p : Pt) (Q : World → Prop)
    (hQ : ∀ w w', Q w → St (fun k => k = W.heap.size + 1) w w' → Q w')
    (HC : ∀ W', Below W.heap.size W W' → W.heap.size + 2 ≤ W'.heap.size → Calls Tryz.prog fk (#[.pointer (some ⟨(c.tv n).cb cc, 0, none⟩), .int .i64 (j : Int)] ++ lb) W' fun e W2 => e = .returned (.tuple #[p.val (cc : Int), .nilIface]) ∧ Q W2 ∧ St (fun k => k < W.heap.size) W' W2) :
    Calls Tryz.prog 80 #[.pointer (some ⟨sb, 0, none⟩), .agg #[.int .i64 (i : Int), .int .i64 (g : Int)], .int .i64 (cc : Int), .func (.func fk) #[] lb] W fun e W' => e = .returned (.tuple #[p.val (cc : Int), .nilIface]) ∧ Q W' := by
  obtain ⟨b1, r1, p1, z1⟩ := pw_facts W (i : Int) (g : Int)
  obtain ⟨w1, hw1⟩ : ∃ w1, w1 = pw W (i : Int) (g : Int) := ⟨_, rfl⟩
  rw [← hw1] at b1 r1 p1 z1
  have d0 := cell_blk r1 (j := 0) rfl
  have d1 := cell_blk r1 (j := 1) rfl
  have h1 := h.later b1
  have FD := hid (find_some h1 ha A)
  have TB := hid (h1.tabOf A)
  have HW1 := hid hw1
  have B1 := hid b1
  have P1 := hid p1
  unfold pw at HW1
  obtain ⟨x, hx⟩ : ∃ x, x = c.tv n := ⟨_, rfl⟩
  rw [← hx] at FD TB HC
  have HCC := hid HC
  have HQ := hid hQ
  have LE : lk (colMap m x.cb) (cc : Int) = some (x.cb cc) := by rw [lk_nat]; unfold colMap; rw [if_pos hbit]
  have HLE := hid LE
  unfold Pt.val at HCC ⊢
  clear hw1 b1 r1 h h1 p1 ha A hx hbit LE HC hQ
  go_enter Tryz.func80, Tryz.ntmps80
  go_upto_region 1 with fail
  rw [← HW1.out]
  go_wp2_with fail
  refine FD.out.mono ?_
  rintro e w2 ⟨rfl, hb⟩
  have T2 := TB.out.later hb
  have t2 := T2.c2
  have LK := T2.look_ok (cc : Int) (I64_mid (by omega) (by omega))
  rw [HLE.out] at LK
  change (Instr.lookup 150 (.map (some x.cm)) (.int .i64 (cc : Int)) true).run Tryz.prog w2 = .ok (.tuple #[.pointer (some ⟨x.cb cc, 0, none⟩), .bool true]) w2 at LK
  have B2 := hid (B1.out.trans (hb.mono B1.out.size))
  have CL := hid (HCC.out w2 B2.out (by have := hb.size; omega))
  have r2 := blk_seen hb (Nat.le_refl _) P1.out
  have R2 := hid r2
  clear hb FD r2 T2 HCC
  go_wp2_with fail
  refine CL.out.mono ?_
  rintro e w3 ⟨rfl, q3, s3⟩
  have r3 := s3.at R2.out (by omega)
  have R3 := hid r3
  have Q3 := hid q3
  obtain ⟨x0, x1, x2, x3, x4, x5, f0, f1, f2, f3, f4, f5⟩ := lies r3
  clear q3 s3 CL r3 LK t2
  go_wp2_with fail
  have PB := put6_blk R3.out rfl (cc : Int) p
  have PS := st_co (put6_st w3 (W.heap.size + 1) (cc : Int) p)
  unfold put6 at PB PS
  obtain ⟨d0, d1, d2, d3, d4, d5, -, -, -, -, -, -⟩ := lies PB
  generalize (((((w3.setCell ⟨W.heap.size + 1, 0, none⟩ (.int .i64 (cc : Int))).setCell ⟨W.heap.size + 1, 1, none⟩ (.int .i64 p.a)).setCell ⟨W.heap.size + 1, 2, none⟩ (.int .i64 p.b)).setCell ⟨W.heap.size + 1, 3, none⟩ (.int .i64 p.c)).setCell ⟨W.heap.size + 1, 4, none⟩ (.int .i64 p.d)).setCell ⟨W.heap.size + 1, 5, none⟩ (.int .i64 p.t) = w4 at *
  exact bodyPost_ret (v := .tuple #[.agg #[.int .i64 (cc : Int), .int .i64 p.a, .int .i64 p.b, .int .i64 p.c, .int .i64 p.d, .int .i64 p.t], .nilIface]) (by simp [results, Tryz.results80, go_sem, d0, d1, d2, d3, d4, d5]) rfl ⟨rfl, HQ.out _ _ Q3.out PS⟩
set_option maxHeartbeats 1600000 in
set_option maxRecDepth 100000 in
theorem part_bad {ex : Option Nat} {B : Nat} {sb : Nat} {c : CV} {s : SD} {i g n j m : Nat} {own : List (Nat × Nat)} {y : Nat × Nat} (h : Sto ex B W sb c s) (ha : al s i g) (A : At1 c s i g n j m own y) (cc : Nat) (hc16 : cc < 16) (hbit : m.testBit cc = true) (fk : Nat) (lb : Array Value) (eg : ∀ args w, (callFunc fk args).run Tryz.prog w = .ok (.enter fk args) w) (k : Nat) (hk : k ≠ 0)
    (HC : ∀ W', Below W.heap.size W W' → W.heap.size + 2 ≤ W'.heap.size → Calls Tryz.prog fk (#[.pointer (some ⟨(c.tv n).cb cc, 0, none⟩), .int .i64 (j : Int)] ++ lb) W' fun e W2 => ∃ t q, e = .returned (.tuple #[.agg #[.int .i64 0, .int .i64 0, .int .i64 0, .int .i64 0, .int .i64 0, .int .i64 0], .iface t q]) ∧ (∃ d, Err Ad W2 (.iface t q) k d) ∧ Below W'.heap.size W' W2) :
    Calls Tryz.prog 80 #[.pointer (some ⟨sb, 0, none⟩), .agg #[.int .i64 (i : Int), .int .i64 (g : Int)], .int .i64 (cc : Int), .func (.func fk) #[] lb] W fun e W' => ∃ r, e = .returned (.tuple #[.agg #[.int .i64 0, .int .i64 0, .int .i64 0, .int .i64 0, .int .i64 0, .int .i64 0], r]) ∧ Er Ad W' r k ∧ Below W.heap.size W W' := by
  obtain ⟨b1, r1, p1, z1⟩ := pw_facts W (i : Int) (g : Int)
  obtain ⟨w1, hw1⟩ : ∃ w1, w1 = pw W (i : Int) (g : Int) := ⟨_, rfl⟩
  rw [← hw1] at b1 r1 p1 z1
  have d0 := cell_blk r1 (j := 0) rfl
  have d1 := cell_blk r1 (j := 1) rfl
  have h1 := h.later b1
  have FD := hid (find_some h1 ha A)
  have TB := hid (h1.tabOf A)
  have HW1 := hid hw1
  have B1 := hid b1
  have P1 := hid p1
  unfold pw at HW1
  obtain ⟨x, hx⟩ : ∃ x, x = c.tv n := ⟨_, rfl⟩
  rw [← hx] at FD TB HC
  have HCC := hid HC
  have LE : lk (colMap m x.cb) (cc : Int) = some (x.cb cc) := by rw [lk_nat]; unfold colMap; rw [if_pos hbit]
  have HLE := hid LE
  clear hw1 b1 r1 h h1 p1 ha A hx hbit LE HC
  go_enter Tryz.func80, Tryz.ntmps80
  go_upto_region 1 with fail
  rw [← HW1.out]
  go_wp2_with fail
  refine FD.out.mono ?_
  rintro e w2 ⟨rfl, hb⟩
  have T2 := TB.out.later hb
  have t2 := T2.c2
  have LK := T2.look_ok (cc : Int) (I64_mid (by omega) (by omega))
  rw [HLE.out] at LK
  change (Instr.lookup 150 (.map (some x.cm)) (.int .i64 (cc : Int)) true).run Tryz.prog w2 = .ok (.tuple #[.pointer (some ⟨x.cb cc, 0, none⟩), .bool true]) w2 at LK
  have B2 := hid (B1.out.trans (hb.mono B1.out.size))
  have CL := hid (HCC.out w2 B2.out (by have := hb.size; omega))
  have r2 := blk_seen hb (Nat.le_refl _) P1.out
  have R2 := hid r2
  clear hb FD r2 T2 HCC
  go_wp2_with fail
  refine CL.out.mono ?_
  rintro e w3 ⟨t, q, rfl, q3, b3⟩
  have r3 := blk_seen b3 (Nat.le_refl _) R2.out
  have Q3 := hid q3
  have B3 := hid (B2.out.trans (b3.mono B2.out.size))
  obtain ⟨x0, x1, x2, x3, x4, x5, f0, f1, f2, f3, f4, f5⟩ := lies r3
  have HZ : Hid (put6 w3 (W.heap.size + 1) 0 Pt.zero = w3) := Co.put6_same r3
  unfold put6 at HZ
  clear q3 b3 CL r3 LK t2
  go_wp2_with fail
  rw [show (((((w3.setCell ⟨W.heap.size + 1, 0, none⟩ (.int .i64 0)).setCell ⟨W.heap.size + 1, 1, none⟩ (.int .i64 0)).setCell ⟨W.heap.size + 1, 2, none⟩ (.int .i64 0)).setCell ⟨W.heap.size + 1, 3, none⟩ (.int .i64 0)).setCell ⟨W.heap.size + 1, 4, none⟩ (.int .i64 0)).setCell ⟨W.heap.size + 1, 5, none⟩ (.int .i64 0) = w3 from HZ.out]
  obtain ⟨d, hd⟩ := Q3.out
  exact bodyPost_ret (v := .tuple #[.agg #[.int .i64 0, .int .i64 0, .int .i64 0, .int .i64 0, .int .i64 0, .int .i64 0], .iface t q]) (by simp [results, Tryz.results80, go_sem, x0, x1, x2, x3, x4, x5, Pt.zero]) rfl ⟨_, rfl, Er.of hk hd, B3.out⟩
end
end Go.Proofs.YtagjmggiaffihaaGreatDoor.So
namespace Go.Proofs.YtagjmggiaffihaaGreatDoor.So
open Go.RowKit Go.Shelf Go.Maps
open Go.Proofs.YtagjmggiaffihaaGreatDoor.Co (I64 Pt Col CS I64_mid lies put6_blk put6_st put6)
open Go.Proofs.YtagjmggiaffihaaGreatDoor.At (St bAl cell_blk blk_seen blk_free Ints Err at_err err_leaf)
open Go.Proofs.YtagjmggiaffihaaGreatDoor.Rs (Prt SD mskP)
/-- What is kept while the answer is laid. -/
structure Kept (RB : Nat) (Q : World → Prop) : Prop where
  later : ∀ w w', Q w → Below w.heap.size w w' → Q w'
  st : ∀ w w', Q w → St (fun k => k = RB) w w' → Q w'
theorem keep6 {w w' : World} {b cb : Nat} {a0 a1 a2 a3 a4 a5 : Value} (h : w.cell? ⟨b, 0, none⟩ = some a0 ∧ w.cell? ⟨b, 1, none⟩ = some a1 ∧ w.cell? ⟨b, 2, none⟩ = some a2 ∧ w.cell? ⟨b, 3, none⟩ = some a3 ∧ w.cell? ⟨b, 4, none⟩ = some a4 ∧ w.cell? ⟨b, 5, none⟩ = some a5) (hs : St (fun k => k = cb) w w') (hn : ¬ b = cb) :
    w'.cell? ⟨b, 0, none⟩ = some a0 ∧ w'.cell? ⟨b, 1, none⟩ = some a1 ∧ w'.cell? ⟨b, 2, none⟩ = some a2 ∧ w'.cell? ⟨b, 3, none⟩ = some a3 ∧ w'.cell? ⟨b, 4, none⟩ = some a4 ∧ w'.cell? ⟨b, 5, none⟩ = some a5 :=
  ⟨st_cell hs h.1 hn, st_cell hs h.2.1 hn, st_cell hs h.2.2.1 hn, st_cell hs h.2.2.2.1 hn, st_cell hs h.2.2.2.2.1 hn, st_cell hs h.2.2.2.2.2 hn⟩
theorem er_put {Ad : Nat → Addr} {w : World} {b k : Nat} {r : Value} {cm : Int} {u : Pt} (hb : w.heap[b]? = some (.cells (Pt.zero.arr 0) 47 (0, 0))) (hz : k = 0 ∨ (u = Pt.zero ∧ cm = 0)) (h : Er Ad w r k) : Er Ad (put6 w b cm u) r k := by
  rcases hz with rfl | ⟨rfl, rfl⟩
  · exact .inl ⟨rfl, h.zero⟩
  · rw [Co.put6_same hb]; exact h
section
variable {Ad : Nat → Addr} {W : World} {Q : World → Prop}
set_option maxHeartbeats 1600000 in
set_option maxRecDepth 100000 in
theorem get_tail {rv : Value} {i g comp cm : Int} {u : Pt} {k : Nat} (hQ : Kept (W.heap.size + 1) Q) (hz : k = 0 ∨ (u = Pt.zero ∧ cm = 0))
    (HP : Calls Tryz.prog 80 #[rv, .agg #[.int .i64 i, .int .i64 g], .int .i64 comp, .func (.func 93) #[] #[]] (pw W i g) fun e W2 => ∃ r, e = .returned (.tuple #[u.val cm, r]) ∧ Er Ad W2 r k ∧ Q W2 ∧ W2.heap[W.heap.size + 1]? = some (.cells (Pt.zero.arr 0) 47 (0, 0))) :
    Calls Tryz.prog 38 #[rv, .agg #[.int .i64 i, .int .i64 g], .int .i64 comp] W fun e W' => ∃ r, e = .returned (.tuple #[u.val cm, r]) ∧ Er Ad W' r k ∧ Q W' := by
  obtain ⟨b1, r1, p1, z1⟩ := pw_facts W i g
  obtain ⟨w1, hw1⟩ : ∃ w1, w1 = pw W i g := ⟨_, rfl⟩
  rw [← hw1] at b1 r1 p1 z1 HP
  have d0 := cell_blk r1 (j := 0) rfl
  have d1 := cell_blk r1 (j := 1) rfl
  have PC := hid HP
  have HW1 := hid hw1
  have HQ := hid hQ
  have HZ := hid hz
  unfold pw at HW1
  unfold Pt.val at PC ⊢
  clear hw1 b1 r1 p1 HP hQ hz z1
  go_enter Tryz.func38, Tryz.ntmps38
  go_upto_region 1 with fail
  rw [← HW1.out]
  go_wp2_with fail
  refine PC.out.mono ?_
  rintro e w2 ⟨r, rfl, hr, hq, hp⟩
  obtain ⟨w3, hw3⟩ : ∃ w3, w3 = w2.alloc (.cells #[.int .i64 cm, .int .i64 u.a, .int .i64 u.b, .int .i64 u.c, .int .i64 u.d, .int .i64 u.t] 47) := ⟨_, rfl⟩
  have b3 : Below w2.heap.size w2 w3 := by rw [hw3]; exact bAl _ _
  have v3 : w3.heap[w2.heap.size]? = some (.cells (u.arr cm) 47 (0, 0)) := by rw [hw3]; exact heap_alloc_new w2 _
  have HW3 := hid hw3
  have R3 := hid (hr.later b3)
  have Q3 := hid (HQ.out.later _ _ hq b3)
  have P3 := hid (blk_seen b3 (Nat.le_refl _) hp)
  have V3 := hid v3
  have hne : W.heap.size + 1 < w2.heap.size := (Array.getElem?_eq_some_iff.1 hp).1
  have KK : Hid (∀ W', Below w3.heap.size w3 W' → W'.cell? ⟨w2.heap.size, 0, none⟩ = some (.int .i64 cm) ∧ W'.cell? ⟨w2.heap.size, 1, none⟩ = some (.int .i64 u.a) ∧ W'.cell? ⟨w2.heap.size, 2, none⟩ = some (.int .i64 u.b) ∧ W'.cell? ⟨w2.heap.size, 3, none⟩ = some (.int .i64 u.c) ∧ W'.cell? ⟨w2.heap.size, 4, none⟩ = some (.int .i64 u.d) ∧ W'.cell? ⟨w2.heap.size, 5, none⟩ = some (.int .i64 u.t)) := fun W' hb => by
    have q := blk_seen hb (Nat.le_refl _) V3.out
    exact ⟨cell_blk q rfl, cell_blk q rfl, cell_blk q rfl, cell_blk q rfl, cell_blk q rfl, cell_blk q rfl⟩
  have AC : Hid (∀ str W', Below w3.heap.size w3 W' → Calls Tryz.prog 63 #[.string str, r] W' fun e w' => ∃ v', e = .returned v' ∧ Er Ad w' v' k ∧ Below w3.heap.size w3 w') := fun str W' hb => (at_er Ad str r k W' (R3.out.later hb)).mono fun e w' ⟨v', q1, q2, q3⟩ => ⟨v', q1, q2, hb.trans (q3.mono hb.size)⟩
  clear hr hq hp b3 v3 hw3 PC
  go_upto_region 2 with fail
  rw [← HW3.out]
  go_region_held3 (fun W' => W'.cell? ⟨w2.heap.size, 0, none⟩ = some (.int .i64 cm) ∧ W'.cell? ⟨w2.heap.size, 1, none⟩ = some (.int .i64 u.a) ∧ W'.cell? ⟨w2.heap.size, 2, none⟩ = some (.int .i64 u.b) ∧ W'.cell? ⟨w2.heap.size, 3, none⟩ = some (.int .i64 u.c) ∧ W'.cell? ⟨w2.heap.size, 4, none⟩ = some (.int .i64 u.d) ∧ W'.cell? ⟨w2.heap.size, 5, none⟩ = some (.int .i64 u.t))
    (first | ((conv in (World.setCell _ _ _) => skip); exact K5.out) | exact KK.out _ B4.out | exact KK.out _ (Below.refl _ _).drew | exact KK.out _ (Below.refl _ _))
    ((go_at_call 63; refine (AC.out _ _ (by first | exact (Below.refl _ _).drew | exact Below.refl _ _)).mono ?_; rintro e w4 ⟨r4, rfl, hr4, hb4⟩; have B4 := hid hb4; have R4 := hid hr4; have P4 := hid (blk_seen hb4 (Nat.le_refl _) P3.out); obtain ⟨x0, x1, x2, x3, x4, x5, f0, f1, f2, f3, f4, f5⟩ := lies P4.out; have PS := hid (st_co (put6_st w4 (W.heap.size + 1) cm u)); have K5 := hid (keep6 (KK.out _ hb4) PS.out (by omega)); unfold put6 at PS K5; clear hr4 hb4))
  have RN := hid (er_put P4.out HZ.out R4.out)
  have PB := put6_blk P4.out rfl cm u
  have QN := hid (HQ.out.st _ _ (HQ.out.later _ _ Q3.out B4.out) (st_co (put6_st w4 (W.heap.size + 1) cm u)))
  unfold put6 at PB RN QN
  obtain ⟨d0, d1, d2, d3, d4, d5, -, -, -, -, -, -⟩ := lies PB
  clear K5 KK AC PS x0 x1 x2 x3 x4 x5 f0 f1 f2 f3 f4 f5
  generalize (((((w4.setCell ⟨W.heap.size + 1, 0, none⟩ (.int .i64 cm)).setCell ⟨W.heap.size + 1, 1, none⟩ (.int .i64 u.a)).setCell ⟨W.heap.size + 1, 2, none⟩ (.int .i64 u.b)).setCell ⟨W.heap.size + 1, 3, none⟩ (.int .i64 u.c)).setCell ⟨W.heap.size + 1, 4, none⟩ (.int .i64 u.d)).setCell ⟨W.heap.size + 1, 5, none⟩ (.int .i64 u.t) = w5 at *
  go_wp2_with fail
  exact bodyPost_ret (v := .tuple #[.agg #[.int .i64 cm, .int .i64 u.a, .int .i64 u.b, .int .i64 u.c, .int .i64 u.d, .int .i64 u.t], r4]) (by simp [results, Tryz.results38, go_sem, d0, d1, d2, d3, d4, d5]) rfl ⟨_, rfl, RN.out, QN.out⟩
end
end Go.Proofs.YtagjmggiaffihaaGreatDoor.So
namespace Go.Proofs.YtagjmggiaffihaaGreatDoor.So
open Go.RowKit Go.Shelf Go.Maps
open Go.Proofs.YtagjmggiaffihaaGreatDoor.Co (I64 Pt Col CS I64_mid lies put6_blk put6_st put6)
open Go.Proofs.YtagjmggiaffihaaGreatDoor.At (St bAl cell_blk blk_seen blk_free Ints Err at_err err_leaf)
open Go.Proofs.YtagjmggiaffihaaGreatDoor.Rs (Prt SD mskP fitP)
/-- An entity and a part as variables. -/
def ew (W : World) (i g : Int) (p : Prt) : World := (W.alloc (.cells #[.int .i64 i, .int .i64 g] 43)).alloc (.cells #[.int .i64 p.c, .int .i64 p.v0, .int .i64 p.v1, .int .i64 p.v2, .int .i64 p.v3, .int .i64 p.t] 47)
theorem ew_facts (W : World) (i g : Int) (p : Prt) : Below W.heap.size W (ew W i g p) ∧ (ew W i g p).heap[W.heap.size]? = some (.cells #[.int .i64 i, .int .i64 g] 43 (0, 0)) ∧ (ew W i g p).heap[W.heap.size + 1]? = some (.cells p.arr 47 (0, 0)) ∧ (ew W i g p).heap.size = W.heap.size + 2 := by
  obtain ⟨a, b, c⟩ := Rs.two_blk W #[.int .i64 i, .int .i64 g] #[.int .i64 p.c, .int .i64 p.v0, .int .i64 p.v1, .int .i64 p.v2, .int .i64 p.v3, .int .i64 p.t] 43 47
  exact ⟨a, b, c, by unfold ew; simp⟩
section
variable {Ad : Nat → Addr} {W : World}
set_option maxHeartbeats 1600000 in
set_option maxRecDepth 100000 in
theorem tableFor_err {rv : Value} {i g : Int} {k : Nat} (h : NoFind Ad W rv i g k) (hk : 1 ≤ k ∧ k ≤ 18) (p : Prt) :
    Calls Tryz.prog 76 #[rv, .agg #[.int .i64 i, .int .i64 g], .agg #[.int .i64 p.c, .int .i64 p.v0, .int .i64 p.v1, .int .i64 p.v2, .int .i64 p.v3, .int .i64 p.t]] W fun e W' => ∃ r, e = .returned (.tuple #[.pointer none, r]) ∧ Er Ad W' r k ∧ Below W.heap.size W W' := by
  obtain ⟨b1, r1, p1, z1⟩ := ew_facts W i g p
  obtain ⟨w1, hw1⟩ : ∃ w1, w1 = ew W i g p := ⟨_, rfl⟩
  rw [← hw1] at b1 r1 p1 z1
  have d0 := cell_blk r1 (j := 0) rfl
  have d1 := cell_blk r1 (j := 1) rfl
  have FD := hid (h w1 b1)
  have HW1 := hid hw1
  have B1 := hid b1
  unfold ew at HW1
  clear hw1 b1 r1 h p1 z1
  go_enter Tryz.func76, Tryz.ntmps76
  go_upto_region 1 with fail
  rw [← HW1.out]
  go_wp2_with fail
  refine FD.out.mono ?_
  rintro e w2 ⟨rfl, hb⟩
  have B2 := hid (B1.out.trans (hb.mono B1.out.size))
  clear hb FD
  go_wp2_with fail
  exact bodyPost_ret (v := .tuple #[.pointer none, .iface 278 (.pointer (some (Ad k)))]) (by simp [results, Tryz.results76, go_sem]) rfl ⟨_, rfl, Er.leaf Ad _ k hk, B2.out⟩
set_option maxHeartbeats 1600000 in
set_option maxRecDepth 100000 in
theorem tableFor_some {ex : Option Nat} {B : Nat} {sb : Nat} {c : CV} {s : SD} {i g n j m : Nat} {own : List (Nat × Nat)} {y : Nat × Nat} (h : Sto ex B W sb c s) (hE : Env8 W Ad) (ha : al s i g) (A : At1 c s i g n j m own y) (p : Prt) :
    Calls Tryz.prog 76 #[.pointer (some ⟨sb, 0, none⟩), .agg #[.int .i64 (i : Int), .int .i64 (g : Int)], .agg #[.int .i64 p.c, .int .i64 p.v0, .int .i64 p.v1, .int .i64 p.v2, .int .i64 p.v3, .int .i64 p.t]] W fun e W' => ∃ r, e = .returned (.tuple #[if fitP s.ws p then .pointer (some ⟨(c.tv n).tb, 0, none⟩) else .pointer none, r]) ∧ Er Ad W' r (if fitP s.ws p then 0 else 1) ∧ Below W.heap.size W W' := by
  obtain ⟨b1, r1, p1, z1⟩ := ew_facts W (i : Int) (g : Int) p
  obtain ⟨w1, hw1⟩ : ∃ w1, w1 = ew W (i : Int) (g : Int) p := ⟨_, rfl⟩
  rw [← hw1] at b1 r1 p1 z1
  have d0 := cell_blk r1 (j := 0) rfl
  have d1 := cell_blk r1 (j := 1) rfl
  have h1 := h.later b1
  have FD := hid (find_some h1 ha A)
  have H1 := hid h1
  have HE := hid (hE.later b1)
  have HW1 := hid hw1
  have B1 := hid b1
  have P1 := hid p1
  unfold ew at HW1
  obtain ⟨x, hx⟩ : ∃ x, x = c.tv n := ⟨_, rfl⟩
  rw [← hx] at FD ⊢
  obtain ⟨fb, hfb⟩ : ∃ fb, fb = fitP s.ws p := ⟨_, rfl⟩
  rw [← hfb]
  have HFB := hid hfb
  clear hw1 b1 r1 h h1 p1 z1 hE ha A hx hfb
  go_enter Tryz.func76, Tryz.ntmps76
  go_upto_region 1 with fail
  rw [← HW1.out]
  go_wp2_with fail
  refine FD.out.mono ?_
  rintro e w2 ⟨rfl, hb⟩
  have B2 := hid (B1.out.trans (hb.mono B1.out.size))
  have p2 := blk_seen hb (Nat.le_refl _) P1.out
  have y0 := cell_blk p2 (j := 0) rfl
  have y1 := cell_blk p2 (j := 1) rfl
  have y2 := cell_blk p2 (j := 2) rfl
  have y3 := cell_blk p2 (j := 3) rfl
  have y4 := cell_blk p2 (j := 4) rfl
  have y5 := cell_blk p2 (j := 5) rfl
  have CK := hid (check_any Ad (H1.out.later hb) (HE.out.later hb) p)
  rw [← HFB.out] at CK
  clear hb FD p2
  go_wp2_with fail
  refine CK.out.mono ?_
  rintro e w3 ⟨r, rfl, hr, hb⟩
  have B3 := hid (B2.out.trans (hb.mono B2.out.size))
  have HR := hid hr
  cases fb
  · rcases hr with ⟨q, -⟩ | ⟨-, t, q, rfl, d, hd⟩
    · cases q
    clear hb CK y0 y1 y2 y3 y4 y5 hd
    go_wp2_with fail
    exact bodyPost_ret (v := .tuple #[.pointer none, .iface t q]) (by simp [results, Tryz.results76, go_sem]) rfl ⟨_, rfl, HR.out, B3.out⟩
  · obtain rfl := hr.zero
    clear hb CK y0 y1 y2 y3 y4 y5 hr
    go_wp2_with fail
    exact bodyPost_ret (v := .tuple #[.pointer (some ⟨x.tb, 0, none⟩), .nilIface]) (by simp [results, Tryz.results76, go_sem]) rfl ⟨_, rfl, HR.out, B3.out⟩
end
end Go.Proofs.YtagjmggiaffihaaGreatDoor.So
namespace Go.Proofs.YtagjmggiaffihaaGreatDoor.So
open Go.RowKit Go.Shelf Go.Maps
open Go.Proofs.YtagjmggiaffihaaGreatDoor.Co (I64 Pt Col CS I64_mid lies put6_blk put6_st put6)
open Go.Proofs.YtagjmggiaffihaaGreatDoor.At (St bAl cell_blk blk_seen blk_free Ints Err at_err err_leaf)
open Go.Proofs.YtagjmggiaffihaaGreatDoor.Rs (Prt SD mskP fitP Prts PRow insP insP_rec insr okL pCells pCells_snoc infoPart)
section
variable {Ad : Nat → Addr} {W : World}
set_option maxHeartbeats 1600000 in
set_option maxRecDepth 100000 in
theorem insert_err {rv : Value} {i g : Int} {p : Prt} {k : Nat} (hk : k ≠ 0) (h : ∀ W', Below W.heap.size W W' → Calls Tryz.prog 76 #[rv, .agg #[.int .i64 i, .int .i64 g], .agg #[.int .i64 p.c, .int .i64 p.v0, .int .i64 p.v1, .int .i64 p.v2, .int .i64 p.v3, .int .i64 p.t]] W' fun e W2 => ∃ r, e = .returned (.tuple #[.pointer none, r]) ∧ Er Ad W2 r k ∧ Below W'.heap.size W' W2) :
    Calls Tryz.prog 21 #[rv, .agg #[.int .i64 i, .int .i64 g], .agg #[.int .i64 p.c, .int .i64 p.v0, .int .i64 p.v1, .int .i64 p.v2, .int .i64 p.v3, .int .i64 p.t]] W fun e W' => ∃ r, e = .returned r ∧ Er Ad W' r k ∧ Below W.heap.size W W' := by
  obtain ⟨b1, r1, p1, z1⟩ := ew_facts W i g p
  obtain ⟨w1, hw1⟩ : ∃ w1, w1 = ew W i g p := ⟨_, rfl⟩
  rw [← hw1] at b1 r1 p1 z1
  have d0 := cell_blk r1 (j := 0) rfl
  have d1 := cell_blk r1 (j := 1) rfl
  have y0 := cell_blk p1 (j := 0) rfl
  have y1 := cell_blk p1 (j := 1) rfl
  have y2 := cell_blk p1 (j := 2) rfl
  have y3 := cell_blk p1 (j := 3) rfl
  have y4 := cell_blk p1 (j := 4) rfl
  have y5 := cell_blk p1 (j := 5) rfl
  have FD := hid (h w1 b1)
  have HW1 := hid hw1
  have B1 := hid b1
  unfold ew at HW1
  clear hw1 b1 r1 h p1 z1
  go_enter Tryz.func21, Tryz.ntmps21
  go_upto_region 1 with fail
  rw [← HW1.out]
  go_wp2_with fail
  refine FD.out.mono ?_
  rintro e w2 ⟨r, rfl, hr, hb⟩
  rcases hr with ⟨q, -⟩ | ⟨-, t, q, rfl, d, hd⟩
  · exact absurd q hk
  have AC := hid (fun str => at_err Ad str _ k d w2 hd)
  have B2 := hid (B1.out.trans (hb.mono B1.out.size))
  clear hb FD hd
  go_wp2_with fail
  refine (AC.out _).mono ?_
  rintro e w3 ⟨t3, q3, rfl, hv, hb⟩
  have HV := hid hv
  have B3 := hid (B2.out.trans (hb.mono B2.out.size))
  clear hv hb AC
  go_wp2_with fail
  go_ret
  exact ⟨_, rfl, Er.of hk HV.out, B3.out⟩
set_option maxHeartbeats 1600000 in
set_option maxRecDepth 100000 in
theorem insert_twice {B : Nat} {sb : Nat} {c : CV} {s : SD} {i g n j m : Nat} {own : List (Nat × Nat)} {y : Nat × Nat} (h : Sto none B W sb c s) (hE : Env8 W Ad) (ha : al s i g) (A : At1 c s i g n j m own y) (p : Prt) (hf : fitP s.ws p = true) {cc : Nat} (hc : p.c = (cc : Int)) (hc16 : cc < 16) (hbit : m.testBit cc = true) :
    Calls Tryz.prog 21 #[.pointer (some ⟨sb, 0, none⟩), .agg #[.int .i64 (i : Int), .int .i64 (g : Int)], .agg #[.int .i64 p.c, .int .i64 p.v0, .int .i64 p.v1, .int .i64 p.v2, .int .i64 p.v3, .int .i64 p.t]] W fun e W' => ∃ r, e = .returned r ∧ Er Ad W' r 9 ∧ Below W.heap.size W W' := by
  obtain ⟨b1, r1, p1, z1⟩ := ew_facts W (i : Int) (g : Int) p
  obtain ⟨w1, hw1⟩ : ∃ w1, w1 = ew W (i : Int) (g : Int) p := ⟨_, rfl⟩
  rw [← hw1] at b1 r1 p1 z1
  have d0 := cell_blk r1 (j := 0) rfl
  have d1 := cell_blk r1 (j := 1) rfl
  have y0 : w1.cell? ⟨W.heap.size + 1, 0, none⟩ = some (.int .i64 (cc : Int)) := by rw [← hc]; exact cell_blk p1 rfl
  have y1 := cell_blk p1 (j := 1) rfl
  have y2 := cell_blk p1 (j := 2) rfl
  have y3 := cell_blk p1 (j := 3) rfl
  have y4 := cell_blk p1 (j := 4) rfl
  have y5 := cell_blk p1 (j := 5) rfl
  have h1 := h.later b1
  have FD := hid (tableFor_some h1 (hE.later b1) ha A p)
  rw [hf] at FD
  have TB := hid (h1.tabOf A)
  have HE := hid (hE.later b1)
  have hm16 := h.m16 A
  have HW1 := hid hw1
  have B1 := hid b1
  have P1 := hid p1
  unfold ew at HW1
  obtain ⟨x, hx⟩ : ∃ x, x = c.tv n := ⟨_, rfl⟩
  rw [← hx] at FD TB
  have SH := hid (fun w => At.sethas_in m cc (by omega) (by omega) w)
  rw [hbit] at SH
  rw [hc] at FD HW1 ⊢
  have HC := hid hc
  change Hid (Calls Tryz.prog 76 #[.pointer (some ⟨sb, 0, none⟩), .agg #[.int .i64 (i : Int), .int .i64 (g : Int)], .agg #[.int .i64 (cc : Int), .int .i64 p.v0, .int .i64 p.v1, .int .i64 p.v2, .int .i64 p.v3, .int .i64 p.t]] w1 fun e W' => ∃ r, e = .returned (.tuple #[.pointer (some ⟨x.tb, 0, none⟩), r]) ∧ Er Ad W' r 0 ∧ Below w1.heap.size w1 W') at FD
  clear hw1 b1 r1 h h1 p1 z1 hE ha A hx hbit hc hf
  go_enter Tryz.func21, Tryz.ntmps21
  go_upto_region 1 with fail
  rw [← HW1.out]
  go_wp2_with fail
  refine FD.out.mono ?_
  rintro e w2 ⟨r, rfl, hr, hb⟩
  obtain rfl := hr.zero
  have T2 := hid (TB.out.later hb)
  have P2 := hid (blk_seen hb (Nat.le_refl _) P1.out)
  have E2 := hid (HE.out.later hb)
  have B2 := hid (B1.out.trans (hb.mono B1.out.size))
  have KK : Hid (∀ q, (w2.drewN q).cell? ⟨x.tb, 0, none⟩ = some (.int .u32 (m : Int)) ∧ (w2.drewN q).cell? ⟨W.heap.size + 1, 0, none⟩ = some (.int .i64 (cc : Int))) := fun q => by
    have b := At.drewN_below w2 q
    refine ⟨(T2.out.later b).c0, ?_⟩
    have := cell_blk (blk_seen b (Nat.le_refl _) P2.out) (j := 0) rfl
    rw [← HC.out]; exact this
  clear hb FD hr y0 y1 y2 y3 y4 y5 d0 d1
  go_wp2_with fail
  go_region_held3 (fun W' => W'.cell? ⟨x.tb, 0, none⟩ = some (.int .u32 (m : Int)) ∧ W'.cell? ⟨W.heap.size + 1, 0, none⟩ = some (.int .i64 (cc : Int))) (first | exact KK.out 1 | exact KK.out 0 | exact KK.out 2)
    ((go_at_call 47; refine (SH.out _).mono ?_; rintro e w3 ⟨rfl, hq⟩; obtain rfl := hq.symm))
  have c9 := e9 (E2.out.later (Below.refl _ _).drew)
  have AC := hid (fun str => at_err Ad str _ 9 0 w2.drew (err_leaf Ad _ 9 (by decide)))
  clear KK
  go_wp2_with fail
  refine (AC.out _).mono ?_
  rintro e w4 ⟨t, q, rfl, hv, hb⟩
  have HV := hid hv
  have B4 := hid (B2.out.drew.trans (hb.mono B2.out.size))
  clear hv hb AC
  go_wp2_with fail
  go_ret
  exact ⟨_, rfl, Er.of (by decide) HV.out, B4.out⟩
end
end Go.Proofs.YtagjmggiaffihaaGreatDoor.So
