/- A part of StoreExact. -/
import Derived.Laws.IdiomStrings
import Derived.Lib.Strings
import Derived.Lib.ItoaNum
import Derived.Deep.Onto
import Derived.Deep.DrawnRows
import Derived.Deep.Cut
import Derived.Test.YtnlcbheidiigaaaGreatDoorMae
namespace Go.Proofs.YtnlcbheidiigaaaGreatDoor
namespace Sc
open Go.RowKit Go.Shelf
def lowB (c : UInt8) : Bool := 97 ≤ c && c ≤ 122
def isNm (s : ByteArray) : Bool := decide (1 ≤ s.size) && decide (s.size ≤ 8) && s.data.toList.all lowB
theorem isNm_none (s : ByteArray) (h : s.size = 0) : isNm s = false := by simp [isNm, h]
theorem isNm_long (s : ByteArray) (h : 8 < s.size) : isNm s = false := by simp [isNm]; omega
theorem take_snoc (s : ByteArray) (k : Nat) (h : k < s.size) : s.data.toList.take (k + 1) = s.data.toList.take k ++ [s[k]] := by
 rw [List.take_succ_eq_append_getElem (by simpa using h)]; rfl
theorem low_iff (c : UInt8) : lowB c = decide (97 ≤ (c.toNat : Int) ∧ (c.toNat : Int) ≤ 122) := by
 unfold lowB
 rw [Bool.eq_iff_iff]; simp [UInt8.le_iff_toNat_le]; omega
theorem isNm_bad (s : ByteArray) (k : Nat) (h : k < s.size) (hb : lowB s[k] = false) : isNm s = false := by
 have : s.data.toList.all lowB = false := List.all_eq_false.2 ⟨s[k], Array.getElem_mem_toList h, by rw [hb]; exact Bool.false_ne_true⟩
 unfold isNm
 rw [this]; simp
theorem isNm_all (s : ByteArray) (h1 : 1 ≤ s.size) (h2 : s.size ≤ 8) (h : (s.data.toList.take s.size).all lowB = true) : isNm s = true := by
 have e : s.data.toList.take s.size = s.data.toList := List.take_of_length_le (by rw [Array.length_toList]; exact Nat.le_refl _)
 rw [e] at h
 unfold isNm
 rw [h]
 simp only [Bool.and_true, Bool.and_eq_true, decide_eq_true_eq]
 exact ⟨h1, h2⟩
theorem all_next (s : ByteArray) (k : Nat) (h : k < s.size) : (s.data.toList.take (k + 1)).all lowB = ((s.data.toList.take k).all lowB && lowB s[k]) := by
 rw [take_snoc s k h, List.all_append]; simp
set_option maxHeartbeats 800000 in
set_option maxRecDepth 100000 in
theorem refname_any (s : ByteArray) (w : World) (hs : s.size ≤ 1000) : Calls Tryz.prog 56 #[.string s] w fun e w' => e = .returned (.bool (isNm s)) ∧ w' = w := by
 have hsi : (s.size : Int) ≤ 1000 := by omega
 by_cases h0 : s.size = 0
 ·have R := hid (isNm_none s h0)
  have q : (s.size : Int) < 1 := by omega
  clear h0
  go_enter Tryz.func56, Tryz.ntmps56
  go_wp2
  go_ret
  exact ⟨by rw [R.out]; rfl, rfl⟩
 ·by_cases h8 : 8 < s.size
  ·have R := hid (isNm_long s h8)
   have q : ¬ ((s.size : Int) < 1) := by omega
   have q8 : (8 : Int) < (s.size : Int) := by omega
   clear h0
   go_enter Tryz.func56, Tryz.ntmps56
   go_wp2
   go_ret
   exact ⟨by rw [R.out]; rfl, rfl⟩
  ·have q : ¬ ((s.size : Int) < 1) := by omega
   have q8 : ¬ ((8 : Int) < (s.size : Int)) := by omega
   go_enter Tryz.func56, Tryz.ntmps56
   go_wp2
   go_loop [3] (fun i => ∃ k : Nat, k ≤ s.size ∧ i = .int .i64 (k : Int) ∧ Hid ((s.data.toList.take k).all lowB = true)) (fun i => s.size - (intOf i).toNat)
   case atStart => exact ⟨0, Nat.zero_le _, rfl, rfl⟩
   case round =>
    obtain ⟨k, hk, rfl, HA⟩ := hrel
    by_cases hlt : k < s.size
    ·have AN := hid (all_next s k hlt)
     have LI := low_iff s[k]
     by_cases hb : lowB s[k] = true
     ·have hb' : 97 ≤ (s[k].toNat : Int) ∧ (s[k].toNat : Int) ≤ 122 := by rw [LI] at hb; simpa using hb
      obtain ⟨hb1, hb2⟩ := hb'
      have R : Hid ((s.data.toList.take (k + 1)).all lowB = true) := by show _ = _; rw [AN.out, HA.out, hb]; rfl
      clear LI hb
      go_wp2
      go_round
      case rel => exact ⟨k + 1, by omega, by go_num, R.out⟩
      case measure => simp [intOf]; omega
     ·have hbf : lowB s[k] = false := by simpa using hb
      have R := hid (isNm_bad s k hlt hbf)
      have hb' : ¬ (97 ≤ (s[k].toNat : Int) ∧ (s[k].toNat : Int) ≤ 122) := by rw [LI] at hb; simpa using hb
      clear LI hb hbf
      by_cases hc : (s[k].toNat : Int) < 97
      ·go_wp2
       go_ret
       exact ⟨by rw [R.out]; rfl, rfl⟩
      ·have hd : (122 : Int) < (s[k].toNat : Int) := by omega
       go_wp2
       go_ret
       exact ⟨by rw [R.out]; rfl, rfl⟩
    ·have R : Hid (isNm s = true) := isNm_all s (by omega) (by omega) (by rw [← HA.out, show k = s.size by omega])
     go_wp2
     go_ret
     exact ⟨by rw [R.out]; rfl, rfl⟩
theorem bytes_cell (w : World) (s : ByteArray) (cap e : Nat) (fr : Nat × Nat) (k : Nat) (hk : k < s.size) : (w.drew.alloc (.cells (bytesRow s cap) e fr)).cell? ⟨w.heap.size, k, none⟩ = some (.int .u8 (s[k].toNat : Int)) := by
 have h : (w.drew.alloc (.cells (bytesRow s cap) e fr)).heap[w.heap.size]? = some (.cells (bytesRow s cap) e fr) := heap_alloc_new w.drew _
 rw [cell_of_row _ _ k _ e fr h]
 exact bytesRow_at s cap k hk
set_option maxHeartbeats 800000 in
set_option maxRecDepth 100000 in
theorem isname_any (s : ByteArray) (w : World) (hs : s.size ≤ 1000) : Calls Tryz.prog 128 #[.string s] w fun e w' => e = .returned (.bool (isNm s)) ∧ Below w.heap.size w w' := by
 have hsi : (s.size : Int) ≤ 1000 := by omega
 by_cases h0 : s.toList = []
 ·have R : Hid (isNm s = false) := isNm_none s (by rw [Lib.size_eq, ← Lib.toList_data, h0]; rfl)
  go_enter Tryz.func128, Tryz.ntmps128
  go_wp2_with fail
  go_ret
  exact ⟨by rw [R.out]; rfl, Below.refl _ _⟩
 ·have h1 : 1 ≤ s.size := by
   rcases Nat.eq_zero_or_pos s.size with h | h
   ·exfalso; apply h0; apply List.eq_nil_of_length_eq_zero; rw [Lib.toList_data, ← Lib.size_eq]; exact h
   ·exact h
  have hie : s.toList.isEmpty = false := by simpa using h0
  by_cases h8 : 8 < s.size
  ·have q8 : (8 : Int) < (s.size : Int) := by omega
   have R := hid (isNm_long s h8)
   go_enter Tryz.func128, Tryz.ntmps128
   go_wp2_with fail
   go_ret
   exact ⟨by rw [R.out]; rfl, Below.refl _ _⟩
  ·have q8 : ¬ ((8 : Int) < (s.size : Int)) := by omega
   have hcv := run_bytes_of_string (P := Tryz.prog) w 9 201 5 s Tryz.underlying9 Tryz.underlying201 Tryz.underlying5
   have BC := hid (bytes_cell w s (grownCap w s.size 0 5) 5 ((bytesRow s (grownCap w s.size 0 5)).size, (bytesRow s (grownCap w s.size 0 5)).size + 1))
   have BB : Hid (Below w.heap.size w (w.drew.alloc (.cells (bytesRow s (grownCap w s.size 0 5)) 5 ((bytesRow s (grownCap w s.size 0 5)).size, (bytesRow s (grownCap w s.size 0 5)).size + 1)))) := (Below.refl _ _).drew.alloc (Nat.le_refl _) _
   generalize w.drew.alloc (.cells (bytesRow s (grownCap w s.size 0 5)) 5 ((bytesRow s (grownCap w s.size 0 5)).size, (bytesRow s (grownCap w s.size 0 5)).size + 1)) = w2 at *
   generalize grownCap w s.size 0 5 = cap at *
   go_enter Tryz.func128, Tryz.ntmps128
   go_wp2_with fail
   go_loop [4, 15] (fun _ i => ∃ k : Nat, k ≤ s.size ∧ i = .int .i64 (k : Int) ∧ Hid ((s.data.toList.take k).all lowB = true)) (fun _ i => s.size - (intOf i).toNat)
   case atStart => exact ⟨0, Nat.zero_le _, rfl, rfl⟩
   case round =>
    obtain ⟨k, hk, rfl, HA⟩ := hrel
    by_cases hlt : k < s.size
    ·have AN := hid (all_next s k hlt)
     have LI := low_iff s[k]
     have hki : (k : Int) < (s.size : Int) := by omega
     have hc := BC.out k hlt
     by_cases hb : lowB s[k] = true
     ·have hb' : 97 ≤ (s[k].toNat : Int) ∧ (s[k].toNat : Int) ≤ 122 := by rw [LI] at hb; simpa using hb
      have R : Hid ((s.data.toList.take (k + 1)).all lowB = true) := by show _ = _; rw [AN.out, HA.out, hb]; rfl
      clear LI hb AN
      generalize (s[k].toNat : Int) = x at *
      obtain ⟨hb1, hb2⟩ := hb'
      go_wp2_with fail
      go_round
      case rel => exact ⟨k + 1, by omega, by go_num, R.out⟩
      case measure => simp [intOf]; omega
     ·have hbf : lowB s[k] = false := by simpa using hb
      have R := hid (isNm_bad s k hlt hbf)
      have hb' : ¬ (97 ≤ (s[k].toNat : Int) ∧ (s[k].toNat : Int) ≤ 122) := by rw [LI] at hb; simpa using hb
      clear LI hb hbf AN
      generalize (s[k].toNat : Int) = x at *
      by_cases hc : x < 97
      ·go_wp2_with fail
       go_ret
       exact ⟨by rw [R.out]; rfl, BB.out⟩
      ·have hd : (122 : Int) < x := by omega
       go_wp2_with fail
       go_ret
       exact ⟨by rw [R.out]; rfl, BB.out⟩
    ·have R : Hid (isNm s = true) := isNm_all s (by omega) (by omega) (by rw [← HA.out, show k = s.size by omega])
     have hki : ¬ ((k : Int) < (s.size : Int)) := by omega
     go_wp2_with fail
     go_ret
     exact ⟨by rw [R.out]; rfl, BB.out⟩
end Sc
namespace Sc
open Go.RowKit Go.Shelf Go.Maps
theorem keyed9 : Keyed Tryz.prog 9 := string_keyed Tryz.underlying9
theorem zero95 (w : World) : (zeroValue 212).run Tryz.prog w = .ok (.agg #[]) w := by kernel_rfl
def litS (s : ByteArray) : Lit := .string s.data.toList
def SetN (acc : List ByteArray) : DataW Unit := Maps.setOf (.agg []) (acc.map litS)
theorem litS_key (acc : List ByteArray) : ∀ x ∈ acc.map litS, WideAt.IsKeyLit x := by
 intro x hx
 obtain ⟨s, -, rfl⟩ := List.mem_map.1 hx
 exact trivial
def memB (acc : List ByteArray) (s : ByteArray) : Bool := acc.any fun x => x.data.toList == s.data.toList
theorem memB_iff (acc : List ByteArray) (s : ByteArray) : memB acc s = true ↔ s ∈ acc := by
 unfold memB
 rw [List.any_eq_true]
 constructor
 ·rintro ⟨x, hx, h⟩
  have : x = s := ByteArray.ext (Array.toList_inj.1 (by simpa using h))
  exact this ▸ hx
 ·intro h
  exact ⟨s, h, by simp⟩
theorem has_SetN (acc : List ByteArray) (s : ByteArray) : Maps.has (SetN acc) (litS s) = memB acc s := by
 unfold SetN memB
 rw [Maps.has_setOf _ _ _ (litS_key acc), List.any_map]
 rfl
theorem SetN_snoc (acc : List ByteArray) (s : ByteArray) : SetN (acc ++ [s]) = (SetN acc).put (litS s) (.agg []) := by
 unfold SetN
 rw [List.map_append]
 exact Maps.setOf_snoc _ _ _
def MapN (W : World) (mb n : Nat) (acc : List ByteArray) : Prop := W.ownsMap Tryz.prog 9 (unitElem (H := Unit)) mb n (SetN acc)
def nErr (acc : List ByteArray) (s : ByteArray) : List Nat := if isNm s then (if memB acc s then [9] else []) else [10]
def seenB (acc : List ByteArray) (s : ByteArray) : List ByteArray := if isNm s && !memB acc s then acc ++ [s] else acc
def errV (Ad : Nat → Addr) : List Nat → Value
 | [] => .nilIface
 | k :: _ => .iface 278 (.pointer (some (Ad k)))
theorem grown_of_below {W W' : World} (h : Below W.heap.size W W') (row : Option Nat) : W.grownBy W' row := ⟨h.os, h.tape, h.output, h.size, fun k hk _ => h.block k hk⟩
theorem MapN.later {W W' : World} {mb n : Nat} {acc : List ByteArray} (h : MapN W mb n acc) (hb : Below W.heap.size W W') : MapN W' mb n acc := World.ownsMap.kept h (grown_of_below hb none) (by simp)
set_option maxHeartbeats 800000 in
theorem take_any (Ad : Nat → Addr) (W : World) (hE : Env8 W Ad) (mb n : Nat) (acc : List ByteArray) (hm : MapN W mb n acc) (hn : n ≤ 1000) (s : ByteArray) (hs : s.size ≤ 1000) :
  Calls Tryz.prog 102 #[.map (some mb), .string s] W fun e W' => e = .returned (errV Ad (nErr acc s)) ∧ MapN W' mb (n + 1) (seenB acc s) ∧ W.grownBy W' (some mb) := by
 have IC := hid (isname_any s W hs)
 have HM := hid hm
 have HE := hid hE
 have hkey : keyOf Tryz.prog 9 (.string s) = some (litS s) := WideMaps.keyOf_string_mk Tryz.underlying9 (by unfold maxLen; omega)
 have HK := hid hkey
 clear hm hE hkey
 by_cases hi : isNm s = true
 ·rw [hi] at IC
  go_enter Tryz.func102, Tryz.ntmps102
  go_wp2_with fail
  refine IC.out.mono ?_
  rintro e w1 ⟨rfl, hb1⟩
  have B1 := hid hb1
  have M1 := hid (HM.out.later hb1)
  have e9 : w1.cell? ⟨1, 0, none⟩ = some (.iface 278 (.pointer (some (Ad 9)))) := (HE.out.later hb1).cell 9 (by decide) (by decide)
  clear hb1 IC
  by_cases hmem : memB acc s = true
  ·have R : Hid (errV Ad (nErr acc s) = .iface 278 (.pointer (some (Ad 9)))) := by show _ = _; simp [nErr, hi, hmem, errV]
   have R2 : Hid (seenB acc s = acc) := by show _ = _; simp [seenB, hmem]
   have hh : Maps.has (SetN acc) (litS s) = true := by rw [has_SetN]; exact hmem
   have h3 : 1 < w1.heap.size := World.block_lt_of_cell? w1 _ e9
   have h3n : ¬ (1 = w1.heap.size) := by omega
   clear hmem hi
   go_wp2_with (at_lookup; refine wpList_lookup_own_unit _ rfl _ _ 175 rfl 9 212 keyed9 Tryz.underlying175 (zero95 _) mb n (SetN acc) rfl M1.out _ _ rfl HK.out ?_; rw [hh])
   go_ret
   refine ⟨by rw [R.out]; rfl, ?_, ?_⟩
   ·rw [R2.out]
    exact (World.ownsMap.alloc M1.out _).mono (Nat.le_succ _)
   ·exact (grown_of_below B1.out _).trans (World.grownBy_alloc _ _ _)
  ·have hmf : memB acc s = false := by simpa using hmem
   have R : Hid (errV Ad (nErr acc s) = .nilIface) := by show _ = _; simp [nErr, hi, hmf, errV]
   have R2 : Hid (seenB acc s = acc ++ [s]) := by show _ = _; simp [seenB, hi, hmf]
   have hh : Maps.has (SetN acc) (litS s) = false := by rw [has_SetN]; exact hmf
   have MA := hid (World.ownsMap.alloc M1.out (.cells #[] 212))
   clear hmem hi hmf e9
   go_wp2_with (first | (at_lookup; refine wpList_lookup_own_unit _ rfl _ _ 175 rfl 9 212 keyed9 Tryz.underlying175 (zero95 _) mb n (SetN acc) rfl M1.out _ _ rfl HK.out ?_; rw [hh]) | (at_mapUpdate; refine wpList_mapUpdate_own _ rfl _ _ _ 175 rfl 9 212 keyed9 Tryz.underlying175 (unitElem (H := Unit)) mb n (SetN acc) rfl MA.out (by unfold maxLen; omega) _ _ _ rfl rfl HK.out (.agg []) [] unitElem_mk ?_; intro w2 hown2 hg2))
   go_ret
   refine ⟨by rw [R.out]; rfl, ?_, ?_⟩
   ·rw [R2.out]
    show World.ownsMap _ _ _ _ _ _ _
    rw [SetN_snoc]
    exact hown2
   ·exact ((grown_of_below B1.out _).trans (World.grownBy_alloc _ _ _)).trans hg2
 ·have hif : isNm s = false := by simpa using hi
  rw [hif] at IC
  have R : Hid (errV Ad (nErr acc s) = .iface 278 (.pointer (some (Ad 10)))) := by show _ = _; simp [nErr, hif, errV]
  have R2 : Hid (seenB acc s = acc) := by show _ = _; simp [seenB, hif]
  clear hi hif
  go_enter Tryz.func102, Tryz.ntmps102
  go_wp2_with fail
  refine IC.out.mono ?_
  rintro e w1 ⟨rfl, hb1⟩
  have B1 := hid hb1
  have M1 := hid (HM.out.later hb1)
  have e10 : w1.cell? ⟨7, 0, none⟩ = some (.iface 278 (.pointer (some (Ad 10)))) := (HE.out.later hb1).cell 10 (by decide) (by decide)
  clear hb1 IC
  go_wp2_with fail
  go_ret
  exact ⟨by rw [R.out]; rfl, by rw [R2.out]; exact M1.out.mono (Nat.le_succ _), grown_of_below B1.out _⟩
end Sc
namespace Sc
open Go.RowKit Go.Shelf
def dig (i : Nat) : ByteArray := ⟨(Lib.decDigits i).toArray⟩
theorem itoa_any (i : Nat) (hi : i < 100) (w : World) : Calls Tryz.prog 113 #[.int .i64 (i : Int)] w fun e w' => e = .returned (.string (dig i)) ∧ w' = w := Tryz.strconv_Itoa_small i hi w
theorem sent_chn (Ad : Nat → Addr) (n₀ k : Nat) (W : World) (hk : 1 ≤ k ∧ k ≤ 18) : Chn Ad n₀ W 0 (.iface 278 (.pointer (some (Ad k)))) ([], k) := ⟨rfl, hk.1, hk.2, Nat.le_refl _⟩
set_option maxHeartbeats 800000 in
theorem wayat_any (Ad : Nat → Addr) (W : World) (l p : ByteArray) (i : Nat) (hi : i < 100) (ns : List Nat) (hl : ns.length ≤ 1) (hn : ∀ k ∈ ns, 1 ≤ k ∧ k ≤ 18) :
  Calls Tryz.prog 101 #[.string l, .int .i64 (i : Int), .string p, errV Ad ns] W fun e W' => ∃ v', e = .returned v' ∧ One Ad W'.heap.size W' v' (ns.map fun k => ([l, dig i, p], k)) ∧ Below W.heap.size W W' := by
 have IT := hid (itoa_any i hi W)
 match ns, hl, hn with
 | [], _, _ =>
  have A0 := hid (at_nil p W)
  have A1 := hid (at_nil (dig i) W)
  have A2 := hid (at_nil l W)
  unfold errV
  go_enter Tryz.func101, Tryz.ntmps101
  go_wp2_with fail
  refine IT.out.mono ?_
  rintro e w1 ⟨rfl, rfl⟩
  go_wp2_with fail
  refine A0.out.mono ?_
  rintro e w2 ⟨rfl, rfl⟩
  go_wp2_with fail
  refine A1.out.mono ?_
  rintro e w3 ⟨rfl, rfl⟩
  go_wp2_with fail
  refine A2.out.mono ?_
  rintro e w4 ⟨rfl, rfl⟩
  go_wp2_with fail
  go_ret
  exact ⟨_, rfl, .inl ⟨rfl, rfl⟩, Below.refl _ _⟩
 | [k], _, hn =>
  have hk := hn k (by simp)
  have A0 := hid (at_chain Ad p 0 _ _ W (sent_chn Ad W.heap.size k W hk))
  clear hn hk
  unfold errV
  go_enter Tryz.func101, Tryz.ntmps101
  go_wp2_with fail
  refine IT.out.mono ?_
  rintro e w1 ⟨rfl, rfl⟩
  go_wp2_with fail
  refine A0.out.mono ?_
  rintro e w2 ⟨v2, rfl, h2, b2⟩
  have A1 := hid (at_chain Ad (dig i) _ _ _ w2 h2)
  have B2 := hid b2
  clear h2 b2 A0
  go_wp2_with fail
  refine A1.out.mono ?_
  rintro e w3 ⟨v3, rfl, h3, b3⟩
  have A2 := hid (at_chain Ad l _ _ _ w3 h3)
  have B3 := hid (B2.out.trans (b3.mono B2.out.size))
  clear h3 b3 A1 B2
  go_wp2_with fail
  refine A2.out.mono ?_
  rintro e w4 ⟨v4, rfl, h4, b4⟩
  have H4 := hid h4
  have B4 := hid (B3.out.trans (b4.mono B3.out.size))
  clear h4 b4 A2 B3
  go_wp2_with fail
  go_ret
  exact ⟨_, rfl, .inr ⟨_, rfl, H4.out⟩, B4.out⟩
 | _ :: _ :: _, h, _ => simp at h
set_option maxHeartbeats 800000 in
theorem toomany_any (Ad : Nat → Addr) (W : World) (hE : Env8 W Ad) (l : ByteArray) (n m : Int) :
  Calls Tryz.prog 100 #[.string l, .int .i64 n, .int .i64 m] W fun e W' => ∃ v', e = .returned v' ∧ One Ad W'.heap.size W' v' (if m < n then [([l], 4)] else []) ∧ Below W.heap.size W W' := by
 have e4 : W.cell? ⟨6, 0, none⟩ = some (.iface 278 (.pointer (some (Ad 4)))) := hE.cell 4 (by decide) (by decide)
 clear hE
 by_cases h : m < n
 ·have A0 := hid (at_chain Ad l 0 _ _ W (sent_chn Ad W.heap.size 4 W (by decide)))
  rw [if_pos h]
  go_enter Tryz.func100, Tryz.ntmps100
  go_wp2_with fail
  refine A0.out.mono ?_
  rintro e w2 ⟨v2, rfl, h2, b2⟩
  have H2 := hid h2
  have B2 := hid b2
  clear h2 b2
  go_wp2_with fail
  go_ret
  exact ⟨_, rfl, .inr ⟨_, rfl, ⟨H2.out.1, H2.out.2.1, H2.out.2.2.1, by simp⟩⟩, B2.out⟩
 ·rw [if_neg h]
  go_enter Tryz.func100, Tryz.ntmps100
  go_wp2_with fail
  go_ret
  exact ⟨_, rfl, .inl ⟨rfl, rfl⟩, Below.refl _ _⟩
structure Cmp where
 s : ByteArray
 wd : Int
 rb : Bool
 d0 : Int
 d1 : Int
 d2 : Int
 d3 : Int
def Cmp.val (c : Cmp) : Value := .agg #[.string c.s, .int .i64 c.wd, .bool c.rb, .int .i64 c.d0, .int .i64 c.d1, .int .i64 c.d2, .int .i64 c.d3]
def wOk (c : Cmp) : Bool := decide (1 ≤ c.wd) && decide (c.wd ≤ 4)
theorem wOk_no (c : Cmp) (h : ¬ (1 ≤ c.wd ∧ c.wd ≤ 4)) : wOk c = false := by
 unfold wOk
 by_cases h1 : 1 ≤ c.wd
 ·have h2 : ¬ c.wd ≤ 4 := fun h2 => h ⟨h1, h2⟩
  simp [h2]
 ·simp [h1]
theorem wOk_yes (c : Cmp) (h : 1 ≤ c.wd ∧ c.wd ≤ 4) : wOk c = true := by
 unfold wOk
 simp [h.1, h.2]
set_option maxHeartbeats 800000 in
theorem fits_any (W : World) (c : Cmp) : Calls Tryz.prog 129 #[c.val] W fun e W' => e = .returned (.bool (wOk c)) ∧ Below W.heap.size W W' := by
 by_cases h : 1 ≤ c.wd ∧ c.wd ≤ 4
 ·rw [wOk_yes c h]
  obtain ⟨s, wd, rb, d0, d1, d2, d3⟩ := c
  obtain ⟨h1, h2⟩ := h
  simp only [] at h1 h2
  unfold Cmp.val
  go_enter Tryz.func129, Tryz.ntmps129
  go_wp2_with fail
  go_ret
  exact ⟨rfl, (Below.refl _ _).alloc (Nat.le_refl _) _⟩
 ·rw [wOk_no c h]
  obtain ⟨s, wd, rb, d0, d1, d2, d3⟩ := c
  simp only [] at h
  unfold Cmp.val
  by_cases h1 : 1 ≤ wd
  ·have h2 : ¬ wd ≤ 4 := fun h2 => h ⟨h1, h2⟩
   clear h
   go_enter Tryz.func129, Tryz.ntmps129
   go_wp2_with fail
   go_ret
   exact ⟨rfl, (Below.refl _ _).alloc (Nat.le_refl _) _⟩
  ·clear h
   go_enter Tryz.func129, Tryz.ntmps129
   go_wp2_with fail
   go_ret
   exact ⟨rfl, (Below.refl _ _).alloc (Nat.le_refl _) _⟩
def wErr (c : Cmp) : List Nat := if wOk c then [] else [1]
set_option maxHeartbeats 800000 in
theorem width_any (Ad : Nat → Addr) (W : World) (hE : Env8 W Ad) (c : Cmp) : Calls Tryz.prog 103 #[c.val] W fun e W' => e = .returned (errV Ad (wErr c)) ∧ Below W.heap.size W W' := by
 have HE := hid hE
 clear hE
 have FC := hid (fun W' => fits_any W' c)
 cases hw : wOk c with
 | true =>
  rw [show errV Ad (wErr c) = .nilIface by simp [wErr, hw, errV]]
  rw [hw] at FC
  clear hw
  obtain ⟨s, wd, rb, d0, d1, d2, d3⟩ := c
  unfold Cmp.val at FC ⊢
  have BA : Hid (Below W.heap.size W (W.alloc (.cells #[.string s, .int .i64 wd, .bool rb, .int .i64 d0, .int .i64 d1, .int .i64 d2, .int .i64 d3] 99))) := (Below.refl _ _).alloc (Nat.le_refl _) _
  go_enter Tryz.func103, Tryz.ntmps103
  go_wp2_with fail
  refine (FC.out _).mono ?_
  rintro e w1 ⟨rfl, hb1⟩
  have B1 := hid (BA.out.trans (hb1.mono BA.out.size))
  clear hb1 FC
  go_wp2_with fail
  go_ret
  exact ⟨rfl, B1.out⟩
 | false =>
  rw [show errV Ad (wErr c) = .iface 278 (.pointer (some (Ad 1))) by simp [wErr, hw, errV]]
  rw [hw] at FC
  clear hw
  obtain ⟨s, wd, rb, d0, d1, d2, d3⟩ := c
  unfold Cmp.val at FC ⊢
  have BA : Hid (Below W.heap.size W (W.alloc (.cells #[.string s, .int .i64 wd, .bool rb, .int .i64 d0, .int .i64 d1, .int .i64 d2, .int .i64 d3] 99))) := (Below.refl _ _).alloc (Nat.le_refl _) _
  go_enter Tryz.func103, Tryz.ntmps103
  go_wp2_with fail
  refine (FC.out _).mono ?_
  rintro e w1 ⟨rfl, hb1⟩
  have B1 := hid (BA.out.trans (hb1.mono BA.out.size))
  have e1 : w1.cell? ⟨0, 0, none⟩ = some (.iface 278 (.pointer (some (Ad 1)))) := (HE.out.later B1.out).cell 1 (by decide) (by decide)
  clear hb1 FC
  go_wp2_with fail
  go_ret
  exact ⟨rfl, B1.out⟩
set_option maxHeartbeats 800000 in
theorem nz_any (n : Int) (W : World) : Calls Tryz.prog 131 #[.int .i64 n] W fun e W' => e = .returned (.bool (n != 0)) ∧ W' = W := by
 go_enter Tryz.func131, Tryz.ntmps131
 go_wp2_with fail
 go_ret
 exact ⟨rfl, rfl⟩
def IntRow (W : World) (v : Value) (ds : List Int) : Prop := ∃ a c, v = .slice a ds.length c ∧ (ds = [] ∨ ∃ b o, a = some ⟨b, o, none⟩ ∧ ∀ (j : Nat) x, ds[j]? = some x → W.cell? ⟨b, o + j, none⟩ = some (.int .i64 x))
def nzB (n : Int) : Bool := n != 0
set_option maxHeartbeats 800000 in
set_option maxRecDepth 100000 in
theorem idx_any (W : World) (v : Value) (ds : List Int) (h : IntRow W v ds) (hl : ds.length ≤ 1000) :
  Calls Tryz.prog 147 #[v, .func (.func 131) #[] #[]] W fun e W' => (∃ i : Int, e = .returned (.int .i64 i) ∧ decide (0 ≤ i) = ds.any nzB) ∧ W' = W := by
 obtain ⟨a, c, rfl, h1⟩ := h
 have H1 := hid h1
 have hli : (ds.length : Int) ≤ 1000 := by omega
 clear h1
 go_enter Tryz.func147, Tryz.ntmps147
 go_wp2_with fail
 go_loop [5, 8] (fun _ i => ∃ k : Nat, k ≤ ds.length ∧ i = .int .i64 (k : Int) ∧ Hid ((ds.take k).any nzB = false)) (fun _ i => ds.length - (intOf i).toNat)
 case atStart => exact ⟨0, Nat.zero_le _, rfl, rfl⟩
 case round =>
  obtain ⟨k, hk, rfl, HN⟩ := hrel
  by_cases hlt : k < ds.length
  ·have hki : (k : Int) < (ds.length : Int) := by omega
   obtain ⟨x, hx⟩ := at_lt ds k hlt
   obtain ⟨b, o, rfl, hc⟩ : ∃ b o, a = some ⟨b, o, none⟩ ∧ ∀ (j : Nat) x, ds[j]? = some x → W.cell? ⟨b, o + j, none⟩ = some (.int .i64 x) := by
    rcases H1.out with h | h
    ·rw [h] at hlt; simp at hlt
    ·exact h
   have c0 := hc k x hx
   have HX := hid hx
   have TN := hid (take_next hx)
   have NZ := hid (nz_any x W)
   clear hc hx
   go_wp2_with fail
   refine NZ.out.mono ?_
   rintro e w1 ⟨rfl, rfl⟩
   by_cases hz : x = 0
   ·have q : (x != 0) = false := by simp [hz]
    have R : Hid ((ds.take (k + 1)).any nzB = false) := by show _ = _; rw [TN.out, List.any_append, HN.out]; simp [nzB, hz]
    rw [q]
    clear q hz NZ
    go_wp2_with fail
    go_round
    case rel => exact ⟨k + 1, by omega, by go_num, R.out⟩
    case measure => simp [intOf]; omega
   ·have q : (x != 0) = true := by simp [hz]
    have R : Hid (ds.any nzB = true) := List.any_eq_true.2 ⟨x, List.mem_of_getElem? HX.out, by simp [nzB, hz]⟩
    rw [q]
    clear q hz NZ
    go_wp2_with fail
    go_ret
    exact ⟨⟨(k : Int), rfl, by rw [R.out]; simp⟩, rfl⟩
  ·have hki : ¬ ((k : Int) < (ds.length : Int)) := by omega
   have R : Hid (ds.any nzB = false) := by show _ = _; rw [← HN.out, List.take_of_length_le (by omega)]
   go_wp2_with fail
   go_ret
   exact ⟨⟨-1, rfl, by rw [R.out]; rfl⟩, rfl⟩
set_option maxHeartbeats 800000 in
theorem contains_any (W : World) (v : Value) (ds : List Int) (h : IntRow W v ds) (hl : ds.length ≤ 1000) :
  Calls Tryz.prog 130 #[v, .func (.func 131) #[] #[]] W fun e W' => e = .returned (.bool (ds.any nzB)) ∧ W' = W := by
 have IC := hid (idx_any W v ds h hl)
 obtain ⟨a, c, rfl, -⟩ := h
 go_enter Tryz.func130, Tryz.ntmps130
 go_wp2_with fail
 refine IC.out.mono ?_
 rintro e w1 ⟨⟨i, rfl, hi⟩, rfl⟩
 have HI := hid hi
 clear hi IC
 go_wp2_with fail
 go_ret
 exact ⟨by rw [← HI.out]; rfl, rfl⟩
def behind (c : Cmp) : List Int := [c.d0, c.d1, c.d2, c.d3].drop c.wd.toNat
def dErr (c : Cmp) : List Nat := if wOk c && (behind c).any nzB then [1] else []
set_option maxHeartbeats 1600000 in
theorem default_any (Ad : Nat → Addr) (W : World) (hE : Env8 W Ad) (c : Cmp) : Calls Tryz.prog 104 #[c.val] W fun e W' => e = .returned (errV Ad (dErr c)) ∧ Below W.heap.size W W' := by
 have HE := hid hE
 clear hE
 have FC := hid (fun W' => fits_any W' c)
 by_cases hw : 1 ≤ c.wd ∧ c.wd ≤ 4
 ·have hwt := wOk_yes c hw
  rw [hwt] at FC
  have BA : Hid (Below W.heap.size W (W.alloc (.cells #[.string c.s, .int .i64 c.wd, .bool c.rb, .int .i64 c.d0, .int .i64 c.d1, .int .i64 c.d2, .int .i64 c.d3] 99))) := (Below.refl _ _).alloc (Nat.le_refl _) _
  have CC : Hid (∀ (W' : World) (v : Value), Below (W.heap.size + 1) (W.alloc (.cells #[.string c.s, .int .i64 c.wd, .bool c.rb, .int .i64 c.d0, .int .i64 c.d1, .int .i64 c.d2, .int .i64 c.d3] 99)) W' → (∃ a cc, v = .slice a (behind c).length cc ∧ ((behind c) = [] ∨ a = some ⟨W.heap.size, 3 + c.wd.toNat, none⟩)) →
    Calls Tryz.prog 130 #[v, .func (.func 131) #[] #[]] W' fun e W'' => e = .returned (.bool ((behind c).any nzB)) ∧ W'' = W') := by
   intro W' v hb ⟨a, cc, hv, ha⟩
   refine contains_any W' v (behind c) ⟨a, cc, hv, ha.imp id fun ha => ⟨W.heap.size, 3 + c.wd.toNat, ha, fun j x hx => ?_⟩⟩ (by simp [behind]; omega)
   unfold behind at hx
   rw [List.getElem?_drop] at hx
   rw [hb.cell (p := ⟨W.heap.size, 3 + c.wd.toNat + j, none⟩) (by simp), cell_of_row _ _ _ _ 99 (0, 0) (heap_alloc_new W _)]
   rw [show 3 + c.wd.toNat + j = 3 + (c.wd.toNat + j) by omega]
   generalize c.wd.toNat + j = m at *
   match m, hx with
   | 0, hx => simpa using hx
   | 1, hx => simpa using hx
   | 2, hx => simpa using hx
   | 3, hx => simpa using hx
   | m + 4, hx => simp at hx
  have hcase : c.wd = 1 ∨ c.wd = 2 ∨ c.wd = 3 ∨ c.wd = 4 := by omega
  cases ha : (behind c).any nzB with
  | false =>
   rw [show errV Ad (dErr c) = .nilIface by simp [dErr, hwt, ha, errV]]
   rw [ha] at CC
   clear hwt ha hw
   obtain ⟨s, wd, rb, d0, d1, d2, d3⟩ := c
   simp only [] at hcase
   unfold Cmp.val at FC ⊢
   rcases hcase with rfl | rfl | rfl | rfl
   all_goals
    go_enter Tryz.func104, Tryz.ntmps104
    go_wp2_with fail
    refine (FC.out _).mono ?_
    rintro e w1 ⟨rfl, hb1⟩
    have B1 := hid (BA.out.trans (hb1.mono BA.out.size))
    have hc1 : w1.cell? ⟨W.heap.size, 1, none⟩ = _ := (hb1.cell (p := ⟨W.heap.size, 1, none⟩) (by simp)).trans (by rw [cell_of_row _ _ _ _ 99 (0, 0) (heap_alloc_new W _)])
    have CD := hid (CC.out w1)
    have HB1 := hid hb1
    clear hb1 FC CC
    go_wp2_with fail
    refine (CD.out _ (by simpa using HB1.out) ⟨_, _, rfl, by first | exact .inr rfl | exact .inl rfl⟩).mono ?_
    rintro e w2 ⟨rfl, rfl⟩
    clear CD
    go_wp2_with fail
    go_ret
    exact ⟨rfl, B1.out⟩
  | true =>
   rw [show errV Ad (dErr c) = .iface 278 (.pointer (some (Ad 1))) by simp [dErr, hwt, ha, errV]]
   rw [ha] at CC
   clear hwt ha hw
   obtain ⟨s, wd, rb, d0, d1, d2, d3⟩ := c
   simp only [] at hcase
   unfold Cmp.val at FC ⊢
   rcases hcase with rfl | rfl | rfl | rfl
   all_goals
    go_enter Tryz.func104, Tryz.ntmps104
    go_wp2_with fail
    refine (FC.out _).mono ?_
    rintro e w1 ⟨rfl, hb1⟩
    have B1 := hid (BA.out.trans (hb1.mono BA.out.size))
    have hc1 : w1.cell? ⟨W.heap.size, 1, none⟩ = _ := (hb1.cell (p := ⟨W.heap.size, 1, none⟩) (by simp)).trans (by rw [cell_of_row _ _ _ _ 99 (0, 0) (heap_alloc_new W _)])
    have e1 : w1.cell? ⟨0, 0, none⟩ = some (.iface 278 (.pointer (some (Ad 1)))) := (HE.out.later B1.out).cell 1 (by decide) (by decide)
    have CD := hid (CC.out w1)
    have HB1 := hid hb1
    clear hb1 FC CC
    go_wp2_with fail
    refine (CD.out _ (by simpa using HB1.out) ⟨_, _, rfl, by first | exact .inr rfl | exact .inl rfl⟩).mono ?_
    rintro e w2 ⟨rfl, rfl⟩
    clear CD
    go_wp2_with fail
    go_ret
    exact ⟨rfl, B1.out⟩
 ·have hwf := wOk_no c hw
  rw [hwf] at FC
  rw [show errV Ad (dErr c) = .nilIface by simp [dErr, hwf, errV]]
  obtain ⟨s, wd, rb, d0, d1, d2, d3⟩ := c
  unfold Cmp.val at FC ⊢
  have BA : Hid (Below W.heap.size W (W.alloc (.cells #[.string s, .int .i64 wd, .bool rb, .int .i64 d0, .int .i64 d1, .int .i64 d2, .int .i64 d3] 99))) := (Below.refl _ _).alloc (Nat.le_refl _) _
  clear hw hwf
  go_enter Tryz.func104, Tryz.ntmps104
  go_wp2_with fail
  refine (FC.out _).mono ?_
  rintro e w1 ⟨rfl, hb1⟩
  have B1 := hid (BA.out.trans (hb1.mono BA.out.size))
  clear hb1 FC
  go_wp2_with fail
  go_ret
  exact ⟨rfl, B1.out⟩
structure Rsc where
 s : ByteArray
 n : Int
def CmpRow (W : World) (v : Value) (cs : List Cmp) : Prop := ∃ a c, v = .slice a cs.length c ∧ cs.length ≤ c ∧ (cs = [] ∨ ∃ b o, a = some ⟨b, o, none⟩ ∧ ∀ (j : Nat) (x : Cmp), cs[j]? = some x →
 W.cell? ⟨b, o + j * 7, none⟩ = some (.string x.s) ∧ W.cell? ⟨b, o + j * 7 + 1, none⟩ = some (.int .i64 x.wd) ∧ W.cell? ⟨b, o + j * 7 + 2, none⟩ = some (.bool x.rb) ∧ W.cell? ⟨b, o + j * 7 + 3, none⟩ = some (.int .i64 x.d0) ∧ W.cell? ⟨b, o + j * 7 + 4, none⟩ = some (.int .i64 x.d1) ∧ W.cell? ⟨b, o + j * 7 + 5, none⟩ = some (.int .i64 x.d2) ∧ W.cell? ⟨b, o + j * 7 + 6, none⟩ = some (.int .i64 x.d3))
def RscRow (W : World) (v : Value) (rs : List Rsc) : Prop := ∃ a c, v = .slice a rs.length c ∧ rs.length ≤ c ∧ (rs = [] ∨ ∃ b o, a = some ⟨b, o, none⟩ ∧ ∀ (j : Nat) (x : Rsc), rs[j]? = some x →
 W.cell? ⟨b, o + j * 2, none⟩ = some (.string x.s) ∧ W.cell? ⟨b, o + j * 2 + 1, none⟩ = some (.int .i64 x.n))
theorem CmpRow.later {W W' : World} {v : Value} {cs : List Cmp} (h : CmpRow W v cs) (hb : Below W.heap.size W W') : CmpRow W' v cs := by
 obtain ⟨a, c, h1, h2, h3⟩ := h
 refine ⟨a, c, h1, h2, h3.imp id ?_⟩
 rintro ⟨b, o, ha, hc⟩
 refine ⟨b, o, ha, fun j x hx => ?_⟩
 obtain ⟨c0, c1, c2, c3, c4, c5, c6⟩ := hc j x hx
 have S := fun {p : Addr} {u : Value} (h : W.cell? p = some u) => Below.seen hb (Nat.le_refl _) h
 exact ⟨S c0, S c1, S c2, S c3, S c4, S c5, S c6⟩
theorem RscRow.later {W W' : World} {v : Value} {rs : List Rsc} (h : RscRow W v rs) (hb : Below W.heap.size W W') : RscRow W' v rs := by
 obtain ⟨a, c, h1, h2, h3⟩ := h
 refine ⟨a, c, h1, h2, h3.imp id ?_⟩
 rintro ⟨b, o, ha, hc⟩
 refine ⟨b, o, ha, fun j x hx => ?_⟩
 obtain ⟨c0, c1⟩ := hc j x hx
 exact ⟨Below.seen hb (Nat.le_refl _) c0, Below.seen hb (Nat.le_refl _) c1⟩
abbrev Leaves := List (List ByteArray × Nat)
def bComps : ByteArray := ⟨#[99, 111, 109, 112, 111, 110, 101, 110, 116, 115]⟩
def bRes : ByteArray := ⟨#[114, 101, 115, 111, 117, 114, 99, 101, 115]⟩
def bName : ByteArray := ⟨#[110, 97, 109, 101]⟩
def bWidth : ByteArray := ⟨#[119, 105, 100, 116, 104]⟩
def bDefault : ByteArray := ⟨#[100, 101, 102, 97, 117, 108, 116]⟩
def at3 (l : ByteArray) (i : Nat) (p : ByteArray) (ns : List Nat) : Leaves := ns.map fun k => ([l, dig i, p], k)
def seenTo (ns : List ByteArray) : List ByteArray := ns.foldl seenB []
theorem seenTo_snoc (ns : List ByteArray) (s : ByteArray) : seenTo (ns ++ [s]) = seenB (seenTo ns) s := by simp [seenTo, List.foldl_append]
def leafC (acc : List ByteArray) (i : Nat) (c : Cmp) : Leaves := at3 bComps i bName (nErr acc c.s) ++ (at3 bComps i bWidth (wErr c) ++ at3 bComps i bDefault (dErr c))
def compL (cs : List Cmp) : Nat → Leaves
 | 0 => []
 | k + 1 => compL cs k ++ (match cs[k]? with | some c => leafC (seenTo ((cs.take k).map Cmp.s)) k c | none => [])
def resL (cs : List Cmp) (rs : List Rsc) : Nat → Leaves
 | 0 => []
 | k + 1 => resL cs rs k ++ (match rs[k]? with | some r => at3 bRes k bName (nErr (seenTo (cs.map Cmp.s ++ (rs.take k).map Rsc.s)) r.s) | none => [])
def manyL (l : ByteArray) (m n : Nat) : Leaves := if (m : Int) < (n : Int) then [([l], 4)] else []
def checkL (cs : List Cmp) (rs : List Rsc) : Leaves := manyL bComps 16 cs.length ++ compL cs cs.length ++ (manyL bRes 8 rs.length ++ resL cs rs rs.length)
theorem nErr_len (acc : List ByteArray) (s : ByteArray) : (nErr acc s).length ≤ 1 ∧ ∀ k ∈ nErr acc s, 1 ≤ k ∧ k ≤ 18 := by
 unfold nErr
 split
 ·split <;> simp
 ·simp
theorem wErr_len (c : Cmp) : (wErr c).length ≤ 1 ∧ ∀ k ∈ wErr c, 1 ≤ k ∧ k ≤ 18 := by
 unfold wErr
 split <;> simp
theorem dErr_len (c : Cmp) : (dErr c).length ≤ 1 ∧ ∀ k ∈ dErr c, 1 ≤ k ∧ k ≤ 18 := by
 unfold dErr
 split <;> simp
theorem at3_len (l : ByteArray) (i : Nat) (p : ByteArray) (ns : List Nat) : (at3 l i p ns).length = ns.length := by simp [at3]
theorem leafC_len (acc : List ByteArray) (i : Nat) (c : Cmp) : (leafC acc i c).length ≤ 3 := by
 have h1 := (nErr_len acc c.s).1
 have h2 := (wErr_len c).1
 have h3 := (dErr_len c).1
 simp only [leafC, List.length_append, at3_len]
 omega
theorem compL_len (cs : List Cmp) : ∀ k, (compL cs k).length ≤ 3 * k
 | 0 => by simp [compL]
 | k + 1 => by
  have ih := compL_len cs k
  simp only [compL, List.length_append]
  cases cs[k]? with
  | none => simp; omega
  | some c => have := leafC_len (seenTo ((cs.take k).map Cmp.s)) k c; simp only []; omega
theorem resL_len (cs : List Cmp) (rs : List Rsc) : ∀ k, (resL cs rs k).length ≤ k
 | 0 => by simp [resL]
 | k + 1 => by
  have ih := resL_len cs rs k
  simp only [resL, List.length_append]
  cases rs[k]? with
  | none => simp; omega
  | some r => have := (nErr_len (seenTo (cs.map Cmp.s ++ (rs.take k).map Rsc.s)) r.s).1; simp only [at3_len]; omega
structure Ckd (Ad : Nat → Addr) (w : World) (mb B n : Nat) (acc : List ByteArray) (ev : Value) (us : List (Value × Leaves)) (wr : World) : Prop where
 map : MapN wr mb n acc
 row : wr.ownsRow B 31 1 ev us.length (us.map Prod.fst)
 nt : ∀ g, ev.ownBlock = some g → NoText wr g
 one : ∀ u ∈ us, One Ad wr.heap.size wr u.1 u.2
 bel : Below w.heap.size w wr
 low : w.heap.size ≤ mb ∧ mb < B
 high : B ≤ wr.heap.size
theorem noText_map {W : World} {mb n : Nat} {acc : List ByteArray} (h : MapN W mb n acc) : NoText W mb := by
 intro s hs
 obtain ⟨es, clock, hb, -⟩ := h
 simp [World.cell?, hb] at hs
theorem NoText.later {W W' : World} {g : Nat} (h : NoText W g) (hb : W'.heap[g]? = W.heap[g]?) : NoText W' g := fun s hs => h s ((World.cell?_of_block (a := ⟨g, 0, none⟩) hb).symm.trans hs)
variable {Ad : Nat → Addr} {w wr w1 : World} {mb B n : Nat} {acc : List ByteArray} {ev : Value} {us : List (Value × Leaves)}
theorem Ckd.later (h : Ckd Ad w mb B n acc ev us wr) (hb : Below wr.heap.size wr w1) : Ckd Ad w mb B n acc ev us w1 :=
 ⟨h.map.later hb, own_more h.row hb, fun g hg => (h.nt g hg).later (hb.block g (h.row.lt g hg).2), fun u hu => (h.one u hu).move hb hb.size, h.bel.trans (hb.mono h.bel.size), h.low, Nat.le_trans h.high hb.size⟩
theorem Ckd.took {acc' : List ByteArray} (h : Ckd Ad w mb B n acc ev us wr) (hm : MapN w1 mb (n + 1) acc') (hg : wr.grownBy w1 (some mb)) : Ckd Ad w mb B (n + 1) acc' ev us w1 := by
 have hne : ∀ g, ev.ownBlock = some g → some g ≠ some mb := fun g hgb e => by
  have := (h.row.lt g hgb).1
  have := h.low.2
  simp at e; omega
 refine ⟨hm, h.row.kept hg ?_, fun g hgb => (h.nt g hgb).later (hg.block g (h.row.lt g hgb).2 (hne g hgb)), fun u hu => (h.one u hu).grown hg (Nat.le_refl _) (noText_map h.map), ?_, h.low, Nat.le_trans h.high hg.size⟩
 ·cases hb : ev.ownBlock with
  | none => exact .inl rfl
  | some g => exact .inr (hne g hb)
 ·exact h.bel.grown hg h.bel.size (fun k hk => by simp at hk; rw [← hk]; exact h.low.1)
theorem row_cell (W : World) (vs : List Value) (e : TypeId) (j : Nat) (u : Value) (h : vs[j]? = some u) : (W.alloc (.cells vs.toArray e)).cell? ⟨W.heap.size, j, none⟩ = some u := by
 rw [cell_of_row _ _ j _ e (0, 0) (heap_alloc_new W _)]
 simpa using h
theorem Ckd.app {Ad : Nat → Addr} {w wr w2 : World} {mb B n : Nat} {acc : List ByteArray} {ev : Value} {us vs : List (Value × Leaves)} {ga : Option Addr} {gc : Nat} {y : List Value} (h : Ckd Ad w mb B n acc ev us wr) (h0 : 0 < us.length) (hv : ∀ u ∈ vs, One Ad wr.heap.size wr u.1 u.2) {o : Obj}
  (hy : y = us.map Prod.fst ++ vs.map Prod.fst) (ow : w2.ownsRow B 31 1 (.slice ga y.length gc) y.length y) (hg : (wr.alloc o).grownBy w2 ev.ownBlock) : Ckd Ad w mb B n acc (.slice ga y.length gc) (us ++ vs) w2 := by
 have b : Below wr.heap.size wr (wr.alloc o) := (Below.refl _ _).alloc (Nat.le_refl _) _
 have h1 := h.later b
 obtain ⟨a, c, rfl⟩ := own_slice h.row
 obtain ⟨g, rfl, hgB, hgl⟩ := own_some h.row h0
 have hyl : y.length = (us ++ vs).length := by rw [hy]; simp
 have hym : y = (us ++ vs).map Prod.fst := by rw [hy]; simp
 have hnt : NoText (wr.alloc o) g := h1.nt g rfl
 have hone : ∀ u ∈ us ++ vs, One Ad w2.heap.size w2 u.1 u.2 := by
  intro u hu
  rcases List.mem_append.1 hu with hu | hu
  ·exact (h1.one u hu).grown hg (Nat.le_refl _) hnt
  ·exact ((hv u hu).move b b.size).grown hg (Nat.le_refl _) hnt
 obtain ⟨g', rfl, hg'⟩ := own_some ow (by rw [hyl]; simp; omega)
 have hne : some mb ≠ (Value.slice (some ⟨g, 0, none⟩) us.length c).ownBlock := fun e => by
  have e' : mb = g := by simpa [Value.ownBlock] using e
  have := h.low.2
  omega
 refine ⟨World.ownsMap.kept h1.map hg hne, by rw [← hyl, ← hym]; exact ow, ?_, hone, ?_, h.low, Nat.le_trans h1.high hg.size⟩
 ·intro x hx s hs
  obtain rfl : g' = x := by simpa [Value.ownBlock] using hx
  rw [ow.cellAt 0 (by rw [hyl]; simp; omega), hym] at hs
  cases us with
  | nil => simp at h0
  | cons u us => simp at hs; exact (hone u (by simp)).cell.2 s hs
 ·exact h1.bel.grown hg h1.bel.size (fun k hk => by simp [Value.ownBlock] at hk; rw [← hk]; have := h.low; omega)
def flat (us : List (Value × Leaves)) : Leaves := (us.map Prod.snd).flatten
theorem flat_app (us vs : List (Value × Leaves)) : flat (us ++ vs) = flat us ++ flat vs := by simp [flat]
theorem compL_next {cs : List Cmp} {k : Nat} {c : Cmp} (h : cs[k]? = some c) : compL cs (k + 1) = compL cs k ++ leafC (seenTo ((cs.take k).map Cmp.s)) k c := by simp [compL, h]
theorem seen_next {cs : List Cmp} {k : Nat} {c : Cmp} (h : cs[k]? = some c) : seenTo ((cs.take (k + 1)).map Cmp.s) = seenB (seenTo ((cs.take k).map Cmp.s)) c.s := by
 rw [take_next h, List.map_append, List.map_cons, List.map_nil, seenTo_snoc]
def SmallC (cs : List Cmp) : Prop := cs.length ≤ 40 ∧ ∀ c ∈ cs, c.s.size ≤ 100
def SmallQ (rs : List Rsc) : Prop := rs.length ≤ 40 ∧ ∀ r ∈ rs, r.s.size ≤ 100
structure C6 (Ad : Nat → Addr) (w : World) (mb B n : Nat) (acc : List ByteArray) (ev : Value) (us : List (Value × Leaves)) (g : Nat) (x : Cmp) (vs : List (Value × Leaves)) (wc : World) : Prop where
 ck : Ckd Ad w mb B n acc ev us wc
 c0 : wc.cell? ⟨g, 0, none⟩ = some (.string x.s)
 c1 : wc.cell? ⟨g, 1, none⟩ = some (.int .i64 x.wd)
 c2 : wc.cell? ⟨g, 2, none⟩ = some (.bool x.rb)
 c3 : wc.cell? ⟨g, 3, none⟩ = some (.int .i64 x.d0)
 c4 : wc.cell? ⟨g, 4, none⟩ = some (.int .i64 x.d1)
 c5 : wc.cell? ⟨g, 5, none⟩ = some (.int .i64 x.d2)
 c6 : wc.cell? ⟨g, 6, none⟩ = some (.int .i64 x.d3)
 one : ∀ u ∈ vs, One Ad wc.heap.size wc u.1 u.2
theorem C6.later {Ad : Nat → Addr} {w wc w1 : World} {mb B n g : Nat} {acc : List ByteArray} {ev : Value} {us vs : List (Value × Leaves)} {x : Cmp} (h : C6 Ad w mb B n acc ev us g x vs wc) (hb : Below wc.heap.size wc w1) : C6 Ad w mb B n acc ev us g x vs w1 :=
 have S := fun {p : Addr} {u : Value} (h : wc.cell? p = some u) => Below.seen hb (Nat.le_refl _) h
 ⟨h.ck.later hb, S h.c0, S h.c1, S h.c2, S h.c3, S h.c4, S h.c5, S h.c6, fun u hu => (h.one u hu).move hb hb.size⟩
theorem C6.push {Ad : Nat → Addr} {w wc w1 : World} {mb B n g : Nat} {acc : List ByteArray} {ev v : Value} {us vs : List (Value × Leaves)} {x : Cmp} {L : Leaves} (h : C6 Ad w mb B n acc ev us g x vs wc) (hb : Below wc.heap.size wc w1) (ho : One Ad w1.heap.size w1 v L) : C6 Ad w mb B n acc ev us g x (vs ++ [(v, L)]) w1 :=
 have k := h.later hb
 ⟨k.ck, k.c0, k.c1, k.c2, k.c3, k.c4, k.c5, k.c6, fun u hu => by
  rcases List.mem_append.1 hu with hu | hu
  ·exact k.one u hu
  ·simp at hu; subst hu; exact ho⟩
theorem C6.took {Ad : Nat → Addr} {w wc w1 : World} {mb B n g : Nat} {acc acc' : List ByteArray} {ev : Value} {us vs : List (Value × Leaves)} {x : Cmp} (h : C6 Ad w mb B n acc ev us g x vs wc) (hm : MapN w1 mb (n + 1) acc') (hg : wc.grownBy w1 (some mb)) : C6 Ad w mb B (n + 1) acc' ev us g x vs w1 := by
 have hne : some g ≠ some mb := fun e => noText_map h.ck.map x.s (by simp at e; rw [← e]; exact h.c0)
 have S := fun {j : Nat} {u : Value} (h : wc.cell? ⟨g, j, none⟩ = some u) => hg.cell (a := ⟨g, j, none⟩) h hne
 exact ⟨h.ck.took hm hg, S h.c0, S h.c1, S h.c2, S h.c3, S h.c4, S h.c5, S h.c6, fun u hu => (h.one u hu).grown hg (Nat.le_refl _) (noText_map h.ck.map)⟩
def Cells7 (g : Nat) (x : Cmp) (W : World) : Prop := W.cell? ⟨g, 0, none⟩ = some (.string x.s) ∧ W.cell? ⟨g, 1, none⟩ = some (.int .i64 x.wd) ∧ W.cell? ⟨g, 2, none⟩ = some (.bool x.rb) ∧ W.cell? ⟨g, 3, none⟩ = some (.int .i64 x.d0) ∧ W.cell? ⟨g, 4, none⟩ = some (.int .i64 x.d1) ∧ W.cell? ⟨g, 5, none⟩ = some (.int .i64 x.d2) ∧ W.cell? ⟨g, 6, none⟩ = some (.int .i64 x.d3)
theorem C6.cells {Ad : Nat → Addr} {w wc : World} {mb B n g : Nat} {acc : List ByteArray} {ev : Value} {us vs : List (Value × Leaves)} {x : Cmp} (h : C6 Ad w mb B n acc ev us g x vs wc) : wc.cell? ⟨g, 0, none⟩ = some (.string x.s) ∧ wc.cell? ⟨g, 1, none⟩ = some (.int .i64 x.wd) ∧ wc.cell? ⟨g, 2, none⟩ = some (.bool x.rb) ∧ wc.cell? ⟨g, 3, none⟩ = some (.int .i64 x.d0) ∧ wc.cell? ⟨g, 4, none⟩ = some (.int .i64 x.d1) ∧ wc.cell? ⟨g, 5, none⟩ = some (.int .i64 x.d2) ∧ wc.cell? ⟨g, 6, none⟩ = some (.int .i64 x.d3) :=
 ⟨h.c0, h.c1, h.c2, h.c3, h.c4, h.c5, h.c6⟩
theorem C6.env {Ad : Nat → Addr} {w wc : World} {mb B n g : Nat} {acc : List ByteArray} {ev : Value} {us vs : List (Value × Leaves)} {x : Cmp} (h : C6 Ad w mb B n acc ev us g x vs wc) (hE : Env8 w Ad) : Env8 wc Ad := hE.later h.ck.bel
theorem C6.drew {Ad : Nat → Addr} {w wc : World} {mb B n g : Nat} {acc : List ByteArray} {ev : Value} {us vs : List (Value × Leaves)} {x : Cmp} (h : C6 Ad w mb B n acc ev us g x vs wc) : C6 Ad w mb B n acc ev us g x vs wc.drew := h.later ⟨rfl, rfl, rfl, Nat.le_refl _, fun _ _ => rfl⟩
theorem One.shape {Ad : Nat → Addr} {n₀ : Nat} {W : World} {v : Value} {L : Leaves} (h : One Ad n₀ W v L) : v.cells = #[v] := by
 rcases h with ⟨rfl, -⟩ | ⟨p, -, h⟩
 ·rfl
 ·obtain ⟨t, q, rfl, -⟩ := h.1.shape
  rfl
def NsOk (ns : List Nat) : Prop := ns.length ≤ 1 ∧ ∀ k ∈ ns, 1 ≤ k ∧ k ≤ 18
theorem way3 (Ad : Nat → Addr) (W : World) (l p : ByteArray) (i : Nat) (hi : i < 100) (ns : List Nat) (h : NsOk ns) :
  Calls Tryz.prog 101 #[.string l, .int .i64 (i : Int), .string p, errV Ad ns] W fun e W' => ∃ v', e = .returned v' ∧ One Ad W'.heap.size W' v' (at3 l i p ns) ∧ Below W.heap.size W W' := wayat_any Ad W l p i hi ns h.1 h.2
theorem width7 (Ad : Nat → Addr) (W : World) (hE : Env8 W Ad) (x : Cmp) : Calls Tryz.prog 103 #[.agg #[.string x.s, .int .i64 x.wd, .bool x.rb, .int .i64 x.d0, .int .i64 x.d1, .int .i64 x.d2, .int .i64 x.d3]] W fun e W' => e = .returned (errV Ad (wErr x)) ∧ Below W.heap.size W W' := width_any Ad W hE x
theorem default7 (Ad : Nat → Addr) (W : World) (hE : Env8 W Ad) (x : Cmp) : Calls Tryz.prog 104 #[.agg #[.string x.s, .int .i64 x.wd, .bool x.rb, .int .i64 x.d0, .int .i64 x.d1, .int .i64 x.d2, .int .i64 x.d3]] W fun e W' => e = .returned (errV Ad (dErr x)) ∧ Below W.heap.size W W' := default_any Ad W hE x
def eqS (a b : ByteArray) : Bool := a.toList == b.toList
theorem eqS_iff (a b : ByteArray) : eqS a b = true ↔ a = b := by
 unfold eqS
 constructor
 ·intro h
  have h := eq_of_beq h
  rw [Lib.toList_data, Lib.toList_data] at h
  exact ByteArray.ext (Array.toList_inj.1 h)
 ·rintro rfl; exact beq_self_eq_true _
def firstI (s : ByteArray) : List ByteArray → Nat → Int
 | [], _ => -1
 | x :: l, k => if eqS x s then (k : Int) else firstI s l (k + 1)
theorem firstI_next (s : ByteArray) (l : List ByteArray) (k : Nat) (x : ByteArray) (h : l[k]? = some x) :
  firstI s (l.drop k) k = if eqS x s then (k : Int) else firstI s (l.drop (k + 1)) (k + 1) := by
 rw [List.drop_eq_getElem?_toList_append, h]
 rfl
theorem firstI_end (s : ByteArray) (l : List ByteArray) (k : Nat) (h : l.length ≤ k) : firstI s (l.drop k) k = -1 := by
 rw [List.drop_of_length_le h]; rfl
def foundV (i : Int) : Value := if i < 0 then .tuple #[.int .i64 0, .bool false] else .tuple #[.int .i64 i, .bool true]
set_option maxHeartbeats 1600000 in
set_option maxRecDepth 100000 in
theorem rfind_any (W : World) (va vb : Value) (cs : List Cmp) (hC : CmpRow W va cs) (hl : cs.length ≤ 1000) (s : ByteArray) :
  Calls Tryz.prog 57 #[.agg #[va, vb], .string s] W fun e W' => e = .returned (foundV (firstI s (cs.map Cmp.s) 0)) ∧ Below W.heap.size W W' := by
 obtain ⟨a, c, rfl, hcap, hlay⟩ := hC
 have HL := hid hlay
 have BA : Hid (Below W.heap.size W (W.alloc (.cells #[.slice a cs.length c, vb] 25))) := (Below.refl _ _).alloc (Nat.le_refl _) _
 have hli : (cs.length : Int) ≤ 1000 := by omega
 clear hlay hcap
 go_enter Tryz.func57, Tryz.ntmps57
 go_wp2_with fail
 go_loop [6] (fun i => ∃ k : Nat, k ≤ cs.length ∧ i = .int .i64 (k : Int) ∧ Hid (firstI s (cs.map Cmp.s) 0 = firstI s ((cs.map Cmp.s).drop k) k)) (fun i => cs.length - (intOf i).toNat)
 case atStart => exact ⟨0, Nat.zero_le _, rfl, rfl⟩
 case round =>
  obtain ⟨k, hk, rfl, HF⟩ := hrel
  by_cases hlt : k < cs.length
  ·have hki : (k : Int) < (cs.length : Int) := by omega
   obtain ⟨x, hx⟩ := at_lt cs k hlt
   obtain ⟨b, o, rfl, hc⟩ : ∃ b o, a = some ⟨b, o, none⟩ ∧ ∀ (j : Nat) (x : Cmp), cs[j]? = some x → W.cell? ⟨b, o + j * 7, none⟩ = some (.string x.s) ∧ W.cell? ⟨b, o + j * 7 + 1, none⟩ = some (.int .i64 x.wd) ∧ W.cell? ⟨b, o + j * 7 + 2, none⟩ = some (.bool x.rb) ∧ W.cell? ⟨b, o + j * 7 + 3, none⟩ = some (.int .i64 x.d0) ∧ W.cell? ⟨b, o + j * 7 + 4, none⟩ = some (.int .i64 x.d1) ∧ W.cell? ⟨b, o + j * 7 + 5, none⟩ = some (.int .i64 x.d2) ∧ W.cell? ⟨b, o + j * 7 + 6, none⟩ = some (.int .i64 x.d3) := by
    rcases HL.out with h | h
    ·rw [h] at hx; simp at hx
    ·exact h
   have c0 := (hc k x hx).1
   have hbl : b < W.heap.size := World.block_lt_of_cell? W _ c0
   have hbn : ¬ (b = W.heap.size) := by omega
   have FN := hid (firstI_next s (cs.map Cmp.s) k x.s (by rw [List.getElem?_map, hx]; rfl))
   clear hc hx
   cases hq : eqS x.s s with
   | true =>
    have R : Hid (firstI s (cs.map Cmp.s) 0 = (k : Int)) := by show _ = _; rw [HF.out, FN.out, hq]; rfl
    clear FN HF
    unfold eqS at hq
    go_wp2_with fail
    refine bodyPost_ret (v := .tuple #[.int .i64 (k : Int), .bool true]) (by simp [results, Tryz.results57, go_sem]) rfl ⟨by rw [R.out]; unfold foundV; rw [if_neg (by omega)], BA.out⟩
   | false =>
    have R : Hid (firstI s (cs.map Cmp.s) 0 = firstI s ((cs.map Cmp.s).drop (k + 1)) (k + 1)) := by show _ = _; rw [HF.out, FN.out, hq]; rfl
    clear FN HF
    unfold eqS at hq
    go_wp2_with fail
    go_round
    case rel => exact ⟨k + 1, by omega, by go_num, R.out⟩
    case measure => simp [intOf]; omega
  ·have hki : ¬ ((k : Int) < (cs.length : Int)) := by omega
   have R : Hid (firstI s (cs.map Cmp.s) 0 = -1) := by show _ = _; rw [HF.out, firstI_end _ _ _ (by rw [List.length_map]; omega)]
   go_wp2_with fail
   refine bodyPost_ret (v := .tuple #[.int .i64 0, .bool false]) (by simp [results, Tryz.results57, go_sem]) rfl ⟨by rw [R.out]; rfl, BA.out⟩
set_option maxHeartbeats 1600000 in
set_option maxRecDepth 100000 in
theorem rresource_any (W : World) (va vb : Value) (cs : List Rsc) (hC : RscRow W vb cs) (hl : cs.length ≤ 1000) (s : ByteArray) :
  Calls Tryz.prog 58 #[.agg #[va, vb], .string s] W fun e W' => e = .returned (foundV (firstI s (cs.map Rsc.s) 0)) ∧ Below W.heap.size W W' := by
 obtain ⟨a, c, rfl, hcap, hlay⟩ := hC
 have HL := hid hlay
 have BA : Hid (Below W.heap.size W (W.alloc (.cells #[va, .slice a cs.length c] 25))) := (Below.refl _ _).alloc (Nat.le_refl _) _
 have hli : (cs.length : Int) ≤ 1000 := by omega
 clear hlay hcap
 go_enter Tryz.func58, Tryz.ntmps58
 go_wp2_with fail
 go_loop [6] (fun i => ∃ k : Nat, k ≤ cs.length ∧ i = .int .i64 (k : Int) ∧ Hid (firstI s (cs.map Rsc.s) 0 = firstI s ((cs.map Rsc.s).drop k) k)) (fun i => cs.length - (intOf i).toNat)
 case atStart => exact ⟨0, Nat.zero_le _, rfl, rfl⟩
 case round =>
  obtain ⟨k, hk, rfl, HF⟩ := hrel
  by_cases hlt : k < cs.length
  ·have hki : (k : Int) < (cs.length : Int) := by omega
   obtain ⟨x, hx⟩ := at_lt cs k hlt
   obtain ⟨b, o, rfl, hc⟩ : ∃ b o, a = some ⟨b, o, none⟩ ∧ ∀ (j : Nat) (x : Rsc), cs[j]? = some x → W.cell? ⟨b, o + j * 2, none⟩ = some (.string x.s) ∧ W.cell? ⟨b, o + j * 2 + 1, none⟩ = some (.int .i64 x.n) := by
    rcases HL.out with h | h
    ·rw [h] at hx; simp at hx
    ·exact h
   have c0 := (hc k x hx).1
   have hbl : b < W.heap.size := World.block_lt_of_cell? W _ c0
   have hbn : ¬ (b = W.heap.size) := by omega
   have FN := hid (firstI_next s (cs.map Rsc.s) k x.s (by rw [List.getElem?_map, hx]; rfl))
   clear hc hx
   cases hq : eqS x.s s with
   | true =>
    have R : Hid (firstI s (cs.map Rsc.s) 0 = (k : Int)) := by show _ = _; rw [HF.out, FN.out, hq]; rfl
    clear FN HF
    unfold eqS at hq
    go_wp2_with fail
    refine bodyPost_ret (v := .tuple #[.int .i64 (k : Int), .bool true]) (by simp [results, Tryz.results58, go_sem]) rfl ⟨by rw [R.out]; unfold foundV; rw [if_neg (by omega)], BA.out⟩
   | false =>
    have R : Hid (firstI s (cs.map Rsc.s) 0 = firstI s ((cs.map Rsc.s).drop (k + 1)) (k + 1)) := by show _ = _; rw [HF.out, FN.out, hq]; rfl
    clear FN HF
    unfold eqS at hq
    go_wp2_with fail
    go_round
    case rel => exact ⟨k + 1, by omega, by go_num, R.out⟩
    case measure => simp [intOf]; omega
  ·have hki : ¬ ((k : Int) < (cs.length : Int)) := by omega
   have R : Hid (firstI s (cs.map Rsc.s) 0 = -1) := by show _ = _; rw [HF.out, firstI_end _ _ _ (by rw [List.length_map]; omega)]
   go_wp2_with fail
   refine bodyPost_ret (v := .tuple #[.int .i64 0, .bool false]) (by simp [results, Tryz.results58, go_sem]) rfl ⟨by rw [R.out]; rfl, BA.out⟩
def tens : ByteArray := ⟨#[48, 49, 50, 51, 52, 53, 54, 55, 56, 57]⟩
theorem tens_list : ∀ j : Fin 10, (tens.data.toList.drop j.val).take (j.val + 1 - j.val) = [UInt8.ofNat (48 + j.val)] := by decide +kernel
theorem tens_at (i : Nat) (h : i < 10) : tens.extract i (i + 1) = dig i := by
 unfold dig
 rw [AnyPlain.small_ba (tens.extract i (i + 1)) (Lib.decDigits i) (by rw [Lib.extract_data, Lib.decDigits_one h]; exact tens_list ⟨i, h⟩)]
theorem dig_two (a b : Nat) (ha : 1 ≤ a) (ha9 : a < 10) (hb : b < 10) : dig a ++ dig b = dig (10 * a + b) := by
 unfold dig
 rw [Lib.decDigits_one ha9, Lib.decDigits_one hb, Lib.decDigits_two (i := 10 * a + b) (by omega) (by omega), show (10 * a + b) / 10 = a by omega, show (10 * a + b) % 10 = b by omega]
 apply ByteArray.ext
 simp
theorem dig_size (i : Nat) (h : i < 100) : (dig i).size ≤ 2 := by
 unfold dig
 by_cases h1 : i < 10
 ·rw [Lib.decDigits_one h1]; show 1 ≤ 2; decide
 ·rw [Lib.decDigits_two h1 h]; show 2 ≤ 2; decide
theorem tens_cut (i : Nat) (h : i < 10) (w : World) : (Instr.slice 9 (.string ⟨#[48, 49, 50, 51, 52, 53, 54, 55, 56, 57]⟩) (some (.int .i64 (i : Int))) (some (.int .i64 ((i : Int) + 1))) none).run Tryz.prog w = .ok (.string (dig i)) w := by
 have hs : (⟨#[48, 49, 50, 51, 52, 53, 54, 55, 56, 57]⟩ : ByteArray).size = 10 := rfl
 rw [run_slice_string w 9 _ .i64 .i64 _ _ Tryz.underlying9 (by omega) (by omega) (by rw [hs]; omega), show ((i : Int)).toNat = i by omega, show ((i : Int) + 1).toNat = i + 1 by omega]
 exact congrArg (fun s => Result.ok (Value.string s) w) (tens_at i h)
set_option maxHeartbeats 800000 in
theorem digits_one (i : Nat) (h : i < 10) (w : World) : Calls Tryz.prog 55 #[.int .i64 (i : Int)] w fun e w' => e = .returned (.string (dig i)) ∧ w' = w := by
 have hsl := tens_cut i h
 have hi : (i : Int) < 10 := by omega
 go_enter Tryz.func55, Tryz.ntmps55
 go_wp2_with fail
 go_ret
 exact ⟨rfl, rfl⟩
set_option maxHeartbeats 800000 in
set_option maxRecDepth 100000 in
theorem digits_two (i a b : Nat) (hi : i = 10 * a + b) (ha : 1 ≤ a) (ha9 : a < 10) (hb : b < 10) (w : World) : Calls Tryz.prog 55 #[.int .i64 (i : Int)] w fun e w' => e = .returned (.string (dig i)) ∧ Below w.heap.size w w' := by
 have hsl := tens_cut b hb
 have hn : ¬ ((i : Int) < 10) := by omega
 have h100 : (i : Int) < 100 := by omega
 have hq : (i : Int).tdiv 10 = (a : Int) := by
  rw [Int.tdiv_eq_ediv_of_nonneg (by omega)]; omega
 have hr : (i : Int).tmod 10 = (b : Int) := by
  rw [Int.tmod_eq_emod_of_nonneg (by omega)]; omega
 have hai : (a : Int) < 10 := by omega
 have hbi : (b : Int) < 10 := by omega
 have hb1 : IntKind.i64.wrap ((b : Int) + 1) = (b : Int) + 1 := IntWalk.i64_in _ (by omega)
 have ha1 : IntKind.i64.wrap (a : Int) = (a : Int) := IntWalk.i64_in _ (by omega)
 have hb0 : IntKind.i64.wrap (b : Int) = (b : Int) := IntWalk.i64_in _ (by omega)
 have DC := hid (digits_one a ha9)
 have sa : (dig a).size ≤ 2 := dig_size a (by omega)
 have sb : (dig b).size ≤ 2 := dig_size b (by omega)
 have sai : ((dig a).size : Int) ≤ 2 := by omega
 have sbi : ((dig b).size : Int) ≤ 2 := by omega
 have R : Hid (dig a ++ dig b = dig i) := by show _ = _; rw [hi]; exact dig_two a b ha ha9 hb
 have hadd : ∀ W : World, (Op.stringOp .add (dig a) (dig b)).run Tryz.prog W = .ok (.string (dig a ++ dig b)) W := fun W => run_string_add_sum W _ _ (by omega)
 have hmx : ¬ (9223372036854775807 < (dig a).size + (dig b).size) := by omega
 have BD : Hid (Below w.heap.size w w.drew) := (Below.refl _ _).drew
 clear hi ha ha9 hb
 go_enter Tryz.func55, Tryz.ntmps55
 go_wp2_with fail
 go_region_held3 (fun W' => True) (trivial) (first | (go_at_call 55; refine (DC.out _).mono ?_; rintro e w1 ⟨rfl, rfl⟩))
 go_wp2_with fail
 go_ret
 exact ⟨by rw [← R.out]; rfl, BD.out⟩
theorem digits_any (i : Nat) (h : i < 100) (w : World) : Calls Tryz.prog 55 #[.int .i64 (i : Int)] w fun e w' => e = .returned (.string (dig i)) ∧ Below w.heap.size w w' := by
 by_cases h1 : i < 10
 ·exact (digits_one i h1 w).mono fun e w' ⟨h2, h3⟩ => ⟨h2, h3 ▸ Below.refl _ _⟩
 ·exact digits_two i (i / 10) (i % 10) (by omega) (by omega) (by omega) (by omega) w
theorem seenB_iff {s : ByteArray} (hs : isNm s = true) (acc : List ByteArray) (x : ByteArray) : s ∈ seenB acc x ↔ s ∈ acc ∨ s = x := by
 unfold seenB
 by_cases hm : memB acc x = true
 ·rw [hm]
  simp only [Bool.not_true, Bool.and_false, Bool.false_eq_true, if_false]
  constructor
  ·exact .inl
  ·rintro (h | rfl)
   ·exact h
   ·exact (memB_iff _ _).1 hm
 ·have hmf : memB acc x = false := by simpa using hm
  rw [hmf]
  by_cases hx : isNm x = true
  ·rw [hx]; simp
  ·have hxf : isNm x = false := by simpa using hx
   rw [hxf]
   simp only [Bool.false_and, Bool.false_eq_true, if_false]
   constructor
   ·exact .inl
   ·rintro (h | rfl)
    ·exact h
    ·rw [hs] at hxf; exact absurd hxf (by decide)
theorem seen_fold {s : ByteArray} (hs : isNm s = true) : ∀ (l acc : List ByteArray), s ∈ l.foldl seenB acc ↔ s ∈ acc ∨ s ∈ l
 | [], acc => by simp
 | x :: l, acc => by
  rw [List.foldl_cons, seen_fold hs l, seenB_iff hs, List.mem_cons, or_assoc]
theorem seenTo_iff {s : ByteArray} (hs : isNm s = true) (l : List ByteArray) : s ∈ seenTo l ↔ s ∈ l := by
 unfold seenTo
 rw [seen_fold hs]; simp
theorem nErr_bad {s : ByteArray} (acc : List ByteArray) (hs : isNm s = false) : nErr acc s = [10] := by simp [nErr, hs]
theorem nErr_was {s : ByteArray} {l : List ByteArray} (hs : isNm s = true) (hm : s ∈ l) : nErr (seenTo l) s = [9] := by
 have : memB (seenTo l) s = true := (memB_iff _ _).2 ((seenTo_iff hs l).2 hm)
 simp [nErr, hs, this]
theorem nErr_new {s : ByteArray} {l : List ByteArray} (hs : isNm s = true) (hm : ¬ s ∈ l) : nErr (seenTo l) s = [] := by
 have : memB (seenTo l) s = false := by
  cases h : memB (seenTo l) s with
  | false => rfl
  | true => exact absurd ((seenTo_iff hs l).1 ((memB_iff _ _).1 h)) hm
 simp [nErr, hs, this]
theorem firstI_ge (s : ByteArray) : ∀ (l : List ByteArray) (m : Nat), firstI s l m = -1 ∨ (m : Int) ≤ firstI s l m
 | [], _ => .inl rfl
 | x :: l, m => by
  unfold firstI
  split
  ·right; omega
  ·rcases firstI_ge s l (m + 1) with h | h
   ·exact .inl h
   ·right; omega
theorem firstI_mem (s : ByteArray) : ∀ (l : List ByteArray) (m k : Nat), (0 ≤ firstI s l m ∧ firstI s l m < ((m + k : Nat) : Int)) ↔ s ∈ l.take k
 | [], m, k => by simp [firstI]
 | x :: l, m, 0 => by
  rcases firstI_ge s (x :: l) m with h | h
  ·rw [h]; simp
  ·simp only [Nat.add_zero, List.take_zero, List.not_mem_nil, iff_false]; omega
 | x :: l, m, k + 1 => by
  have ih := firstI_mem s l (m + 1) k
  rw [List.take_succ_cons, List.mem_cons]
  unfold firstI
  by_cases hx : eqS x s = true
  ·rw [if_pos hx]
   have := (eqS_iff x s).1 hx
   simp only [this, true_or, iff_true]
   omega
  ·rw [if_neg hx]
   have hne : ¬ (s = x) := fun h => hx ((eqS_iff x s).2 h.symm)
   rw [show m + (k + 1) = m + 1 + k by omega, ih]
   simp [hne]
theorem firstI_all (s : ByteArray) (l : List ByteArray) : 0 ≤ firstI s l 0 ↔ s ∈ l := by
 constructor
 ·intro h
  exact List.mem_of_mem_take ((firstI_mem s l 0 ((firstI s l 0).toNat + 1)).1 ⟨h, by omega⟩)
 ·intro h
  exact ((firstI_mem s l 0 l.length).2 (by rw [List.take_length]; exact h)).1
theorem foundV_no {i : Int} (h : i < 0) : foundV i = .tuple #[.int .i64 0, .bool false] := by unfold foundV; rw [if_pos h]
theorem foundV_yes {i : Int} (h : ¬ i < 0) : foundV i = .tuple #[.int .i64 i, .bool true] := by unfold foundV; rw [if_neg h]
theorem joinB_one (s : ByteArray) : joinB [s] = s := by
 unfold joinB
 rw [List.map_cons, List.map_nil, Lib.join_one]
theorem joinB_more (s : ByteArray) (p : List ByteArray) (hp : p ≠ []) : joinB (s :: p) = s ++ (⟨#[47]⟩ ++ joinB p) := by
 cases p with
 | nil => exact absurd rfl hp
 | cons a q =>
  have h1 : Lib.join ((s :: a :: q).map (·.data.toList)) [47] = s.data.toList ++ ([47] ++ Lib.join ((a :: q).map (·.data.toList)) [47]) := by
   simp [Lib.join, List.intercalate]
  unfold joinB
  rw [h1]
  apply ByteArray.ext
  simp
theorem path_c (d p : ByteArray) : (⟨#[99, 111, 109, 112, 111, 110, 101, 110, 116, 115, 47]⟩ : ByteArray) ++ d ++ ⟨#[47]⟩ ++ p = joinB [bComps, d, p] := by
 rw [joinB_more _ _ (by simp), joinB_more _ _ (by simp), joinB_one]
 apply ByteArray.ext
 simp [bComps]
theorem path_r (d : ByteArray) : (⟨#[114, 101, 115, 111, 117, 114, 99, 101, 115, 47]⟩ : ByteArray) ++ d ++ ⟨#[47, 110, 97, 109, 101]⟩ = joinB [bRes, d, bName] := by
 rw [joinB_more _ _ (by simp), joinB_more _ _ (by simp), joinB_one]
 apply ByteArray.ext
 simp [bRes, bName]
def dl (x : Cmp) : List Int := [x.d0, x.d1, x.d2, x.d3]
def clTo (x : Cmp) (m : Nat) : Bool := (((dl x).take m).drop x.wd.toNat).all fun n => n == 0
theorem clTo_from (x : Cmp) : clTo x x.wd.toNat = true := by
 unfold clTo
 rw [List.drop_of_length_le (by rw [List.length_take]; omega)]; rfl
theorem clTo_next {x : Cmp} {m : Nat} {y : Int} (h : (dl x)[m]? = some y) (hw : x.wd.toNat ≤ m) : clTo x (m + 1) = (clTo x m && y == 0) := by
 unfold clTo
 have hm : m < (dl x).length := (List.getElem?_eq_some_iff.1 h).1
 rw [take_next h, List.drop_append_of_le_length (by rw [List.length_take]; omega), List.all_append]
 simp
theorem clTo_err {x : Cmp} (hw : wOk x = true) : dErr x = if clTo x 4 then [] else [1] := by
 have e : clTo x 4 = !((behind x).any nzB) := by
  unfold clTo behind
  rw [show (dl x).take 4 = dl x from rfl, List.all_eq_not_any_not]
  rfl
 unfold dErr
 rw [hw, e]
 cases (behind x).any nzB <;> rfl
theorem Tryz.infoFl : (Tryz.prog.info? 118).map (fun i => (i.zero, i.size, i.bytes)) = some (some (.agg #[.string ⟨#[]⟩, .int .i64 0]), 2, 24) := by kernel_rfl
theorem leafCells_snoc (ls : Leaves) (p : List ByteArray × Nat) : leafCells (ls ++ [p]) = leafCells ls ++ [.string (joinB p.1), .int .i64 (p.2 : Int)] := by simp [leafCells]
structure FL (w0 : World) (o : Value) (ls : Leaves) (wr : World) : Prop where
 own : wr.ownsRow w0.heap.size 118 2 o ls.length (leafCells ls)
 bel : Below w0.heap.size w0 wr
 len : ls.length ≤ 1000
variable {w0 wr w1 : World} {o o' : Value} {ls ls' : Leaves} {g : Nat} {x : Cmp}
theorem FL.later (h : FL w0 o ls wr) (hb : Below wr.heap.size wr w1) : FL w0 o ls w1 := ⟨own_more h.own hb, h.bel.trans (hb.mono h.bel.size), h.len⟩
structure FG (w0 : World) (g : Nat) (x : Cmp) (o : Value) (ls : Leaves) (wr : World) : Prop where
 fl : FL w0 o ls wr
 cells : Cells7 g x wr
 ne : o.ownBlock ≠ some g
theorem Cells7.later (h : Cells7 g x wr) (hb : Below wr.heap.size wr w1) : Cells7 g x w1 := by
 obtain ⟨c0, c1, c2, c3, c4, c5, c6⟩ := h
 have S := fun {p : Addr} {u : Value} (h : wr.cell? p = some u) => Below.seen hb (Nat.le_refl _) h
 exact ⟨S c0, S c1, S c2, S c3, S c4, S c5, S c6⟩
theorem FG.later (h : FG w0 g x o ls wr) (hb : Below wr.heap.size wr w1) : FG w0 g x o ls w1 := ⟨h.fl.later hb, h.cells.later hb, h.ne⟩
theorem FG.lt (h : FG w0 g x o ls wr) : g < wr.heap.size := World.block_lt_of_cell? wr _ h.cells.1
def Lft (w w' : World) (v v' : Value) : Prop := (∀ g, g < w.heap.size → v.ownBlock ≠ some g → w'.heap[g]? = w.heap[g]?) ∧ (v'.ownBlock = v.ownBlock ∨ v'.ownBlock = some (w.heap.size + 1))
theorem FG.app (h : FG w0 g x o ls wr) (F : FL w0 o' ls' w1) (K : Lft wr w1 o o') : FG w0 g x o' ls' w1 := by
 have hl := h.lt
 have hb := K.1 g hl h.ne
 obtain ⟨c0, c1, c2, c3, c4, c5, c6⟩ := h.cells
 have S := fun {j : Nat} {u : Value} (h : wr.cell? ⟨g, j, none⟩ = some u) => (World.cell?_of_block (a := ⟨g, j, none⟩) hb).trans h
 refine ⟨F, ⟨S c0, S c1, S c2, S c3, S c4, S c5, S c6⟩, ?_⟩
 rcases K.2 with e | e
 ·rw [e]; exact h.ne
 ·rw [e]; intro e2; simp at e2; omega
theorem wpList_flaw (w0 w : World) {ops : Array Oper} {rest : List Oper} {o : Oper} {a : Act} {Q : Exit → Act → World → Prop} (hgd : o.guard = none) (s x : Operand)
  (ho : o.op = .call { callee := .builtin .append, args := #[s, x], argTypes := #[36, 36] })
  (v : Value) (ls : Leaves) (hs : a.eval s = v) (F : FL w0 v ls w) (p : List ByteArray) (k : Nat) (P : ByteArray) (hP : P = joinB p)
  (hx : a.eval x = .slice (some ⟨w.heap.size, 0, none⟩) 1 1) (hlen : ls.length + 1 ≤ 1000)
  (h : ∀ v' w', Hid (FL w0 v' (ls ++ [(p, k)]) w') → Hid (Lft w w' v v') → wpList Tryz.prog ops Q rest (a.put o.dst v') w') :
  wpList Tryz.prog ops Q (o :: rest) a (w.alloc (.cells #[.string P, .int .i64 (k : Int)] 118)) := by
 subst hP
 obtain ⟨i0, hi, hz0, hz1, hz2⟩ := info_parts Tryz.infoFl
 obtain ⟨c0, c1⟩ := cell_new2 w (.string (joinB p)) (.int .i64 (k : Int)) 118
 have hown := F.own.alloc (.cells #[.string (joinB p), .int .i64 (k : Int)] 118)
 have hbase : w0.heap.size ≤ (w.alloc (.cells #[.string (joinB p), .int .i64 (k : Int)] 118)).heap.size := Nat.le_trans F.bel.size (by simp)
 refine wpList_append_own_at _ hgd s x 36 ho w0.heap.size 118 i0 (.agg #[.string ⟨#[]⟩, .int .i64 0]) 2 24 Tryz.underlying36 hi hz0 hz1 hz2 rfl (by decide) v ls.length (leafCells ls) hs hown ⟨w.heap.size, 0, none⟩ 1 1 [.string (joinB p), .int .i64 (k : Int)] hx rfl (fun j u hu => ?_) (by intro u hu; simp at hu; rcases hu with rfl | rfl <;> rfl) (by simp [maxLen]; omega) (by omega) hbase ?_
 ·rw [add_at]
  match j, hu with
  | 0, hu => simp at hu; subst hu; exact c0
  | 1, hu => simp at hu; subst hu; exact c1
  | j + 2, hu => simp at hu
 ·intro v' w' hown' hgrow _ hat
  refine h v' w' ⟨?_, ?_, by rw [List.length_append]; exact hlen⟩ ⟨fun g hg hne => ?_, ?_⟩
  ·rw [leafCells_snoc, List.length_append]
   exact hown'
  ·exact (F.bel.alloc F.bel.size _).grown hgrow (Nat.le_trans F.bel.size (by simp)) (fun k hk => own_block hown hk)
  ·rw [hgrow.block g (by simp; omega) (fun e => hne e.symm)]
   exact Array.getElem?_push_lt hg |>.trans (Array.getElem?_eq_getElem hg).symm
  ·rcases hat with h1 | h1
   ·exact .inl h1
   ·right; rw [h1]; simp
attribute [local go_sem ↓] Go.wp_at_zero Go.wp_at_succ
theorem resL_next {cs : List Cmp} {rs : List Rsc} {k : Nat} {r : Rsc} (h : rs[k]? = some r) : resL cs rs (k + 1) = resL cs rs k ++ at3 bRes k bName (nErr (seenTo (cs.map Cmp.s ++ (rs.take k).map Rsc.s)) r.s) := by simp [resL, h]
theorem seenR_next {cs : List Cmp} {rs : List Rsc} {k : Nat} {r : Rsc} (h : rs[k]? = some r) : seenTo (cs.map Cmp.s ++ (rs.take (k + 1)).map Rsc.s) = seenB (seenTo (cs.map Cmp.s ++ (rs.take k).map Rsc.s)) r.s := by
 rw [take_next h, List.map_append, List.map_cons, List.map_nil, ← List.append_assoc, seenTo_snoc]
theorem step_errs3 {ops : Array Oper} {o : Oper} {a : Act} {K : Act → World → Prop} {Q : Exit → Act → World → Prop} {E : Prop} (hgd : o.guard = none) (s x : Operand)
  (ho : o.op = .call { callee := .builtin .append, args := #[s, x], argTypes := #[177, 177] })
  {Ad : Nat → Addr} {w wc : World} {mb B n g : Nat} {acc : List ByteArray} {ev : Value} {us vs : List (Value × Leaves)} {y : Cmp} (hC : C6 Ad w mb B n acc ev us g y vs wc) {v1 v2 v3 : Value} (hvs : vs.map Prod.fst = [v1, v2, v3]) (h0 : 0 < us.length) (hul : us.length ≤ 1000)
  (hs : a.eval s = ev) (hx : a.eval x = .slice (some ⟨wc.heap.size, 0, none⟩) 3 3)
  (h : ∀ g' cap w2, C6 Ad w mb B n acc (.slice (some ⟨g', 0, none⟩) (us.length + 3) cap) (us ++ vs) g y [] w2 → K (a.put o.dst (.slice (some ⟨g', 0, none⟩) (us.length + 3) cap)) w2) :
  if Region.wanted o (yielded ops a.tmps) = true then Oper.wp Tryz.prog o a (wc.alloc (.cells #[v1, v2, v3] 31)) K Q else E := by
 obtain ⟨i0, hi, hz0, hz1, hz2⟩ := info_parts Tryz.infoErr
 have hone : ∀ u ∈ [v1, v2, v3], u.oneCell' = true := by
  intro u hu
  rw [← hvs] at hu
  obtain ⟨p, hp, rfl⟩ := List.mem_map.1 hu
  exact (hC.one p hp).cell.1
 have hown : (wc.alloc (.cells #[v1, v2, v3] 31)).ownsRow B 31 1 ev us.length (us.map Prod.fst) := hC.ck.row.alloc _
 have hvl : vs.length = 3 := by have := congrArg List.length hvs; simpa using this
 refine step_append_lies _ hgd s x 177 ho B 31 i0 .nilIface 1 16 Tryz.underlying177 hi hz0 hz1 hz2 rfl (by decide) ev us.length (us.map Prod.fst) hs hown ⟨wc.heap.size, 0, none⟩ 3 3 [v1, v2, v3] hx rfl (fun j u hu => by rw [add_at]; exact row_cell wc [v1, v2, v3] 31 j u hu) hone (by decide) (by unfold maxLen; omega) (by omega) (Nat.le_trans hC.ck.high (by simp)) (wc.alloc (.cells #[v1, v2, v3] 31)).heap.size rfl ?_
 intro g' cap w2 ow hg _ _
 have e : us.length + 3 = (us.map Prod.fst ++ [v1, v2, v3]).length := by simp
 refine h g' cap w2 ?_
 have hC1 := hC.later (show Below wc.heap.size wc (wc.alloc (.cells #[v1, v2, v3] 31)) from (Below.refl _ _).alloc (Nat.le_refl _) _)
 have hne : some g ≠ ev.ownBlock := fun hh => hC1.ck.nt g hh.symm y.s hC1.c0
 have S := fun {j : Nat} {u : Value} (h : (wc.alloc (.cells #[v1, v2, v3] 31)).cell? ⟨g, j, none⟩ = some u) => hg.cell (a := ⟨g, j, none⟩) h hne
 rw [e] at ow ⊢
 exact ⟨hC.ck.app h0 hC.one (by rw [hvs]) ow hg, S hC1.c0, S hC1.c1, S hC1.c2, S hC1.c3, S hC1.c4, S hC1.c5, S hC1.c6, by simp⟩
set_option maxHeartbeats 4000000 in
set_option maxRecDepth 100000 in
theorem check_any (Ad : Nat → Addr) (w : World) (va vb : Value) (cs : List Cmp) (rs : List Rsc) (hE : Env8 w Ad) (hC : CmpRow w va cs) (hQ : RscRow w vb rs) (hsC : SmallC cs) (hsQ : SmallQ rs) :
  Calls Tryz.prog 51 #[.agg #[va, vb]] w fun e w' => ∃ v', e = .returned v' ∧ Top Ad w'.heap.size w' 3 v' (checkL cs rs) ∧ Below w.heap.size w w' := by
 have hmm := @run_makeMap Tryz.prog
 obtain ⟨a, c, rfl, hcap, hlay⟩ := hC
 obtain ⟨a', c', rfl, hcap', hlay'⟩ := hQ
 have HL := hid hlay
 have HL' := hid hlay'
 have h40 : cs.length ≤ 40 := hsC.1
 have h40' : rs.length ≤ 40 := hsQ.1
 have h40i : (cs.length : Int) ≤ 40 := by omega
 have h40i' : (rs.length : Int) ≤ 40 := by omega
 have HSC := hid hsC
 have HSQ := hid hsQ
 have HE := hid hE
 clear hE hsC hsQ hlay hlay'
 go_enter Tryz.func51, Tryz.ntmps51
 go_wp2_with fail
 obtain ⟨w0, hw0⟩ : ∃ w0, w0 = w.alloc (.cells #[.slice a cs.length c, .slice a' rs.length c'] 25) := ⟨_, rfl⟩
 have hsz : Hid (w0.heap.size = w.heap.size + 1) := by rw [hw0]; simp [Hid]
 have B0 : Hid (Below w.heap.size w w0) := by rw [hw0]; exact (Below.refl _ _).alloc (Nat.le_refl _) _
 obtain ⟨x0, x1⟩ := cell_new2 w (.slice a cs.length c) (.slice a' rs.length c') 25
 rw [← hw0] at x0 x1 ⊢
 have X0 := hid x0
 have X1 := hid x1
 have MM : Hid (MapN (w0.alloc (.map #[] 0)) (w.heap.size + 1) 0 []) := by rw [← hsz.out]; exact World.ownsMap_made w0 Tryz.prog 9 _
 have BM : Hid (Below w0.heap.size w0 (w0.alloc (.map #[] 0))) := (Below.refl _ _).alloc (Nat.le_refl _) _
 have hszM : Hid ((w0.alloc (.map #[] 0)).heap.size = w.heap.size + 2) := by have := hsz.out; simp [Hid, this]
 have E0 := hid (HE.out.later B0.out)
 have T1 := hid (toomany_any Ad (w0.alloc (.map #[] 0)) (E0.out.later BM.out) ⟨#[99, 111, 109, 112, 111, 110, 101, 110, 116, 115]⟩ (cs.length : Int) 16)
 clear hw0 x0 x1 hmm
 refine T1.out.mono ?_
 rintro e w2 ⟨v2, rfl, o2, hb2⟩
 obtain ⟨hc2, -⟩ := (show v2.cells = #[v2] ∧ v2.oneCell' = true from by
  rcases o2 with ⟨rfl, -⟩ | ⟨p, -, h⟩
  ·exact ⟨rfl, rfl⟩
  ·obtain ⟨t, q, rfl, -⟩ := h.1.shape
   exact ⟨rfl, rfl⟩)
 unfold Value.cells at hc2
 have K3 : Hid (Ckd Ad w0 (w.heap.size + 1) (w.heap.size + 2) 0 [] (.slice (some ⟨w2.heap.size, 0, none⟩) 1 1) [(v2, manyL bComps 16 cs.length)] (w2.alloc (.cells #[v2] 31))) := by
  have b3 : Below w2.heap.size w2 (w2.alloc (.cells #[v2] 31)) := (Below.refl _ _).alloc (Nat.le_refl _) _
  have hs := hszM.out
  have hs2 := hb2.size
  have hs0 := hsz.out
  have b13 := hb2.trans (b3.mono hb2.size)
  refine ⟨MM.out.later b13, ?_, ?_, ?_, BM.out.trans (b13.mono BM.out.size), ⟨by omega, by omega⟩, ?_⟩
  ·exact World.ownsRow_lit (base := w.heap.size + 2) (e := 31) (size := 1) w2 #[v2] 1 (by omega) (by unfold maxLen; omega) (by simp)
  ·intro g hg s hs
   obtain rfl : w2.heap.size = g := by simpa [Value.ownBlock] using hg
   rw [new_cell w2 v2 31] at hs
   exact o2.cell.2 s (by simpa using hs)
  ·intro u hu
   simp at hu
   subst hu
   exact o2.move b3 b3.size
  ·simp; omega
 have B12 := hid (BM.out.trans (hb2.mono BM.out.size))
 have y0 := Below.seen B12.out (Nat.le_refl _) X0.out
 have y1 := Below.seen B12.out (Nat.le_refl _) X1.out
 have hl2 : w.heap.size < w2.heap.size := World.block_lt_of_cell? w2 _ y0
 have hn2 : ¬ (w.heap.size = w2.heap.size) := by omega
 clear o2 hb2 T1 MM BM
 go_wp2_with fail
 go_loopw [4, 5, 6, 18] (fun ev _ _ i wr => ∃ k : Nat, k ≤ cs.length ∧ i = .int .i64 (k : Int) ∧ ∃ us, Hid (Ckd Ad w0 (w.heap.size + 1) (w.heap.size + 2) k (seenTo ((cs.take k).map Cmp.s)) ev us wr ∧ 0 < us.length ∧ us.length ≤ 1 + 3 * k ∧ flat us = manyL bComps 16 cs.length ++ compL cs k)) (fun _ _ _ i _ => cs.length - (intOf i).toNat)
 case atStart => exact ⟨0, Nat.zero_le _, rfl, _, K3.out, by simp, by simp, by simp [flat, compL]⟩
 case round =>
  obtain ⟨k, hk, rfl, us, HK⟩ := hrel
  obtain ⟨ck, hu0, hul, hfl⟩ := HK.out
  have CK := hid ck
  have HF := hid hfl
  by_cases hlt : k < cs.length
  ·have hki : (k : Int) < (cs.length : Int) := by omega
   obtain ⟨x, hx⟩ := at_lt cs k hlt
   obtain ⟨b, o, rfl, hc⟩ : ∃ b o, a = some ⟨b, o, none⟩ ∧ ∀ (j : Nat) (x : Cmp), cs[j]? = some x → w.cell? ⟨b, o + j * 7, none⟩ = some (.string x.s) ∧ w.cell? ⟨b, o + j * 7 + 1, none⟩ = some (.int .i64 x.wd) ∧ w.cell? ⟨b, o + j * 7 + 2, none⟩ = some (.bool x.rb) ∧ w.cell? ⟨b, o + j * 7 + 3, none⟩ = some (.int .i64 x.d0) ∧ w.cell? ⟨b, o + j * 7 + 4, none⟩ = some (.int .i64 x.d1) ∧ w.cell? ⟨b, o + j * 7 + 5, none⟩ = some (.int .i64 x.d2) ∧ w.cell? ⟨b, o + j * 7 + 6, none⟩ = some (.int .i64 x.d3) := by
    rcases HL.out with h | h
    ·rw [h] at hlt; simp at hlt
    ·exact h
   have BW := hid (B0.out.trans (ck.bel.mono B0.out.size))
   obtain ⟨c0, c1, c2, c3, c4, c5, c6⟩ := hc k x hx
   have S := fun {p : Addr} {u : Value} (h : w.cell? p = some u) => Below.seen BW.out (Nat.le_refl _) h
   have c0 := S c0
   have c1 := S c1
   have c2 := S c2
   have c3 := S c3
   have c4 := S c4
   have c5 := S c5
   have c6 := S c6
   have CN := hid (compL_next hx)
   have SN := hid (seen_next hx)
   have hxs : x.s.size ≤ 100 := HSC.out.2 x (List.mem_of_getElem? hx)
   obtain ⟨acc, HA⟩ : ∃ acc, Hid (acc = seenTo ((cs.take k).map Cmp.s)) := ⟨_, rfl⟩
   rw [← HA.out] at CK CN SN
   clear S hc hx ck hfl HK HA
   have K6 : Hid (C6 Ad w0 (w.heap.size + 1) (w.heap.size + 2) k acc u4 us wr.heap.size x [] (wr.alloc (.cells #[.string x.s, .int .i64 x.wd, .bool x.rb, .int .i64 x.d0, .int .i64 x.d1, .int .i64 x.d2, .int .i64 x.d3] 99))) := by
    have b : Below wr.heap.size wr (wr.alloc (.cells #[.string x.s, .int .i64 x.wd, .bool x.rb, .int .i64 x.d0, .int .i64 x.d1, .int .i64 x.d2, .int .i64 x.d3] 99)) := (Below.refl _ _).alloc (Nat.le_refl _) _
    have R := fun (j : Nat) (u : Value) (h : [Value.string x.s, .int .i64 x.wd, .bool x.rb, .int .i64 x.d0, .int .i64 x.d1, .int .i64 x.d2, .int .i64 x.d3][j]? = some u) => row_cell wr _ 99 j u h
    exact ⟨CK.out.later b, R 0 _ rfl, R 1 _ rfl, R 2 _ rfl, R 3 _ rfl, R 4 _ rfl, R 5 _ rfl, R 6 _ rfl, by simp⟩
   go_wp2_with fail
   generalize hwq : wr.alloc (.cells #[.string x.s, .int .i64 x.wd, .bool x.rb, .int .i64 x.d0, .int .i64 x.d1, .int .i64 x.d2, .int .i64 x.d3] 99) = wq at *
   have k6 := K6.out
   clear hwq c0 c1 c2 c3 c4 c5 c6
   obtain ⟨c0, c1, c2, c3, c4, c5, c6⟩ := k6.cells
   have k6d := k6.drew
   generalize wr.heap.size = g6 at *
   have h1000 : us.length ≤ 1000 := by omega
   go_region_held3 (fun W => W.cell? ⟨g6, 0, none⟩ = some (.string x.s) ∧ W.cell? ⟨g6, 1, none⟩ = some (.int .i64 x.wd) ∧ W.cell? ⟨g6, 2, none⟩ = some (.bool x.rb) ∧ W.cell? ⟨g6, 3, none⟩ = some (.int .i64 x.d0) ∧ W.cell? ⟨g6, 4, none⟩ = some (.int .i64 x.d1) ∧ W.cell? ⟨g6, 5, none⟩ = some (.int .i64 x.d2) ∧ W.cell? ⟨g6, 6, none⟩ = some (.int .i64 x.d3)) (first | go_keep | (exact C6.cells (by assumption))) (first
    | (go_at_call 102; refine (take_any Ad _ (C6.env (by assumption) E0.out) (w.heap.size + 1) k _ (C6.ck (by assumption)).map (by omega) x.s (by omega)).mono ?_; rintro e w7 ⟨rfl, hm7, hg7⟩; have h7 := C6.took (by assumption) hm7 hg7)
    | (go_at_call 101; refine (way3 Ad _ _ _ k (by omega) _ (by first | exact nErr_len _ _ | exact wErr_len _ | exact dErr_len _)).mono ?_; rintro e w8 ⟨v8, rfl, o8, hb8⟩; have h8 := C6.push (by assumption) hb8 o8; have s8 := o8.shape; unfold Value.cells at s8)
    | (go_at_call 103; refine (width7 Ad _ (C6.env (by assumption) E0.out) x).mono ?_; rintro e w9 ⟨rfl, hb9⟩; have h9 := C6.later (by assumption) hb9)
    | (go_at_call 104; refine (default7 Ad _ (C6.env (by assumption) E0.out) x).mono ?_; rintro e w9 ⟨rfl, hb9⟩; have h9 := C6.later (by assumption) hb9)
    | (refine step_errs3 (by rfl) _ _ (by rfl) (by assumption) (by rfl) hu0 h1000 (by rfl) (by rfl) ?_; intro g9 cap9 w10 hk10))
   have NX : Hid (∃ us', Ckd Ad w0 (w.heap.size + 1) (w.heap.size + 2) (k + 1) (seenTo ((cs.take (k + 1)).map Cmp.s)) (.slice (some ⟨g9, 0, none⟩) (us.length + 3) cap9) us' w10 ∧ 0 < us'.length ∧ us'.length ≤ 1 + 3 * (k + 1) ∧ flat us' = manyL bComps 16 cs.length ++ compL cs (k + 1)) := by
    have e := hk10.ck
    rw [← SN.out] at e
    refine ⟨_, e, by simp, by simp; omega, ?_⟩
    rw [flat_app, HF.out, CN.out, List.append_assoc]
    congr 2
    simp only [flat, leafC, List.nil_append, List.cons_append, List.map_cons, List.map_nil, List.flatten_cons, List.flatten_nil, List.append_nil]
    rfl
   clear hk10 h9 h8 h7 k6d k6 c0 c1 c2 c3 c4 c5 c6 o8 hb8 hm7 hg7 hb9
   go_wp2_with fail
   go_roundw
   case rel =>
    obtain ⟨us', hus'⟩ := NX.out
    exact ⟨k + 1, by omega, by go_num, us', hus'⟩
   case measure => simp [intOf]; omega
  ·have hki : ¬ ((k : Int) < (cs.length : Int)) := by omega
   obtain rfl : k = cs.length := by omega
   rw [List.take_of_length_le (Nat.le_refl _)] at CK
   have x1 := Below.seen CK.out.bel (Nat.le_refl _) X1.out
   have T2 := hid (toomany_any Ad wr (E0.out.later CK.out.bel) ⟨#[114, 101, 115, 111, 117, 114, 99, 101, 115]⟩ (rs.length : Int) 8)
   obtain ⟨pa, pc, rfl⟩ := own_slice CK.out.row
   clear ck hfl HK
   go_wp2_with fail
   refine T2.out.mono ?_
   rintro e w5 ⟨v5, rfl, o5, hb5⟩
   have s5 := o5.shape
   unfold Value.cells at s5
   have CK5 := hid (CK.out.later hb5)
   have hum : (us.map Prod.fst).length = us.length := List.length_map _
   have OW : Hid ((w5.alloc (.cells #[v5] 31)).ownsRow (w.heap.size + 2) 31 1 (.slice pa us.length pc) (us.map Prod.fst).length (us.map Prod.fst)) := by rw [hum]; exact CK5.out.row.alloc _
   have A1 := hid (app_cell w5 v5)
   have A2 : Hid (∀ z ∈ [v5], z.oneCell' = true) := by intro z hz; simp at hz; rw [hz]; exact o5.cell.1
   have A3 : Hid ((us.map Prod.fst).length + [v5].length ≤ 5000) := by show _ ≤ _; rw [hum]; simp; omega
   have hBs : w.heap.size + 2 ≤ (w5.alloc (.cells #[v5] 31)).heap.size := Nat.le_trans CK5.out.high (by simp)
   have O5 := hid o5
   have X1a : Hid ((w5.alloc (.cells #[v5] 31)).cell? ⟨w.heap.size, 1, none⟩ = some (.slice a' rs.length c')) := Below.seen (CK5.out.later ((Below.refl _ _).alloc (Nat.le_refl _) (.cells #[v5] 31))).bel (Nat.le_refl _) X1.out
   have hlt2 : Hid (w.heap.size < w.heap.size + 2) := by show _ < _; omega
   clear o5 hb5 T2 hum
   go_wp2_with (at_builtin; refine wpList_errsG _ rfl (.tmp 41) (.tmp 46) rfl (w.heap.size + 2) _ (us.map Prod.fst) rfl OW.out w5.heap.size 1 [v5] rfl A1.out A2.out A3.out hBs ?_; intro ga gc y w6 hy ow hg bw; have z1 := (bw.out.cell (p := ⟨w.heap.size, 1, none⟩) hlt2.out).trans X1a.out)
   have K6 : Hid (∃ us', Ckd Ad w0 (w.heap.size + 1) (w.heap.size + 2) (cs.length + 0) (seenTo (cs.map Cmp.s ++ (rs.take 0).map Rsc.s)) (.slice ga y.length gc) us' w6 ∧ 0 < us'.length ∧ us'.length ≤ 2 + 3 * cs.length + 0 ∧ flat us' = manyL bComps 16 cs.length ++ compL cs cs.length ++ (manyL bRes 8 rs.length ++ resL cs rs 0)) := by
    have e := CK5.out.app (vs := [(v5, manyL bRes 8 rs.length)]) hu0 (by intro u hu; simp at hu; subst hu; exact O5.out) (by rw [hy.out]; rfl) ow.out hg.out
    refine ⟨_, by simpa using e, by simp, by simp; omega, ?_⟩
    rw [flat_app, HF.out]
    simp [flat, resL]
   clear z1 CK5 CK OW A1 A2 A3 hBs O5 hy ow hg bw x1 HF X1a s5
   go_loopw [4, 7, 8, 51] (fun ev _ _ i wr => ∃ k : Nat, k ≤ rs.length ∧ i = .int .i64 (k : Int) ∧ ∃ us, Hid (Ckd Ad w0 (w.heap.size + 1) (w.heap.size + 2) (cs.length + k) (seenTo (cs.map Cmp.s ++ (rs.take k).map Rsc.s)) ev us wr ∧ 0 < us.length ∧ us.length ≤ 2 + 3 * cs.length + k ∧ flat us = manyL bComps 16 cs.length ++ compL cs cs.length ++ (manyL bRes 8 rs.length ++ resL cs rs k))) (fun _ _ _ i _ => rs.length - (intOf i).toNat)
   case atStart =>
    obtain ⟨us', hus'⟩ := K6.out
    exact ⟨0, Nat.zero_le _, rfl, us', hus'⟩
   case round =>
    clear hul hu0
    obtain ⟨k, hk, rfl, us, HK⟩ := hrel
    obtain ⟨ck, hu0, hul, hfl⟩ := HK.out
    have CK := hid ck
    have HF := hid hfl
    by_cases hlt : k < rs.length
    ·have hki : (k : Int) < (rs.length : Int) := by omega
     obtain ⟨x, hx⟩ := at_lt rs k hlt
     obtain ⟨b, o, rfl, hc⟩ : ∃ b o, a' = some ⟨b, o, none⟩ ∧ ∀ (j : Nat) (x : Rsc), rs[j]? = some x → w.cell? ⟨b, o + j * 2, none⟩ = some (.string x.s) ∧ w.cell? ⟨b, o + j * 2 + 1, none⟩ = some (.int .i64 x.n) := by
      rcases HL'.out with h | h
      ·rw [h] at hlt; simp at hlt
      ·exact h
     have BW := hid (B0.out.trans (ck.bel.mono B0.out.size))
     obtain ⟨c0, c1⟩ := hc k x hx
     have c0 := Below.seen BW.out (Nat.le_refl _) c0
     have c1 := Below.seen BW.out (Nat.le_refl _) c1
     have CN := hid (resL_next (cs := cs) hx)
     have SN := hid (seenR_next (cs := cs) hx)
     have hxs : x.s.size ≤ 100 := HSQ.out.2 x (List.mem_of_getElem? hx)
     obtain ⟨acc, HA⟩ : ∃ acc, Hid (acc = seenTo (cs.map Cmp.s ++ (rs.take k).map Rsc.s)) := ⟨_, rfl⟩
     rw [← HA.out] at CK CN SN
     have BA : Hid (Below wr.heap.size wr (wr.alloc (.cells #[.string x.s, .int .i64 x.n] 101))) := (Below.refl _ _).alloc (Nat.le_refl _) _
     have CA := hid (CK.out.later BA.out)
     have TA := hid (take_any Ad _ (E0.out.later CA.out.bel) (w.heap.size + 1) _ _ CA.out.map (by omega) x.s (by omega))
     clear hc hx ck hfl HK HA
     go_wp2_with fail
     refine TA.out.mono ?_
     rintro e w7 ⟨rfl, hm7, hg7⟩
     have C7 := hid (CA.out.took hm7 hg7)
     have WA := hid (way3 Ad w7 ⟨#[114, 101, 115, 111, 117, 114, 99, 101, 115]⟩ ⟨#[110, 97, 109, 101]⟩ k (by omega) _ (nErr_len acc x.s))
     clear hm7 hg7 TA CA
     go_wp2_with fail
     refine WA.out.mono ?_
     rintro e w8 ⟨v8, rfl, o8, hb8⟩
     have s8 := o8.shape
     unfold Value.cells at s8
     have C8 := hid (C7.out.later hb8)
     obtain ⟨pa, pc, hpv⟩ := own_slice C8.out.row
     have hum : (us.map Prod.fst).length = us.length := List.length_map _
     have OW : Hid ((w8.alloc (.cells #[v8] 31)).ownsRow (w.heap.size + 2) 31 1 u4 (us.map Prod.fst).length (us.map Prod.fst)) := by rw [hum]; exact C8.out.row.alloc _
     have A1 := hid (app_cell w8 v8)
     have A2 : Hid (∀ z ∈ [v8], z.oneCell' = true) := by intro z hz; simp at hz; rw [hz]; exact o8.cell.1
     have A3 : Hid ((us.map Prod.fst).length + [v8].length ≤ 5000) := by show _ ≤ _; rw [hum]; simp; omega
     have hBs : w.heap.size + 2 ≤ (w8.alloc (.cells #[v8] 31)).heap.size := Nat.le_trans C8.out.high (by simp)
     have O8 := hid o8
     clear o8 hb8 WA hum hpv C7
     go_wp2_with (at_builtin; refine wpList_errsG _ rfl (.tmp 56) (.tmp 63) rfl (w.heap.size + 2) _ (us.map Prod.fst) rfl OW.out w8.heap.size 1 [v8] rfl A1.out A2.out A3.out hBs ?_; intro ga2 gc2 y2 w9 hy2 ow2 hg2 bw2)
     have NX : Hid (∃ us', Ckd Ad w0 (w.heap.size + 1) (w.heap.size + 2) (cs.length + (k + 1)) (seenTo (cs.map Cmp.s ++ (rs.take (k + 1)).map Rsc.s)) (.slice ga2 y2.length gc2) us' w9 ∧ 0 < us'.length ∧ us'.length ≤ 2 + 3 * cs.length + (k + 1) ∧ flat us' = manyL bComps 16 cs.length ++ compL cs cs.length ++ (manyL bRes 8 rs.length ++ resL cs rs (k + 1))) := by
      have e := C8.out.app (vs := [(v8, at3 bRes k bName (nErr acc x.s))]) hu0 (by intro u hu; simp at hu; subst hu; exact O8.out) (by rw [hy2.out]; rfl) ow2.out hg2.out
      rw [← SN.out] at e
      refine ⟨_, e, by simp, by simp; omega, ?_⟩
      rw [flat_app, HF.out, CN.out]
      simp [flat]
     go_roundw
     case rel =>
      obtain ⟨us', hus'⟩ := NX.out
      exact ⟨k + 1, by omega, by go_num, us', hus'⟩
     case measure => simp [intOf]; omega
    ·have hki : ¬ ((k : Int) < (rs.length : Int)) := by omega
     obtain rfl : k = rs.length := by omega
     have AL := hid (all_top Ad 3 u4 us wr (own_errs (by have := CK.out.row; rw [show us.length = (us.map Prod.fst).length by simp] at this; exact this)) (fun u hu => (CK.out.one u hu).top) (by omega) (by
      show (flat us).length ≤ 1000
      rw [HF.out]
      have h1 := compL_len cs cs.length
      have h2 := resL_len cs rs rs.length
      have h3 : (manyL bComps 16 cs.length).length ≤ 1 := by unfold manyL; split <;> simp
      have h4 : (manyL bRes 8 rs.length).length ≤ 1 := by unfold manyL; split <;> simp
      simp only [List.length_append]
      omega))
     have R : Hid ((us.map Prod.snd).flatten = checkL cs rs) := by show flat us = _; rw [HF.out]; rfl
     rw [R.out] at AL
     have BW := hid (B0.out.trans (CK.out.bel.mono B0.out.size))
     obtain ⟨pa, pc, rfl⟩ := own_slice CK.out.row
     clear ck hfl HK R
     go_wp2_with fail
     refine AL.out.mono ?_
     rintro e w9 ⟨v9, rfl, t9, hb9⟩
     have T9 := hid t9
     have B9 := hid (BW.out.trans (hb9.mono BW.out.size))
     clear t9 hb9 AL
     go_wp2_with fail
     go_ret
     exact ⟨_, rfl, T9.out, B9.out⟩
end Sc
end Go.Proofs.YtnlcbheidiigaaaGreatDoor
