/- For Check: names that are taken, errors at a way. -/
import Derived.Test.YtbfjijiakkopeaaDoorScSa
import Derived.Test.YtbfjijiakkopeaaDoorScSb
namespace Go.Proofs.YtbfjijiakkopeaaDoor.Sc
open Go.RowKit Go.Shelf Go.Maps
theorem keyed9 : Keyed Tryd.prog 9 := string_keyed Tryd.underlying9
theorem zero95 (w : World) : (zeroValue 123).run Tryd.prog w = .ok (.agg #[]) w := by kernel_rfl
def litS (s : ByteArray) : Lit := .string s.data.toList
/-- A set of names. -/
def SetN (acc : List ByteArray) : DataW Unit := Maps.setOf (.agg []) (acc.map litS)
theorem litS_key (acc : List ByteArray) : ∀ x ∈ acc.map litS, WideAt.IsKeyLit x := by
  intro x hx
  obtain ⟨s, -, rfl⟩ := List.mem_map.1 hx
  exact trivial
/-- Whether a name is among others. -/
def memB (acc : List ByteArray) (s : ByteArray) : Bool := acc.any fun x => x.data.toList == s.data.toList
theorem memB_iff (acc : List ByteArray) (s : ByteArray) : memB acc s = true ↔ s ∈ acc := by
  unfold memB
  rw [List.any_eq_true]
  constructor
  · rintro ⟨x, hx, h⟩
    have : x = s := ByteArray.ext (Array.toList_inj.1 (by simpa using h))
    exact this ▸ hx
  · intro h
    exact ⟨s, h, by simp⟩
theorem has_SetN (acc : List ByteArray) (s : ByteArray) : Maps.has (SetN acc) (litS s) = memB acc s := by
  unfold SetN memB
  rw [Maps.has_setOf _ _ _ (litS_key acc), List.any_map]
  rfl
theorem SetN_snoc (acc : List ByteArray) (s : ByteArray) : SetN (acc ++ [s]) = (SetN acc).put (litS s) (.agg []) := by
  unfold SetN
  rw [List.map_append]
  exact Maps.setOf_snoc _ _ _
def MapN (W : World) (mb n : Nat) (acc : List ByteArray) : Prop := W.ownsMap Tryd.prog 9 (unitElem (H := Unit)) mb n (SetN acc)
/-- What is wrong with a name, where others are taken. -/
def nErr (acc : List ByteArray) (s : ByteArray) : List Nat := if isNm s then (if memB acc s then [9] else []) else [10]
def seenB (acc : List ByteArray) (s : ByteArray) : List ByteArray := if isNm s && !memB acc s then acc ++ [s] else acc
/-- The error of numbers of which there is one at most. -/
def errV (Ad : Nat → Addr) : List Nat → Value
  | [] => .nilIface
  | k :: _ => .iface 154 (.pointer (some (Ad k)))
theorem grown_of_below {W W' : World} (h : Below W.heap.size W W') (row : Option Nat) : W.grownBy W' row := ⟨h.os, h.tape, h.output, h.size, fun k hk _ => h.block k hk⟩
theorem MapN.later {W W' : World} {mb n : Nat} {acc : List ByteArray} (h : MapN W mb n acc) (hb : Below W.heap.size W W') : MapN W' mb n acc := World.ownsMap.kept h (grown_of_below hb none) (by simp)
set_option maxHeartbeats 800000 in
theorem take_small (Ad : Nat → Addr) (W : World) (hE : Env8 W Ad) (mb n : Nat) (acc : List ByteArray) (hm : MapN W mb n acc) (hn : n ≤ 1000) (s : ByteArray) (hs : s.size ≤ 1000) :
    Calls Tryd.prog 43 #[.map (some mb), .string s] W fun e W' => e = .returned (errV Ad (nErr acc s)) ∧ MapN W' mb (n + 1) (seenB acc s) ∧ W.grownBy W' (some mb) := by
  have IC := hid (isname_any s W)
  have HM := hid hm
  have HE := hid hE
  have hkey : keyOf Tryd.prog 9 (.string s) = some (litS s) := WideMaps.keyOf_string_mk Tryd.underlying9 (by unfold maxLen; omega)
  have HK := hid hkey
  clear hm hE hkey
  by_cases hi : isNm s = true
  · rw [hi] at IC
    go_enter Tryd.func43, Tryd.ntmps43
    go_wp2_with fail
    refine IC.out.mono ?_
    rintro e w1 ⟨rfl, hb1⟩
    have B1 := hid hb1
    have M1 := hid (HM.out.later hb1)
    have e9 : w1.cell? ⟨5, 0, none⟩ = some (.iface 154 (.pointer (some (Ad 9)))) := (HE.out.later hb1).cell 9 (by decide) (by decide)
    clear hb1 IC
    by_cases hmem : memB acc s = true
    · have R : Hid (errV Ad (nErr acc s) = .iface 154 (.pointer (some (Ad 9)))) := by show _ = _; simp [nErr, hi, hmem, errV]
      have R2 : Hid (seenB acc s = acc) := by show _ = _; simp [seenB, hmem]
      have hh : Maps.has (SetN acc) (litS s) = true := by rw [has_SetN]; exact hmem
      have h3 : 5 < w1.heap.size := World.block_lt_of_cell? w1 _ e9
      have h3n : ¬ (5 = w1.heap.size) := by omega
      clear hmem hi
      go_wp2_with (at_lookup; refine wpList_lookup_own_unit _ rfl _ _ 94 rfl 9 123 keyed9 Tryd.underlying94 (zero95 _) mb n (SetN acc) rfl M1.out _ _ rfl HK.out ?_; rw [hh])
      go_ret
      refine ⟨by rw [R.out]; rfl, ?_, ?_⟩
      · rw [R2.out]
        exact (World.ownsMap.alloc M1.out _).mono (Nat.le_succ _)
      · exact (grown_of_below B1.out _).trans (World.grownBy_alloc _ _ _)
    · have hmf : memB acc s = false := by simpa using hmem
      have R : Hid (errV Ad (nErr acc s) = .nilIface) := by show _ = _; simp [nErr, hi, hmf, errV]
      have R2 : Hid (seenB acc s = acc ++ [s]) := by show _ = _; simp [seenB, hi, hmf]
      have hh : Maps.has (SetN acc) (litS s) = false := by rw [has_SetN]; exact hmf
      have MA := hid (World.ownsMap.alloc M1.out (.cells #[] 123))
      clear hmem hi hmf e9
      go_wp2_with (first | (at_lookup; refine wpList_lookup_own_unit _ rfl _ _ 94 rfl 9 123 keyed9 Tryd.underlying94 (zero95 _) mb n (SetN acc) rfl M1.out _ _ rfl HK.out ?_; rw [hh]) | (at_mapUpdate; refine wpList_mapUpdate_own _ rfl _ _ _ 94 rfl 9 123 keyed9 Tryd.underlying94 (unitElem (H := Unit)) mb n (SetN acc) rfl MA.out (by unfold maxLen; omega) _ _ _ rfl rfl HK.out (.agg []) [] unitElem_mk ?_; intro w2 hown2 hg2))
      go_ret
      refine ⟨by rw [R.out]; rfl, ?_, ?_⟩
      · rw [R2.out]
        show World.ownsMap _ _ _ _ _ _ _
        rw [SetN_snoc]
        exact hown2
      · exact ((grown_of_below B1.out _).trans (World.grownBy_alloc _ _ _)).trans hg2
  · have hif : isNm s = false := by simpa using hi
    rw [hif] at IC
    have R : Hid (errV Ad (nErr acc s) = .iface 154 (.pointer (some (Ad 10)))) := by show _ = _; simp [nErr, hif, errV]
    have R2 : Hid (seenB acc s = acc) := by show _ = _; simp [seenB, hif]
    clear hi hif
    go_enter Tryd.func43, Tryd.ntmps43
    go_wp2_with fail
    refine IC.out.mono ?_
    rintro e w1 ⟨rfl, hb1⟩
    have B1 := hid hb1
    have M1 := hid (HM.out.later hb1)
    have e10 : w1.cell? ⟨4, 0, none⟩ = some (.iface 154 (.pointer (some (Ad 10)))) := (HE.out.later hb1).cell 10 (by decide) (by decide)
    clear hb1 IC
    go_wp2_with fail
    go_ret
    exact ⟨by rw [R.out]; rfl, by rw [R2.out]; exact M1.out.mono (Nat.le_succ _), grown_of_below B1.out _⟩
set_option maxHeartbeats 800000 in
theorem take_any (Ad : Nat → Addr) (W : World) (hE : Env8 W Ad) (mb n : Nat) (acc : List ByteArray) (hm : MapN W mb n acc) (hn : n ≤ 1000) (s : ByteArray) :
    Calls Tryd.prog 43 #[.map (some mb), .string s] W fun e W' => e = .returned (errV Ad (nErr acc s)) ∧ MapN W' mb (n + 1) (seenB acc s) ∧ W.grownBy W' (some mb) := by
  by_cases h8 : 8 < s.size
  · have IC := hid (isname_any s W)
    have HM := hid hm
    have HE := hid hE
    have hif : isNm s = false := isNm_long s h8
    rw [hif] at IC
    have R : Hid (errV Ad (nErr acc s) = .iface 154 (.pointer (some (Ad 10)))) := by show _ = _; simp [nErr, hif, errV]
    have R2 : Hid (seenB acc s = acc) := by show _ = _; simp [seenB, hif]
    clear hif hm hE h8
    go_enter Tryd.func43, Tryd.ntmps43
    go_wp2_with fail
    refine IC.out.mono ?_
    rintro e w1 ⟨rfl, hb1⟩
    have B1 := hid hb1
    have M1 := hid (HM.out.later hb1)
    have e10 : w1.cell? ⟨4, 0, none⟩ = some (.iface 154 (.pointer (some (Ad 10)))) := (HE.out.later hb1).cell 10 (by decide) (by decide)
    clear hb1 IC
    go_wp2_with fail
    go_ret
    exact ⟨by rw [R.out]; rfl, by rw [R2.out]; exact M1.out.mono (Nat.le_succ _), grown_of_below B1.out _⟩
  · exact take_small Ad W hE mb n acc hm hn s (by omega)
end Go.Proofs.YtbfjijiakkopeaaDoor.Sc
