/- A part of StoreExact. -/
import Derived.Test.YtnlcbheidiigaaaGreatDoorMal
namespace Go.Proofs.YtnlcbheidiigaaaGreatDoor
namespace Rs
open Go.RowKit Go.Shelf Go.Maps
open Sc (Cmp Rsc CmpRow RscRow SmallC SmallQ)
open Co (I64)
structure AX where
 kd : Int
 n : Int
 ei : Int
 eg : Int
 lv : Value
 l : List Prt
 p : Prt
 comp : Int
 cell : Int
 value : Int
 m : Nat
 w : Nat
def AX.arr (x : AX) : Array Value := #[.int .i64 x.kd, .int .i64 x.n, .int .i64 x.ei, .int .i64 x.eg, x.lv, .int .i64 x.p.c, .int .i64 x.p.v0, .int .i64 x.p.v1, .int .i64 x.p.v2, .int .i64 x.p.v3, .int .i64 x.p.t, .int .i64 x.comp, .int .i64 x.cell, .int .i64 x.value, .int .u32 (x.m : Int), .int .u32 (x.w : Int)]
structure AX.Ok (W : World) (x : AX) : Prop where
 e : I64 x.ei ∧ I64 x.eg
 p : I64 x.p.t
 c : I64 x.comp
 m : x.m < 4294967296 ∧ x.w < 4294967296
 l : PRow W x.lv x.l
 lt : ∀ p ∈ x.l, I64 p.t
def AR (W : World) (v : Value) (xs : List AX) : Prop := ∃ a c, v = .slice a xs.length c ∧ (∀ x ∈ xs, x.Ok W) ∧ (xs = [] ∨ ∃ b o, a = some ⟨b, o, none⟩ ∧ ∀ (j : Nat) x, xs[j]? = some x → ∀ i v, x.arr[i]? = some v → W.cell? ⟨b, o + j * 16 + i, none⟩ = some v)
theorem AR.later {W W' : World} {v : Value} {xs : List AX} (h : AR W v xs) (hb : Below W.heap.size W W') : AR W' v xs := by
 obtain ⟨a, c, h1, h2, h3⟩ := h
 refine ⟨a, c, h1, fun x hx => ?_, h3.imp id fun ⟨b, o, h4, h5⟩ => ⟨b, o, h4, fun j x hx i v hv => At.seen hb (Nat.le_refl _) (h5 j x hx i v hv)⟩⟩
 obtain ⟨q1, q2, q3, q4, q5, q6⟩ := h2 x hx
 exact ⟨q1, q2, q3, q4, q5.later hb, q6⟩
def whoL (n ei eg : Int) (gl : List (Nat × Nat)) : Int × Int := if n < 0 ∨ gl = [] then (ei, eg) else (((gl.getD (n.toNat % gl.length) (0, 0)).1 : Int), ((gl.getD (n.toNat % gl.length) (0, 0)).2 : Int))
theorem who_ok {n ei eg : Int} {gl : List (Nat × Nat)} (h1 : I64 ei) (h2 : I64 eg) (hg : ∀ p ∈ gl, p.1 ≤ 1000 ∧ p.2 ≤ 1000) : I64 (whoL n ei eg gl).1 ∧ I64 (whoL n ei eg gl).2 := by
 unfold whoL
 split
 ·exact ⟨h1, h2⟩
 ·rename_i h
  have h0 : 0 < gl.length := List.length_pos_iff.2 fun e => h (.inr e)
  have hl : n.toNat % gl.length < gl.length := Nat.mod_lt _ h0
  rw [List.getD_eq_getElem?_getD, List.getElem?_eq_getElem hl]
  have := hg _ (List.getElem_mem hl)
  exact ⟨Co.I64_mid (by simp <;> omega) (by simp <;> omega), Co.I64_mid (by simp <;> omega) (by simp <;> omega)⟩
def GreatL (cs : List Cmp) (rs : List Rsc) (xs : List AX) (e : Ending) : Prop := ∃ g, e = .returned (.bool g) ∧ (g = false → SmallC cs ∧ SmallQ rs ∧ ∀ (i : Nat) x, i < 150 → xs[i]? = some x → x.l.length ≤ 30)
theorem take_next2 {α : Type} {l : List α} {k : Nat} {x : α} (h : l[k]? = some x) : l.take (k + 1) = l.take k ++ [x] := by rw [List.take_add_one, h]; rfl
set_option maxHeartbeats 3200000 in
set_option maxRecDepth 100000 in
theorem great_any (W : World) (va vb : Value) (cs : List Cmp) (rs : List Rsc) (hC : CmpRow W va cs) (hQ : RscRow W vb rs) (av : Value) (xs : List AX) (hA : AR W av xs) :
  Calls Tryz.prog 9 #[.agg #[va, vb], av] W fun e W' => GreatL cs rs xs e ∧ Below W.heap.size W W' := by
 obtain ⟨a, c, rfl, hcap, hlay⟩ := hC
 obtain ⟨a', c', rfl, hcap', hlay'⟩ := hQ
 obtain ⟨ax, cx, rfl, hok, hrow⟩ := hA
 have HL := hid hlay
 have HL' := hid hlay'
 have HOK := hid hok
 have HROW := hid hrow
 have BA : Hid (Below W.heap.size W (W.alloc (.cells #[.slice a cs.length c, .slice a' rs.length c'] 25))) := (Below.refl _ _).alloc (Nat.le_refl _) _
 clear hlay hlay' hcap hcap' hok hrow
 by_cases hbig : 40 < cs.length
 ·have hbi : (40 : Int) < (cs.length : Int) := by omega
  go_enter Tryz.func9, Tryz.ntmps9
  go_wp2_with fail
  go_ret
  exact ⟨⟨true, rfl, by simp⟩, BA.out⟩
 ·have hbi : ¬ ((40 : Int) < (cs.length : Int)) := by omega
  have hbj : (cs.length : Int) ≤ 40 := by omega
  by_cases hbig' : 40 < rs.length
  ·have hbi' : (40 : Int) < (rs.length : Int) := by omega
   go_enter Tryz.func9, Tryz.ntmps9
   go_wp2_with fail
   go_ret
   exact ⟨⟨true, rfl, by simp⟩, BA.out⟩
  ·have hbi' : ¬ ((40 : Int) < (rs.length : Int)) := by omega
   have hbj' : (rs.length : Int) ≤ 40 := by omega
   go_enter Tryz.func9, Tryz.ntmps9
   go_wp2_with fail
   go_loop [5] (fun i => ∃ k : Nat, k ≤ cs.length ∧ i = .int .i64 (k : Int) ∧ Hid (∀ x ∈ cs.take k, x.s.size ≤ 100)) (fun i => cs.length - (intOf i).toNat)
   case atStart => exact ⟨0, Nat.zero_le _, rfl, by simp [Hid]⟩
   case round =>
    obtain ⟨k, hk, rfl, HS⟩ := hrel
    by_cases hlt : k < cs.length
    ·have hki : (k : Int) < (cs.length : Int) := by omega
     obtain ⟨x, hx⟩ := at_lt cs k hlt
     obtain ⟨b, o, rfl, hc⟩ : ∃ b o, a = some ⟨b, o, none⟩ ∧ W.cell? ⟨b, o + k * 7, none⟩ = some (.string x.s) := by
      rcases HL.out with h | ⟨b, o, h1, h2⟩
      ·rw [h] at hlt; simp at hlt
      ·exact ⟨b, o, h1, (h2 k x hx).1⟩
     have hbl : b < W.heap.size := World.block_lt_of_cell? W _ hc
     have hbn : ¬ (b = W.heap.size) := by omega
     have TN := hid (take_next2 hx)
     clear hx
     by_cases h1 : 100 < x.s.size
     ·have h1i : (100 : Int) < (x.s.size : Int) := by omega
      go_wp2_with fail
      go_ret
      exact ⟨⟨true, rfl, by simp⟩, BA.out⟩
     ·have h1i : ¬ ((100 : Int) < (x.s.size : Int)) := by omega
      have R : Hid (∀ x ∈ cs.take (k + 1), x.s.size ≤ 100) := by
       show ∀ x ∈ cs.take (k + 1), _
       rw [TN.out]
       intro y hy
       rcases List.mem_append.1 hy with hy | hy
       ·exact HS.out y hy
       ·simp at hy; rw [hy]; omega
      go_wp2_with fail
      go_round
      case rel => exact ⟨k + 1, by omega, by go_num, R.out⟩
      case measure => simp [intOf]; omega
    ·have hki : ¬ ((k : Int) < (cs.length : Int)) := by omega
     have SC : Hid (SmallC cs) := ⟨by omega, fun x hx => HS.out x (by rw [List.take_of_length_le (by omega)]; exact hx)⟩
     clear HS
     go_wp2_with fail
     go_loop [6] (fun i => ∃ k : Nat, k ≤ rs.length ∧ i = .int .i64 (k : Int) ∧ Hid (∀ x ∈ rs.take k, x.s.size ≤ 100)) (fun i => rs.length - (intOf i).toNat)
     case atStart => exact ⟨0, Nat.zero_le _, rfl, by simp [Hid]⟩
     case round =>
      obtain ⟨j, hj, rfl, HS⟩ := hrel
      by_cases hlt2 : j < rs.length
      ·have hji : (j : Int) < (rs.length : Int) := by omega
       obtain ⟨x, hx⟩ := at_lt rs j hlt2
       obtain ⟨b, o, rfl, hc⟩ : ∃ b o, a' = some ⟨b, o, none⟩ ∧ W.cell? ⟨b, o + j * 2, none⟩ = some (.string x.s) := by
        rcases HL'.out with h | ⟨b, o, h1, h2⟩
        ·rw [h] at hlt2; simp at hlt2
        ·exact ⟨b, o, h1, (h2 j x hx).1⟩
       have hbl : b < W.heap.size := World.block_lt_of_cell? W _ hc
       have hbn : ¬ (b = W.heap.size) := by omega
       have TN := hid (take_next2 hx)
       clear hx
       by_cases h1 : 100 < x.s.size
       ·have h1i : (100 : Int) < (x.s.size : Int) := by omega
        go_wp2_with fail
        go_ret
        exact ⟨⟨true, rfl, by simp⟩, BA.out⟩
       ·have h1i : ¬ ((100 : Int) < (x.s.size : Int)) := by omega
        have R : Hid (∀ x ∈ rs.take (j + 1), x.s.size ≤ 100) := by
         show ∀ x ∈ rs.take (j + 1), _
         rw [TN.out]
         intro y hy
         rcases List.mem_append.1 hy with hy | hy
         ·exact HS.out y hy
         ·simp at hy; rw [hy]; omega
        go_wp2_with fail
        go_round
        case rel => exact ⟨j + 1, by omega, by go_num, R.out⟩
        case measure => simp [intOf]; omega
      ·have hji : ¬ ((j : Int) < (rs.length : Int)) := by omega
       have SQ : Hid (SmallQ rs) := ⟨by omega, fun x hx => HS.out x (by rw [List.take_of_length_le (by omega)]; exact hx)⟩
       clear HS
       go_wp2_with fail
       go_loop [7] (fun i => ∃ k : Nat, k ≤ xs.length ∧ k ≤ 150 ∧ i = .int .i64 (k : Int) ∧ Hid (∀ x ∈ xs.take k, x.l.length ≤ 30)) (fun i => xs.length - (intOf i).toNat)
       case atStart => exact ⟨0, Nat.zero_le _, by omega, rfl, by simp [Hid]⟩
       case round =>
        obtain ⟨q, hq, hq150, rfl, HS⟩ := hrel
        by_cases hlt3 : q < xs.length
        ·have hqi : (q : Int) < (xs.length : Int) := by omega
         by_cases h150 : q < 150
         ·have h150i : (q : Int) < 150 := by omega
          obtain ⟨x, hx⟩ := at_lt xs q hlt3
          obtain ⟨la, lc, hlv⟩ : ∃ la lc, x.lv = .slice la x.l.length lc := by
           obtain ⟨la, lc, e, -⟩ := (HOK.out x (List.mem_of_getElem? hx)).l
           exact ⟨la, lc, e⟩
          obtain ⟨b, o, rfl, hc⟩ : ∃ b o, ax = some ⟨b, o, none⟩ ∧ W.cell? ⟨b, o + q * 16 + 4, none⟩ = some (.slice la x.l.length lc) := by
           rcases HROW.out with h | ⟨b, o, h1, h2⟩
           ·rw [h] at hlt3; simp at hlt3
           ·exact ⟨b, o, h1, h2 q x hx 4 _ (by rw [← hlv]; rfl)⟩
          have hbl : b < W.heap.size := World.block_lt_of_cell? W _ hc
          have hbn : ¬ (b = W.heap.size) := by omega
          have TN := hid (take_next2 hx)
          clear hx hlv
          by_cases h1 : 30 < x.l.length
          ·have h1i : (30 : Int) < (x.l.length : Int) := by omega
           go_wp2_with fail
           go_ret
           exact ⟨⟨true, rfl, by simp⟩, BA.out⟩
          ·have h1i : ¬ ((30 : Int) < (x.l.length : Int)) := by omega
           have R : Hid (∀ x ∈ xs.take (q + 1), x.l.length ≤ 30) := by
            show ∀ x ∈ xs.take (q + 1), _
            rw [TN.out]
            intro y hy
            rcases List.mem_append.1 hy with hy | hy
            ·exact HS.out y hy
            ·simp at hy; rw [hy]; omega
           go_wp2_with fail
           go_round
           case rel => exact ⟨q + 1, by omega, by omega, by go_num, R.out⟩
           case measure => simp [intOf]; omega
         ·have h150i : ¬ (q : Int) < 150 := by omega
          go_wp2_with fail
          go_ret
          exact ⟨⟨false, rfl, fun _ => ⟨SC.out, SQ.out, fun i x hi hx => HS.out x (List.mem_of_getElem? (i := i) (by rw [List.getElem?_take, if_pos (by omega)]; exact hx))⟩⟩, BA.out⟩
        ·have hqi : ¬ ((q : Int) < (xs.length : Int)) := by omega
         go_wp2_with fail
         go_ret
         exact ⟨⟨false, rfl, fun _ => ⟨SC.out, SQ.out, fun i x hi hx => HS.out x (by rw [List.take_of_length_le (by omega)]; exact List.mem_of_getElem? hx)⟩⟩, BA.out⟩
end Rs
end Go.Proofs.YtnlcbheidiigaaaGreatDoor
