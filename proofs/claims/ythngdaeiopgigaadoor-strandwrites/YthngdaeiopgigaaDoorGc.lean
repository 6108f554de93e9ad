/- Contract of the reference's Write, with a bound below 0. -/
import Derived.Test.YthngdaeiopgigaaDoorGb
namespace Go.Proofs.YthngdaeiopgigaaDoor
open Go.ChangeShapes Go.WideShapes Go.ChangeAt Go.RowKit
attribute [local go_sem ↓] Go.wp_at_zero Go.wp_at_succ
set_option maxHeartbeats 4000000 in
set_option maxRecDepth 100000 in
theorem write_neg (w : World) (v : Value) (most : Int) (hneg : most < 0) (xs : List (Itm × Value)) (aA aL : Addr) (hI : Its w v xs) (hok0 : ∀ x ∈ xs, x.1.Ok) (h60 : xs.length ≤ 60) :
    Calls Tryd.prog 14 #[.int .i64 most, v] w fun e w' => (∃ s c, e = .returned (.tuple #[.string s, .int .i64 c]) ∧ Wrote aA aL 0 xs s c) ∧ Below w.heap.size w w' := by
  have hok := hid hok0
  have HBO := hid hI.bools
  obtain ⟨a, c, rfl, hlay⟩ := hI.lay
  have HLAY := hid hlay
  have hli : (xs.length : Int) ≤ 60 := by omega
  clear hlay hok0 hI
  have hM : Hid (((0 : Nat) : Int) ≤ 9223372036854775807) := by show ((0 : Nat) : Int) ≤ _; omega
  go_enter Tryd.func14, Tryd.ntmps14
  go_wp2_with fail
  go_loopw [6, 7, 8, 9] (fun out i _ _ wr => ∃ (k : Nat) (s : ByteArray), k ≤ xs.length ∧ i = .int .i64 k ∧ out = .string s ∧ puts aA aL (.ok 0 []) (xs.take k) = .ok 0 s.data.toList ∧ Below w.heap.size w wr) (fun _ i _ _ _ => xs.length - (intOf i).toNat)
  case atStart => exact ⟨0, _, Nat.zero_le _, rfl, rfl, rfl, Below.refl _ _⟩
  case round =>
    obtain ⟨k, s, hk, rfl, rfl, hput, hbel⟩ := hrel
    have HPT := hid hput
    have HB := hid hbel
    have hsz : s.size ≤ 60600 := by
      have h1 := (puts_pre aA aL hok.out h60 k 0 (by have := hM.out; omega)).2
      rw [hput] at h1
      have h2 := (puts_len aA aL (xs.take k) (.ok 0 []) (fun y hy => hok.out y (List.mem_of_mem_take hy))).1
      rw [hput] at h2
      have h3 : (xs.take k).length ≤ 60 := Nat.le_trans (List.length_take_le' _ _) h60
      simp [WS.len] at h2
      omega
    clear hput hbel
    by_cases hlt : k < xs.length
    · obtain ⟨x, hx⟩ : ∃ x, xs[k]? = some x := ⟨_, List.getElem?_eq_getElem hlt⟩
      obtain ⟨ib, io, rfl, hc4⟩ := HLAY.out.resolve_left (by rintro rfl; simp at hlt)
      obtain ⟨c0, c1, c2, c3⟩ := hc4 k x hx
      have hmem := List.mem_of_getElem? hx
      have hxo := hok.out x hmem
      have hbo := HBO.out x hmem
      have hib : ib < w.heap.size := World.block_lt_of_cell? w _ c0
      have d0 := (HB.out.cell (p := ⟨ib, _, none⟩) hib).trans c0
      have d1 := (HB.out.cell (p := ⟨ib, _, none⟩) hib).trans c1
      have d2 := (HB.out.cell (p := ⟨ib, _, none⟩) hib).trans c2
      have d3 := (HB.out.cell (p := ⟨ib, _, none⟩) hib).trans c3
      have hbr := hbo.later HB.out
      have HX := hid hx
      have HEL := hid (fun e he => enc_len x.1 hxo e he)
      have hkk := hxo.hk
      have HXO := hid hxo
      obtain ⟨va, vc, hv, -⟩ := id hbr
      have HBR := hid hbr
      clear hx hmem hbo c0 c1 c2 c3 hbr hxo
      obtain ⟨⟨kd, N, text, fl⟩, fv⟩ := x
      simp only at d0 d1 d2 d3 hkk hv
      subst hv
      obtain ⟨A, hA⟩ : ∃ A, A = wr.alloc (.cells #[.int .i64 kd, .int .i64 N, .string text, .slice va fl.length vc] 30) := ⟨_, rfl⟩
      have BA := hid (show Below w.heap.size w A by rw [hA]; exact HB.out.alloc HB.out.size _)
      have hAs : A.heap.size = wr.heap.size + 1 := by rw [hA]; simp
      have FLA := hid (show Bools A (.slice va fl.length vc) fl by rw [hA]; exact HBR.out.later ((Below.refl _ _).alloc (Nat.le_refl _) _))
      obtain ⟨k1, k2⟩ := hkk
      obtain rfl | rfl | rfl | rfl | rfl | rfl : kd = 1 ∨ kd = 2 ∨ kd = 3 ∨ kd = 4 ∨ kd = 5 ∨ kd = 6 := by omega
      · by_cases hb : N < 0 ∨ 255 < N
        · have HR := hid (put_none HX.out HPT.out (show encByte N = none by unfold encByte; rw [if_pos hb]))
          rcases hb with hb | hb
          all_goals
            go_wp2_with fail
            go_ret2
            rw [← hA]
            exact ⟨⟨_, _, rfl, .inr (.inl ⟨_, HR.out, rfl, rfl⟩)⟩, BA.out⟩
        · obtain ⟨b, rfl⟩ := Int.eq_ofNat_of_zero_le (show 0 ≤ N by omega)
          have hb2 : b < 256 := by omega
          obtain ⟨t, ht⟩ : ∃ t, t = (⟨[UInt8.ofNat b].toArray⟩ : ByteArray) := ⟨_, rfl⟩
          have HP := hid (put_step (t := t) HX.out HPT.out (show encByte (b : Int) = some [UInt8.ofNat b] by unfold encByte; rw [if_neg hb]; rfl) ht)
          have hz : t.size = 1 := by rw [ht]; rfl
          have C := one_byte A b hb2
          rw [hAs, show (⟨#[UInt8.ofNat b]⟩ : ByteArray) = t from ht.symm, hA] at C
          have BB := hid (show Below w.heap.size w ((wr.alloc (.cells #[.int .i64 1, .int .i64 (b : Int), .string text, .slice va fl.length vc] 30)).alloc (.cells #[.int .u8 (b : Int)] 5)) by rw [← hA]; exact BA.out.alloc BA.out.size _)
          clear ht hb
          by_cases hov : 0 < s.size + t.size
          · have HR := hid (HP.out.1 hov)
            have hov2 : ((0 : Nat) : Int) < (s.size : Int) + t.size := by omega
            go_wp2_with fail
            go_ret2
            exact ⟨⟨_, _, rfl, .inr (.inr ⟨_, HR.out, rfl, rfl⟩)⟩, BB.out⟩
          · exact absurd (show 0 < s.size + t.size by omega) hov
      · by_cases hb : N < 0
        · have HR := hid (put_none HX.out HPT.out (show encCount N = none by unfold encCount; rw [if_pos hb]))
          go_wp2_with fail
          go_ret2
          rw [← hA]
          exact ⟨⟨_, _, rfl, .inr (.inl ⟨_, HR.out, rfl, rfl⟩)⟩, BA.out⟩
        · obtain ⟨b, rfl⟩ := Int.eq_ofNat_of_zero_le (show 0 ≤ N by omega)
          obtain ⟨t, ht⟩ : ∃ t, t = (⟨(grp b).toArray⟩ : ByteArray) := ⟨_, rfl⟩
          have hen : Itm.enc ⟨2, (b : Int), text, fl⟩ = some (grp b) := (show encCount (b : Int) = some (grp b) by unfold encCount; rw [if_neg hb]; rfl)
          have HP := hid (put_step (t := t) HX.out HPT.out hen ht)
          have hz : t.size ≤ 1010 := by
            have h1 := HEL.out _ hen
            rw [ht]; show (grp b).toArray.size ≤ _; simpa using h1
          have C := hid (gcount_any b (by have := (show I64 (b : Int) from HXO.out.hN).2; omega) A)
          rw [← ht] at C
          clear ht hen
          go_wp2_with fail
          rw [← hA]
          refine C.out.mono ?_
          rintro e w3 ⟨rfl, hb3⟩
          have B3 := hid (BA.out.trans (hb3.mono BA.out.size))
          clear hb3
          by_cases hov : 0 < s.size + t.size
          · have HR := hid (HP.out.1 hov)
            have hov2 : ((0 : Nat) : Int) < (s.size : Int) + t.size := by omega
            go_wp2_with fail
            go_ret2
            exact ⟨⟨_, _, rfl, .inr (.inr ⟨_, HR.out, rfl, rfl⟩)⟩, B3.out⟩
          · have HR := hid (HP.out.2 hov)
            have hov2 : ¬ ((0 : Nat) : Int) < (s.size : Int) + t.size := by omega
            have hcat : ¬ (9223372036854775807 < s.size + t.size) := by omega
            go_wp2_with fail
            go_roundw
            case rel => exact ⟨k + 1, s ++ t, by omega, by go_num, rfl, HR.out, B3.out⟩
            case measure => simp [intOf]; omega
      · obtain ⟨t, ht⟩ : ∃ t, t = (⟨(grp (zig N)).toArray⟩ : ByteArray) := ⟨_, rfl⟩
        have hen : Itm.enc ⟨3, N, text, fl⟩ = some (grp (zig N)) := rfl
        have HP := hid (put_step (t := t) HX.out HPT.out hen ht)
        have hz : t.size ≤ 1010 := by
          have h1 := HEL.out _ hen
          rw [ht]; show (grp (zig N)).toArray.size ≤ _; simpa using h1
        have C := hid (gnum_any N HXO.out.hN A)
        rw [← ht] at C
        clear ht hen
        go_wp2_with fail
        rw [← hA]
        refine C.out.mono ?_
        rintro e w3 ⟨rfl, hb3⟩
        have B3 := hid (BA.out.trans (hb3.mono BA.out.size))
        clear hb3
        by_cases hov : 0 < s.size + t.size
        · have HR := hid (HP.out.1 hov)
          have hov2 : ((0 : Nat) : Int) < (s.size : Int) + t.size := by omega
          go_wp2_with fail
          go_ret2
          exact ⟨⟨_, _, rfl, .inr (.inr ⟨_, HR.out, rfl, rfl⟩)⟩, B3.out⟩
        · have HR := hid (HP.out.2 hov)
          have hov2 : ¬ ((0 : Nat) : Int) < (s.size : Int) + t.size := by omega
          have hcat : ¬ (9223372036854775807 < s.size + t.size) := by omega
          go_wp2_with fail
          go_roundw
          case rel => exact ⟨k + 1, s ++ t, by omega, by go_num, rfl, HR.out, B3.out⟩
          case measure => simp [intOf]; omega
      · obtain ⟨t, ht⟩ : ∃ t, t = (⟨(grp text.size ++ text.data.toList).toArray⟩ : ByteArray) := ⟨_, rfl⟩
        have hen : Itm.enc ⟨4, N, text, fl⟩ = some (grp text.size ++ text.data.toList) := rfl
        have HP := hid (put_step (t := t) HX.out HPT.out hen ht)
        have hz : t.size ≤ 1010 := by
          have h1 := HEL.out _ hen
          rw [ht]; show (grp text.size ++ text.data.toList).toArray.size ≤ _; simpa using h1
        have C := hid (gtext_any text HXO.out.ht A)
        rw [← ht] at C
        clear ht hen
        go_wp2_with fail
        rw [← hA]
        refine C.out.mono ?_
        rintro e w3 ⟨rfl, hb3⟩
        have B3 := hid (BA.out.trans (hb3.mono BA.out.size))
        clear hb3
        by_cases hov : 0 < s.size + t.size
        · have HR := hid (HP.out.1 hov)
          have hov2 : ((0 : Nat) : Int) < (s.size : Int) + t.size := by omega
          go_wp2_with fail
          go_ret2
          exact ⟨⟨_, _, rfl, .inr (.inr ⟨_, HR.out, rfl, rfl⟩)⟩, B3.out⟩
        · have HR := hid (HP.out.2 hov)
          have hov2 : ¬ ((0 : Nat) : Int) < (s.size : Int) + t.size := by omega
          have hcat : ¬ (9223372036854775807 < s.size + t.size) := by omega
          go_wp2_with fail
          go_roundw
          case rel => exact ⟨k + 1, s ++ t, by omega, by go_num, rfl, HR.out, B3.out⟩
          case measure => simp [intOf]; omega
      · obtain ⟨b, hb⟩ : ∃ b : Nat, N % 4294967296 = (b : Int) := ⟨(N % 4294967296).toNat, by omega⟩
        obtain ⟨t, ht⟩ : ∃ t, t = (⟨(grp b).toArray⟩ : ByteArray) := ⟨_, rfl⟩
        have hen : Itm.enc ⟨5, N, text, fl⟩ = some (grp b) := (by show some (grp (N % 4294967296).toNat) = _; rw [hb]; rfl)
        have HP := hid (put_step (t := t) HX.out HPT.out hen ht)
        have hz : t.size ≤ 1010 := by
          have h1 := HEL.out _ hen
          rw [ht]; show (grp b).toArray.size ≤ _; simpa using h1
        have C := hid (gcount_any b (by omega) A)
        rw [← ht] at C
        clear ht hen
        go_wp2_with fail
        rw [← hA]
        refine C.out.mono ?_
        rintro e w3 ⟨rfl, hb3⟩
        have B3 := hid (BA.out.trans (hb3.mono BA.out.size))
        clear hb3
        by_cases hov : 0 < s.size + t.size
        · have HR := hid (HP.out.1 hov)
          have hov2 : ((0 : Nat) : Int) < (s.size : Int) + t.size := by omega
          go_wp2_with fail
          go_ret2
          exact ⟨⟨_, _, rfl, .inr (.inr ⟨_, HR.out, rfl, rfl⟩)⟩, B3.out⟩
        · have HR := hid (HP.out.2 hov)
          have hov2 : ¬ ((0 : Nat) : Int) < (s.size : Int) + t.size := by omega
          have hcat : ¬ (9223372036854775807 < s.size + t.size) := by omega
          go_wp2_with fail
          go_roundw
          case rel => exact ⟨k + 1, s ++ t, by omega, by go_num, rfl, HR.out, B3.out⟩
          case measure => simp [intOf]; omega
      · obtain ⟨t, ht⟩ : ∃ t, t = (⟨(packL fl).toArray⟩ : ByteArray) := ⟨_, rfl⟩
        have hen : Itm.enc ⟨6, N, text, fl⟩ = some (packL fl) := rfl
        have HP := hid (put_step (t := t) HX.out HPT.out hen ht)
        have hz : t.size ≤ 1010 := by
          have h1 := HEL.out _ hen
          rw [ht]; show (packL fl).toArray.size ≤ _; simpa using h1
        have C := hid (gflags_any fl (.slice va fl.length vc) A (by have := (show fl.length ≤ 1000 from HXO.out.hf); omega) FLA.out)
        rw [← ht] at C
        clear ht hen
        go_wp2_with fail
        rw [← hA]
        refine C.out.mono ?_
        rintro e w3 ⟨rfl, hb3⟩
        have B3 := hid (BA.out.trans (hb3.mono BA.out.size))
        clear hb3
        by_cases hov : 0 < s.size + t.size
        · have HR := hid (HP.out.1 hov)
          have hov2 : ((0 : Nat) : Int) < (s.size : Int) + t.size := by omega
          go_wp2_with fail
          go_ret2
          exact ⟨⟨_, _, rfl, .inr (.inr ⟨_, HR.out, rfl, rfl⟩)⟩, B3.out⟩
        · have HR := hid (HP.out.2 hov)
          have hov2 : ¬ ((0 : Nat) : Int) < (s.size : Int) + t.size := by omega
          have hcat : ¬ (9223372036854775807 < s.size + t.size) := by omega
          go_wp2_with fail
          go_roundw
          case rel => exact ⟨k + 1, s ++ t, by omega, by go_num, rfl, HR.out, B3.out⟩
          case measure => simp [intOf]; omega
    · have e : Hid (xs.take k = xs) := List.take_of_length_le (by omega)
      go_wp2_with fail
      go_ret2
      exact ⟨⟨_, _, rfl, .inl ⟨s.data.toList, by rw [← HPT.out, e.out], ba_eq (by simp), rfl⟩⟩, HB.out⟩
end Go.Proofs.YthngdaeiopgigaaDoor
