/- The document's Digits; what is told of names; ways as bytes. -/
import Derived.Test.YtbfjijiakkopeaaDoorScCa
import Derived.Deep.RegionHeld3
namespace Go.Proofs.YtbfjijiakkopeaaDoor.Sc
open Go.RowKit Go.Shelf
def tens : ByteArray := ⟨#[48, 49, 50, 51, 52, 53, 54, 55, 56, 57]⟩
theorem tens_list : ∀ j : Fin 10, (tens.data.toList.drop j.val).take (j.val + 1 - j.val) = [UInt8.ofNat (48 + j.val)] := by decide +kernel
theorem tens_at (i : Nat) (h : i < 10) : tens.extract i (i + 1) = dig i := by
  unfold dig
  rw [AnyPlain.small_ba (tens.extract i (i + 1)) (Lib.decDigits i) (by rw [Lib.extract_data, Lib.decDigits_one h]; exact tens_list ⟨i, h⟩)]
theorem dig_two (a b : Nat) (ha : 1 ≤ a) (ha9 : a < 10) (hb : b < 10) : dig a ++ dig b = dig (10 * a + b) := by
  unfold dig
  rw [Lib.decDigits_one ha9, Lib.decDigits_one hb, Lib.decDigits_two (i := 10 * a + b) (by omega) (by omega), show (10 * a + b) / 10 = a by omega, show (10 * a + b) % 10 = b by omega]
  apply ByteArray.ext
  simp
theorem dig_size (i : Nat) (h : i < 100) : (dig i).size ≤ 2 := by
  unfold dig
  by_cases h1 : i < 10
  · rw [Lib.decDigits_one h1]; show 1 ≤ 2; decide
  · rw [Lib.decDigits_two h1 h]; show 2 ≤ 2; decide
theorem tens_cut (i : Nat) (h : i < 10) (w : World) : (Instr.slice 9 (.string ⟨#[48, 49, 50, 51, 52, 53, 54, 55, 56, 57]⟩) (some (.int .i64 (i : Int))) (some (.int .i64 ((i : Int) + 1))) none).run Tryd.prog w = .ok (.string (dig i)) w := by
  have hs : (⟨#[48, 49, 50, 51, 52, 53, 54, 55, 56, 57]⟩ : ByteArray).size = 10 := rfl
  rw [run_slice_string w 9 _ .i64 .i64 _ _ Tryd.underlying9 (by omega) (by omega) (by rw [hs]; omega), show ((i : Int)).toNat = i by omega, show ((i : Int) + 1).toNat = i + 1 by omega]
  exact congrArg (fun s => Result.ok (Value.string s) w) (tens_at i h)
set_option maxHeartbeats 800000 in
theorem digits_one (i : Nat) (h : i < 10) (w : World) : Calls Tryd.prog 30 #[.int .i64 (i : Int)] w fun e w' => e = .returned (.string (dig i)) ∧ w' = w := by
  have hsl := tens_cut i h
  have hi : (i : Int) < 10 := by omega
  go_enter Tryd.func30, Tryd.ntmps30
  go_wp2_with fail
  go_ret
  exact ⟨rfl, rfl⟩
set_option maxHeartbeats 800000 in
set_option maxRecDepth 100000 in
theorem digits_two (i a b : Nat) (hi : i = 10 * a + b) (ha : 1 ≤ a) (ha9 : a < 10) (hb : b < 10) (w : World) : Calls Tryd.prog 30 #[.int .i64 (i : Int)] w fun e w' => e = .returned (.string (dig i)) ∧ Below w.heap.size w w' := by
  have hsl := tens_cut b hb
  have hn : ¬ ((i : Int) < 10) := by omega
  have h100 : (i : Int) < 100 := by omega
  have hq : (i : Int).tdiv 10 = (a : Int) := by
    rw [Int.tdiv_eq_ediv_of_nonneg (by omega)]; omega
  have hr : (i : Int).tmod 10 = (b : Int) := by
    rw [Int.tmod_eq_emod_of_nonneg (by omega)]; omega
  have hai : (a : Int) < 10 := by omega
  have hbi : (b : Int) < 10 := by omega
  have hb1 : IntKind.i64.wrap ((b : Int) + 1) = (b : Int) + 1 := IntWalk.i64_in _ (by omega)
  have ha1 : IntKind.i64.wrap (a : Int) = (a : Int) := IntWalk.i64_in _ (by omega)
  have hb0 : IntKind.i64.wrap (b : Int) = (b : Int) := IntWalk.i64_in _ (by omega)
  have DC := hid (digits_one a ha9)
  have sa : (dig a).size ≤ 2 := dig_size a (by omega)
  have sb : (dig b).size ≤ 2 := dig_size b (by omega)
  have sai : ((dig a).size : Int) ≤ 2 := by omega
  have sbi : ((dig b).size : Int) ≤ 2 := by omega
  have R : Hid (dig a ++ dig b = dig i) := by show _ = _; rw [hi]; exact dig_two a b ha ha9 hb
  have hadd : ∀ W : World, (Op.stringOp .add (dig a) (dig b)).run Tryd.prog W = .ok (.string (dig a ++ dig b)) W := fun W => run_string_add_sum W _ _ (by omega)
  have hmx : ¬ (9223372036854775807 < (dig a).size + (dig b).size) := by omega
  have BD : Hid (Below w.heap.size w w.drew) := (Below.refl _ _).drew
  clear hi ha ha9 hb
  go_enter Tryd.func30, Tryd.ntmps30
  go_wp2_with fail
  go_region_held3 (fun W' => True) (trivial) (first | (go_at_call 30; refine (DC.out _).mono ?_; rintro e w1 ⟨rfl, rfl⟩))
  go_wp2_with fail
  go_ret
  exact ⟨by rw [← R.out]; rfl, BD.out⟩
theorem digits_any (i : Nat) (h : i < 100) (w : World) : Calls Tryd.prog 30 #[.int .i64 (i : Int)] w fun e w' => e = .returned (.string (dig i)) ∧ Below w.heap.size w w' := by
  by_cases h1 : i < 10
  · exact (digits_one i h1 w).mono fun e w' ⟨h2, h3⟩ => ⟨h2, h3 ▸ Below.refl _ _⟩
  · exact digits_two i (i / 10) (i % 10) (by omega) (by omega) (by omega) (by omega) w
theorem seenB_iff {s : ByteArray} (hs : isNm s = true) (acc : List ByteArray) (x : ByteArray) : s ∈ seenB acc x ↔ s ∈ acc ∨ s = x := by
  unfold seenB
  by_cases hm : memB acc x = true
  · rw [hm]
    simp only [Bool.not_true, Bool.and_false, Bool.false_eq_true, if_false]
    constructor
    · exact .inl
    · rintro (h | rfl)
      · exact h
      · exact (memB_iff _ _).1 hm
  · have hmf : memB acc x = false := by simpa using hm
    rw [hmf]
    by_cases hx : isNm x = true
    · rw [hx]; simp
    · have hxf : isNm x = false := by simpa using hx
      rw [hxf]
      simp only [Bool.false_and, Bool.false_eq_true, if_false]
      constructor
      · exact .inl
      · rintro (h | rfl)
        · exact h
        · rw [hs] at hxf; exact absurd hxf (by decide)
theorem seen_fold {s : ByteArray} (hs : isNm s = true) : ∀ (l acc : List ByteArray), s ∈ l.foldl seenB acc ↔ s ∈ acc ∨ s ∈ l
  | [], acc => by simp
  | x :: l, acc => by
    rw [List.foldl_cons, seen_fold hs l, seenB_iff hs, List.mem_cons, or_assoc]
theorem seenTo_iff {s : ByteArray} (hs : isNm s = true) (l : List ByteArray) : s ∈ seenTo l ↔ s ∈ l := by
  unfold seenTo
  rw [seen_fold hs]; simp
theorem nErr_bad {s : ByteArray} (acc : List ByteArray) (hs : isNm s = false) : nErr acc s = [10] := by simp [nErr, hs]
theorem nErr_was {s : ByteArray} {l : List ByteArray} (hs : isNm s = true) (hm : s ∈ l) : nErr (seenTo l) s = [9] := by
  have : memB (seenTo l) s = true := (memB_iff _ _).2 ((seenTo_iff hs l).2 hm)
  simp [nErr, hs, this]
theorem nErr_new {s : ByteArray} {l : List ByteArray} (hs : isNm s = true) (hm : ¬ s ∈ l) : nErr (seenTo l) s = [] := by
  have : memB (seenTo l) s = false := by
    cases h : memB (seenTo l) s with
    | false => rfl
    | true => exact absurd ((seenTo_iff hs l).1 ((memB_iff _ _).1 h)) hm
  simp [nErr, hs, this]
theorem firstI_ge (s : ByteArray) : ∀ (l : List ByteArray) (m : Nat), firstI s l m = -1 ∨ (m : Int) ≤ firstI s l m
  | [], _ => .inl rfl
  | x :: l, m => by
    unfold firstI
    split
    · right; omega
    · rcases firstI_ge s l (m + 1) with h | h
      · exact .inl h
      · right; omega
theorem firstI_mem (s : ByteArray) : ∀ (l : List ByteArray) (m k : Nat), (0 ≤ firstI s l m ∧ firstI s l m < ((m + k : Nat) : Int)) ↔ s ∈ l.take k
  | [], m, k => by simp [firstI]
  | x :: l, m, 0 => by
    rcases firstI_ge s (x :: l) m with h | h
    · rw [h]; simp
    · simp only [Nat.add_zero, List.take_zero, List.not_mem_nil, iff_false]; omega
  | x :: l, m, k + 1 => by
    have ih := firstI_mem s l (m + 1) k
    rw [List.take_succ_cons, List.mem_cons]
    unfold firstI
    by_cases hx : eqS x s = true
    · rw [if_pos hx]
      have := (eqS_iff x s).1 hx
      simp only [this, true_or, iff_true]
      omega
    · rw [if_neg hx]
      have hne : ¬ (s = x) := fun h => hx ((eqS_iff x s).2 h.symm)
      rw [show m + (k + 1) = m + 1 + k by omega, ih]
      simp [hne]
theorem firstI_all (s : ByteArray) (l : List ByteArray) : 0 ≤ firstI s l 0 ↔ s ∈ l := by
  constructor
  · intro h
    exact List.mem_of_mem_take ((firstI_mem s l 0 ((firstI s l 0).toNat + 1)).1 ⟨h, by omega⟩)
  · intro h
    exact ((firstI_mem s l 0 l.length).2 (by rw [List.take_length]; exact h)).1
theorem foundV_no {i : Int} (h : i < 0) : foundV i = .tuple #[.int .i64 0, .bool false] := by unfold foundV; rw [if_pos h]
theorem foundV_yes {i : Int} (h : ¬ i < 0) : foundV i = .tuple #[.int .i64 i, .bool true] := by unfold foundV; rw [if_neg h]
theorem joinB_one (s : ByteArray) : joinB [s] = s := by
  unfold joinB
  rw [List.map_cons, List.map_nil, Lib.join_one]
theorem joinB_more (s : ByteArray) (p : List ByteArray) (hp : p ≠ []) : joinB (s :: p) = s ++ (⟨#[47]⟩ ++ joinB p) := by
  cases p with
  | nil => exact absurd rfl hp
  | cons a q =>
    have h1 : Lib.join ((s :: a :: q).map (·.data.toList)) [47] = s.data.toList ++ ([47] ++ Lib.join ((a :: q).map (·.data.toList)) [47]) := by
      simp [Lib.join, List.intercalate]
    unfold joinB
    rw [h1]
    apply ByteArray.ext
    simp
theorem path_c (d p : ByteArray) : (⟨#[99, 111, 109, 112, 111, 110, 101, 110, 116, 115, 47]⟩ : ByteArray) ++ d ++ ⟨#[47]⟩ ++ p = joinB [bComps, d, p] := by
  rw [joinB_more _ _ (by simp), joinB_more _ _ (by simp), joinB_one]
  apply ByteArray.ext
  simp [bComps]
theorem path_r (d : ByteArray) : (⟨#[114, 101, 115, 111, 117, 114, 99, 101, 115, 47]⟩ : ByteArray) ++ d ++ ⟨#[47, 110, 97, 109, 101]⟩ = joinB [bRes, d, bName] := by
  rw [joinB_more _ _ (by simp), joinB_more _ _ (by simp), joinB_one]
  apply ByteArray.ext
  simp [bRes, bName]
/-- Whether the values from the width to a cell are 0. -/
def dl (x : Cmp) : List Int := [x.d0, x.d1, x.d2, x.d3]
def clTo (x : Cmp) (m : Nat) : Bool := (((dl x).take m).drop x.wd.toNat).all fun n => n == 0
theorem clTo_from (x : Cmp) : clTo x x.wd.toNat = true := by
  unfold clTo
  rw [List.drop_of_length_le (by rw [List.length_take]; omega)]; rfl
theorem clTo_next {x : Cmp} {m : Nat} {y : Int} (h : (dl x)[m]? = some y) (hw : x.wd.toNat ≤ m) : clTo x (m + 1) = (clTo x m && y == 0) := by
  unfold clTo
  have hm : m < (dl x).length := (List.getElem?_eq_some_iff.1 h).1
  rw [take_next h, List.drop_append_of_le_length (by rw [List.length_take]; omega), List.all_append]
  simp
theorem clTo_err {x : Cmp} (hw : wOk x = true) : dErr x = if clTo x 4 then [] else [1] := by
  have e : clTo x 4 = !((behind x).any nzB) := by
    unfold clTo behind
    rw [show (dl x).take 4 = dl x from rfl, List.all_eq_not_any_not]
    rfl
  unfold dErr
  rw [hw, e]
  cases (behind x).any nzB <;> rfl
end Go.Proofs.YtbfjijiakkopeaaDoor.Sc
