/- Contracts: rows of items; whether they are more than is asked. -/
import Derived.Test.YthngdaeiopgigaaDoorSc
namespace Go.Proofs.YthngdaeiopgigaaDoor
open Go.ChangeShapes Go.WideShapes Go.ChangeAt Go.RowKit
/-- A row of items lies at an address. -/
def Cells4 (w : World) (b o : Nat) (xs : List (Itm × Value)) : Prop := ∀ j x, xs[j]? = some x → w.cell? ⟨b, o + j * 4, none⟩ = some (.int .i64 x.1.kind) ∧ w.cell? ⟨b, o + j * 4 + 1, none⟩ = some (.int .i64 x.1.N) ∧ w.cell? ⟨b, o + j * 4 + 2, none⟩ = some (.string x.1.text) ∧ w.cell? ⟨b, o + j * 4 + 3, none⟩ = some x.2
structure Its (w : World) (v : Value) (xs : List (Itm × Value)) : Prop where
  lay : ∃ a c, v = .slice a xs.length c ∧ (xs = [] ∨ ∃ b o, a = some ⟨b, o, none⟩ ∧ Cells4 w b o xs)
  bools : ∀ x ∈ xs, Bools w x.2 x.1.fl
  nums : ∀ x ∈ xs, I64 x.1.N
def badI (x : Itm) : Bool := decide (1000 < x.text.size) || decide (1000 < x.fl.length) || decide (x.kind < 1) || decide (6 < x.kind)
def hvy (xs : List (Itm × Value)) : Bool := decide (60 < xs.length) || xs.any fun x => badI x.1
theorem any_take {xs : List (Itm × Value)} {k : Nat} {x : Itm × Value} (h : xs[k]? = some x) (hx : badI x.1 = true) : (xs.any fun x => badI x.1) = true :=
  List.any_eq_true.2 ⟨x, List.mem_of_getElem? h, hx⟩
set_option maxHeartbeats 1600000 in
set_option maxRecDepth 100000 in
theorem heavy_row (xs : List (Itm × Value)) (b o c : Nat) (w : World) (hl : xs.length ≤ 10000000000000) (hc : Cells4 w b o xs) (hb : ∀ x ∈ xs, Bools w x.2 x.1.fl) :
    Calls Tryd.prog 10 #[.slice (some ⟨b, o, none⟩) xs.length c] w fun e w' => e = .returned (.bool (hvy xs)) ∧ w = w' := by
  by_cases h60 : 60 < xs.length
  · rw [show hvy xs = true from by simp [hvy, h60]]
    go_enter Tryd.func10, Tryd.ntmps10
    go_wp2
    go_ret
    exact ⟨rfl, rfl⟩
  · have HH : Hid (hvy xs = xs.any fun x => badI x.1) := by show hvy xs = _; simp [hvy, h60]
    go_enter Tryd.func10, Tryd.ntmps10
    go_wp2
    go_loop [3] (fun i => ∃ k : Nat, i = .int .i64 k ∧ k ≤ xs.length ∧ ((xs.take k).any fun x => badI x.1) = false) (fun i => xs.length - (intOf i).toNat)
    case atStart => exact ⟨0, rfl, Nat.zero_le _, rfl⟩
    case round =>
      obtain ⟨k, rfl, hk, hany⟩ := hrel
      have HA := hid hany
      clear hany
      by_cases hlt : k < xs.length
      · obtain ⟨x, hx⟩ : ∃ x, xs[k]? = some x := ⟨_, List.getElem?_eq_getElem hlt⟩
        obtain ⟨c0, c1, c2, c3⟩ := hc k x hx
        obtain ⟨va, vc, hv, _⟩ := hb x (List.mem_of_getElem? hx)
        rw [hv] at c3
        have HX := hid hx
        clear hx hv
        by_cases hbad : badI x.1 = true
        · have HF : Hid (hvy xs = true) := by show hvy xs = true; rw [HH.out]; exact any_take HX.out hbad
          have hbad' : 1000 < x.1.text.size ∨ ¬ 1000 < x.1.text.size ∧ 1000 < x.1.fl.length ∨ ¬ 1000 < x.1.text.size ∧ ¬ 1000 < x.1.fl.length ∧ x.1.kind < 1 ∨ ¬ 1000 < x.1.text.size ∧ ¬ 1000 < x.1.fl.length ∧ ¬ x.1.kind < 1 ∧ 6 < x.1.kind := by
            simp [badI] at hbad; omega
          clear hbad
          rcases hbad' with h1 | ⟨h1, h2⟩ | ⟨h1, h2, h3⟩ | ⟨h1, h2, h3, h4⟩
          all_goals
            go_wp2
            go_ret
            exact ⟨by rw [HF.out]; rfl, rfl⟩
        · have hg : ¬ 1000 < x.1.text.size ∧ ¬ 1000 < x.1.fl.length ∧ ¬ x.1.kind < 1 ∧ ¬ 6 < x.1.kind := by
            simp [badI] at hbad; omega
          have HN : Hid (((xs.take (k + 1)).any fun x => badI x.1) = false) := by
            show ((xs.take (k + 1)).any fun x => badI x.1) = false
            have e : xs.take (k + 1) = xs.take k ++ [x] := by
              rw [List.take_add_one, HX.out]; rfl
            rw [e, List.any_append, HA.out]
            simpa using hbad
          clear hbad
          obtain ⟨h1, h2, h3, h4⟩ := hg
          go_wp2
          exact ⟨⟨k + 1, by go_num, by omega, HN.out⟩, by simp [intOf]; omega⟩
      · have HF : Hid (hvy xs = false) := by
          show hvy xs = false
          rw [HH.out]
          have := HA.out
          rwa [List.take_of_length_le (by omega)] at this
        go_wp2
        go_ret
        exact ⟨by rw [HF.out]; rfl, rfl⟩
set_option maxHeartbeats 1600000 in
theorem heavy_none (a : Option Addr) (c : Nat) (w : World) :
    Calls Tryd.prog 10 #[.slice a 0 c] w fun e w' => e = .returned (.bool false) ∧ w = w' := by
  go_enter Tryd.func10, Tryd.ntmps10
  go_wp2
  refine wp_loop_rounds 1 ?_
  rw [rounds_succ]
  go_wp2
  go_ret
  exact ⟨rfl, rfl⟩
theorem heavy_any (xs : List (Itm × Value)) (v : Value) (w : World) (hl : xs.length ≤ 10000000000000) (h : Its w v xs) :
    Calls Tryd.prog 10 #[v] w fun e w' => e = .returned (.bool (hvy xs)) ∧ w = w' := by
  obtain ⟨⟨a, c, rfl, hlay⟩, hb, hn⟩ := h
  rcases hlay with rfl | ⟨b, o, rfl, hc⟩
  · exact heavy_none a c w
  · exact heavy_row xs b o c w hl hc hb
end Go.Proofs.YthngdaeiopgigaaDoor
