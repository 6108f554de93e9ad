/- great of a schema. -/
import Derived.Test.YtmekfiafdjdopaaDoorVa
namespace Go.Proofs.YtmekfiafdjdopaaDoor
open Go.RowKit Go.Shelf
def GreatS (cs : List Cmp) (rs : List Rsc) (e : Ending) : Prop := ∃ g, e = .returned (.bool g) ∧ (g = false → SmallC cs ∧ SmallQ rs)
set_option maxHeartbeats 2000000 in
set_option maxRecDepth 100000 in
theorem great_any (W : World) (va vb : Value) (cs : List Cmp) (rs : List Rsc) (hC : CmpRow W va cs) (hQ : RscRow W vb rs) :
    Calls Tryd.prog 9 #[.agg #[va, vb]] W fun e W' => GreatS cs rs e ∧ Below W.heap.size W W' := by
  obtain ⟨a, c, rfl, hcap, hlay⟩ := hC
  obtain ⟨a', c', rfl, hcap', hlay'⟩ := hQ
  have HL := hid hlay
  have HL' := hid hlay'
  have BA : Hid (Below W.heap.size W (W.alloc (.cells #[.slice a cs.length c, .slice a' rs.length c'] 25))) := (Below.refl _ _).alloc (Nat.le_refl _) _
  clear hlay hlay' hcap hcap'
  by_cases hbig : 40 < cs.length
  · have hbi : (40 : Int) < (cs.length : Int) := by omega
    go_enter Tryd.func9, Tryd.ntmps9
    go_wp2_with fail
    go_ret
    exact ⟨⟨true, rfl, by simp⟩, BA.out⟩
  · have hbi : ¬ ((40 : Int) < (cs.length : Int)) := by omega
    have hbj : (cs.length : Int) ≤ 40 := by omega
    by_cases hbig' : 40 < rs.length
    · have hbi' : (40 : Int) < (rs.length : Int) := by omega
      go_enter Tryd.func9, Tryd.ntmps9
      go_wp2_with fail
      go_ret
      exact ⟨⟨true, rfl, by simp⟩, BA.out⟩
    · have hbi' : ¬ ((40 : Int) < (rs.length : Int)) := by omega
      have hbj' : (rs.length : Int) ≤ 40 := by omega
      go_enter Tryd.func9, Tryd.ntmps9
      go_wp2_with fail
      go_loop [3] (fun i => ∃ k : Nat, k ≤ cs.length ∧ i = .int .i64 (k : Int) ∧ Hid (∀ x ∈ cs.take k, x.s.size ≤ 100)) (fun i => cs.length - (intOf i).toNat)
      case atStart => exact ⟨0, Nat.zero_le _, rfl, by simp [Hid]⟩
      case round =>
        obtain ⟨k, hk, rfl, HS⟩ := hrel
        by_cases hlt : k < cs.length
        · have hki : (k : Int) < (cs.length : Int) := by omega
          obtain ⟨x, hx⟩ := at_lt cs k hlt
          obtain ⟨b, o, rfl, hc⟩ : ∃ b o, a = some ⟨b, o, none⟩ ∧ ∀ (j : Nat) (x : Cmp), cs[j]? = some x → W.cell? ⟨b, o + j * 7, none⟩ = some (.string x.s) ∧ W.cell? ⟨b, o + j * 7 + 1, none⟩ = some (.int .i64 x.wd) ∧ W.cell? ⟨b, o + j * 7 + 2, none⟩ = some (.bool x.rb) ∧ W.cell? ⟨b, o + j * 7 + 3, none⟩ = some (.int .i64 x.d0) ∧ W.cell? ⟨b, o + j * 7 + 4, none⟩ = some (.int .i64 x.d1) ∧ W.cell? ⟨b, o + j * 7 + 5, none⟩ = some (.int .i64 x.d2) ∧ W.cell? ⟨b, o + j * 7 + 6, none⟩ = some (.int .i64 x.d3) := by
            rcases HL.out with h | h
            · rw [h] at hlt; simp at hlt
            · exact h
          have c0 := (hc k x hx).1
          have hbl : b < W.heap.size := World.block_lt_of_cell? W _ c0
          have hbn : ¬ (b = W.heap.size) := by omega
          have TN := hid (take_next hx)
          clear hc hx
          by_cases h1 : 100 < x.s.size
          · have h1i : (100 : Int) < (x.s.size : Int) := by omega
            go_wp2_with fail
            go_ret
            exact ⟨⟨true, rfl, by simp⟩, BA.out⟩
          · have h1i : ¬ ((100 : Int) < (x.s.size : Int)) := by omega
            have R : Hid (∀ x ∈ cs.take (k + 1), x.s.size ≤ 100) := by
              show ∀ x ∈ cs.take (k + 1), _
              rw [TN.out]
              intro y hy
              rcases List.mem_append.1 hy with hy | hy
              · exact HS.out y hy
              · simp at hy; rw [hy]; omega
            go_wp2_with fail
            go_round
            case rel => exact ⟨k + 1, by omega, by go_num, R.out⟩
            case measure => simp [intOf]; omega
        · have hki : ¬ ((k : Int) < (cs.length : Int)) := by omega
          have SC : Hid (SmallC cs) := ⟨by omega, fun x hx => HS.out x (by rw [List.take_of_length_le (by omega)]; exact hx)⟩
          clear HS
          go_wp2_with fail
          go_loop [4] (fun i => ∃ k : Nat, k ≤ rs.length ∧ i = .int .i64 (k : Int) ∧ Hid (∀ x ∈ rs.take k, x.s.size ≤ 100)) (fun i => rs.length - (intOf i).toNat)
          case atStart => exact ⟨0, Nat.zero_le _, rfl, by simp [Hid]⟩
          case round =>
            obtain ⟨j, hj, rfl, HS⟩ := hrel
            by_cases hlt2 : j < rs.length
            · have hji : (j : Int) < (rs.length : Int) := by omega
              obtain ⟨x, hx⟩ := at_lt rs j hlt2
              obtain ⟨b, o, rfl, hc⟩ : ∃ b o, a' = some ⟨b, o, none⟩ ∧ ∀ (j : Nat) (x : Rsc), rs[j]? = some x → W.cell? ⟨b, o + j * 2, none⟩ = some (.string x.s) ∧ W.cell? ⟨b, o + j * 2 + 1, none⟩ = some (.int .i64 x.n) := by
                rcases HL'.out with h | h
                · rw [h] at hlt2; simp at hlt2
                · exact h
              have c0 := (hc j x hx).1
              have hbl : b < W.heap.size := World.block_lt_of_cell? W _ c0
              have hbn : ¬ (b = W.heap.size) := by omega
              have TN := hid (take_next hx)
              clear hc hx
              by_cases h1 : 100 < x.s.size
              · have h1i : (100 : Int) < (x.s.size : Int) := by omega
                go_wp2_with fail
                go_ret
                exact ⟨⟨true, rfl, by simp⟩, BA.out⟩
              · have h1i : ¬ ((100 : Int) < (x.s.size : Int)) := by omega
                have R : Hid (∀ x ∈ rs.take (j + 1), x.s.size ≤ 100) := by
                  show ∀ x ∈ rs.take (j + 1), _
                  rw [TN.out]
                  intro y hy
                  rcases List.mem_append.1 hy with hy | hy
                  · exact HS.out y hy
                  · simp at hy; rw [hy]; omega
                go_wp2_with fail
                go_round
                case rel => exact ⟨j + 1, by omega, by go_num, R.out⟩
                case measure => simp [intOf]; omega
            · have hji : ¬ ((j : Int) < (rs.length : Int)) := by omega
              have SQ : Hid (SmallQ rs) := ⟨by omega, fun x hx => HS.out x (by rw [List.take_of_length_le (by omega)]; exact hx)⟩
              clear HS
              go_wp2_with fail
              go_ret
              exact ⟨⟨false, rfl, fun _ => ⟨SC.out, SQ.out⟩⟩, BA.out⟩
end Go.Proofs.YtmekfiafdjdopaaDoor
