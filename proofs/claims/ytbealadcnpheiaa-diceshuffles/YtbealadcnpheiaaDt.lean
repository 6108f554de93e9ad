/- DiceDraws: the walk. -/
import Derived.Test.YtbealadcnpheiaaDv
namespace Go.Proofs.Ytbealadcnpheiaa
open Go.ChangeShapes Go.WideShapes Go.ChangeAt Go.RowKit
def drwZ (z b : Int) : Int := if b ≤ 0 then 0 else drawZ z b
theorem draw_any (z b : Int) (hb1 : b ≤ 9223372036854775807) (w : World) :
    Calls Try.prog 10 #[.int .i64 z, .int .i64 b] w fun e w' => e = .returned (.tuple #[.int .i64 (stepZ z), .int .i64 (drwZ z b)]) ∧ ∃ n, w' = w.drewN n := by
  unfold drwZ
  by_cases h : b ≤ 0
  · rw [if_pos h]; exact (draw_neg z b h w).mono fun e w' hw => ⟨hw.1, 0, hw.2⟩
  · rw [if_neg h]; exact draw_pos z b (by omega) hb1 w
theorem rdraw_any (z b : Int) (hb1 : b ≤ 9223372036854775807) (w : World) :
    Calls Try.prog 11 #[.int .i64 z, .int .i64 b] w fun e w' => e = .returned (.tuple #[.int .i64 (stepZ z), .int .i64 (drwZ z b)]) ∧ ∃ n, w' = w.drewN n := by
  unfold drwZ
  by_cases h : b ≤ 0
  · rw [if_pos h]; exact (rdraw_neg z b h w).mono fun e w' hw => ⟨hw.1, 0, hw.2⟩
  · rw [if_neg h]; exact rdraw_pos z b (by omega) hb1 w
set_option maxHeartbeats 1600000 in
set_option maxRecDepth 100000 in
theorem draws_walk (a0 a1 a2 : Int) (_ : (Lit.int .i64 a0).wf = true) (w1 : (Lit.int .i64 a1).wf = true) (_ : (Lit.int .i64 a2).wf = true) (w : World) :
    Calls Try.prog 3 #[.int .i64 a0, .int .i64 a1, .int .i64 a2] w fun e w' => e = .returned (.bool true) ∧ Below w.heap.size w w' := by
  have D1 := hid (fun w => draw_any a0 a1 (of_wf_i64 w1).2 w)
  have D2 := hid (fun w => rdraw_any a0 a1 (of_wf_i64 w1).2 w)
  clear w1
  go_enter Try.func3, Try.ntmps3
  go_wp2_with fail
  refine (awake_any _).mono ?_; rintro e w' ⟨rfl, N, rfl⟩
  go_wp2_with fail
  refine (next_any _ _).mono ?_; rintro e w' ⟨rfl, rfl⟩
  go_wp2_with fail
  refine (rnext_any _ _).mono ?_; rintro e w' ⟨rfl, rfl⟩
  go_wp2_with fail
  refine (D1.out _).mono ?_; rintro e w' ⟨rfl, N1, rfl⟩
  go_wp2_with fail
  refine (D2.out _).mono ?_; rintro e w' ⟨rfl, N2, rfl⟩
  by_cases hm : 200 < a2
  · go_wp2_with fail
    go_ret
    exact ⟨rfl, Below.drewN (Below.refl _ _) _⟩
  · have hm2 : a2 ≤ 200 := by omega
    have S1 := hid (fun w => shuffle_any a0 a2 hm2 w)
    have S2 := hid (fun w => rshuffle_any a0 a2 hm2 w)
    obtain ⟨n, hn⟩ : ∃ n, n = a2.toNat := ⟨_, rfl⟩
    have hn2 : n ≤ 200 := by omega
    rw [← hn] at S1 S2
    clear hn
    obtain ⟨sd, hsd⟩ : ∃ sd, sd = (shuf (n - 1) a0 (List.range n)).1 := ⟨_, rfl⟩
    obtain ⟨ls, hls⟩ : ∃ ls, ls = (shuf (n - 1) a0 (List.range n)).2 := ⟨_, rfl⟩
    rw [← hsd, ← hls] at S1 S2
    clear hsd hls
    go_wp2_with fail
    refine (S1.out _).mono ?_
    rintro e w1 ⟨ga, gc, rfl, ho, hb⟩
    have O1 := hid ho
    have B1 := hid (Below.rebase (Below.drewN (Below.refl w.heap.size w) _) hb)
    clear ho hb
    go_wp2_with fail
    refine (S2.out _).mono ?_
    rintro e w2 ⟨gb, gd, rfl, ho, hb⟩
    have O2 := hid (own_later O1.out hb)
    have O3 := hid ho
    have B2 := hid (Below.rebase B1.out hb)
    clear ho hb
    go_wp2_with fail
    refine (same_any ga gb n gc gd _ _ ls _ (by omega) O2.out O3.out).mono ?_
    rintro e w3 ⟨rfl, hb⟩
    have B3 := hid (Below.rebase B2.out hb)
    clear hb
    go_wp2_with fail
    go_ret
    exact ⟨rfl, B3.out⟩
end Go.Proofs.Ytbealadcnpheiaa
