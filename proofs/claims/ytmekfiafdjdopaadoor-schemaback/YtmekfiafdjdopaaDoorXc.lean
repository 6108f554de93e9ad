/- SchemaSets: the walk. -/
import Derived.Test.YtmekfiafdjdopaaDoorXb
import Derived.Test.YtmekfiafdjdopaaDoorUd
import Derived.OpenShut
namespace Go.Proofs.YtmekfiafdjdopaaDoor
open Go.RowKit Go.Shelf
theorem one_row (W : World) (n : Int) : IntRow (W.alloc (.cells #[.int .i64 n] 3)) (.slice (some ⟨W.heap.size, 0, none⟩) 1 1) [n] :=
  ⟨_, 1, rfl, .inr ⟨W.heap.size, 0, rfl, fun j x hx => by
    rw [Nat.zero_add]
    refine row_cell W [.int .i64 n] 3 j _ ?_
    match j, hx with
    | 0, hx => simp at hx; subst hx; rfl
    | j + 1, hx => simp at hx⟩⟩
set_option maxHeartbeats 3200000 in
set_option maxRecDepth 100000 in
theorem sets_law (Ad : Nat → Addr) (w : World) (m all : Nat) (hm : m < 4294967296) (n bt : Int) (hE : Env w Ad) (hbt : bt = bitI n) (hof : ofM [n] = bt)
    (hcase : (∃ k : Nat, n = (k : Int) ∧ k < 32 ∧ bt = 2 ^ k % 4294967296) ∨ (n < 0 ∧ bt = 0) ∨ (32 ≤ n ∧ bt = 0)) :
    Calls Tryd.prog 4 #[.int .u32 (m : Int), .int .u32 (all : Int), .int .i64 n] w fun e w' => e = .returned (.bool true) ∧ Below w.heap.size w w' := by
  have AC := hid (awake_any w Ad hE)
  have H1 := hid (fun W => has_any5 (m : Int) n W)
  rw [has_in m hm n] at H1
  have H2 := hid (fun W => refhas_any m hm n W)
  have H3 := hid (fun W => count_any m hm W)
  have H4 := hid (fun W => refcount_any m hm W)
  have H5 := hid (fun W => within_any (m : Int) (all : Int) W)
  have H6 := hid (fun W => with_any (m : Int) n W)
  have H7 := hid (fun W => without_any (m : Int) n W)
  have H8 := hid (fun W => of_any _ _ [n] (one_row W n) (by simp))
  rw [hof] at H8
  rw [← hbt] at H6 H7
  clear hm hE hbt hof
  rcases hcase with ⟨k, rfl, hk, rfl⟩ | ⟨hn, rfl⟩ | ⟨hn, rfl⟩
  · have hk0 : (0 : Int) ≤ (k : Int) := by omega
    have hk1 : (k : Int) < 32 := by omega
    go_enter Tryd.func4, Tryd.ntmps4
    go_wp2_with fail
    refine AC.out.mono ?_
    rintro e w1 ⟨rfl, b1⟩
    have B1 := hid b1
    clear b1 AC
    go_wp2_with fail
    refine (H1.out _).mono ?_
    rintro e w2 ⟨rfl, rfl⟩
    go_wp2_with fail
    refine (H2.out _).mono ?_
    rintro e w3 ⟨rfl, rfl⟩
    go_wp2_with fail
    refine (H3.out _).mono ?_
    rintro e w4 ⟨rfl, b4⟩
    have B4 := hid (B1.out.trans (b4.mono B1.out.size))
    clear b4
    go_wp2_with fail
    refine (H4.out _).mono ?_
    rintro e w5 ⟨rfl, rfl⟩
    go_wp2_with fail
    refine (H5.out _).mono ?_
    rintro e w6 ⟨rfl, rfl⟩
    go_wp2_with fail
    refine (H6.out _).mono ?_
    rintro e w7 ⟨rfl, rfl⟩
    go_wp2_with fail
    refine (H7.out _).mono ?_
    rintro e w8 ⟨rfl, rfl⟩
    go_wp2_with fail
    refine (H8.out _).mono ?_
    rintro e w9 ⟨rfl, rfl⟩
    go_wp2_with fail
    go_ret
    exact ⟨rfl, B4.out.alloc B4.out.size _⟩
  · have hn0 : ¬ (0 ≤ n) := by omega
    go_enter Tryd.func4, Tryd.ntmps4
    go_wp2_with fail
    refine AC.out.mono ?_
    rintro e w1 ⟨rfl, b1⟩
    have B1 := hid b1
    clear b1 AC
    go_wp2_with fail
    refine (H1.out _).mono ?_
    rintro e w2 ⟨rfl, rfl⟩
    go_wp2_with fail
    refine (H2.out _).mono ?_
    rintro e w3 ⟨rfl, rfl⟩
    go_wp2_with fail
    refine (H3.out _).mono ?_
    rintro e w4 ⟨rfl, b4⟩
    have B4 := hid (B1.out.trans (b4.mono B1.out.size))
    clear b4
    go_wp2_with fail
    refine (H4.out _).mono ?_
    rintro e w5 ⟨rfl, rfl⟩
    go_wp2_with fail
    refine (H5.out _).mono ?_
    rintro e w6 ⟨rfl, rfl⟩
    go_wp2_with fail
    refine (H6.out _).mono ?_
    rintro e w7 ⟨rfl, rfl⟩
    go_wp2_with fail
    refine (H7.out _).mono ?_
    rintro e w8 ⟨rfl, rfl⟩
    go_wp2_with fail
    refine (H8.out _).mono ?_
    rintro e w9 ⟨rfl, rfl⟩
    go_wp2_with fail
    go_ret
    exact ⟨rfl, B4.out.alloc B4.out.size _⟩
  · have hn0 : 0 ≤ n := by omega
    have hn1 : ¬ (n < 32) := by omega
    go_enter Tryd.func4, Tryd.ntmps4
    go_wp2_with fail
    refine AC.out.mono ?_
    rintro e w1 ⟨rfl, b1⟩
    have B1 := hid b1
    clear b1 AC
    go_wp2_with fail
    refine (H1.out _).mono ?_
    rintro e w2 ⟨rfl, rfl⟩
    go_wp2_with fail
    refine (H2.out _).mono ?_
    rintro e w3 ⟨rfl, rfl⟩
    go_wp2_with fail
    refine (H3.out _).mono ?_
    rintro e w4 ⟨rfl, b4⟩
    have B4 := hid (B1.out.trans (b4.mono B1.out.size))
    clear b4
    go_wp2_with fail
    refine (H4.out _).mono ?_
    rintro e w5 ⟨rfl, rfl⟩
    go_wp2_with fail
    refine (H5.out _).mono ?_
    rintro e w6 ⟨rfl, rfl⟩
    go_wp2_with fail
    refine (H6.out _).mono ?_
    rintro e w7 ⟨rfl, rfl⟩
    go_wp2_with fail
    refine (H7.out _).mono ?_
    rintro e w8 ⟨rfl, rfl⟩
    go_wp2_with fail
    refine (H8.out _).mono ?_
    rintro e w9 ⟨rfl, rfl⟩
    go_wp2_with fail
    go_ret
    exact ⟨rfl, B4.out.alloc B4.out.size _⟩
theorem of_bit (n : Int) : ofM [n] = bitI n := by
  show bits .or .u32 0 (bitI n) = bitI n
  by_cases hn : 0 ≤ n ∧ n < 32
  · obtain ⟨k, rfl⟩ := Int.eq_ofNat_of_zero_le hn.1
    rw [bitI_in k (by omega)]
    exact bits_or0 _ (Nat.lt_of_lt_of_le (Nat.pow_lt_pow_right (by decide) (show k < 32 by omega)) (by decide))
  · rw [bitI_out n hn]
    exact bits_or0 0 (by decide)
theorem u32_nat (a : Int) (h : (Lit.int .u32 a).wf = true) : ∃ m : Nat, a = (m : Int) ∧ m < 4294967296 := by
  have h0 : 0 ≤ a ∧ a ≤ 4294967295 := bounds_u32 h
  exact ⟨a.toNat, by omega, by omega⟩
theorem sets_int (Ad : Nat → Addr) (w : World) (a b n : Int) (hE : Env w Ad) (ha : (Lit.int .u32 a).wf = true) (hb : (Lit.int .u32 b).wf = true) :
    Calls Tryd.prog 4 #[.int .u32 a, .int .u32 b, .int .i64 n] w fun e w' => e = .returned (.bool true) ∧ Below w.heap.size w w' := by
  obtain ⟨m, rfl, hm⟩ := u32_nat a ha
  obtain ⟨l, rfl, hl⟩ := u32_nat b hb
  refine sets_law Ad w m l hm n (bitI n) hE rfl (of_bit n) ?_
  by_cases h0 : n < 0
  · exact .inr (.inl ⟨h0, bitI_out n (by omega)⟩)
  · by_cases h1 : 32 ≤ n
    · exact .inr (.inr ⟨h1, bitI_out n (by omega)⟩)
    · obtain ⟨k, rfl⟩ := Int.eq_ofNat_of_zero_le (show 0 ≤ n by omega)
      exact .inl ⟨k, rfl, by omega, (if_pos (by omega)).trans (by rw [Int.toNat_natCast])⟩
end Go.Proofs.YtmekfiafdjdopaaDoor
