/- Pieces of the law StrandBounds: two writers; nil writers and readers; bounds. -/
import Derived.Test.YthngdaeiopgigaaDoorLb
namespace Go.Proofs.YthngdaeiopgigaaDoor
open Go.ChangeShapes Go.WideShapes Go.ChangeAt Go.RowKit
theorem puts_bad_arg (aA aL : Addr) : ∀ (xs : List (Itm × Value)) (m : Nat) (l : List UInt8) (s : ByteArray) (a : Addr), (∀ x ∈ xs, x.1.Ok) → l.length + 1010 * xs.length ≤ m → puts aA aL (.ok m l) xs = .bad s a → a = aA
  | [], m, l, s, a, _, _, h => by cases h
  | x :: t, m, l, s, a, hok, hm, h => by
    have h' : puts aA aL ((WS.ok m l).putB aA aL x.1.nm x.1.enc) t = .bad s a := h
    simp only [List.length_cons] at hm
    cases he : x.1.enc with
    | none =>
      rw [he, show (WS.ok m l).putB aA aL x.1.nm none = .bad x.1.nm aA from rfl, puts_bad] at h'
      cases h'; rfl
    | some e =>
      have hel := enc_len x.1 (hok x (by simp)) e he
      rw [he, WS.putB_some, show (WS.ok m l).write aL x.1.nm e = .ok m (l ++ e) from by simp [WS.write]; omega] at h'
      exact puts_bad_arg aA aL t m (l ++ e) s a (fun y hy => hok y (by simp [hy])) (by rw [List.length_append]; omega) h'
theorem puts_fit (aA aL : Addr) : ∀ (xs : List (Itm × Value)) (m : Nat) (l r : List UInt8), encs xs = some r → l.length + r.length ≤ m → puts aA aL (.ok m l) xs = .ok m (l ++ r)
  | [], m, l, r, h, _ => by cases h; simp [puts]
  | x :: t, m, l, r, h, hm => by
    obtain ⟨e, r', h1, h2, rfl⟩ := encs_cons h
    rw [List.length_append] at hm
    show puts aA aL ((WS.ok m l).putB aA aL x.1.nm x.1.enc) t = _
    rw [h1, WS.putB_some, show (WS.ok m l).write aL x.1.nm e = .ok m (l ++ e) from by simp [WS.write]; omega, puts_fit aA aL t m (l ++ e) r' h2 (by rw [List.length_append]; omega), List.append_assoc]
theorem puts_over (aA aL : Addr) : ∀ (xs : List (Itm × Value)) (m : Nat) (l r : List UInt8), encs xs = some r → l.length ≤ m → m < l.length + r.length → ∃ s, puts aA aL (.ok m l) xs = .bad s aL
  | [], m, l, r, h, h1, h2 => by cases h; simp at h2; omega
  | x :: t, m, l, r, h, h1, h2 => by
    obtain ⟨e, r', h3, h4, rfl⟩ := encs_cons h
    rw [List.length_append] at h2
    show ∃ s, puts aA aL ((WS.ok m l).putB aA aL x.1.nm x.1.enc) t = .bad s aL
    rw [h3, WS.putB_some]
    by_cases hm : m < l.length + e.length
    · rw [show (WS.ok m l).write aL x.1.nm e = .bad x.1.nm aL from by simp [WS.write, hm], puts_bad]
      exact ⟨_, rfl⟩
    · rw [show (WS.ok m l).write aL x.1.nm e = .ok m (l ++ e) from by simp [WS.write, hm]]
      exact puts_over aA aL t m (l ++ e) r' h4 (by rw [List.length_append]; omega) (by rw [List.length_append]; omega)
/-- Two writers of the call's own. -/
structure TwoW (w W : World) (ba bb : Nat) (sa sb : WS) : Prop where
  bel : Below w.heap.size w W
  wa : Wr W ba sa
  wb : Wr W bb sb
  nd : Dis W ba bb
  fa : ∀ k, foot W ba k → w.heap.size ≤ k
  fb : ∀ k, foot W bb k → w.heap.size ≤ k
theorem TwoW.stepA {w W W' : World} {ba bb : Nat} {sa sa' sb : WS} (h : TwoW w W ba bb sa sb) (hw : Wr W' ba sa') (hs : Stp ba W W') : TwoW w W' ba bb sa' sb := by
  obtain ⟨h1, h2⟩ := hs.below h.bel.size h.fa
  obtain ⟨d1, d2, d3, d4⟩ := hs.dis h.nd h.wb.foots
  exact ⟨h.bel.trans h1, hw, h.wb.kept d4 hs.kp.size, d1, h2, fun k hk => h.fb k ((foot_same d3 k).1 hk)⟩
theorem TwoW.swap {w W : World} {ba bb : Nat} {sa sb : WS} (h : TwoW w W ba bb sa sb) : TwoW w W bb ba sb sa := ⟨h.bel, h.wb, h.wa, h.nd.symm, h.fb, h.fa⟩
theorem TwoW.stepB {w W W' : World} {ba bb : Nat} {sa sb sb' : WS} (h : TwoW w W ba bb sa sb) (hw : Wr W' bb sb') (hs : Stp bb W W') : TwoW w W' ba bb sa sb' := (h.swap.stepA hw hs).swap
theorem TwoW.new {w W W' : World} {ba bb : Nat} {sa sb : WS} (h : TwoW w W ba bb sa sb) (hb : Below W.heap.size W W') : TwoW w W' ba bb sa sb := h.stepA (h.wa.new hb) (Stp.new hb h.wa.foots.lt)
set_option maxHeartbeats 400000 in
set_option maxRecDepth 100000 in
theorem write_nil (s : ByteArray) (v : Value) (w : World) :
    Calls Tryd.prog 50 #[.pointer none, .string s, v] w fun e w' => e = .returned (.tuple #[]) ∧ w = w' := by
  go_enter Tryd.func50, Tryd.ntmps50
  go_wp2_with (go_at_call 48; refine (closed_nil _).mono ?_; rintro e w' ⟨rfl, rfl⟩)
  exact bodyPost_ret (results_none rfl _ _ _) rfl ⟨rfl, rfl⟩
set_option maxHeartbeats 800000 in
set_option maxRecDepth 100000 in
theorem num_nil (n : Int) (hn : I64 n) (w : World) :
    Calls Tryd.prog 26 #[.pointer none, .int .i64 n] w fun e w' => e = .returned (.tuple #[]) ∧ Below w.heap.size w w' := by
  have hk : U64 (zig n) := zig_lt n hn
  go_enter Tryd.func26, Tryd.ntmps26
  go_wp2_with (first | (go_at_call 52; refine (fold_any n hn _).mono ?_; rintro e w1 ⟨rfl, rfl⟩) | (go_at_call 51; refine (groups_any _ hk _).mono ?_; rintro e w1 ⟨v1, rfl, hown1, hv1, hb1⟩) | (go_at_call 50; refine (write_nil _ _ _).mono ?_; rintro e w' ⟨rfl, rfl⟩))
  go_end0
  exact ⟨rfl, hb1⟩
set_option maxHeartbeats 400000 in
theorem left_nil (w : World) : Calls Tryd.prog 20 #[.pointer none] w fun e w' => e = .returned (.int .i64 0) ∧ w' = w := by
  go_enter Tryd.func20, Tryd.ntmps20
  go_wp2
  go_ret
  exact ⟨rfl, rfl⟩
set_option maxHeartbeats 400000 in
theorem end_nil (a : Addr) (w : World) (h : w.cell? ⟨3, 0, none⟩ = some (.iface 113 (.pointer (some a)))) : Calls Tryd.prog 21 #[.pointer none] w fun e w' => e = .returned (.iface 113 (.pointer (some a))) ∧ w' = w := by
  go_enter Tryd.func21, Tryd.ntmps21
  go_wp2
  go_ret
  exact ⟨rfl, rfl⟩
theorem rclosed_nil' (w : World) : Calls Tryd.prog 53 #[.pointer none] w fun e w' => e = .returned (.bool true) ∧ w' = w := (rclosed_nil w).mono (by rintro e w' ⟨h1, h2⟩; exact ⟨h1, h2.symm⟩)
set_option maxHeartbeats 400000 in
theorem rbyte_nil (w : World) : Calls Tryd.prog 27 #[.pointer none] w fun e w' => e = .returned (.int .i64 0) ∧ w' = w := by
  go_enter Tryd.func27, Tryd.ntmps27
  go_wp2_with (go_at_call 53; refine (rclosed_nil _).mono ?_; rintro e w' ⟨rfl, rfl⟩)
  go_ret
  exact ⟨rfl, rfl⟩
set_option maxHeartbeats 400000 in
theorem number_nil (s : ByteArray) (m : Int) (w : World) : Calls Tryd.prog 56 #[.pointer none, .string s, .int .u64 m] w fun e w' => e = .returned (.int .u64 0) ∧ w = w' := by
  go_enter Tryd.func56, Tryd.ntmps56
  go_wp2_with (go_at_call 53; refine (rclosed_nil _).mono ?_; rintro e w' ⟨rfl, rfl⟩)
  go_ret
  exact ⟨rfl, rfl⟩
set_option maxHeartbeats 400000 in
theorem rcount_nil (w : World) : Calls Tryd.prog 28 #[.pointer none] w fun e w' => e = .returned (.int .i64 0) ∧ w' = w := by
  go_enter Tryd.func28, Tryd.ntmps28
  go_wp2_with (go_at_call 56; refine (number_nil _ _ _).mono ?_; rintro e w' ⟨rfl, rfl⟩)
  go_ret
  exact ⟨rfl, rfl⟩
set_option maxHeartbeats 400000 in
theorem rnum_nil (w : World) : Calls Tryd.prog 29 #[.pointer none] w fun e w' => e = .returned (.int .i64 0) ∧ w' = w := by
  have hu := unfold_any 0 (by unfold U64; decide)
  rw [show unzig 0 = 0 from rfl] at hu
  have HU := hid hu
  clear hu
  go_enter Tryd.func29, Tryd.ntmps29
  go_wp2_with (first | (go_at_call 56; refine (number_nil _ _ _).mono ?_; rintro e w' ⟨rfl, rfl⟩) | (go_at_call 57; refine (HU.out _).mono ?_; rintro e w' ⟨rfl, rfl⟩))
  go_ret
  exact ⟨rfl, rfl⟩
set_option maxHeartbeats 400000 in
theorem rbits_nil (w : World) : Calls Tryd.prog 32 #[.pointer none] w fun e w' => e = .returned (.int .u32 0) ∧ w' = w := by
  go_enter Tryd.func32, Tryd.ntmps32
  go_wp2_with (go_at_call 56; refine (number_nil _ _ _).mono ?_; rintro e w' ⟨rfl, rfl⟩)
  go_ret
  exact ⟨rfl, rfl⟩
set_option maxHeartbeats 400000 in
theorem rtext_nil (m : Int) (w : World) : Calls Tryd.prog 30 #[.pointer none, .int .i64 m] w fun e w' => e = .returned (.string ⟨#[]⟩) ∧ w' = w := by
  go_enter Tryd.func30, Tryd.ntmps30
  go_wp2_with (go_at_call 53; refine (rclosed_nil _).mono ?_; rintro e w' ⟨rfl, rfl⟩)
  go_ret
  exact ⟨rfl, rfl⟩
set_option maxHeartbeats 400000 in
theorem rflags_nil (m : Int) (w : World) : Calls Tryd.prog 31 #[.pointer none, .int .i64 m] w fun e w' => e = .returned (.slice none 0 0) ∧ w' = w := by
  go_enter Tryd.func31, Tryd.ntmps31
  go_wp2_with (go_at_call 53; refine (rclosed_nil _).mono ?_; rintro e w' ⟨rfl, rfl⟩)
  go_ret
  exact ⟨rfl, rfl⟩
theorem is_same' (a : Addr) (w : World) : Calls Tryd.prog 22 #[.iface 113 (.pointer (some a)), .iface 113 (.pointer (some a))] w fun e w' => e = .returned (.bool true) ∧ w' = w := (is_same a w).mono (by rintro e w' ⟨h1, h2⟩; exact ⟨h1, h2.symm⟩)
theorem is_blame' (g : Nat) (s : ByteArray) (b : Addr) (w : World) (hg : w.heap[g]? = some (.cells #[.string s, .iface 113 (.pointer (some b))] 61 (0, 0))) : Calls Tryd.prog 22 #[.iface 96 (.pointer (some ⟨g, 0, none⟩)), .iface 113 (.pointer (some b))] w fun e w' => e = .returned (.bool true) ∧ w' = w := (is_blame g s b w hg).mono (by rintro e w' ⟨h1, h2⟩; exact ⟨h1, h2.symm⟩)
end Go.Proofs.YthngdaeiopgigaaDoor
