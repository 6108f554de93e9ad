/- Contracts of strand's writer: Count, Num, Bits, Text. -/
import Derived.Test.YthngdaeiopgigaaDoorWd
import Derived.Lib.AppendStr
namespace Go.Proofs.YthngdaeiopgigaaDoor
open Go.ChangeShapes Go.WideShapes Go.ChangeAt Go.RowKit

def encCount (n : Int) : Option (List UInt8) := if n < 0 then none else some (grp n.toNat)
set_option maxHeartbeats 400000 in
theorem count_bad (b : Nat) (n : Int) (s : ByteArray) (a : Addr) (w : World) (hW : Wr w b (.bad s a)) :
    Calls Tryd.prog 33 #[.pointer (some ⟨b, 0, none⟩), .int .i64 n] w fun e w' => e = .returned (.tuple #[]) ∧ w = w' := by
  go_enter Tryd.func33, Tryd.ntmps33
  go_wp2_with (go_at_call 48; refine (closed_any _ _ (.bad s a) ?_).mono ?_; exact hW; rintro e w' ⟨rfl, rfl⟩)
  all_goals first | (exact bodyPost_ret (results_none rfl _ _ _) rfl ⟨rfl, rfl⟩) | skip
  all_goals (simp [WS.wrong] at *; done)
set_option maxHeartbeats 800000 in
set_option maxRecDepth 100000 in
theorem count_ok (b m : Nat) (l : List UInt8) (n : Int) (hn : I64 n) (aA aL : Addr) (w : World) (hW : Wr w b (.ok m l)) (hp : WPre w (.ok m l) aA aL) :
    Calls Tryd.prog 33 #[.pointer (some ⟨b, 0, none⟩), .int .i64 n] w fun e w' => e = .returned (.tuple #[]) ∧ Wr w' b ((WS.ok m l).putB aA aL nmCount (encCount n)) ∧ Stp b w w' := by
  by_cases h : n < 0
  · clear hn
    have hA := hp.hA
    obtain ⟨v, hb, hown, hne⟩ := id hW
    have c0 : w.cell? ⟨b, 0, none⟩ = some (.string ⟨#[]⟩) := blk_cell hb 0
    have c1 : w.cell? ⟨b, 1, none⟩ = some .nilIface := blk_cell hb 1
    have f0 : w.frozen? ⟨b, 0, none⟩ = false := blk_free hb 0
    have f1 : w.frozen? ⟨b, 1, none⟩ = false := blk_free hb 1
    rw [show (WS.ok m l).putB aA aL nmCount (encCount n) = .bad nmCount aA from by simp [WS.putB, encCount, h]]
    go_enter Tryd.func33, Tryd.ntmps33
    go_wp2_with (go_at_call 48; refine (closed_any _ _ (.ok m l) ?_).mono ?_; exact hW; rintro e w' ⟨rfl, rfl⟩)
    go_region_with (go_at_call 49; refine (fail_any _ _ _ _ _ (.string ⟨#[]⟩) .nilIface ?_ ?_ ?_ ?_).mono ?_; exact c0; exact c1; exact f0; exact f1; rintro e w' ⟨rfl, rfl⟩)
    all_goals go_wp2
    all_goals exact bodyPost_ret (results_none rfl _ _ _) rfl ⟨rfl, wr_failed hb hown⟩
  · obtain ⟨k, rfl⟩ : ∃ k : Nat, n = k := ⟨n.toNat, by omega⟩
    have hk : U64 k := by have := hn.2; unfold U64; omega
    have hlen := grp_len10 hk
    have hwr : IntKind.u64.wrap (k : Int) = k := by rw [IntKind.wrap_u64]; have := hn.2; omega
    rw [show encCount (k : Int) = some (grp k) from by simp [encCount]]
    clear hn
    have e1 : ¬ ((k : Int) < 0) := by omega
    go_enter Tryd.func33, Tryd.ntmps33
    go_wp2_with (first | (go_at_call 48; refine (closed_any _ _ (.ok m l) ?_).mono ?_; exact hW; rintro e w' ⟨rfl, rfl⟩) | (go_at_call 51; refine (groups_any k hk _).mono ?_; rintro e w1 ⟨v1, rfl, hown1, hv1, hb1⟩) | (go_at_call 50; refine (write_from (aA := aA) (aL := aL) (xs := grp k) hb1 hW hp ?_ (own_base hown1 (Nat.zero_le _)) hv1).mono ?_; omega; rintro e w' ⟨rfl, hW', hS'⟩))
    go_end0
    exact ⟨rfl, hW', hS'⟩
theorem count_any (b : Nat) (st : WS) (n : Int) (hn : I64 n) (aA aL : Addr) (w : World) (hW : Wr w b st) (hp : WPre w st aA aL) :
    Calls Tryd.prog 33 #[.pointer (some ⟨b, 0, none⟩), .int .i64 n] w fun e w' => e = .returned (.tuple #[]) ∧ Wr w' b (st.putB aA aL nmCount (encCount n)) ∧ Stp b w w' := by
  cases st with
  | ok m l => exact count_ok b m l n hn aA aL w hW hp
  | bad s a => exact (count_bad b n s a w hW).mono (by rintro e w' ⟨h, rfl⟩; exact ⟨h, hW, Stp.refl _ _⟩)
set_option maxHeartbeats 800000 in
set_option maxRecDepth 100000 in
theorem num_any (b : Nat) (st : WS) (n : Int) (hn : I64 n) (aA aL : Addr) (w : World) (hW : Wr w b st) (hp : WPre w st aA aL) :
    Calls Tryd.prog 26 #[.pointer (some ⟨b, 0, none⟩), .int .i64 n] w fun e w' => e = .returned (.tuple #[]) ∧ Wr w' b (st.putB aA aL nmNum (some (grp (zig n)))) ∧ Stp b w w' := by
  have hk : U64 (zig n) := zig_lt n hn
  have hlen := grp_len10 hk
  go_enter Tryd.func26, Tryd.ntmps26
  go_wp2_with (first | (go_at_call 52; refine (fold_any n hn _).mono ?_; rintro e w1 ⟨rfl, rfl⟩) | (go_at_call 51; refine (groups_any _ hk _).mono ?_; rintro e w1 ⟨v1, rfl, hown1, hv1, hb1⟩) | (go_at_call 50; refine (write_from (aA := aA) (aL := aL) (xs := grp (zig n)) hb1 hW hp ?_ (own_base hown1 (Nat.zero_le _)) hv1).mono ?_; omega; rintro e w' ⟨rfl, hW', hS'⟩))
  go_end0
  exact ⟨rfl, hW', hS'⟩
set_option maxHeartbeats 800000 in
set_option maxRecDepth 100000 in
theorem bits_any (b : Nat) (st : WS) (k : Nat) (hk : (k : Int) < 4294967296) (aA aL : Addr) (w : World) (hW : Wr w b st) (hp : WPre w st aA aL) :
    Calls Tryd.prog 36 #[.pointer (some ⟨b, 0, none⟩), .int .u32 k] w fun e w' => e = .returned (.tuple #[]) ∧ Wr w' b (st.putB aA aL nmBits (some (grp k))) ∧ Stp b w w' := by
  have hk2 : U64 k := by unfold U64; omega
  have hlen := grp_len10 hk2
  have hwr : IntKind.u64.wrap (k : Int) = k := by rw [IntKind.wrap_u64]; omega
  clear hk
  rename U64 k => hk
  go_enter Tryd.func36, Tryd.ntmps36
  go_wp2_with (first | (go_at_call 51; refine (groups_any _ hk _).mono ?_; rintro e w1 ⟨v1, rfl, hown1, hv1, hb1⟩) | (go_at_call 50; refine (write_from (aA := aA) (aL := aL) (xs := grp k) hb1 hW hp ?_ (own_base hown1 (Nat.zero_le _)) hv1).mono ?_; omega; rintro e w' ⟨rfl, hW', hS'⟩))
  go_end0
  exact ⟨rfl, hW', hS'⟩
end Go.Proofs.YthngdaeiopgigaaDoor
