/- Contracts of strand's writer: groups, fold. -/
import Derived.Test.YthngdaeiopgigaaDoorWb
import Derived.Test.YthngdaeiopgigaaDoorMb
namespace Go.Proofs.YthngdaeiopgigaaDoor
open Go.ChangeShapes Go.WideShapes Go.ChangeAt Go.RowKit

theorem bv_of {n : Nat} (h : n < 256) : bv (UInt8.ofNat n) = .int .u8 n := by
  unfold bv
  have : (UInt8.ofNat n).toNat = n := by simp; omega
  rw [this]
theorem own_snoc {w : World} {B : Nat} {v : Value} {pre : List UInt8} {c : UInt8} {x : Value} (h : w.ownsRow B 5 1 v (pre.length + 1) (pre.map bv ++ [x])) (hx : bv c = x) : w.ownsRow B 5 1 v (pre ++ [c]).length ((pre ++ [c]).map bv) := by
  subst hx; simpa using h
theorem own_notnil {w : World} {B : Nat} {v : Value} {n : Nat} {xs : List Value} (h : w.ownsRow B 5 1 v n xs) (hn : 0 < n) : v ≠ .slice none 0 0 := by
  rcases h.2 with ⟨_, h1⟩ | ⟨g, cap, cur, h1, _⟩
  · omega
  · subst h1; simp
set_option maxHeartbeats 400000 in
set_option maxRecDepth 100000 in
theorem groups_any (n : Nat) (hn : U64 n) (w : World) :
    Calls Tryd.prog 51 #[.int .u64 n] w fun e w' => ∃ v, e = .returned v ∧ w'.ownsRow w.heap.size 5 1 v (grp n).length ((grp n).map bv) ∧ v ≠ .slice none 0 0 ∧ Below w.heap.size w w' := by
  obtain ⟨i0, hi, hz0, hz1, hz2⟩ := info_parts Tryd.info5
  have hlen := grp_len10 hn
  clear hn
  go_enter Tryd.func51, Tryd.ntmps51
  go_wp2
  go_loopw [0, 3] (fun x v wr => ∃ (k : Nat) (pre : List UInt8), x = .int .u64 k ∧ k ≤ n ∧ pre ++ grp k = grp n ∧ wr.ownsRow w.heap.size 5 1 v pre.length (pre.map bv) ∧ Below w.heap.size w wr) (fun x _ _ => (intOf x).toNat)
  case atStart => exact ⟨n, [], rfl, Nat.le_refl _, rfl, World.ownsRow_nil _ _ _ _, Below.refl _ _⟩
  case round =>
    obtain ⟨k, pre, rfl, hk, hpre, hown, hbel⟩ := hrel
    have hpl : pre.length ≤ 10 := by have := congrArg List.length hpre; simp at this; omega
    have HP : Hid (pre ++ grp k = grp n) := hpre
    clear hpre
    have hk0 : (0 : Int) ≤ k := by omega
    have hsz := hbel.size
    obtain ⟨ga, gc, rfl⟩ := own_slice hown
    by_cases hlt : k < 128
    · go_wp2_with (at_builtin; refine wpList_append_own_at _ rfl (.tmp 15) (.tmp 18) 64 rfl w.heap.size 5 i0 (.int .u8 0) 1 1 Tryd.underlying64 hi hz0 hz1 hz2 rfl (by decide) _ pre.length (pre.map bv) rfl (hown.alloc _) ⟨wr.heap.size, 0, none⟩ 1 1 _ rfl rfl (cell_one_new _ _ _) (by simp [Value.oneCell']) (by unfold maxLen; omega) (by omega) (by simp; omega) ?_; intro v' w1 hown' hgrow _ hat)
      go_ret
      refine ⟨v', rfl, ?_, own_notnil hown' (by omega), (hbel.alloc hsz _).grown hgrow (by simp; omega) (fun j hj => (ownBlock_of hown hj).1)⟩
      have e1 := own_snoc (c := UInt8.ofNat k) hown' (bv_of (by omega))
      rw [← grp_lt hlt, HP.out] at e1
      exact e1
    · go_wp2_with (at_builtin; refine wpList_append_own_at _ rfl (.tmp 8) (.tmp 13) 64 rfl w.heap.size 5 i0 (.int .u8 0) 1 1 Tryd.underlying64 hi hz0 hz1 hz2 rfl (by decide) _ pre.length (pre.map bv) rfl (hown.alloc _) ⟨wr.heap.size, 0, none⟩ 1 1 _ rfl rfl (cell_one_new _ _ _) (by simp [Value.oneCell']) (by unfold maxLen; omega) (by omega) (by simp; omega) ?_; intro v' w1 hown' hgrow _ hat)
      have e1 := own_snoc (c := UInt8.ofNat (k % 128 + 128)) hown' (bv_of (by omega))
      go_roundw
      case rel =>
        refine ⟨k / 128, pre ++ [UInt8.ofNat (k % 128 + 128)], by go_num, by omega, ?_, e1, (hbel.alloc hsz _).grown hgrow (by simp; omega) (fun j hj => (ownBlock_of hown hj).1)⟩
        rw [List.append_assoc, List.singleton_append, ← grp_ge hlt]; exact HP.out
      case measure => simp [intOf]; omega
end Go.Proofs.YthngdaeiopgigaaDoor
