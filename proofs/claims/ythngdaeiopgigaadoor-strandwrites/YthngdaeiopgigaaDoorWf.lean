/- Contracts of strand's writer: Text, Bytes. -/
import Derived.Test.YthngdaeiopgigaaDoorWe
import Derived.Lib.AppendStr
import Derived.Laws.BytesArg
namespace Go.Proofs.YthngdaeiopgigaaDoor
open Go.ChangeShapes Go.WideShapes Go.ChangeAt Go.RowKit
theorem text_len {s : ByteArray} (h : (grp s.size).length ≤ 10) (hs : s.size ≤ 10000) : (grp s.size ++ s.data.toList).length ≤ 1000000 := by
  have : s.data.toList.length = s.size := by simp
  rw [List.length_append, this]; omega
/-- An error of ours: a Blame around a sentinel. -/
def IsBlame (w : World) (v : Value) (s : ByteArray) (a : Addr) : Prop := ∃ g, v = .iface 96 (.pointer (some ⟨g, 0, none⟩)) ∧ w.heap[g]? = some (.cells #[.string s, .iface 113 (.pointer (some a))] 61 (0, 0))
theorem strCells_bv (s : ByteArray) : Lib.strCells s = s.data.toList.map bv := rfl
theorem text_own {w : World} {B : Nat} {v : Value} {s : ByteArray} (h : w.ownsRow B 5 1 v ((grp s.size).length + s.size) ((grp s.size).map bv ++ Lib.strCells s)) : w.ownsRow 0 5 1 v (grp s.size ++ s.data.toList).length ((grp s.size ++ s.data.toList).map bv) := by
  rw [strCells_bv] at h
  have e : (grp s.size ++ s.data.toList).length = (grp s.size).length + s.size := by simp
  rw [e, List.map_append]
  exact own_base h (Nat.zero_le _)
theorem own_convert {w : World} {B : Nat} {v : Value} {l : List UInt8} (h : w.ownsRow B 5 1 v l.length (l.map bv)) : (convert 64 9 v).run Tryd.prog w = .ok (.string ⟨l.toArray⟩) w := by
  rcases h.2 with ⟨rfl, h2⟩ | ⟨g, cap, cur, rfl, _, hg, _, _, _, ht⟩
  · have : l = [] := List.eq_nil_of_length_eq_zero h2
    subst this
    exact run_convert_bytes_nil w 64 5 Tryd.underlying64 Tryd.underlying5 0 0 9 Tryd.underlying9
  · refine run_convert_bytes_back w 64 9 5 ⟨g, 0, none⟩ cap l Tryd.underlying64 Tryd.underlying5 Tryd.underlying9 (fun j hj => ?_)
    exact own_cells hg ht j _ (by simp [hj, bv])
set_option maxHeartbeats 800000 in
set_option maxRecDepth 100000 in
theorem text_any (b : Nat) (st : WS) (s : ByteArray) (hs : s.size ≤ 10000) (aA aL : Addr) (w : World) (hW : Wr w b st) (hp : WPre w st aA aL) :
    Calls Tryd.prog 34 #[.pointer (some ⟨b, 0, none⟩), .string s] w fun e w' => e = .returned (.tuple #[]) ∧ Wr w' b (st.putB aA aL nmText (some (grp s.size ++ s.data.toList))) ∧ Stp b w w' := by
  have hk : U64 s.size := by unfold U64; omega
  have hlen := grp_len10 hk
  have hwr : IntKind.u64.wrap (s.size : Int) = s.size := by rw [IntKind.wrap_u64]; omega
  obtain ⟨i0, hi, hz0, hz1, hz2⟩ := info_parts Tryd.info5
  go_enter Tryd.func34, Tryd.ntmps34
  go_wp2_with (first | (go_at_call 51; refine (groups_any _ hk _).mono ?_; rintro e w1 ⟨v1, rfl, hown1, hv1, hb1⟩) | (at_builtin; refine Lib.wpList_append_own_string _ rfl (.tmp 8) (.tmp 9) 64 9 rfl w.heap.size 5 i0 Tryd.underlying64 Tryd.underlying9 hi hz0 hz1 hz2 _ (grp s.size).length ((grp s.size).map bv) rfl hown1 s rfl (by unfold maxLen; omega) (by omega) hb1.size ?_; intro v2 w2 hown2 hgrow2 hnil2) | (go_at_call 50; refine (write_from (aA := aA) (aL := aL) (xs := grp s.size ++ s.data.toList) (hb1.grown hgrow2 hb1.size (fun j hj => (ownBlock_of hown1 hj).1)) hW hp ?_ ?_ ?_).mono ?_; exact text_len hlen hs; exact text_own hown2; exact fun h => hv1 (hnil2.1 h).1; rintro e w' ⟨rfl, hW', hS'⟩))
  go_end0
  exact ⟨rfl, hW', hS'⟩
set_option maxHeartbeats 800000 in
set_option maxRecDepth 100000 in
theorem bytes_ok (b m : Nat) (l : List UInt8) (w : World) (hW : Wr w b (.ok m l)) :
    Calls Tryd.prog 13 #[.pointer (some ⟨b, 0, none⟩)] w fun e w' => e = .returned (.tuple #[.string ⟨l.toArray⟩, .nilIface]) ∧ w = w' := by
  obtain ⟨v, hb, hown, hne⟩ := id hW
  obtain ⟨ua, uc, rfl⟩ := own_slice hown
  have c1 : w.cell? ⟨b, 1, none⟩ = some .nilIface := blk_cell hb 1
  have c3 : w.cell? ⟨b, 3, none⟩ = some (.slice ua l.length uc) := blk_cell hb 3
  have hcv := own_convert hown
  go_enter Tryd.func13, Tryd.ntmps13
  go_wp2_with (go_at_call 37; refine (wrong_no _ _ ?_).mono ?_; exact c1; rintro e w' ⟨rfl, rfl⟩)
  go_ret2
  exact ⟨rfl, rfl⟩
set_option maxHeartbeats 800000 in
set_option maxRecDepth 100000 in
theorem told_any (b : Nat) (s : ByteArray) (a : Addr) (w : World) (h0 : w.cell? ⟨b, 0, none⟩ = some (.string s)) (h1 : w.cell? ⟨b, 1, none⟩ = some (.iface 113 (.pointer (some a)))) :
    Calls Tryd.prog 38 #[.pointer (some ⟨b, 0, none⟩)] w fun e w' => ∃ v, e = .returned v ∧ IsBlame w' v s a ∧ Below w.heap.size w w' := by
  go_enter Tryd.func38, Tryd.ntmps38
  go_wp2
  go_region_with (go_at_call 45; refine (at_any _ _ _).mono ?_; rintro e w' ⟨rfl, rfl⟩)
  all_goals go_wp2
  all_goals go_ret
  all_goals exact ⟨_, rfl, ⟨_, rfl, blk_new w _⟩, ((Below.refl _ _).alloc (Nat.le_refl _) _).drew⟩
set_option maxHeartbeats 800000 in
set_option maxRecDepth 100000 in
theorem bytes_bad (b : Nat) (s : ByteArray) (a : Addr) (w : World) (hW : Wr w b (.bad s a)) :
    Calls Tryd.prog 13 #[.pointer (some ⟨b, 0, none⟩)] w fun e w' => ∃ v, e = .returned (.tuple #[.string ⟨#[]⟩, v]) ∧ IsBlame w' v s a ∧ Below w.heap.size w w' := by
  obtain ⟨m, v, hb, _⟩ := id hW
  have c0 : w.cell? ⟨b, 0, none⟩ = some (.string s) := blk_cell hb 0
  have c1 : w.cell? ⟨b, 1, none⟩ = some (.iface 113 (.pointer (some a))) := blk_cell hb 1
  go_enter Tryd.func13, Tryd.ntmps13
  go_wp2_with (first | (go_at_call 37; refine (wrong_yes _ a _ ?_).mono ?_; exact c1; rintro e w' ⟨rfl, rfl⟩) | (go_at_call 38; refine (told_any _ s a _ ?_ ?_).mono ?_; exact c0; exact c1; rintro e w' ⟨v1, rfl, hbl, hbel⟩))
  go_ret2
  exact ⟨_, rfl, hbl, hbel⟩
set_option maxHeartbeats 800000 in
set_option maxRecDepth 100000 in
theorem bytes_nil (a : Addr) (w : World) (hN : w.cell? ⟨3, 0, none⟩ = some (.iface 113 (.pointer (some a)))) :
    Calls Tryd.prog 13 #[.pointer none] w fun e w' => e = .returned (.tuple #[.string ⟨#[]⟩, .iface 113 (.pointer (some a))]) ∧ ∃ n, w' = w.drewN n := by
  go_enter Tryd.func13, Tryd.ntmps13
  go_wp2
  go_quiet (fail)
  go_wp2
  go_ret2
  exact ⟨rfl, _, rfl⟩
end Go.Proofs.YthngdaeiopgigaaDoor
