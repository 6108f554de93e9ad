/- Contract of the reference's Take: flags. -/
import Derived.Test.YthngdaeiopgigaaDoorQe
import Derived.Test.YthngdaeiopgigaaDoorQb
namespace Go.Proofs.YthngdaeiopgigaaDoor
open Go.ChangeShapes Go.WideShapes Go.ChangeAt Go.RowKit
attribute [local go_sem ↓] Go.wp_at_zero Go.wp_at_succ
theorem get6 (N : Int) (text : ByteArray) (fl : List Bool) (aF : Addr) (st : RS) : RS.get aF ⟨6, N, text, fl⟩ st = (⟨6, 0, ⟨#[]⟩, (st.flags aF N).1⟩, (st.flags aF N).2) := rfl
set_option maxHeartbeats 1600000 in
set_option maxRecDepth 100000 in
theorem take6_bad (s : ByteArray) (N : Int) (text : ByteArray) (fl : List Bool) (fa : Option Addr) (fc : Nat) (hs : s.size ≤ 10000000) (aF : Addr) (w : World) (hbad : N < 0 ∨ 65536 < N ∨ (s.size : Int) < (N + 7) / 8) :
    Calls Tryd.prog 17 #[.string s, .agg #[.int .i64 6, .int .i64 N, .string text, .slice fa fl.length fc]] w fun e w' => Took w (RS.get aF ⟨6, N, text, fl⟩ ⟨s.data.toList, none⟩) e w' := by
  rw [get6]
  have HG : Hid (RS.flags aF N ⟨s.data.toList, none⟩ = ([], ⟨s.data.toList, some (nmFlags, aF)⟩)) := by
    show _ = _
    simp only [RS.flags]
    rw [if_neg (by rintro ⟨h1, h2, h3, _⟩; simp at h3; omega)]; rfl
  by_cases h1 : N < 0
  · clear hbad
    go_enter Tryd.func17, Tryd.ntmps17
    go_wp2
    all_goals refine bodyPost_ret (v := .tuple #[.agg #[.int .i64 6, .int .i64 0, .string ⟨#[]⟩, .slice none 0 0], .string s, .bool false]) (by simp [results, Tryd.results17, go_sem]) rfl ?_
    all_goals rw [HG.out]
    all_goals exact ⟨⟨_, _, rfl, rfl, Bools.nil _⟩, three_boxes _ _ _ _⟩
  · by_cases h2 : 65536 < N
    · clear hbad
      go_enter Tryd.func17, Tryd.ntmps17
      go_wp2
      all_goals refine bodyPost_ret (v := .tuple #[.agg #[.int .i64 6, .int .i64 0, .string ⟨#[]⟩, .slice none 0 0], .string s, .bool false]) (by simp [results, Tryd.results17, go_sem]) rfl ?_
      all_goals rw [HG.out]
      all_goals exact ⟨⟨_, _, rfl, rfl, Bools.nil _⟩, three_boxes _ _ _ _⟩
    · have h3 : (s.size : Int) < (N + 7) / 8 := by omega
      clear hbad
      go_enter Tryd.func17, Tryd.ntmps17
      go_wp2
      all_goals refine bodyPost_ret (v := .tuple #[.agg #[.int .i64 6, .int .i64 0, .string ⟨#[]⟩, .slice none 0 0], .string s, .bool false]) (by simp [results, Tryd.results17, go_sem]) rfl ?_
      all_goals rw [HG.out]
      all_goals exact ⟨⟨_, _, rfl, rfl, Bools.nil _⟩, three_boxes _ _ _ _⟩
end Go.Proofs.YthngdaeiopgigaaDoor
