/- Contract of the reference's Take: a text. -/
import Derived.Test.YthngdaeiopgigaaDoorQd
namespace Go.Proofs.YthngdaeiopgigaaDoor
open Go.ChangeShapes Go.WideShapes Go.ChangeAt Go.RowKit
set_option maxHeartbeats 1600000 in
set_option maxRecDepth 100000 in
theorem take4 (s : ByteArray) (N : Int) (hN : I64 N) (text : ByteArray) (fl : List Bool) (fa : Option Addr) (fc : Nat) (hs : s.size ≤ 10000000) (aF : Addr) (w : World) :
    Calls Tryd.prog 17 #[.string s, .agg #[.int .i64 4, .int .i64 N, .string text, .slice fa fl.length fc]] w fun e w' => Took w (RS.get aF ⟨4, N, text, fl⟩ ⟨s.data.toList, none⟩) e w' := by
  rw [get4]
  cases hu : ung s.data.toList with
  | none =>
    have hur := ungR_eq_none hu
    have HG : Hid (RS.text aF N ⟨s.data.toList, none⟩ = ([], ⟨s.data.toList, some (nmText, aF)⟩)) := by
      show _ = _
      simp [RS.text, hu, RS.fail]
    clear hu hN
    go_enter Tryd.func17, Tryd.ntmps17
    go_wp2_with (go_at_call 44; refine (read_any s hs _).mono ?_; rw [hur]; rintro e w' ⟨rfl, rfl⟩)
    refine bodyPost_ret (v := .tuple #[.agg #[.int .i64 4, .int .i64 0, .string ⟨#[]⟩, .slice none 0 0], .string s, .bool false]) (by simp [results, Tryd.results17, go_sem]) rfl ?_
    rw [HG.out]
    exact ⟨⟨_, _, rfl, rfl, Bools.nil _⟩, three_boxes _ _ _ _⟩
  | some q =>
    obtain ⟨n, t⟩ := q
    have hur := ungR_eq_some hu
    obtain ⟨hs1, hs2⟩ := ung_sound hu
    have hpos := grp_pos n
    have hlen := grp_len10 hs2
    have htl : s.size = (grp n).length + t.length := by
      have := congrArg List.length hs1
      simpa using this
    have hk : ((grp n).length : Int) ≤ s.size := by omega
    have ht : (s.extract (grp n).length s.size).data.toList = t := by rw [extract_rest]; exact drop_grp hs1
    have hz : (((grp n).length : Int) == 0) = false := beq_eq_false_iff_ne.2 (by omega)
    have hwl : IntKind.u64.wrap ((s.size : Int) - (grp n).length) = t.length := by rw [IntKind.wrap_u64]; omega
    obtain ⟨hm1, hm2⟩ := hN
    by_cases hok : 0 ≤ N ∧ (n : Int) ≤ N ∧ n ≤ t.length
    · obtain ⟨hneg, hle, hlong⟩ := hok
      have HG : Hid (RS.text aF N ⟨s.data.toList, none⟩ = (t.take n, ⟨t.drop n, none⟩)) := by
        show _ = _
        simp only [RS.text, hu]; rw [if_pos ⟨hneg, hle, hlong⟩]
      have hwm : IntKind.u64.wrap N = N := by rw [IntKind.wrap_u64]; omega
      have hw1 : wrap64 (n : Int) = n := IntWalk.wrap64_in _ (by omega)
      have hw2 : IntKind.i64.wrap (n : Int) = n := by rw [IntKind.wrap_i64]; omega
      have hneg2 : ¬ (N < 0) := by omega
      have hle2 : ¬ (N < (n : Int)) := by omega
      have hlong2 : ¬ ((t.length : Int) < (n : Int)) := by omega
      have hsum : ((grp n).length : Int) + n ≤ s.size := by omega
      have hs0 : (0 : Int) ≤ (grp n).length + n := by omega
      have hs3 : ((grp n).length : Int) ≤ (grp n).length + n := by omega
      have hw3 : wrap64 (((grp n).length : Int) + n) = (grp n).length + n := IntWalk.wrap64_in _ (by omega)
      have hw4 : IntKind.i64.wrap (((grp n).length : Int) + n) = (grp n).length + n := by rw [IntKind.wrap_i64]; omega
      have htn : (((grp n).length : Int) + n).toNat = (grp n).length + n := by omega
      have hd : s.data.toList.drop (grp n).length = t := by rw [← extract_rest, ht]
      have H1 := hid (ba_of (s.extract (grp n).length ((grp n).length + n)) (t.take n) (by rw [extract_list, hd]; congr 1; omega))
      have H2 : Hid ((s.extract ((grp n).length + n) s.size).data.toList = t.drop n) := by show _ = _; rw [extract_rest, ← List.drop_drop, hd]
      have hn7 : n ≤ 10000000 := by omega
      clear hu hs1 hs2 htl hpos ht hd hm1 hm2
      generalize (grp n).length = g at *
      go_enter Tryd.func17, Tryd.ntmps17
      go_wp2_with (go_at_call 44; refine (read_any s hs _).mono ?_; rw [hur]; rintro e w' ⟨rfl, rfl⟩)
      go_region_with fail
      all_goals go_wp2
      all_goals refine bodyPost_ret (v := .tuple #[.agg #[.int .i64 4, .int .i64 0, .string (s.extract g (g + n)), .slice none 0 0], .string (s.extract (g + n) s.size), .bool true]) (by simp [results, Tryd.results17, go_sem]) rfl ?_
      all_goals rw [HG.out]
      all_goals simp only
      all_goals rw [← H1.out]
      all_goals exact ⟨⟨_, _, rfl, H2.out, Bools.nil _⟩, (three_boxes _ _ _ _).drew⟩
    · have HG : Hid (RS.text aF N ⟨s.data.toList, none⟩ = ([], ⟨s.data.toList, some (nmText, aF)⟩)) := by
        show _ = _
        simp only [RS.text, hu]; rw [if_neg hok]; rfl
      by_cases hneg : N < 0
      · clear hu hs1 hs2 htl hpos ht hm1 hm2 hwl hok
        generalize (grp n).length = g at *
        go_enter Tryd.func17, Tryd.ntmps17
        go_wp2_with (go_at_call 44; refine (read_any s hs _).mono ?_; rw [hur]; rintro e w' ⟨rfl, rfl⟩)
        all_goals refine bodyPost_ret (v := .tuple #[.agg #[.int .i64 4, .int .i64 0, .string ⟨#[]⟩, .slice none 0 0], .string s, .bool false]) (by simp [results, Tryd.results17, go_sem]) rfl ?_
        all_goals rw [HG.out]
        all_goals exact ⟨⟨_, _, rfl, rfl, Bools.nil _⟩, three_boxes _ _ _ _⟩
      · have hwm : IntKind.u64.wrap N = N := by rw [IntKind.wrap_u64]; omega
        by_cases hbig : N < (n : Int)
        · clear hu hs1 hs2 htl hpos ht hm1 hm2 hwl hok
          generalize (grp n).length = g at *
          go_enter Tryd.func17, Tryd.ntmps17
          go_wp2_with (go_at_call 44; refine (read_any s hs _).mono ?_; rw [hur]; rintro e w' ⟨rfl, rfl⟩)
          all_goals refine bodyPost_ret (v := .tuple #[.agg #[.int .i64 4, .int .i64 0, .string ⟨#[]⟩, .slice none 0 0], .string s, .bool false]) (by simp [results, Tryd.results17, go_sem]) rfl ?_
          all_goals rw [HG.out]
          all_goals exact ⟨⟨_, _, rfl, rfl, Bools.nil _⟩, three_boxes _ _ _ _⟩
        · have hlong2 : (t.length : Int) < (n : Int) := by omega
          clear hu hs1 hs2 htl hpos ht hm1 hm2 hok
          generalize (grp n).length = g at *
          go_enter Tryd.func17, Tryd.ntmps17
          go_wp2_with (go_at_call 44; refine (read_any s hs _).mono ?_; rw [hur]; rintro e w' ⟨rfl, rfl⟩)
          all_goals refine bodyPost_ret (v := .tuple #[.agg #[.int .i64 4, .int .i64 0, .string ⟨#[]⟩, .slice none 0 0], .string s, .bool false]) (by simp [results, Tryd.results17, go_sem]) rfl ?_
          all_goals rw [HG.out]
          all_goals exact ⟨⟨_, _, rfl, rfl, Bools.nil _⟩, three_boxes _ _ _ _⟩
end Go.Proofs.YthngdaeiopgigaaDoor
