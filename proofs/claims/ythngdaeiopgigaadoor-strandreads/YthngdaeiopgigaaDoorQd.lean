/- Contract of the reference's Take: a number, a text. -/
import Derived.Test.YthngdaeiopgigaaDoorQc
import Derived.Test.YthngdaeiopgigaaDoorMe
namespace Go.Proofs.YthngdaeiopgigaaDoor
open Go.ChangeShapes Go.WideShapes Go.ChangeAt Go.RowKit
theorem unz_odd {n : Nat} (h : U64 n) (hodd : n % 2 = 1) : wrap64 (wrap64 (-wrap64 (IntKind.u64.wrap ((n : Int) / 2))) - 1) = unzig n := by
  have hn64 : n < 18446744073709551616 := by unfold U64 at h; exact h
  rw [IntKind.wrap_u64, show ((n : Int) / 2) % 18446744073709551616 = (n : Int) / 2 by omega, IntWalk.wrap64_in ((n : Int) / 2) (by omega), IntWalk.wrap64_in (-((n : Int) / 2)) (by omega), IntWalk.wrap64_in (-((n : Int) / 2) - 1) (by omega)]
  unfold unzig; rw [if_pos hodd]; omega
theorem unz_even {n : Nat} (h : U64 n) (hodd : ¬ n % 2 = 1) : wrap64 (IntKind.u64.wrap ((n : Int) / 2)) = unzig n := by
  have hn64 : n < 18446744073709551616 := by unfold U64 at h; exact h
  rw [IntKind.wrap_u64, show ((n : Int) / 2) % 18446744073709551616 = (n : Int) / 2 by omega, IntWalk.wrap64_in ((n : Int) / 2) (by omega)]
  unfold unzig; rw [if_neg hodd]; omega
theorem num_some {s : ByteArray} {n : Nat} {t : List UInt8} {aF : Addr} {l : List UInt8} (h : U64 n) (hu : ung l = some (n, t)) : RS.number s aF 18446744073709551615 ⟨l, none⟩ = (n, ⟨t, none⟩) := by
  have hn64 : n < 18446744073709551616 := by unfold U64 at h; exact h
  simp only [RS.number, hu]; rw [if_pos (by omega)]
theorem get3 (N : Int) (text : ByteArray) (fl : List Bool) (aF : Addr) (st : RS) : RS.get aF ⟨3, N, text, fl⟩ st = (⟨3, unzig (st.number nmNum aF 18446744073709551615).1, ⟨#[]⟩, []⟩, (st.number nmNum aF 18446744073709551615).2) := rfl
set_option maxHeartbeats 1600000 in
set_option maxRecDepth 100000 in
theorem take3 (s : ByteArray) (N : Int) (text : ByteArray) (fl : List Bool) (fa : Option Addr) (fc : Nat) (hs : s.size ≤ 10000000) (aF : Addr) (w : World) :
    Calls Tryd.prog 17 #[.string s, .agg #[.int .i64 3, .int .i64 N, .string text, .slice fa fl.length fc]] w fun e w' => Took w (RS.get aF ⟨3, N, text, fl⟩ ⟨s.data.toList, none⟩) e w' := by
  rw [get3]
  cases hu : ung s.data.toList with
  | none =>
    have hur := ungR_eq_none hu
    have HG : Hid (RS.number nmNum aF 18446744073709551615 ⟨s.data.toList, none⟩ = (0, ⟨s.data.toList, some (nmNum, aF)⟩)) := by
      show _ = _
      simp [RS.number, hu, RS.fail]
    clear hu
    go_enter Tryd.func17, Tryd.ntmps17
    go_wp2_with (go_at_call 44; refine (read_any s hs _).mono ?_; rw [hur]; rintro e w' ⟨rfl, rfl⟩)
    refine bodyPost_ret (v := .tuple #[.agg #[.int .i64 3, .int .i64 0, .string ⟨#[]⟩, .slice none 0 0], .string s, .bool false]) (by simp [results, Tryd.results17, go_sem]) rfl ?_
    rw [HG.out, unz0]
    exact ⟨⟨_, _, rfl, rfl, Bools.nil _⟩, three_boxes _ _ _ _⟩
  | some q =>
    obtain ⟨n, t⟩ := q
    have hur := ungR_eq_some hu
    obtain ⟨hs1, hs2⟩ := ung_sound hu
    have hpos := grp_pos n
    have hlen := grp_len10 hs2
    have htl : s.size = (grp n).length + t.length := by
      have := congrArg List.length hs1
      simpa using this
    have hk : ((grp n).length : Int) ≤ s.size := by omega
    have HT : Hid ((s.extract (grp n).length s.size).data.toList = t) := by show _ = _; rw [extract_rest]; exact drop_grp hs1
    have hz : (((grp n).length : Int) == 0) = false := beq_eq_false_iff_ne.2 (by omega)
    have HG := hid (num_some (s := nmNum) (aF := aF) hs2 hu)
    by_cases hodd : n % 2 = 1
    · have hb : ((n : Int) % 2 == 1) = true := beq_iff_eq.2 (by omega)
      have HV := hid (unz_odd hs2 hodd)
      obtain ⟨z, hzz⟩ : ∃ z, unzig n = z := ⟨_, rfl⟩
      rw [hzz] at HV
      have HZ := hid hzz
      clear hu hs1 hs2 htl hpos hodd hzz
      generalize (grp n).length = g at *
      go_enter Tryd.func17, Tryd.ntmps17
      go_wp2_with (go_at_call 44; refine (read_any s hs _).mono ?_; rw [hur]; rintro e w' ⟨rfl, rfl⟩)
      rw [HV.out]
      clear HV
      go_region_with fail
      all_goals go_wp2
      all_goals refine bodyPost_ret (v := .tuple #[.agg #[.int .i64 3, .int .i64 z, .string ⟨#[]⟩, .slice none 0 0], .string (s.extract g s.size), .bool true]) (by simp [results, Tryd.results17, go_sem]) rfl ?_
      all_goals rw [HG.out]
      all_goals simp only
      all_goals rw [HZ.out]
      all_goals exact ⟨⟨_, _, rfl, HT.out, Bools.nil _⟩, (three_boxes _ _ _ _).drew⟩
    · have hb : ((n : Int) % 2 == 1) = false := beq_eq_false_iff_ne.2 (by omega)
      have HV := hid (unz_even hs2 hodd)
      obtain ⟨z, hzz⟩ : ∃ z, unzig n = z := ⟨_, rfl⟩
      rw [hzz] at HV
      have HZ := hid hzz
      clear hu hs1 hs2 htl hpos hodd hzz
      generalize (grp n).length = g at *
      go_enter Tryd.func17, Tryd.ntmps17
      go_wp2_with (go_at_call 44; refine (read_any s hs _).mono ?_; rw [hur]; rintro e w' ⟨rfl, rfl⟩)
      rw [HV.out]
      clear HV
      go_region_with fail
      all_goals go_wp2
      all_goals refine bodyPost_ret (v := .tuple #[.agg #[.int .i64 3, .int .i64 z, .string ⟨#[]⟩, .slice none 0 0], .string (s.extract g s.size), .bool true]) (by simp [results, Tryd.results17, go_sem]) rfl ?_
      all_goals rw [HG.out]
      all_goals simp only
      all_goals rw [HZ.out]
      all_goals exact ⟨⟨_, _, rfl, HT.out, Bools.nil _⟩, (three_boxes _ _ _ _).drew⟩
theorem get4 (N : Int) (text : ByteArray) (fl : List Bool) (aF : Addr) (st : RS) : RS.get aF ⟨4, N, text, fl⟩ st = (⟨4, 0, ⟨(st.text aF N).1.toArray⟩, []⟩, (st.text aF N).2) := rfl
theorem ba_of (s : ByteArray) (l : List UInt8) (h : s.data.toList = l) : s = ⟨l.toArray⟩ := by
  obtain ⟨d⟩ := s; simp at h; subst h; simp
end Go.Proofs.YthngdaeiopgigaaDoor
