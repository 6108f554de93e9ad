/- Contract of the reference's Take. -/
import Derived.Test.YthngdaeiopgigaaDoorQa
import Derived.Test.YthngdaeiopgigaaDoorRi
import Derived.Test.YthngdaeiopgigaaDoorLa
namespace Go.Proofs.YthngdaeiopgigaaDoor
open Go.ChangeShapes Go.WideShapes Go.ChangeAt Go.RowKit
/-- What Take answers, of what a reader of the same bytes does. -/
def Took (w : World) (g : Itm × RS) (e : Ending) (w' : World) : Prop :=
  (∃ vy t, e = .returned (.tuple #[g.1.val vy, .string t, .bool g.2.err.isNone]) ∧ t.data.toList = g.2.rest ∧ Bools w' vy g.1.fl) ∧ Below w.heap.size w w'
theorem three_boxes (w : World) (a b c : Obj) : Below w.heap.size w (((w.alloc a).alloc b).alloc c) := (((Below.refl _ _).alloc (Nat.le_refl _) _).alloc (by simp) _).alloc (by simp; omega) _
set_option maxHeartbeats 1600000 in
set_option maxRecDepth 100000 in
theorem take1 (s : ByteArray) (N : Int) (text : ByteArray) (fl : List Bool) (fa : Option Addr) (fc : Nat) (hs : s.size ≤ 10000000) (aF : Addr) (w : World) :
    Calls Tryd.prog 17 #[.string s, .agg #[.int .i64 1, .int .i64 N, .string text, .slice fa fl.length fc]] w fun e w' => Took w (RS.get aF ⟨1, N, text, fl⟩ ⟨s.data.toList, none⟩) e w' := by
  by_cases h0 : s.size = 0
  · have HG : Hid (RS.get aF ⟨1, N, text, fl⟩ ⟨s.data.toList, none⟩ = (⟨1, 0, ⟨#[]⟩, []⟩, ⟨s.data.toList, some (nmByte, aF)⟩)) := by
      show _ = _
      rw [show s.data.toList = [] from List.eq_nil_of_length_eq_zero (by simpa using h0)]; rfl
    have hz : ((s.size : Int) == 0) = true := by simp [h0]
    go_enter Tryd.func17, Tryd.ntmps17
    go_wp2
    refine bodyPost_ret (v := .tuple #[.agg #[.int .i64 1, .int .i64 0, .string ⟨#[]⟩, .slice none 0 0], .string s, .bool false]) (by simp [results, Tryd.results17, go_sem]) rfl ?_
    rw [HG.out]
    exact ⟨⟨_, _, rfl, rfl, Bools.nil _⟩, three_boxes _ _ _ _⟩
  · have hz : ((s.size : Int) == 0) = false := beq_eq_false_iff_ne.2 (by omega)
    obtain ⟨c, hd, hsi⟩ := idx_string s 0 (by omega)
    have HG : Hid (RS.get aF ⟨1, N, text, fl⟩ ⟨s.data.toList, none⟩ = (⟨1, c.toNat, ⟨#[]⟩, []⟩, ⟨s.data.toList.drop 1, none⟩)) := by
      show _ = _
      rw [List.drop_zero] at hd
      rw [hd]; rfl
    have hsi0 : ∀ w, (Instr.index 9 (.string s) (.int .i64 0)).run Tryd.prog w = .ok (.int .u8 c.toNat) w := hsi
    have h1 : (1 : Int) ≤ s.size := by omega
    have HX := hid (extract_rest s 1)
    clear hsi
    have hk2 : c.toNat < 256 := c.toNat_lt
    have hwr : IntKind.i64.wrap (c.toNat : Int) = c.toNat := by rw [IntKind.wrap_i64]; omega
    generalize hk : c.toNat = k at *
    clear hk hd
    go_enter Tryd.func17, Tryd.ntmps17
    go_wp2
    go_region_with fail
    all_goals go_wp2
    all_goals refine bodyPost_ret (v := .tuple #[.agg #[.int .i64 1, .int .i64 k, .string ⟨#[]⟩, .slice none 0 0], .string (s.extract 1 s.size), .bool true]) (by simp [results, Tryd.results17, go_sem]) rfl ?_
    all_goals rw [HG.out]
    all_goals refine ⟨⟨_, _, rfl, HX.out, Bools.nil _⟩, ?_⟩
    all_goals exact (three_boxes _ _ _ _).drew
theorem get2 (N : Int) (text : ByteArray) (fl : List Bool) (aF : Addr) (st : RS) : RS.get aF ⟨2, N, text, fl⟩ st = (⟨2, (st.number nmCount aF 9223372036854775807).1, ⟨#[]⟩, []⟩, (st.number nmCount aF 9223372036854775807).2) := rfl
set_option maxHeartbeats 1600000 in
set_option maxRecDepth 100000 in
theorem take2 (s : ByteArray) (N : Int) (text : ByteArray) (fl : List Bool) (fa : Option Addr) (fc : Nat) (hs : s.size ≤ 10000000) (aF : Addr) (w : World) :
    Calls Tryd.prog 17 #[.string s, .agg #[.int .i64 2, .int .i64 N, .string text, .slice fa fl.length fc]] w fun e w' => Took w (RS.get aF ⟨2, N, text, fl⟩ ⟨s.data.toList, none⟩) e w' := by
  rw [get2]
  cases hu : ung s.data.toList with
  | none =>
    have hur := ungR_eq_none hu
    have HG : Hid (RS.number nmCount aF 9223372036854775807 ⟨s.data.toList, none⟩ = (0, ⟨s.data.toList, some (nmCount, aF)⟩)) := by
      show _ = _
      simp [RS.number, hu, RS.fail]
    clear hu
    go_enter Tryd.func17, Tryd.ntmps17
    go_wp2_with (go_at_call 44; refine (read_any s hs _).mono ?_; rw [hur]; rintro e w' ⟨rfl, rfl⟩)
    refine bodyPost_ret (v := .tuple #[.agg #[.int .i64 2, .int .i64 0, .string ⟨#[]⟩, .slice none 0 0], .string s, .bool false]) (by simp [results, Tryd.results17, go_sem]) rfl ?_
    rw [HG.out]
    exact ⟨⟨_, _, rfl, rfl, Bools.nil _⟩, three_boxes _ _ _ _⟩
  | some q =>
    obtain ⟨n, t⟩ := q
    have hur := ungR_eq_some hu
    obtain ⟨hs1, hs2⟩ := ung_sound hu
    have hpos := grp_pos n
    have hlen := grp_len10 hs2
    have htl : s.size = (grp n).length + t.length := by
      have := congrArg List.length hs1
      simpa using this
    have hk : ((grp n).length : Int) ≤ s.size := by omega
    have HT : Hid ((s.extract (grp n).length s.size).data.toList = t) := by show _ = _; rw [extract_rest]; exact drop_grp hs1
    have hz : (((grp n).length : Int) == 0) = false := beq_eq_false_iff_ne.2 (by omega)
    by_cases hm : (n : Int) ≤ 9223372036854775807
    · have HG : Hid (RS.number nmCount aF 9223372036854775807 ⟨s.data.toList, none⟩ = (n, ⟨t, none⟩)) := by
        show _ = _
        simp only [RS.number, hu]; rw [if_pos hm]
      have hw1 : IntKind.i64.wrap (n : Int) = n := by rw [IntKind.wrap_i64]; omega
      have hgt : ¬ (9223372036854775807 < (n : Int)) := by omega
      clear hu hs1 hs2 htl hpos
      generalize (grp n).length = g at *
      go_enter Tryd.func17, Tryd.ntmps17
      go_wp2_with (go_at_call 44; refine (read_any s hs _).mono ?_; rw [hur]; rintro e w' ⟨rfl, rfl⟩)
      go_region_with fail
      all_goals go_wp2
      all_goals refine bodyPost_ret (v := .tuple #[.agg #[.int .i64 2, .int .i64 n, .string ⟨#[]⟩, .slice none 0 0], .string (s.extract g s.size), .bool true]) (by simp [results, Tryd.results17, go_sem]) rfl ?_
      all_goals rw [HG.out]
      all_goals exact ⟨⟨_, _, rfl, HT.out, Bools.nil _⟩, (three_boxes _ _ _ _).drew⟩
    · have HG : Hid (RS.number nmCount aF 9223372036854775807 ⟨s.data.toList, none⟩ = (0, ⟨s.data.toList, some (nmCount, aF)⟩)) := by
        show _ = _
        simp only [RS.number, hu]; rw [if_neg hm]; rfl
      have hgt : 9223372036854775807 < (n : Int) := by omega
      clear hu hs1 hs2 htl hpos
      generalize (grp n).length = g at *
      go_enter Tryd.func17, Tryd.ntmps17
      go_wp2_with (go_at_call 44; refine (read_any s hs _).mono ?_; rw [hur]; rintro e w' ⟨rfl, rfl⟩)
      refine bodyPost_ret (v := .tuple #[.agg #[.int .i64 2, .int .i64 0, .string ⟨#[]⟩, .slice none 0 0], .string s, .bool false]) (by simp [results, Tryd.results17, go_sem]) rfl ?_
      rw [HG.out]
      exact ⟨⟨_, _, rfl, rfl, Bools.nil _⟩, three_boxes _ _ _ _⟩
theorem get5 (N : Int) (text : ByteArray) (fl : List Bool) (aF : Addr) (st : RS) : RS.get aF ⟨5, N, text, fl⟩ st = (⟨5, (st.number nmBits aF 4294967295).1, ⟨#[]⟩, []⟩, (st.number nmBits aF 4294967295).2) := rfl
set_option maxHeartbeats 1600000 in
set_option maxRecDepth 100000 in
theorem take5 (s : ByteArray) (N : Int) (text : ByteArray) (fl : List Bool) (fa : Option Addr) (fc : Nat) (hs : s.size ≤ 10000000) (aF : Addr) (w : World) :
    Calls Tryd.prog 17 #[.string s, .agg #[.int .i64 5, .int .i64 N, .string text, .slice fa fl.length fc]] w fun e w' => Took w (RS.get aF ⟨5, N, text, fl⟩ ⟨s.data.toList, none⟩) e w' := by
  rw [get5]
  cases hu : ung s.data.toList with
  | none =>
    have hur := ungR_eq_none hu
    have HG : Hid (RS.number nmBits aF 4294967295 ⟨s.data.toList, none⟩ = (0, ⟨s.data.toList, some (nmBits, aF)⟩)) := by
      show _ = _
      simp [RS.number, hu, RS.fail]
    clear hu
    go_enter Tryd.func17, Tryd.ntmps17
    go_wp2_with (go_at_call 44; refine (read_any s hs _).mono ?_; rw [hur]; rintro e w' ⟨rfl, rfl⟩)
    refine bodyPost_ret (v := .tuple #[.agg #[.int .i64 5, .int .i64 0, .string ⟨#[]⟩, .slice none 0 0], .string s, .bool false]) (by simp [results, Tryd.results17, go_sem]) rfl ?_
    rw [HG.out]
    exact ⟨⟨_, _, rfl, rfl, Bools.nil _⟩, three_boxes _ _ _ _⟩
  | some q =>
    obtain ⟨n, t⟩ := q
    have hur := ungR_eq_some hu
    obtain ⟨hs1, hs2⟩ := ung_sound hu
    have hpos := grp_pos n
    have hlen := grp_len10 hs2
    have htl : s.size = (grp n).length + t.length := by
      have := congrArg List.length hs1
      simpa using this
    have hk : ((grp n).length : Int) ≤ s.size := by omega
    have HT : Hid ((s.extract (grp n).length s.size).data.toList = t) := by show _ = _; rw [extract_rest]; exact drop_grp hs1
    have hz : (((grp n).length : Int) == 0) = false := beq_eq_false_iff_ne.2 (by omega)
    by_cases hm : (n : Int) ≤ 4294967295
    · have HG : Hid (RS.number nmBits aF 4294967295 ⟨s.data.toList, none⟩ = (n, ⟨t, none⟩)) := by
        show _ = _
        simp only [RS.number, hu]; rw [if_pos hm]
      have hw1 : IntKind.i64.wrap (n : Int) = n := by rw [IntKind.wrap_i64]; omega
      have hgt : ¬ (9223372036854775807 < (n : Int)) := by omega
      have hgt2 : ¬ (4294967295 < (n : Int)) := by omega
      clear hu hs1 hs2 htl hpos
      generalize (grp n).length = g at *
      go_enter Tryd.func17, Tryd.ntmps17
      go_wp2_with (go_at_call 44; refine (read_any s hs _).mono ?_; rw [hur]; rintro e w' ⟨rfl, rfl⟩)
      go_region_with fail
      all_goals go_wp2
      all_goals refine bodyPost_ret (v := .tuple #[.agg #[.int .i64 5, .int .i64 n, .string ⟨#[]⟩, .slice none 0 0], .string (s.extract g s.size), .bool true]) (by simp [results, Tryd.results17, go_sem]) rfl ?_
      all_goals rw [HG.out]
      all_goals exact ⟨⟨_, _, rfl, HT.out, Bools.nil _⟩, (three_boxes _ _ _ _).drew⟩
    · have HG : Hid (RS.number nmBits aF 4294967295 ⟨s.data.toList, none⟩ = (0, ⟨s.data.toList, some (nmBits, aF)⟩)) := by
        show _ = _
        simp only [RS.number, hu]; rw [if_neg hm]; rfl
      have hgt2 : 4294967295 < (n : Int) := by omega
      clear hu hs1 hs2 htl hpos
      generalize (grp n).length = g at *
      go_enter Tryd.func17, Tryd.ntmps17
      go_wp2_with (go_at_call 44; refine (read_any s hs _).mono ?_; rw [hur]; rintro e w' ⟨rfl, rfl⟩)
      all_goals refine bodyPost_ret (v := .tuple #[.agg #[.int .i64 5, .int .i64 0, .string ⟨#[]⟩, .slice none 0 0], .string s, .bool false]) (by simp [results, Tryd.results17, go_sem]) rfl ?_
      all_goals rw [HG.out]
      all_goals exact ⟨⟨_, _, rfl, rfl, Bools.nil _⟩, three_boxes _ _ _ _⟩
end Go.Proofs.YthngdaeiopgigaaDoor
