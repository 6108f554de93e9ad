/- The reference's Leaves: the walk. -/
import Derived.Test.YthmiacpaefjanaaDoorRb
namespace Go.Proofs.YthmiacpaefjanaaDoor
open Go.RowKit Go.Shelf
/-- How the inner loop stands: the way so far, and the number. -/
def Mid (ts : List Twg) (P : ByteArray) (n k : Value) : Prop := ∃ j, j ≤ ts.length ∧ (∀ x ∈ ts.take j, isEnd x = false) ∧ P = joinB (ways (ts.take j)) ∧
  ((n = .int .i64 0 ∧ k = .int .i64 (j : Int)) ∨ ∃ t, ts[j]? = some t ∧ isEnd t = true ∧ n = .int .i64 t.n ∧ k = .int .i64 ((j : Int) + 1))
theorem Mid.skip {ts : List Twg} {P : ByteArray} {j : Nat} {t : Twg} (ht : ts[j]? = some t) (hno : ∀ x ∈ ts.take j, isEnd x = false) (hP : P = joinB (ways (ts.take j))) (h1 : (t.k == 1) = false) (h : isEnd t = false) : Mid ts P (.int .i64 0) (.int .i64 ((j : Int) + 1)) := by
  have hj := (List.getElem?_eq_some_iff.1 ht).1
  refine ⟨j + 1, hj, fun x hx => ?_, ?_, .inl ⟨rfl, by simp⟩⟩
  · rw [take_next ht] at hx
    rcases List.mem_append.1 hx with hx | hx
    · exact hno x hx
    · simp at hx; rw [hx]; exact h
  · rw [hP, ways_next ht, h1]; simp
theorem Mid.stop {ts : List Twg} {P : ByteArray} {j : Nat} {t : Twg} (ht : ts[j]? = some t) (hno : ∀ x ∈ ts.take j, isEnd x = false) (hP : P = joinB (ways (ts.take j))) (h : isEnd t = true) : Mid ts P (.int .i64 t.n) (.int .i64 ((j : Int) + 1)) :=
  ⟨j, Nat.le_of_lt (List.getElem?_eq_some_iff.1 ht).1, hno, hP, .inr ⟨t, ht, h, rfl, rfl⟩⟩
theorem Mid.way {ts : List Twg} {P Q : ByteArray} {j : Nat} {t : Twg} (ht : ts[j]? = some t) (hno : ∀ x ∈ ts.take j, isEnd x = false) (hP : P = joinB (ways (ts.take j))) (h1 : (t.k == 1) = true) (b : Bool) (hb : b = decide (ways (ts.take j) ≠ [])) (hQ : Q = (if b then P ++ ⟨#[47]⟩ else P) ++ t.s) : Mid ts Q (.int .i64 0) (.int .i64 ((j : Int) + 1)) := by
  have hj := (List.getElem?_eq_some_iff.1 ht).1
  refine ⟨j + 1, hj, fun x hx => ?_, ?_, .inl ⟨rfl, by simp⟩⟩
  · rw [take_next ht] at hx
    rcases List.mem_append.1 hx with hx | hx
    · exact hno x hx
    · simp at hx; rw [hx]; unfold isEnd; rw [show t.k = 1 by simpa using h1]; rfl
  · rw [hQ, ways_next ht, h1, hP]
    by_cases hw : ways (ts.take j) = []
    · rw [hb, hw, joinB_nil]
      simp only [ne_eq, not_true_eq_false, decide_false, Bool.false_eq_true, if_false, if_true, List.nil_append, joinB_one]
      apply ByteArray.ext; simp
    · rw [hb, if_pos rfl, joinB_snoc _ _ hw, if_pos (by simpa using hw)]
theorem none_list : (⟨#[]⟩ : ByteArray).toList = [] := by
  unfold ByteArray.toList ByteArray.toList.loop
  rfl
def capV (v : Value) : Prop := ∀ a n c, v = .slice a n c → n ≤ c
set_option maxHeartbeats 4000000 in
set_option maxRecDepth 100000 in
theorem refleaves_any (w : World) (v : Value) (rs : List (Value × List Twg)) (h : Rows2 w v rs) (hs : SmallR rs) (hcap : ∀ r ∈ rs, capV r.1) :
    Calls Tryd.prog 11 #[v] w fun e w' => ∃ lv, e = .returned lv ∧ w'.ownsRow w.heap.size 36 2 lv (leaves2 rs).length (leafCells (leaves2 rs)) ∧ Below w.heap.size w w' := by
  have HR := hid h
  have HS := hid hs
  have HC := hid hcap
  obtain ⟨⟨a, c, rfl, h1⟩, h2⟩ := h
  have H1 := hid h1
  have H2 := hid h2
  have h20 : rs.length ≤ 20 := hs.1
  have h20i : (rs.length : Int) ≤ 20 := by omega
  clear h1 h2 hs hcap
  go_enter Tryd.func11, Tryd.ntmps11
  go_wp2_with fail
  go_loopw [3, 4, 5, 6, 7, 8] (fun o i _ _ _ _ wr => ∃ m : Nat, m ≤ rs.length ∧ i = .int .i64 (m : Int) ∧ Hid (wr.ownsRow w.heap.size 36 2 o (leaves2 (rs.take m)).length (leafCells (leaves2 (rs.take m)))) ∧ Below w.heap.size w wr) (fun _ i _ _ _ _ _ => rs.length - (intOf i).toNat)
  case atStart =>
    exact ⟨0, Nat.zero_le _, rfl, World.ownsRow_lit w #[] 0 (Nat.le_refl _) (by simp [maxLen]) rfl, (Below.refl _ _).alloc (Nat.le_refl _) _⟩
  case round =>
    rename World => wo
    obtain ⟨m, hm, rfl, HO, hb⟩ := hrel
    have HB := hid hb
    clear hb
    by_cases hlt : m < rs.length
    · have hki : (m : Int) < (rs.length : Int) := by omega
      obtain ⟨r, hr⟩ := at_lt rs m hlt
      obtain ⟨b, o, rfl, hc⟩ : ∃ b o, a = some ⟨b, o, none⟩ ∧ ∀ (j : Nat) r, rs[j]? = some r → w.cell? ⟨b, o + j, none⟩ = some r.1 := by
        rcases H1.out with h | h
        · rw [h] at hlt; simp at hlt
        · exact h
      have LN := hid (leaves2_next (take_next hr))
      have hmem : r ∈ rs := List.mem_of_getElem? hr
      have c0 := Below.seen HB.out (Nat.le_refl _) (hc m r hr)
      have TW := hid ((H2.out r hmem).later HB.out)
      have ST := hid (HS.out.2 r hmem)
      have CV := hid (HC.out r hmem)
      obtain ⟨a', c', hv', hlay⟩ := TW.out
      have CL : Hid (r.2.length ≤ c') := CV.out _ _ _ hv'
      have HL := hid hlay
      rw [hv'] at c0
      obtain ⟨ts, hts⟩ : ∃ ts, ts = r.2 := ⟨_, rfl⟩
      rw [← hts] at c0 CL HL LN ST
      have hl12 : ts.length ≤ 12 := ST.out.1
      have hl12i : (ts.length : Int) ≤ 12 := by omega
      clear hc hr TW CV hv' hlay hts
      go_wp2_with fail
      go_loopw [5, 6, 7, 8] (fun p n k _ wi => ∃ P : ByteArray, p = .string P ∧ Hid (Mid ts P n k) ∧ Hid (Below wo.heap.size wo wi)) (fun _ _ k _ _ => 14 - (intOf k).toNat)
      case atStart => exact ⟨_, rfl, ⟨0, Nat.zero_le _, by simp, by rw [List.take_zero]; exact joinB_nil.symm, .inl ⟨rfl, rfl⟩⟩, Below.refl _ _⟩
      case round =>
        obtain ⟨P, rfl, HM, HI⟩ := hrel
        obtain ⟨j, hj, hno, hP, hcase⟩ := HM.out
        have HN := hid hno
        have HP := hid hP
        clear hno hP HM
        have c0 := Below.seen HI.out (Nat.le_refl _) c0
        have hji0 : (j : Int) ≤ ts.length := by omega
        rcases hcase with ⟨rfl, rfl⟩ | ⟨t, ht, hend, rfl, rfl⟩
        · by_cases hjl : j < ts.length
          · have hjl' : (j : Int) < (ts.length : Int) := by omega
            obtain ⟨t, ht⟩ := at_lt ts j hjl
            obtain ⟨b', o', rfl, hc3⟩ : ∃ b o, a' = some ⟨b, o, none⟩ ∧ Cells3 wo b o ts := by
              rcases HL.out with h | h
              · rw [h] at hjl; simp at hjl
              · exact h
            obtain ⟨t0, t1, t2⟩ := hc3 j t ht
            have t0 := Below.seen HI.out (Nat.le_refl _) t0
            have t1 := Below.seen HI.out (Nat.le_refl _) t1
            have t2 := Below.seen HI.out (Nat.le_refl _) t2
            have HT := hid ht
            have HT3 := hid hc3
            clear ht hc3
            have WN := hid (ways_next HT.out)
            have TN := hid (take_next HT.out)
            by_cases hk1 : t.k = 1
            · have q1 : (t.k == 1) = true := by simp [hk1]
              have hPs : P.size ≤ 100000 := by rw [HP.out]; exact ways_small ST.out j
              have htS : t.s.size ≤ 100 := ST.out.2 t (List.mem_of_getElem? HT.out)
              have hPi : (P.size : Int) ≤ 100000 := by omega
              have htSi : (t.s.size : Int) ≤ 100 := by omega
              by_cases hPe : P.toList = []
              · by_cases hj0 : j = 0
                · have hj1 : ¬ ((0 : Int) < (j : Int)) := by omega
                  have HX : Hid (Mid ts (P ++ t.s) (.int .i64 0) (.int .i64 ((j : Int) + 1))) := Mid.way HT.out HN.out HP.out q1 false (by rw [hj0]; rfl) rfl
                  clear hj0
                  go_wp2_with fail
                  go_roundw
                  case rel => exact ⟨_, rfl, HX.out, HI.out.alloc HI.out.size _⟩
                  case measure => simp [intOf]; omega
                · have hj1 : (0 : Int) < (j : Int) := by omega
                  have hcj : (j : Int) ≤ (c' : Int) := by have := CL.out; omega
                  have hcj0 : (0 : Int) ≤ (j : Int) := by omega
                  clear hj0
                  have hbl : b < wr.heap.size := World.block_lt_of_cell? wr _ c0
                  have hbn : ¬ (b = wr.heap.size) := by omega
                  have BA := hid (HI.out.alloc HI.out.size (.cells #[.int .i64 1, .string t.s, .int .i64 t.n] 63))
                  have TC := hid (fun c'' => blamed_any (wr.alloc (.cells #[.int .i64 1, .string t.s, .int .i64 t.n] 63)) _ _ ((TwRow.cut (c := c'') HT3.out j (by omega)).later BA.out) (by rw [List.length_take]; omega))
                  go_wp2_with fail
                  refine (TC.out _).mono ?_
                  rintro e w3 ⟨rfl, rfl⟩
                  rw [ways_any]
                  by_cases hw : ways (ts.take j) = []
                  · have HX : Hid (Mid ts (P ++ t.s) (.int .i64 0) (.int .i64 ((j : Int) + 1))) := Mid.way HT.out HN.out HP.out q1 false (by simp [hw]) rfl
                    have hd : decide (ways (ts.take j) ≠ []) = false := by simp [hw]
                    rw [hd]
                    clear hd hw
                    go_wp2_with fail
                    go_roundw
                    case rel => exact ⟨_, rfl, HX.out, BA.out⟩
                    case measure => simp [intOf]; omega
                  · have HX : Hid (Mid ts (P ++ ⟨#[47]⟩ ++ t.s) (.int .i64 0) (.int .i64 ((j : Int) + 1))) := Mid.way HT.out HN.out HP.out q1 true (by simp [hw]) rfl
                    have hd : decide (ways (ts.take j) ≠ []) = true := by simp [hw]
                    rw [hd]
                    clear hd hw
                    go_wp2_with fail
                    go_roundw
                    case rel => exact ⟨_, rfl, HX.out, BA.out⟩
                    case measure => simp [intOf]; omega
              · have HX : Hid (Mid ts (P ++ ⟨#[47]⟩ ++ t.s) (.int .i64 0) (.int .i64 ((j : Int) + 1))) := Mid.way HT.out HN.out HP.out q1 true (by
                  symm
                  apply decide_eq_true
                  intro hw
                  apply hPe
                  rw [HP.out, hw, joinB_nil]
                  exact none_list) rfl
                go_wp2_with fail
                go_roundw
                case rel => exact ⟨_, rfl, HX.out, HI.out.alloc HI.out.size _⟩
                case measure => simp [intOf]; omega
            · have q1 : (t.k == 1) = false := by simp [hk1]
              rw [q1] at WN
              by_cases hk2 : t.k = 2
              · have q2 : (t.k == 2) = true := by simp [hk2]
                have HX : Hid (Mid ts P (.int .i64 t.n) (.int .i64 ((j : Int) + 1))) := by
                  by_cases hz : t.n = 0
                  · rw [hz]; exact Mid.skip HT.out HN.out HP.out q1 (by simp [isEnd, hz])
                  · exact Mid.stop HT.out HN.out HP.out (by simp [isEnd, hk2, hz])
                go_wp2_with fail
                go_roundw
                case rel => exact ⟨P, rfl, HX.out, HI.out.alloc HI.out.size _⟩
                case measure => simp [intOf]; omega
              · have q2 : (t.k == 2) = false := by simp [hk2]
                have HX : Hid (Mid ts P (.int .i64 0) (.int .i64 ((j : Int) + 1))) := Mid.skip HT.out HN.out HP.out q1 (by simp [isEnd, hk2])
                go_wp2_with fail
                go_roundw
                case rel => exact ⟨P, rfl, HX.out, HI.out.alloc HI.out.size _⟩
                case measure => simp [intOf]; omega
          · have hjl' : ¬ ((j : Int) < (ts.length : Int)) := by omega
            have R : Hid (leaves2 (rs.take (m + 1)) = leaves2 (rs.take m)) := by
              show _ = _
              rw [LN.out, leafOf_none (fun x hx => HN.out x (by rw [List.take_of_length_le (by omega)]; exact hx))]; simp
            have KN := hid (known_no 0 wr (by omega))
            go_wp2_with fail
            refine KN.out.mono ?_
            rintro e w2 ⟨rfl, rfl⟩
            go_wp2_with fail
            go_roundw
            case rel => exact ⟨m + 1, by omega, by go_num, by rw [R.out]; exact own_more HO.out HI.out, HB.out.trans (HI.out.mono HB.out.size)⟩
            case measure => simp [intOf]; omega
        · have hnz : (t.n == 0) = false := by
            unfold isEnd at hend
            simp at hend
            simp [hend.2]
          have LO := hid (leafOf_some ht hend HN.out)
          by_cases hin : 1 ≤ t.n ∧ t.n ≤ 18
          · have R : Hid (leaves2 (rs.take (m + 1)) = leaves2 (rs.take m) ++ [(ways (ts.take j), t.n.toNat)]) := by show _ = _; rw [LN.out, LO.out, if_pos hin]
            have KN := hid (known_yes t.n wr hin.1 hin.2)
            have hll : (leaves2 (rs.take m)).length ≤ 1000 := by have := leaves2_len (rs.take m); rw [List.length_take] at this; omega
            have OA := hid ((own_more HO.out HI.out).alloc (.cells #[.string P, .int .i64 t.n] 36))
            obtain ⟨d0, d1⟩ := cell_new2 wr (.string P) (.int .i64 t.n) 36
            have E0 : Hid ((wr.alloc (.cells #[.string P, .int .i64 t.n] 36)).cell? ⟨wr.heap.size, 0, none⟩ = some (.string (joinB (ways (ts.take j), t.n.toNat).1))) := by rw [← HP.out]; exact d0
            have E1 : Hid ((wr.alloc (.cells #[.string P, .int .i64 t.n] 36)).cell? ⟨wr.heap.size, 1, none⟩ = some (.int .i64 (((ways (ts.take j), t.n.toNat).2 : Nat) : Int))) := by
              show _ = _
              rw [d1, show (((ways (ts.take j), t.n.toNat).2 : Nat) : Int) = t.n from Int.toNat_of_nonneg (by omega)]
            have hbs : w.heap.size ≤ (wr.alloc (.cells #[.string P, .int .i64 t.n] 36)).heap.size := Nat.le_trans HB.out.size (Nat.le_trans HI.out.size (by simp))
            have BF := hid ((HB.out.trans (HI.out.mono HB.out.size)).alloc (Nat.le_trans HB.out.size HI.out.size) (.cells #[.string P, .int .i64 t.n] 36))
            clear hin LO ht hend d0 d1
            by_cases hjl : j + 1 < ts.length
            · have hjl' : (j : Int) + 1 < (ts.length : Int) := by omega
              go_wp2_with fail
              refine KN.out.mono ?_
              rintro e w2 ⟨rfl, rfl⟩
              go_wp2_with (at_builtin; refine wpList_leaf _ rfl (.tmp 67) (.tmp 71) rfl w.heap.size _ (leaves2 (rs.take m)) rfl OA.out w2.heap.size (ways (ts.take j), t.n.toNat) rfl E0.out E1.out hll hbs ?_; intro v' w4 ow bw)
              go_roundw
              case rel => exact ⟨m + 1, by omega, by go_num, by rw [R.out]; exact ow.out, BF.out.trans bw.out⟩
              case measure => simp [intOf]; omega
            · have hjl' : ¬ ((j : Int) + 1 < (ts.length : Int)) := by omega
              go_wp2_with fail
              refine KN.out.mono ?_
              rintro e w2 ⟨rfl, rfl⟩
              go_wp2_with (at_builtin; refine wpList_leaf _ rfl (.tmp 67) (.tmp 71) rfl w.heap.size _ (leaves2 (rs.take m)) rfl OA.out w2.heap.size (ways (ts.take j), t.n.toNat) rfl E0.out E1.out hll hbs ?_; intro v' w4 ow bw)
              go_roundw
              case rel => exact ⟨m + 1, by omega, by go_num, by rw [R.out]; exact ow.out, BF.out.trans bw.out⟩
              case measure => simp [intOf]; omega
          · have R : Hid (leaves2 (rs.take (m + 1)) = leaves2 (rs.take m)) := by show _ = _; rw [LN.out, LO.out, if_neg hin]; simp
            have KN := hid (known_no t.n wr hin)
            clear hin LO ht hend
            by_cases hjl : j + 1 < ts.length
            · have hjl' : (j : Int) + 1 < (ts.length : Int) := by omega
              go_wp2_with fail
              refine KN.out.mono ?_
              rintro e w2 ⟨rfl, rfl⟩
              go_wp2_with fail
              go_roundw
              case rel => exact ⟨m + 1, by omega, by go_num, by rw [R.out]; exact own_more HO.out HI.out, HB.out.trans (HI.out.mono HB.out.size)⟩
              case measure => simp [intOf]; omega
            · have hjl' : ¬ ((j : Int) + 1 < (ts.length : Int)) := by omega
              go_wp2_with fail
              refine KN.out.mono ?_
              rintro e w2 ⟨rfl, rfl⟩
              go_wp2_with fail
              go_roundw
              case rel => exact ⟨m + 1, by omega, by go_num, by rw [R.out]; exact own_more HO.out HI.out, HB.out.trans (HI.out.mono HB.out.size)⟩
              case measure => simp [intOf]; omega
    · have hki : ¬ ((m : Int) < (rs.length : Int)) := by omega
      have R : Hid (leaves2 (rs.take m) = leaves2 rs) := by show _ = _; rw [List.take_of_length_le (by omega)]
      go_wp2_with fail
      go_ret
      exact ⟨_, rfl, by rw [← R.out]; exact HO.out, HB.out⟩
end Go.Proofs.YthmiacpaefjanaaDoor
