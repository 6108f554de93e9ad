/- grown: the walk. -/
import Derived.Test.YthmiacpaefjanaaDoorTb
namespace Go.Proofs.YthmiacpaefjanaaDoor
open Go.RowKit Go.Shelf
/-- How the second loop of grown stands. -/
def GrB (Ad : Nat → Addr) (ts : List Twg) (n : Nat) (z : Int) (v : Value) (W : World) : Prop := ∃ t q us, v = .iface t q ∧ Chn Ad W.heap.size W us.length v (us, n) ∧ us = ways (ts.drop (z + 1).toNat)
set_option maxHeartbeats 4000000 in
set_option maxRecDepth 100000 in
theorem grown_any (Ad : Nat → Addr) (w : World) (v : Value) (ts : List Twg) (hE : Env w Ad) (h : TwRow w v ts) (hl : ts.length ≤ 12) :
    Calls Tryd.prog 27 #[v] w fun e w' => ∃ v', e = .returned v' ∧ Top Ad w'.heap.size w' 12 v' (leafOf ts) ∧ Below w.heap.size w w' := by
  have HW := hid h
  obtain ⟨a, c, rfl, h1⟩ := h
  have H1 := hid h1
  have HE := hid hE
  have hli : (ts.length : Int) ≤ 12 := by omega
  clear h1 hE
  go_enter Tryd.func27, Tryd.ntmps27
  go_wp2_with fail
  go_loopw [3, 4, 5] (fun e f i wr => ∃ k : Nat, k ≤ ts.length ∧ Below w.heap.size w wr ∧ (∀ x ∈ ts.take k, isEnd x = false) ∧ ((e = .nilIface ∧ f = .int .i64 (ts.length : Int) ∧ i = .int .i64 (k : Int)) ∨ ∃ t, ts[k]? = some t ∧ isEnd t = true ∧ 1 ≤ t.n ∧ t.n ≤ 18 ∧ e = .iface 80 (.pointer (some (Ad t.n.toNat))) ∧ f = .int .i64 (k : Int) ∧ i = .int .i64 ((k : Int) + 1))) (fun _ _ i _ => 14 - (intOf i).toNat)
  case atStart => exact ⟨0, Nat.zero_le _, Below.refl _ _, by simp, .inl ⟨rfl, rfl, rfl⟩⟩
  case round =>
    obtain ⟨k, hk, hb, hno, hcase⟩ := hrel
    have HB := hid hb
    have HN := hid hno
    clear hb hno
    have hki0 : (k : Int) ≤ ts.length := by omega
    rcases hcase with ⟨rfl, rfl, rfl⟩ | ⟨t, ht, hend, hn1, hn2, rfl, rfl, rfl⟩
    · by_cases hlt : k < ts.length
      · have hki : (k : Int) < (ts.length : Int) := by omega
        obtain ⟨t, ht⟩ := at_lt ts k hlt
        have HT := hid (take_next ht)
        have HG := hid ht
        obtain ⟨b, o, rfl, hc⟩ : ∃ b o, a = some ⟨b, o, none⟩ ∧ Cells3 w b o ts := by
          rcases H1.out with h | h
          · rw [h] at hlt; simp at hlt
          · exact h
        obtain ⟨c0, c1, c2⟩ := hc k t ht
        have c0 := Below.seen HB.out (Nat.le_refl _) c0
        have c2 := Below.seen HB.out (Nat.le_refl _) c2
        clear hc ht c1
        by_cases hk2 : t.k = 2
        · have q1 : (t.k == 2) = true := by simp [hk2]
          by_cases hz : t.n = 0
          · have q2 : (t.n != 0) = false := by simp [hz]
            have HM : Hid (∀ x ∈ ts.take (k + 1), isEnd x = false) := by
              show ∀ x ∈ ts.take (k + 1), _
              rw [HT.out]
              intro x hx
              rcases List.mem_append.1 hx with hx | hx
              · exact HN.out x hx
              · simp at hx; subst hx; simp [isEnd, hz]
            go_wp2_with fail
            go_roundw
            case rel => exact ⟨k + 1, by omega, HB.out, HM.out, .inl ⟨rfl, rfl, by go_num⟩⟩
            case measure => simp [intOf]; omega
          · have q2 : (t.n != 0) = true := by simp [hz]
            have HD : Hid (isEnd t = true) := by show _ = _; simp [isEnd, hk2, hz]
            by_cases hin : 1 ≤ t.n ∧ t.n ≤ 18
            · obtain ⟨n, hn⟩ := Int.eq_ofNat_of_zero_le (show 0 ≤ t.n by omega)
              have OC := hid (of_num wr Ad (HE.out.later HB.out) n (by omega) (by omega))
              rw [← hn] at OC
              have hnn : Hid (n = t.n.toNat) := by show _ = _; omega
              clear hn
              go_wp2_with fail
              refine OC.out.mono ?_
              rintro e w2 ⟨rfl, hb2⟩
              have B2 := hid (HB.out.trans (hb2.mono HB.out.size))
              clear hb2 OC
              go_wp2_with fail
              go_roundw
              case rel => exact ⟨k, by omega, B2.out, HN.out, .inr ⟨t, HG.out, HD.out, hin.1, hin.2, by rw [hnn.out], rfl, by go_num⟩⟩
              case measure => simp [intOf]; omega
            · have HL : Hid (leafOf ts = []) := by show _ = _; rw [leafOf_some HG.out HD.out HN.out, if_neg hin]
              have OC := hid (of_out t.n hin wr)
              clear hin
              go_wp2_with fail
              refine OC.out.mono ?_
              rintro e w2 ⟨rfl, rfl⟩
              go_wp2_with fail
              go_ret
              exact ⟨_, rfl, by rw [HL.out]; exact .empty, HB.out⟩
        · have q1 : (t.k == 2) = false := by simp [hk2]
          have HM : Hid (∀ x ∈ ts.take (k + 1), isEnd x = false) := by
            show ∀ x ∈ ts.take (k + 1), _
            rw [HT.out]
            intro x hx
            rcases List.mem_append.1 hx with hx | hx
            · exact HN.out x hx
            · simp at hx; subst hx; simp [isEnd, hk2]
          go_wp2_with fail
          go_roundw
          case rel => exact ⟨k + 1, by omega, HB.out, HM.out, .inl ⟨rfl, rfl, by go_num⟩⟩
          case measure => simp [intOf]; omega
      · have hki : ¬ ((k : Int) < (ts.length : Int)) := by omega
        have HL : Hid (leafOf ts = []) := leafOf_none fun t ht => HN.out t (by rw [List.take_of_length_le (by omega)]; exact ht)
        go_wp2_with fail
        go_loopw [3, 6] (fun e i wq => ∃ z : Int, -1 ≤ z ∧ z < ts.length ∧ e = .nilIface ∧ i = .int .i64 z ∧ wq = wr) (fun _ i _ => (intOf i + 1).toNat)
        case atStart => exact ⟨(ts.length : Int) - 1, by omega, by omega, rfl, rfl, rfl⟩
        case round =>
          obtain ⟨z, hz1, hz2, rfl, rfl, rfl⟩ := hrel
          by_cases hz : 0 ≤ z
          · obtain ⟨m, rfl⟩ := Int.eq_ofNat_of_zero_le hz
            have hm : m < ts.length := by omega
            obtain ⟨t, ht⟩ := at_lt ts m hm
            obtain ⟨b, o, rfl, hc⟩ : ∃ b o, a = some ⟨b, o, none⟩ ∧ Cells3 w b o ts := by
              rcases H1.out with h | h
              · rw [h] at hm; simp at hm
              · exact h
            obtain ⟨c0, c1, c2⟩ := hc m t ht
            have c0 := Below.seen HB.out (Nat.le_refl _) c0
            have c1 := Below.seen HB.out (Nat.le_refl _) c1
            clear hc ht c2
            by_cases h1 : t.k = 1
            · have q1 : (t.k == 1) = true := by simp [h1]
              go_wp2_with fail
              refine (at_nil _ _).mono ?_
              rintro e w2 ⟨rfl, rfl⟩
              go_wp2_with fail
              go_roundw
              case rel => exact ⟨(m : Int) - 1, by omega, by omega, rfl, rfl, by trivial⟩
              case measure => simp [intOf]
            · have q1 : (t.k == 1) = false := by simp [h1]
              go_wp2_with fail
              go_roundw
              case rel => exact ⟨(m : Int) - 1, by omega, by omega, rfl, rfl, by trivial⟩
              case measure => simp [intOf]
          · go_wp2_with fail
            go_ret
            exact ⟨_, rfl, by rw [HL.out]; exact .empty, HB.out⟩
    · have HL : Hid (leafOf ts = [(ways (ts.take k), t.n.toNat)]) := by show _ = _; rw [leafOf_some ht hend HN.out, if_pos ⟨hn1, hn2⟩]
      have hk12 : k < ts.length := (List.getElem?_eq_some_iff.1 ht).1
      obtain ⟨n, hn⟩ : ∃ n : Nat, n = t.n.toNat := ⟨_, rfl⟩
      have hn18 : 1 ≤ n ∧ n ≤ 18 := by omega
      rw [← hn] at HL ⊢
      have HK := hid hn18
      clear ht hend hn1 hn2 hn hn18
      have hk12i : (k : Int) < (ts.length : Int) := by omega
      by_cases hlt : (k : Int) + 1 < (ts.length : Int)
      all_goals
        go_wp2_with fail
        go_loopw [3, 6] (fun e i wq => ∃ z : Int, -1 ≤ z ∧ z < (k : Int) ∧ i = .int .i64 z ∧ GrB Ad (ts.take k) n z e wq ∧ Below w.heap.size w wq) (fun _ i _ => (intOf i + 1).toNat)
        case atStart =>
          refine ⟨(k : Int) - 1, by omega, by omega, rfl, ⟨_, _, [], rfl, ⟨rfl, HK.out.1, HK.out.2, by simp⟩, ?_⟩, HB.out⟩
          rw [show ((k : Int) - 1 + 1).toNat = k by omega, List.drop_of_length_le (by rw [List.length_take]; omega)]
          rfl
        case round =>
          obtain ⟨z, hz1, hz2, rfl, ⟨te, qe, us, rfl, hch, hus⟩, hb⟩ := hrel
          have HC := hid hch
          have HU := hid hus
          have HB2 := hid hb
          clear hch hus hb
          by_cases hz : 0 ≤ z
          · obtain ⟨m, rfl⟩ := Int.eq_ofNat_of_zero_le hz
            have hm : m < ts.length := by omega
            obtain ⟨t', ht'⟩ := at_lt ts m hm
            obtain ⟨b, o, rfl, hc⟩ : ∃ b o, a = some ⟨b, o, none⟩ ∧ Cells3 w b o ts := by
              rcases H1.out with h | h
              · rw [h] at hm; simp at hm
              · exact h
            obtain ⟨c0, c1, c2⟩ := hc m t' ht'
            have c0 := Below.seen HB2.out (Nat.le_refl _) c0
            have c1 := Below.seen HB2.out (Nat.le_refl _) c1
            have hmk : m < k := by omega
            have WS := hid (ways_step (ts := ts.take k) (m := m) (t := t') (by rw [List.getElem?_take]; simp [hmk, ht']))
            have e1 : Hid (((m : Int) + 1).toNat = m + 1) := by show _ = _; omega
            have e2 : Hid (((m : Int) - 1 + 1).toNat = m) := by show _ = _; omega
            clear hc ht' c2
            by_cases h1 : t'.k = 1
            · have q1 : (t'.k == 1) = true := by simp [h1]
              have AC := hid (at_chain Ad t'.s us.length (.iface te qe) (us, n) _ HC.out)
              go_wp2_with fail
              refine AC.out.mono ?_
              rintro e w2 ⟨v2, rfl, ch2, hb2⟩
              have C2 := hid ch2
              have B2 := hid (HB2.out.trans (hb2.mono HB2.out.size))
              obtain ⟨t2, q2, rfl, -⟩ := ch2.1.shape
              clear ch2 hb2 AC
              go_wp2_with fail
              go_roundw
              case rel =>
                refine ⟨(m : Int) - 1, by omega, by omega, rfl, ⟨_, _, t'.s :: us, rfl, C2.out, ?_⟩, B2.out⟩
                rw [e2.out, WS.out, q1, HU.out, e1.out]; rfl
              case measure => simp [intOf]
            · have q1 : (t'.k == 1) = false := by simp [h1]
              go_wp2_with fail
              go_roundw
              case rel =>
                refine ⟨(m : Int) - 1, by omega, by omega, rfl, ⟨_, _, us, rfl, HC.out, ?_⟩, HB2.out⟩
                rw [e2.out, WS.out, q1, HU.out, e1.out]; rfl
              case measure => simp [intOf]
          · have RU : Hid (us = ways (ts.take k)) := by
              show _ = _
              rw [HU.out, show (z + 1).toNat = 0 by omega]; rfl
            have RL : Hid (us.length ≤ 12) := by
              show _ ≤ _
              rw [RU.out]
              refine Nat.le_trans (ways_len _) ?_
              rw [List.length_take]; omega
            go_wp2_with fail
            go_ret
            refine ⟨_, rfl, ?_, HB2.out⟩
            rw [HL.out, ← RU.out]
            exact .one _ _ (HC.out.mono RL.out)
end Go.Proofs.YthmiacpaefjanaaDoor
