/- The document's goods: Put, New. -/
import Derived.Test.YtbfjijiakkopeaaDoorGsHb
import Derived.Test.YtbfjijiakkopeaaDoorScCd
namespace Go.Proofs.YtbfjijiakkopeaaDoor.Gs
open Go.RowKit Go.Shelf Go.Maps
open Go.Proofs.YtbfjijiakkopeaaDoor.Sc (Cmp Rsc CmpRow RscRow SmallC SmallQ checkL rcheck_any)
section
variable {B : Nat} {W W' : World} {ub : Nat} {va vb uv : Value} {l : List Int} {n : Nat}
theorem VRow.lrow {S : Nat → Prop} {W : World} {v : Value} {xs : List Int} (h : VRow S W v xs) : LRow W v xs := by
  obtain ⟨a, c, h1, h2⟩ := h
  refine ⟨a, c, h1, h2.imp id ?_⟩
  rintro ⟨b, o, h3, -, h5⟩
  exact ⟨b, o, h3, h5⟩
set_option maxHeartbeats 3200000 in
set_option maxRecDepth 100000 in
theorem rput_ok (h : Ru B W ub va vb uv l n) (hB : B ≤ W.heap.size) (hn : n ≤ 900000) (u : Value) (xs : List Int) (hx : VRow (fun q => q = ub) W u xs) (hl : xs.length = l.length) :
    Calls Tryd.prog 17 #[.pointer (some ⟨ub, 0, none⟩), u] W fun e W' => e = .returned (.int .i64 0) ∧ (∃ uv', Ru B W' ub va vb uv' xs (n + dif l xs l.length) ∧ ∀ q, uv'.ownBlock = some q → W.heap.size ≤ q) ∧ St (fun q => q = ub) W W' := by
  have h8 : l.length ≤ 8 := h.few
  have H := hid h
  have HX := hid hx
  have HL := hid hl
  have HB := hid hB
  obtain ⟨a, c, rfl, -⟩ := hx
  rw [hl] at HX ⊢
  obtain ⟨ua, uc, rfl⟩ := h.slice
  have c2 := h.c2
  have h8i : (l.length : Int) ≤ 8 := by omega
  clear h hl hB
  go_enter Tryd.func17, Tryd.ntmps17
  go_wp2_with fail
  clear c2
  go_loopw [5] (fun i wr => ∃ k : Nat, k ≤ l.length ∧ i = .int .i64 (k : Int) ∧ Hid (Ru B wr ub va vb (.slice ua l.length uc) l (n + dif l xs k) ∧ St (fun q => q = ub) W wr)) (fun i _ => l.length - (intOf i).toNat)
  case atStart => exact ⟨0, Nat.zero_le _, rfl, H.out, St.refl _ _⟩
  case round =>
    obtain ⟨k, hk, rfl, HK⟩ := hrel
    by_cases hlt : k < l.length
    · have hki : (k : Int) < (l.length : Int) := by omega
      obtain ⟨x, hxk⟩ := at_lt xs k (by rw [HL.out]; exact hlt)
      obtain ⟨y, hyk⟩ := at_lt l k hlt
      obtain ⟨b, o, rfl, d0⟩ : ∃ b o, a = some ⟨b, o, none⟩ ∧ wr.cell? ⟨b, o + k, none⟩ = some (.int .i64 x) := by
        obtain ⟨a2, c2, hv, hl2⟩ := HX.out.kept HK.out.2
        rw [HL.out] at hv
        obtain ⟨rfl, rfl⟩ : a = a2 ∧ c = c2 := by simpa using hv
        rcases hl2 with q | ⟨b, o, q1, -, q2⟩
        · rw [q] at hxk; simp at hxk
        · exact ⟨b, o, q1, q2 k x hxk⟩
      obtain ⟨g, c2, e2, d1⟩ := HK.out.1.at hyk
      obtain ⟨rfl, rfl⟩ : ua = some ⟨g, 0, none⟩ ∧ uc = c2 := by simpa using e2
      have c2 := HK.out.1.c2
      have hdl := dif_le l xs k
      by_cases hxy : x = y
      · subst hxy
        have DN : Hid (dif l xs (k + 1) = dif l xs k) := by show _ = _; rw [dif, if_pos (hyk.trans hxk.symm)]; rfl
        clear hxk hyk e2 hdl
        go_wp2_with fail
        go_quiet (fail)
        obtain ⟨w5, hw5⟩ : ∃ w5, w5 = wr.drewN nq := ⟨_, rfl⟩
        have b5 : Below wr.heap.size wr w5 := by rw [hw5]; exact drewN_below _ _
        rw [← hw5]
        have NX : Hid (Ru B w5 ub va vb (.slice (some ⟨g, 0, none⟩) l.length uc) l (n + dif l xs (k + 1)) ∧ St (fun q => q = ub) W w5) := by
          rw [DN.out]
          exact ⟨HK.out.1.later b5, HK.out.2.trans (St.of_below (S := fun _ => False) b5) fun _ _ q => q.elim⟩
        clear hw5 b5 d0 d1 c2
        go_wp2_with fail
        go_roundw
        case rel => exact ⟨k + 1, by omega, by go_num, NX.out⟩
        case measure => simp [intOf]; omega
      · have DN : Hid (dif l xs (k + 1) = dif l xs k + 1) := by
          show _ = _
          rw [dif, if_neg]
          intro e
          rw [hxk, hyk] at e
          exact hxy (by simpa using e.symm)
        clear hxk hyk e2
        go_wp2_with fail
        go_quiet (fail)
        obtain ⟨w5, hw5⟩ : ∃ w5, w5 = wr.drewN nq := ⟨_, rfl⟩
        have b5 : Below wr.heap.size wr w5 := by rw [hw5]; exact drewN_below _ _
        rw [← hw5]
        have r5 := HK.out.1.later b5
        have d3 := r5.c3
        have f3 := blk_free r5.box 3
        obtain ⟨D, hD⟩ : ∃ D, D = n + dif l xs k := ⟨_, rfl⟩
        rw [← hD] at d3
        have hDi : (D : Int) ≤ 1000000 := by omega
        have NX : Hid (Ru B (w5.setCell ⟨ub, 3, none⟩ (.int .i64 ((D + 1 : Nat) : Int))) ub va vb (.slice (some ⟨g, 0, none⟩) l.length uc) l (n + dif l xs (k + 1)) ∧ St (fun q => q = ub) W (w5.setCell ⟨ub, 3, none⟩ (.int .i64 ((D + 1 : Nat) : Int)))) := by
          obtain ⟨q1, q2⟩ := r5.count (D + 1)
          rw [DN.out, ← Nat.add_assoc, ← hD]
          exact ⟨q1, (HK.out.2.trans (St.of_below (S := fun _ => False) b5) fun _ _ q => q.elim).trans q2 fun _ _ q => q⟩
        clear hw5 b5 d0 d1 c2 r5 hD hdl
        go_wp2_with fail
        go_roundw
        case rel => exact ⟨k + 1, by omega, by go_num, NX.out⟩
        case measure => simp [intOf]; omega
    · have hki : ¬ (k : Int) < (l.length : Int) := by omega
      obtain rfl : k = l.length := by omega
      have hr := HK.out.1
      have HS := hid ((HX.out.kept HK.out.2).lrow)
      have h10 : xs.length ≤ 1000 := by rw [HL.out]; omega
      have hlu := (hr.lt ub (.inl rfl)).2
      have hnu : ¬ ub = wr.heap.size := by omega
      have BX := hid hr.box
      have HR := hid hr
      clear hr
      go_wp2_with (at_builtin; refine wpList_copy rfl (.tmp 40) (.tmp 41) rfl HS.out h10 BX.out rfl rfl rfl ?_; intro a1 c1 w1 ow bw x1 f1)
      obtain ⟨r3, s3⟩ := HR.out.renew bw.out ow.out (by rw [HL.out]; exact h8) (by have := HK.out.2.size; have := HB.out; omega)
      have FIN : Hid ((∃ uv', Ru B (w1.setCell ⟨ub, 2, none⟩ (.slice a1 xs.length c1)) ub va vb uv' xs (n + dif l xs l.length) ∧ ∀ q, uv'.ownBlock = some q → W.heap.size ≤ q) ∧ St (fun q => q = ub) W (w1.setCell ⟨ub, 2, none⟩ (.slice a1 xs.length c1))) := by
        refine ⟨⟨_, r3, fun q hq => ?_⟩, HK.out.2.trans s3 fun _ _ q => q⟩
        exact Nat.le_trans HK.out.2.size (ow.out.lt q hq).1
      clear r3 s3 ow bw x1 f1
      go_ret
      exact ⟨rfl, FIN.out⟩
end
end Go.Proofs.YtbfjijiakkopeaaDoor.Gs
