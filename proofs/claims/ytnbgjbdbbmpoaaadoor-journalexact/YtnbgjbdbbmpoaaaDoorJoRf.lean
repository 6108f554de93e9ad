/- The document's journal: Back, Forget. -/
import Derived.Test.YtnbgjbdbbmpoaaaDoorJoRe
namespace Go.Proofs.YtnbgjbdbbmpoaaaDoor.Jo
open Go.RowKit Go.Shelf Go.Maps
theorem rj_put1 {B : Nat} {w1 : World} {ub most : Nat} {old lv mv' : Value} {ms' : List Int} {es : List En} (hbox : w1.heap[ub]? = some (.cells #[.int .i64 (most : Int), old, lv] 56 (0, 0))) (hlow : B ≤ ub) (he : Eo B w1 lv es) (hm : Ns B w1 mv' ms') : Rj B (w1.setCell ⟨ub, 1, none⟩ mv') ub mv' lv most ms' es ∧ St (fun k => k = ub) w1 (w1.setCell ⟨ub, 1, none⟩ mv') := by
  have s : St (fun k => k = ub) w1 (w1.setCell ⟨ub, 1, none⟩ mv') := St.setCell _ rfl
  refine ⟨⟨by rw [heap_setCell_same w1 ub 1 _ _ mv' hbox]; rfl, hlow, hm.kept s fun k hk q => ?_, he.kept s fun k hk q => ?_⟩, s⟩
  · obtain ⟨-, cur, hc⟩ := hm.typ hk
    subst q
    rw [hbox] at hc
    simp at hc
  · obtain ⟨-, cur, hc⟩ := own_typ he.1 hk
    subst q
    rw [hbox] at hc
    simp at hc
section
variable {B : Nat} {W W' : World} {ub : Nat} {mv lv : Value} {most : Nat} {ms : List Int} {es : List En}
set_option maxHeartbeats 3200000 in
set_option maxRecDepth 100000 in
theorem rback_bad (h : Rj B W ub mv lv most ms es) (hl : ms.length ≤ 10000) (he : es.length ≤ 10000) (x : Int) (hm : markB ms x = false) :
    Calls Tryd.prog 19 #[.pointer (some ⟨ub, 0, none⟩), .int .i64 x] W fun e W' => e = .returned (.tuple #[.slice none 0 0, .int .i64 16]) ∧ Below W.heap.size W W' := by
  have SI := hid (rsince_any h hl he x)
  clear h hl he
  have HM := hid hm
  clear hm
  go_enter Tryd.func19, Tryd.ntmps19
  go_wp2_with fail
  refine SI.out.mono ?_
  rintro e w1 ⟨b1, q, -⟩
  obtain rfl := q HM.out
  have B1 := hid b1
  clear SI b1 q
  go_wp2_with fail
  go_ret2
  exact ⟨rfl, B1.out⟩
set_option maxHeartbeats 3200000 in
set_option maxRecDepth 100000 in
theorem rback_ok (h : Rj B W ub mv lv most ms es) (hB : B ≤ W.heap.size) (hl : ms.length ≤ 10000) (he : es.length ≤ 10000) (x : Int) (h0 : 0 ≤ x) (h1 : x ≤ 1073741824) (hm : markB ms x = true) :
    Calls Tryd.prog 19 #[.pointer (some ⟨ub, 0, none⟩), .int .i64 x] W fun e W' => (∃ v, e = .returned (.tuple #[v, .int .i64 0]) ∧ Uo W.heap.size W' v (sinceL es x)) ∧ Rw B ub most (keepM 0 (x - 1) ms ++ [x]) (keepE 0 (x - 1) es) W' ∧ St (fun k => k = ub) W W' := by
  have SI := hid (rsince_any h hl he x)
  have H := hid h
  have HB := hid hB
  have HM := hid hm
  have HL := hid hl
  have HLE := hid he
  clear h hl he hB hm
  go_enter Tryd.func19, Tryd.ntmps19
  go_wp2_with fail
  refine SI.out.mono ?_
  rintro e w1 ⟨b1, -, q⟩
  obtain ⟨v1, rfl, hu1⟩ := q HM.out
  obtain ⟨a1, n1, c1, rfl⟩ := own_form hu1.1
  have B1 := hid b1
  have U1 := hid hu1
  have H1 := hid (H.out.later b1)
  have HB1 : Hid (B ≤ w1.heap.size) := Nat.le_trans HB.out b1.size
  have KP := hid (keep_any H1.out HB1.out HL.out HLE.out 0 (x - 1))
  clear SI b1 q hu1
  go_wp2_with fail
  refine KP.out.mono ?_
  rintro e w2 ⟨rfl, ⟨mv2, ⟨lv2, r2⟩, n2⟩, s2⟩
  obtain ⟨am2, nm2, cm2, rfl⟩ := own_form n2
  have R2 := hid r2
  have N2 := hid n2
  have S2 := hid s2
  have k1 := r2.c1
  have k1a := seen (bAl w2 (.cells #[.int .i64 x] 3)) (Nat.le_refl _) k1
  have NL : Hid ((keepM 0 (x - 1) ms).length ≤ 10000000) := by
    have := keepM_len 0 (x - 1) ms ms.length
    rw [List.take_length] at this
    have := HL.out
    show _ ≤ _
    omega
  have SZ := hid s2.size
  have U2 : Hid (Uo W.heap.size w2 (.slice a1 n1 c1) (sinceL es x)) := U1.out.kept s2 fun k hk q => by
    obtain ⟨-, cur, hc⟩ := own_typ U1.out.1 hk
    subst q
    rw [H1.out.box] at hc
    simp at hc
  clear KP r2 n2 s2
  go_upto_region 6 with (at_builtin; refine wpList_num rfl _ _ rfl (k := x) N2.out NL.out SZ.out rfl rfl ?_; intro v3 w3 hN3 hS3; obtain ⟨a3, n3, c3, rfl⟩ := own_form hN3.out; have box3 := hS3.out.at R2.out.box (fun q => R2.out.nm q rfl); have k3 := cell_blk (j := 1) box3 rfl; have f3 := blk_free box3 1)
  obtain ⟨r4, s4⟩ := rj_put1 box3 R2.out.low ⟨own_apart R2.out.ents.1 N2.out (by decide) hS3.out, R2.out.ents.2⟩ (hN3.out.lower HB1.out)
  have U3 : Uo W.heap.size w3 (.slice a1 n1 c1) (sinceL es x) := ⟨own_apart U2.out.1 N2.out (by decide) hS3.out, U2.out.2⟩
  have U4 : Hid (Uo W.heap.size (w3.setCell ⟨ub, 1, none⟩ (.slice a3 n3 c3)) (.slice a1 n1 c1) (sinceL es x)) := U3.kept s4 fun k hk q => by
    obtain ⟨-, cur, hc⟩ := own_typ U3.1 hk
    subst q
    rw [box3] at hc
    simp at hc
  have SF : Hid (St (fun k => k = ub) W (w3.setCell ⟨ub, 1, none⟩ (.slice a3 n3 c3))) := by
    have e1 : St (fun k => k = ub) W w1 := St.of_below B1.out
    have e2 : St (fun k => k = ub) W w2 := e1.trans S2.out fun _ _ q => q
    have e3 : St (fun k => k = ub) W w3 := e2.trans hS3.out fun k hk q => by
      have := (World.ownsRow.lt N2.out k q).1
      have := B1.out.size
      omega
    exact e3.trans s4 fun _ _ q => q
  have FIN := hid (show Rw B ub most (keepM 0 (x - 1) ms ++ [x]) (keepE 0 (x - 1) es) _ from ⟨_, _, r4⟩)
  clear r4 s4 U3 box3 k3 f3 k1 k1a hN3 hS3 U2 N2 R2
  go_wp2_with fail
  go_ret2
  exact ⟨⟨_, rfl, U4.out⟩, FIN.out, SF.out⟩
set_option maxHeartbeats 3200000 in
set_option maxRecDepth 100000 in
theorem rforget_any (h : Rj B W ub mv lv most ms es) (hB : B ≤ W.heap.size) (hl : ms.length ≤ 10000) (he : es.length ≤ 10000) (x lo : Int) (hlo : (if lastM ms < x then lastM ms else x) = lo) :
    Calls Tryd.prog 21 #[.pointer (some ⟨ub, 0, none⟩), .int .i64 x] W fun e W' => e = .returned (.int .i64 ((es.length : Int) - ((keepE lo 1073741824 es).length : Int))) ∧ Rw B ub most (keepM lo 1073741824 ms) (keepE lo 1073741824 es) W' ∧ St (fun k => k = ub) W W' := by
  have LA := hid (rlast_any h (by omega))
  have H := hid h
  have HB := hid hB
  have HL := hid hl
  have HLE := hid he
  have c2 := h.c2
  obtain ⟨al, cl, rfl⟩ := h.ents.slice
  obtain ⟨lm, hlm⟩ : ∃ lm, lastM ms = lm := ⟨_, rfl⟩
  rw [hlm] at LA hlo
  clear h hl he hB hlm
  by_cases hc : lm < x
  · rw [if_pos hc] at hlo
    subst hlo
    go_enter Tryd.func21, Tryd.ntmps21
    go_wp2_with fail
    refine LA.out.mono ?_
    rintro e w1 ⟨rfl, b1⟩
    have B1 := hid b1
    have H1 := hid (H.out.later b1)
    have HB1 : Hid (B ≤ w1.heap.size) := Nat.le_trans HB.out b1.size
    have KP := hid (keep_any H1.out HB1.out HL.out HLE.out lm 1073741824)
    clear LA b1 c2
    go_wp2_with fail
    refine KP.out.mono ?_
    rintro e w2 ⟨rfl, ⟨mv2, ⟨lv2, r2⟩, -⟩, s2⟩
    have SF : Hid (St (fun k => k = ub) W w2) := (St.of_below (S := fun k => k = ub) B1.out).trans s2 fun _ _ q => q
    have FIN := hid (show Rw B ub most (keepM lm 1073741824 ms) (keepE lm 1073741824 es) w2 from ⟨_, _, r2⟩)
    have k2 := r2.c2
    obtain ⟨a2, c2', rfl⟩ := r2.ents.slice
    have hke := keepE_len lm 1073741824 es es.length
    rw [List.take_length] at hke
    obtain ⟨n9, hn9⟩ : ∃ n9, (keepE lm 1073741824 es).length = n9 := ⟨_, rfl⟩
    rw [hn9] at k2 hke
    have HN9 := hid hn9
    have hE := HLE.out
    have w9 : IntKind.i64.wrap ((es.length : Int) - (n9 : Int)) = (es.length : Int) - (n9 : Int) := wrap_mid (by omega) (by omega)
    have h9a : (n9 : Int) ≤ (es.length : Int) := by omega
    have h9b : (es.length : Int) ≤ 10000 := by omega
    clear KP r2 s2 hn9
    go_wp2_with fail
    go_ret
    exact ⟨by rw [HN9.out]; rfl, FIN.out, SF.out⟩
  · rw [if_neg hc] at hlo
    subst hlo
    go_enter Tryd.func21, Tryd.ntmps21
    go_wp2_with fail
    refine LA.out.mono ?_
    rintro e w1 ⟨rfl, b1⟩
    have B1 := hid b1
    have H1 := hid (H.out.later b1)
    have HB1 : Hid (B ≤ w1.heap.size) := Nat.le_trans HB.out b1.size
    have KP := hid (keep_any H1.out HB1.out HL.out HLE.out x 1073741824)
    clear LA b1 c2
    go_wp2_with fail
    refine KP.out.mono ?_
    rintro e w2 ⟨rfl, ⟨mv2, ⟨lv2, r2⟩, -⟩, s2⟩
    have SF : Hid (St (fun k => k = ub) W w2) := (St.of_below (S := fun k => k = ub) B1.out).trans s2 fun _ _ q => q
    have FIN := hid (show Rw B ub most (keepM x 1073741824 ms) (keepE x 1073741824 es) w2 from ⟨_, _, r2⟩)
    have k2 := r2.c2
    obtain ⟨a2, c2', rfl⟩ := r2.ents.slice
    have hke := keepE_len x 1073741824 es es.length
    rw [List.take_length] at hke
    obtain ⟨n9, hn9⟩ : ∃ n9, (keepE x 1073741824 es).length = n9 := ⟨_, rfl⟩
    rw [hn9] at k2 hke
    have HN9 := hid hn9
    have hE := HLE.out
    have w9 : IntKind.i64.wrap ((es.length : Int) - (n9 : Int)) = (es.length : Int) - (n9 : Int) := wrap_mid (by omega) (by omega)
    have h9a : (n9 : Int) ≤ (es.length : Int) := by omega
    have h9b : (es.length : Int) ≤ 10000 := by omega
    clear KP r2 s2 hn9
    go_wp2_with fail
    go_ret
    exact ⟨by rw [HN9.out]; rfl, FIN.out, SF.out⟩
end
end Go.Proofs.YtnbgjbdbbmpoaaaDoor.Jo
