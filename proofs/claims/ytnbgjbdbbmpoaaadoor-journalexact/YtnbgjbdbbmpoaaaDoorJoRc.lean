/- The document's journal: Mark; what is old. -/
import Derived.Test.YtnbgjbdbbmpoaaaDoorJoRb
namespace Go.Proofs.YtnbgjbdbbmpoaaaDoor.Jo
open Go.RowKit Go.Shelf Go.Maps
section
variable {B : Nat} {W W' : World} {ub : Nat} {mv lv : Value} {most : Nat} {ms : List Int} {es : List En}
theorem own_form {B : Nat} {W : World} {e : TypeId} {sz : Nat} {v : Value} {n : Nat} {xs : List Value} (h : W.ownsRow B e sz v n xs) : ∃ a m c, v = .slice a m c := by
  obtain ⟨a, c, h⟩ := own_slice h
  exact ⟨a, _, c, h⟩
theorem Rj.on {w1 w' w2 : World} {v' : Value} {e : TypeId} {sz n : Nat} {xs : List Value} (h : Rj B w1 ub mv lv most ms es) (hB : Below w1.heap.size w1 w') (hN : w'.ownsRow w1.heap.size e sz v' n xs) (hS : St (fun x => v'.ownBlock = some x) w' w2) : Rj B w2 ub mv lv most ms es :=
  (h.later hB).kept hS (fun q => by have := (hN.lt ub q).1; have := h.lt; omega) (fun k hk q => by have := (hN.lt k q).1; have := (World.ownsRow.lt h.marks k hk).2; omega) (fun k hk q => by have := (hN.lt k q).1; have := (World.ownsRow.lt h.ents.1 k hk).2; omega)
set_option maxHeartbeats 1600000 in
theorem rmark_ok (h : Rj B W ub mv lv most ms es) (hB : B ≤ W.heap.size) (hl : ms.length ≤ 100000) (x : Int) (h0 : 0 ≤ x) (h1 : x ≤ 1073741824) (ha : lastM ms < x) :
    Calls Tryd.prog 13 #[.pointer (some ⟨ub, 0, none⟩), .int .i64 x] W fun e W' => e = .returned (.int .i64 0) ∧ Rw B ub most (ms ++ [x]) es W' ∧ St (fun k => k = ub) W W' := by
  have LA := hid (rlast_any h hl)
  have H := hid h
  have HB := hid hB
  have HL := hid hl
  have HL2 : Hid (ms.length ≤ 10000000) := by show _ ≤ _; omega
  have a : ¬ x < 0 := by omega
  have b : ¬ 1073741824 < x := by omega
  have c : ¬ x ≤ lastM ms := by omega
  obtain ⟨lm, hlm⟩ : ∃ lm, lastM ms = lm := ⟨_, rfl⟩
  rw [hlm] at LA c
  clear h hB hl ha hlm
  go_enter Tryd.func13, Tryd.ntmps13
  go_wp2_with fail
  refine LA.out.mono ?_
  rintro e w1 ⟨rfl, b1⟩
  have H1 := hid (H.out.later b1)
  have B1 := hid b1
  have c1 := H1.out.c1
  have CP := hid H1.out.marks
  obtain ⟨am, cm, rfl⟩ := H1.out.marks.slice
  have d1 : (w1.alloc (.cells #[] 3)).cell? ⟨ub, 1, none⟩ = some (.slice am ms.length cm) := seen (bAl _ _) (Nat.le_refl _) c1
  clear b1 LA H
  go_upto_region 4 with (first
    | (at_builtin; refine wpList_cpn rfl _ _ rfl CP.out HL.out rfl rfl ?_; intro v' w' hN hB; clear CP; obtain ⟨a', c', rfl⟩ := hN.out.slice; have SZ := hid hB.out.size)
    | (at_builtin; refine wpList_num rfl _ _ rfl (k := x) hN.out HL2.out SZ.out rfl rfl ?_; intro v2 w2 hN2 hS2; obtain ⟨a2, n2, c2, rfl⟩ := own_form hN2.out; have J2 := H1.out.on hB.out hN.out hS2.out; have k1 := J2.c1; have k2 := blk_free J2.box 1))
  obtain ⟨r3, s3⟩ := J2.renew1 (hN2.out.lower (Nat.le_trans HB.out B1.out.size))
  have sf : St (fun k => k = ub) W (w2.setCell ⟨ub, 1, none⟩ (.slice a2 n2 c2)) := by
    have e1 : St (fun k => k = ub) W w1 := St.of_below B1.out
    have e2 : Below w1.heap.size w1 w2 := hB.out.trans (hS2.out.below (fun k q => (hN.out.lt k q).1) hB.out.size)
    exact (e1.trans (St.of_below (S := fun k => k = ub) e2) fun _ _ q => q).trans s3 fun _ _ q => q
  have FIN := hid (show Rw B ub most (ms ++ [x]) es _ from ⟨_, _, r3⟩)
  have SF := hid sf
  clear r3 s3 sf J2 k1 k2 d1 c1
  go_wp2_with fail
  go_ret
  exact ⟨rfl, FIN.out, SF.out⟩
set_option maxHeartbeats 1600000 in
theorem rmark_bad (h : Rj B W ub mv lv most ms es) (hl : ms.length ≤ 100000) (x : Int) (hx : x < 0 ∨ 1073741824 < x ∨ x ≤ lastM ms) :
    Calls Tryd.prog 13 #[.pointer (some ⟨ub, 0, none⟩), .int .i64 x] W fun e W' => e = .returned (.int .i64 1) ∧ Below W.heap.size W W' := by
  have LA := hid (rlast_any h hl)
  clear h hl
  by_cases a : x < 0
  · clear hx LA
    go_enter Tryd.func13, Tryd.ntmps13
    go_wp2_with fail
    go_ret
    exact ⟨rfl, Below.refl _ _⟩
  · by_cases b : 1073741824 < x
    · clear hx LA
      go_enter Tryd.func13, Tryd.ntmps13
      go_wp2_with fail
      go_ret
      exact ⟨rfl, Below.refl _ _⟩
    · have c : x ≤ lastM ms := by omega
      obtain ⟨lm, hlm⟩ : ∃ lm, lastM ms = lm := ⟨_, rfl⟩
      rw [hlm] at LA c
      clear hx hlm
      go_enter Tryd.func13, Tryd.ntmps13
      go_wp2_with fail
      refine LA.out.mono ?_
      rintro e w1 ⟨rfl, b1⟩
      have B1 := hid b1
      clear b1 LA
      go_wp2_with fail
      go_ret
      exact ⟨rfl, B1.out⟩
/-- Whether an entry says nothing new behind another one. -/
def oldB (x u : Ue) : Bool :=
  if u.k = 1 then ((x.k == 1 || x.k == 4) && x.id == u.id && x.p.c == u.p.c) || (x.k == 2 && x.id == u.id)
  else if u.k = 6 then x.k == 6 && x.n == u.n else if u.k = 7 ∨ u.k = 8 ∨ u.k = 9 then x.k == u.k else false
set_option maxHeartbeats 3200000 in
set_option maxRecDepth 100000 in
theorem old_any (x u : Ue) (hx : Sl x) (hu : Sl u) (h0 : 1 ≤ u.k) (h9 : u.k ≤ 9) (W : World) :
    Calls Tryd.prog 35 #[.agg #[.int .i64 x.k, .int .i64 x.id, .int .i64 x.p.c, .int .i64 x.p.v0, .int .i64 x.p.v1, .int .i64 x.p.v2, .int .i64 x.p.v3, .int .i64 x.p.t, x.pv, .int .i64 x.n, .int .i64 x.o], .agg #[.int .i64 u.k, .int .i64 u.id, .int .i64 u.p.c, .int .i64 u.p.v0, .int .i64 u.p.v1, .int .i64 u.p.v2, .int .i64 u.p.v3, .int .i64 u.p.t, u.pv, .int .i64 u.n, .int .i64 u.o]] W fun e W' => e = .returned (.bool (oldB x u)) ∧ Below W.heap.size W W' := by
  obtain ⟨ax, nx, cx, hx⟩ := hx
  obtain ⟨au, nu, cu, hu⟩ := hu
  obtain ⟨xk, xid, ⟨xc, x0, x1, x2, x3, xt⟩, xpv, xps, xn, xo⟩ := x
  obtain ⟨uk, uid, ⟨uc, u0, u1, u2, u3, ut⟩, upv, ups, un, uo⟩ := u
  simp only at hx hu h0 h9 ⊢
  subst hx hu
  have BF : Below W.heap.size W ((W.alloc (.cells #[.int .i64 xk, .int .i64 xid, .int .i64 xc, .int .i64 x0, .int .i64 x1, .int .i64 x2, .int .i64 x3, .int .i64 xt, .slice ax nx cx, .int .i64 xn, .int .i64 xo] 38)).alloc (.cells #[.int .i64 uk, .int .i64 uid, .int .i64 uc, .int .i64 u0, .int .i64 u1, .int .i64 u2, .int .i64 u3, .int .i64 ut, .slice au nu cu, .int .i64 un, .int .i64 uo] 38)) := ((Below.refl _ _).alloc (Nat.le_refl _) _).alloc (by simp) _
  have HBF := hid BF
  clear BF
  rcases (by omega : uk = 1 ∨ uk = 6 ∨ (uk = 7 ∨ uk = 8 ∨ uk = 9) ∨ (uk = 2 ∨ uk = 3 ∨ uk = 4 ∨ uk = 5)) with rfl | rfl | hk | hk
  · have R : Hid (oldB ⟨xk, xid, ⟨xc, x0, x1, x2, x3, xt⟩, .slice ax nx cx, xps, xn, xo⟩ ⟨1, uid, ⟨uc, u0, u1, u2, u3, ut⟩, .slice au nu cu, ups, un, uo⟩ = (((xk == 1 || xk == 4) && xid == uid && xc == uc) || (xk == 2 && xid == uid))) := rfl
    rw [R.out]
    go_enter Tryd.func35, Tryd.ntmps35
    by_cases a1 : xk = 1
    · subst a1
      by_cases a2 : xid = uid
      · subst a2
        by_cases a3 : xc = uc
        · subst a3
          go_wp2_with fail
          go_ret
          exact ⟨by simp, HBF.out⟩
        · have a3b : (xc == uc) = false := beq_eq_false_iff_ne.2 a3
          go_wp2_with fail
          go_ret
          exact ⟨by simp [a3b], HBF.out⟩
      · have a2b : (xid == uid) = false := beq_eq_false_iff_ne.2 a2
        go_wp2_with fail
        go_ret
        exact ⟨by simp [a2b], HBF.out⟩
    · have a1b : (xk == 1) = false := beq_eq_false_iff_ne.2 a1
      by_cases b1 : xk = 4
      · subst b1
        by_cases a2 : xid = uid
        · subst a2
          by_cases a3 : xc = uc
          · subst a3
            go_wp2_with fail
            go_ret
            exact ⟨by simp, HBF.out⟩
          · have a3b : (xc == uc) = false := beq_eq_false_iff_ne.2 a3
            go_wp2_with fail
            go_ret
            exact ⟨by simp [a3b], HBF.out⟩
        · have a2b : (xid == uid) = false := beq_eq_false_iff_ne.2 a2
          go_wp2_with fail
          go_ret
          exact ⟨by simp [a2b], HBF.out⟩
      · have b1b : (xk == 4) = false := beq_eq_false_iff_ne.2 b1
        by_cases c1 : xk = 2
        · subst c1
          by_cases a2 : xid = uid
          · subst a2
            go_wp2_with fail
            go_ret
            exact ⟨by simp, HBF.out⟩
          · have a2b : (xid == uid) = false := beq_eq_false_iff_ne.2 a2
            go_wp2_with fail
            go_ret
            exact ⟨by simp [a2b], HBF.out⟩
        · have c1b : (xk == 2) = false := beq_eq_false_iff_ne.2 c1
          go_wp2_with fail
          go_ret
          exact ⟨by simp [a1b, b1b, c1b], HBF.out⟩
  · have R : Hid (oldB ⟨xk, xid, ⟨xc, x0, x1, x2, x3, xt⟩, .slice ax nx cx, xps, xn, xo⟩ ⟨6, uid, ⟨uc, u0, u1, u2, u3, ut⟩, .slice au nu cu, ups, un, uo⟩ = (xk == 6 && xn == un)) := rfl
    rw [R.out]
    go_enter Tryd.func35, Tryd.ntmps35
    by_cases a1 : xk = 6
    · subst a1
      by_cases a2 : xn = un
      · subst a2
        go_wp2_with fail
        go_ret
        exact ⟨by simp, HBF.out⟩
      · have a2b : (xn == un) = false := beq_eq_false_iff_ne.2 a2
        go_wp2_with fail
        go_ret
        exact ⟨by simp [a2b], HBF.out⟩
    · have a1b : (xk == 6) = false := beq_eq_false_iff_ne.2 a1
      go_wp2_with fail
      go_ret
      exact ⟨by simp [a1b], HBF.out⟩
  · have R : Hid (oldB ⟨xk, xid, ⟨xc, x0, x1, x2, x3, xt⟩, .slice ax nx cx, xps, xn, xo⟩ ⟨uk, uid, ⟨uc, u0, u1, u2, u3, ut⟩, .slice au nu cu, ups, un, uo⟩ = (xk == uk)) := by
      show _ = _
      unfold oldB
      rw [if_neg (by simp only; omega), if_neg (by simp only; omega), if_pos hk]
    rw [R.out]
    rcases hk with rfl | rfl | rfl
    all_goals
      go_enter Tryd.func35, Tryd.ntmps35
      go_wp2_with fail
      go_ret
      exact ⟨rfl, HBF.out⟩
  · have R : Hid (oldB ⟨xk, xid, ⟨xc, x0, x1, x2, x3, xt⟩, .slice ax nx cx, xps, xn, xo⟩ ⟨uk, uid, ⟨uc, u0, u1, u2, u3, ut⟩, .slice au nu cu, ups, un, uo⟩ = false) := by
      show _ = _
      unfold oldB
      rw [if_neg (by simp only; omega), if_neg (by simp only; omega), if_neg (by simp only; omega)]
    rw [R.out]
    rcases hk with rfl | rfl | rfl | rfl
    all_goals
      go_enter Tryd.func35, Tryd.ntmps35
      go_wp2_with fail
      go_ret
      exact ⟨rfl, HBF.out⟩
end
end Go.Proofs.YtnbgjbdbbmpoaaaDoor.Jo
