/- A journal: what is known, an entry more. -/
import Derived.Test.YtnbgjbdbbmpoaaaDoorJoJh
namespace Go.Proofs.YtnbgjbdbbmpoaaaDoor.Jo
open Go.RowKit Go.Shelf Go.Maps
/-- Whether an entry says nothing new. -/
def knowsB (l : List Ue) (u : Ue) : Bool :=
  if u.k = 1 then (toldB l (aboutM u) || toldB l ⟨4, u.id, u.p.c⟩) || toldB l ⟨2, u.id, 0⟩
  else if u.k = 6 ∨ u.k = 7 ∨ u.k = 8 ∨ u.k = 9 then toldB l (aboutM u) else false
section
variable {B : Nat} {W W' : World} {jb : Nat} {sv mv : Value} {most : Nat} {st : List Sx} {Ad : Nat → Addr}
set_option maxHeartbeats 3200000 in
theorem knows_any (h : Jn B W jb sv mv most st) {a : List Sx} {s : Sx} (hs : st = a ++ [s]) (u : Ue) (hu : u.ok) (h0 : 1 ≤ u.k) (h9 : u.k ≤ 9) (hpv : ∃ ad n c, u.pv = .slice ad n c) :
    Calls Tryd.prog 33 #[.pointer (some ⟨jb, 0, none⟩), .agg #[.int .i64 u.k, .int .i64 u.id, .int .i64 u.p.c, .int .i64 u.p.v0, .int .i64 u.p.v1, .int .i64 u.p.v2, .int .i64 u.p.v3, .int .i64 u.p.t, u.pv, .int .i64 u.n, .int .i64 u.o]] W fun e W' => e = .returned (.bool (knowsB s.l u)) ∧ Below W.heap.size W W' := by
  have HM : ∀ m : Mat, m.ok → Hid (∀ W', Below W.heap.size W W' → Calls Tryd.prog 43 #[.pointer (some ⟨jb, 0, none⟩), .agg #[.int .i64 m.k, .int .i64 m.id, .int .i64 m.n]] W' fun e W'' => e = .returned (.bool (toldB s.l m)) ∧ Below W'.heap.size W' W'') := fun m hm W' hb => has_m (h.later hb) hs m hm
  have A1 := HM _ (aboutM_ok u hu h0 h9)
  have A4 := HM ⟨4, u.id, u.p.c⟩ ⟨I64_k (k := 4) (by decide) (by decide), hu.1, hu.2.1⟩
  have A2 := HM ⟨2, u.id, 0⟩ ⟨I64_k (k := 2) (by decide) (by decide), hu.1, I64_0⟩
  have AB := hid (about_any u)
  have R : Hid (knowsB s.l u = if u.k = 1 then (toldB s.l (aboutM u) || toldB s.l ⟨4, u.id, u.p.c⟩) || toldB s.l ⟨2, u.id, 0⟩ else if u.k = 6 ∨ u.k = 7 ∨ u.k = 8 ∨ u.k = 9 then toldB s.l (aboutM u) else false) := rfl
  generalize toldB s.l (aboutM u) = r1 at A1 R
  generalize toldB s.l ⟨4, u.id, u.p.c⟩ = r4 at A4 R
  generalize toldB s.l ⟨2, u.id, 0⟩ = r2 at A2 R
  generalize knowsB s.l u = res at R ⊢
  generalize aboutM u = am at A1 AB
  obtain ⟨k, id, p, pv, ps, n, o⟩ := u
  obtain ⟨ad, nn, cc, rfl⟩ := hpv
  simp only at AB R A1 A2 A4 h0 h9 ⊢
  clear HM h hu hs
  by_cases k1 : k = 1
  · subst k1
    rw [if_pos rfl] at R
    have R' := hid R.out
    clear R h0 h9
    cases r1 with
    | true =>
      go_enter Tryd.func33, Tryd.ntmps33
      go_wp2_with fail
      refine (AB.out _).mono ?_
      rintro e w1 ⟨rfl, hb1⟩
      have b1 : Below W.heap.size W w1 := (bAl W _).trans (hb1.mono (by simp))
      have HB1 := hid b1
      clear hb1 b1
      go_wp2_with fail
      refine (A1.out _ HB1.out).mono ?_
      rintro e w2 ⟨rfl, hb2⟩
      have HB2 := hid (HB1.out.trans (hb2.mono HB1.out.size))
      clear hb2
      go_wp2_with fail
      go_ret
      exact ⟨by rw [R'.out]; rfl, HB2.out⟩
    | false =>
      have HW : Hid (∀ w, Below W.heap.size W w → Below (W.alloc (.cells #[.int .i64 1, .int .i64 id, .int .i64 p.c, .int .i64 p.v0, .int .i64 p.v1, .int .i64 p.v2, .int .i64 p.v3, .int .i64 p.t, .slice ad nn cc, .int .i64 n, .int .i64 o] 38)).heap.size (W.alloc (.cells #[.int .i64 1, .int .i64 id, .int .i64 p.c, .int .i64 p.v0, .int .i64 p.v1, .int .i64 p.v2, .int .i64 p.v3, .int .i64 p.t, .slice ad nn cc, .int .i64 n, .int .i64 o] 38)) w → w.cell? ⟨W.heap.size, 1, none⟩ = some (.int .i64 id) ∧ w.cell? ⟨W.heap.size, 2, none⟩ = some (.int .i64 p.c)) := fun w _ hb => by
        have q := blk_seen hb (Nat.le_refl _) (heap_alloc_new W _)
        exact ⟨cell_blk q rfl, cell_blk q rfl⟩
      cases r4 with
      | true =>
        go_enter Tryd.func33, Tryd.ntmps33
        go_wp2_with fail
        refine (AB.out _).mono ?_
        rintro e w1 ⟨rfl, hb1⟩
        have b1 : Below W.heap.size W w1 := (bAl W _).trans (hb1.mono (by simp))
        have HB1 := hid b1
        have HA1 := hid hb1
        clear hb1 b1
        go_wp2_with fail
        refine (A1.out _ HB1.out).mono ?_
        rintro e w2 ⟨rfl, hb2⟩
        have HB2 := hid (HB1.out.trans (hb2.mono HB1.out.size))
        obtain ⟨q1, q2⟩ := HW.out w2 HB2.out (HA1.out.trans (hb2.mono HA1.out.size))
        clear hb2
        go_wp2_with fail
        refine (A4.out _ HB2.out).mono ?_
        rintro e w3 ⟨rfl, hb3⟩
        have HB3 := hid (HB2.out.trans (hb3.mono HB2.out.size))
        clear hb3 q1 q2
        go_wp2_with fail
        go_ret
        exact ⟨by rw [R'.out]; rfl, HB3.out⟩
      | false =>
        go_enter Tryd.func33, Tryd.ntmps33
        go_wp2_with fail
        refine (AB.out _).mono ?_
        rintro e w1 ⟨rfl, hb1⟩
        have b1 : Below W.heap.size W w1 := (bAl W _).trans (hb1.mono (by simp))
        have HB1 := hid b1
        have HA1 := hid hb1
        clear hb1 b1
        go_wp2_with fail
        refine (A1.out _ HB1.out).mono ?_
        rintro e w2 ⟨rfl, hb2⟩
        have HB2 := hid (HB1.out.trans (hb2.mono HB1.out.size))
        have HA2 := hid (HA1.out.trans (hb2.mono HA1.out.size))
        obtain ⟨q1, q2⟩ := HW.out w2 HB2.out HA2.out
        clear hb2
        go_wp2_with fail
        refine (A4.out _ HB2.out).mono ?_
        rintro e w3 ⟨rfl, hb3⟩
        have HB3 := hid (HB2.out.trans (hb3.mono HB2.out.size))
        obtain ⟨q3, -⟩ := HW.out w3 HB3.out (HA2.out.trans (hb3.mono HA2.out.size))
        clear hb3 q1 q2
        go_wp2_with fail
        refine (A2.out _ HB3.out).mono ?_
        rintro e w4 ⟨rfl, hb4⟩
        have HB4 := hid (HB3.out.trans (hb4.mono HB3.out.size))
        clear hb4 q3
        go_wp2_with fail
        go_ret
        exact ⟨by rw [R'.out]; rfl, HB4.out⟩
  · rw [if_neg k1] at R
    by_cases k6 : k = 6 ∨ k = 7 ∨ k = 8 ∨ k = 9
    · rw [if_pos k6] at R
      have R' := hid R.out
      clear R k1 A4 A2
      rcases k6 with rfl | rfl | rfl | rfl
      all_goals
        go_enter Tryd.func33, Tryd.ntmps33
        go_wp2_with fail
        refine (AB.out _).mono ?_
        rintro e w1 ⟨rfl, hb1⟩
        have b1 : Below W.heap.size W w1 := (bAl W _).trans (hb1.mono (by simp))
        have HB1 := hid b1
        clear hb1 b1
        go_wp2_with fail
        refine (A1.out _ HB1.out).mono ?_
        rintro e w2 ⟨rfl, hb2⟩
        have HB2 := hid (HB1.out.trans (hb2.mono HB1.out.size))
        clear hb2
        go_wp2_with fail
        go_ret
        exact ⟨by rw [R'.out]; rfl, HB2.out⟩
    · rw [if_neg k6] at R
      have R' := hid R.out
      have n6 : ¬ k = 6 := fun q => k6 (.inl q)
      have n7 : ¬ k = 7 := fun q => k6 (.inr (.inl q))
      have n8 : ¬ k = 8 := fun q => k6 (.inr (.inr (.inl q)))
      have n9 : ¬ k = 9 := fun q => k6 (.inr (.inr (.inr q)))
      have b1 : (k == 1) = false := by simp [k1]
      have b6 : (k == 6) = false := by simp [n6]
      have b7 : (k == 7) = false := by simp [n7]
      have b8 : (k == 8) = false := by simp [n8]
      have b9 : (k == 9) = false := by simp [n9]
      clear R k6 A4 A2 A1 AB h0 h9
      go_enter Tryd.func33, Tryd.ntmps33
      go_wp2_with fail
      go_ret
      exact ⟨by rw [R'.out]; rfl, bAl _ _⟩
end
end Go.Proofs.YtnbgjbdbbmpoaaaDoor.Jo
