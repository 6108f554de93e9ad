/- JournalExact: rows that can be read, great. -/
import Derived.Test.YtnbgjbdbbmpoaaaDoorJoRi
namespace Go.Proofs.YtnbgjbdbbmpoaaaDoor.Jo
open Go.RowKit Go.Shelf Go.Maps
/-- A row of entries that can be read. -/
def UR (W : World) (v : Value) (l : List Ue) : Prop := ∃ a c, v = .slice a l.length c ∧ ∀ (j : Nat) u, l[j]? = some u → ∃ g, a = some ⟨g, 0, none⟩ ∧ Elev W g (j * 11) u ∧ PRow W u.pv u.ps
theorem Elev.later {W W' : World} {b o : Nat} {u : Ue} (h : Elev W b o u) (hb : Below W.heap.size W W') : Elev W' b o u := by
  obtain ⟨h0, h1, h2, h3, h4, h5, h6, h7, h8, h9, h10⟩ := h
  exact ⟨seen hb (Nat.le_refl _) h0, seen hb (Nat.le_refl _) h1, seen hb (Nat.le_refl _) h2, seen hb (Nat.le_refl _) h3, seen hb (Nat.le_refl _) h4, seen hb (Nat.le_refl _) h5, seen hb (Nat.le_refl _) h6, seen hb (Nat.le_refl _) h7, seen hb (Nat.le_refl _) h8, seen hb (Nat.le_refl _) h9, seen hb (Nat.le_refl _) h10⟩
theorem UR.later {W W' : World} {v : Value} {l : List Ue} (h : UR W v l) (hb : Below W.heap.size W W') : UR W' v l := by
  obtain ⟨a, c, h1, h2⟩ := h
  refine ⟨a, c, h1, fun j u hj => ?_⟩
  obtain ⟨g, q1, q2, q3⟩ := h2 j u hj
  exact ⟨g, q1, q2.later hb, q3.later hb⟩
theorem UR.form {W : World} {v : Value} {l : List Ue} (h : UR W v l) : ∃ a c, v = .slice a l.length c := by
  obtain ⟨a, c, h1, -⟩ := h
  exact ⟨a, c, h1⟩
theorem UR.el {W : World} {a : Option Addr} {c : Nat} {l : List Ue} (h : UR W (.slice a l.length c) l) {j : Nat} {u : Ue} (hj : l[j]? = some u) : ∃ g, a = some ⟨g, 0, none⟩ ∧ Elev W g (j * 11) u ∧ PRow W u.pv u.ps := by
  obtain ⟨a', c', h1, h2⟩ := h
  obtain ⟨rfl, rfl⟩ : a = a' ∧ c = c' := by simpa using h1
  exact h2 j u hj
theorem ur_nil (W : World) (a : Option Addr) (c : Nat) : UR W (.slice a 0 c) [] := ⟨a, c, rfl, fun j u hj => by simp at hj⟩
theorem Ua.ur {W : World} {v : Value} {l : List Ue} (h : Ua W v l) : UR W v l := by
  obtain ⟨B, h⟩ := h
  obtain ⟨a, c, rfl⟩ := h.form
  exact ⟨a, c, rfl, fun j u hj => h.el hj⟩
theorem Uo.ur {B : Nat} {W : World} {v : Value} {l : List Ue} (h : Uo B W v l) (hp : ∀ u ∈ l, PRow W u.pv u.ps) : UR W v l := by
  obtain ⟨a, c, rfl⟩ := h.slice
  refine ⟨a, c, rfl, fun j u hj => ?_⟩
  have hlt := (List.getElem?_eq_some_iff.1 hj).1
  obtain ⟨g, rfl⟩ : ∃ g, a = some ⟨g, 0, none⟩ := by
    obtain ⟨g, cap', e, -⟩ := World.ownsRow.form h.1 (by omega : 0 < l.length)
    simp only [Value.slice.injEq, true_and] at e
    exact ⟨g, e.1⟩
  have A := uCells_at l j u hj
  have C : ∀ i, i < 11 → W.cell? ⟨g, j * 11 + i, none⟩ = u.arr[i]? := fun i hi => (World.ownsRow.cellAt h.1 (j * 11 + i) (by omega)).trans (A i hi)
  exact ⟨g, rfl, ⟨C 0 (by decide), C 1 (by decide), C 2 (by decide), C 3 (by decide), C 4 (by decide), C 5 (by decide), C 6 (by decide), C 7 (by decide), C 8 (by decide), C 9 (by decide), C 10 (by decide)⟩, hp u (List.mem_of_getElem? hj)⟩
set_option maxHeartbeats 3200000 in
theorem alike_ur (W : World) (lv mv : Value) (l m : List Ue) (h : UR W lv l) (h' : UR W mv m) (e : l.map Ue.bare = m.map Ue.bare) (hn : l.length ≤ 100000) (hp : ∀ u ∈ l, u.ps.length ≤ 1000) :
    Calls Tryd.prog 22 #[lv, mv] W fun e W' => e = .returned (.bool true) ∧ Below W.heap.size W W' := by
  have el : m.length = l.length := by have := congrArg List.length e; simpa using this.symm
  have H := hid h
  have H' := hid h'
  have HE := hid e
  have HP := hid hp
  obtain ⟨a, c, rfl⟩ := h.form
  obtain ⟨a', c', e'⟩ := h'.form
  rw [el] at e'
  subst e'
  have hli : (l.length : Int) ≤ 100000 := by omega
  clear h h' e hp
  go_enter Tryd.func22, Tryd.ntmps22
  go_wp2_with fail
  go_loopg [5] l.length (fun gh i wr => ∃ k : Nat, k ≤ l.length ∧ gh = l.length - k ∧ i = .int .i64 (k : Int) ∧ Hid (Below W.heap.size W wr))
  case atStart => exact ⟨0, Nat.zero_le _, rfl, rfl, Below.refl _ _⟩
  case round =>
    rename World => wr
    obtain ⟨k, hk, rfl, rfl, HB⟩ := hrel
    by_cases hlt : k < l.length
    · have hki : (k : Int) < (l.length : Int) := by omega
      obtain ⟨u, hu⟩ := at_lt l k hlt
      obtain ⟨x, hx⟩ := at_lt m k (by omega)
      have hux : u.bare = x.bare := by
        have := congrArg (fun z => z[k]?) HE.out
        simpa [hu, hx] using this
      obtain ⟨pv', rfl⟩ : ∃ pv', x = u.with pv' := ⟨_, ue_with hux⟩
      clear hux
      obtain ⟨g, rfl, -⟩ := H.out.el hu
      obtain ⟨g', rfl, -⟩ : ∃ g, a' = some ⟨g, 0, none⟩ ∧ True := by
        have h2 := H'.out
        rw [← el] at h2
        obtain ⟨g, q, -⟩ := h2.el hx
        exact ⟨g, q, trivial⟩
      have KK : Hid (∀ W', Below wr.heap.size wr W' → (W'.cell? ⟨g, k * 11, none⟩ = some (.int .i64 u.k) ∧ W'.cell? ⟨g, k * 11 + 1, none⟩ = some (.int .i64 u.id) ∧ W'.cell? ⟨g, k * 11 + 2, none⟩ = some (.int .i64 u.p.c) ∧ W'.cell? ⟨g, k * 11 + 3, none⟩ = some (.int .i64 u.p.v0) ∧ W'.cell? ⟨g, k * 11 + 4, none⟩ = some (.int .i64 u.p.v1) ∧ W'.cell? ⟨g, k * 11 + 5, none⟩ = some (.int .i64 u.p.v2) ∧ W'.cell? ⟨g, k * 11 + 6, none⟩ = some (.int .i64 u.p.v3) ∧ W'.cell? ⟨g, k * 11 + 7, none⟩ = some (.int .i64 u.p.t) ∧ W'.cell? ⟨g, k * 11 + 8, none⟩ = some (u.pv) ∧ W'.cell? ⟨g, k * 11 + 9, none⟩ = some (.int .i64 u.n) ∧ W'.cell? ⟨g, k * 11 + 10, none⟩ = some (.int .i64 u.o)) ∧ (W'.cell? ⟨g', k * 11, none⟩ = some (.int .i64 u.k) ∧ W'.cell? ⟨g', k * 11 + 1, none⟩ = some (.int .i64 u.id) ∧ W'.cell? ⟨g', k * 11 + 2, none⟩ = some (.int .i64 u.p.c) ∧ W'.cell? ⟨g', k * 11 + 3, none⟩ = some (.int .i64 u.p.v0) ∧ W'.cell? ⟨g', k * 11 + 4, none⟩ = some (.int .i64 u.p.v1) ∧ W'.cell? ⟨g', k * 11 + 5, none⟩ = some (.int .i64 u.p.v2) ∧ W'.cell? ⟨g', k * 11 + 6, none⟩ = some (.int .i64 u.p.v3) ∧ W'.cell? ⟨g', k * 11 + 7, none⟩ = some (.int .i64 u.p.t) ∧ W'.cell? ⟨g', k * 11 + 8, none⟩ = some (pv') ∧ W'.cell? ⟨g', k * 11 + 9, none⟩ = some (.int .i64 u.n) ∧ W'.cell? ⟨g', k * 11 + 10, none⟩ = some (.int .i64 u.o))) := fun W' hb => by
        have hb2 := HB.out.trans (hb.mono HB.out.size)
        obtain ⟨g2, e2, q, -⟩ := (H.out.later hb2).el hu
        have h2 := H'.out.later hb2
        rw [← el] at h2
        obtain ⟨g3, e3, q3, -⟩ := h2.el hx
        obtain rfl : g = g2 := by simpa using e2
        obtain rfl : g' = g3 := by simpa using e3
        exact ⟨q, q3⟩
      have CS : Hid (∀ W', Below wr.heap.size wr W' → Calls Tryd.prog 40 #[.agg #[.int .i64 u.k, .int .i64 u.id, .int .i64 u.p.c, .int .i64 u.p.v0, .int .i64 u.p.v1, .int .i64 u.p.v2, .int .i64 u.p.v3, .int .i64 u.p.t, u.pv, .int .i64 u.n, .int .i64 u.o], .agg #[.int .i64 u.k, .int .i64 u.id, .int .i64 u.p.c, .int .i64 u.p.v0, .int .i64 u.p.v1, .int .i64 u.p.v2, .int .i64 u.p.v3, .int .i64 u.p.t, pv', .int .i64 u.n, .int .i64 u.o]] W' fun e w => e = .returned (.bool true) ∧ Below wr.heap.size wr w) := fun W' hb => by
        have hb2 := HB.out.trans (hb.mono HB.out.size)
        obtain ⟨g2, e2, -, q⟩ := (H.out.later hb2).el hu
        have h2 := H'.out.later hb2
        rw [← el] at h2
        obtain ⟨g3, e3, -, q3⟩ := h2.el hx
        exact (rsame_any W' u pv' q q3 (HP.out u (List.mem_of_getElem? hu))).mono fun _ _ q => ⟨q.1, hb.trans (q.2.mono hb.size)⟩
      obtain ⟨uk, id, ⟨pc, v0, v1, v2, v3, t⟩, pv, ps, n, o⟩ := u
      simp only at KK CS
      have hpv : ∃ ad n c, pv = .slice ad n c := by
        obtain ⟨g2, e2, -, ⟨ad, c, q, -⟩⟩ := H.out.el hu
        exact ⟨_, _, _, q⟩
      have hpv' : ∃ ad n c, pv' = .slice ad n c := by
        have h2 := H'.out
        rw [← el] at h2
        obtain ⟨g2, e2, -, ⟨ad, c, q, -⟩⟩ := h2.el hx
        exact ⟨_, _, _, q⟩
      obtain ⟨ad, pn, pcap, rfl⟩ := hpv
      obtain ⟨ad', pn', pcap', rfl⟩ := hpv'
      clear hu hx
      go_upto_region 6 with fail
      go_region_held3 (fun W' => (W'.cell? ⟨g, k * 11, none⟩ = some (.int .i64 uk) ∧ W'.cell? ⟨g, k * 11 + 1, none⟩ = some (.int .i64 id) ∧ W'.cell? ⟨g, k * 11 + 2, none⟩ = some (.int .i64 pc) ∧ W'.cell? ⟨g, k * 11 + 3, none⟩ = some (.int .i64 v0) ∧ W'.cell? ⟨g, k * 11 + 4, none⟩ = some (.int .i64 v1) ∧ W'.cell? ⟨g, k * 11 + 5, none⟩ = some (.int .i64 v2) ∧ W'.cell? ⟨g, k * 11 + 6, none⟩ = some (.int .i64 v3) ∧ W'.cell? ⟨g, k * 11 + 7, none⟩ = some (.int .i64 t) ∧ W'.cell? ⟨g, k * 11 + 8, none⟩ = some (.slice ad pn pcap) ∧ W'.cell? ⟨g, k * 11 + 9, none⟩ = some (.int .i64 n) ∧ W'.cell? ⟨g, k * 11 + 10, none⟩ = some (.int .i64 o)) ∧ (W'.cell? ⟨g', k * 11, none⟩ = some (.int .i64 uk) ∧ W'.cell? ⟨g', k * 11 + 1, none⟩ = some (.int .i64 id) ∧ W'.cell? ⟨g', k * 11 + 2, none⟩ = some (.int .i64 pc) ∧ W'.cell? ⟨g', k * 11 + 3, none⟩ = some (.int .i64 v0) ∧ W'.cell? ⟨g', k * 11 + 4, none⟩ = some (.int .i64 v1) ∧ W'.cell? ⟨g', k * 11 + 5, none⟩ = some (.int .i64 v2) ∧ W'.cell? ⟨g', k * 11 + 6, none⟩ = some (.int .i64 v3) ∧ W'.cell? ⟨g', k * 11 + 7, none⟩ = some (.int .i64 t) ∧ W'.cell? ⟨g', k * 11 + 8, none⟩ = some (.slice ad' pn' pcap') ∧ W'.cell? ⟨g', k * 11 + 9, none⟩ = some (.int .i64 n) ∧ W'.cell? ⟨g', k * 11 + 10, none⟩ = some (.int .i64 o)))
        (first | exact KK.out _ (by assumption) | exact KK.out _ (Below.refl _ _).drew | exact KK.out _ (Below.refl _ _))
        (first
          | (go_at_call 40; refine (CS.out _ (by first | assumption | exact (Below.refl _ _).drew | exact Below.refl _ _)).mono ?_; rintro e w9 ⟨rfl, hb9⟩))
      all_goals
        have BF := hid (HB.out.trans (hb9.mono HB.out.size))
        clear KK CS
        go_wp2_with fail
        go_roundg (l.length - (k + 1))
        case measure => omega
        case rel => exact ⟨k + 1, by omega, rfl, by go_num, BF.out⟩
    · have hki : ¬ ((k : Int) < (l.length : Int)) := by omega
      go_wp2_with fail
      go_ret
      exact ⟨rfl, HB.out⟩
theorem ActRow.at {W : World} {a : Option Addr} {c : Nat} {xs : List ActI} (h : ActRow W (.slice a xs.length c) xs) {j : Nat} {x : ActI} (hj : xs[j]? = some x) : UIn W x.u ∧ I64 x.n ∧ ∃ b o, a = some ⟨b, o, none⟩ ∧ ∀ i, i < 13 → W.cell? ⟨b, o + j * 13 + i, none⟩ = x.arr[i]? := by
  obtain ⟨a', c', h1, h2, h3⟩ := h
  obtain ⟨rfl, rfl⟩ : a = a' ∧ c = c' := by simpa using h1
  obtain ⟨q1, q2⟩ := h2 x (List.mem_of_getElem? hj)
  refine ⟨q1, q2, ?_⟩
  rcases h3 with h3 | ⟨b, o, h3, h4⟩
  · rw [h3] at hj; simp at hj
  · exact ⟨b, o, h3, h4 j x hj⟩
/-- What great tells. -/
def GreatR (xs : List ActI) (b : Bool) : Prop := b = false → ∀ j x, j < 150 → xs[j]? = some x → x.u.ps.length ≤ 20
def GreatE (xs : List ActI) (e : Ending) : Prop := ∃ b, e = .returned (.bool b) ∧ GreatR xs b
theorem PSrc.len {W : World} {v : Value} {l : List Prt} (h : PSrc W v l) : ∃ a c, v = .slice a l.length c := by
  rcases h with ⟨rfl, rfl⟩ | ⟨ad, c, rfl, -⟩
  · exact ⟨_, _, rfl⟩
  · exact ⟨_, _, rfl⟩
set_option maxHeartbeats 1600000 in
theorem great_any (W : World) (v : Value) (xs : List ActI) (h : ActRow W v xs) :
    Calls Tryd.prog 8 #[v] W fun e W' => GreatE xs e ∧ W' = W := by
  have H := hid h
  obtain ⟨a, c, rfl, -⟩ := h
  go_enter Tryd.func8, Tryd.ntmps8
  go_wp2_with fail
  go_loopg [3] 150 (fun gh s3 wr => ∃ k : Nat, k ≤ 150 ∧ gh = 150 - k ∧ s3 = .int .i64 (k : Int) ∧ Hid (∀ j x, j < k → xs[j]? = some x → x.u.ps.length ≤ 20) ∧ Hid (wr = W))
  case atStart => exact ⟨0, by omega, rfl, rfl, fun j x hj => by omega, rfl⟩
  case round =>
    rename World => wr
    obtain ⟨k, hk, rfl, rfl, HG, HW⟩ := hrel
    obtain rfl := HW.out
    by_cases h1 : k < xs.length
    · have h1i : (k : Int) < (xs.length : Int) := by omega
      by_cases h2 : k < 150
      · have h2i : (k : Int) < 150 := by omega
        obtain ⟨x, hx⟩ := at_lt xs k h1
        obtain ⟨q1, -, b, o, rfl, dd⟩ := H.out.at hx
        obtain ⟨pa, pc, hpv⟩ := q1.2.len
        have d10 : wr.cell? ⟨b, o + k * 13 + 10, none⟩ = some (.slice pa x.u.ps.length pc) := by rw [← hpv]; exact dd 10 (by decide)
        by_cases h3 : 20 < x.u.ps.length
        · have h3i : (20 : Int) < (x.u.ps.length : Int) := by omega
          go_wp2_with fail
          go_ret
          exact ⟨⟨_, rfl, fun q => by cases q⟩, rfl⟩
        · have h3i : ¬ (20 : Int) < (x.u.ps.length : Int) := by omega
          have HG2 : Hid (∀ j x, j < k + 1 → xs[j]? = some x → x.u.ps.length ≤ 20) := fun j y hj hy => by
            by_cases e : j = k
            · subst e
              rw [hx] at hy
              obtain rfl : x = y := by simpa using hy
              omega
            · exact HG.out j y (by omega) hy
          clear hx HG
          go_wp2_with fail
          go_roundg (150 - (k + 1))
          case measure => omega
          case rel => exact ⟨k + 1, by omega, rfl, by go_num, HG2.out, rfl⟩
      · have h2i : ¬ (k : Int) < 150 := by omega
        have FG : Hid (GreatR xs false) := fun _ j x hj hx => HG.out j x (by omega) hx
        go_wp2_with fail
        go_ret
        exact ⟨⟨_, rfl, FG.out⟩, rfl⟩
    · have h1i : ¬ (k : Int) < (xs.length : Int) := by omega
      have FG : Hid (GreatR xs false) := fun _ j x hj hx => HG.out j x (by have := (List.getElem?_eq_some_iff.1 hx).1; omega) hx
      go_wp2_with fail
      go_ret
      exact ⟨⟨_, rfl, FG.out⟩, rfl⟩
end Go.Proofs.YtnbgjbdbbmpoaaaDoor.Jo
