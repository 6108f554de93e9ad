/- A journal: place, find; what an entry is about, and whether that was told. -/
import Derived.Test.YtnbgjbdbbmpoaaaDoorJoJg
namespace Go.Proofs.YtnbgjbdbbmpoaaaDoor.Jo
open Go.RowKit Go.Shelf Go.Maps
theorem drewN_below (W : World) (m : Nat) : Below W.heap.size W (W.drewN m) := by
  induction m with
  | zero => exact Below.refl _ _
  | succ m ih => exact ih.drew
section
variable {B : Nat} {W W' : World} {jb : Nat} {sv mv : Value} {most : Nat} {st : List Sx} {Ad : Nat → Addr}
set_option maxHeartbeats 800000 in
theorem place_any (h : Jn B W jb sv mv most st) (x : Int) :
    Calls Tryd.prog 39 #[.pointer (some ⟨jb, 0, none⟩), .int .i64 x] W fun e W' => e = .returned (.tuple #[.int .i64 (belowN st x : Int), .bool (markedB st x)]) ∧ Below W.heap.size W W' := by
  have C := hid (search_any h.row h.up h.len x)
  have c2 := h.c2
  obtain ⟨a, c, rfl⟩ := h.row.form
  clear h
  go_enter Tryd.func39, Tryd.ntmps39
  go_wp2_with fail
  refine C.out.mono ?_
  rintro e w' ⟨rfl, hb⟩
  have HB := hid hb
  clear hb C c2
  go_wp2_with fail
  go_ret2
  exact ⟨rfl, HB.out⟩
set_option maxHeartbeats 800000 in
theorem find_ok (h : Jn B W jb sv mv most st) (x : Int) (hm : markedB st x = true) :
    Calls Tryd.prog 36 #[.pointer (some ⟨jb, 0, none⟩), .int .i64 x] W fun e W' => e = .returned (.tuple #[.int .i64 (belowN st x : Int), .nilIface]) ∧ Below W.heap.size W W' := by
  have C := hid (place_any h x)
  rw [hm] at C
  clear h hm
  go_enter Tryd.func36, Tryd.ntmps36
  go_wp2_with fail
  refine C.out.mono ?_
  rintro e w' ⟨rfl, hb⟩
  have HB := hid hb
  clear hb C
  go_wp2_with fail
  go_ret2
  exact ⟨rfl, HB.out⟩
set_option maxHeartbeats 800000 in
theorem find_bad (h : Jn B W jb sv mv most st) (hE : Env8 W Ad) (x : Int) (hm : markedB st x = false) :
    Calls Tryd.prog 36 #[.pointer (some ⟨jb, 0, none⟩), .int .i64 x] W fun e W' => e = .returned (.tuple #[.int .i64 0, .iface 130 (.pointer (some (Ad 16)))]) ∧ Below W.heap.size W W' := by
  have C := hid (place_any h x)
  rw [hm] at C
  have HE := hid hE
  clear h hm hE
  go_enter Tryd.func36, Tryd.ntmps36
  go_wp2_with fail
  refine C.out.mono ?_
  rintro e w' ⟨rfl, hb⟩
  have c16 := (HE.out.later hb).k16
  have HB := hid hb
  clear hb C
  go_wp2_with fail
  go_quiet (fail)
  go_wp2_with fail
  go_ret2
  exact ⟨rfl, HB.out.trans ((drewN_below _ _).mono HB.out.size)⟩
set_option maxHeartbeats 800000 in
theorem find_nil (hE : Env8 W Ad) (x : Int) :
    Calls Tryd.prog 36 #[.pointer none, .int .i64 x] W fun e W' => e = .returned (.tuple #[.int .i64 0, .iface 130 (.pointer (some (Ad 2)))]) ∧ Below W.heap.size W W' := by
  have c2 := hE.k2
  clear hE
  go_enter Tryd.func36, Tryd.ntmps36
  go_wp2_with fail
  go_quiet (fail)
  go_wp2_with fail
  go_ret2
  exact ⟨rfl, drewN_below _ _⟩
set_option maxHeartbeats 1600000 in
theorem about_any (u : Ue) (W : World) :
    Calls Tryd.prog 44 #[.agg #[.int .i64 u.k, .int .i64 u.id, .int .i64 u.p.c, .int .i64 u.p.v0, .int .i64 u.p.v1, .int .i64 u.p.v2, .int .i64 u.p.v3, .int .i64 u.p.t, u.pv, .int .i64 u.n, .int .i64 u.o]] W fun e W' => e = .returned (.agg #[.int .i64 (aboutM u).k, .int .i64 (aboutM u).id, .int .i64 (aboutM u).n]) ∧ Below W.heap.size W W' := by
  obtain ⟨k, id, p, pv, ps, n, o⟩ := u
  have R : Hid (aboutM ⟨k, id, p, pv, ps, n, o⟩ = if k = 1 ∨ k = 4 then ⟨k, id, p.c⟩ else if k = 2 then ⟨k, id, 0⟩ else if k = 6 then ⟨k, 0, n⟩ else ⟨k, 0, 0⟩) := rfl
  simp only
  by_cases h1 : k = 1
  · subst h1
    have R2 : Hid (aboutM ⟨1, id, p, pv, ps, n, o⟩ = ⟨1, id, p.c⟩) := by show _ = _; rw [R.out, if_pos (.inl rfl)]
    clear R
    go_enter Tryd.func44, Tryd.ntmps44
    go_wp2_with fail
    exact bodyPost_ret (v := .agg #[.int .i64 1, .int .i64 id, .int .i64 p.c]) (by simp [results, Tryd.f44, go_sem]) rfl ⟨by rw [R2.out], ((Below.refl _ _).alloc (Nat.le_refl _) _).alloc (by simp) _⟩
  · by_cases h4 : k = 4
    · subst h4
      have R2 : Hid (aboutM ⟨4, id, p, pv, ps, n, o⟩ = ⟨4, id, p.c⟩) := by show _ = _; rw [R.out, if_pos (.inr rfl)]
      clear R
      go_enter Tryd.func44, Tryd.ntmps44
      go_wp2_with fail
      exact bodyPost_ret (v := .agg #[.int .i64 4, .int .i64 id, .int .i64 p.c]) (by simp [results, Tryd.f44, go_sem]) rfl ⟨by rw [R2.out], ((Below.refl _ _).alloc (Nat.le_refl _) _).alloc (by simp) _⟩
    · by_cases h2 : k = 2
      · subst h2
        have R2 : Hid (aboutM ⟨2, id, p, pv, ps, n, o⟩ = ⟨2, id, 0⟩) := by show _ = _; rw [R.out, if_neg (by omega), if_pos rfl]
        clear R
        go_enter Tryd.func44, Tryd.ntmps44
        go_wp2_with fail
        exact bodyPost_ret (v := .agg #[.int .i64 2, .int .i64 id, .int .i64 0]) (by simp [results, Tryd.f44, go_sem]) rfl ⟨by rw [R2.out], ((Below.refl _ _).alloc (Nat.le_refl _) _).alloc (by simp) _⟩
      · by_cases h6 : k = 6
        · subst h6
          have R2 : Hid (aboutM ⟨6, id, p, pv, ps, n, o⟩ = ⟨6, 0, n⟩) := by show _ = _; rw [R.out, if_neg (by omega), if_neg (by omega), if_pos rfl]
          clear R
          go_enter Tryd.func44, Tryd.ntmps44
          go_wp2_with fail
          exact bodyPost_ret (v := .agg #[.int .i64 6, .int .i64 0, .int .i64 n]) (by simp [results, Tryd.f44, go_sem]) rfl ⟨by rw [R2.out], ((Below.refl _ _).alloc (Nat.le_refl _) _).alloc (by simp) _⟩
        · have R2 : Hid (aboutM ⟨k, id, p, pv, ps, n, o⟩ = ⟨k, 0, 0⟩) := by show _ = _; rw [R.out, if_neg (by omega), if_neg h2, if_neg h6]
          clear R
          have b1 : (k == 1) = false := by simp [h1]
          have b4 : (k == 4) = false := by simp [h4]
          have b2 : (k == 2) = false := by simp [h2]
          have b6 : (k == 6) = false := by simp [h6]
          go_enter Tryd.func44, Tryd.ntmps44
          go_wp2_with fail
          exact bodyPost_ret (v := .agg #[.int .i64 k, .int .i64 0, .int .i64 0]) (by simp [results, Tryd.f44, go_sem]) rfl ⟨by rw [R2.out], ((Below.refl _ _).alloc (Nat.le_refl _) _).alloc (by simp) _⟩
set_option maxHeartbeats 1600000 in
set_option maxRecDepth 100000 in
theorem has_m (h : Jn B W jb sv mv most st) {a : List Sx} {s : Sx} (hs : st = a ++ [s]) (m : Mat) (hm : m.ok) :
    Calls Tryd.prog 43 #[.pointer (some ⟨jb, 0, none⟩), .agg #[.int .i64 m.k, .int .i64 m.id, .int .i64 m.n]] W fun e W' => e = .returned (.bool (toldB s.l m)) ∧ Below W.heap.size W W' := by
  obtain ⟨mb, rfl, -⟩ := h.told a s hs
  obtain ⟨wa, hwa⟩ : ∃ wa, wa = W.alloc (.cells #[.int .i64 m.k, .int .i64 m.id, .int .i64 m.n] 104) := ⟨_, rfl⟩
  have hx : wa.heap[W.heap.size]? = some (.cells #[.int .i64 m.k, .int .i64 m.id, .int .i64 m.n] 104 (0, 0)) := by rw [hwa]; exact heap_alloc_new W _
  have BA : Hid (Below W.heap.size W wa) := by rw [hwa]; exact bAl _ _
  have KK : Hid (∀ W', Below wa.heap.size wa W' → W'.cell? ⟨jb, 3, none⟩ = some (.map (some mb)) ∧ W'.cell? ⟨W.heap.size, 0, none⟩ = some (.int .i64 m.k) ∧ W'.cell? ⟨W.heap.size, 1, none⟩ = some (.int .i64 m.id) ∧ W'.cell? ⟨W.heap.size, 2, none⟩ = some (.int .i64 m.n) ∧ (Instr.lookup 66 (.map (some mb)) (.agg #[.int .i64 m.k, .int .i64 m.id, .int .i64 m.n]) true).run Tryd.prog W' = .ok (.tuple #[.agg #[], .bool (toldB s.l m)]) W') := by
    intro W' hb
    have h' := (h.later BA.out).later hb
    obtain ⟨mb', e, hM⟩ := h'.told a s hs
    obtain rfl : mb = mb' := by simpa using e
    have hx' := blk_seen hb (Nat.le_refl _) hx
    exact ⟨h'.c3, cell_blk hx' rfl, cell_blk hx' rfl, cell_blk hx' rfl, hM.look m hm⟩
  generalize toldB s.l m = res at *
  clear h hm hx hs
  have HWA := hid hwa
  clear hwa
  go_enter Tryd.func43, Tryd.ntmps43
  go_wp2_with fail
  rw [← HWA.out]
  go_region_held3 (fun W' => W'.cell? ⟨jb, 3, none⟩ = some (.map (some mb)) ∧ W'.cell? ⟨W.heap.size, 0, none⟩ = some (.int .i64 m.k) ∧ W'.cell? ⟨W.heap.size, 1, none⟩ = some (.int .i64 m.id) ∧ W'.cell? ⟨W.heap.size, 2, none⟩ = some (.int .i64 m.n) ∧ (Instr.lookup 66 (.map (some mb)) (.agg #[.int .i64 m.k, .int .i64 m.id, .int .i64 m.n]) true).run Tryd.prog W' = .ok (.tuple #[.agg #[], .bool res]) W')
    (first | exact KK.out _ (Below.refl _ _).drew | exact KK.out _ ((Below.refl _ _).drew.alloc (by simp) _)) (fail)
  all_goals go_wp2_with fail
  all_goals go_ret
  all_goals exact ⟨rfl, (BA.out.alloc BA.out.size _).drew⟩
end
end Go.Proofs.YtnbgjbdbbmpoaaaDoor.Jo
