/- A part of StoreExact. -/
import Derived.Test.YtnlcbheidiigaaaGreatDoorRsGj
namespace Go.Proofs.YtnlcbheidiigaaaGreatDoor
namespace Rs
open Go.RowKit Go.Shelf Go.Maps
open At (St bAl cell_blk blk_seen)
theorem Sb.turn_roll {B : Nat} {W W' : World} {ub : Nat} {x : SV} {s : SD} (h : Sb B W ub x s) {fv' : Value} {t' : Nat} {r' : Ro.RS} (hr : Ro.Rr B W' x.rb x.gb x.ib fv' t' r') (hs : St (Ro.Fu x.rb x.gb x.ib x.fv) W W') (hn : ∀ k, fv'.ownBlock = some k → x.fv.ownBlock = some k ∨ W.heap.size ≤ k) :
  Gs B W ub x W' { x with fv := fv', t := t' } { s with r := r' } := by
 have hB : Below B W W' := hs.below (fun k hk => (h.roll.lt k hk).1) h.big
 refine ⟨⟨hs.at h.box fun e => (h.apart e).1 rfl, h.low, h.wd.move hB, h.vb, h.okw, hr, h.n1, h.n2, fun j u q hu hq => (h.rows j u q hu hq).kept hs fun k hk e => (h.apart e).2.1 u (List.mem_of_getElem? hu) hk, h.okp, h.sets.kept hs fun k hk e => (h.apart e).2.2 hk⟩, ?_, ?_⟩
 ·exact ⟨hs.os, hs.tape, hs.output, hs.size, fun k h1 h2 => hs.block k h1 fun e => h2 (.inr (.inl e))⟩
 ·rintro k (rfl | hk | hk | hk)
  ·exact .inl (.inl rfl)
  ·rcases hk with rfl | rfl | rfl | hk
   ·exact .inl (.inr (.inl (.inl rfl)))
   ·exact .inl (.inr (.inl (.inr (.inl rfl))))
   ·exact .inl (.inr (.inl (.inr (.inr (.inl rfl)))))
   ·rcases hn k hk with q | q
    ·exact .inl (.inr (.inl (.inr (.inr (.inr q)))))
    ·exact .inr q
  ·exact .inl (.inr (.inr (.inl hk)))
  ·exact .inl (.inr (.inr (.inr hk)))
set_option maxHeartbeats 1600000 in
set_option maxRecDepth 100000 in
theorem despawn_dead {B : Nat} {W : World} {ub : Nat} {x : SV} {s : SD} (h : Sb B W ub x s) (i g : Int) (ha : s.r.aliveB i g = false) :
  Calls Tryz.prog 19 #[.pointer (some ⟨ub, 0, none⟩), .agg #[.int .i64 i, .int .i64 g]] W fun e W' => e = .returned (.tuple #[.slice none 0 0, .int .i64 17]) ∧ Below W.heap.size W W' := by
 have BA := hid (bAl W (.cells #[.int .i64 i, .int .i64 g] 43))
 have h2 := h.later BA.out
 have FD := hid (fun (W' : World) (hb : Below (W.alloc (.cells #[.int .i64 i, .int .i64 g] 43)).heap.size (W.alloc (.cells #[.int .i64 i, .int .i64 g] 43)) W') => Ro.rfree_dead (h2.later hb).roll i g ha)
 have c2 := h2.c2
 obtain ⟨W2, hW2⟩ : ∃ W2, W2 = W.alloc (.cells #[.int .i64 i, .int .i64 g] 43) := ⟨_, rfl⟩
 have e0 : W2.cell? ⟨W.heap.size, 0, none⟩ = some (.int .i64 i) := by rw [hW2]; exact cell_blk (heap_alloc_new W _) rfl
 have e1 : W2.cell? ⟨W.heap.size, 1, none⟩ = some (.int .i64 g) := by rw [hW2]; exact cell_blk (heap_alloc_new W _) rfl
 rw [← hW2] at c2 FD BA
 have HW2 := hid hW2
 clear h ha h2 hW2
 go_enter Tryz.func19, Tryz.ntmps19
 go_wp2_with fail
 rw [← HW2.out]
 go_region_held3 (fun W' => W'.cell? ⟨ub, 2, none⟩ = some (.pointer (some ⟨x.rb, 0, none⟩)) ∧ W'.cell? ⟨W.heap.size, 0, none⟩ = some (.int .i64 i) ∧ W'.cell? ⟨W.heap.size, 1, none⟩ = some (.int .i64 g)) (go_keep) (first | (go_at_call 75; refine (FD.out _ (Below.refl _ _).drew).mono ?_; rintro e w3 ⟨rfl, hb3⟩; have d2 := At.seen (W := W2.drew) hb3 (Nat.le_refl _) c2; have f0 := At.seen (W := W2.drew) hb3 (Nat.le_refl _) e0; have f1 := At.seen (W := W2.drew) hb3 (Nat.le_refl _) e1))
 have HB := hid (BA.out.trans (((Below.refl _ W2).drew.trans hb3).mono BA.out.size))
 clear hb3 FD d2 f0 f1
 go_wp2_with fail
 exact bodyPost_ret (v := .tuple #[.slice none 0 0, .int .i64 17]) (by simp [results, Tryz.results19, go_sem]) rfl ⟨rfl, by first | exact HB.out | exact HB.out.drew | exact HB.out.drew.drew⟩
set_option maxHeartbeats 1600000 in
set_option maxRecDepth 100000 in
theorem despawn_alive {B : Nat} {W : World} {ub : Nat} {x : SV} {s : SD} (h : Sb B W ub x s) (k : Nat) (g : Int) (ha : s.r.aliveB (k : Int) g = true) :
  Calls Tryz.prog 19 #[.pointer (some ⟨ub, 0, none⟩), .agg #[.int .i64 (k : Int), .int .i64 g]] W fun e W' => ∃ v, e = .returned (.tuple #[v, .int .i64 0]) ∧ ∃ x', x'.pv = x.pv ∧ x.pv[k]? = some v ∧ Gs B W ub x W' x' { s with r := s.r.freed k } := by
 have BA := hid (bAl W (.cells #[.int .i64 (k : Int), .int .i64 g] 43))
 obtain ⟨W2, hW2⟩ : ∃ W2, W2 = W.alloc (.cells #[.int .i64 (k : Int), .int .i64 g] 43) := ⟨_, rfl⟩
 have k0 : W2.heap[W.heap.size]? = some (.cells #[.int .i64 (k : Int), .int .i64 g] 43 (0, 0)) := by rw [hW2]; exact heap_alloc_new W _
 rw [← hW2] at BA
 have h2 := h.later BA.out
 have c2 := h2.c2
 have e0 : W2.cell? ⟨W.heap.size, 0, none⟩ = some (.int .i64 (k : Int)) := cell_blk k0 rfl
 have e1 : W2.cell? ⟨W.heap.size, 1, none⟩ = some (.int .i64 g) := cell_blk k0 rfl
 obtain ⟨k', hk', hkn⟩ := alive_lt ha
 obtain rfl : k = k' := by omega
 have hk64 : k < 64 := by have := h.roll.small; omega
 have hki : (k : Int) < 64 := by omega
 obtain ⟨v, hv, cv, -, -⟩ := h2.place hk64
 have FA : Hid (∀ W', Below W2.heap.size W2 W' → Calls Tryz.prog 75 #[.pointer (some ⟨x.rb, 0, none⟩), .agg #[.int .i64 (k : Int), .int .i64 g]] W' fun e w => e = .returned (.int .i64 0) ∧ (∃ x', Hid (x'.pv = x.pv) ∧ Hid (Gs B W ub x w x' { s with r := s.r.freed k })) ∧ w.cell? ⟨ub, 2, none⟩ = some (.pointer (some ⟨x.rb, 0, none⟩)) ∧ w.cell? ⟨W.heap.size, 0, none⟩ = some (.int .i64 (k : Int)) ∧ w.cell? ⟨W.heap.size, 1, none⟩ = some (.int .i64 g) ∧ w.cell? ⟨ub, 3 + k, none⟩ = some v) := fun W' hb => by
  have h3 := h2.later hb
  refine (Ro.rfree_alive h3.roll k g ha).mono ?_
  rintro e w ⟨rfl, fv', q1, ⟨y, q2, q3⟩, q4⟩
  have G := h3.turn_roll q1 (ro_st q4) (fun j hj => by rw [q2] at hj; simp at hj; exact .inr (by omega))
  have kk : w.heap[W.heap.size]? = _ := q4.at (blk_seen hb (Nat.le_refl _) k0) fun e => by have := (h.roll.lt _ e).2; omega
  exact ⟨rfl, ⟨{ x with fv := fv' }, rfl, (Gs.stay h (BA.out.trans (hb.mono BA.out.size))).then G⟩, G.sb.c2, cell_blk kk rfl, cell_blk kk rfl, G.sb.cp hv⟩
 have HW2 := hid hW2
 have HV := hid hv
 clear h ha h2 hW2 hk' hkn k0 hv
 go_enter Tryz.func19, Tryz.ntmps19
 go_wp2_with fail
 rw [← HW2.out]
 go_region_held3 (fun W' => W'.cell? ⟨ub, 2, none⟩ = some (.pointer (some ⟨x.rb, 0, none⟩)) ∧ W'.cell? ⟨W.heap.size, 0, none⟩ = some (.int .i64 (k : Int)) ∧ W'.cell? ⟨W.heap.size, 1, none⟩ = some (.int .i64 g)) (go_keep) (first | (go_at_call 75; refine (FA.out _ (Below.refl _ _).drew).mono ?_; rintro e w3 ⟨rfl, ⟨x3, p3, g3⟩, d2, f0, f1, dv⟩))
 clear FA c2 e0 e1 cv d2 f1 HW2 BA
 go_wp2_with fail
 go_region_held3 (fun W' => W'.cell? ⟨W.heap.size, 0, none⟩ = some (.int .i64 (k : Int)) ∧ W'.cell? ⟨ub, 3 + k, none⟩ = some v) (go_keep) (fail)
 go_wp2_with fail
 exact bodyPost_ret (v := .tuple #[v, .int .i64 0]) (by simp [results, Tryz.results19, go_sem]) rfl ⟨_, rfl, x3, p3.out, HV.out, g3.out.then (Gs.stay g3.out.sb (by first | exact Below.refl _ _ | exact (Below.refl _ _).drew | exact (Below.refl _ _).drew.drew))⟩
end Rs
end Go.Proofs.YtnlcbheidiigaaaGreatDoor
