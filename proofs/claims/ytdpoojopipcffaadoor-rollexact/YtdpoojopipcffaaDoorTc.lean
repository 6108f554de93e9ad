/- The document's roll: Free, List, Same. -/
import Derived.Test.YtdpoojopipcffaaDoorTb
namespace Go.Proofs.YtdpoojopipcffaaDoor
open Go.RowKit Go.Shelf Go.Maps
set_option maxHeartbeats 800000 in
set_option maxRecDepth 100000 in
theorem rfree_dead {B : Nat} {W : World} {ub gb ib t : Nat} {fv : Value} {r : RS} (h : Rr B W ub gb ib fv t r) (i g : Int) (ha : r.aliveB i g = false) :
    Calls Tryd.prog 14 #[.pointer (some ⟨ub, 0, none⟩), .agg #[.int .i64 i, .int .i64 g]] W fun e W' => e = .returned (.int .i64 17) ∧ Below W.heap.size W W' := by
  have BA := hid (bAl W (.cells #[.int .i64 i, .int .i64 g] 24))
  have AL := hid (ralive_any (h.later BA.out) i g)
  rw [ha] at AL
  clear h ha
  go_enter Tryd.func14, Tryd.ntmps14
  go_wp2_with fail
  refine AL.out.mono ?_
  rintro e w1 ⟨rfl, hb⟩
  have HB := hid (BA.out.trans (hb.mono BA.out.size))
  clear hb AL
  go_wp2_with fail
  go_ret
  exact ⟨rfl, HB.out⟩
set_option maxHeartbeats 1600000 in
set_option maxRecDepth 100000 in
theorem rlist_any {B : Nat} {W : World} {ub gb ib t : Nat} {fv : Value} {r : RS} (h : Rr B W ub gb ib fv t r) :
    Calls Tryd.prog 17 #[.pointer (some ⟨ub, 0, none⟩)] W fun e W' => ∃ v, e = .returned v ∧ Ents W.heap.size W' v r.all ∧ Below W.heap.size W W' := by
  have H := hid h
  have hn64 : (r.gens.length : Int) ≤ 64 := by have := h.small; omega
  obtain ⟨n, hn⟩ : ∃ n, n = r.gens.length := ⟨_, rfl⟩
  have HN := hid hn
  rw [← hn] at hn64
  have E0 : Hid (Ents W.heap.size (W.alloc (.cells #[] 24)) (.slice (some ⟨W.heap.size, 0, none⟩) 0 0) (r.upto 0)) := World.ownsRow_lit W #[] 0 (Nat.le_refl _) (Nat.zero_le _) rfl
  have B0 := hid (bAl W (.cells #[] 24))
  clear h hn
  go_enter Tryd.func17, Tryd.ntmps17
  go_wp2_with fail
  go_loopw [3, 4] (fun lv i wr => ∃ k : Nat, k ≤ n ∧ i = .int .i64 (k : Int) ∧ Hid (Ents W.heap.size wr lv (r.upto k)) ∧ Hid (Below W.heap.size W wr)) (fun _ i _ => n - (intOf i).toNat)
  case atStart => exact ⟨0, Nat.zero_le _, rfl, E0.out, B0.out⟩
  case round =>
    obtain ⟨k, hk, rfl, HL, HB⟩ := hrel
    clear E0 B0
    have R1 := hid (H.out.later HB.out)
    have c0 := R1.out.c0
    have c1 := R1.out.c1
    rw [← HN.out] at c0 c1
    by_cases hlt : k < n
    · have hki : (k : Int) < (n : Int) := by omega
      have hkn : k < r.gens.length := by rw [← HN.out]; exact hlt
      have cg := R1.out.cg hkn
      have ci := R1.out.ci hkn
      have hul : (r.upto k).length ≤ 1000 := by have := r.upto_len k; omega
      have hw1 : W.heap.size ≤ wr.heap.size := HB.out.size
      obtain ⟨la, lc, rfl⟩ := Ents.slice HL.out
      by_cases hm : k ∈ r.free
      · have e1 : decide (k ∉ r.free) = false := by simpa using hm
        rw [e1] at ci
        have e2 : Hid (r.upto (k + 1) = r.upto k) := by show r.upto (k + 1) = _; rw [RS.upto, if_pos hm]
        clear e1 hm
        go_wp2_with fail
        go_roundw
        case rel => exact ⟨k + 1, by omega, by go_num, by rw [e2.out]; exact HL.out, HB.out⟩
        case measure => simp [intOf]; omega
      · have e1 : decide (k ∉ r.free) = true := by simpa using hm
        rw [e1] at ci
        have e2 : Hid (r.upto (k + 1) = r.upto k ++ [(k, r.gens.getD k 0)]) := by show r.upto (k + 1) = _; rw [RS.upto, if_neg hm]
        generalize r.gens.getD k 0 = g at *
        clear e1 hm
        go_wp2_with (at_builtin; refine wpList_ent rfl _ _ rfl HL.out hul hw1 rfl rfl ?_; intro v' w2 ho hst hat)
        have b2 : Hid (Below W.heap.size W w2) := HB.out.trans (hst.out.below (fun x hx => (World.ownsRow.lt HL.out x hx).1) hw1)
        exact ⟨⟨k + 1, by omega, by go_num, by rw [e2.out]; exact ho.out, b2.out⟩, by simp [intOf]; omega⟩
    · have hki : ¬ ((k : Int) < (n : Int)) := by omega
      have e1 : Hid (r.upto k = r.all) := by show r.upto k = r.upto _; rw [← HN.out, show k = n by omega]
      go_wp2_with fail
      go_ret
      exact ⟨_, rfl, by rw [← e1.out]; exact HL.out, HB.out⟩
set_option maxHeartbeats 1600000 in
set_option maxRecDepth 100000 in
theorem same_any {B B' : Nat} {W : World} {v u : Value} {l : List (Nat × Nat)} (h : Ents B W v l) (h' : Ents B' W u l) (hl : l.length ≤ 1000) (hs : ∀ p ∈ l, p.1 ≤ 1000 ∧ p.2 ≤ 1000) :
    Calls Tryd.prog 18 #[v, u] W fun e W' => e = .returned (.bool true) ∧ Below W.heap.size W W' := by
  obtain ⟨va, vc, rfl⟩ := h.slice
  obtain ⟨ua, uc, rfl⟩ := h'.slice
  have H := hid h
  have H' := hid h'
  have HS := hid hs
  have hli : (l.length : Int) ≤ 1000 := by omega
  clear h h' hs
  go_enter Tryd.func18, Tryd.ntmps18
  go_wp2_with fail
  go_loopw [5] (fun i wr => ∃ k : Nat, k ≤ l.length ∧ i = .int .i64 (k : Int) ∧ Hid (Below W.heap.size W wr)) (fun i _ => l.length - (intOf i).toNat)
  case atStart => exact ⟨0, Nat.zero_le _, rfl, Below.refl _ _⟩
  case round =>
    obtain ⟨k, hk, rfl, HB⟩ := hrel
    by_cases hlt : k < l.length
    · have hki : (k : Int) < (l.length : Int) := by omega
      obtain ⟨g, rfl, -, -⟩ := H.out.some (by omega)
      obtain ⟨g', rfl, -, -⟩ := H'.out.some (by omega)
      obtain ⟨p, hp⟩ := at_lt l k hlt
      obtain ⟨d0, d1⟩ := (H.out.later HB.out).cell hp
      obtain ⟨f0, f1⟩ := (H'.out.later HB.out).cell hp
      have hps := HS.out p (List.mem_of_getElem? hp)
      have heq := neq_ent (p.1 : Int) (p.2 : Int) (p.1 : Int) (p.2 : Int) (I64_small (by omega) (by omega)) (I64_small (by omega) (by omega)) (I64_small (by omega) (by omega)) (I64_small (by omega) (by omega))
      rw [decide_eq_true ⟨rfl, rfl⟩] at heq
      simp only [Bool.not_true] at heq
      clear hp hps
      go_wp2_with fail
      go_quiet (fail)
      go_wp2_with fail
      exact ⟨⟨k + 1, by omega, by go_num, HB.out.trans (drewN_below _ _ _)⟩, by simp [intOf]; omega⟩
    · have hki : ¬ ((k : Int) < (l.length : Int)) := by omega
      go_wp2_with fail
      go_ret
      exact ⟨rfl, HB.out⟩
end Go.Proofs.YtdpoojopipcffaaDoor
