/- The document's badges: ID, Turn. -/
import Derived.Test.YtiebbedpjogjfaaDoorBdCc
import Derived.Test.YtiebbedpjogjfaaDoorBdBn
namespace Go.Proofs.YtiebbedpjogjfaaDoor.Bd
open Go.RowKit Go.Shelf Go.Maps
section
variable {B : Nat} {W W' : World} {v : Value} {l : Prs} {ub : Nat} {n : Int}
set_option maxHeartbeats 1600000 in
set_option maxRecDepth 100000 in
theorem rid_any (h : Rb B W ub v n l) (i g : Int) (hi : I64 i) (hg : I64 g) (h64 : ∀ x ∈ l, I64 x.2.1 ∧ I64 x.2.2) (hl : l.length ≤ 1000) :
    Calls Tryd.prog 18 #[.pointer (some ⟨ub, 0, none⟩), .agg #[.int .i64 i, .int .i64 g]] W fun e W' => e = .returned (.tuple #[.int .i64 ((num l (i, g)).getD 0), .bool (num l (i, g)).isSome]) ∧ Below W.heap.size W W' := by
  obtain ⟨w1, hw1⟩ : ∃ w1, w1 = W.alloc (.cells #[.int .i64 i, .int .i64 g] 29) := ⟨_, rfl⟩
  have b1 : Below W.heap.size W w1 := by rw [hw1]; exact bAl _ _
  have r1 : w1.heap[W.heap.size]? = some (.cells #[.int .i64 i, .int .i64 g] 29 (0, 0)) := by rw [hw1]; exact heap_alloc_new W _
  have H := hid (h.later b1)
  obtain ⟨a, c, rfl⟩ := h.row.slice
  have hli : (l.length : Int) ≤ 1000 := by omega
  have HW1 := hid hw1
  have B1 := hid b1
  have R1 := hid r1
  have H6 := hid h64
  have HI := hid hi
  have HG := hid hg
  clear h hw1 b1 r1 h64 hi hg
  go_enter Tryd.func18, Tryd.ntmps18
  go_upto_region 1 with fail
  rw [← HW1.out]
  go_wp2_with fail
  go_loopg [6] l.length (fun gh ix wr => ∃ k : Nat, k ≤ l.length ∧ gh = l.length - k ∧ ix = .int .i64 (k : Int) ∧ Hid ((l.take k).find? (fun x => x.2 == (i, g)) = none) ∧ Hid (Below w1.heap.size w1 wr))
  case atStart => exact ⟨0, Nat.zero_le _, rfl, rfl, by show _ = _; simp, Below.refl _ _⟩
  case round =>
    rename World => wr
    obtain ⟨k, hk, rfl, rfl, HK, HB⟩ := hrel
    have HR := hid (H.out.later HB.out)
    have c0 := HR.out.c0
    by_cases hlt : k < l.length
    · have hki : (k : Int) < (l.length : Int) := by omega
      obtain ⟨p, hp⟩ := at_lt l k hlt
      obtain ⟨b, rfl, -⟩ := HR.out.row.at hp
      have KK : Hid (∀ W', Below wr.heap.size wr W' → W'.cell? ⟨ub, 0, none⟩ = some (.slice (some ⟨b, 0, none⟩) l.length c) ∧ W'.cell? ⟨b, k * 3 + 1, none⟩ = some (.int .i64 p.2.1) ∧ W'.cell? ⟨b, k * 3 + 2, none⟩ = some (.int .i64 p.2.2) ∧ W'.cell? ⟨W.heap.size, 0, none⟩ = some (.int .i64 i) ∧ W'.cell? ⟨W.heap.size, 1, none⟩ = some (.int .i64 g)) := fun W' hb => by
        have H' := HR.out.later hb
        obtain ⟨b', e, thr⟩ := H'.row.at hp
        obtain rfl : b = b' := by simpa using e
        have r := blk_seen (HB.out.trans (hb.mono HB.out.size)) (Nat.le_refl _) R1.out
        exact ⟨H'.c0, thr.c1, thr.c2, cell_blk r rfl, cell_blk r rfl⟩
      have D0 : Hid (∀ W', Below wr.heap.size wr W' → W'.cell? ⟨b, k * 3, none⟩ = some (.int .i64 p.1)) := fun W' hb => by
        obtain ⟨b', e, thr⟩ := (HR.out.later hb).row.at hp
        obtain rfl : b = b' := by simpa using e
        exact thr.c0
      have hm := H6.out p (List.mem_of_getElem? hp)
      have EQ := eql_ent p.2.1 p.2.2 i g hm.1 hm.2 HI.out HG.out
      by_cases hc : p.2.1 = i ∧ p.2.2 = g
      · have E : Hid (num l (i, g) = some p.1) := by
          show _ = _
          unfold num
          rw [find_hit HK.out hp (by simp [Prod.ext_iff, hc])]
          rfl
        rw [decide_eq_true hc] at EQ
        clear hc hp hm
        go_upto_region 4 with fail
        go_region_held3 (fun W' => W'.cell? ⟨ub, 0, none⟩ = some (.slice (some ⟨b, 0, none⟩) l.length c) ∧ W'.cell? ⟨b, k * 3 + 1, none⟩ = some (.int .i64 p.2.1) ∧ W'.cell? ⟨b, k * 3 + 2, none⟩ = some (.int .i64 p.2.2) ∧ W'.cell? ⟨W.heap.size, 0, none⟩ = some (.int .i64 i) ∧ W'.cell? ⟨W.heap.size, 1, none⟩ = some (.int .i64 g))
          (first | exact KK.out _ (Below.refl _ _).drew | exact KK.out _ (Below.refl _ _)) (fail)
        have d0 := D0.out _ (Below.refl _ _).drew
        have cc := (KK.out _ (Below.refl _ _).drew).1
        have BF := hid (B1.out.trans ((HB.out.drew).mono B1.out.size))
        go_wp2_with fail
        rw [E.out]
        exact bodyPost_ret (v := .tuple #[.int .i64 p.1, .bool true]) (by simp [results, Tryd.results18, go_sem]) rfl ⟨rfl, BF.out⟩
      · have E := hid (find_miss HK.out hp (by simp [Prod.ext_iff]; intro q r; exact hc ⟨q, r⟩))
        rw [decide_eq_false hc] at EQ
        clear hc hp hm
        go_upto_region 4 with fail
        go_region_held3 (fun W' => W'.cell? ⟨ub, 0, none⟩ = some (.slice (some ⟨b, 0, none⟩) l.length c) ∧ W'.cell? ⟨b, k * 3 + 1, none⟩ = some (.int .i64 p.2.1) ∧ W'.cell? ⟨b, k * 3 + 2, none⟩ = some (.int .i64 p.2.2) ∧ W'.cell? ⟨W.heap.size, 0, none⟩ = some (.int .i64 i) ∧ W'.cell? ⟨W.heap.size, 1, none⟩ = some (.int .i64 g))
          (first | exact KK.out _ (Below.refl _ _).drew | exact KK.out _ (Below.refl _ _)) (fail)
        have BF := hid HB.out.drew
        go_wp2_with fail
        go_roundg (l.length - (k + 1))
        case measure => omega
        case rel => exact ⟨k + 1, by omega, rfl, by go_num, E.out, BF.out⟩
    · have hki : ¬ ((k : Int) < (l.length : Int)) := by omega
      have E : Hid (num l (i, g) = none) := by
        show _ = _
        unfold num
        rw [← List.take_of_length_le (i := k) (l := l) (by omega), HK.out]
        rfl
      have BF := hid (B1.out.trans (HB.out.mono B1.out.size))
      go_wp2_with fail
      rw [E.out]
      exact bodyPost_ret (v := .tuple #[.int .i64 0, .bool false]) (by simp [results, Tryd.results18, go_sem]) rfl ⟨rfl, BF.out⟩
end
end Go.Proofs.YtiebbedpjogjfaaDoor.Bd
