/- Contract: the answers that the document fixes by number. -/
import Derived.Test.YthngdaeiopgigaaDoorIs
import Derived.Deep.RegionHeld3
import Derived.Deep.DrawnRows
namespace Go.Proofs.YthngdaeiopgigaaDoor
open Go.ChangeShapes Go.WideShapes Go.ChangeAt Go.RowKit
attribute [local go_sem ↓] Go.wp_at_zero Go.wp_at_succ
/-- The sentinels that the calls name. -/
structure Env (w : World) (aF aA aL aN : Addr) : Prop where
  c0 : w.cell? ⟨0, 0, none⟩ = some (.iface 113 (.pointer (some aF)))
  c1 : w.cell? ⟨1, 0, none⟩ = some (.iface 113 (.pointer (some aA)))
  c2 : w.cell? ⟨2, 0, none⟩ = some (.iface 113 (.pointer (some aL)))
  c3 : w.cell? ⟨3, 0, none⟩ = some (.iface 113 (.pointer (some aN)))
theorem Env.below {w w' : World} {aF aA aL aN : Addr} (h : Env w aF aA aL aN) {B : Nat} (hB : 3 < B) (hb : Below B w w') : Env w' aF aA aL aN :=
  ⟨(hb.cell (p := ⟨0, 0, none⟩) (by simp; omega)).trans h.c0, (hb.cell (p := ⟨1, 0, none⟩) (by simp; omega)).trans h.c1, (hb.cell (p := ⟨2, 0, none⟩) (by simp; omega)).trans h.c2, (hb.cell (p := ⟨3, 0, none⟩) (by simp; omega)).trans h.c3⟩
theorem Env.lt {w : World} {aF aA aL aN : Addr} (h : Env w aF aA aL aN) : 3 < w.heap.size := World.block_lt_of_cell? w ⟨3, 0, none⟩ h.c3
theorem Env.wpre {w : World} {aF aA aL aN : Addr} (h : Env w aF aA aL aN) {st : WS} (hm : (st.most : Int) ≤ 9223372036854775807) (hl : st.len ≤ 1000000) : WPre w st aA aL := ⟨hm, hl, h.c1, h.c2, by have := h.lt; omega⟩
theorem Env.rpre {w : World} {aF aA aL aN : Addr} (h : Env w aF aA aL aN) {st : RS} (hl : st.rest.length ≤ 10000000) : RPre w st aF := ⟨hl, h.c0, by have := h.lt; omega⟩
/-- A writer that was made since the world w0. -/
structure WInv (w0 w : World) (b : Nat) (st : WS) : Prop where
  wr : Wr w b st
  bel : Below w0.heap.size w0 w
  ft : ∀ k, foot w b k → w0.heap.size ≤ k
theorem WInv.step {w0 w w' : World} {b : Nat} {st st' : WS} (h : WInv w0 w b st) (h1 : Wr w' b st') (h2 : Stp b w w') : WInv w0 w' b st' := by
  obtain ⟨h3, h4⟩ := h2.below h.bel.size h.ft
  exact ⟨h1, h.bel.trans h3, h4⟩
theorem WInv.new {w0 w w' : World} {b : Nat} {st : WS} (h : WInv w0 w b st) (hb : Below w.heap.size w w') : WInv w0 w' b st :=
  h.step (h.wr.new hb) (Stp.new hb h.wr.foots.lt)
structure RInv (w0 w : World) (b : Nat) (st : RS) : Prop where
  rd : Rd w b st
  bel : Below w0.heap.size w0 w
  ft : w0.heap.size ≤ b
theorem RInv.step {w0 w w' : World} {b : Nat} {st st' : RS} (h : RInv w0 w b st) (h1 : Rd w' b st') (h2 : Kp (fun k => k = b) w w') : RInv w0 w' b st' :=
  ⟨h1, h.bel.trans (h2.below h.bel.size (fun k hk => by rw [hk]; exact h.ft)), h.ft⟩
theorem RInv.new {w0 w w' : World} {b : Nat} {st : RS} (h : RInv w0 w b st) (hb : Below w.heap.size w w') : RInv w0 w' b st :=
  h.step (h.rd.new hb) (Kp.new hb)
theorem aw1 (aA aL : Addr) : (WS.ok 20 []).putB aA aL nmNum (some (grp (zig (-1)))) = .ok 20 [1] := by
  rw [show zig (-1) = 1 from by decide, grp_lt (by decide)]; rfl
theorem aw2 (aA aL : Addr) : (WS.ok 20 [1]).putB aA aL nmCount (encCount 300) = .ok 20 [1, 172, 2] := by
  rw [show encCount 300 = some (grp 300) from rfl, grp_ge (by decide), grp_lt (by decide)]; rfl
theorem aw3 (aA aL : Addr) : (WS.ok 20 [1, 172, 2]).putB aA aL nmText (some (grp (ByteArray.mk #[97, 98]).size ++ (ByteArray.mk #[97, 98]).data.toList)) = .ok 20 [1, 172, 2, 2, 97, 98] := by
  rw [show (ByteArray.mk #[97, 98]).size = 2 from rfl, grp_lt (by decide)]; rfl
theorem aw4 (aA aL : Addr) : (WS.ok 20 [1, 172, 2, 2, 97, 98]).putB aA aL nmFlags (some (packL [true, false, true])) = .ok 20 [1, 172, 2, 2, 97, 98, 5] := by
  rw [show packL [true, false, true] = [5] from by decide]; rfl
theorem aw5 (aF : Addr) : (RS.mk [128, 0] none).number nmCount aF 9223372036854775807 = (0, ⟨[128, 0], some (nmCount, aF)⟩) := by
  have h : ung [128, 0] = none := by decide
  simp [RS.number, h, RS.fail]
theorem bools3 (w : World) : Bools (w.alloc (.cells #[.bool true, .bool false, .bool true] 4)) (.slice (some ⟨w.heap.size, 0, none⟩) 3 3) [true, false, true] := by
  refine ⟨_, _, rfl, .inr ⟨w.heap.size, 0, rfl, fun j hj => ?_⟩⟩
  rw [blk_cell (blk_new _ _)]
  have : j = 0 ∨ j = 1 ∨ j = 2 := by simp at hj; omega
  obtain rfl | rfl | rfl := this <;> rfl
set_option maxHeartbeats 1600000 in
set_option maxRecDepth 100000 in
theorem awake_any (w : World) (aF aA aL aN : Addr) (hE : Env w aF aA aL aN) :
    Calls Tryd.prog 9 #[] w fun e w' => e = .returned (.bool true) ∧ Below w.heap.size w w' := by
  have h3 := hE.lt
  go_enter Tryd.func9, Tryd.ntmps9
  go_wp2_with fail
  refine (newWriter_any 20 _).mono ?_
  rintro e w1 ⟨rfl, hw1, hb1, hf1⟩
  have I1 : WInv w w1 w.heap.size (.ok 20 []) := ⟨hw1, hb1, hf1⟩
  have E1 := hE.below h3 hb1
  clear hw1 hb1 hf1
  go_wp2_with fail
  refine (num_any w.heap.size _ (-1) (by unfold I64; omega) aA aL _ I1.wr (E1.wpre (by simp [WS.most]) (by simp [WS.len]))).mono ?_
  rintro e w2 ⟨rfl, hw2, hs2⟩
  rw [aw1] at hw2
  have I2 := I1.step hw2 hs2
  have E2 := hE.below h3 I2.bel
  clear I1 E1 hw2 hs2
  go_wp2_with fail
  refine (count_any w.heap.size _ 300 (by unfold I64; omega) aA aL _ I2.wr (E2.wpre (by simp [WS.most]) (by simp [WS.len]))).mono ?_
  rintro e w3 ⟨rfl, hw3, hs3⟩
  rw [aw2] at hw3
  have I3 := I2.step hw3 hs3
  have E3 := hE.below h3 I3.bel
  clear I2 E2 hw3 hs3
  go_wp2_with fail
  refine (text_any w.heap.size _ ⟨#[97, 98]⟩ (by decide) aA aL _ I3.wr (E3.wpre (by simp [WS.most]) (by simp [WS.len]))).mono ?_
  rintro e w4 ⟨rfl, hw4, hs4⟩
  rw [aw3] at hw4
  have I4 := I3.step hw4 hs4
  have E4 := hE.below h3 I4.bel
  clear I3 E3 hw4 hs4
  go_wp2_with fail
  have hb5 : Below w4.heap.size w4 (w4.alloc (.cells #[.bool true, .bool false, .bool true] 4)) := (Below.refl _ _).alloc (Nat.le_refl _) _
  have I5 := I4.new hb5
  have E5 := hE.below h3 I5.bel
  refine (flags_any w.heap.size _ _ [true, false, true] (by decide) aA aL _ I5.wr (E5.wpre (by simp [WS.most]) (by simp [WS.len])) (bools3 _)).mono ?_
  rintro e w5 ⟨rfl, hw5, hs5⟩
  rw [aw4] at hw5
  have I6 := I5.step hw5 hs5
  clear I4 E4 I5 E5 hw5 hs5 hb5
  go_wp2_with fail
  refine (bytes_ok w.heap.size _ _ _ I6.wr).mono ?_
  rintro e w6 ⟨rfl, rfl⟩
  go_wp2_with fail
  refine (newReader_any _ _).mono ?_
  rintro e w7 ⟨rfl, hr7, hb7⟩
  have I7 : RInv w w7 w5.heap.size ⟨[128, 0], none⟩ := ⟨hr7, I6.bel.trans (hb7.mono I6.bel.size), I6.bel.size⟩
  have E7 := hE.below h3 I7.bel
  clear hr7 hb7 I6
  go_wp2_with fail
  refine (rcount_any _ _ aF _ I7.rd (E7.rpre (by simp))).mono ?_
  rw [aw5]
  rintro e w8 ⟨rfl, hr8, hk8⟩
  have I8 := I7.step hr8 hk8
  have E8 := hE.below h3 I8.bel
  clear I7 E7 hr8 hk8
  go_wp2_with fail
  have k0 := E8.c0
  have hsz8 : w.heap.size ≤ w8.heap.size := I8.bel.size
  have R8 := I8.rd
  have B8 := I8.bel
  clear I8 E8 hE
  go_region_held3 (fun w' => w'.cell? ⟨0, 0, none⟩ = some (.iface 113 (.pointer (some aF)))) (first | go_keep | assumption) (first | (go_at_call 20; refine (left_any w5.heap.size ⟨[128, 0], some (nmCount, aF)⟩ _ ?_).mono ?_; exact R8; rintro e w' ⟨rfl, rfl⟩) | (go_at_call 21; refine (end_bad w5.heap.size [128, 0] nmCount aF _ ?_).mono ?_; exact R8; rintro e w' ⟨v, rfl, ⟨g, rfl, hg⟩, hbel⟩; have k0' := (hbel.cell (p := ⟨0, 0, none⟩) (by simp; omega)).trans k0) | (go_at_call 22; refine (is_blame _ nmCount aF _ ?_).mono ?_; assumption; rintro e w' ⟨rfl, rfl⟩))
  all_goals go_wp2
  all_goals go_ret
  all_goals exact ⟨rfl, B8.trans ((show Below w8.heap.size w8 _ from ⟨hbel.os, hbel.tape, hbel.output, hbel.size, hbel.block⟩).mono hsz8)⟩
end Go.Proofs.YthngdaeiopgigaaDoor
